import PyProof.Rows.All
import Wide.All
import OpenK.AllK
import Wide.FinOn
import PySem.Challenge.RW_everydraw_k15_whole_what_lies_on_what
namespace EV
theorem z2 {α β} {P:α->β->Prop} {G:Prop} (h:∃ a b,P a b) (k:∀ a b,P a b->G):G:=h.elim λa h=>h.elim (k a)
theorem z3 {α β γ} {P:α->β-> γ ->Prop} {G:Prop} (h:∃ a b c,P a b c) (k:∀ a b c,P a b c->G):G:=h.elim λa h=>z2 h (k a)
theorem z4 {α β γ δ} {P:α->β-> γ -> δ ->Prop} {G:Prop} (h:∃ a b c d,P a b c d) (k:∀ a b c d,P a b c d->G):G:=h.elim λa h=>z3 h (k a)
theorem z5 {α β γ δ ε} {P:α->β-> γ -> δ -> ε ->Prop} {G:Prop} (h:∃ a b c d e,P a b c d e) (k:∀ a b c d e,P a b c d e->G):G:=h.elim λa h=>z4 h (k a)
theorem w2 {a b G:Prop} (h:a/\b) (k:a->b->G):G:=k h.1 h.2
theorem w3 {a b c G:Prop} (h:a/\b/\c) (k:a->b->c->G):G:=w2 h.2 (k h.1)
theorem w4 {a b c d G:Prop} (h:a/\b/\c/\d) (k:a->b->c->d->G):G:=w3 h.2 (k h.1)
theorem w5 {a b c d e G:Prop} (h:a/\b/\c/\d/\e) (k:a->b->c->d->e->G):G:=w4 h.2 (k h.1)
theorem w6 {a b c d e f G:Prop} (h:a/\b/\c/\d/\e/\f) (k:a->b->c->d->e->f->G):G:=w5 h.2 (k h.1)
theorem w7 {a b c d e f g G:Prop} (h:a/\b/\c/\d/\e/\f/\g) (k:a->b->c->d->e->f->g->G):G:=w6 h.2 (k h.1)
theorem w8 {a b c d e f g i G:Prop} (h:a/\b/\c/\d/\e/\f/\g/\i) (k:a->b->c->d->e->f->g->i->G):G:=w7 h.2 (k h.1)
end EV
set_option genSizeOf false
set_option Elab.async false
set_option linter.all false
set_option maxRecDepth 100000
open PySem.Str renaming ofString->Nr
open PySem renaming wpAny_bind->Nt,wpAny_pure->Nv,Spec->Oa,wpAny_mono->Oh,wpAny_newObj_type->OJ,wpAny_holding->ON,wpAny_rule->OO,wpAny_Call_Name_kw->O2,wpAny_call_entry->O4,wpAny_field->Pc,Builtin->Ph,wpAny_typeOf->Pk,wpAny_callSpecial?_slot->Pp,wpAny_setField_rec->P6,wpAny_passesOwn->Qc,wpAny_dictEntries->Qy,wpAny_dictEpoch->QA,wpAny_attempt->QC,call_meets->QG,mem_of_lookup->QN,wpAny_truthy_bool->QS,wpAny_setField->Q7,wpAny_newList->Q8,codeAny_mono->Rc,wpAny_typeNameOfWhole_itemiter->Rl,wpAny_typeNameOfWhole_keyiter->Rm,wpAny_typeNameOf_itemiter->Ro,wpAny_typeNameOf_keyiter->Rr,tupleKind_room_in1->RH,slot_list_getitem->RN,wpAny_isInstance->RU,codeAny_builtin->RZ,wpAny_fieldsOf->R1,concat_meets->Sa,wpAny_letGo->Sj,wpAny_getItem_list_slice->Sw,wpAny_isOneOf_itemiter->SE,evalArgs_none->SW,wpAny_pyIter_tuple->S3,wpAny_sequenceKey->Te,wpAny_pyIter_slot->Tf,wpAny_pyIter_list->Tg,wpAny_Call_method->Th,wpAny_eqBool_int->Tu,noFill_tuple_add->Tv
open PySem.W renaming Frag->Nu,nsIn->Ox,mg_none_of->OA,keepIn->Pa,fnOf->Pn,findIn->Pw,codeIn->R5,callWith_K->S6,specialIn->Ti,methodObj->Tj
open Nat renaming le_refl->Ny,le_trans->NI,zero_le->N1,ne_of_lt->N4,lt_of_lt_of_le->Ol,lt_irrefl->OW,lt_of_le_of_lt->Pg,mul_le_mul->Px,zero_add->PF,le_of_lt->PJ,lt_succ_self->P9,succ_mul->QD,ne_of_gt->QE,min_eq_left->QY,le_of_ble_eq_true->RA,pow_le_pow_right->RC,le_sub_one_of_lt->RD,lt_succ_of_lt->RO,succ_le_succ->RV,le_add_right->RW,one_le_iff_ne_zero->SH,add_sub_cancel'->SX
open PyProof.Rows renaming wpS_bind->Nz,wpS_pure->NB,wpS_mono->Ob,wpS_forRange->OB,listUpdate_at->OV,wpS_get->OX,wpS_modify->O6,listItems_at->PD,wpS_lift->PX,slot_tuple_getitem->Qj,seqEpoch_at->QF,callWith_type1->QJ,plain_sorted->Ra,entry_sorted->Rb,mirror_perm->Rg,kind_sorted->Rh,Subscript_->Rj,call_function_entry_kw->Rx,get?_update_seq->RY,callWith_kw->Sk,wpAny_call_entry_kw->SS,callWith_builtin1->TX
open PySem.Heap renaming get?_push_of_some->NC,lt_size->NG,get?_push_size->NL,SameBut->O3,get?_update_ne->Pf,size_push->Py,ExtBut->PN,get?_update_other->Ry,size_update->TJ
open List renaming length_map->ND,map_cons->NF,getElem?_eq_some_iff->NJ,mem_cons_of_mem->NK,mem_singleton->NN,getElem?_map->NO,mem_cons_self->NP,size_toArray->NR,mem_cons->NU,getElem?_eq_getElem->NX,replicate->NY,mem_append->N3,length_append->N5,range->N6,append_assoc->N7,length_cons->Oe,mem_map->Of,map_map->Og,getElem_mem->Om,map_append->Oq,length_take->Ow,append_nil->OD,getD_eq_getElem?_getD->OG,take_length->OM,getElem?_set_self->OP,mem_append_right->OQ,getElem?_set_ne->OR,filterMap_cons->OS,foldl_cons->OT,take_succ_eq_append_getElem->OY,length_nil->OZ,find?_cons->O0,mem_of_getElem?->O1,length_singleton->O7,getElem?_eq_none->O8,replicate_succ->O9,map_nil->Pb,take_append_drop->Pd,map_congr_left->Pe,nodup_cons->Pu,length->PK,getElem?_append_left->PZ,filter_cons_of_pos->P0,take_of_length_le->P1,perm_append_comm->P5,flatten_cons->P8,cons_append->Qa,sum_cons->Qd,pairwise_singleton->Qp,mem_of_mem_take->Qs,mem_append_left->Qt,getElem?_of_mem->Qu,pairwise_cons->Qw,getElem?_drop->Qx,not_mem_nil->Qz,sum_append->QB,getElem?_append_right->QK,filter_cons_of_neg->QL,getElem?_append->QM,pairwise_map->QT,flatMap_cons->QU,nil_append->QZ,mem_filter->Q0,forIn_cons->Q4,foldr_cons->Q5,foldl->Rk,getElem?_take_of_lt->Rt,getElem?_range->RG,zip_cons_cons->RJ,filterMap_map->RK,take_sublist->RP,mapM_toArray->RQ,ext_getElem?->RS,of_mem_zip->R0,mem_range->R6,map_take->R8,zipWith->Sf,pairwise_iff_getElem->Su,eq_of_mem_replicate->Sy,length_replicate->SM,dropLast_eq_take->SN,reverse_append->SY,length_reverse->S0,map_inj_right->S9,take_add_one->To,reverse_perm->Tp,foldl_append->Tq,drop_sublist->Tr,mem_flatMap->Tw,lookup_cons->Tz,length_drop->TF,ext_getElem->TH,Pairwise->TM,drop_append_of_le_length->T5
open Bool renaming false_ne_true->NH,false_eq_true->Od,not_true->Qe,and_eq_true->QX,eq_iff_iff->Q6
open Option renaming map_eq_some_iff->NQ,isSome_map->P7,getD_some->QW
open PySem.Expr renaming Name->NS,Call->Oi,Subscript->Pz
open Sum renaming inl->NT,inr->PY
open PySem.SeqAt renaming EqAt->NV,RcAt->Qi,RcNeAt->Sb
open PySem.Value renaming ref->NW,type->Ou,none->OC,int->PV
open Ne renaming symm->NZ
open Array renaming getElem?_eq_getElem->N2,toList_push->Oc,getElem?_toList->Oj,length_toList->Oo,toList_append->OI,ext'->PU,perm_iff_toList_perm->Qm,getElem?_eq_some_iff->Qn,toList_reverse->Qv,getElem?_extract->Rz,mem_toList_iff->SQ,getElem_mem->Tt,toList_map->TL,toList_eraseIdxIfInBounds->TV
open PySem.Obj renaming mapSeq->N8,data_mapFields->RI
open Int renaming le_trans->N9,toNat_natCast->Oz,le_refl->OL,le_of_lt->Po,add_mul->PM,zero_mul->Qg,pow_pos->Qh,mul_assoc->Q9,zero_add->Rf,one_mul->Ri,lt_of_le_of_lt->RL,mul_nonneg->R7,add_zero->Sg,add_comm->Si,mul_le_mul_of_nonneg_right->TY
open ForInStep renaming yield->Ot,done->OU
open PySem.Env renaming kindOf->Ov
open PySem.Paired renaming length->OE,snoc->Sn
open False renaming elim->OF
open PySem.Builtin.Int renaming intBits->OH
open Option.some renaming inj->O5
open PySem.NameKind renaming free->Pj
open PySem.Builtin.List renaming listUpdate->Pq,listItems->Pr,listLengthHint->Ql,listExtendWith->Rn,listTooLong->Sz
open PyProof.Rows.SortSt renaming mk'->PR
open Lean renaming mkPrivateNameCore->P4,mkIdent->Qf
open PySem.F renaming slot_dict_itemiterator_next->Qk,slot_dict_keyiterator_next->QI,plain_extend_loop->Rp,slot_dict_items->RT,args_tuple_add_2->Sx,plainAttrs_list->SA,entry_tuple_add->SD,slot_tuple_add->SG,slot_tuple_lt->SJ,slot_dict_get->SK,args_dict_itemiterator_next_1->TU,entry_dict_itemiterator_next->TZ,args_dict_keyiterator_next_1->T4,slot_dict_itemiterator_iter->T6,entry_dict_keyiterator_next->T7
open PySem.Builtin.SmallTypes renaming nextOf->Qo
open List.Perm renaming append_left->Qq
open True renaming intro->QH
open PySem.Heap.SameBut renaming update->QO
open List.Pairwise renaming nil->QV,filter->SO
open PySem.Builtin.Slice renaming slicePlaces->Rq,sliceAdjust->Sv
open PySem.Builtin.Tuple renaming tupleExact->Ru
open PySem.AutoSeq1 renaming wpAny_loadPart'->Rv
open PySem.Builtin.Range renaming rangeSize->Rw
open PySem.Builtin.Dict renaming showsAll->RB
open PySem.Around renaming under_plainId->RE
open PySem.Stmt renaming AugAssign->R3,Assign->Sm
open Quotient renaming sound->R4
open Function renaming comp->R9
open PySem.Operator renaming Add->Se
open PySem.Data renaming fields->So
open PySem.Builtin.Dict_items renaming pairFromOwner->Sq,ownsTuple->Ss,ownedTupleIsFree->TQ,ownedTupleFields->TR
open PySem.Calls renaming callWith_builtin->SI,spliced_cons->Td
open PySem.Heap.IsSliceOf renaming new->Tc
open PySem.Challenge renaming rw_everydraw_k15_whole_what_lies_on_what->TN
namespace PySem.W.Fast
theorem tw16698796898477894685:True:=⟨⟩
theorem tw4653899639018214805:True:=⟨⟩
theorem tw3707217387825442736:True:=⟨⟩
theorem tw15254653452157276978:True:=⟨⟩
theorem tw14950106215151698672:True:=⟨⟩
theorem tw8317800994863111471:True:=⟨⟩
theorem tw863641416427104058:True:=⟨⟩
theorem tw1339047135249532165:True:=⟨⟩
theorem tw4627701463066967893:True:=⟨⟩
theorem tw2413558071660342100:True:=⟨⟩
theorem tw3865819382794147473:True:=⟨⟩
theorem tw11555138271104175793:True:=⟨⟩
theorem tw2917920179271333802:True:=⟨⟩
theorem tw16588578779587387699:True:=⟨⟩
theorem tw18267606113957629357:True:=⟨⟩
theorem tw15877139728732573082:True:=⟨⟩
theorem tw3223931634052899982:True:=⟨⟩
theorem tw11363615996985118905:True:=⟨⟩
theorem tw1617274863839431392:True:=⟨⟩
theorem tw10084354806968617000:True:=⟨⟩
theorem tw4358243883067326337:True:=⟨⟩
theorem tw5984997281283378197:True:=⟨⟩
theorem tw3059168879621066676:True:=⟨⟩
theorem tw10830821759238688071:True:=⟨⟩
theorem tw15747665239039159394:True:=⟨⟩
theorem tw8262716857749560409:True:=⟨⟩
theorem tw14632555153891808781:True:=⟨⟩
theorem tw6585791565372831166:True:=⟨⟩
theorem tw15005252318284553849:True:=⟨⟩
theorem tw11915654317616993047:True:=⟨⟩
theorem tw4277931323437628179:True:=⟨⟩
theorem tw16119584119387208923:True:=⟨⟩
theorem tw1093754863540943058:True:=⟨⟩
theorem tw7356727271879553079:True:=⟨⟩
theorem tw13093001311436191734:True:=⟨⟩
theorem tw13408875314149163553:True:=⟨⟩
theorem tw16533783838127671986:True:=⟨⟩
theorem tw18118998562738155706:True:=⟨⟩
theorem tw15429206623623638729:True:=⟨⟩
theorem tw6602164410630829054:True:=⟨⟩
theorem tw210616251759629947:True:=⟨⟩
theorem tw12203861103205430913:True:=⟨⟩
theorem tw14455581047550879246:True:=⟨⟩
theorem tw7445565818804750035:True:=⟨⟩
theorem tw10061780692974003574:True:=⟨⟩
theorem tw1073723696088296219:True:=⟨⟩
theorem tw2180631553263152196:True:=⟨⟩
theorem tw12653312060540991493:True:=⟨⟩
theorem tw14857238737023119730:True:=⟨⟩
theorem tw16423238259326672216:True:=⟨⟩
theorem tw8104992960516605176:True:=⟨⟩
theorem tw17241547109456960652:True:=⟨⟩
theorem tw16179788773546677705:True:=⟨⟩
theorem tw6993307375399483096:True:=⟨⟩
theorem tw14641441191707461719:True:=⟨⟩
theorem tw5907727450731955209:True:=⟨⟩
theorem tw9435714790942061344:True:=⟨⟩
theorem tw18443953617708495826:True:=⟨⟩
theorem tw3233158202498779829:True:=⟨⟩
theorem tw1109991067073524602:True:=⟨⟩
theorem tw18061477516317253450:True:=⟨⟩
theorem tw8742563622943781594:True:=⟨⟩
theorem tw16740324958926852275:True:=⟨⟩
theorem tw15653646242876816462:True:=⟨⟩
theorem tw11649796906781376576:True:=⟨⟩
theorem tw11297227215453213746:True:=⟨⟩
theorem tw9580575693979119310:True:=⟨⟩
theorem tw15175184290812536310:True:=⟨⟩
theorem tw14213727902618976235:True:=⟨⟩
theorem tw16994004315478743560:True:=⟨⟩
theorem tw2910024888182201679:True:=⟨⟩
theorem tw5283392571042208956:True:=⟨⟩
theorem tw11860263336202291331:True:=⟨⟩
theorem tw13857300972885189157:True:=⟨⟩
theorem tw5601296748931619241:True:=⟨⟩
theorem tw12797205686677330718:True:=⟨⟩
theorem tw15683029694243486716:True:=⟨⟩
theorem tw9949521664688957226:True:=⟨⟩
theorem tw2048879592918348051:True:=⟨⟩
theorem tw5616998155057089378:True:=⟨⟩
theorem tw17413720609151982803:True:=⟨⟩
theorem tw11501689439872982301:True:=⟨⟩
theorem tw8630789651436464971:True:=⟨⟩
theorem tw13514649153499179789:True:=⟨⟩
theorem tw16178495509016814770:True:=⟨⟩
theorem tw7418041658776597675:True:=⟨⟩
theorem tw3240861688649150638:True:=⟨⟩
theorem tw16296526638630004130:True:=⟨⟩
theorem tw7542140183148006862:True:=⟨⟩
theorem tw188215779565128714:True:=⟨⟩
theorem tw8577167545610130557:True:=⟨⟩
theorem tw16935797705409087928:True:=⟨⟩
theorem tw18297427653006529524:True:=⟨⟩
theorem tw668082273969490770:True:=⟨⟩
theorem tw11195576114613190299:True:=⟨⟩
theorem tw3236770202059646625:True:=⟨⟩
theorem tw10043232650957842912:True:=⟨⟩
theorem tw10239767166174457658:True:=⟨⟩
theorem tw8947811172838451360:True:=⟨⟩
theorem tw12617031975635359489:True:=⟨⟩
end PySem.W.Fast
local macro_rules | `(tactic| walk_at "u") => `(tactic| with_unfolding_all rfl)
namespace L2
open PySem PySem.Spec PyProof.Rows
noncomputable abbrev Key:=Sum Int Str
noncomputable def kc:Key->Value->Bool
 | .inl k,v=>Value.isInt k v
 | .inr x,v=>Value.isStrOf x v
noncomputable def LA (w:World):Key->Int
 | .inl k=>hashInt k
 | .inr x=>hashStr w x
theorem bH:∀ {k:Key} {v:Value},kc k v=true->(∃ i t,k=NT i/\v=PV i t)\/(∃ x t,k=PY x/\v=Value.str x t)
 | .inl i,v,h=>by
  obtain ⟨t,e⟩:=Value.isInt_shape (k:=i) (v:=v) h
  exact .inl ⟨i,t,rfl,e⟩
 | .inr x,v,h=>by
  obtain ⟨t,e⟩:=Value.isStrOf_shape (x:=x) (v:=v) h
  exact .inr ⟨x,t,rfl,e⟩
theorem vW (i) (t:Tok):kc (.inl i) (.int i t)=true:=by simp [kc,Value.isInt]
theorem vX (x) (t:Tok):kc (.inr x) (.str x t)=true:=by simp [kc,Value.isStrOf]
theorem FD (a b):decide ((NT a:Key)=NT b)=(a == b):=by
 by_cases e:a=b
 ·subst e; simp
 ·have h:¬ (NT a:Key)=NT b:=λq=>e (NT.inj q)
  rw [decide_eq_false h]
  exact (beq_eq_false_iff_ne.mpr e).symm
theorem FE (a b):decide ((PY a:Key)=PY b)=decide (a=b):=by
 by_cases e:a=b
 ·subst e; simp
 ·have h:¬ (PY a:Key)=PY b:=λq=>e (PY.inj q)
  rw [decide_eq_false h,decide_eq_false e]
theorem FF (a) (b):decide ((NT a:Key)=PY b)=false:=decide_eq_false (λq=>nomatch q)
theorem FG (a) (b):decide ((PY a:Key)=NT b)=false:=decide_eq_false (λq=>nomatch q)
noncomputable def bU (prog:Program) (w:World):PySem.KeyKind prog w Key where
 is:=kc
 hash:=LA w
 inj:=λv a b ha hb=>by
  rcases bH ha with ⟨i,t,rfl,rfl⟩ | ⟨x,t,rfl,rfl⟩
  ·rcases bH hb with ⟨j,u,rfl,e⟩ | ⟨y,u,rfl,e⟩
   ·injection e with e1 _; rw [e1]
   ·exact nomatch e
  ·rcases bH hb with ⟨j,u,rfl,e⟩ | ⟨y,u,rfl,e⟩
   ·exact nomatch e
   ·injection e with e1 _; rw [e1]
 byValue:=λk v h=>by
  rcases bH h with ⟨i,t,rfl,rfl⟩ | ⟨x,t,rfl,rfl⟩ <;> rfl
 pyHash:=λhv h=>by
  rcases bH hv with ⟨i,t,rfl,rfl⟩ | ⟨x,t,rfl,rfl⟩
  ·exact wpAny_pyHash_int h
  ·exact wpAny_pyHash_str h
 eqBool:=λhu hv h=>by
  rcases bH hu with ⟨i,t,rfl,rfl⟩ | ⟨x,t,rfl,rfl⟩
  ·rcases bH hv with ⟨j,u,rfl,rfl⟩ | ⟨y,u,rfl,rfl⟩
   ·rw [FD] at h; exact Tu h
   ·rw [FF] at h; exact NV.int_str i t y u _ _ _ _ h
  ·rcases bH hv with ⟨j,u,rfl,rfl⟩ | ⟨y,u,rfl,rfl⟩
   ·rw [FG] at h; exact NV.str_int x t j u _ _ _ _ h
   ·rw [FE] at h; exact wpAny_eqBool_str h
 «strs» :=λk x t v h=>by
  rcases bH h with ⟨i,u,rfl,e⟩ | ⟨y,u,rfl,e⟩
  ·exact nomatch e
  ·injection e with e1 _
   subst e1
   cases v <;> rfl
theorem pG (prog) (w) (i) (t:Tok):(bU prog w).is (.inl i) (.int i t)=true:=vW i t
theorem pH (prog) (w) (x) (t:Tok):(bU prog w).is (.inr x) (.str x t)=true:=vX x t
inductive V where
 | non | bl (b:Bool) | int (i:Int) | str (x:Str) | byt (b:Array UInt8) | flt (b:UInt64) | ref (a:Addr) | ty (n:String)
 deriving DecidableEq
noncomputable def RelV:V->Value->Prop
 | .non,u=>u=OC
 | .bl b,u=>u=Value.bool b
 | .int i,u=>∃ t,u=PV i t
 | .str x,u=>∃ t,u=Value.str x t
 | .byt b,u=>∃ t,u=Value.bytes b t
 | .flt b,u=>∃ t,u=Value.float b t
 | .ref a,u=>u=NW a
 | .ty n,u=>u=Ou n
noncomputable abbrev Vals:List V->List Value->Prop:=Paired RelV
theorem Vals.length (r:Vals xs us):xs.length=us.length:=OE r
theorem Vals.get:∀ {xs:List V} {us:List Value} {i:Nat} {x:V},Vals xs us->xs[i]?=some x->∃ u,us[i]?=some u/\RelV x u
 | _,_,_,_,.nil,e=>by simp at e
 | _,_,0,_,.cons r _,e=>by simp at e; subst e; exact ⟨_,rfl,r⟩
 | _,_,i+1,x,.cons _ t,e=>by
  obtain ⟨u,h1,h2⟩:=Vals.get (i:=i) (x:=x) t (by simpa using e)
  exact ⟨u,by simpa using h1,h2⟩
theorem Vals.set (r:RelV x u):∀ {xs:List V} {us:List Value} (i:Nat),Vals xs us->Vals (xs.set i x) (us.set i u)
 | _,_,_,.nil=>.nil
 | _,_,0,.cons _ t=>.cons r t
 | _,_,i+1,.cons q t=>.cons q (Vals.set r i t)
theorem Vals.append:∀ {xs ys:List V} {us ws:List Value},Vals xs us->Vals ys ws->Vals (xs++ys) (us++ws)
 | _,_,_,_,.nil,s=>s
 | _,_,_,_,.cons r t,s=>.cons r (Vals.append t s)
theorem Vals.take:∀ {xs:List V} {us:List Value} (n:Nat),Vals xs us->Vals (xs.take n) (us.take n)
 | _,_,0,_=>.nil
 | _,_,_+1,.nil=>.nil
 | _,_,n+1,.cons r t=>.cons r (Vals.take n t)
theorem Vals.drop:∀ {xs:List V} {us:List Value} (n:Nat),Vals xs us->Vals (xs.drop n) (us.drop n)
 | _,_,0,r=>r
 | _,_,_+1,.nil=>.nil
 | _,_,n+1,.cons _ t=>Vals.drop n t
noncomputable def jJ:Option V->Option Value->Prop
 | some v,some u=>RelV v u
 | none,none=>True
 | _,_=>False
noncomputable def KV {κ:Type}:List (κ×V)->List (κ×Value)->Prop:=Paired λ(p:κ×V) (q:κ×Value)=>p.1=q.1/\RelV p.2 q.2
noncomputable def kV:Key->V
 | .inl i=>.int i
 | .inr x=>.str x
inductive HO where
 | lst (xs:List V)
 | tup (xs:List V)
 | dK (kvs:List (Key×V)) | dT (kvs:List (List Key×Addr×V))
 | set (S:Int->Bool) (n:Nat)
 | ins (C dx:Addr) (fs:List (Str×V))
 | own (x:Addr)
 | xd (fs:List (Str×V))
 | met (f x:Addr)
 | rng (lo hi:Int)
 | frz (o:Obj) (u:HO)
 | tbl (ps:Array Value)
 | ext (φ :Heap->Prop)
noncomputable abbrev Hp:=Addr->Option HO
noncomputable def upd (H:Hp) (a:Addr) (o:HO):Hp:=λb=>if b=a then some o else H b
theorem af:upd H a o a=some o:=by unfold upd; rw [if_pos rfl]
theorem av (h:b≠a):upd H a o b=H b:=by unfold upd; rw [if_neg h]
theorem nI:upd (upd H a o) a u=upd H a u:=by
 funext b; unfold upd; split <;> rfl
theorem aE {H:Hp} (h:H a=some o) (h':H b=none):a≠b:=by
 intro e; subst e; rw [h] at h'; cases h'
section
variable (P:Program) (w:World)
noncomputable def bg (H:Hp) (h:Heap) (a:Addr):HO->Prop
 | .lst xs=>xs.length<=sizeLine/\∃ (its:List Value) (n:Nat),Vals xs its/\h.get? a=some { cls:=.type "list",data:=.seq its.toArray n }
 | .tup xs=>xs.length<=sizeLine/\∃ its:List Value,Vals xs its/\IsTup h a its.toArray
 | .dK kvs=>kvs.length<=sizeLine/\(a == sysModules)=false/\∃ vs,KV kvs vs/\h.DictOf (bU P w) a vs
 | .dT kvs=>kvs.length<=sizeLine/\(a == sysModules)=false/\∃ xs:List (List Key×Addr×Value),
  Paired (λ(p:List Key×Addr×V) (q:List Key×Addr×Value)=>p.1=q.1/\p.2.1=q.2.1/\RelV p.2.2 q.2.2) kvs xs /\
  ∃ o es ep,h.get? a=some o/\o.ExactDict/\o.data=.dict es ep/\es.toList=xs.map (entryOfKey (tupleKind (bU P w)))/\(xs.map (·.1)).Nodup
 | .set S n=>h.SetOf (intKind P w) a S n
 | .ins C dx fs=>H dx=some (.own a)/\fs.length<=1000/\dx≠a/\h.get? a=some (PySem.W.instObj C dx) /\
  ∃ mA,h.Ns1 dx mA/\(∀ f,jJ (fs.lookup f) (mA f))/\PySem.Within mA (fs.map (·.1))
 | .own _=>∃ o,h.get? a=some o
 | .xd fs=>∃ mA,h.Ns1 a mA/\∀ f,jJ (fs.lookup f) (mA f)
 | .rng lo hi=>∃ t u v,h.get? a=some { cls:=.type "range",data:=.fields #[.int lo t,.int hi u,.int 1 v] }
 | .frz o u=>h.get? a=some o/\bg H h a u
 | .tbl ps=>h.get? a=some { cls:=.none,data:=.fields ps }
 | .met f x=>h.get? a=some (Tj (.ref f) (.ref x))
 | .ext φ => φ h/\(∃ o,h.get? a=some o)/\∀ h1 h2:Heap,φ h1->(∀ o,h1.get? a=some o->h2.get? a=some o)-> φ h2
def i7 (H:Hp) (h:Heap):Prop:=∀ a o,H a=some o->bg P w H h a o
end
theorem bg.lt (x:bg P w H h a o):a<h.objs.size:=by
 cases o with
 | lst xs=>obtain ⟨_,_,_,_,e⟩:=x; exact NG e
 | tup xs=>obtain ⟨_,_,_,p⟩:=x; exact p.lt
 | dK kvs=>obtain ⟨_,_,_,_,o,_,_,e,_⟩:=x; exact NG e
 | dT kvs=>obtain ⟨_,_,_,_,o,_,_,e,_⟩:=x; exact NG e
 | set S n=>obtain ⟨o,_,_,_,e,_⟩:=x; exact NG e
 | ins C dx fs=>obtain ⟨_,_,_,e,_⟩:=x; exact NG e
 | own y=>obtain ⟨_,e⟩:=x; exact NG e
 | xd fs=>obtain ⟨_,⟨_,_,_,e,_⟩,_⟩:=x; exact NG e
 | rng lo hi=>obtain ⟨_,_,_,e⟩:=x; exact NG e
 | frz ob u=>obtain ⟨e,_⟩:=x; exact NG e
 | tbl ps=>exact NG (show h.get? a=some _ from x)
 | met f y=>exact NG (show h.get? a=some _ from x)
 | ext φ =>obtain ⟨_,⟨_,e⟩,_⟩:=x; exact NG e
theorem Paired.FH:∀ {l₁:List α} {l₂:List β},Paired F l₁ l₂->(∀ a b,F a b->G a b)->Paired G l₁ l₂
 | _,_,.nil,_=>.nil
 | _,_,.cons r t,f=>.cons (f _ _ r) (Paired.FH t f)
theorem bg.stay (x:bg P w H h a o) (k:∀ b u,(b=a\/H b=some (.own a))->h.get? b=some u->h'.get? b=some u)
 (ho:∀ b,H b=some (.own a)->H' b=some (.own a)) (ht:∀ b xs,H b=some (.tup xs)->H' b=some (.tup xs)):bg P w H' h' a o:=by
 induction o with
 | lst xs=>obtain ⟨z,its,n,r,e⟩:=x; exact ⟨z,its,n,r,k _ _ (.inl rfl) e⟩
 | tup xs=>obtain ⟨z,its,r,ob,e,c⟩:=x; exact ⟨z,its,r,ob,k _ _ (.inl rfl) e,c⟩
 | dK kvs=>obtain ⟨z,y,vs,r,ob,es,ep,e,c⟩:=x; exact ⟨z,y,vs,r,ob,es,ep,k _ _ (.inl rfl) e,c⟩
 | dT kvs =>
  obtain ⟨z,y,xs,r,ob,es,ep,e,c⟩:=x
  exact ⟨z,y,xs,r,ob,es,ep,k _ _ (.inl rfl) e,c⟩
 | set S n=>obtain ⟨ob,es,ep,t,e,c⟩:=x; exact ⟨ob,es,ep,t,k _ _ (.inl rfl) e,c⟩
 | ins C dx fs =>
  obtain ⟨d,z,ne,e,mA,⟨od,es,ep,e2,c⟩,r⟩:=x
  exact ⟨ho _ d,z,ne,k _ _ (.inl rfl) e,mA,⟨od,es,ep,k _ _ (.inr d) e2,c⟩,r⟩
 | own y=>obtain ⟨ob,e⟩:=x; exact ⟨ob,k _ _ (.inl rfl) e⟩
 | xd fs=>obtain ⟨mA,⟨od,es,ep,e,c⟩,r⟩:=x; exact ⟨mA,⟨od,es,ep,k _ _ (.inl rfl) e,c⟩,r⟩
 | rng lo hi=>obtain ⟨t,u,v,e⟩:=x; exact ⟨t,u,v,k _ _ (.inl rfl) e⟩
 | frz ob u ih=>obtain ⟨e,q⟩:=x; exact ⟨k _ _ (.inl rfl) e,ih q⟩
 | tbl ps =>
  have e:h.get? a=some { cls:=.none,data:=.fields ps }:=x
  show h'.get? a=some { cls:=.none,data:=.fields ps }
  exact k a _ (.inl rfl) e
 | met f y =>
  have e:h.get? a=some (Tj (.ref f) (.ref y)):=x
  show h'.get? a=some (Tj (.ref f) (.ref y))
  exact k a _ (.inl rfl) e
 | ext φ =>obtain ⟨p,⟨o,e⟩,st⟩:=x; exact ⟨st _ _ p λo q=>k _ _ (.inl rfl) q,⟨o,k _ _ (.inl rfl) e⟩,st⟩
theorem i7.lt (x:i7 P w H h) (e:H a=some o):a<h.objs.size:=(x a o e).lt
theorem i7.fresh (x:i7 P w H h) (e:h.objs.size<=a):H a=none:=by
 cases q:H a with
 | none=>rfl
 | some u=>exact absurd (Ol (x.lt q) e) (OW _)
theorem i7.kept (x:i7 P w H h) (k:∀ b u,h.get? b=some u->h'.get? b=some u):i7 P w H h':=λa o e =>
 (x a o e).stay (λb u _ q=>k b u q) (λ_ q=>q) λ_ _ q=>q
theorem i7.laid (x:i7 P w H h) (k:∀ b u,h.get? b=some u->h'.get? b=some u) (hp:h.objs.size<=a) (new:bg P w (upd H a o) h' a o):i7 P w (upd H a o) h':=λb u e=>by
 have hn:=x.fresh hp
 by_cases hb:b=a
 ·subst hb; rw [af] at e; cases e; exact new
 ·rw [av hb] at e
  exact (x b u e).stay (λc v _ q=>k c v q) (λc q=>by rw [av (aE q hn)]; exact q) λc xs q=>by rw [av (aE q hn)]; exact q
def Rd (H:Hp) (a:Addr) (u:HO):Prop:=H a=some u\/∃ o,H a=some (.frz o u)
theorem Rd.ok (r:Rd H a u) (x:i7 P w H h):bg P w H h a u:=by
 rcases r with r | ⟨o,r⟩
 ·exact x a u r
 ·obtain ⟨_,q⟩:=x a _ r
  exact q
noncomputable def Ja:Option HO->Prop
 | some (.lst _)=>True
 | some (.dK _)=>True
 | some (.dT _)=>True
 | some (.set _ _)=>True
 | some (.ins _ _ _)=>True
 | some (.ext _)=>True
 | _=>False
theorem i7.write (ok:i7 P w H h) (mu:Ja (H x)) (he:e=x\/H e=some (.own x)) (k:∀ b u,b≠e->h.get? b=some u->h'.get? b=some u) (heo:∃ u,h'.get? e=some u)
 (new:bg P w (upd H x o') h' x o'):i7 P w (upd H x o') h':=λb u q=>by
 have nown:∀ c y,H c=some (.own y)->c≠x:=λc y r z=>by subst z; rw [r] at mu; exact mu
 have ntup:∀ c xs,H c=some (.tup xs)->c≠x:=λc xs r z=>by subst z; rw [r] at mu; exact mu
 by_cases hb:b=x
 ·subst hb; rw [af] at q; cases q; exact new
 ·rw [av hb] at q
  by_cases hbe:b=e
  ·have q':H b=some (.own x):=by
    rcases he with z | z
    ·exact absurd (hbe.trans z) hb
    ·rw [hbe]; exact z
   rw [q] at q'; cases q'
   obtain ⟨v,hv⟩:=heo
   exact ⟨v,by rw [hbe]; exact hv⟩
  ·refine (ok b u q).stay (λc v hc r=>k c v ?_ r) (λc r=>by rw [av (nown c b r)]; exact r) λc xs r=>by rw [av (ntup c xs r)]; exact r
   rcases hc with rfl | hc
   ·exact hbe
   ·rintro rfl
    rcases he with z | z
    ·exact nown c b hc z
    ·rw [hc] at z; cases z; exact hb rfl
structure Un (fs ex:List Addr) (H H':Hp) (h h':Heap):Prop where
 keep:∀ b o,h.get? b=some o->H b=none->b∉fs->b∉ex->h'.get? b=some o
 slot:∀ b o,h.get? b=some o->H b=none->b∈fs->b∉ex->∃ sl,h'.get? b=some { o with slots:=sl }
 free:∀ b o,h.get? b=some o->H b=none->b∉ex->H' b=none
 there:∀ b o,h.get? b=some o->b∉ex->∃ o',h'.get? b=some o'
 tups:∀ b xs,H b=some (.tup xs)->H' b=some (.tup xs)
 frzs:∀ b o u,H b=some (.frz o u)->H' b=some (.frz o u)
 tbls:∀ b ps,H b=some (.tbl ps)->∃ more,H' b=some (.tbl (ps++more))
section
variable {fs fs' ex ex':List Addr} {H H1 H2:Hp} {h h1 h2 h':Heap} {a x e:Addr} {o:HO}
theorem Un.any (u:Un fs ex H H1 h h1) (q:h.get? b=some ob) (n:H b=none) (hx:b∉ex):∃ sl,h1.get? b=some { ob with slots:=sl }:=by
 by_cases hb:b∈fs
 ·exact u.slot b ob q n hb hx
 ·exact ⟨ob.slots,u.keep b ob q n hb hx⟩
theorem Un.kept (k:∀ b u,h.get? b=some u->h'.get? b=some u):Un fs ex H H h h' :=
 ⟨λb ob q _ _ _=>k b ob q,λb ob q _ _ _=>⟨ob.slots,k b ob q⟩,λ_ _ _ n _=>n,λb ob q _=>⟨ob,k b ob q⟩,λ_ _ q=>q,λ_ _ _ q=>q,λ_ ps q=>⟨#[],by rw [q]; simp⟩⟩
theorem Un.refl:Un fs ex H H h h:=Un.kept λ_ _ q=>q
theorem Un.laid (k:∀ b u,h.get? b=some u->h'.get? b=some u) (hp:h.objs.size<=a) (hn:H a=none):Un fs ex H (upd H a o) h h' where
 keep:=λb u q _ _ _=>k b u q
 slot:=λb u q _ _ _=>⟨u.slots,k b u q⟩
 free:=λb u q n _=>by rw [av (N4 (Ol (NG q) hp))]; exact n
 there:=λb u q _=>⟨u,k b u q⟩
 tups:=λb xs q=>by rw [av (aE q hn)]; exact q
 frzs:=λb u xs q=>by rw [av (aE q hn)]; exact q
 tbls:=λb ps q=>⟨#[],by rw [av (aE q hn),q]; simp⟩
theorem Un.write (mu:Ja (H x)) (he:e=x\/H e=some (.own x)) (k:∀ b u,b≠e->h.get? b=some u->h'.get? b=some u) (heo:∃ u,h'.get? e=some u):Un fs ex H (upd H x o) h h':=by
 have hx:∀ b,H b=none->b≠x:=λb n z=>by subst z; rw [n] at mu; exact mu
 have hb:∀ b,H b=none->b≠e:=λb n z=>by
  subst z
  rcases he with r | r
  ·exact hx b n r
  ·rw [n] at r; cases r
 have hm:∀ b u,H b=some u->¬ Ja (some u)->b≠x:=λb u q nm z=>by subst z; rw [q] at mu; exact nm mu
 refine ⟨λb u q n _ _=>k b u (hb b n) q,λb u q n _ _=>⟨u.slots,k b u (hb b n) q⟩,λb u q n _=>by rw [av (hx b n)]; exact n,λb u q _=>?_,
  λb xs q=>by rw [av (hm b _ q λz=>z)]; exact q,λb u xs q=>by rw [av (hm b _ q λz=>z)]; exact q,λb ps q=>⟨#[],by rw [av (hm b _ q λz=>z),q]; simp⟩⟩
 by_cases hbe:b=e
 ·subst hbe; exact heo
 ·exact ⟨u,k b u hbe q⟩
end
noncomputable def Lh (h:Heap) (H:Hp):List Addr:=(N6 h.objs.size).filter λa=>(H a).isSome
noncomputable def nJ (h:Heap) (H:Hp):Heap:=PySem.W.hideAll h (Lh h H)
theorem vY (h) (H):(nJ h H).objs.size=h.objs.size:=PySem.W.hideAll_size _ _
theorem ya (e:h.get? b=some o) (n:H b=none):(nJ h H).get? b=some o :=
 PySem.W.hideAll_get _ e λhm=>by
  have q:(H b).isSome=true:=(Q0.mp hm).2
  rw [n] at q; simp at q
theorem B4 (e:(nJ h H).get? b=some o):h.get? b=some o/\H b=none:=by
 have e':h.get? b=some o:=PySem.W.of_hideAll (Lh h H) e
 refine ⟨e',?_⟩
 cases q:H b with
 | none=>rfl
 | some x =>
  have hm:b∈Lh h H:=Q0.mpr ⟨R6.mpr (NG e'),by simp [q]⟩
  have z:(nJ h H).get? b=none:=PySem.W.hideAll_none (Lh h H) hm
  rw [z] at e; cases e
structure Mod (K:Nu) (mg:Str->Option Value) (base:Heap):Prop where
 kin:K.In base
 glob:base.Ns mainGlobals mg
 blt:∃ mb,base.Ns builtinsNs mb/\∀ x:Str,x≠"__name__"->mb x=bootBuiltins x
 nolimit:base.NoLimit
structure Cx where
 prog:Program
 w:World
 K:Nu
 mg:Str->Option Value
 base:Heap
 A:Around
 N:List Str
 s₀:Shared
 H₀:Hp
 env:Env
 outer:List Env
 stack:List Env
 ex:List Addr
 fn:Str->Bool
 calm:Bool
 pn:List (Addr×Obj)
 xe:Value->Shared->Prop
noncomputable def frs (l:List Env):List Addr:=l.filterMap (·.frame)
noncomputable abbrev Cx.fs (X:Cx):List Addr:=frs X.outer
def LB (sc:Scope) (x:Str):Prop:=sc.names.lookup x=some .local\/sc.names.lookup x=some .cell\/sc.names.lookup x=some .free
def Loc (sc:Scope) (x:Str):Prop:=sc.names.lookup x=some .local\/sc.names.lookup x=some .cell
def Look (env:Env) (h:Heap) (m:Str->Option Value) (x:Str) (u:Value):Prop :=
 (env.kindOf x=some .local/\m x=some u)\/((env.kindOf x=some .cell\/env.kindOf x=some .free)/\∃ c,env.cells.lookup x=some c/\h.IsCell c (some u))
structure Cx.Ok (X:Cx):Prop where
 mod:Mod X.K X.mg X.base
 kind:X.env.scope.kind=.function
 glob:X.env.globals=mainGlobals
 blt:X.env.builtins=builtinsNs
 above:X.s₀.heap.objs.size<=X.env.locals
 inj:∀ x y c,X.env.cells.lookup x=some c->X.env.cells.lookup y=some c->x=y
 has:∀ x,(X.env.kindOf x=some .cell\/X.env.kindOf x=some .free)->∃ c,X.env.cells.lookup x=some c
 cab:∀ x c,X.fn x=true->X.env.cells.lookup x=some c->X.s₀.heap.objs.size<=c
 hd:X.calm=true->X.A.handled=none
 frames:X.A.frames=some X.stack
 stk:X.stack=X.outer\/(X.stack=X.env::X.outer/\X.env.frame=some X.env.locals)
 exf:∀ b∈X.ex,b≠X.env.locals/\∀ x c,X.env.cells.lookup x=some c->c≠b
 bs:∀ b o,X.base.get? b=some o->X.s₀.heap.get? b=some o/\X.H₀ b=none
 bsz:X.base.objs.size<=X.s₀.heap.objs.size
 noex:∀ b o,X.base.get? b=some o->b∉X.ex
 exfs:∀ b∈X.ex,b∉X.fs
 i9:X.s₀.heap.FunFrames X.base X.outer
 frf:∀ b∈X.fs,X.H₀ b=none
structure Inv (X:Cx) (aa:List (Addr×Obj)) (σ:List (Option V)) (H:Hp) (s:Shared):Prop where
 ok:X.Ok
 os:s.os=X.s₀.os
 bare:AllBare s.gens
 base:Un X.fs X.ex X.H₀ H X.s₀.heap s.heap
 loc:∃ m,s.heap.Ns X.env.locals m/\∀ (i:Nat) (x:Str) (v:V),X.N[i]?=some x->σ[i]?=some (some v)->LB X.env.scope x->∃ u,RelV v u/\Look X.env s.heap m x u
 cell:∀ x c,X.env.cells.lookup x=some c->∃ v,s.heap.IsCell c v
 free:H X.env.locals=none
 freeC:∀ x c,X.env.cells.lookup x=some c->H c=none
 pin:∀ p∈X.pn++aa,s.heap.get? p.1=some p.2/\H p.1=none/\p.1≠X.env.locals/\p.1∉X.fs/\∀ v,p.2.data≠.cell v
 hok:i7 X.prog X.w H s.heap
 len:σ.length=X.N.length
section
variable {X:Cx}
theorem Cx.Ok.LC (ok:X.Ok) (e:X.base.get? b=some o):b∉X.fs:=λhb=>by
 have:=(ok.i9.mem hb).1
 rw [e] at this; cases this
theorem Inv.bs (I:Inv X aa σ H s):∀ b o,X.base.get? b=some o->s.heap.get? b=some o/\H b=none:=λb o e =>
 ⟨I.base.keep b o (I.ok.bs b o e).1 (I.ok.bs b o e).2 (I.ok.LC e) (I.ok.noex b o e),I.base.free b o (I.ok.bs b o e).1 (I.ok.bs b o e).2 (I.ok.noex b o e)⟩
theorem Inv.bk (I:Inv X aa σ H s):∀ b o,X.base.get? b=some o->s.heap.get? b=some o:=λb o e=>(I.bs b o e).1
theorem Inv.mod (I:Inv X aa σ H s):Mod X.K X.mg X.base:=I.ok.mod
theorem Inv.BQ (I:Inv X aa σ H s):X.K.In s.heap:=I.ok.mod.kin.keeps I.bk
theorem Inv.lt (I:Inv X aa σ H s):X.env.locals<s.heap.objs.size:=let ⟨_,hn,_⟩:=I.loc; hn.lt
theorem Inv.sz (I:Inv X aa σ H s):X.s₀.heap.objs.size<=s.heap.objs.size:=NI I.ok.above (PJ I.lt)
theorem Inv.Jb (I:Inv X aa σ H s) (h:s.heap.objs.size<=a):a∉X.fs:=λhb=>by
 obtain ⟨_,o,ho,_⟩:=I.ok.i9.mem hb
 exact absurd (Ol (NG ho) (NI I.sz h)) (OW _)
theorem Inv.FI (I:Inv X aa σ H s):∀ x c,X.env.cells.lookup x=some c->c≠X.env.locals:=λx c e z=>by
 obtain ⟨v,o,ho,hd⟩:=I.cell x c e
 obtain ⟨m,⟨o',es,ep,ho',hd',_⟩,_⟩:=I.loc
 rw [z,ho'] at ho; cases ho; rw [hd'] at hd; cases hd
theorem Inv.i9 (I:Inv X aa σ H s):s.heap.FunFrames X.base X.outer:=by
 have all:∀ (l:List Env),(∀ b∈frs l,b∈X.fs)->X.s₀.heap.FunFrames X.base l->s.heap.FunFrames X.base l:=by
  intro l
  induction l with
  | nil=>intro _ _; trivial
  | cons env r ih =>
   intro hs hl
   obtain ⟨hk,⟨L,o,hf,hn,ho,hd⟩,hr⟩:=hl
   have hL:L∈X.fs:=hs L (by unfold frs; rw [OS,hf]; exact NP)
   obtain ⟨sl,e⟩:=I.base.slot L o ho (I.ok.frf L hL) hL λz=>I.ok.exfs L z hL
   exact ⟨hk,⟨L,_,hf,hn,e,hd⟩,ih (λb hb=>hs b (by unfold frs; rw [OS,hf]; exact NK _ hb)) hr⟩
 exact all X.outer (λ_ hb=>hb) I.ok.i9
theorem Inv.stack (I:Inv X aa σ H s):s.heap.FunFrames X.base X.stack:=by
 rcases I.ok.stk with e | ⟨e,hf⟩
 ·rw [e]; exact I.i9
 ·rw [e]
  obtain ⟨m,hn,_⟩:=I.loc
  refine .cons (by rw [I.ok.kind]; decide) hf hn ?_ I.i9
  exact Heap.get?_none_of_le (NI I.ok.bsz I.ok.above)
theorem Inv.rR (I:Inv X aa σ H s):∀ b∈frs X.stack,b∈X.env.locals::X.fs:=λb hb=>by
 rcases I.ok.stk with e | ⟨e,hf⟩
 ·rw [e] at hb; exact NK _ hb
 ·rw [e] at hb
  unfold frs at hb
  rw [OS,hf] at hb
  exact hb
theorem Inv.tT (I:Inv X aa σ H s):∀ b∈frs X.stack,H b=none:=λb hb=>by
 rcases NU.mp (I.rR b hb) with e | hb
 ·rw [e]; exact I.free
 ·obtain ⟨_,o,ho,_⟩:=I.ok.i9.mem hb
  exact I.base.free b o ho (I.ok.frf b hb) λz=>I.ok.exfs b z hb
theorem Inv.step {ch:List Addr} (I:Inv X aa σ H s)
 (hch:∀ b∈ch,(b∈X.ex\/X.s₀.heap.objs.size<=b)/\b≠X.env.locals/\(∀ x c,X.env.cells.lookup x=some c->c≠b)/\∀ p∈X.pn++aa,p.1≠b)
 (keep:∀ b o,b≠X.env.locals->b∉X.fs->b∉ch->s.heap.get? b=some o->H b=none->h'.get? b=some o)
 (slot:∀ b o,b≠X.env.locals->b∈X.fs->b∉ch->s.heap.get? b=some o->H b=none->∃ sl,h'.get? b=some { o with slots:=sl }) (free:∀ b o,b∉ch->s.heap.get? b=some o->H b=none->H' b=none)
 (there:∀ b o,b∉ch->s.heap.get? b=some o->∃ o',h'.get? b=some o')
 (tups:∀ b xs,H b=some (.tup xs)->H' b=some (.tup xs)) (frzs:∀ b o u,H b=some (.frz o u)->H' b=some (.frz o u)) (tbls:∀ b ps,H b=some (.tbl ps)->∃ more,H' b=some (.tbl (ps++more)))
 (ns:∀ m,s.heap.Ns X.env.locals m->h'.Ns X.env.locals m) (hok:i7 X.prog X.w H' h') (hg:AllBare g') :
 Inv X aa σ H' { s with heap:=h',gens:=g',drawn:=d',toks:=t' }:=by
 have neL:∀ b o,X.s₀.heap.get? b=some o->b≠X.env.locals:=λb o e=>N4 (Ol (NG e) I.ok.above)
 have neC:∀ b o,X.s₀.heap.get? b=some o->b∉X.ex->b∉ch:=λb o e hx hb=>by
  rcases (hch b hb).1 with z | z
  ·exact hx z
  ·exact absurd (Ol (NG e) z) (OW _)
 have cellK:∀ x c,X.env.cells.lookup x=some c->∀ v,s.heap.IsCell c v->h'.IsCell c v:=λx c e v ⟨o,ho,hd⟩=>by
  have nch:c∉ch:=λz=>(hch c z).2.2.1 x c e rfl
  by_cases hc:c∈X.fs
  ·obtain ⟨sl,q⟩:=slot c o (I.FI x c e) hc nch ho (I.freeC x c e)
   exact ⟨_,q,hd⟩
  ·exact ⟨o,keep c o (I.FI x c e) hc nch ho (I.freeC x c e),hd⟩
 refine ⟨I.ok,I.os,hg,⟨λb o e n hb hx=>?_,λb o e n hb hx=>?_,λb o e n hx=>?_,λb o e hx=>?_,λb xs e=>tups b xs (I.base.tups b xs e),λb o xs e=>frzs b o xs (I.base.frzs b o xs e),λb ps e=>?_⟩,?_,λx c e=>?_,?_,λx c e=>?_,λp hp=>?_,hok,I.len⟩
 ·exact keep b o (neL b o e) hb (neC b o e hx) (I.base.keep b o e n hb hx) (I.base.free b o e n hx)
 ·obtain ⟨sl,e1⟩:=I.base.slot b o e n hb hx
  obtain ⟨sl',e2⟩:=slot b _ (neL b o e) hb (neC b o e hx) e1 (I.base.free b o e n hx)
  exact ⟨sl',e2⟩
 ·obtain ⟨o',e1⟩:=I.base.there b o e hx
  exact free b o' (neC b o e hx) e1 (I.base.free b o e n hx)
 ·obtain ⟨o',e1⟩:=I.base.there b o e hx
  exact there b o' (neC b o e hx) e1
 ·obtain ⟨m1,e1⟩:=I.base.tbls b ps e
  obtain ⟨m2,e2⟩:=tbls b _ e1
  exact ⟨m1++m2,by rw [e2,Array.append_assoc]⟩
 ·obtain ⟨m,hn,hl⟩:=I.loc
  refine ⟨m,ns m hn,λi x v e1 e2 e3=>?_⟩
  obtain ⟨u,r,l⟩:=hl i x v e1 e2 e3
  refine ⟨u,r,?_⟩
  rcases l with l | ⟨k,c,e,z⟩
  ·exact .inl l
  ·exact .inr ⟨k,c,e,cellK x c e _ z⟩
 ·obtain ⟨v,z⟩:=I.cell x c e
  exact ⟨v,cellK x c e v z⟩
 ·obtain ⟨m,⟨o,_,_,ho,_⟩,_⟩:=I.loc
  exact free _ o (λz=>(hch _ z).2.1 rfl) ho I.free
 ·obtain ⟨v,o,ho,hd⟩:=I.cell x c e
  exact free c o (λz=>(hch c z).2.2.1 x c e rfl) ho (I.freeC x c e)
 ·obtain ⟨e,n,ne,nf,d⟩:=I.pin p hp
  have nch:p.1∉ch:=λz=>(hch p.1 z).2.2.2 p hp rfl
  exact ⟨keep p.1 p.2 ne nf nch e n,free p.1 p.2 nch e n,ne,nf,d⟩
theorem Inv.un (I:Inv X aa σ H s) (u:Un X.fs [] H H' s.heap h') (hok:i7 X.prog X.w H' h'):Inv X aa σ H' { s with heap:=h',toks:=t' }:=by
 obtain ⟨m,⟨o,es,ep,ho,r⟩,_⟩:=id I.loc
 obtain ⟨sl,hL⟩:=u.any ho I.free (by simp)
 exact I.step (g':=s.gens) (d':=s.drawn) (ch:=[]) (λ_ z=>nomatch z) (λb o _ hb _ e n=>u.keep b o e n hb (by simp)) (λb o _ hb _ e n=>u.slot b o e n hb (by simp)) (λb o _ e n=>u.free b o e n (by simp)) (λb o _ e=>u.there b o e (by simp)) u.tups u.frzs u.tbls (λm' hm=>by
  obtain ⟨o',es',ep',ho',r'⟩:=hm
  rw [ho] at ho'; cases ho'
  exact ⟨_,es',ep',hL,r'⟩) hok I.bare
theorem Inv.call (I:Inv X aa σ H s) (u:Un (frs X.stack) ch H H' s.heap h') (hok:i7 X.prog X.w H' h') (hg:AllBare g')
 (hch:∀ b∈ch,(b∈X.ex\/X.s₀.heap.objs.size<=b)/\b≠X.env.locals/\(∀ x c,X.env.cells.lookup x=some c->c≠b)/\∀ p∈X.pn++aa,p.1≠b) :
 Inv X aa σ H' { s with heap:=h',gens:=g',drawn:=d',toks:=t' }:=by
 obtain ⟨m,⟨o,es,ep,ho,r⟩,_⟩:=id I.loc
 obtain ⟨sl,hL⟩:=u.any ho I.free λz=>(hch _ z).2.1 rfl
 exact I.step (ch:=ch) hch (λb o hL hb hc e n=>u.keep b o e n (λz=>(NU.mp (I.rR b z)).elim hL hb) hc) (λb o _ _ hc e n=>u.any e n hc) (λb o hc e n=>u.free b o e n hc) (λb o hc e=>u.there b o e hc) u.tups u.frzs u.tbls (λm' hm=>by
  obtain ⟨o',es',ep',ho',r'⟩:=hm
  rw [ho] at ho'; cases ho'
  exact ⟨_,es',ep',hL,r'⟩) hok hg
theorem Inv.turned (I:Inv X aa σ H s) (k:∀ b o,b≠it->s.heap.get? b=some o->h'.get? b=some o) (hn:H it=none) (hL:it≠X.env.locals)
 (h1:it∈X.ex\/X.s₀.heap.objs.size<=it) (h2:∀ x c,X.env.cells.lookup x=some c->c≠it) (h3:∀ p∈X.pn++aa,p.1≠it):Inv X aa σ H { s with heap:=h',toks:=t' }:=by
 have nit:∀ b u,H b=some u->b≠it:=λb u e z=>by rw [z,hn] at e; cases e
 refine I.step (g':=s.gens) (d':=s.drawn) (ch:=[it]) (λb hb=>?_) (λb o _ _ hc e _=>k b o (λz=>hc (by simp [z])) e) (λb o _ _ hc e _=>⟨o.slots,k b o (λz=>hc (by simp [z])) e⟩) (λ_ _ _ _ n=>n)
  (λb o hc e=>⟨o,k b o (λz=>hc (by simp [z])) e⟩) (λ_ _ e=>e) (λ_ _ _ e=>e) (λb ps e=>⟨#[],by rw [e]; simp⟩) (λm hm=>?_) (λb u e=>?_) I.bare
 ·have e:b=it:=by simpa using hb
  subst e
  exact ⟨h1,hL,h2,h3⟩
 ·obtain ⟨o,es,ep,ho,r⟩:=hm
  exact ⟨o,es,ep,k _ o (NZ hL) ho,r⟩
 ·refine (I.hok b u e).stay (λc v hc q=>k c v ?_ q) (λ_ q=>q) λ_ _ q=>q
  rcases hc with z | z
  ·rw [z]; exact nit b u e
  ·exact nit c _ z
theorem Inv.tok (I:Inv X aa σ H s) (t):Inv X aa σ H { s with toks:=t }:=I.un (h':=s.heap) (t':=t) Un.refl I.hok
theorem Inv.kept (I:Inv X aa σ H s) (k:∀ b u,s.heap.get? b=some u->h'.get? b=some u):Inv X aa σ H { s with heap:=h',toks:=t' }:=I.un (Un.kept k) (I.hok.kept k)
theorem Inv.laid (I:Inv X aa σ H s) (k:∀ b u,s.heap.get? b=some u->h'.get? b=some u) (hp:s.heap.objs.size<=a) (new:bg X.prog X.w (upd H a o) h' a o) :
 Inv X aa σ (upd H a o) { s with heap:=h',toks:=t' }:=I.un (Un.laid k hp (I.hok.fresh hp)) (I.hok.laid k hp new)
theorem Inv.write (I:Inv X aa σ H s) (mu:Ja (H x)) (he:e=x\/H e=some (.own x)) (k:∀ b u,b≠e->s.heap.get? b=some u->h'.get? b=some u) (heo:∃ u,h'.get? e=some u)
 (new:bg X.prog X.w (upd H x o) h' x o):Inv X aa σ (upd H x o) { s with heap:=h',toks:=t' }:=I.un (Un.write mu he k heo) (I.hok.write mu he k heo new)
theorem Inv.tU (I:Inv X aa σ H s) (h:∀ p∈pins',s.heap.get? p.1=some p.2/\H p.1=none/\p.1≠X.env.locals/\p.1∉X.fs/\∀ v,p.2.data≠.cell v):Inv X pins' σ H s :=
 ⟨I.ok,I.os,I.bare,I.base,I.loc,I.cell,I.free,I.freeC,λp hp=>(N3.mp hp).elim (λz=>I.pin p (Qt _ z)) (h p),I.hok,I.len⟩
theorem pI {N:List Str} (hN:N.Nodup) {i j:Nat} (a:N[i]?=some x) (b:N[j]?=some x):i=j:=by
 obtain ⟨h1,e1⟩:=NJ.mp a
 obtain ⟨h2,e2⟩:=NJ.mp b
 exact (List.getElem_inj hN).mp (e1.trans e2.symm)
theorem vZ (I:Inv X aa σ H s) (hN:X.N.Nodup) (hi:X.N[i]?=some x) (hx:Loc X.env.scope x) (r:RelV v u)
 (h:∀ s',Inv X aa (σ.set i (some v)) H s'->(∃ a,O3 a s.heap s'.heap/\(a=X.env.locals\/X.env.cells.lookup x=some a))->Q () s') (hf:X.fn x=true\/X.env.scope.names.lookup x=some .local:=by first | exact .inl rfl | exact .inr rfl | assumption):wpAny M A (storeName X.env x u) Q E s:=by
 obtain ⟨m,hn,hl⟩:=id I.loc
 have hcls:(X.env.scope.kind == .class || (X.env.scope.kind == .module && X.env.locals != X.env.globals))=false:=by rw [I.ok.kind]; rfl
 have hiσ:i<σ.length:=by rw [I.len]; exact (NJ.mp hi).1
 have FI:=I.FI
 have tracked:∀ {a:Addr} {h':Heap},(∃ o,s.heap.get? a=some o/\H a=none)->O3 a s.heap h'->i7 X.prog X.w H h':=λ{a h'} ha hs b ob e=>by
  obtain ⟨_,_,hfree⟩:=ha
  refine (I.hok b ob e).stay (λc w' hc q=>(hs.2 c ?_).trans q) (λ_ q=>q) λ_ _ q=>q
  rintro rfl
  rcases hc with rfl | hc
  ·rw [hfree] at e; cases e
  ·rw [hfree] at hc; cases hc
 rcases hx with hk | hk
 ·refine wpAny_storeName_local hk hn (λh' hn' hs=>?_) hcls
  obtain ⟨oL,_,_,hoL,_⟩:=id hn
  refine h _ ⟨I.ok,I.os,I.bare,⟨λb o e n hb hx=>?_,λb o e n hb hx=>?_,I.base.free,λb o e hx=>?_,I.base.tups,I.base.frzs,I.base.tbls⟩,⟨_,hn',λj y v' e1 e2 e3=>?_⟩,λy c e=>?_,I.free,I.freeC,λp hp=>?_,tracked ⟨oL,hoL,I.free⟩ hs,by simpa using I.len⟩ ⟨_,hs,.inl rfl⟩
  ·exact (hs.2 b (N4 (Ol (NG e) I.ok.above))).trans (I.base.keep b o e n hb hx)
  ·obtain ⟨sl,e1⟩:=I.base.slot b o e n hb hx
   exact ⟨sl,(hs.2 b (N4 (Ol (NG e) I.ok.above))).trans e1⟩
  ·obtain ⟨o',e1⟩:=I.base.there b o e hx
   exact ⟨o',(hs.2 b (N4 (Ol (NG e) I.ok.above))).trans e1⟩
  ·by_cases hj:j=i
   ·subst hj
    rw [hi] at e1; cases e1
    rw [OP hiσ] at e2
    cases e2
    exact ⟨u,r,.inl ⟨hk,by simp⟩⟩
   ·rw [OR (NZ hj)] at e2
    obtain ⟨u',r',q⟩:=hl j y v' e1 e2 e3
    refine ⟨u',r',?_⟩
    rcases q with ⟨k,e⟩ | ⟨k,c,e,z⟩
    ·refine .inl ⟨k,?_⟩
     have:y≠x:=λe=>hj (pI hN e1 (e ▸ hi))
     simp [this,e]
    ·exact .inr ⟨k,c,e,z.sameBut hs (FI y c e)⟩
  ·obtain ⟨w',z⟩:=I.cell y c e
   exact ⟨w',z.sameBut hs (FI y c e)⟩
  ·obtain ⟨e,n,ne,nf,d⟩:=I.pin p hp
   exact ⟨(hs.2 p.1 ne).trans e,n,ne,nf,d⟩
 ·have hfn:X.fn x=true:=by
   rcases hf with z | z
   ·exact z
   ·rw [z] at hk; cases hk
  obtain ⟨c,hc⟩:=I.ok.has x (.inl hk)
  obtain ⟨w',z⟩:=I.cell x c hc
  refine wpAny_storeName_cell I.ok.kind hk hc z (λh' hc' hs=>?_)
  obtain ⟨oc,hoc,hocd⟩:=id z
  refine h { s with heap:=h' } ⟨I.ok,I.os,I.bare,⟨λb o e n hb hx=>?_,λb o e n hb hx=>?_,I.base.free,λb o e hx=>?_,I.base.tups,I.base.frzs,I.base.tbls⟩,⟨m,hn.sameBut hs (NZ (FI x c hc)),λj y v' e1 e2 e3=>?_⟩,λy c' e=>?_,I.free,I.freeC,λp hp=>?_,tracked ⟨oc,hoc,I.freeC x c hc⟩ hs,by simpa using I.len⟩ ⟨c,hs,.inr hc⟩
  ·exact (hs.2 b (N4 (Ol (NG e) (I.ok.cab x c hfn hc)))).trans (I.base.keep b o e n hb hx)
  ·obtain ⟨sl,e1⟩:=I.base.slot b o e n hb hx
   exact ⟨sl,(hs.2 b (N4 (Ol (NG e) (I.ok.cab x c hfn hc)))).trans e1⟩
  ·obtain ⟨o',e1⟩:=I.base.there b o e hx
   exact ⟨o',(hs.2 b (N4 (Ol (NG e) (I.ok.cab x c hfn hc)))).trans e1⟩
  ·by_cases hj:j=i
   ·subst hj
    rw [hi] at e1; cases e1
    rw [OP hiσ] at e2
    cases e2
    exact ⟨u,r,.inr ⟨.inl hk,c,hc,hc'⟩⟩
   ·rw [OR (NZ hj)] at e2
    obtain ⟨u',r',q⟩:=hl j y v' e1 e2 e3
    refine ⟨u',r',?_⟩
    rcases q with q | ⟨k,c',e,z'⟩
    ·exact .inl q
    ·refine .inr ⟨k,c',e,z'.sameBut hs ?_⟩
     rintro rfl
     exact hj (pI hN e1 (I.ok.inj _ _ _ e hc ▸ hi))
  ·by_cases hcc:c'=c
   ·subst hcc; exact ⟨_,hc'⟩
   ·obtain ⟨w2,z2⟩:=I.cell y c' e
    exact ⟨w2,z2.sameBut hs hcc⟩
  ·obtain ⟨e,n,ne,nf,d⟩:=I.pin p hp
   refine ⟨(hs.2 p.1 ?_).trans e,n,ne,nf,d⟩
   intro q
   rw [q,hoc] at e
   have q':oc=p.2:=O5 e
   exact d w' (by rw [<- q']; exact hocd)
theorem kg (I:Inv X aa σ H s) (hN:X.N.Nodup) (hi:X.N[i]?=some x) (hx:Loc X.env.scope x) (r:RelV v u)
 (h:∀ s',Inv X aa (σ.set i (some v)) H s'->Q () s') (hf:X.fn x=true\/X.env.scope.names.lookup x=some .local:=by first | exact .inl rfl | exact .inr rfl | assumption):wpAny M A (storeName X.env x u) Q E s :=
 vZ I hN hi hx r (λs' I' _=>h s' I') hf
theorem Inv.Jc (I:Inv X aa σ H s) (ho:s'.os=s.os) (u:Un (frs X.stack) ch H H' s.heap s'.heap) (hok:i7 X.prog X.w H' s'.heap) (hg:AllBare s'.gens)
 (hch:∀ b∈ch,(b∈X.ex\/X.s₀.heap.objs.size<=b)/\b≠X.env.locals/\(∀ x c,X.env.cells.lookup x=some c->c≠b)/\∀ p∈X.pn++aa,p.1≠b):Inv X aa σ H' s':=by
 obtain ⟨h',g',d',t',o'⟩:=s'
 have e:o'=s.os:=ho
 subst e
 exact I.call (g':=g') (t':=t') (d':=d') u hok hg hch
end
noncomputable abbrev XK:=Value->Option Addr->Hp->Prop
noncomputable abbrev St:=List (Option V)
noncomputable abbrev VK:=V->Hp->Prop
noncomputable abbrev TE:=St->Hp->VK->Prop
noncomputable abbrev TT:=St->Hp->(Bool->Hp->Prop)->Prop
noncomputable abbrev TA:=St->Hp->(List V->Hp->Prop)->Prop
structure Ends where
 nx:St->Hp->Prop
 rt:VK
 bk:St->Hp->Prop:=λ_ _=>False
 ct:St->Hp->Prop:=λ_ _=>False
noncomputable abbrev TS:=Ends->St->Hp->Prop
def EP (X:Cx) (aa:List (Addr×Obj)) (σ:St) (Q:VK) (u:Value) (s':Shared):Prop:=∃ v H',Inv X aa σ H' s'/\RelV v u/\Q v H'
def TP (X:Cx) (aa:List (Addr×Obj)) (σ:St) (Q:Bool->Hp->Prop) (b:Bool) (s':Shared):Prop:=∃ H',Inv X aa σ H' s'/\Q b H'
def AP (X:Cx) (aa:List (Addr×Obj)) (σ:St) (Q:List V->Hp->Prop) (us:List Value) (s':Shared):Prop:=∃ vs H',Inv X aa σ H' s'/\Vals vs us/\Q vs H'
def SP (X:Cx) (aa:List (Addr×Obj)) (D:Ends) (f:Flow) (s':Shared):Prop :=
 match f with
 | .next=>∃ σ' H',Inv X aa σ' H' s'/\D.nx σ' H'
 | .brk=>∃ σ' H',Inv X aa σ' H' s'/\D.bk σ' H'
 | .cont=>∃ σ' H',Inv X aa σ' H' s'/\D.ct σ' H'
 | .ret u=>∃ v σ' H',Inv X aa σ' H' s'/\RelV v u/\D.rt v H'
def PE (X:Cx) (e:Expr) (t:TE):Prop :=
 ∀ (aa:List (Addr×Obj)) (s:Shared) (σ:St) (H:Hp) (Q:VK),Inv X aa σ H s->t σ H Q->wpAny (model X.prog X.w) X.A (eval e X.env) (EP X aa σ Q) X.xe s
def PT (X:Cx) (e:Expr) (t:TT):Prop :=
 ∀ (aa:List (Addr×Obj)) (s:Shared) (σ:St) (H:Hp) (Q:Bool->Hp->Prop),Inv X aa σ H s->t σ H Q->wpAny (model X.prog X.w) X.A (isTrue e X.env (eval e X.env)) (TP X aa σ Q) X.xe s
def PW (X:Cx) (e:Expr) (t:TT):Prop :=
 ∀ (whole:Sem Value) (aa:List (Addr×Obj)) (s:Shared) (σ:St) (H:Hp) (Q:Bool->Hp->Prop),Inv X aa σ H s->t σ H Q->wpAny (model X.prog X.w) X.A (isTrue e X.env whole) (TP X aa σ Q) X.xe s
def PA (X:Cx) (es:List Expr) (t:TA):Prop :=
 ∀ (pos:Pos) (aa:List (Addr×Obj)) (s:Shared) (σ:St) (H:Hp) (Q:List V->Hp->Prop),Inv X aa σ H s->t σ H Q->wpAny (model X.prog X.w) X.A (spliced (backTo pos (starEach es X.env))) (AP X aa σ Q) X.xe s
def PS (X:Cx) (st:Stmt) (t:TS):Prop :=
 ∀ (aa:List (Addr×Obj)) (s:Shared) (σ:St) (H:Hp) (D:Ends),Inv X aa σ H s->t D σ H->wpAny (model X.prog X.w) X.A (exec st X.env) (SP X aa D) X.xe s
def rS (X:Cx) (st:List Stmt) (t:TS):Prop :=
 ∀ (aa:List (Addr×Obj)) (s:Shared) (σ:St) (H:Hp) (D:Ends),Inv X aa σ H s->t D σ H->wpAny (model X.prog X.w) X.A (execs st X.env) (SP X aa D) X.xe s
theorem bC (h:wpAny M A t Q E s) (hQ:∀ a s,Q a s->Q' a s):wpAny M A t Q' E s:=Oh h hQ λ_ _ x=>x
section
noncomputable def Jd (i:Nat):TE:=λσ H Q=>∃ v,σ[i]?=some (some v)/\Q v H
noncomputable def tC (v:V):TE:=λ_ H Q=>Q v H
theorem rT (hN:X.N[i]?=some x) (hv:LB X.env.scope x) (hd:(x == ("__debug__":Str))=false:=by decide) (hcd:(x == ("__classdict__":Str))=false:=by decide):PE X (.Name x pos) (Jd i):=by
 intro aa s σ H Q I h
 obtain ⟨v,e,h⟩:=h
 obtain ⟨m,hn,hl⟩:=I.loc
 obtain ⟨u,r,l⟩:=hl i x v hN e hv
 have fin:EP X aa σ Q u s:=⟨v,H,I,r,h⟩
 rcases l with ⟨hk,hm⟩ | ⟨hk,c,hc,hcell⟩
 ·exact wpAny_Name (wpAny_loadName_local I.ok.kind hk hn hm fin) hd
 ·rcases hk with hk | hk
  ·exact wpAny_Name (wpAny_loadName_cell I.ok.kind hk hc hcell fin) hd
  ·exact wpAny_Name (wpAny_loadName_free I.ok.kind hk hc hcell fin hcd) hd
theorem yb {i j pos}:PE X (.Constant (.int i) j pos) (tC (.int i)):=λ_ _ _ H _ I h=>wpAny_Constant_int ⟨.int i,H,I.tok _,⟨_,rfl⟩,h⟩
theorem tV {b j pos}:PE X (.Constant (.bool b) j pos) (tC (.bl b)):=λ_ _ _ H _ I h=>Constant_bool ⟨.bl b,H,I,rfl,h⟩
def Gl (X:Cx) (x:Str):Prop:=X.env.kindOf x=some .globalImplicit
theorem nK (I:Inv X aa σ H s) (hg:Gl X x) (hm:X.mg x=some u) (h:Q u s)
 (hd:(x == ("__debug__":Str))=false:=by decide):wpAny (model X.prog X.w) X.A (eval (.Name x pos) X.env) Q E s :=
 Calls.Name_function_global I.ok.kind hg (Calls.loadGlobal_global (by rw [I.ok.glob]; exact I.mod.glob.keeps I.bk) hm h) hd
theorem dz (I:Inv X aa σ H s) (hg:Gl X x) (hm:X.mg x=none) (hv:bootBuiltins x=some u) (h:Q u s)
 (hn:x≠"__name__":=by decide) (hd:(x == ("__debug__":Str))=false:=by decide):wpAny (model X.prog X.w) X.A (eval (.Name x pos) X.env) Q E s:=by
 obtain ⟨mb,h1,h2⟩:=I.mod.blt
 exact Calls.Name_function_global I.ok.kind hg (Calls.loadGlobal_builtin (by rw [I.ok.glob]; exact I.mod.glob.keeps I.bk) hm (by rw [I.ok.blt]; exact h1.keeps I.bk) ((h2 x hn).trans hv) h) hd
theorem tW (hg:Gl X x) (hm:X.mg x=some u) (r:RelV v u) (hd:(x == ("__debug__":Str))=false:=by decide):PE X (.Name x pos) (tC v) :=
 λ_ _ _ H _ I h=>nK I hg hm ⟨v,H,I,r,h⟩ hd
def PC (X:Cx) (op:CmpOp) (a b:Expr) (t:TE):Prop :=
 ∀ (aa:List (Addr×Obj)) (s:Shared) (σ:St) (H:Hp) (Q:VK),Inv X aa σ H s->t σ H Q ->
  wpAny (model X.prog X.w) X.A (eval a X.env) (λv s₁=>wpAny (model X.prog X.w) X.A (eval b X.env) (λu s₂=>wpAny (model X.prog X.w) X.A (compareOp op v u) (EP X aa σ Q) X.xe s₂) X.xe s₁) X.xe s
noncomputable def tB (t:TE):TT:=λσ H Q=>t σ H λx H1=>∃ c,x=.bl c/\Q c H1
theorem FJ (h:PC X op a b t) (h1:behindInMarks op b=false:=by first | exact nobehind _ (by decide) (by decide) | rfl):PT X (.Compare a [op] [b] pos) (tB t):=by
 intro aa s σ H Q I hw
 refine wpAny_isTrue_Compare1 (bC (h aa s σ H _ I hw) λv s1 h1=>bC h1 λu s2 h2=>bC h2 λc s3 ⟨x,H1,I1,r1,q1⟩=>?_) h1
 obtain ⟨d,rfl,q⟩:=q1
 cases r1
 exact QS ⟨H1,I1,q⟩
theorem FL (h:PE X e t) (he:∀ whole,isTrue e X.env whole=(do let v <- whole; standAt e.pos; holding [v] (truthy v)):=by intro _; rfl):PT X e (tB t):=by
 intro aa s σ H Q I hw
 refine isTrue_plain (bC (h aa s σ H _ I hw) λv s1 ⟨x,H1,I1,r1,q1⟩=>?_) (he _)
 obtain ⟨d,rfl,q⟩:=q1
 cases r1
 exact QS ⟨H1,I1,q⟩
variable {rest:List Expr}
noncomputable def LD (t u:TT):TT:=λσ H Q=>t σ H λc H1=>if c=true then u σ H1 Q else Q false H1
noncomputable def M5 (t u:TT):TT:=λσ H Q=>t σ H λc H1=>if c=true then Q true H1 else u σ H1 Q
noncomputable def LF (t:TT):TT:=λσ H Q=>t σ H λc H1=>Q (!c) H1
theorem pw_and1 (ha:PT X a tA):PW X (.BoolOp .And [a] pos) tA:=by
 intro wh aa s σ H Q I h
 refine isTrue_and (bC (ha aa s σ H Q I h) λc s1 e=>?_)
 cases c with
 | true=>exact isTrue_and_nil e
 | false=>exact e
theorem pw_or1 (ha:PT X a tA):PW X (.BoolOp .Or [a] pos) tA:=by
 intro wh aa s σ H Q I h
 refine isTrue_or (bC (ha aa s σ H Q I h) λc s1 e=>?_)
 cases c with
 | false=>exact isTrue_or_nil e
 | true=>exact e
theorem pw_and (ha:PT X a tA) (hb:PW X (.BoolOp .And (b::rest) pos) tB'):PW X (.BoolOp .And (a::b::rest) pos) (LD tA tB'):=by
 intro wh aa s σ H Q I h
 refine isTrue_and (bC (ha aa s σ H _ I h) λc s1 ⟨H1,I1,q1⟩=>?_)
 cases c with
 | true=>exact hb wh aa s1 σ H1 Q I1 q1
 | false=>exact ⟨H1,I1,q1⟩
theorem pw_or (ha:PT X a tA) (hb:PW X (.BoolOp .Or (b::rest) pos) tB'):PW X (.BoolOp .Or (a::b::rest) pos) (M5 tA tB'):=by
 intro wh aa s σ H Q I h
 refine isTrue_or (bC (ha aa s σ H _ I h) λc s1 ⟨H1,I1,q1⟩=>?_)
 cases c with
 | true=>exact ⟨H1,I1,q1⟩
 | false=>exact hb wh aa s1 σ H1 Q I1 q1
theorem FN (ha:PT X a tA):PT X (.UnaryOp .Not a pos) (LF tA):=by
 intro aa s σ H Q I h
 exact isTrue_not (ha aa s σ H (λc H1=>Q (!c) H1) I h)
noncomputable def Je (ta tb:TE):TE:=λσ H Q=>ta σ H λx H1=>∃ c,x=.bl c/\if c=true then tb σ H1 Q else Q (.bl false) H1
theorem FO {op} (h:PE X a t):PE X (.BoolOp op [a] pos) t:=λaa s σ H Q I hw=>BoolOp_one (h aa s σ H Q I hw)
theorem FP (ha:PE X a ta) (hb:PE X (.BoolOp .And (b::rest) pos) tb):PE X (.BoolOp .And (a::b::rest) pos) (Je ta tb):=by
 intro aa s σ H Q I h
 refine BoolOp_and (bC (ha aa s σ H _ I h) λv s1 ⟨x,H1,I1,r1,q1⟩=>?_)
 obtain ⟨c,rfl,q1⟩:=q1
 cases r1
 refine QS ?_
 cases c with
 | true=>exact hb aa s1 σ H1 Q I1 q1
 | false=>exact ⟨.bl false,H1,I1,rfl,q1⟩
noncomputable def M6 (t:TT) (ta tb:TE):TE:=λσ H Q=>t σ H λc H1=>if c=true then ta σ H1 Q else tb σ H1 Q
theorem yc (hc:PT X c tA) (ha:PE X a ta) (hb:PE X b tb):PE X (.IfExp c a b pos) (M6 tA ta tb):=by
 intro aa s σ H Q I h
 refine wpAny_IfExp (bC (hc aa s σ H _ I h) λd s1 ⟨H1,I1,q1⟩=>?_)
 cases d with
 | true=>exact ha aa s1 σ H1 Q I1 q1
 | false=>exact hb aa s1 σ H1 Q I1 q1
end
def fH (K:Nu) (H:Hp) (a:Addr) (xs:List V):Prop :=
 Rd H a (.lst xs) \/
  ∃ (o:Obj) (its:Array Value) (n:Nat),K.lookup a=some o/\o.cls=.type "list"/\o.dict=none/\o.data=.seq its n/\its.size<=sizeLine/\Vals xs its.toList
def c8 (K:Nu) (H:Hp) (a:Addr) (xs:List V):Prop :=
 Rd H a (.tup xs) \/
  ∃ (o:Obj) (its:Array Value) (n:Nat),K.lookup a=some o/\o.cls=.type "tuple"/\o.data=.seq its n/\its.size<=sizeLine/\Vals xs its.toList
noncomputable def LG:Value->Option V
 | .none=>some .non
 | .bool b=>some (.bl b)
 | .int i _=>some (.int i)
 | .str x _=>some (.str x)
 | .bytes b _=>some (.byt b)
 | .float b _=>some (.flt b)
 | .ref a=>some (.ref a)
 | .type n=>some (.ty n)
 | _=>none
theorem RelV.abs (r:RelV x u):LG u=some x:=by
 cases x with
 | non=>cases r; rfl
 | bl _=>cases r; rfl
 | int _=>obtain ⟨t,rfl⟩:=r; rfl
 | str _=>obtain ⟨t,rfl⟩:=r; rfl
 | byt _=>obtain ⟨t,rfl⟩:=r; rfl
 | flt _=>obtain ⟨t,rfl⟩:=r; rfl
 | ref _=>cases r; rfl
 | ty _=>cases r; rfl
theorem RelV.inj (r:RelV x u) (q:RelV y u):x=y:=O5 (r.abs.symm.trans q.abs)
theorem Vals.inj:∀ {xs ys:List V} {us:List Value},Vals xs us->Vals ys us->xs=ys
 | _,_,_,.nil,.nil=>rfl
 | _,_,_,.cons r t,.cons r' t'=>by rw [r.inj r',Vals.inj t t']
theorem Inv.list (I:Inv X aa σ H s) (h:fH X.K H a xs):∃ its:List Value,Vals xs its/\PlainL s.heap a its.toArray/\xs.length<=sizeLine:=by
 rcases h with h | ⟨o,its,n,hk,hc,hd,hs,hz,r⟩
 ·obtain ⟨z,its,n,r,e⟩:=h.ok I.hok
  exact ⟨its,r,⟨_,n,e,rfl,rfl,rfl⟩,z⟩
 ·refine ⟨its.toList,r,⟨o,n,I.BQ a o hk,hc,hd,by simpa using hs⟩,?_⟩
  have e:=r.length
  simp only [Oo] at e
  lia
theorem Inv.tuple (I:Inv X aa σ H s) (h:c8 X.K H a xs):∃ its:List Value,Vals xs its/\IsTup s.heap a its.toArray/\xs.length<=sizeLine:=by
 rcases h with h | ⟨o,its,n,hk,hc,hs,hz,r⟩
 ·obtain ⟨z,its,r,p⟩:=h.ok I.hok
  exact ⟨its,r,p,z⟩
 ·refine ⟨its.toList,r,⟨o,I.BQ a o hk,hc,n,by simpa using hs⟩,?_⟩
  have e:=r.length
  simp only [Oo] at e
  lia
theorem Inv.pJ (I:Inv X aa σ H s) (h:fH X.K H a xs) (h':fH X.K H a ys):xs=ys:=by
 obtain ⟨its,r,⟨o,n,e,_,_,d⟩,_⟩:=I.list h
 obtain ⟨its',r',⟨o',n',e',_,_,d'⟩,_⟩:=I.list h'
 rw [e] at e'; cases e'
 rw [d] at d'
 injection d' with d1 _
 have:its=its':=by simpa using congrArg Array.toList d1
 subst this
 exact r.inj r'
theorem Inv.ja (I:Inv X aa σ H s) (h:c8 X.K H a xs) (h':c8 X.K H a ys):xs=ys:=by
 obtain ⟨its,r,⟨o,e,_,n,d⟩,_⟩:=I.tuple h
 obtain ⟨its',r',⟨o',e',_,n',d'⟩,_⟩:=I.tuple h'
 rw [e] at e'; cases e'
 rw [d] at d'
 injection d' with d1 _
 have:its=its':=by simpa using congrArg Array.toList d1
 subst this
 exact r.inj r'
noncomputable abbrev Cx.lS (X:Cx) (E:Value->Shared->Prop):Cx:={ X with xe:=E }
noncomputable abbrev Cx.IM (X:Cx):Cx:=X.lS λ_ _=>False
theorem Cx.Ok.lS {X:Cx} (ok:X.Ok) (E):(X.lS E).Ok :=
 ⟨ok.mod,ok.kind,ok.glob,ok.blt,ok.above,ok.inj,ok.has,ok.cab,ok.hd,ok.frames,ok.stk,ok.exf,ok.bs,ok.bsz,ok.noex,ok.exfs,ok.i9,ok.frf⟩
theorem Cx.Ok.fJ {X:Cx} (ok:(X.lS E).Ok):X.Ok :=
 ⟨ok.mod,ok.kind,ok.glob,ok.blt,ok.above,ok.inj,ok.has,ok.cab,ok.hd,ok.frames,ok.stk,ok.exf,ok.bs,ok.bsz,ok.noex,ok.exfs,ok.i9,ok.frf⟩
theorem Inv.lS (I:Inv X aa σ H s) (E):Inv (X.lS E) aa σ H s:=⟨I.ok.lS E,I.os,I.bare,I.base,I.loc,I.cell,I.free,I.freeC,I.pin,I.hok,I.len⟩
theorem Inv.fJ (I:Inv (X.lS E) aa σ H s):Inv X aa σ H s:=⟨I.ok.fJ,I.os,I.bare,I.base,I.loc,I.cell,I.free,I.freeC,I.pin,I.hok,I.len⟩
theorem SP.fJ (h:SP (X.lS E) aa D f s'):SP X aa D f s':=by
 cases f with
 | next=>obtain ⟨σ',H',I,q⟩:=h; exact ⟨σ',H',I.fJ,q⟩
 | brk=>obtain ⟨σ',H',I,q⟩:=h; exact ⟨σ',H',I.fJ,q⟩
 | cont=>obtain ⟨σ',H',I,q⟩:=h; exact ⟨σ',H',I.fJ,q⟩
 | ret u=>obtain ⟨v,σ',H',I,r,q⟩:=h; exact ⟨v,σ',H',I.fJ,r,q⟩
theorem rS.IM {st:List Stmt} (h:rS X.IM st t):rS X st t:=λaa s σ H D I hw =>
 Oh (h aa s σ H D (I.lS _) hw) (λ_ _ q=>q.fJ) λ_ _ z=>OF z
section
variable {st:Stmt} {rest:List Stmt}
noncomputable def Jf:TS:=λD σ H=>D.nx σ H
noncomputable def LH (t u:TS):TS:=λD σ H=>t { D with nx:=u D } σ H
theorem B5:rS X [] Jf:=λ_ _ σ H _ I h=>wpAny_execs_nil ⟨σ,H,I,h⟩
theorem yd (h1:PS X st t) (h2:rS X rest u):rS X (st::rest) (LH t u):=by
 intro aa s σ H D I h
 refine wpAny_execs_cons (bC (h1 aa s σ H { D with nx:=u D } I h) λf s1 q=>?_)
 cases f with
 | next =>
  obtain ⟨σ',H',I',q⟩:=q
  exact h2 aa s1 σ' H' D I' q
 | ret v=>exact q
 | brk=>exact q
 | cont=>exact q
theorem Inv.quiet (I:Inv X aa σ H s):interactive X.env=false:=by simp [interactive,I.ok.kind]
noncomputable def Jg (te:TE):TS:=λD σ H=>te σ H λ_ H1=>D.nx σ H1
theorem jT (he:PE X e te) (hs:swapsWith e none pos.line X.env=pure false:=by rfl):PS X (.Expr e pos) (Jg te):=by
 intro aa s σ H D I h
 exact wpAny_Expr_any (bC (he aa s σ H _ I h) λv s1 ⟨x,H1,I1,r1,q1⟩=>⟨σ,H1,I1,q1⟩) I.quiet hs
noncomputable def LI (te:TE):TS:=λD σ H=>te σ H D.rt
theorem ye (he:PE X e te):PS X (.Return (some e) pos) (LI te):=by
 intro aa s σ H D I h
 exact wpAny_Return_some (bC (he aa s σ H _ I h) λv s1 ⟨x,H1,I1,r1,q1⟩=>⟨x,σ,H1,I1,r1,q1⟩)
noncomputable def LJ (c:TT) (t u:TS):TS:=λD σ H=>c σ H λb H1=>if b=true then t D σ H1 else u D σ H1
theorem Jh (hc:PT X c tc) (ha:rS X a t) (hb:rS X b u):PS X (.If c a b pos) (LJ tc t u):=by
 intro aa s σ H D I h
 refine wpAny_If (bC (hc aa s σ H _ I h) λd s1 ⟨H1,I1,q1⟩=>?_)
 cases d with
 | true=>exact ha aa s1 σ H1 D I1 q1
 | false=>exact hb aa s1 σ H1 D I1 q1
end
noncomputable abbrev TG:=V->St->Hp->(St->Hp->Prop)->Prop
noncomputable abbrev Ji:=List V->St->Hp->(St->Hp->Prop)->Prop
def PG (X:Cx) (target:Expr) (t:TG):Prop :=
 ∀ (aa:List (Addr×Obj)) (s:Shared) (σ:St) (H:Hp) (v:V) (u:Value) (Q:St->Hp->Prop),Inv X aa σ H s->RelV v u->t v σ H Q ->
  wpAny (model X.prog X.w) X.A (assign target X.env u) (λ_ s'=>∃ σ' H',Inv X aa σ' H' s'/\Q σ' H') X.xe s
def IP (X:Cx) (ts:List Expr) (t:Ji):Prop :=
 ∀ (aa:List (Addr×Obj)) (s:Shared) (σ:St) (H:Hp) (vs:List V) (us:List Value) (Q:St->Hp->Prop),Inv X aa σ H s->Vals vs us->t vs σ H Q ->
  wpAny (model X.prog X.w) X.A (assignInOrder ((assignEach ts X.env).map (·.2)) us) (λ_ s'=>∃ σ' H',Inv X aa σ' H' s'/\Q σ' H') X.xe s
noncomputable abbrev FQ:=V->V->V->Hp->(Hp->Prop)->Prop
def Jj (X:Cx) (t:FQ):Prop :=
 ∀ (aa:List (Addr×Obj)) (s:Shared) (σ:St) (H:Hp) (o i v:V) (ov iv u:Value) (Q:Hp->Prop),Inv X aa σ H s->RelV o ov->RelV i iv->RelV v u->t o i v H Q ->
  wpAny (model X.prog X.w) X.A (setItem ov iv u) (λ_ s'=>∃ H',Inv X aa σ H' s'/\Q H') X.xe s
noncomputable abbrev MR:=V->V->Hp->VK->Prop
def MS (X:Cx) (op:Operator) (t:MR):Prop :=
 ∀ (aa:List (Addr×Obj)) (s:Shared) (σ:St) (H:Hp) (x y:V) (v u:Value) (Q:VK),Inv X aa σ H s->RelV x v->RelV y u->t x y H Q ->
  wpAny (model X.prog X.w) X.A (inplaceOp op v u) (EP X aa σ Q) X.xe s
noncomputable def EA (i:Nat):TG:=λv σ H Q=>Q (σ.set i (some v)) H
theorem tX (hN:X.N.Nodup) (hi:X.N[i]?=some x) (hx:Loc X.env.scope x) (hf:X.fn x=true\/X.env.scope.names.lookup x=some .local:=by first | exact .inl rfl | exact .inr rfl | assumption):PG X (.Name x pos) (EA i):=by
 intro aa s σ H v u Q I r h
 exact wpAny_assign_Name (kg I hN hi hx r (λs' I'=>⟨_,H,I',h⟩) hf)
noncomputable def LK:Ji:=λvs σ H Q=>vs=[]/\Q σ H
noncomputable def Jk (t:TG) (u:Ji):Ji:=λvs σ H Q=>∃ v r,vs=v::r/\t v σ H λσ' H'=>u r σ' H' Q
theorem B6:IP X [] LK:=by
 intro aa s σ H vs us Q I r h
 obtain ⟨e,h⟩:=h
 subst e
 cases r
 exact assignInOrder_nil ⟨σ,H,I,h⟩
theorem yf (h1:PG X e t) (h2:IP X es u)
 (hs:(assignEach (e::es) X.env).map (·.2)=assign e X.env::(assignEach es X.env).map (·.2):=by rfl):IP X (e::es) (Jk t u):=by
 intro aa s σ H vs us Q I r h
 obtain ⟨v,vr,e1,h⟩:=h
 subst e1
 cases r with
 | cons r rr =>
  rw [hs]
  refine assignInOrder_cons (bC (h1 aa s σ H _ _ _ I r h) λ_ s1 ⟨σ1,H1,I1,q1⟩=>?_)
  exact h2 aa s1 σ1 H1 _ _ Q I1 rr q1
noncomputable def LL (K:Nu) (n:Nat) (t:Ji):TG:=λv σ H Q=>∃ a xs,v=.ref a/\c8 K H a xs/\xs.length=n/\t xs σ H Q
theorem FT (hc:X.calm=true) (h:IP X es t)
 (hn:(assignEach es X.env).length=n:=by rfl) (hst:(assignEach es X.env).findIdx? (·.1)=none:=by rfl):PG X (.Tuple es k pos) (LL X.K n t):=by
 intro aa s σ H v u Q I r hw
 obtain ⟨a,xs,e1,hq,hl,hw⟩:=hw
 subst e1
 cases r
 obtain ⟨its,rv,ht,hz⟩:=I.tuple hq
 refine assign_Tuple_tuple (I.ok.hd hc) ht (by simp [hn,<- hl,rv.length]) hst λh' hx=>?_
 have I1:Inv X aa σ H { s with heap:=h' }:=I.kept (t':=s.toks) λb o e=>hx b o (N4 (NG e)) e
 exact h aa _ σ H xs _ Q I1 (by simpa using rv) hw
noncomputable def LM (to ti:TE) (t:FQ):TG:=λv σ H Q=>to σ H λo H1=>ti σ H1 λi H2=>t o i v H2 λH3=>Q σ H3
theorem FU (ho:PE X o to) (hi:PE X i ti) (hs:Jj X t)
 (ha:∀ v,assign (.Subscript o i pos) X.env v=(do
   let ov <- holding [v] (eval o X.env)
   let iv <- holding [v,ov] (eval i X.env)
   standAt pos
   holding [v,ov,iv] (setItem ov iv v)
   release [v,ov,iv] []):=by intro _; rfl):PG X (.Subscript o i pos) (LM to ti t):=by
 intro aa s σ H v u Q I r h
 rw [ha]
 refine Nt (ON (bC (ho aa s σ H _ I h) λov s1 ⟨x,H1,I1,r1,q1⟩=>?_))
 refine Nt (ON (bC (hi aa s1 σ H1 _ I1 q1) λiv s2 ⟨y,H2,I2,r2,q2⟩=>?_))
 refine Nt (wpAny_standAt (Nt (ON (bC (hs aa s2 σ H2 x y v ov iv u _ I2 r1 r2 r q2) λ_ s3 ⟨H3,I3,q3⟩=>?_))))
 exact wpAny_release ⟨σ,H3,I3,q3⟩
noncomputable def Jl (te:TE) (g:TG):TS:=λD σ H=>te σ H λx H1=>g x σ H1 D.nx
theorem FW (he:PE X e te) (hg:PG X tg g) (hs:swapsWithSole [tg] e pos.line X.env=pure false:=by rfl) (hw:swappedStores [tg] e X.env=pure none:=by rfl)
 (h1:(assignEach [tg] X.env).map (·.2)=[assign tg X.env]:=by rfl):PS X (.Assign [tg] e pos) (Jl te g):=by
 intro aa s σ H D I h
 refine wpAny_Assign_stores (bC (he aa s σ H _ I h) λv s1 ⟨x,H1,I1,r1,q1⟩=>?_) hs hw
 rw [h1]
 exact bC (hg aa s1 σ H1 x v _ I1 r1 q1) λ_ s2 q=>q
theorem FY (hN:X.N.Nodup) (hi:X.N[i]?=some x) (hx:Loc X.env.scope x) (he:PE X e te) (hs:swapsWith e (some (.Name x pos')) pos.line X.env=pure false:=by rfl) (hf:X.fn x=true\/X.env.scope.names.lookup x=some .local:=by first | exact .inl rfl | exact .inr rfl | assumption) :
 PS X (.Assign [.Name x pos'] e pos) (Jl te (EA i)):=by
 intro aa s σ H D I h
 refine wpAny_Assign_Name (bC (he aa s σ H _ I h) λv s1 ⟨y,H1,I1,r1,q1⟩=>?_) hs
 exact kg I1 hN hi hx r1 (λs2 I2=>⟨_,H1,I2,q1⟩) hf
noncomputable def LN (i:Nat) (te:TE) (ti:MR):TS:=λD σ H=>∃ x,σ[i]?=some (some x)/\te σ H λy H1=>ti x y H1 λz H2=>D.nx (σ.set i (some z)) H2
theorem FZ (hN:X.N.Nodup) (hi:X.N[i]?=some x) (hx:Loc X.env.scope x) (he:PE X e te) (ho:MS X op ti) (hf:X.fn x=true\/X.env.scope.names.lookup x=some .local:=by first | exact .inl rfl | exact .inr rfl | assumption) :
 PS X (.AugAssign (.Name x pos') op e pos) (LN i te ti):=by
 intro aa s σ H D I h
 obtain ⟨v,e1,h⟩:=h
 obtain ⟨m,hn,hl⟩:=I.loc
 have vis:LB X.env.scope x:=by rcases hx with k | k; exact .inl k; exact .inr (.inl k)
 obtain ⟨u,r,l⟩:=hl i x v hi e1 vis
 refine wpAny_AugAssign_Name ?_
 have go:wpAny (model X.prog X.w) X.A (eval e X.env) (λw s₂=>wpAny (model X.prog X.w) X.A (inplaceOp op u w) (λr s₃=>wpAny (model X.prog X.w) X.A (storeName X.env x r) (λ_=>SP X aa D .next) X.xe s₃) X.xe s₂) X.xe s:=by
  refine bC (he aa s σ H _ I h) λw s1 ⟨y,H1,I1,r1,q1⟩=>?_
  refine bC (ho aa s1 σ H1 v y u w _ I1 r r1 q1) λz s2 ⟨zv,H2,I2,r2,q2⟩=>?_
  exact kg I2 hN hi hx r2 (λs3 I3=>⟨_,H2,I3,q2⟩) hf
 rcases l with ⟨hk,hm⟩ | ⟨hk,c,hc,hcell⟩
 ·exact wpAny_loadName_local I.ok.kind hk hn hm go
 ·rcases hk with hk | hk
  ·exact wpAny_loadName_cell I.ok.kind hk hc hcell go
  ·rcases hx with k | k
   ·have:X.env.scope.names.lookup x=some .free:=hk
    rw [k] at this; cases this
   ·have:X.env.scope.names.lookup x=some .free:=hk
    rw [k] at this; cases this
noncomputable def F0 (c:TT) (tb:TS):TS:=λD σ H=>∃ W:Nat->St->Hp->Prop,(∃ m,W m σ H)/\∀ m σ H,W m σ H ->
 c σ H λb H1=>if b=true then ∃ N:St->Hp->Prop,(∀ σ' H',N σ' H'->∃ m',m'<m/\W m' σ' H')/\tb { D with nx:=N,ct:=N,bk:=D.nx } σ H1 else D.nx σ H1
theorem yg (hp:PassesOwn (model X.prog X.w) X.A X.env X.xe) (hc:PT X c tc) (hb:rS X body tb):PS X (.While c body [] pos) (F0 tc tb):=by
 intro aa s σ H D I h
 obtain ⟨W,⟨m0,w0⟩,turn⟩:=h
 refine wpAny_While (codeAny_whileLoop (λn s'=>∃ σ' H',Inv X aa σ' H' s'/\W n σ' H') ?_ m0 ⟨σ,H,I,w0⟩)
 rintro n s1 ⟨σ1,H1,I1,w1⟩
 refine Qc hp (bC (hc aa s1 σ1 H1 _ I1 (turn n σ1 H1 w1)) λb s2 ⟨H2,I2,q2⟩=>?_)
 cases b with
 | true =>
  obtain ⟨N,hN,q2⟩:=q2
  rw [if_pos rfl]
  refine Qc hp (bC (hb aa s2 σ1 H2 _ I2 q2) λf s3 q3=>?_)
  cases f with
  | next =>
   obtain ⟨σ3,H3,I3,n3⟩:=q3
   obtain ⟨m',hm,w3⟩:=hN σ3 H3 n3
   exact ⟨m',hm,σ3,H3,I3,w3⟩
  | cont =>
   obtain ⟨σ3,H3,I3,n3⟩:=q3
   obtain ⟨m',hm,w3⟩:=hN σ3 H3 n3
   exact ⟨m',hm,σ3,H3,I3,w3⟩
  | brk=>exact q3
  | ret v=>exact q3
 | false =>
  rw [if_neg NH]
  exact wpAny_execs_nil ⟨σ1,H2,I2,q2⟩
structure It where
 go:Nat->Hp->Prop
 yld:Nat->Hp->V->Hp->Prop
 stop:Nat->Hp->Prop
def fG (X:Cx) (aa:List (Addr×Obj)) (H:Hp) (b:Addr):Prop :=
 H b=none/\b≠X.env.locals/\b∉X.fs/\(b∈X.ex\/X.s₀.heap.objs.size<=b)/\(∀ x c,X.env.cells.lookup x=some c->c≠b)/\∀ p∈X.pn++aa,p.1≠b
theorem Inv.kh (I:Inv X aa σ H s) (hb:s.heap.objs.size<=b) (hn:H' b=none):fG X aa H' b:=by
 refine ⟨hn,QE (Ol I.lt hb),I.Jb hb,.inr (NI I.sz hb),λx c e z=>?_,λp hp z=>?_⟩
 ·obtain ⟨v,q⟩:=I.cell x c e
  exact absurd (Ol q.lt (by rw [z]; exact hb)) (OW _)
 ·exact absurd (Ol (NG (I.pin p hp).1) (by rw [z]; exact hb)) (OW _)
structure Turn (P:Program) (w:World) (K:Nu) (tg:Expr) (J:It) (fp:List Addr) (it:Addr) (tn:Nat->Heap->Prop):Prop where
 mem:it∈fp
 obj:∀ i h,tn i h->∀ b∈fp,∃ o,h.get? b=some o/\∀ v,o.data≠.cell v
 keep:∀ i h h',tn i h->(∀ b∈fp,∀ o,h.get? b=some o->h'.get? b=some o)->tn i h'
 item:∀ (X:Cx),X.prog=P->X.w=w->X.K=K->X.calm=true->∀ (i:Nat) (aa:List (Addr×Obj)) (s:Shared) (σ:St) (H:Hp) (E:Value->Shared->Prop),Inv X aa σ H s->(∀ b∈fp,fG X aa H b)->tn i s.heap->J.go i H ->
  wpAny (model P w) X.A (pyNext (.ref it)) (λr s1=>∃ u,r=some u /\
   wpAny (model P w) X.A (letOwnedTupleGo tg (.ref it) u) (λ_ s2=>∃ x H',Inv X aa σ H' s2/\RelV x u/\J.yld i H x H'/\tn (i+1) s2.heap/\∀ b∈fp,H' b=none) E s1) E s
 done:∀ (X:Cx),X.prog=P->X.w=w->X.K=K->X.calm=true->∀ (i:Nat) (aa:List (Addr×Obj)) (s:Shared) (σ:St) (H:Hp) (E:Value->Shared->Prop),Inv X aa σ H s->(∀ b∈fp,fG X aa H b)->tn i s.heap->J.stop i H ->
  wpAny (model P w) X.A (pyNext (.ref it)) (λr s1=>r=none/\Inv X aa σ H s1) E s
 self:∀ (A:Around) (i:Nat) (s:Shared) (Q:Value->Shared->Prop) (E:Value->Shared->Prop),tn i s.heap->Q (.ref it) s->wpAny (model P w) A (pyIter (.ref it)) Q E s
noncomputable abbrev TI:=St->Hp->(It->Hp->Prop)->Prop
def LO (X:Cx) (aa:List (Addr×Obj)) (σ:St) (tg:Expr) (R:It->Hp->Prop) (itv:Value) (s2:Shared):Prop :=
 ∃ (it:Addr) (fp:List Addr) (tn:Nat->Heap->Prop) (J:It) (H':Hp),itv=.ref it/\Inv X aa σ H' s2/\Turn X.prog X.w X.K tg J fp it tn/\tn 0 s2.heap/\(∀ b∈fp,fG X aa H' b)/\R J H'
def PI (X:Cx) (tg iter:Expr) (wi:TI):Prop :=
 ∀ (aa:List (Addr×Obj)) (s:Shared) (σ:St) (H:Hp) (R:It->Hp->Prop),Inv X aa σ H s->wi σ H R ->
  wpAny (model X.prog X.w) X.A (eval iter X.env) (λv s1=>wpAny (model X.prog X.w) X.A (pyIter v) (LO X aa σ tg R) X.xe s1) X.xe s
theorem mj (ho:s.heap.get? it=some o) (hc:o.cls=.type n) (hd:o.data=.fields vs)
 (hn:["enumerate","zip","dict_itemiterator","dict_reverseitemiterator","odict_iterator","itertools.zip_longest","itertools.pairwise"].contains n=false) (hQ:Q () s):wpAny M A (letOwnedTupleGo tg (.ref it) u) Q E s:=by
 unfold letOwnedTupleGo
 cases tg <;> first
  | exact Nv hQ
  | (cases u <;> first
      | exact Nv hQ
      | (refine Nt (wpAny_load ho ?_)
         rw [hc,hd]
         show wpAny M A (if (["enumerate","zip","dict_itemiterator","dict_reverseitemiterator","odict_iterator","itertools.zip_longest","itertools.pairwise"].contains n && vs[0]? == some (rawInt _))=true then _ else _) Q E s
         rw [if_neg (by intro h; rw [hn,Bool.false_and] at h; cases h)]
         exact Nv hQ))
noncomputable def LP (K:Nu) (a:Addr):It :=
 ⟨λi H=>∃ xs x,fH K H a xs/\xs[i]?=some x,λi H x H'=>H'=H/\∀ xs,fH K H a xs->xs[i]?=some x,λi H=>∃ xs,fH K H a xs/\xs.length<=i⟩
noncomputable def LQ (K:Nu) (a:Addr):It :=
 ⟨λi H=>∃ xs x,c8 K H a xs/\xs[i]?=some x,λi H x H'=>H'=H/\∀ xs,c8 K H a xs->xs[i]?=some x,λi H=>∃ xs,c8 K H a xs/\xs.length<=i⟩
noncomputable def Li (lo:Int) (n:Nat):It:=⟨λi _=>i<n,λi H x H'=>H'=H/\x=.int (lo+i),λi _=>n<=i⟩
theorem v5 {P:Program} {w:World} {K:Nu} {tg:Expr} (a it:Addr):Turn P w K tg (LP K a) [it] it (λi h=>h.IsListIter it a i) where
 mem:=by simp
 obj:=λi h st b hb=>by
  have e:b=it:=by simpa using hb
  subst e
  obtain ⟨o,e,c,d⟩:=st
  exact ⟨o,e,λv z=>by rw [d] at z; cases z⟩
 keep:=λi h h' st k=>st.at λo e=>k it (by simp) o e
 item:=by
  intro X hP hw hK hc i aa s σ H E I hf st hg
  subst hP hw hK
  obtain ⟨xs,x,hq,hx⟩:=hg
  obtain ⟨its,rv,p,hz⟩:=I.list hq
  obtain ⟨u,hu,ru⟩:=rv.get hx
  obtain ⟨f0,f1,f2,f3,f4,f5⟩:=hf it (by simp)
  refine wpAny_pyNext_list_item st p.isList (x:=u) (by simpa using hu) λh' st' sb=>?_
  have I1:Inv X aa σ H { s with heap:=h' }:=I.turned (t':=s.toks) (λb o hb e=>(sb.2 b hb).trans e) f0 f1 f3 f4 f5
  obtain ⟨o,e,c,d⟩:=id st'
  exact ⟨u,rfl,mj (s:={ s with heap:=h' }) e c d (by decide) ⟨x,H,I1,ru,⟨rfl,λys hy=>by rw [I.pJ hy hq]; exact hx⟩,st',λb hb=>(hf b hb).1⟩⟩
 done:=by
  intro X hP hw hK hc i aa s σ H E I hf st hg
  subst hP hw hK
  obtain ⟨xs,hq,hx⟩:=hg
  obtain ⟨its,rv,p,hz⟩:=I.list hq
  obtain ⟨f0,f1,f2,f3,f4,f5⟩:=hf it (by simp)
  have hl:=rv.length
  exact wpAny_pyNext_list_end (I.ok.hd hc) st p.isList (by simp; lia) λh' eb=>⟨rfl,I.turned (t':=s.toks) (λb o hb e=>eb b o hb e) f0 f1 f3 f4 f5⟩
 self:=λ_ _ _ _ _ st h=>wpAny_pyIter_listiter st h
theorem rV {P:Program} {w:World} {K:Nu} {tg:Expr} (a it:Addr):Turn P w K tg (LQ K a) [it] it (λi h=>h.IsTupleIter it a i) where
 mem:=by simp
 obj:=λi h st b hb=>by
  have e:b=it:=by simpa using hb
  subst e
  obtain ⟨o,e,c,d⟩:=st
  exact ⟨o,e,λv z=>by rw [d] at z; cases z⟩
 keep:=λi h h' st k=>st.at λo e=>k it (by simp) o e
 item:=by
  intro X hP hw hK hc i aa s σ H E I hf st hg
  subst hP hw hK
  obtain ⟨xs,x,hq,hx⟩:=hg
  obtain ⟨its,rv,p,hz⟩:=I.tuple hq
  obtain ⟨u,hu,ru⟩:=rv.get hx
  obtain ⟨f0,f1,f2,f3,f4,f5⟩:=hf it (by simp)
  refine wpAny_pyNext_tuple_item st (show s.heap.IsTuple a its.toArray from p) (x:=u) (by simpa using hu) λh' st' sb=>?_
  have I1:Inv X aa σ H { s with heap:=h' }:=I.turned (t':=s.toks) (λb o hb e=>(sb.2 b hb).trans e) f0 f1 f3 f4 f5
  obtain ⟨o,e,c,d⟩:=id st'
  exact ⟨u,rfl,mj (s:={ s with heap:=h' }) e c d (by decide) ⟨x,H,I1,ru,⟨rfl,λys hy=>by rw [I.ja hy hq]; exact hx⟩,st',λb hb=>(hf b hb).1⟩⟩
 done:=by
  intro X hP hw hK hc i aa s σ H E I hf st hg
  subst hP hw hK
  obtain ⟨xs,hq,hx⟩:=hg
  obtain ⟨its,rv,p,hz⟩:=I.tuple hq
  obtain ⟨f0,f1,f2,f3,f4,f5⟩:=hf it (by simp)
  have hl:=rv.length
  exact wpAny_pyNext_tuple_end (I.ok.hd hc) st (show s.heap.IsTuple a its.toArray from p) (by simp; lia) λh' eb=>⟨rfl,I.turned (t':=s.toks) (λb o hb e=>eb b o hb e) f0 f1 f3 f4 f5⟩
 self:=λ_ _ _ _ _ st h=>wpAny_pyIter_tupleiter st h
theorem rX {P:Program} {w:World} {K:Nu} {tg:Expr} (it:Addr) (lo:Int) (n:Nat):Turn P w K tg (Li lo n) [it] it (λi h=>IsRangeIter h it (lo+(i:Nat) * 1) ((n:Int) - (i:Nat)) 1) where
 mem:=by simp
 obj:=λi h st b hb=>by
  have e:b=it:=by simpa using hb
  subst e
  exact ⟨_,st,λv z=>by
   have z':So _=Data.cell v:=z
   cases z'⟩
 keep:=λi h h' st k=>k it (by simp) _ st
 item:=by
  intro X hP hw hK hc i aa s σ H E I hf st hg
  subst hP hw hK
  obtain ⟨f0,f1,f2,f3,f4,f5⟩:=hf it (by simp)
  have W:=Walks.range (prog:=X.prog) (w:=X.w) (I.ok.hd hc) it lo 1 n
  refine W.item i s _ _ hg st λv h' tk hv st' kk=>?_
  obtain ⟨t,rfl⟩:=hv
  have I1:Inv X aa σ H { s with heap:=h',toks:=tk }:=I.turned (λb o hb e=>kk b o (by simpa using hb) e) f0 f1 f3 f4 f5
  refine ⟨_,rfl,mj (s:={ s with heap:=h',toks:=tk }) (n:="range_iterator") st' rfl rfl (by decide) ⟨.int (lo+i),H,I1,⟨t,?_⟩,⟨rfl,rfl⟩,st',λb hb=>(hf b hb).1⟩⟩
  rw [Int.mul_one]
 done:=by
  intro X hP hw hK hc i aa s σ H E I hf st hg
  subst hP hw hK
  obtain ⟨f0,f1,f2,f3,f4,f5⟩:=hf it (by simp)
  exact wpAny_pyNext_range_end (I.ok.hd hc) st (by have:n<=i:=hg; lia) λh' eb=>⟨rfl,I.turned (t':=s.toks) (λb o hb e=>eb b o hb e) f0 f1 f3 f4 f5⟩
 self:=λ_ _ _ _ _ st h=>wpAny_pyIter_rangeiter st h
theorem yh {lo hi:Int} (I:Inv X aa σ H s) (h1: -(2 ^ 62)<=lo) (h2:lo<2 ^ 62) (h3: -(2 ^ 62)<=hi) (h4:hi<2 ^ 62)
 (q:R (Li lo (hi - lo).toNat) H):wpAny (model X.prog X.w) X.A (pyIter (.ref s.heap.objs.size)) (LO X aa σ tg R) E { s with heap:=s.heap.push { cls:=.type "range",data:=.fields #[.int lo t,.int hi u,.int 1 v] },toks:=tk }:=by
 refine wpAny_pyIter_range (IsRange.new ..) (small_one h1 h2 h3 h4) ?_
 have I1:Inv X aa σ H { s with heap:=s.heap.push { cls:=.type "range",data:=.fields #[.int lo t,.int hi u,.int 1 v] },toks:=tk }:=I.kept λb o e=>NC _ e
 refine ⟨(s.heap.push { cls:=.type "range",data:=.fields #[.int lo t,.int hi u,.int 1 v] }).objs.size,[(s.heap.push { cls:=.type "range",data:=.fields #[.int lo t,.int hi u,.int 1 v] }).objs.size],_,_,H,rfl,
  I1.kept (t':=tk) λb o e=>NC _ e,rX _ lo (hi - lo).toNat,?_,λb hb=>?_,q⟩
 ·have e1:lo+((0:Nat):Int) * 1=lo:=by simp
  have e2:(((hi - lo).toNat:Nat):Int) - ((0:Nat):Int)=Rw lo hi 1:=by rw [rangeSize_one]; split <;> lia
  show IsRangeIter _ _ (lo+((0:Nat):Int) * 1) ((((hi - lo).toNat:Nat):Int) - ((0:Nat):Int)) 1
  rw [e1,e2]
  exact NL _ rfl
 ·have e:b=(s.heap.push { cls:=.type "range",data:=.fields #[.int lo t,.int hi u,.int 1 v] }).objs.size:=by simpa using hb
  subst e
  exact I1.kh (Ny _) (I1.hok.fresh (Ny _))
noncomputable def Jm (ta:TA):TI:=λσ H R=>ta σ H λvs H1=>∃ j:Int,vs=[.int j]/\ -(2 ^ 62)<=j/\j<2 ^ 62/\R (Li 0 j.toNat) H1
theorem v7 (hg:Gl X "range") (hm:X.mg "range"=none) (ha:PA X [a] ta) (hs:starEach [a] X.env=[(false,eval a X.env)]:=by rfl):PI X tg (.Call (.Name "range" p) [a] [] pos) (Jm ta):=by
 intro aa s σ H R I h
 refine Call_ (dz I hg hm boot_range (QJ (bC (ha pos aa s σ H _ I h) λus s1 ⟨vs,H1,I1,r1,q1⟩=>?_) hs rfl))
 obtain ⟨j,e,q1,q2,q⟩:=q1
 subst e
 cases r1 with
 | cons r rr =>
  cases rr
  obtain ⟨t,rfl⟩:=r
  exact call_range_1 (yh I1 (by lia) (by lia) q1 q2 (by simpa using q))
noncomputable def LR (wi:TI) (g:TG) (tb:TS):TS:=λD σ H=>wi σ H λJ H1=>∃ W:Nat->Nat->St->Hp->Prop,(∃ m,W 0 m σ H1)/\∀ i m σ H,W i m σ H ->
 (J.stop i H/\D.nx σ H)\/(J.go i H/\∃ N:St->Hp->Prop,(∀ σ' H',N σ' H'->∃ m',m'<m/\W (i+1) m' σ' H')/\∀ x H',J.yld i H x H'->g x σ H' λσ2 H2=>tb { D with nx:=N,ct:=N,bk:=D.nx } σ2 H2)
noncomputable def ki (fp:List Addr) (h:Heap):List (Addr×Obj):=fp.filterMap λb=>(h.get? b).map λo=>(b,o)
theorem eZ (hb:b∈fp) (e:h.get? b=some o):(b,o)∈ki fp h:=List.mem_filterMap.mpr ⟨b,hb,by rw [e]; rfl⟩
theorem v8 (hp:p∈ki fp h):p.1∈fp/\h.get? p.1=some p.2:=by
 obtain ⟨b,hb,e⟩:=List.mem_filterMap.mp hp
 cases q:h.get? b with
 | none=>rw [q] at e; cases e
 | some o =>
  rw [q] at e
  have e':(b,o)=p:=O5 e
  subst e'
  exact ⟨hb,q⟩
theorem Inv.pinned (I:Inv X aa σ H s) (hf:∀ b∈fp,fG X aa H b) (ho:∀ b∈fp,∃ o,s.heap.get? b=some o/\∀ v,o.data≠.cell v):Inv X (aa++ki fp s.heap) σ H s :=
 I.tU λp hp=>(N3.mp hp).elim (λz=>I.pin p (OQ _ z)) λz=>by
  obtain ⟨hb,e⟩:=v8 z
  obtain ⟨f0,f1,f2,_⟩:=hf p.1 hb
  obtain ⟨o,e',d⟩:=ho p.1 hb
  rw [e] at e'; cases e'
  exact ⟨e,f0,f1,f2,d⟩
theorem Inv.fK (I:Inv X (aa++pl) σ H s):Inv X aa σ H s:=I.tU λp hp=>I.pin p (OQ _ (Qt _ hp))
theorem F1 (hp:PassesOwn (model X.prog X.w) X.A X.env X.xe) (hc:X.calm=true) (hi:PI X tg iter wi) (hg:PG X tg g) (hb:rS X body tb)
 (hs:∀ x,foldedSetIterable iter X.env x=pure x:=by intro _; rfl):PS X (.For tg iter body [] pos) (LR wi g tb):=by
 intro aa s σ H D I h
 refine wpAny_For (bC (hi aa s σ H _ I h) λv s1 h1=>bC h1 λitv s2 h2=>?_) hs
 obtain ⟨it,fp,tn,J,H2,e,I2,T,st2,f2,W,⟨m0,w0⟩,turn⟩:=h2
 subst e
 have stat:∀ {H':Hp},(∀ b∈fp,H' b=none)->∀ b∈fp,fG X aa H' b:=λhn b hb=>⟨hn b hb,(f2 b hb).2⟩
 refine codeAny_forLoop_any (λn s'=>∃ i σ' H',Inv X aa σ' H' s'/\tn i s'.heap/\(∀ b∈fp,H' b=none)/\W i n σ' H') ?_ m0 ⟨0,σ,H2,I2,st2,λb hb=>(f2 b hb).1,w0⟩
 rintro n s3 ⟨i,σ3,H3,I3,st3,fr3,w3⟩
 rcases turn i n σ3 H3 w3 with ⟨stop,qn⟩ | ⟨go,N,hN,step⟩
 ·refine Qc hp (bC (T.done X rfl rfl rfl hc i aa s3 σ3 H3 X.xe I3 (stat fr3) st3 stop) λr s4 ⟨hr,I4⟩=>?_)
  subst hr
  exact wpAny_execs_nil ⟨σ3,H3,I4,qn⟩
 ·refine Qc hp (bC (T.item X rfl rfl rfl hc i aa s3 σ3 H3 X.xe I3 (stat fr3) st3 go) λr s4 ⟨u,hr,h4⟩=>?_)
  subst hr
  refine Qc hp (bC h4 λ_ s5 ⟨x,H5,I5,r5,y5,st5,fr5⟩=>?_)
  have I5':=I5.pinned (stat fr5) (T.obj _ _ st5)
  refine Qc hp (bC (hg _ s5 σ3 H5 x u _ I5' r5 (step x H5 y5)) λ_ s6 ⟨σ6,H6,I6,q6⟩=>?_)
  refine Qc hp (bC (hb _ s6 σ6 H6 _ I6 q6) λf s7 q7=>?_)
  have again:∀ {σ7:St} {H7:Hp},Inv X (aa++ki fp s5.heap) σ7 H7 s7->N σ7 H7->∃ m,m<n/\∃ i σ' H',Inv X aa σ' H' s7/\tn i s7.heap/\(∀ b∈fp,H' b=none)/\W i m σ' H':=λ{σ7 H7} I7 n7=>by
   obtain ⟨m',hm,w7⟩:=hN σ7 H7 n7
   refine ⟨m',hm,i+1,σ7,H7,I7.fK,T.keep _ _ _ st5 λb hb o e=>(I7.pin (b,o) (OQ _ (OQ _ (eZ hb e)))).1,λb hb=>?_,w7⟩
   obtain ⟨o,e,d⟩:=T.obj _ _ st5 b hb
   exact (I7.pin (b,o) (OQ _ (OQ _ (eZ hb e)))).2.1
  cases f with
  | next=>obtain ⟨σ7,H7,I7,n7⟩:=q7; exact again I7 n7
  | cont=>obtain ⟨σ7,H7,I7,n7⟩:=q7; exact again I7 n7
  | brk=>obtain ⟨σ7,H7,I7,q7⟩:=q7; exact ⟨σ7,H7,I7.fK,q7⟩
  | ret v=>obtain ⟨x7,σ7,H7,I7,r7,q7⟩:=q7; exact ⟨x7,σ7,H7,I7.fK,r7,q7⟩
noncomputable abbrev R2:=V->V->Hp->VK->Prop
def fF (X:Cx) (f:Value->Value->Sem Value) (r:R2):Prop :=
 ∀ (aa:List (Addr×Obj)) (s:Shared) (σ:St) (H:Hp) (x y:V) (v u:Value) (Q:VK),Inv X aa σ H s->RelV x v->RelV y u->r x y H Q ->
  wpAny (model X.prog X.w) X.A (f v u) (EP X aa σ Q) X.xe s
def LS (X:Cx) (f:Value->Sem Value) (r:V->Hp->VK->Prop):Prop :=
 ∀ (aa:List (Addr×Obj)) (s:Shared) (σ:St) (H:Hp) (x:V) (v:Value) (Q:VK),Inv X aa σ H s->RelV x v->r x H Q ->
  wpAny (model X.prog X.w) X.A (f v) (EP X aa σ Q) X.xe s
def fL (X:Cx) (f:Value) (r:List V->Hp->VK->Prop):Prop :=
 ∀ (aa:List (Addr×Obj)) (s:Shared) (σ:St) (H:Hp) (xs:List V) (us:List Value) (Q:VK),Inv X aa σ H s->Vals xs us->r xs H Q ->
  wpAny (model X.prog X.w) X.A (call f us) (EP X aa σ Q) X.xe s
noncomputable def Lj (r:R2) (ta tb:TE):TE:=λσ H Q=>ta σ H λx H1=>tb σ H1 λy H2=>r x y H2 Q
noncomputable def M7 (r:V->Hp->VK->Prop) (ta:TE):TE:=λσ H Q=>ta σ H λx H1=>r x H1 Q
noncomputable def rI (C:Int->Int->Prop) (g:Int->Int->V):R2:=λx y H Q=>∃ i j,x=.int i/\y=.int j/\C i j/\Q (g i j) H
noncomputable def v9 (g:Int->Int->V):R2:=λx y H Q=>∃ i j,x=.int i/\y=.int j/\Q (g i j) H
noncomputable def rU (g:Int->V):V->Hp->VK->Prop:=λx H Q=>∃ i,x=.int i/\Q (g i) H
theorem F2 (ha:PE X a ta) (hb:PE X b tb) {R:V->V->Hp->Prop} (I:Inv X aa σ H s)
 (h:ta σ H λx H1=>tb σ H1 λy H2=>R x y H2) {f:Value->Value->Sem Value}
 (hf:∀ v u s2 x y H2,Inv X aa σ H2 s2->RelV x v->RelV y u->R x y H2->wpAny (model X.prog X.w) X.A (f v u) Q X.xe s2) :
 wpAny (model X.prog X.w) X.A (eval a X.env) (λv s₁=>wpAny (model X.prog X.w) X.A (eval b X.env) (λu s₂=>wpAny (model X.prog X.w) X.A (f v u) Q X.xe s₂) X.xe s₁) X.xe s:=by
 refine bC (ha aa s σ H _ I h) λv s1 ⟨x,H1,I1,r1,q1⟩=>?_
 refine bC (hb aa s1 σ H1 _ I1 q1) λu s2 ⟨y,H2,I2,r2,q2⟩=>?_
 exact hf v u s2 x y H2 I2 r1 r2 q2
theorem EB (ho:fF X (binaryOp op) r) (ha:PE X a ta) (hb:PE X b tb):PE X (.BinOp a op b pos) (Lj r ta tb):=by
 intro aa s σ H Q I h
 exact wpAny_BinOp (F2 ha hb I h λv u s2 x y H2 I2 rx ry q=>ho aa s2 σ H2 x y v u Q I2 rx ry q)
theorem Jo (ho:LS X (unaryOp op) r) (ha:PE X a ta):PE X (.UnaryOp op a pos) (M7 r ta):=by
 intro aa s σ H Q I h
 exact UnaryOp_ (bC (ha aa s σ H _ I h) λv s1 ⟨x,H1,I1,r1,q1⟩=>ho aa s1 σ H1 x v Q I1 r1 q1)
theorem IQ {g:Int->Int->Int}
 (rule:∀ (i j:Int) (t u:Tok) (s:Shared) (Q:Value->Shared->Prop) (E:Value->Shared->Prop),C i j->Q (.int (g i j) s.toks) { s with toks:=s.toks+1 }->wpAny (model X.prog X.w) X.A (f (.int i t) (.int j u)) Q E s) :
 fF X f (rI C λi j=>.int (g i j)):=by
 intro aa s σ H x y v u Q I rx ry h
 obtain ⟨i,j,rfl,rfl,hc,q⟩:=h
 obtain ⟨t,rfl⟩:=rx
 obtain ⟨t',rfl⟩:=ry
 exact rule i j t t' s _ _ hc ⟨.int (g i j),H,I.tok _,⟨_,rfl⟩,q⟩
theorem yi {g:Int->Int->Int}
 (rule:∀ (i j:Int) (t u:Tok) (s:Shared) (Q:Value->Shared->Prop) (E:Value->Shared->Prop),Q (.int (g i j) s.toks) { s with toks:=s.toks+1 }->wpAny (model X.prog X.w) X.A (f (.int i t) (.int j u)) Q E s) :
 fF X f (v9 λi j=>.int (g i j)):=by
 intro aa s σ H x y v u Q I rx ry h
 obtain ⟨i,j,rfl,rfl,q⟩:=h
 obtain ⟨t,rfl⟩:=rx
 obtain ⟨t',rfl⟩:=ry
 exact rule i j t t' s _ _ ⟨.int (g i j),H,I.tok _,⟨_,rfl⟩,q⟩
theorem Jp {g:Int->Int->Bool}
 (rule:∀ (i j:Int) (t u:Tok) (s:Shared) (Q:Value->Shared->Prop) (E:Value->Shared->Prop),Q (.bool (g i j)) s->wpAny (model X.prog X.w) X.A (f (.int i t) (.int j u)) Q E s) :
 fF X f (v9 λi j=>.bl (g i j)):=by
 intro aa s σ H x y v u Q I rx ry h
 obtain ⟨i,j,rfl,rfl,q⟩:=h
 obtain ⟨t,rfl⟩:=rx
 obtain ⟨t',rfl⟩:=ry
 exact rule i j t t' s _ _ ⟨.bl (g i j),H,I,rfl,q⟩
def yj (i j:Int):Prop:=0<=j/\j<=1000000/\i.natAbs<2 ^ 64
theorem rY (k):(0:Int)<=2 ^ k:=by
 rw [two_pow_cast]
 exact Int.natCast_nonneg _
theorem F3:fF X (binaryOp .Add) (v9 λi j=>.int (i+j)):=yi λ_ _ _ _ _ _ _ q=>add_int q
theorem F4:fF X (binaryOp .Sub) (v9 λi j=>.int (i - j)):=yi λ_ _ _ _ _ _ _ q=>sub_int q
theorem F5:fF X (binaryOp .Mod) (rI (λ_ j=>0<j) λi j=>.int (i % j)):=IQ λi j _ _ _ _ _ hc q=>by
 have h1:(0:Int)<j:=hc
 exact mod_int' (by lia) (by rw [Int.fmod_eq_emod_of_nonneg i (by lia)]; exact q)
theorem F6:fF X (binaryOp .Pow) (rI yj λi j=>.int (i ^ j.toNat)):=IQ λ_ _ _ _ _ _ _ hc q=>pow_int_small hc.1 hc.2.1 hc.2.2 q
theorem F7:fF X (binaryOp .LShift) (rI yj λi j=>.int (i * 2 ^ j.toNat)):=IQ λ_ _ _ _ _ _ _ hc q=>lshift_int_small hc.1 hc.2.1 hc.2.2 q
theorem F8:fF X (binaryOp .RShift) (rI (λ_ j=>0<=j) λi j=>.int (i / 2 ^ j.toNat)):=IQ λi j _ _ _ _ _ hc q =>
 rshift_int hc (by rw [Int.fdiv_eq_ediv_of_nonneg i (rY _)]; exact q)
theorem F9:fF X (binaryOp .BitAnd) (v9 λi j=>.int (Builtin.bitAnd i j)):=yi λ_ _ _ _ _ _ _ q=>and_int q
theorem B7:fF X (inplaceOp .Add) (v9 λi j=>.int (i+j)):=yi λ_ _ _ _ _ _ _ q=>iadd_int q
theorem B8:fF X (inplaceOp .Sub) (v9 λi j=>.int (i - j)):=yi λ_ _ _ _ _ _ _ q=>isub_int q
theorem M8 {g:Int->Int}
 (rule:∀ (i:Int) (t:Tok) (s:Shared) (Q:Value->Shared->Prop) (E:Value->Shared->Prop),Q (.int (g i) s.toks) { s with toks:=s.toks+1 }->wpAny (model X.prog X.w) X.A (f (.int i t)) Q E s) :
 LS X f (rU λi=>.int (g i)):=by
 intro aa s σ H x v Q I rx h
 obtain ⟨i,rfl,q⟩:=h
 obtain ⟨t,rfl⟩:=rx
 exact rule i t s _ _ ⟨.int (g i),H,I.tok _,⟨_,rfl⟩,q⟩
theorem Ga:LS X (unaryOp .USub) (rU λi=>.int (-i)):=M8 λ_ _ _ _ _ q=>neg_int q
noncomputable def B9:V->V->Bool
 | .non,.non=>true | .non,.int _=>true | .int _,.non=>true | .non,.bl _=>true | .bl _,.non=>true | .non,.str _=>true | .str _,.non=>true
 | .int _,.int _=>true | .bl _,.bl _=>true | .str _,.str _=>true | .byt _,.byt _=>true
 | .int _,.str _=>true | .str _,.int _=>true | .bl _,.str _=>true | .str _,.bl _=>true
 | _,_=>false
noncomputable def M9:R2:=λx y H Q=>B9 x y=true/\Q (.bl (decide (x=y))) H
noncomputable def Na:R2:=λx y H Q=>B9 x y=true/\Q (.bl (!decide (x=y))) H
theorem tY:decide (V.int i=V.int j)=(i == j):=by
 rw [Q6]
 simp
theorem yk:decide (V.bl i=V.bl j)=(i == j):=by
 rw [Q6]
 simp
theorem tZ:decide (V.str i=V.str j)=(i == j):=by
 rw [Q6]
 simp
theorem t6:decide (V.byt i=V.byt j)=(i.toList == j.toList):=by
 rw [Q6]
 cases i
 cases j
 simp
theorem bf (I:Inv X aa σ H s) (q:Q (.bl k) H) (e:k=k'):EP X aa σ Q (.bool k') s:=by
 subst e
 exact ⟨.bl k,H,I,rfl,q⟩
theorem Jq:fF X (compareOp .Eq) M9:=by
 intro aa s σ H x y v u Q I rx ry h
 obtain ⟨hs,q⟩:=h
 cases x with
 | non =>
  cases rx
  cases y with
  | non=>cases ry; exact PySem.EqNone.eq_none_none (bf I q (by simp))
  | bl j=>cases ry; exact PySem.EqNone.eq_none_bool (bf I q (by simp))
  | int j=>obtain ⟨t',rfl⟩:=ry; exact PySem.EqNone.eq_none_int (bf I q (by simp))
  | str j=>obtain ⟨t',rfl⟩:=ry; exact PySem.EqNone.eq_none_str (bf I q (by simp))
  | _=>exact absurd (show false=true from hs) NH
 | bl i =>
  cases rx
  cases y with
  | non=>cases ry; exact PySem.EqNone.eq_bool_none (bf I q (by simp))
  | bl j=>cases ry; exact eq_bool (bf I q yk)
  | str j=>obtain ⟨t',rfl⟩:=ry; exact PySem.EqMixed.eq_bool_str (bf I q (by simp))
  | _=>exact absurd (show false=true from hs) NH
 | int i =>
  obtain ⟨t,rfl⟩:=rx
  cases y with
  | non=>cases ry; exact PySem.EqNone.eq_int_none (bf I q (by simp))
  | int j=>obtain ⟨t',rfl⟩:=ry; exact eq_int (bf I q tY)
  | str j=>obtain ⟨t',rfl⟩:=ry; exact PySem.EqMixed.eq_int_str (bf I q (by simp))
  | _=>exact absurd (show false=true from hs) NH
 | str i =>
  obtain ⟨t,rfl⟩:=rx
  cases y with
  | non=>cases ry; exact PySem.EqNone.eq_str_none (bf I q (by simp))
  | bl j=>cases ry; exact PySem.EqMixed.eq_str_bool (bf I q (by simp))
  | int j=>obtain ⟨t',rfl⟩:=ry; exact PySem.EqMixed.eq_str_int (bf I q (by simp))
  | str j=>obtain ⟨t',rfl⟩:=ry; exact eq_str (bf I q tZ)
  | _=>exact absurd (show false=true from hs) NH
 | byt i =>
  obtain ⟨t,rfl⟩:=rx
  cases y with
  | byt j=>obtain ⟨t',rfl⟩:=ry; exact PySem.W.eq_bytes (bf I q t6)
  | _=>exact absurd (show false=true from hs) NH
 | _=>cases y <;> exact absurd (show false=true from hs) NH
theorem Jr:fF X (compareOp .NotEq) Na:=by
 intro aa s σ H x y v u Q I rx ry h
 obtain ⟨hs,q⟩:=h
 cases x with
 | non =>
  cases rx
  cases y with
  | non=>cases ry; exact PySem.EqNone.ne_none_none (bf I q (by simp))
  | bl j=>cases ry; exact PySem.EqNone.ne_none_bool (bf I q (by simp))
  | int j=>obtain ⟨t',rfl⟩:=ry; exact PySem.EqNone.ne_none_int (bf I q (by simp))
  | str j=>obtain ⟨t',rfl⟩:=ry; exact PySem.EqNone.ne_none_str (bf I q (by simp))
  | _=>exact absurd (show false=true from hs) NH
 | bl i =>
  cases rx
  cases y with
  | non=>cases ry; exact PySem.EqNone.ne_bool_none (bf I q (by simp))
  | bl j=>cases ry; exact ne_bool (bf I q (congrArg not yk))
  | str j=>obtain ⟨t',rfl⟩:=ry; exact PySem.EqMixed.ne_bool_str (bf I q (by simp))
  | _=>exact absurd (show false=true from hs) NH
 | int i =>
  obtain ⟨t,rfl⟩:=rx
  cases y with
  | non=>cases ry; exact PySem.EqNone.ne_int_none (bf I q (by simp))
  | int j=>obtain ⟨t',rfl⟩:=ry; exact ne_int (bf I q (congrArg not tY))
  | str j=>obtain ⟨t',rfl⟩:=ry; exact PySem.EqMixed.ne_int_str (bf I q (by simp))
  | _=>exact absurd (show false=true from hs) NH
 | str i =>
  obtain ⟨t,rfl⟩:=rx
  cases y with
  | non=>cases ry; exact PySem.EqNone.ne_str_none (bf I q (by simp))
  | bl j=>cases ry; exact PySem.EqMixed.ne_str_bool (bf I q (by simp))
  | int j=>obtain ⟨t',rfl⟩:=ry; exact PySem.EqMixed.ne_str_int (bf I q (by simp))
  | str j=>obtain ⟨t',rfl⟩:=ry; exact ne_str (bf I q (congrArg not tZ))
  | _=>exact absurd (show false=true from hs) NH
 | byt i =>
  obtain ⟨t,rfl⟩:=rx
  cases y with
  | byt j=>obtain ⟨t',rfl⟩:=ry; exact PySem.W.ne_bytes (bf I q (congrArg not t6))
  | _=>exact absurd (show false=true from hs) NH
 | _=>cases y <;> exact absurd (show false=true from hs) NH
theorem Js:fF X (compareOp .Lt) (v9 λi j=>.bl (decide (i<j))):=Jp λ_ _ _ _ _ _ _ q=>lt_int q
theorem Jt:fF X (compareOp .Gt) (v9 λi j=>.bl (decide (j<i))):=Jp λ_ _ _ _ _ _ _ q=>gt_int q
theorem fF.or (h:fF X f r) (h':fF X f r'):fF X f (λx y H Q=>r x y H Q\/r' x y H Q):=by
 intro aa s σ H x y v u Q I rx ry q
 rcases q with q | q
 ·exact h aa s σ H x y v u Q I rx ry q
 ·exact h' aa s σ H x y v u Q I rx ry q
theorem kj (b) (h:op≠.In:=by decide) (h2:op≠.NotIn:=by decide):behindInMarks op b=false:=by
 have e1:(op == CmpOp.In)=false:=by cases op <;> first | rfl | exact absurd rfl h
 have e2:(op == CmpOp.NotIn)=false:=by cases op <;> first | rfl | exact absurd rfl h2
 cases b <;> simp [behindInMarks,e1,e2]
theorem Ca (ho:fF X (compareOp op) r) (ha:PE X a ta) (hb:PE X b tb) (hm:behindInMarks op b=false):PE X (.Compare a [op] [b] pos) (Lj r ta tb):=by
 intro aa s σ H Q I h
 exact wpAny_Compare1 (F2 ha hb I h λv u s2 x y H2 I2 rx ry q=>ho aa s2 σ H2 x y v u Q I2 rx ry q) hm
noncomputable def Ju (t:TE):TT:=λσ H Q=>t σ H λx H'=>∃ k,x=.bl k/\Q k H'
theorem Cb (ho:fF X (compareOp op) r) (ha:PE X a ta) (hb:PE X b tb) (hm:behindInMarks op b=false):PT X (.Compare a [op] [b] pos) (Ju (Lj r ta tb)):=by
 intro aa s σ H Q I h
 refine wpAny_isTrue_Compare1 (bC (ha aa s σ H _ I h) λv s1 ⟨x,H1,I1,r1,q1⟩=>bC (hb aa s1 σ H1 _ I1 q1) λu s2 ⟨y,H2,I2,r2,q2⟩ =>
  bC (ho aa s2 σ H2 x y v u _ I2 r1 r2 q2) λc s3 ⟨z,H3,I3,r3,k,e,q3⟩=>?_) hm
 subst e
 cases r3
 exact QS ⟨H3,I3,q3⟩
theorem nL:(sizeLine:Nat)<2 ^ 63:=by rw [sizeLine_eq]; decide
theorem rZ:fF X (binaryOp .Add) (λx y H Q=>∃ i j,x=.str i/\y=.str j/\i.length+j.length<=sizeLine/\Q (.str (i++j)) H):=by
 intro aa s σ H x y v u Q I rx ry h
 obtain ⟨i,j,rfl,rfl,hz,q⟩:=h
 obtain ⟨t,rfl⟩:=rx
 obtain ⟨t',rfl⟩:=ry
 exact add_str (λt' tk=>⟨.str (i++j),H,I.tok _,⟨_,rfl⟩,q⟩) hz
theorem vals1 (r:Vals [x] us):∃ u,us=[u]/\RelV x u:=by
 cases r with
 | cons r1 r2=>cases r2; exact ⟨_,rfl,r1⟩
theorem vals2 (r:Vals [x,y] us):∃ u w',us=[u,w']/\RelV x u/\RelV y w':=by
 cases r with
 | cons r1 r2 =>
  cases r2 with
  | cons r3 r4=>cases r4; exact ⟨_,_,rfl,r1,r3⟩
theorem wc (hc:X.calm=true):fL X (.builtin "max") (λxs H Q=>∃ i j,xs=[.int i,.int j]/\Q (.int (if j>i then j else i)) H):=by
 intro aa s σ H xs us Q I r h
 obtain ⟨i,j,rfl,q⟩:=h
 obtain ⟨u,w',rfl,⟨t,rfl⟩,⟨t',rfl⟩⟩:=vals2 r
 refine max_two_ints (I.ok.hd hc) λh' tk k=>⟨_,H,I.kept k,?_,q⟩
 by_cases hj:j>i
 ·rw [if_pos hj,if_pos hj]; exact ⟨_,rfl⟩
 ·rw [if_neg hj,if_neg hj]; exact ⟨_,rfl⟩
structure Nb (h:Heap) (x dx C:Addr) (mA:Str->Option Value):Prop where
 obj:h.get? x=some (PySem.W.instObj C dx)
 ns:h.Ns1 dx mA
 ne:dx≠x
theorem jJ.some_of (r:jJ (some v) o):∃ u,o=some u/\RelV v u:=by
 cases o with
 | none=>exact (show False from r).elim
 | some u=>exact ⟨u,rfl,r⟩
structure Nc (K:Nu) (C:Addr):Prop where
 pg:PySem.W.plainGet K C Str.empty=true
 hd:PySem.W.hasDictIn K C=true
 po:PySem.W.plainOver K C=true
 sa:Pw K (.ref C) "__setattr__"=some (some (.builtin "object.__setattr__"))
structure Con (K:Nu) (C:Addr) (f:Str) (v:V) (u:Value):Prop where
 at_:Pw K (.ref C) f=some (some u)
 rel:RelV v u
 get:Ti K u "__get__"=some none
 cp:PySem.W.copiedNames.contains f=false
structure Meth (K:Nu) (C:Addr) (m:Str) (f:Addr):Prop where
 at_:Pw K (.ref C) m=some (some (.ref f))
 fn:PySem.W.isFn K (.ref f)=true
 kp:Pa K (.ref f)=true
def Jv (X:Cx) (op:Operator) (rd:V->V->Hp->VK->Prop):Prop :=
 ∀ (aa:List (Addr×Obj)) (s:Shared) (σ:St) (H:Hp) (x y:V) (u v:Value) (Q:VK),Inv X aa σ H s->RelV x u->RelV y v->rd x y H Q->wpAny (model X.prog X.w) X.A (inplaceOp op u v) (EP X aa σ Q) X.xe s
section
variable {X:Cx} {aa:List (Addr×Obj)} {σ:St} {H:Hp} {s:Shared} {A:Around} {E:Value->Shared->Prop} {Q:Value->Shared->Prop} {c:Value} {b:Bool}
inductive ko (K:Nu) (H:Hp):V->Value->Prop where
 | non:ko K H .non (.type "NoneType")
 | bl (x:Bool):ko K H (.bl x) (.type "bool")
 | int (i:Int):ko K H (.int i) (.type "int")
 | str (x:Str):ko K H (.str x) (.type "str")
 | flt (x:UInt64):ko K H (.flt x) (.type "float")
 | lst {a:Addr} {xs:List V} (e:H a=some (.lst xs)):ko K H (.ref a) (.type "list")
 | frz {a:Addr} {o:Obj} {xs:List V} (e:H a=some (.frz o (.lst xs))):ko K H (.ref a) (.type "list")
 | tup {a:Addr} {xs:List V} (e:H a=some (.tup xs)):ko K H (.ref a) (.type "tuple")
 | dK {a:Addr} {kvs:List (Key×V)} (e:H a=some (.dK kvs)):ko K H (.ref a) (.type "dict")
 | dT {a:Addr} {kvs:List (List Key×Addr×V)} (e:H a=some (.dT kvs)):ko K H (.ref a) (.type "dict")
 | ins {a C dx:Addr} {fs:List (Str×V)} (e:H a=some (.ins C dx fs)) (cl:Nc K C) (ha:Pw K (.ref C) "__class__"=some (some (.builtin "object.__class__")))
  (hn:Ti K (.builtin "object.__class__") "__get__"=some (some (.builtin "getset_descriptor.__get__"))) (htk:PySem.W.takesIn K (.builtin "object.__class__")=some true)
  (hm:PySem.W.mroIn K C (.type "object")=some true):ko K H (.ref a) (.ref C)
end
structure gC (k:Nat) (A:Around):Prop where
 hd:A.handled=none
 dp:A.depth+3 * k+5<recursionLimit
 un:A.units+16 * k+200<cLine
theorem gC.mono (r:gC k A) (h:j<=k):gC j A:=⟨r.hd,by have:=r.dp; lia,by have:=r.un; lia⟩
theorem gC.deeper (r:gC (k+1) A) (env:Env):gC k (A.deeper env) :=
 ⟨r.hd,by have:=r.dp; show A.depth+1+3 * k+5<_; lia,by have:=r.un; show A.units+3+16 * k+200<_; lia⟩
theorem gC.depth (r:gC k A):A.depth<recursionLimit:=by have:=r.dp; lia
theorem gC.units (r:gC k A):A.units+64<cLine:=by have:=r.un; lia
noncomputable def LU:TA:=λ_ H Q=>Q [] H
noncomputable def Jw (ta:TE) (tr:TA):TA:=λσ H Q=>ta σ H λx H1=>tr σ H1 λxs H2=>Q (x::xs) H2
theorem dD:PA X [] LU:=λ_ _ _ _ H Q I h=>Calls.spliced_nil ⟨[],H,I,.nil,h⟩
theorem bM (ha:PE X e te) (hr:PA X es t) (hs:starEach (e::es) X.env=(false,eval e X.env)::starEach es X.env:=by rfl):PA X (e::es) (Jw te t):=by
 intro pos aa s σ H Q I h
 rw [hs]
 show wpAny _ _ (spliced ((false,eval e X.env)::backTo pos (starEach es X.env))) _ _ s
 refine Td (bC (ha aa s σ H _ I h) λu s1 ⟨x,H1,I1,r1,q1⟩=>?_)
 exact bC (hr pos aa s1 σ H1 _ I1 q1) λus s2 ⟨xs,H2,I2,r2,q2⟩=>⟨x::xs,H2,I2,.cons r1 r2,q2⟩
noncomputable def LV (t:TA):TE:=λσ H Q=>t σ H λxs H1=>xs.length<=sizeLine/\∀ p,H1 p=none->Q (.ref p) (upd H1 p (.tup xs))
noncomputable def LW (t:TA):TE:=λσ H Q=>t σ H λxs H1=>xs.length<=sizeLine/\∀ p,H1 p=none->Q (.ref p) (upd H1 p (.lst xs))
theorem Gb {x1} (h:PA X es t):PE X (.Tuple es x1 pos) (LV t):=by
 intro aa s σ H Q I hq
 refine wpAny_Tuple_spliced (bC (h pos aa s σ H _ I hq) λus s1 ⟨xs,H1,I1,r,z,q⟩=>⟨by rw [<- r.length]; exact z,?_⟩)
 have hf:H1 s1.heap.objs.size=none:=I1.hok.fresh (Ny _)
 refine ⟨.ref s1.heap.objs.size,upd H1 s1.heap.objs.size (.tup xs),I1.laid (t':=s1.toks) (λb u e=>NC _ e) (Ny _) ?_,rfl,q _ hf⟩
 exact ⟨z,us,r,⟨_,NL _ rfl,rfl,_,rfl⟩⟩
theorem Ge (h:PA X es t):PE X (.List es pos) (LW t):=by
 intro aa s σ H Q I hq
 refine wpAny_List_spliced (bC (h pos aa s σ H _ I hq) λus s1 ⟨xs,H1,I1,r,z,q⟩=>⟨by rw [<- r.length]; exact z,?_⟩)
 have hf:H1 s1.heap.objs.size=none:=I1.hok.fresh (Ny _)
 refine ⟨.ref s1.heap.objs.size,upd H1 s1.heap.objs.size (.lst xs),I1.laid (t':=s1.toks) (λb u e=>NC _ e) (Ny _) ?_,rfl,q _ hf⟩
 exact ⟨z,us,0,r,NL _ rfl⟩
noncomputable abbrev Sp:=List V->Hp->VK->XK->Prop
noncomputable abbrev Gf:=List Env->Hp->Shared->XK->Value->Shared->Prop
structure Cc (P:Program) (w:World) (K:Nu) (mg:Str->Option Value) (base:Heap) (A:Around) (outer:List Env) (s:Shared) (H:Hp):Prop where
 frames:A.frames=some outer
 mod:Mod K mg base
 bs:∀ b o,base.get? b=some o->s.heap.get? b=some o/\H b=none
 bsz:base.objs.size<=s.heap.objs.size
 i9:s.heap.FunFrames base outer
 frf:∀ b∈frs outer,H b=none
 hok:i7 P w H s.heap
 bare:AllBare s.gens
def CE (outer:List Env) (P:Program) (w:World) (H:Hp) (s:Shared) (Q:VK) (u:Value) (s':Shared):Prop :=
 ∃ v H',s'.os=s.os/\AllBare s'.gens/\Un (frs outer) [] H H' s.heap s'.heap/\i7 P w H' s'.heap/\RelV v u/\Q v H'
def CR (CX:Gf) (outer:List Env) (P:Program) (w:World) (H:Hp) (s:Shared) (Q:VK) (E:XK) (r:Result) (s':Shared):Prop :=
 match r with
 | .ok (.ret u)=>CE outer P w H s Q u s'
 | .ok _=>False
 | .error e=>CX outer H s E e s'
structure aY (P:Program) (w:World) (K:Nu) (mg:Str->Option Value) (base:Heap) (CX:Gf) (k:Nat) (f:Addr) (fd:FuncData) (ps:List Str) (sp:Sp):Prop where
 len:∀ vs H Q E,sp vs H Q E->vs.length=ps.length
 run:∀ (A:Around) (outer:List Env) (s:Shared) (H:Hp) (args:Args) (us:List Value) (vs:List V) (Q:VK) (E:XK),gC k A->Cc P w K mg base A outer s H->BindsTo s fd args (ps.zip us)->Vals vs us->sp vs H Q E ->
  codeAny (model P w) A (.call (.ref f) args) (CR CX outer P w H s Q E) s
theorem aY.mono {K:Nu} (F:aY P w K mg base CX j f fd ps sp) (h:j<=k) :
 aY P w K mg base CX k f fd ps sp:=⟨F.len,λA outer s H args us vs Q E hr=>F.run A outer s H args us vs Q E (hr.mono h)⟩
theorem Inv.Gg (I:Inv X aa σ H s):Cc X.prog X.w X.K X.mg X.base X.A X.stack s H :=
 ⟨I.ok.frames,I.ok.mod,I.bs,NI I.ok.bsz I.sz,I.stack,I.tT,I.hok,I.bare⟩
theorem Inv.after (I:Inv X aa σ H s) (h:CE X.stack X.prog X.w H s Q u s'):EP X aa σ Q u s':=by
 obtain ⟨v,H',os,bare,un,hok,r,q⟩:=h
 obtain ⟨hh,g,d,t,os'⟩:=s'
 obtain rfl:os'=s.os:=os
 exact ⟨v,H',I.call (h':=hh) (g':=g) (d':=d) (t':=t) (ch:=[]) un hok bare (λb z=>absurd z (by simp)),r,q⟩
def Binds (K:Nu) (fd:FuncData) (ps:List Str) (ds:List Value):Prop :=
 ∀ (s:Shared) (us:List Value),K.In s.heap->(us++ds).length=ps.length->BindsTo s fd ⟨us,[]⟩ (ps.zip (us++ds))
theorem Binds.all {K:Nu} (h:∀ us:List Value,us.length=ps.length->bindArgs fd ⟨us,[]⟩=pure (ps.zip us)):Binds K fd ps []:=λs us _ hl=>by
 rw [OD] at hl |-
 exact .of_eq (h us hl)
section
variable {X:Cx} {CX:Gf} {k:Nat} {f C:Addr} {fd:FuncData} {ps:List Str} {sp:Sp} {dvs:List V} {ds:List Value} {E:XK} {x m:Str} {p pos apos:Pos} {e o:Expr} {es:List Expr} {ta:TE} {t:TA}
structure Mk (K:Nu) (C f:Addr):Prop where
 makes:PySem.W.makesIn K C=true
 init:Pw K (.ref C) "__init__"=some (some (.ref f))
 fn:PySem.W.isFn K (.ref f)=true
 kp:Pa K (.ref C)=true
end
section
variable {X:Cx} {CX:Gf} {k:Nat} {f C:Addr} {fd:FuncData} {ps ks:List Str} {sp:Sp} {E:XK} {x m:Str} {p pos apos kpos:Pos} {e o:Expr} {es:List Expr} {kws:List Keyword} {te ta:TE} {t tk:TA} {nm:Option Str}
structure LX (K:Nu) (fd:FuncData) (ps ks:List Str) (g:List Value->List Value->List Value) (gV:List V->List V->List V):Prop where
 to:∀ (s:Shared) (us ws:List Value),K.In s.heap->(g us ws).length=ps.length->BindsTo s fd ⟨us,ks.zip ws⟩ (ps.zip (g us ws))
 rel:∀ {vs:List V} {us:List Value} {zs:List V} {ws:List Value},Vals vs us->Vals zs ws->Vals (gV vs zs) (g us ws)
end
structure nM (N P:List Str) (sc:Scope):Prop where
 kind:sc.kind=.function
 co:sc.isCoroutine=false
 gen:sc.isGenerator=false
 nd:N.Nodup
 pre:N.take P.length=P
 par:∀ x∈P,sc.names.lookup x=some .local\/sc.names.lookup x=some .cell
 nofree:∀ y∈sc.names,y.2≠.free
theorem mq {kindOf:Str->Option NameKind}:∀ {binds:List (Str×Value)} {m:Str->Option Value},(∀ v,(x,v)∉binds)->bindL kindOf binds m x=m x
 | [],_,_=>rfl
 | (n,v)::r,m,h=>by
  unfold bindL
  rw [mq λw hw=>h w (NK _ hw)]
  split
  ·have:x≠n:=by rintro rfl; exact h v NP
   simp [this]
  ·rfl
theorem mw {kindOf:Str->Option NameKind}:∀ {binds:List (Str×Value)} {m:Str->Option Value},(∀ v,(x,v)∉binds)->bindC kindOf binds m x=m x
 | [],_,_=>rfl
 | (n,v)::r,m,h=>by
  unfold bindC
  rw [mw λw hw=>h w (NK _ hw)]
  split
  ·rfl
  ·have:x≠n:=by rintro rfl; exact h v NP
   simp [this]
theorem mz {kindOf:Str->Option NameKind}:∀ {P:List Str} {vs:List Value} {i:Nat} {m:Str->Option Value},P.Nodup->P[i]?=some x->vs[i]?=some v->kindOf x=some .local ->
 bindL kindOf (P.zip vs) m x=some v
 | [],_,_,_,_,h,_,_=>by simp at h
 | _::_,[],_,_,_,_,h,_=>by simp at h
 | p::P,w::vs,0,m,nd,h1,h2,hk=>by
  simp at h1 h2; subst h1; subst h2
  show bindL kindOf ((p,w)::P.zip vs) m p=_
  unfold bindL
  rw [mq λv hv=>(Pu.mp nd).1 (R0 hv).1,if_pos hk]
  simp
 | p::P,w::vs,i+1,m,nd,h1,h2,hk=>by
  show bindL kindOf ((p,w)::P.zip vs) m x=_
  unfold bindL
  exact mz (i:=i) (Pu.mp nd).2 (by simpa using h1) (by simpa using h2) hk
theorem mC {kindOf:Str->Option NameKind}:∀ {P:List Str} {vs:List Value} {i:Nat} {m:Str->Option Value},P.Nodup->P[i]?=some x->vs[i]?=some v->kindOf x≠some .local ->
 bindC kindOf (P.zip vs) m x=some v
 | [],_,_,_,_,h,_,_=>by simp at h
 | _::_,[],_,_,_,_,h,_=>by simp at h
 | p::P,w::vs,0,m,nd,h1,h2,hk=>by
  simp at h1 h2; subst h1; subst h2
  show bindC kindOf ((p,w)::P.zip vs) m p=_
  unfold bindC
  rw [mw λv hv=>(Pu.mp nd).1 (R0 hv).1,if_neg hk]
  simp
 | p::P,w::vs,i+1,m,nd,h1,h2,hk=>by
  show bindC kindOf ((p,w)::P.zip vs) m x=_
  unfold bindC
  exact mC (i:=i) (Pu.mp nd).2 (by simpa using h1) (by simpa using h2) hk
noncomputable def start (N:List Str) (vs:List V):St:=vs.map some++NY (N.length - vs.length) none
noncomputable def r6 (CX:Gf) (P:Program) (w:World) (K:Nu) (mg:Str->Option Value) (base:Heap) (N:List Str) (qual:Str) (scope:Scope) (f:Addr) (cd:Value) (A:Around) (outer:List Env) (s:Shared) (H:Hp) (E:XK):Cx where
 prog:=P
 w:=w
 K:=K
 mg:=mg
 base:=base
 A:=A.deeper (envOfC qual scope s.heap.objs.size f cd)
 N:=N
 s₀:=s
 H₀:=H
 env:=envOfC qual scope s.heap.objs.size f cd
 outer:=outer
 stack:=envOfC qual scope s.heap.objs.size f cd::outer
 ex:=[]
 calm:=true
 fn:=λ_=>true
 pn:=[]
 xe:=λe s'=>wpAny (model P w) (A.deeper (envOfC qual scope s.heap.objs.size f cd)) (leaving (envOfC qual scope s.heap.objs.size f cd) e) (λ_ s''=>CX outer H s E e s'') (λe' s''=>CX outer H s E e' s'') s'
theorem pK {sc:Scope} (h:sc.names.lookup x=some .cell):∃ c,(cellsFrom n sc.names []).lookup x=some c:=by
 have q:=PySem.W.cellsFrom_some sc.names n [] (.inl h)
 exact Option.isSome_iff_exists.mp q
theorem we {K:Nu}
 (S:nM N ps scope) (hd:A.handled=none) (e0:Cc P w K mg base A outer s H) (hl:vs.length=ps.length) (r:Vals vs us)
 (x:InCallC s s.heap.objs.size (bindL (envOfC qual scope s.heap.objs.size f cd).kindOf (ps.zip us) λ_=>none) (cellsFrom (s.heap.objs.size+1) scope.names []) (bindC (envOfC qual scope s.heap.objs.size f cd).kindOf (ps.zip us) λ_=>none) s1) :
 Inv (r6 CX P w K mg base N qual scope f cd A outer s H E) [] (start N vs) H s1:=by
 have hpl:ps.length<=N.length:=by have:=congrArg PK S.pre; rw [Ow] at this; lia
 obtain ⟨h1,tk,rfl,hk⟩:=x.done
 have noA:∀ b:Addr,b∉(r6 CX P w K mg base N qual scope f cd A outer s H E).ex:=λb z=>absurd (show b∈([]:List Addr) from z) (by simp)
 refine ⟨⟨e0.mod,S.kind,rfl,rfl,Ny _,λy z c h1 h2=>?_,λy hy=>?_,λy c _ h=>?_,λ_=>hd,Around.frames_deeper e0.frames,.inr ⟨rfl,rfl⟩,λb z=>absurd z (noA b),e0.bs,e0.bsz,λb _ _=>noA b,λb z=>absurd z (noA b),e0.i9,e0.frf⟩,
  rfl,e0.bare,Un.kept hk,⟨_,x.toInCall.ns,λi y v h1 h2 h3=>?_⟩,λy c h=>⟨_,x.cell y c h⟩,e0.hok.fresh (Ny _),λy c h=>?_,λp hp=>absurd (show p∈([]:List (Addr×Obj)) from hp) (by simp),e0.hok.kept hk,?_⟩
 ·exact name_of_addr x.apart (QN h1) (QN h2)
 ·have hy:scope.names.lookup y=some .cell\/scope.names.lookup y=some .free:=hy
  rcases hy with hy | hy
  ·exact pK hy
  ·exact absurd rfl (S.nofree _ (QN hy))
 ·exact PJ (x.above y c (QN h))
 ·have hi:i<vs.length:=by
   unfold start at h2
   by_cases hi:i<vs.length
   ·exact hi
   ·rw [QK (by simpa using hi)] at h2
    rw [List.getElem?_replicate] at h2
    split at h2 <;> cases h2
  have ha:vs[i]?=some v:=by
   unfold start at h2
   rw [PZ (by simpa using hi),NO] at h2
   cases e:vs[i]? with
   | none=>rw [e] at h2; cases h2
   | some a=>rw [e] at h2; cases h2; rfl
  obtain ⟨u,hu,rv⟩:=r.get ha
  have hp:ps[i]?=some y:=by
   rw [<- S.pre,Rt (by lia)]; exact h1
  have ndP:ps.Nodup:=by rw [<- S.pre]; exact S.nd.sublist (RP _ _)
  refine ⟨u,rv,?_⟩
  rcases S.par y (O1 hp) with k | k
  ·exact .inl ⟨k,mz ndP hp hu k⟩
  ·obtain ⟨c,e⟩:=pK (n:=s.heap.objs.size+1) k
   refine .inr ⟨.inl k,c,e,?_⟩
   have q:=x.cell y c e
   rw [mC ndP hp hu (by show scope.names.lookup y≠_; rw [k]; decide)] at q
   exact q
 ·exact e0.hok.fresh (PJ (x.above y c (QN h)))
 ·unfold start
  show _=N.length
  rw [N5,ND,SM]
  lia
theorem EC {K:Nu} {dV kV doc pm cdv ct oc:Value}
 (lk:K.lookup f=some ⟨oc,od,.func (Pn name qual params body scope dV kV doc pm an cdv ct),osl⟩) (hcd:R5 K cdv qual=true) (S:nM N ps scope)
  (len:∀ vs H Q E,sp vs H Q E->vs.length=ps.length)
  (hbody:∀ (A:Around) (outer:List Env) (s:Shared) (H:Hp) (vs:List V) (Q:VK) (E:XK),gC k (A.deeper (envOfC qual scope s.heap.objs.size f cdv))->sp vs H Q E ->
    ∃ t,rS (r6 CX P w K mg base N qual scope f cdv A outer s H E) body t/\t { nx:=λ_ H'=>Q .non H',rt:=Q } (start N vs) H) :
  aY P w K mg base CX (k+1) f (Pn name qual params body scope dV kV doc pm an cdv ct) ps sp:=by
  refine ⟨len,λA outer s H args us vs Q E hr e0 hb r tR=>?_⟩
  have hl:=len _ _ _ _ tR
  have KX:K.In s.heap:=e0.mod.kin.keeps λb o e=>(e0.bs b o e).1
  have lim:s.heap.NoLimit:=e0.mod.nolimit.keeps λb o e=>(e0.bs b o e).1
  have hkind:∀ y∈ps.zip us,scope.names.lookup y.1=some .local\/(scope.names.lookup y.1=some .cell/\((cellsFrom (s.heap.objs.size+1) scope.names []).lookup y.1).isSome=true):=λ⟨n,v⟩ hy=>by
   rcases S.par n (R0 hy).1 with q | q
   ·exact .inl q
   ·exact .inr ⟨q,PySem.W.cellsFrom_some _ _ _ (.inl q)⟩
  refine codeAny_call_function hr.depth (KX _ _ lk) rfl S.co S.gen rfl (PySem.W.codeRec_of KX hcd) (hb _ _ _ _ ?_)
  refine wpAny_newFunctionEnv_cells S.kind hkind λenv he s1 x=>?_
  subst he
  refine ⟨lim.keeps x.toInCall.keep,codeAny_func ?_⟩
  obtain ⟨t,ht,hq⟩:=hbody A outer s H vs Q E (hr.deeper _) tR
  have I:Inv (r6 CX P w K mg base N qual scope f cdv A outer s H E) [] (start N vs) H s1:=we S hr.hd e0 hl r x
  refine Oh (ht [] s1 (start N vs) H _ I hq) (λfl s' hs=>?_) λe s' hs=>hs
  have fin:∀ {σ':St} {H':Hp} {v:V} {u:Value},Inv (r6 CX P w K mg base N qual scope f cdv A outer s H E) [] σ' H' s'->RelV v u->Q v H'->CE outer P w H s Q u s' :=
   λ{σ' H' v u} J rv q=>⟨v,H',J.os,J.bare,J.base,J.hok,rv,q⟩
  cases fl with
  | ret u =>
   obtain ⟨v,σ',H',J,rv,q⟩:=hs
   exact fin J rv q
  | next =>
   obtain ⟨σ',H',J,q⟩:=hs
   exact fin (v:=V.non) (u:=OC) J rfl q
  | brk =>
   obtain ⟨_,_,_,q⟩:=hs
   exact OF q
  | cont =>
   obtain ⟨_,_,_,q⟩:=hs
   exact OF q
section
variable {id T:String}
noncomputable def MT (r:List V->Hp->VK->Prop) (t:TA):TE:=λσ H Q=>t σ H λvs H1=>r vs H1 Q
theorem yl (hc:fL X (.builtin id) r) (hg:Gl X x) (hm:X.mg x=none) (hv:bootBuiltins x=some (.builtin id)) (ha:PA X (e::es) t) (hn:x≠"__name__":=by decide) (hdb:(x == ("__debug__":Str))=false:=by decide)
 (he:starEach (e::es) X.env=(false,eval e X.env)::starEach es X.env:=by rfl) (hpl:(backTo pos (starEach es X.env)).any (·.1)=false:=by rfl):PE X (.Call (.Name x p) (e::es) [] pos) (MT r t):=by
 intro aa s σ H Q I h
 refine O2 (dz I hg hm hv ?_ hn hdb)
 exact TX (bC (ha pos aa s σ H _ I h) λus s1 ⟨vs,H1,I1,r1,q1⟩=>hc aa s1 σ H1 vs us Q I1 r1 q1) he hpl
theorem mD (hc:fL X (.type T) r) (hg:Gl X x) (hm:X.mg x=none) (hv:bootBuiltins x=some (.type T)) (ha:PA X (e::es) t) (hn:x≠"__name__":=by decide) (hdb:(x == ("__debug__":Str))=false:=by decide)
 (he:starEach (e::es) X.env=(false,eval e X.env)::starEach es X.env:=by rfl) (hpl:(backTo pos (starEach es X.env)).any (·.1)=false:=by rfl):PE X (.Call (.Name x p) (e::es) [] pos) (MT r t):=by
 intro aa s σ H Q I h
 refine O2 (dz I hg hm hv ?_ hn hdb)
 exact QJ (bC (ha pos aa s σ H _ I h) λus s1 ⟨vs,H1,I1,r1,q1⟩=>hc aa s1 σ H1 vs us Q I1 r1 q1) he hpl
end
end L2
namespace HT
open PySem PyProof.Rows
noncomputable def lexLt:List Int->List Int->Bool
 | [],[]=>false
 | [],_::_=>true
 | _::_,[]=>false
 | x::xs,y::ys=>if x=y then lexLt xs ys else decide (x<y)
theorem cG (x y) (xs ys):lexLt (x::xs) (y::ys)=if x=y then lexLt xs ys else decide (x<y):=rfl
theorem gG:lexLt [] []=false:=rfl
theorem fM (y) (ys):lexLt [] (y::ys)=true:=rfl
theorem fN (x) (xs):lexLt (x::xs) []=false:=rfl
theorem ym (A:Around) (s) (a) (t:Tok) (c) (u:Tok):∃ e,NV A s (.int a t) (.int c u) e/\(e=true↔a=c) :=
 ⟨(a == c),NV.int_int a t c u,by simp⟩
theorem yo (A:Around) (s) (a) (t:Tok) (c) (u:Tok) (prog) (w) (E) (Q) (h:Q (.bool (decide (a<c))) s) :
 wpAny (model prog w) A (richCompare .Lt (.int a t) (.int c u)) Q E s :=
 (PyProof.Rows.lt_int h:wpAny (model prog w) A (compareOp .Lt (.int a t) (.int c u)) Q E s)
section
open PySem.SeqAt
open PySem.AutoSeq1 (wpAny_loadPart')
open PySem.MeetsSeq PySem.MeetsSeq2 PySem.MeetsSeq3
theorem gH (l b) (items items2) (n n2) (dd dd2) (sl sl2) (ns ms) (hi:IntsAre items.toList ns) (hj:IntsAre items2.toList ms) :
 Meets (Builtin.«tuple.__lt__» ⟨[.ref l,.ref b],[]⟩)
  (λ_ R s=>s.heap.get? l=some { cls:=.type "tuple",dict:=dd,data:=.seq items n,slots:=sl }/\s.heap.get? b=some { cls:=.type "tuple",dict:=dd2,data:=.seq items2 n2,slots:=sl2 } /\
    R (.ok (.ret (.bool (lexLt ns ms)))) s) :=
 .of_wp λprog w A R s h=>by
  obtain ⟨hp,g,d,tk,os⟩:=s; obtain ⟨hl,hb,h⟩:=h
  have f2:=AutoSeq1.sub_tuple_tuple
  have z1:items.size=ns.length:=by rw [<- hi.length]; simp
  have z2:items2.size=ms.length:=by rw [<- hj.length]; simp
  wp_walk using wpAny_loadPart' hl,wpAny_loadPart' hb,wpAny_forIn_list _ (λrest b s'=>b.1=none/\s'=⟨hp,g,d,tk,os⟩/\∃ (vs ws:List Value) (ns' ms':List Int),rest=vs.zip ws /\
   IntsAre vs ns'/\IntsAre ws ms'/\ns'.length+items2.size=ms'.length+items.size/\R (.ok (.ret (.bool (lexLt ns' ms')))) ⟨hp,g,d,tk,os⟩) _
  case turn =>
   rintro ⟨y,x⟩ rest b s' ⟨hb',rfl,vs,ws,ns',ms',hz,hvi,hwi,hlen,hR⟩
   cases hvi with
   | nil=>rw [List.zip_nil_left] at hz; cases hz
   | cons a t hvi' =>
    cases hwi with
    | nil=>rw [List.zip_nil_right] at hz; cases hz
    | cons c u hwi' =>
     rw [RJ] at hz
     injection hz with hyx hrest
     injection hyx with hy hx
     subst hy hx
     rw [cG] at hR
     simp only [Oe] at hlen
     obtain ⟨e,he,hiff⟩:=ym A.in1 ⟨hp,g,d,tk,os⟩ a t c u
     refine Nt (he prog w _ _ ?_)
     cases e with
     | true =>
      rw [if_pos (hiff.mp rfl)] at hR
      wp_walk
      exact ⟨rfl,rfl,_,_,_,_,hrest,hvi',hwi',by lia,hR⟩
     | false =>
      rw [if_neg (λq=>absurd (hiff.mpr q) NH)] at hR
      have hri:=yo A.in1 ⟨hp,g,d,tk,os⟩ a t c u prog w
      wp_walk using hri
      exact ⟨_,rfl,by simpa using hR⟩
  case fin =>
   rintro ⟨b1,b2⟩ s' ⟨hb',rfl,vs,ws,ns',ms',hz,hvi,hwi,hlen,hR⟩
   simp only at hb'
   subst hb'
   have hv:lexLt ns' ms'=decide (items.size<items2.size):=by
    cases hvi with
    | nil =>
     cases hwi with
     | nil =>
      simp only [OZ] at hlen
      rw [gG]
      exact (decide_eq_false (by lia)).symm
     | cons c u hw =>
      simp only [OZ,Oe] at hlen
      rw [fM]
      exact (decide_eq_true (by lia)).symm
    | cons a t hv =>
     cases hwi with
     | nil =>
      simp only [OZ,Oe] at hlen
      rw [fN]
      exact (decide_eq_false (by lia)).symm
     | cons c u hw =>
      rw [RJ] at hz
      cases hz
   rw [hv] at hR
   wp_walk
   exact ⟨_,rfl,by simpa [Builtin.Tuple.tupleCompareSizes] using hR⟩
  case h =>
   exact ⟨rfl,rfl,items.toList,items2.toList,ns,ms,rfl,hi,hj,by lia,h⟩
end
theorem kq (hl:IsTup s.heap l items) (hb:IsTup s.heap b items2) (hi:IntsAre items.toList ns) (hj:IntsAre items2.toList ms)
 (hu:A.units<cLine) (h:Q (.bool (lexLt ns ms)) s):wpAny (model prog w) A (compareOp .Lt (.ref l) (.ref b)) Q E s:=by
 obtain ⟨⟨cls,dd,data,sl⟩,ho,hc,n,hd⟩:=id hl
 obtain ⟨⟨cls2,dd2,data2,sl2⟩,ho2,hc2,n2,hd2⟩:=id hb
 simp only at hc hd hc2 hd2
 subst hc hd hc2 hd2
 exact richCompare_meets_room (op:=.Lt) ⟨_,ho,rfl⟩ ⟨_,ho2,rfl⟩ SJ PySem.F.entry_tuple_lt (PySem.F.args_tuple_lt_2 _ _) (gH l b items items2 n n2 dd dd2 sl sl2 ns ms hi hj)
  ⟨ho,ho2,show Value.bool (lexLt ns ms)≠Value.notImplemented/\Q (.bool (lexLt ns ms)) s from ⟨(λx=>nomatch x),h⟩⟩ hu
noncomputable def bZ (n d:Nat):Option Int->Nat
 | none=>d
 | some v=>if v<0 then (v+(n:Int)).toNat else min v.toNat n
theorem yp (n d):bZ n d none=d:=rfl
theorem Cd (n d k:Nat):bZ n d (some (k:Int))=min k n:=by
 show (if (k:Int)<0 then ((k:Int)+(n:Int)).toNat else min (k:Int).toNat n)=min k n
 rw [if_neg (by lia),Oz]
theorem Gh (n d) (hd:d<=n) (o):bZ n d o<=n:=by
 cases o with
 | none=>exact hd
 | some v =>
  show (if v<0 then (v+(n:Int)).toNat else min v.toNat n)<=n
  by_cases hv:v<0
  ·rw [if_pos hv]; lia
  ·rw [if_neg hv]; exact Nat.min_le_right _ _
theorem t8 (v) (n d:Nat):(if v<0 then max (v+(n:Int)) 0 else min v (n:Int))=((bZ n d (some v):Nat):Int):=by
 show (if v<0 then max (v+(n:Int)) 0 else min v (n:Int))=(((if v<0 then (v+(n:Int)).toNat else min v.toNat n):Nat):Int)
 by_cases hv:v<0
 ·simp only [if_pos hv]; lia
 ·simp only [if_neg hv]; lia
theorem r8 (lo hi) (n:Nat):Sv lo hi 1 (n:Int)=(((bZ n 0 lo:Nat):Int),((bZ n n hi:Nat):Int)):=by
 have h1:¬ ((1:Int)<0):=by lia
 unfold Sv
 simp only [h1,if_false]
 refine Prod.ext ?_ ?_
 ·cases lo with
  | none=>rfl
  | some v=>exact t8 v n 0
 ·cases hi with
  | none=>rfl
  | some v=>exact t8 v n n
theorem r9 (i j:Nat):Rq (i:Int) (j:Int) 1=j - i:=by
 unfold Rq
 have h1:(1:Int)>0:=by lia
 simp only [h1,if_true,Int.ediv_one]
 split <;> lia
theorem kr (p:IsPart v o) (h:Q o s):wpAny (model prog w) A (Builtin.Slice.slicePartIndex v) Q E s:=by
 cases p with
 | none=>exact slicePart_none h
 | int i t=>exact slicePart_int h
theorem eS {sl:Addr} {vl vu:Value} {lo hi:Option Int} {n:Nat} {Q:Int×Int×Nat->Shared->Prop} (hs:s.heap.IsSliceOf sl vl vu .none) (pl:IsPart vl lo) (pu:IsPart vu hi)
 (h:Q (((bZ n 0 lo:Nat):Int),1,bZ n n hi - bZ n 0 lo) s):wpAny (model prog w) A (Builtin.Slice.sliceApplied (.ref sl) (pure (n:Int))) Q E s:=by
 obtain ⟨os,hos,hcs,hds⟩:=id hs
 unfold Builtin.Slice.sliceApplied Builtin.Slice.sliceFields
 refine Nt (Nt (Pc hos hds (x:=vl) rfl (Nt (Pc hos hds (x:=vu) rfl (Nt (Pc hos hds (x:=.none) rfl (Nv ?_)))))))
 refine Nt (slicePart_none ?_)
 show wpAny _ _ (if ((1:Int) == 0)=true then _ else _) _ _ s
 rw [if_neg (by decide)]
 refine Nt (kr pl (Nt (kr pu (Nt (Nv ?_)))))
 show wpAny _ _ (match Sv lo hi 1 (n:Int) with | (lo,hi)=>pure (lo,(1:Int),Rq lo hi 1)) _ _ s
 rw [r8 lo hi n]
 show wpAny _ _ (pure (((bZ n 0 lo:Nat):Int),(1:Int),Rq ((bZ n 0 lo:Nat):Int) ((bZ n n hi:Nat):Int) 1)) _ _ s
 rw [r9]
 exact Nv h
theorem yq (xs:Array Value) (i k:Nat):((N6 k).filterMap λ(m:Nat)=>xs[((i:Int)+(m:Int) * 1).toNat]?).toArray=((xs.toList.drop i).take k).toArray:=by
 have e:(λ(m:Nat)=>xs[((i:Int)+(m:Int) * 1).toNat]?)=λm=>xs[i+m]?:=by
  funext m
  have:((i:Int)+(m:Int) * 1).toNat=i+m:=by lia
  rw [this]
 rw [e]
 have:=pick_run xs i k
 rw [RK] at this
 have e2:((λx=>xs[x]?)∘λx=>i+x)=λm=>xs[i+m]?:=rfl
 rw [e2] at this
 rw [this]
theorem iu {lo hi:Option Int} (ht:IsTup s.heap t items) (hs:s.heap.IsSliceOf sl vl vu .none) (pl:IsPart vl lo) (pu:IsPart vu hi)
 (hw:¬ (bZ items.size 0 lo=0/\bZ items.size items.size hi=items.size))
 (h:Q (.ref s.heap.objs.size) { s with heap:=s.heap.push { cls:=.type "tuple",data:=.seq ((items.toList.drop (bZ items.size 0 lo)).take (bZ items.size items.size hi - bZ items.size 0 lo)).toArray } })
 (hsz:items.size<=sizeLine):wpAny (model prog w) A (getItem (.ref t) (.ref sl)) Q E s:=by
 have htake:sizeOk (.seq ((items.toList.drop (bZ items.size 0 lo)).take (bZ items.size items.size hi - bZ items.size 0 lo)).toArray):=by
  show ((items.toList.drop (bZ items.size 0 lo)).take (bZ items.size items.size hi - bZ items.size 0 lo)).toArray.size<=sizeLine
  rw [NR,Ow,TF,Oo]
  lia
 have hj:bZ items.size items.size hi<=items.size:=Gh _ _ (Ny _) hi
 obtain ⟨os,hos,hcs,hds⟩:=id hs
 have hTs:s.TypeIs (.ref sl) "slice":=⟨os,hos,hcs⟩
 unfold getItem
 try with_reducible refine ON ?_
 first | refine Nt (Nv ?_) | skip
 refine Nt (Te ht.typeIs (by decide) ?_)
 refine Nt (Pp (name:=Nr "__getitem__") ht.typeIs Qj
  (O4 Qj ht.typeIs entry_tuple_getitem ?_ (args_tuple_getitem _ _)))
 show wpAny _ _ (Builtin.Tuple.tupleItemsOf (.ref t) >>= _) _ _ s
 refine Nt (tupleItemsOf_ ht ?_)
 refine Nt (Pk hTs ?_)
 rw [if_pos (by decide)]
 refine Nt (eS hs pl pu ?_)
 have hno:¬ ((((bZ items.size 0 lo:Nat):Int) == 0 && (1:Int) == 1 && (bZ items.size items.size hi - bZ items.size 0 lo) == items.size)=true):=by
  intro q
  rw [QX,QX] at q
  have q1:((bZ items.size 0 lo:Nat):Int)=0:=eq_of_beq q.1.1
  have q2:bZ items.size items.size hi - bZ items.size 0 lo=items.size:=eq_of_beq q.2
  exact hw ⟨by lia,by lia⟩
 show wpAny _ _ (if (((bZ items.size 0 lo:Nat):Int) == 0 && (1:Int) == 1 && (bZ items.size items.size hi - bZ items.size 0 lo) == items.size)=true then _ else _) _ _ s
 rw [if_neg hno,yq]
 first
  | exact Nt (m:=Ru _) (OJ (Nv ⟨_,rfl,Nv h⟩) htake)
  | exact Nt (m:=Ru _) (OJ (Nt (Nv (Nv ⟨_,rfl,Nv h⟩))) htake)
  | exact Nt (Nt (m:=Ru _) (OJ (Nv (Nv ⟨_,rfl,Nv h⟩)) htake))
  | exact Nt (Nt (m:=Ru _) (OJ (Nv ⟨_,rfl,Nv h⟩) htake))
end HT
namespace L2
open PySem PySem.Spec PyProof.Rows
noncomputable abbrev TO:=St->Hp->(Option Int->Hp->Prop)->Prop
def PO (X:Cx) (e:Option Expr) (t:TO):Prop :=
 ∀ (aa:List (Addr×Obj)) (s:Shared) (σ:St) (H:Hp) (Q:Option Int->Hp->Prop),Inv X aa σ H s->t σ H Q ->
  wpAny (model X.prog X.w) X.A (evalPart e X.env) (λu s'=>∃ o H',Inv X aa σ H' s'/\IsPart u o/\Q o H') X.xe s
noncomputable def Ce:TO:=λ_ H Q=>Q none H
noncomputable def Jx (t:TE):TO:=λσ H Q=>t σ H λx H1=>∃ i,x=.int i/\Q (some i) H1
theorem intsAre_of:∀ {us:List Value},Vals (ns.map V.int) us->IntsAre us ns:=by
 induction ns with
 | nil=>intro us r; rw [Pb] at r; cases r; exact .nil
 | cons n ns ih =>
  intro us r
  rw [NF] at r
  cases r with
  | cons r1 r2 =>
   obtain ⟨t,e⟩:=r1
   subst e
   exact .cons n t (ih r2)
section
variable {lo hi:Option Expr}
theorem Cf:PO X none Ce:=by
 intro aa s σ H Q I h
 rw [evalPart_none]
 exact Nv ⟨none,H,I,.none,h⟩
theorem Cg (h:PE X e te):PO X (some e) (Jx te):=by
 intro aa s σ H Q I hw
 rw [evalPart_some]
 refine bC (h aa s σ H _ I hw) λu s1 ⟨x,H1,I1,r1,q1⟩=>?_
 obtain ⟨i,rfl,q⟩:=q1
 obtain ⟨t,rfl⟩:=r1
 exact ⟨some i,H1,I1,.int i t,q⟩
def BR (X:Cx) (r:V->Option Int->Option Int->Hp->VK->Prop):Prop :=
 ∀ (aa:List (Addr×Obj)) (s:Shared) (σ:St) (H:Hp) (x:V) (v vl vu:Value) (lo hi:Option Int) (sl:Addr) (Q:VK),Inv X aa σ H s->RelV x v->s.heap.IsSliceOf sl vl vu .none->IsPart vl lo->IsPart vu hi->r x lo hi H Q ->
  ∃ T id,typeLookup (.type T) "__getitem__"=pure (some (.builtin id))/\s.TypeIs v T/\wpAny (model X.prog X.w) X.A (getItem v (.ref sl)) (EP X aa σ Q) X.xe s
theorem BR.or (h:BR X r) (h':BR X r'):BR X (λx lo hi H Q=>r x lo hi H Q\/r' x lo hi H Q):=by
 intro aa s σ H x v vl vu lo hi sl Q I rx hs pl pu q
 rcases q with q | q
 ·exact h aa s σ H x v vl vu lo hi sl Q I rx hs pl pu q
 ·exact h' aa s σ H x v vl vu lo hi sl Q I rx hs pl pu q
noncomputable def Nd (r:V->Option Int->Option Int->Hp->VK->Prop) (te:TE) (tl th:TO):TE:=λσ H Q=>te σ H λx H1=>tl σ H1 λl H2=>th σ H2 λu H3=>r x l u H3 Q
theorem yr (hr:BR X r) (he:PE X e te) (hl:PO X lo tl) (hu:PO X hi th):PE X (.Subscript e (.Slice lo hi none p2) pos) (Nd r te tl th):=by
 intro aa s σ H Q I h
 refine Rj (bC (he aa s σ H _ I h) λv s1 ⟨x,H1,I1,r1,q1⟩=>?_)
 refine wpAny_Slice (bC (hl aa s1 σ H1 _ I1 q1) λvl s2 ⟨l,H2,I2,pl,q2⟩=>bC (hu aa s2 σ H2 _ I2 q2) λvu s3 ⟨u,H3,I3,pu,q3⟩=>?_)
 rw [evalPart_none]
 refine Nv ?_
 have I4:Inv X aa σ H3 { s3 with heap:=s3.heap.push { cls:=.type "slice",data:=.fields #[vl,vu,.none] } }:=I3.kept (t':=s3.toks) λb ob q=>NC _ q
 obtain ⟨T,id,hT,ht,hg⟩:=hr aa { s3 with heap:=s3.heap.push { cls:=.type "slice",data:=.fields #[vl,vu,.none] } } σ H3 x v vl vu l u s3.heap.objs.size Q I4 r1 (Tc ..) pl pu q3
 show wpAny (model X.prog X.w) X.A (subscriptTail e (.Slice lo hi none p2) v (.ref s3.heap.objs.size)) (EP X aa σ Q) X.xe { s3 with heap:=s3.heap.push { cls:=.type "slice",data:=.fields #[vl,vu,.none] } }
 exact tail_any (ops:=[.ref s3.heap.objs.size,v]) ht hT hg (by walk_at "u")
noncomputable def nN (xs:List V) (lo hi:Option Int):List V:=(xs.drop (HT.bZ xs.length 0 lo)).take (HT.bZ xs.length xs.length hi - HT.bZ xs.length 0 lo)
theorem jz (xs) (lo hi):(nN xs lo hi).length<=xs.length:=by
 unfold nN
 rw [Ow,TF]
 lia
noncomputable def LY (K:Nu):V->Option Int->Option Int->Hp->VK->Prop:=λx lo hi H Q=>∃ a xs,x=.ref a/\c8 K H a xs /\
 ¬ (HT.bZ xs.length 0 lo=0/\HT.bZ xs.length xs.length hi=xs.length)/\∀ p,H p=none->Q (.ref p) (upd H p (.tup (nN xs lo hi)))
theorem Gi:BR X (LY X.K):=by
 intro aa s σ H x v vl vu lo hi sl Q I rx hs pl pu h
 obtain ⟨a,xs,rfl,hx,hw,q⟩:=h
 cases rx
 obtain ⟨its,r,ht,hz⟩:=I.tuple hx
 have hlen:its.toArray.size=xs.length:=by rw [NR]; exact r.length.symm
 refine ⟨"tuple",_,Qj.lookup,ht.typeIs,?_⟩
 refine HT.iu ht hs pl pu (by rw [hlen]; exact hw) ?_ (by rw [hlen]; exact hz)
 rw [hlen]
 refine ⟨.ref s.heap.objs.size,_,I.laid (t':=s.toks) (o:=.tup (nN xs lo hi)) (λb ob q=>NC _ q) (Ny _) ?_,rfl,q _ (I.hok.fresh (Ny _))⟩
 exact ⟨NI (jz xs lo hi) hz,_,(r.drop (HT.bZ xs.length 0 lo)).take (HT.bZ xs.length xs.length hi - HT.bZ xs.length 0 lo),IsTup.new _ _⟩
theorem Vals.uc (r:Vals xs us):us=[]↔xs=[]:=by
 cases r with
 | nil=>simp
 | cons _ _=>simp
end
noncomputable def IS (n:Nat) (i:Int):Option Nat:=if 0<=i then (if i<n then some i.toNat else none) else if -(n:Int)<=i then some (i+n).toNat else none
noncomputable def jU {α:Type} (xs:List α) (i:Int):Option α:=(IS xs.length i).bind λj=>xs[j]?
theorem Ci (h:IS n i=some j):seqIndex? i n=some j/\j<n/\ -(n:Int)<=i/\i<n:=by
 unfold IS at h
 by_cases h0:0<=i
 ·rw [if_pos h0] at h
  by_cases h1:i<n
  ·rw [if_pos h1] at h
   have e:i.toNat=j:=O5 h
   exact ⟨by rw [seqIndex_of h0 h1,e],by lia,by lia,h1⟩
  ·rw [if_neg h1] at h; cases h
 ·rw [if_neg h0] at h
  by_cases h1: -(n:Int)<=i
  ·rw [if_pos h1] at h
   have e:(i+n).toNat=j:=O5 h
   exact ⟨by rw [seqIndex_neg (by lia) h1,e],by lia,h1,by lia⟩
  ·rw [if_neg h1] at h; cases h
theorem ud (h:jU xs i=some v):∃ j,seqIndex? i xs.length=some j/\xs[j]?=some v/\j<xs.length/\ -(xs.length:Int)<=i/\i<xs.length:=by
 unfold jU at h
 cases e:IS xs.length i with
 | none=>rw [e] at h; cases h
 | some j =>
  rw [e] at h
  obtain ⟨h1,h2,h3,h4⟩:=Ci e
  exact ⟨j,h1,h,h2,h3,h4⟩
def jV (b:Expr):Prop:=∀ o i,subscripted b false o i=operate [o,i] (getItem o i)
def ED (X:Cx) (r:R2):Prop :=
 ∀ (value slice:Expr) (aa:List (Addr×Obj)) (s:Shared) (σ:St) (H:Hp) (x y:V) (v u:Value) (Q:VK),Inv X aa σ H s->RelV x v->RelV y u->r x y H Q ->
  subscripted slice false v u=operate [v,u] (getItem v u)->wpAny (model X.prog X.w) X.A (subscriptTail value slice v u) (EP X aa σ Q) X.xe s
def LZ (X:Cx) (id:String) (r:V->List V->Hp->VK->Prop):Prop :=
 ∀ (aa:List (Addr×Obj)) (s:Shared) (σ:St) (H:Hp) (x:V) (xs:List V) (v:Value) (us:List Value) (Q:VK),Inv X aa σ H s->RelV x v->Vals xs us->r x xs H Q ->
  wpAny (model X.prog X.w) X.A (call (.builtin id) (v::us)) (EP X aa σ Q) X.xe s
section
theorem ED.or (h:ED X r) (h':ED X r'):ED X (λx y H Q=>r x y H Q\/r' x y H Q):=by
 intro value slice aa s σ H x y v u Q I rx ry q hs
 rcases q with q | q
 ·exact h value slice aa s σ H x y v u Q I rx ry q hs
 ·exact h' value slice aa s σ H x y v u Q I rx ry q hs
theorem Jy (hr:ED X r) (ha:PE X a ta) (hb:PE X b tb) (hs:jV b):PE X (.Subscript a b pos) (Lj r ta tb):=by
 intro aa s σ H Q I h
 exact Rj (F2 ha hb I h λv u s2 x y H2 I2 rx ry q=>hr a b aa s2 σ H2 x y v u Q I2 rx ry q (hs _ _))
noncomputable def L0 (K:Nu):R2:=λx y H Q=>∃ p xs i v,x=.ref p/\y=.int i/\fH K H p xs/\jU xs i=some v/\Q v H
noncomputable def L1 (K:Nu):R2:=λx y H Q=>∃ p xs i v,x=.ref p/\y=.int i/\c8 K H p xs/\jU xs i=some v/\Q v H
theorem Cj:ED X (L0 X.K):=by
 intro value slice aa s σ H x y v u Q I rx ry h hs
 obtain ⟨p,xs,i,z,rfl,rfl,hq,he,q⟩:=h
 cases rx
 obtain ⟨t,rfl⟩:=ry
 obtain ⟨its,r,pl,hz⟩:=I.list hq
 obtain ⟨j,h1,h2,h3,h4,h5⟩:=ud he
 obtain ⟨w,ew,rw'⟩:=r.get h2
 have hl:=r.length
 have hn:=nL
 have fin:EP X aa σ Q w s:=⟨z,H,I,rw',q⟩
 by_cases h0:0<=i
 ·have hj:i.toNat=j:=by
   rw [seqIndex_of h0 h5] at h1
   exact O5 h1
  exact item_listR pl.isList h0 (by lia) (by rw [hj]; simpa using ew) fin hs
 ·have hj:(i+(its.toArray.size:Int)).toNat=j:=by
   rw [seqIndex_neg (by lia) h4] at h1
   rw [NR,<- hl]
   exact O5 h1
  exact subscriptTail_builtinR (x:=w) pl.isList.typeIs RN.lookup
   (wpAny_getItem_list_neg (Q:=λr s'=>r=w/\EP X aa σ Q r s') pl.isList (by lia) (by rw [NR] <;> lia) (by lia) (by rw [hj]; simpa using ew) ⟨rfl,fin⟩) hs
theorem Gj:ED X (L1 X.K):=by
 intro value slice aa s σ H x y v u Q I rx ry h hs
 obtain ⟨p,xs,i,z,rfl,rfl,hq,he,q⟩:=h
 cases rx
 obtain ⟨t,rfl⟩:=ry
 obtain ⟨its,r,pl,hz⟩:=I.tuple hq
 obtain ⟨j,h1,h2,h3,h4,h5⟩:=ud he
 obtain ⟨w,ew,rw'⟩:=r.get h2
 have hl:=r.length
 have hn:=nL
 have fin:EP X aa σ Q w s:=⟨z,H,I,rw',q⟩
 exact subscriptTail_builtinR (x:=w) pl.typeIs slot_tuple_getitem.lookup
  (getItem_tuple (j:=j) (Q:=λr s'=>r=w/\EP X aa σ Q r s') pl (by lia) (by lia) (by rw [NR,<- hl]; exact h1) (by simpa using ew) ⟨rfl,fin⟩) hs
theorem nO (lo hi) (n):(sliceBounds lo hi none n).1=((HT.bZ n 0 lo:Nat):Int)/\(sliceBounds lo hi none n).2.1=((HT.bZ n n hi:Nat):Int)/\(sliceBounds lo hi none n).2.2=1:=by
 refine ⟨?_,?_,rfl⟩
 ·cases lo with
  | none=>simp [sliceBounds,HT.bZ]
  | some i =>
   simp only [sliceBounds,HT.bZ,Option.getD_none,show (1:Int)>0 by decide,if_true]
   by_cases h:i<0
   ·simp only [h,if_true] <;> lia
   ·simp only [h,if_false] <;> lia
 ·cases hi with
  | none=>simp [sliceBounds,HT.bZ]
  | some i =>
   simp only [sliceBounds,HT.bZ,Option.getD_none,show (1:Int)>0 by decide,if_true]
   by_cases h:i<0
   ·simp only [h,if_true] <;> lia
   ·simp only [h,if_false] <;> lia
theorem lT (its:List Value) (lo hi):slicePick its.toArray lo hi none=((its.drop (HT.bZ its.length 0 lo)).take (HT.bZ its.length its.length hi - HT.bZ its.length 0 lo)).toArray:=by
 obtain ⟨h1,h2,h3⟩:=nO lo hi its.toArray.size
 unfold slicePick
 rw [h1,h2,h3]
 simp only [sliceRange_one,pick_run,NR] <;> rfl
noncomputable def L3 (K:Nu):V->Option Int->Option Int->Hp->VK->Prop:=λx lo hi H Q=>∃ a xs,x=.ref a/\fH K H a xs/\∀ p,H p=none->Q (.ref p) (upd H p (.lst (nN xs lo hi)))
theorem Ck:BR X (L3 X.K):=by
 intro aa s σ H x v vl vu lo hi sl Q I rx hs pl pu h
 obtain ⟨a,xs,rfl,hx,q⟩:=h
 cases rx
 obtain ⟨its,r,ht,hz⟩:=I.list hx
 have hlen:=r.length
 refine ⟨"list",_,RN.lookup,ht.isList.typeIs,?_⟩
 refine Sw ht.isList hs pl pu .none (by simp) ?_ (by rw [NR] <;> lia)
 rw [lT,<- hlen]
 refine ⟨.ref s.heap.objs.size,_,I.laid (t':=s.toks) (o:=.lst (nN xs lo hi)) (λb ob q=>NC _ q) (Ny _) ?_,rfl,q _ (I.hok.fresh (Ny _))⟩
 exact ⟨NI (jz xs lo hi) hz,_,0,(r.drop (HT.bZ xs.length 0 lo)).take (HT.bZ xs.length xs.length hi - HT.bZ xs.length 0 lo),NL _ rfl⟩
theorem nP:fL X (.builtin "len") (λxs H Q=>∃ p ys,xs=[.ref p]/\(fH X.K H p ys\/c8 X.K H p ys)/\Q (.int ys.length) H):=by
 intro aa s σ H xs us Q I r h
 obtain ⟨p,ys,rfl,hq,q⟩:=h
 obtain ⟨u,rfl,rx⟩:=vals1 r
 cases rx
 have hn:=nL
 rcases hq with hq | hq
 ·obtain ⟨its,r',pl,hz⟩:=I.list hq
  have hlen:=r'.length
  exact Calls.call_len_list pl.isList (by simp only [NR] <;> lia) ⟨.int ys.length,H,I.tok _,⟨s.toks+1,by rw [NR,hlen]⟩,q⟩
 ·obtain ⟨its,r',pl,hz⟩:=I.tuple hq
  have hlen:=r'.length
  exact len_tuple pl (by simp only [NR] <;> lia) ⟨.int ys.length,H,I.tok _,⟨s.toks+1,by rw [NR,hlen]⟩,q⟩
theorem nQ:fL X (.type "list") (λxs H Q=>∃ p ys,xs=[.ref p]/\(fH X.K H p ys\/c8 X.K H p ys)/\∀ l,H l=none->Q (.ref l) (upd H l (.lst ys))):=by
 intro aa s σ H xs us Q I r h
 obtain ⟨p,ys,rfl,hq,q⟩:=h
 obtain ⟨u,rfl,rx⟩:=vals1 r
 cases rx
 have fin:∀ (its:List Value),Vals ys its->ys.length<=sizeLine->∀ (h':Heap) (c':Nat),(∀ b o',s.heap.get? b=some o'->h'.get? b=some o') ->
  h'.get? s.heap.objs.size=some { cls:=.type "list",dict:=none,data:=.seq its.toArray c',slots:= #[] }->EP X aa σ Q (.ref s.heap.objs.size) { s with heap:=h' }:=λits r' hz h' c' kp e =>
  ⟨.ref s.heap.objs.size,_,I.laid (t':=s.toks) kp (Ny _) (show bg X.prog X.w _ h' _ (.lst ys) from ⟨hz,its,c',r',e⟩),rfl,q _ (I.hok.fresh (Ny _))⟩
 rcases hq with hq | hq
 ·obtain ⟨its,r',pl,hz⟩:=I.list hq
  have hlen:=r'.length
  obtain ⟨o,ho,hc,n,hd⟩:=pl.isList
  exact call_list_seq p (.inl rfl) ho hc hd (λh' c' kp e=>fin its r' hz h' c' kp e) (by simp only [NR] <;> lia)
 ·obtain ⟨its,r',pl,hz⟩:=I.tuple hq
  have hlen:=r'.length
  obtain ⟨o,ho,hc,n,hd⟩:=pl
  exact call_list_seq p (.inr rfl) ho hc hd (λh' c' kp e=>fin its r' hz h' c' kp e) (by simp only [NR] <;> lia)
theorem lU:fL X (.type "tuple") (λxs H Q=>∃ p ys,xs=[.ref p]/\((fH X.K H p ys/\∀ l,H l=none->Q (.ref l) (upd H l (.tup ys)))\/(c8 X.K H p ys/\Q (.ref p) H))):=by
 intro aa s σ H xs us Q I r h
 obtain ⟨p,ys,rfl,h⟩:=h
 obtain ⟨u,rfl,rx⟩:=vals1 r
 cases rx
 rcases h with ⟨hq,q⟩ | ⟨hq,q⟩
 ·obtain ⟨its,r',pl,hz⟩:=I.list hq
  have hlen:=r'.length
  refine call_tuple_list pl.isList (λh' kp=>?_) (by simp only [NR] <;> lia)
  have I1:Inv X aa σ H { s with heap:=h' }:=I.kept (t':=s.toks) kp
  have I2:Inv X aa σ (upd H h'.objs.size (.tup ys)) { s with heap:=h'.push { cls:=.type "tuple",data:=.seq its.toArray } } :=
   I1.laid (t':=s.toks) (λb o e=>NC _ e) (Ny _) (show bg X.prog X.w _ _ _ (.tup ys) from ⟨hz,its,r',IsTup.new _ _⟩)
  exact ⟨.ref h'.objs.size,_,I2,rfl,q _ (I1.hok.fresh (Ny _))⟩
 ·obtain ⟨its,r',pl,hz⟩:=I.tuple hq
  exact call_tuple_same pl ⟨.ref p,H,I,rfl,q⟩
def L4 (K:Nu) (T:String) (x:V) (H:Hp):Prop:=match x with
 | .str _=>T="str"
 | .int _=>T="int"
 | .ref p=>(T="list"/\∃ xs,fH K H p xs)\/(T="tuple"/\∃ o,K.lookup p=some o/\o.cls=.type "tuple"/\o.dict=none) \/
  (T="dict"/\((∃ kvs,H p=some (.dK kvs))\/∃ kvs,H p=some (.dT kvs)))\/(T="set"/\∃ S n,H p=some (.set S n))
 | _=>False
theorem yt (I:Inv X aa σ H s) (r:RelV x v) (ty:L4 X.K T x H) :
 s.TypeIs v T/\∀ a,v=.ref a->∃ ob,s.heap.get? a=some ob/\ob.dict=none:=by
 cases x with
 | str z =>
  obtain ⟨t,rfl⟩:=r
  cases (show T="str" from ty)
  exact ⟨typeIs_str s z t,λ_ e=>nomatch e⟩
 | int i =>
  obtain ⟨t,rfl⟩:=r
  cases (show T="int" from ty)
  exact ⟨typeIs_int s i t,λ_ e=>nomatch e⟩
 | ref p =>
  cases r
  rcases ty with ⟨rfl,xs,hq⟩ | ⟨rfl,o,hk,hc,hd⟩ | ⟨rfl,hk⟩ | ⟨rfl,S,n,hk⟩
  ·obtain ⟨its,_,pl,_⟩:=I.list hq
   refine ⟨pl.isList.typeIs,λa e=>?_⟩
   cases e
   obtain ⟨o,n,e,c,hd,_⟩:=pl
   exact ⟨o,e,hd⟩
  ·refine ⟨⟨o,I.BQ p o hk,hc⟩,λa e=>?_⟩
   cases e
   exact ⟨o,I.BQ _ o hk,hd⟩
  ·have z:∃ o,s.heap.get? p=some o/\o.ExactDict:=by
    rcases hk with ⟨kvs,hk⟩ | ⟨kvs,hk⟩
    ·obtain ⟨_,_,_,_,o,_,_,e,ex,_⟩:=I.hok p _ hk
     exact ⟨o,e,ex⟩
    ·obtain ⟨_,_,_,_,o,_,_,e,ex,_⟩:=I.hok p _ hk
     exact ⟨o,e,ex⟩
   obtain ⟨o,e,ex⟩:=z
   refine ⟨⟨o,e,ex.1⟩,λa e2=>?_⟩
   cases e2
   exact ⟨o,e,ex.2.1⟩
  ·obtain ⟨o,_,_,_,e,ex,_⟩:=I.hok p _ hk
   refine ⟨⟨o,e,ex.1⟩,λa e2=>?_⟩
   cases e2
   exact ⟨o,e,ex.2.1⟩
 | _=>exact OF ty
noncomputable def L5 (K:Nu) (T:String) (r:V->List V->Hp->VK->Prop) (to:TE):TE:=λσ H Q=>to σ H λx H1=>L4 K T x H1/\r x [] H1 Q
noncomputable def Nf (K:Nu) (T:String) (r:V->List V->Hp->VK->Prop) (to:TE) (t:TA):TE:=λσ H Q=>to σ H λx H1=>L4 K T x H1/\t σ H1 λxs H2=>r x xs H2 Q
variable {T id:String}
theorem yu (pa:PlainAttrs T) (slot:Slot T name id) (hty:typeOf (.builtin id)=pure (.type "method_descriptor")) (hm:LZ X id r) (ho:PE X o to)
 (hbase:attributeBase o name X.env (eval o X.env)=eval o X.env:=by rfl) (hline:(apos.endLine == cpos.line)=true:=by rfl):PE X (.Call (.Attribute o name apos) [] [] cpos) (L5 X.K T r to):=by
 intro aa s σ H Q I h
 refine wpAny_Call_method0_late hbase hline (bC (ho aa s σ H _ I h) λv s1 ⟨x,H1,I1,r1,ty,q1⟩=>?_)
 obtain ⟨h1,h2⟩:=yt I1 r1 ty
 exact ⟨T,id,pa,slot,hty,h1,h2,SI rfl (SW (hm aa s1 σ H1 x [] v [] Q I1 r1 .nil q1))⟩
theorem EE (pa:PlainAttrs T) (slot:Slot T name id) (hty:typeOf (.builtin id)=pure (.type "method_descriptor")) (hm:LZ X id r) (ho:PE X o to) (ha:PA X (e::es) t)
 (hbase:attributeBase o name X.env (eval o X.env)=eval o X.env:=by rfl)
 (hfew:((backTo cpos (starEach (e::es) X.env)).all (λx=> !x.1) && (backToKw cpos (keywordEach [] X.env)).all (λx=>x.1.isSome)
   && decide ((e::es).length+([]:List Keyword).length+(if ([]:List Keyword).isEmpty then 0 else 1)<30))=true:=by rfl)
 (hline:(apos.endLine == cpos.line)=true:=by rfl) (hs:starEach (e::es) X.env=(false,eval e X.env)::starEach es X.env:=by rfl) (hplain:(backTo cpos (starEach es X.env)).any (·.1)=false:=by rfl) :
 PE X (.Call (.Attribute o name apos) (e::es) [] cpos) (Nf X.K T r to t):=by
 intro aa s σ H Q I h
 refine wpAny_Call_method_late hbase hfew hline rfl (bC (ho aa s σ H _ I h) λv s1 ⟨x,H1,I1,r1,ty,q1⟩=>?_)
 obtain ⟨h1,h2⟩:=yt I1 r1 ty
 refine ⟨T,id,pa,slot,hty,h1,h2,?_⟩
 have hA:=ha cpos aa s1 σ H1 _ I1 q1
 rw [hs] at hA |-
 refine SI (by show (false || (backTo cpos (starEach es X.env)).any (·.1))=false; rw [hplain] <;> rfl) (Calls.evalArgs_plain ?_)
 exact bC hA λus s2 ⟨vs,H2,I2,r2,q2⟩=>hm aa s2 σ H2 x vs v us Q I2 r1 r2 q2
end
def L6 (X:Cx) (id:String) (r:V->List V->Hp->VK->Prop):Prop :=
 ∀ (aa:List (Addr×Obj)) (s:Shared) (σ:St) (H:Hp) (x:V) (xs:List V) (v:Value) (us:List Value) (Q:VK),Inv X aa σ H s->RelV x v->Vals xs us->r x xs H Q ->
  wpAny (model X.prog X.w) X.A (call (.builtin id) (v::us)) (EP X aa σ Q) X.xe s
theorem Vals.one:∀ {x:V} {us:List Value},Vals [x] us->∃ u,us=[u]/\RelV x u
 | _,_,.cons r .nil=>⟨_,rfl,r⟩
theorem Vals.zero:∀ {us:List Value},Vals [] us->us=[]
 | _,.nil=>rfl
theorem Vals.dropLast (h:Vals xs us):Vals xs.dropLast us.dropLast:=by
 induction h with
 | nil=>exact .nil
 | cons r t ih =>
  cases t with
  | nil=>exact .nil
  | cons q t'=>exact .cons r ih
theorem Vals.rep (h:Vals xs us):∀ k:Nat,Vals (NY k xs).flatten (NY k us).flatten
 | 0=>.nil
 | k+1=>by
  rw [O9,O9,P8,P8]
  exact Vals.append h (Vals.rep h k)
theorem sd {α:Type} (l:List α):l.eraseIdx (l.length - 1)=l.dropLast:=by
 induction l with
 | nil=>rfl
 | cons a r ih =>
  cases r with
  | nil=>rfl
  | cons b r =>
   have e:(a::b::r).length - 1=((b::r).length - 1)+1:=by
    have h1:(a::b::r).length=r.length+2:=rfl
    have h2:(b::r).length=r.length+1:=rfl
    lia
   rw [e,List.eraseIdx_cons_succ,ih]
   all_goals rfl
theorem foldl_rep (its):∀ (k:Nat) (acc:List Value),
 Rk (λx1 x2=>x1++x2) acc.toArray (NY k its.toArray)=(acc++(NY k its).flatten).toArray
 | 0,acc=>by simp
 | k+1,acc=>by
  have e:acc.toArray++its.toArray=(acc++its).toArray:=by simp
  have e2:(acc++its)++(NY k its).flatten=acc++(NY (k+1) its).flatten:=by
   rw [O9,P8,N7]
  rw [<- e2,<- foldl_rep its k (acc++its),<- e,O9,OT]
theorem Inv.pM {its its':List Value} (I:Inv X aa σ H s) (hH:H l=some (.lst xs))
 (e:s.heap.get? l=some { cls:=.type "list",data:=.seq its.toArray n }) (hf:f its.toArray=its'.toArray) (hv:Vals ys its') (hz:ys.length<=sizeLine) :
 Inv X aa σ (upd H l (.lst ys)) { s with heap:=s.heap.update l (N8 f),toks:=t' }:=by
 have q:=PySem.IsL.update e f
 rw [hf] at q
 refine I.write (x:=l) (e:=l) (by rw [hH]; exact trivial) (.inl rfl) (λb' u hb hu=>(Ry s.heap (N8 f) (NZ hb)).trans hu) ⟨_,q⟩ ?_
 exact ⟨hz,its',_,hv,q⟩
theorem Inv.Cm (I:Inv X aa σ H s) (hv:Vals ys its) (hz:ys.length<=sizeLine) :
 Inv X aa σ (upd H s.heap.objs.size (.lst ys)) { s with heap:=s.heap.push { cls:=.type "list",data:=.seq its.toArray },toks:=t' } :=
 I.laid (λ_ _ q=>NC _ q) (Ny _) ⟨hz,its,0,hv,NL _ rfl⟩
theorem Inv.fresh (I:Inv X aa σ H s):H s.heap.objs.size=none:=I.hok.fresh (Ny _)
theorem Inv.nR (I:Inv X aa σ H s) (hH:H l=some (.lst xs)):xs.length<=sizeLine/\∃ (its:List Value) (n:Nat),Vals xs its/\xs.length=its.length/\s.heap.get? l=some { cls:=.type "list",data:=.seq its.toArray n }:=by
 obtain ⟨z,its,n,r,e⟩:=I.hok l _ hH
 exact ⟨z,its,n,r,r.length,e⟩
theorem yv (h:n<=sizeLine):Sz n=false:=by
 unfold Sz
 exact decide_eq_false (by lia)
noncomputable def Cn:V->List V->Hp->VK->Prop:=λx vs H Q=>∃ l xs y,x=.ref l/\vs=[y]/\H l=some (.lst xs)/\xs.length<sizeLine/\Q .non (upd H l (.lst (xs++[y])))
theorem mE:L6 X "list.append" Cn:=by
 intro aa s σ H x vs v us Q I rx rv h
 obtain ⟨l,xs,y,rfl,rfl,hH,hz,q⟩:=h
 cases rx
 obtain ⟨u,rfl,ru⟩:=rv.one
 obtain ⟨z,its,n,r,hl,e⟩:=I.nR hH
 refine QG F.slot_list_append ⟨_,e,rfl⟩ F.entry_list_append (F.args_list_append_2 _ _) (PySem.list_append l its.toArray n u (by rw [NR]; lia)) ⟨e,?_⟩
 refine ⟨.non,_,I.pM (its':=its++[u]) hH e (by simp) (r.append (.cons ru .nil)) ?_,rfl,q⟩
 rw [N5,O7]
 lia
noncomputable def L7:V->List V->Hp->VK->Prop:=λx vs H Q=>∃ l xs y,x=.ref l/\vs=[]/\H l=some (.lst xs)/\xs[xs.length - 1]?=some y/\Q y (upd H l (.lst xs.dropLast))
theorem Gk:L6 X "list.pop" L7:=by
 intro aa s σ H x vs v us Q I rx rv h
 obtain ⟨l,xs,y,rfl,rfl,hH,hy,q⟩:=h
 cases rx
 have hus:=rv.zero
 subst hus
 obtain ⟨z,its,n,r,hl,e⟩:=I.nR hH
 obtain ⟨u,hu,ru⟩:=r.get hy
 have hy':its.toArray[its.toArray.size - 1]?=some u:=by
  show its.toArray[its.length - 1]?=some u
  rw [<- Oj,<- hl]
  exact hu
 refine QG F.slot_list_pop ⟨_,e,rfl⟩ F.entry_list_pop (F.args_list_pop_1 _) (MeetsSeq.list_pop_last l its.toArray n u hy' (by rw [NR]; lia)) ⟨e,?_⟩
 refine ⟨y,_,I.pM (its':=its.dropLast) hH e ?_ r.dropLast ?_,ru,q⟩
 ·show its.toArray.eraseIdxIfInBounds (its.toArray.size - 1)=its.dropLast.toArray
  rw [NR,List.eraseIdxIfInBounds_toArray,sd]
 ·rw [List.length_dropLast]
  lia
noncomputable def L8:R2:=λx y H Q=>∃ l k xs,x=.ref l/\y=.int k/\H l=some (.lst xs)/\ -(2 ^ 63)<=k/\k<2 ^ 63/\xs.length * k.toNat<=sizeLine /\
 ∀ p,H p=none->Q (.ref p) (upd H p (.lst (NY k.toNat xs).flatten))
theorem len_rep {α:Type} (xs:List α) (k):(NY k xs).flatten.length=k * xs.length:=by
 induction k with
 | zero=>simp
 | succ k ih=>rw [O9,P8,N5,ih,QD,Nat.add_comm]
theorem Gm:fF X (binaryOp .Mult) L8:=by
 intro aa s σ H x y v u Q I rx ry h
 obtain ⟨l,k,xs,rfl,rfl,hH,h1,h2,hz,q⟩:=h
 cases rx
 obtain ⟨t,rfl⟩:=ry
 obtain ⟨z,its,n,r,hl,e⟩:=I.nR hH
 have hlen:its.toArray.size * k.toNat<=sizeLine:=by rw [NR,<- hl]; exact hz
 have hcap:¬ its.toArray.size * k.toNat>(2 ^ 63 - 1) / 8:=by
  have:(sizeLine:Nat)<=(2 ^ 63 - 1) / 8:=by decide
  lia
 have hfit:¬ (!Builtin.List.listFitsIndex k)=true:=by
  rw [fitsIndex_both h1 h2]
  exact NH
 have hlong:¬ Sz (its.toArray.size * k.toNat)=true:=by
  rw [yv hlen]
  exact NH
 have hnew:Rk (λx1 x2=>x1++x2) #[] (NY (if its.toArray.isEmpty=true then 0 else k.toNat) its.toArray)=(NY k.toNat its).flatten.toArray:=by
  have f0:∀ m:Nat,Rk (λx1 x2=>x1++x2) #[] (NY m its.toArray)=(NY m its).flatten.toArray:=λm=>by
   have:=foldl_rep its m []
   rw [QZ] at this
   exact this
  rw [f0]
  cases its with
  | nil=>simp
  | cons a r'=>rw [if_neg (by simp)]
 refine wpAny_binaryOp_repeat_ref (T:="list") (U:="int") (by decide) ⟨_,e,rfl⟩ (λs'=>typeIs_int s' k t) noFill_list_mul F.fills_int_mul F.slot_int_rmul repeat_list F.slot_int_index.lookup
  (QG F.slot_int_rmul (typeIs_int s k t) F.entry_int_rmul (F.args_int_rmul_2 _ _) (int___rmul___int_list k t l its.toArray n)
    ⟨e,rfl,⟨_,e,rfl⟩,QG F.slot_list_mul ⟨_,e,rfl⟩ F.entry_list_mul (F.args_list_mul_2 _ _) (AutoListH.list___mul___list_int_3 l its.toArray n k t hfit hcap hlong) ⟨e,?_⟩⟩)
 rw [hnew]
 exact ⟨.ref _,_,I.Cm (t':=s.toks) (r.rep k.toNat) (by rw [len_rep,Nat.mul_comm]; exact hz),rfl,q _ I.fresh⟩
section
variable {κ:Type} [DecidableEq κ]
noncomputable def ku (kvs:List (κ×V)) (k:κ):Option V:=(kvs.find? λkv=>decide (kv.1=k)).map (·.2)
noncomputable def putK (kvs:List (κ×V)) (k:κ) (v:V):List (κ×V) :=
 if (kvs.any λkv=>decide (kv.1=k))=true then kvs.map (λkv=>if kv.1=k then (kv.1,v) else kv) else kvs++[(k,v)]
theorem kB {p:κ×V} {r:List (κ×V)} {k:κ} (e:p.1=k):ku (p::r) k=some p.2:=by simp [ku,O0,e]
theorem kC {p:κ×V} {r:List (κ×V)} {k:κ} (e:¬ p.1=k):ku (p::r) k=ku r k:=by simp [ku,O0,e]
theorem pN (k:κ):∀ kvs:List (κ×V),(kvs.any λkv=>decide (kv.1=k))=(ku kvs k).isSome
 | []=>rfl
 | p::r=>by
  rw [List.any_cons]
  by_cases e:p.1=k
  ·simp only [kB e,decide_eq_true e,Bool.true_or,Option.isSome_some]
  ·rw [kC e,decide_eq_false e,Bool.false_or]; exact pN k r
theorem pO (kvs) (k:κ) (v):(putK kvs k v).length<=kvs.length+1:=by
 unfold putK
 split
 ·rw [ND]; lia
 ·rw [N5,Oe,OZ]; lia
theorem jJ.jb (r:jJ o u):o.isSome=u.isSome:=by
 cases o with
 | none=>cases u with
  | none=>rfl
  | some _=>exact (show False from r).elim
 | some _=>cases u with
  | none=>exact (show False from r).elim
  | some _=>rfl
theorem jJ.getD (r:jJ o u) (rd:RelV d d'):RelV (o.getD d) (u.getD d'):=by
 cases o with
 | none=>cases u with
  | none=>exact rd
  | some _=>exact (show False from r).elim
 | some _=>cases u with
  | none=>exact (show False from r).elim
  | some _=>exact r
theorem KV.val (r:KV kvs vs) (k:κ):jJ (ku kvs k) (valueAt vs k):=by
 unfold KV at r
 induction r with
 | nil=>exact QH
 | @cons p q ps qs h t ih =>
  obtain ⟨h1,h2⟩:=h
  by_cases e:p.1=k
  ·have e':q.1=k:=h1.symm.trans e
   have b:valueAt (q::qs) k=some q.2:=by simp [valueAt,O0,e']
   rw [kB e,b]; exact h2
  ·have e':¬ q.1=k:=λz=>e (h1.trans z)
   have b:valueAt (q::qs) k=valueAt qs k:=by simp [valueAt,O0,e']
   rw [kC e,b]; exact ih
theorem KV.any (r:KV kvs vs) (k:κ):(kvs.any λkv=>decide (kv.1=k))=vs.any λkv=>decide (kv.1=k):=by
 unfold KV at r
 induction r with
 | nil=>rfl
 | cons h t ih=>rw [List.any_cons,List.any_cons,ih,h.1]
theorem KV.repl (r:KV kvs vs) (k:κ) (ry:RelV y u) :
 KV (kvs.map λkv=>if kv.1=k then (kv.1,y) else kv) (vs.map λkv=>if kv.1=k then (kv.1,u) else kv):=by
 unfold KV at r |-
 induction r with
 | nil=>exact .nil
 | @cons p q ps qs h t ih =>
  rw [NF,NF]
  refine .cons ?_ ih
  obtain ⟨h1,h2⟩:=h
  by_cases e:p.1=k
  ·rw [if_pos e,if_pos (h1.symm.trans e)]; exact ⟨h1,ry⟩
  ·rw [if_neg e,if_neg (λz=>e (h1.trans z))]; exact ⟨h1,h2⟩
theorem KV.put (r:KV kvs vs) (k:κ) (ry:RelV y u):KV (putK kvs k y) (stored vs k u):=by
 unfold putK stored
 rw [r.any k]
 by_cases e:(vs.any λkv=>decide (kv.1=k))=true
 ·rw [if_pos e,if_pos e]; exact r.repl k ry
 ·rw [if_neg e,if_neg e]; exact Sn r ⟨rfl,ry⟩
theorem KV.length {kvs:List (κ×V)} {vs:List (κ×Value)} (r:KV kvs vs):kvs.length=vs.length:=OE r
end
theorem pP (r:RelV (kV k) u):(bU P w).is k u=true:=by
 cases k with
 | inl i=>obtain ⟨t,e⟩:=(show ∃ t,u=PV i t from r); subst e; exact pG P w i t
 | inr x=>obtain ⟨t,e⟩:=(show ∃ t,u=Value.str x t from r); subst e; exact pH P w x t
theorem mF:∀ {ks:List Key} {us:List Value},Vals (ks.map kV) us->ItemsAre (bU P w) ks us
 | [],_,r=>by rw [Pb] at r; cases r; exact .nil
 | k::ks,_,r=>by
  rw [NF] at r
  cases r with
  | cons h t=>exact .cons (pP h) (mF t)
noncomputable abbrev KT:List (List Key×Addr×V)->List (List Key×Addr×Value)->Prop:=Paired λp q=>p.1=q.1/\p.2.1=q.2.1/\RelV p.2.2 q.2.2
noncomputable def atT (kvs:List (List Key×Addr×V)) (k:List Key):Option V:=(kvs.find? λkv=>decide (kv.1=k)).map (·.2.2)
noncomputable def nS (k:List Key) (v:V) (x:List Key×Addr×V):List Key×Addr×V:=if x.1=k then (x.1,x.2.1,v) else x
noncomputable def pQ (kvs:List (List Key×Addr×V)) (k:List Key) (b:Addr) (v:V):List (List Key×Addr×V) :=
 if (atT kvs k).isSome=true then kvs.map (nS k v) else kvs++[(k,b,v)]
theorem pR (kvs) (k) (b) (v):(pQ kvs k b v).length<=kvs.length+1:=by
 unfold pQ
 split
 ·rw [ND]; lia
 ·rw [N5,Oe,OZ]; lia
theorem KT.val (r:KT kvs xs) (k):jJ (atT kvs k) ((atKey xs k).map (·.2)):=by
 induction r with
 | nil=>exact QH
 | @cons p q ps qs h t ih =>
  obtain ⟨h1,_,h2⟩:=h
  by_cases e:p.1=k
  ·have e':q.1=k:=h1.symm.trans e
   have b:atKey (q::qs) k=some q.2:=by simp [atKey,O0,e']
   have b2:atT (p::ps) k=some p.2.2:=by simp [atT,O0,e]
   rw [b2,b]; exact h2
  ·have e':¬ q.1=k:=λz=>e (h1.trans z)
   have b:atKey (q::qs) k=atKey qs k:=by simp [atKey,O0,e']
   have b2:atT (p::ps) k=atT ps k:=by simp [atT,O0,e]
   rw [b2,b]; exact ih
theorem KT.repl (r:KT kvs xs) (k) (ry:RelV y u) :
 KT (kvs.map (nS k y)) (xs.map (putAt k u)):=by
 induction r with
 | nil=>exact .nil
 | @cons p q ps qs h t ih =>
  rw [NF,NF]
  refine .cons ?_ ih
  obtain ⟨h1,h2,h3⟩:=h
  unfold putAt nS
  by_cases e:p.1=k
  ·rw [if_pos e,if_pos (h1.symm.trans e)]; exact ⟨h1,h2,ry⟩
  ·rw [if_neg e,if_neg (λz=>e (h1.trans z))]; exact ⟨h1,h2,h3⟩
theorem KT.put (r:KT kvs xs) (k) (ry:RelV y u) :
 KT (pQ kvs k b y) (storedH xs k b u):=by
 have e:(atT kvs k).isSome=(atKey xs k).isSome:=by
  rw [(r.val k).jb,P7]
 unfold pQ storedH
 rw [e]
 by_cases q:(atKey xs k).isSome=true
 ·rw [if_pos q,if_pos q]; exact r.repl k ry
 ·rw [if_neg q,if_neg q]; exact Sn r ⟨rfl,rfl,ry⟩
theorem yw (ok:i7 P w H h) (e:Rd H a u):bg P w H h a u:=e.ok ok
theorem mG (ok:i7 P w H h) (e:Rd H a (.dK kvs)):kvs.length<=sizeLine/\(a == sysModules)=false/\∃ vs,KV kvs vs/\h.DictOf (bU P w) a vs :=
 show bg P w H h a (.dK kvs) from yw ok e
theorem Jz (ok:i7 P w H h) (e:H a=some (.dK kvs)):kvs.length<=sizeLine/\(a == sysModules)=false/\∃ vs,KV kvs vs/\h.DictOf (bU P w) a vs:=mG ok (.inl e)
theorem kD (I:Inv X aa σ H s) (e:c8 X.K H a (ks.map kV)):(tupleKind (bU X.prog X.w)).is s.heap ks a:=by
 obtain ⟨its,r,⟨o,h1,h2,n,h3⟩,_⟩:=I.tuple e
 exact ⟨o,its.toArray,n,h1,h2,h3,by simpa using mF r⟩
theorem pS (I:Inv X aa σ H s) (e:Rd H a (.dT kvs)) (hk:∀ x∈kvs,c8 X.K H x.2.1 (x.1.map kV)):kvs.length<=sizeLine/\(a == sysModules)=false /\
 ∃ xs,KT kvs xs/\s.heap.DictOfH (tupleKind (bU X.prog X.w)) a xs:=by
 obtain ⟨z,y,xs,r,o,es,ep,h1,h2,h3,h4,h5⟩:=(show bg X.prog X.w H s.heap a (.dT kvs) from yw I.hok e)
 refine ⟨z,y,xs,r,o,es,ep,h1,h2,h3,h4,?_,h5⟩
 have all:∀ {l:List (List Key×Addr×V)} {m:List (List Key×Addr×Value)},KT l m->(∀ x∈l,c8 X.K H x.2.1 (x.1.map kV))->∀ x∈m,(tupleKind (bU X.prog X.w)).is s.heap x.1 x.2.1:=by
  intro l m q
  induction q with
  | nil=>intro _ x hx; exact nomatch hx
  | @cons p q ps qs hq t ih =>
   intro hl x hx
   rcases NU.mp hx with e | hx
   ·subst e
    rw [<- hq.1,<- hq.2.1]
    exact kD I (hl p NP)
   ·exact ih (λy hy=>hl y (NK _ hy)) x hx
 exact all r hk
def nT (K:Nu) (H:Hp) (a:Addr) (y:V) (r:Option V):Prop :=
 (∃ kvs k,Rd H a (.dK kvs)/\y=kV k/\r=ku kvs k)\/∃ kvs k b,Rd H a (.dT kvs)/\(∀ x∈kvs,c8 K H x.2.1 (x.1.map kV))/\y=.ref b/\c8 K H b (k.map kV)/\r=atT kvs k
def Co (K:Nu) (H:Hp) (a:Addr) (y v:V) (H':Hp):Prop :=
 (∃ kvs k,H a=some (.dK kvs)/\y=kV k/\kvs.length<sizeLine/\H'=upd H a (.dK (putK kvs k v))) \/
 ∃ kvs k b,H a=some (.dT kvs)/\(∀ x∈kvs,c8 K H x.2.1 (x.1.map kV))/\y=.ref b/\c8 K H b (k.map kV)/\kvs.length<sizeLine/\H'=upd H a (.dT (pQ kvs k b v))
theorem Inv.big (I:Inv X aa σ H s):sysModules<s.heap.objs.size:=by
 have h:mainGlobals<s.heap.objs.size:=(I.mod.glob.keeps I.bk).lt
 exact Nat.lt_trans (by decide) h
theorem mH (hu:A.units+1<cLine) (I:Inv X aa σ H s) (g:nT X.K H a y (some v)) (ry:RelV y u) (h:∀ w' s',Inv X aa σ H s'->RelV v w'->Q w' s') :
 wpAny (model X.prog X.w) A (getItem (.ref a) u) Q E s:=by
 rcases g with ⟨kvs,k,e,ey,l⟩ | ⟨kvs,k,b,e,hk,ey,eb,l⟩
 ·subst ey
  obtain ⟨z,hd,vs,rel,dd⟩:=mG I.hok e
  obtain ⟨w',hw,rw'⟩:=jJ.some_of (v:=v) (o:=valueAt vs k) (by rw [l]; exact rel.val k)
  exact wpAny_getItem_of (pP ry) dd.mapOf hw (h w' _ (I.tok _) rw')
 ·subst ey
  cases (show u=NW b from ry)
  obtain ⟨z,hd,xs,rel,dd⟩:=pS I e hk
  obtain ⟨w',hw,rw'⟩:=jJ.some_of (v:=v) (o:=(atKey xs k).map (·.2)) (by rw [l]; exact rel.val k)
  obtain ⟨p,hp,hp2⟩:=NQ.mp hw
  refine wpAny_getItem_heap (RH hu) (kD I eb) dd hp ?_
  rw [hp2]
  exact h w' _ (I.tok _) rw'
theorem Ma (hu:A.units+1<cLine) (I:Inv X aa σ H s) (g:nT X.K H a y o) (ry:RelV y u) (h:∀ s',Inv X aa σ H s'->Q (.bool o.isSome) s') :
 wpAny (model X.prog X.w) A (compareOp .In u (.ref a)) Q E s:=by
 rcases g with ⟨kvs,k,e,ey,l⟩ | ⟨kvs,k,b,e,hk,ey,eb,l⟩
 ·subst ey
  obtain ⟨z,hd,vs,rel,dd⟩:=mG I.hok e
  refine wpAny_in_of (pP ry) hd dd.mapOf ?_
  rw [<- (rel.val k).jb,<- l]
  exact h _ (I.tok _)
 ·subst ey
  cases (show u=NW b from ry)
  obtain ⟨z,hd,xs,rel,dd⟩:=pS I e hk
  refine wpAny_in_heap (RH hu) (kD I eb) hd dd ?_
  have q:=(rel.val k).jb
  rw [P7] at q
  rw [<- q,<- l]
  exact h _ (I.tok _)
theorem ue (I:Inv X aa σ H s) (mu:Ja (H a)) (hs:O3 a s.heap h') (he:∃ q,h'.get? a=some q) (new:bg X.prog X.w (upd H a ob) h' a ob) :
 Inv X aa σ (upd H a ob) { s with heap:=h',toks:=t' } :=
 I.write (x:=a) (e:=a) mu (.inl rfl) (λb q hb z=>(hs.2 b hb).trans z) he new
theorem Gn (z:kvs.length<=sizeLine) (hd:(a == sysModules)=false) (rel:KV kvs vs) (dd:h'.DictOf (bU P w) a vs) :
 bg P w H' h' a (.dK kvs):=⟨z,hd,vs,rel,dd⟩
theorem mJ (hu:A.units+1<cLine) (I:Inv X aa σ H s) (g:Co X.K H a y v H') (ry:RelV y u) (rv:RelV v r) (h:∀ s',Inv X aa σ H' s'->Q () s') :
 wpAny (model X.prog X.w) A (setItem (.ref a) u r) Q E s:=by
 rcases g with ⟨kvs,k,e,ey,l,eH⟩ | ⟨kvs,k,b,e,hk,ey,eb,l,eH⟩
 ·subst ey eH
  obtain ⟨z,hd,vs,rel,dd⟩:=Jz I.hok e
  have hz:vs.length<=sizeLine:=by rw [<- rel.length]; exact z
  have hl:(putK kvs k v).length<=sizeLine:=by have:=pO kvs k v; lia
  refine wpAny_setItem_pairs (hsz:=hz) (pP ry) dd λh' dd' hs=>h _ ?_
  have he:∃ q,h'.get? a=some q:=let ⟨q,_,_,hq,_⟩:=dd'; ⟨q,hq⟩
  exact ue I (by rw [e]; exact QH) hs he (Gn hl hd (rel.put k rv) dd')
 ·subst ey eH
  cases (show u=NW b from ry)
  obtain ⟨z,hd,xs,rel,dd⟩:=pS I (.inl e) hk
  have hz:xs.length<=sizeLine:=by rw [<- OE rel]; exact z
  have hl:(pQ kvs k b v).length<=sizeLine:=by have:=pR kvs k b v; lia
  refine wpAny_setItem_heap (hsz:=hz) (RH hu) (kD I eb) dd λh' dd' hs=>h _ ?_
  obtain ⟨q,es,ep,hq,h2,h3,h4,_,h5⟩:=dd'
  exact ue I (by rw [e]; exact QH) hs ⟨q,hq⟩ ⟨hl,hd,_,rel.put k rv,q,es,ep,hq,h2,h3,h4,h5⟩
def Cp (i:Expr):Prop:=∀ ov iv,subscripted i false ov iv=operate [ov,iv] (getItem ov iv)
theorem Cq {T id:String}
 (hl:typeLookup (.type T) "__getitem__"=pure (some (.builtin id))) (hs:Cp slice)
 (h:wpAny (model prog w) A (eval value env) (λo s₁=>wpAny (model prog w) A (eval slice env) (λi s₂=>s₂.TypeIs o T/\wpAny (model prog w) A (getItem o i) Q E s₂) E s₁) E s) :
 wpAny (model prog w) A (eval (.Subscript value slice pos) env) Q E s:=by
 refine Rj (Oh h (λo s₁ h₁=>Oh h₁ (λi s₂ h₂=>?_) λ_ _ x=>x) λ_ _ x=>x)
 obtain ⟨hT,h₂⟩:=h₂
 unfold subscriptTail
 refine Nt ?_
 rw [getitemInPython_of_ne hT.not_modules]
 refine Nt (wpAny_specialOf hT hl ?_)
 have fin:wpAny (model prog w) A (subscripted slice false o i) (λr s₃=>wpAny (model prog w) A (letTemporaryGo value o r >>= λ_=>pure r) Q E s₃) E s₂:=by
  rw [hs o i]
  exact wpAny_operating (Oh h₂ (λr s₃ h₃=>Nt (wpAny_letTemporaryGo (Nv h₃))) λ_ _ x=>x)
 first
  | exact Nv (Nt fin)
  | exact Nt (Nv (Nt fin))
  | exact Nt fin
theorem pU (I:Inv X aa σ H s) (g:nT X.K H a y o):s.TypeIs (.ref a) "dict":=by
 rcases g with ⟨kvs,k,e,_,_⟩ | ⟨kvs,k,b,e,hk,_,_,_⟩
 ·obtain ⟨_,_,vs,_,dd⟩:=mG I.hok e
  exact dd.typeIs
 ·obtain ⟨_,_,xs,_,dd⟩:=pS I e hk
  exact dd.typeIs
noncomputable def JA (X:Cx) (td ty:TE):TE:=λσ H Q=>td σ H λx H1=>ty σ H1 λy H2=>∃ a v,x=.ref a/\nT X.K H2 a y (some v)/\Q v H2
noncomputable def Mb (X:Cx) (ty td:TE):TE:=λσ H Q=>ty σ H λy H1=>td σ H1 λx H2=>∃ a o,x=.ref a/\nT X.K H2 a y o/\Q (.bl o.isSome) H2
noncomputable def JB (X:Cx) (td ty tv:TE):TS:=λD σ H=>tv σ H λv H1=>td σ H1 λx H2=>ty σ H2 λy H3=>∃ a H4,x=.ref a/\Co X.K H3 a y v H4/\D.nx σ H4
noncomputable def JC (X:Cx) (td ty tv:TE) (rd:V->V->Hp->VK->Prop):TS:=λD σ H=>td σ H λx H1=>ty σ H1 λy H2=>∃ a v,x=.ref a/\nT X.K H2 a y (some v) /\
 tv σ H2 λy2 H3=>rd v y2 H3 λz H4=>∃ H5,Co X.K H4 a y z H5/\D.nx σ H5
theorem uf (hu:X.A.units+1<cLine) (ho:PE X o td) (hi:PE X i ty) (hs:Cp i):PE X (.Subscript o i pos) (JA X td ty):=by
 intro aa s σ H Q I h
 refine Cq PySem.F.slot_dict_getitem.lookup hs (bC (ho aa s σ H _ I h) λu s1 ⟨x,H1,I1,rx,q1⟩=>bC (hi aa s1 σ H1 _ I1 q1) λiv s2 ⟨y,H2,I2,ry,a,v,ex,g,q2⟩=>?_)
 subst ex
 obtain rfl:u=NW a:=rx
 exact ⟨pU I2 g,mH hu I2 g ry λw' s3 I3 rw'=>⟨v,H2,I3,rw',q2⟩⟩
theorem Gp (hu:X.A.units+1<cLine) (hi:PE X i ty) (ho:PE X o td):PC X .In i o (Mb X ty td):=by
 intro aa s σ H Q I h
 refine bC (hi aa s σ H _ I h) λiv s1 ⟨y,H1,I1,ry,q1⟩=>bC (ho aa s1 σ H1 _ I1 q1) λu s2 ⟨x,H2,I2,rx,a,ov,ex,g,q2⟩=>?_
 subst ex
 obtain rfl:u=NW a:=rx
 exact Ma hu I2 g ry λs3 I3=>⟨.bl ov.isSome,H2,I3,rfl,q2⟩
theorem Cr (hu:X.A.units+1<cLine) (ho:PE X o td) (hi:PE X i ty) (hv:PE X value tv) (hs:swapsWith value (some (.Subscript o i pos')) pos.line X.env=pure false) :
 PS X (.Assign [.Subscript o i pos'] value pos) (JB X td ty tv):=by
 intro aa s σ H D I h
 refine wpAny_Assign_Subscript (bC (hv aa s σ H _ I h) λr s1 ⟨v,H1,I1,rv,q1⟩=>bC (ho aa s1 σ H1 _ I1 q1) λu s2 ⟨x,H2,I2,rx,q2⟩=>bC (hi aa s2 σ H2 _ I2 q2) λiv s3 ⟨y,H3,I3,ry,a,H4,ex,g,q3⟩=>?_) hs
 subst ex
 obtain rfl:u=NW a:=rx
 exact mJ hu I3 g ry rv λs4 I4=>⟨σ,H4,I4,q3⟩
theorem Cs (hu:X.A.units+1<cLine) (ho:PE X o td) (hi:PE X i ty) (hv:PE X value tv) (hop:Jv X op rd)
 (ha:∀ ov iv new,augStore i ov iv new=(do holding [new,ov,iv] (setItem ov iv new); release [new,ov,iv] []; pure .next)):PS X (.AugAssign (.Subscript o i tpos) op value pos) (JC X td ty tv rd):=by
 intro aa s σ H D I h
 refine wpAny_AugAssign_SubscriptAny (bC (ho aa s σ H _ I h) λu s1 ⟨x,H1,I1,rx,q1⟩=>bC (hi aa s1 σ H1 _ I1 q1) λiv s2 ⟨y,H2,I2,ry,a,v,ex,g,q2⟩=>?_) ha
 subst ex
 obtain rfl:u=NW a:=rx
 refine mH hu I2 g ry λw' s3 I3 rw'=>bC (hv aa s3 σ H2 _ I3 q2) λw2 s4 ⟨y2,H3,I4,ry2,q3⟩=>bC (hop aa s4 σ H3 v y2 w' w2 _ I4 rw' ry2 q3) λw3 s5 ⟨z,H4,I5,rz,H5,g5,q4⟩=>?_
 exact mJ hu I5 g5 ry rz λs6 I6=>⟨σ,H5,I6,q4⟩
theorem yx (h:Heap) (hb:sysModules<h.objs.size):bg P w H (h.push { cls:=.type "dict",data:=.dict #[] }) h.objs.size (.dK []) :=
 ⟨N1 _,beq_eq_false_iff_ne.mpr (NZ (N4 hb)),[],.nil,Heap.DictOf.new h⟩
theorem yy (h:Heap) (hb:sysModules<h.objs.size):bg P w H (h.push { cls:=.type "dict",data:=.dict #[] }) h.objs.size (.dT []) :=
 ⟨N1 _,beq_eq_false_iff_ne.mpr (NZ (N4 hb)),[],.nil,_,#[],0,NL _ rfl,⟨rfl,rfl,rfl⟩,rfl,rfl,List.nodup_nil⟩
noncomputable def Gq:TE:=λ_ H Q=>∀ p,H p=none->Q (.ref p) (upd H p (.dK []))
noncomputable def Gr:TE:=λ_ H Q=>∀ p,H p=none->Q (.ref p) (upd H p (.dT []))
theorem yz:PE X (.Dict [] [] pos) Gq:=λaa s σ H Q I h =>
 wpAny_Dict_empty ⟨.ref s.heap.objs.size,_,I.laid (a:=s.heap.objs.size) (o:=.dK []) (t':=s.toks) (λ_ _ q=>NC _ q) (Ny _) (yx s.heap I.big),rfl,h _ (I.hok.fresh (Ny _))⟩
theorem yC:PE X (.Dict [] [] pos) Gr:=λaa s σ H Q I h =>
 wpAny_Dict_empty ⟨.ref s.heap.objs.size,_,I.laid (a:=s.heap.objs.size) (o:=.dT []) (t':=s.toks) (λ_ _ q=>NC _ q) (Ny _) (yy s.heap I.big),rfl,h _ (I.hok.fresh (Ny _))⟩
structure M1 (X:Cx) (o:Expr) (m:Str) (apos:Pos) (e:Expr) (cpos:Pos):Prop where
 base:attributeBase o m X.env (eval o X.env)=eval o X.env
 few:((backTo cpos (starEach [e] X.env)).all (λx=> !x.1) && (backToKw cpos (keywordEach [] X.env)).all (λx=>x.1.isSome)
  && decide (([e]:List Expr).length+([]:List Keyword).length+(if ([]:List Keyword).isEmpty then 0 else 1)<30))=true
 line:(apos.endLine == cpos.line)=true
 trees:backTo cpos (starEach [e] X.env)=[(false,eval e X.env)]
structure M2 (X:Cx) (o:Expr) (m:Str) (apos:Pos) (e f:Expr) (cpos:Pos):Prop where
 base:attributeBase o m X.env (eval o X.env)=eval o X.env
 few:((backTo cpos (starEach [e,f] X.env)).all (λx=> !x.1) && (backToKw cpos (keywordEach [] X.env)).all (λx=>x.1.isSome)
  && decide (([e,f]:List Expr).length+([]:List Keyword).length+(if ([]:List Keyword).isEmpty then 0 else 1)<30))=true
 line:(apos.endLine == cpos.line)=true
 trees:backTo cpos (starEach [e,f] X.env)=[(false,eval e X.env),(false,eval f X.env)]
def Mc (H:Hp) (a:Addr):Prop:=(∃ kvs,Rd H a (.dK kvs))\/∃ kvs,Rd H a (.dT kvs)
theorem Gs (I:Inv X aa σ H s) (d:Mc H a) :
 s.TypeIs (.ref a) "dict"/\(∀ b,NW a=.ref b->∃ ob,s.heap.get? b=some ob/\ob.dict=none)/\(a == sysModules)=false:=by
 rcases d with ⟨kvs,e⟩ | ⟨kvs,e⟩
 ·obtain ⟨_,hd,vs,_,dd⟩:=mG I.hok e
  refine ⟨dd.typeIs,λb q=>?_,hd⟩
  cases q
  obtain ⟨ob,_,_,h1,h2,_⟩:=dd
  exact ⟨ob,h1,h2.2.1⟩
 ·obtain ⟨_,hd,xs,_,ob,es,ep,h1,h2,_⟩:=(show bg X.prog X.w H s.heap a (.dT kvs) from yw I.hok e)
  refine ⟨⟨ob,h1,h2.1⟩,λb q=>?_,hd⟩
  cases q
  exact ⟨ob,h1,h2.2.1⟩
theorem Gu (hu:A.units+1<cLine) (I:Inv X aa σ H s) (g:nT X.K H a y o) (ry:RelV y u) (rd:RelV d r) (h:∀ w' s',Inv X aa σ H s'->RelV (o.getD d) w'->Q w' s') :
 wpAny (model X.prog X.w) A (call (.builtin "dict.get") [.ref a,u,r]) Q E s:=by
 rcases g with ⟨kvs,k,e,ey,l⟩ | ⟨kvs,k,b,e,hk,ey,eb,l⟩
 ·subst ey
  obtain ⟨z,hd,vs,rel,dd⟩:=mG I.hok e
  refine call_meetsIn SK dd.typeIs PySem.F.entry_dict_get (PySem.F.args_dict_get_3 _ _ _) (meets_dict_get_default (bU X.prog X.w) a (pP ry) hd r) ⟨_,dd.mapOf,h _ _ (I.tok _) ?_⟩
  rw [l]
  exact (rel.val k).getD rd
 ·subst ey
  cases (show u=NW b from ry)
  obtain ⟨z,hd,xs,rel,dd⟩:=pS I e hk
  refine call_meetsIn SK dd.typeIs PySem.F.entry_dict_get (PySem.F.args_dict_get_3 _ _ _) (meetsH_dict_get_default (tupleKind (bU X.prog X.w)) a b hd r) ⟨RH hu,k,xs,kD I eb,dd,h _ _ (I.tok _) ?_⟩
  rw [l]
  exact (rel.val k).getD rd
noncomputable def Gv (X:Cx) (td ty tx:TE):TE:=λσ H Q=>td σ H λx H1=>∃ a,x=.ref a/\Mc H1 a/\ty σ H1 λy H2=>tx σ H2 λz H3=>∃ o,nT X.K H3 a y o/\Q (o.getD z) H3
theorem yD (hu:X.A.units+1<cLine) (ho:PE X o td) (he:PE X e ty) (hf:PE X f tx) (m:M2 X o "get" apos e f cpos):PE X (.Call (.Attribute o "get" apos) [e,f] [] cpos) (Gv X td ty tx):=by
 intro aa s σ H Q I h
 refine Th m.base m.few m.line PySem.F.plainAttrs_dict SK PySem.F.type_dict_get (bC (ho aa s σ H _ I h) λu s1 ⟨x,H1,I1,rx,a,ex,d,q1⟩=>?_)
 subst ex
 obtain rfl:u=NW a:=rx
 obtain ⟨t1,t2,_⟩:=Gs I1 d
 refine ⟨t1,t2,?_⟩
 rw [m.trees]
 refine SI rfl (Calls.evalArgs_plain (Td (bC (he aa s1 σ H1 _ I1 q1) λiv s2 ⟨y,H2,I2,ry,q2⟩ =>
  Td (bC (hf aa s2 σ H2 _ I2 q2) λfv s3 ⟨z,H3,I3,rz,ov,g,q3⟩=>Calls.spliced_nil ?_))))
 exact Gu hu I3 g ry rz λw' s4 I4 rw'=>⟨_,H3,I4,rw',q3⟩
end L2
namespace Att
open PySem PySem.W PySem.Calls PyProof.Rows
theorem jK:∀ (ns:List Int) (vs:List Value),WellAll P h vs (ns.map WData.int)->IntsAre vs ns:=by
 intro ns
 induction ns with
 | nil =>
  intro vs w
  rw [Pb] at w
  cases w
  exact .nil
 | cons n ns ih =>
  intro vs w
  rw [NF] at w
  cases w with
  | cons a b =>
   cases a
   exact .cons _ _ (ih _ b)
theorem wg {l:OpenLaw} (hn:l.most=some n)
 (hpre:l.row.toRowW.claim.pre args=true) (hwl:WellAll P h vals args) :
 ∃ a vs ns,vals=[NW a]/\args=[WData.list (ns.map WData.int)]/\h.get? a=some { cls:=.type "list",data:=.seq vs.toArray }/\IntsAre vs ns/\ns.length<=n:=by
 have hsh:WShape.hasAll [] args [.list .int]=true:=(pre_splitW hpre).1
 have hc:l.pre.holds [] { args:=args }=true:=(pre_splitW hpre).2
 obtain ⟨d,r,rfl,h1,h2⟩:=hasAllW_cons hsh
 obtain rfl:=hasAllW_nil h2
 obtain ⟨xs,rfl,h3⟩:=hasW_list h1
 obtain ⟨ns,rfl⟩:=items_int h3
 have hlen:ns.length<=n:=by
  unfold OpenLaw.pre at hc
  have h4:(WTm.not (.lt (.lit (.int (n:Int))) (.len (.arg 0)))).holds [] { args:=[.list (ns.map .int)] }=true:=by
   have h4:=(holds_andW hc).1
   rw [hn] at h4
   exact h4
  have h5:=condW_of h4 (w_not (w_lt w_lit (w_len_list (w_arg rfl))))
  rw [ND] at h5
  refine Nat.le_of_not_lt λq=>?_
  have q':(n:Int)<((ns.length:Nat):Int):=by lia
  first
   | (rw [decide_eq_true q'] at h5; exact absurd h5 (by decide))
   | (simp at h5; lia)
 cases hwl with
 | cons w1 w2 =>
  cases w2
  cases w1 with
  | list ho hall=>exact ⟨_,_,ns,rfl,rfl,ho,jK ns _ hall,hlen⟩
theorem wj (l:OpenLaw) (args):l.row.toRowW.claim.post args (.bool true) args=true :=
 postW_of (r:=l.row.toRowW) (X:=(true == true))
  (show WShape.has [] (.bool true) .bool=true by first | rfl | decide | simp [WShape.has,WShape.arms,WShape.armsAll])
  (show (WTm.eq .res (.lit (.bool true))).value [] { args:=args,res:=some (.bool true),after:=args }=some (.bool (true == true)) from w_eq_bool (w_res rfl) w_lit) rfl
theorem pV {l:OpenLaw}
 (hn:l.most=some n) (hdf:d.params.defaults=[])
 (call:∀ (w:World) (s₀ s₁:Shared) (mg mb:Str->Option Value) (fa:Addr) (o:Obj) (pm cd doc:Value) (a:Addr) (vs:List Value) (ns:List Int),
   Ground q loose [] XP w s₀ mg mb s₁.heap->YP w s₁.heap ->
   s₁.heap.get? fa=some o->o.data=.func (docDef d.name d.params d.body d.scope pm cd doc)->s₁.heap.CodeRec cd d.name->mg d.name=some (.ref fa) ->
   s₁.heap.get? a=some { cls:=.type "list",data:=.seq vs.toArray }->IntsAre vs ns->ns.length<=n->s₁.gens= #[] ->
   codeAny (model l.prog w) callerA (.call (.ref fa) ⟨[.ref a],[]⟩) (λr s'=>r=.ok (.ret (.bool true))/\OldK s₁.heap s'.heap/\s'.os=s₁.os/\AllBare s'.gens) s₁) :
 WalkO q loose XP YP l.row.toRowW d [] (λf vs=>PySem.call f vs):=by
 intro w s₀ s₁ mg mb G Y fa o pm cd doc dV kV ho hd hcd hD hmg hg args vals as hpre hlay hrd hwl hlo
 obtain rfl:dV=.none:=Dflts.none hD hdf
 obtain rfl:kV=.none:=Dflts.noKw hD
 obtain ⟨a,vs,ns,rfl,rfl,hobj,hints,hlen⟩:=wg hn hpre hwl
 refine enter_call (Rc (call w s₀ s₁ mg mb fa o pm cd doc a vs ns G Y ho (fd_plain hd) hcd hmg hobj hints hlen hg) λr s' hq=>?_)
 obtain ⟨rfl,h2,h3,h4⟩:=hq
 exact ⟨.inl ⟨.bool true,.bool true,[],rfl,λ_=>rfl,.bool true,wj l _,λ_=>⟨QV,λ_ hm=>(nomatch hm)⟩⟩,h2,h3,h4⟩
end Att
namespace L2
open PySem PySem.Spec PyProof.Rows
theorem mK:∀ {vs:List Value} {ns:List Int},IntsAre vs ns->Vals (ns.map V.int) vs
 | _,_,.nil=>.nil
 | _,_,.cons n t h=>.cons ⟨t,rfl⟩ (mK h)
def Gw (H:Hp):Prop:=∀ b,H b=none\/∃ o xs,H b=some (.frz o (.lst xs))
theorem yE {K:Nu}
 (KX:K.In s₁.heap) (hns:s₁.heap.Ns mainGlobals mg) (hb:s₁.heap.Ns builtinsNs mb) (hbb:∀ x:Str,x≠"__name__"->mb x=bootBuiltins x) (hlim:s₁.heap.NoLimit) (hg:s₁.gens= #[])
 (ha:s₁.heap.get? a=some { cls:=.type "list",data:=.seq vs.toArray }) (hi:IntsAre vs ns) (hl:ns.length<=sizeLine) (hr:gC k callerA)
 (F:∀ base:Heap,K.In base->base.Ns mainGlobals mg->aY P w K mg base CX k fa fd [x] sp) (hbind:∀ (s:Shared) (u:Value),BindsTo s fd ⟨[u],[]⟩ [(x,u)])
 (tR:∀ H:Hp,Gw H->fH K H a (ns.map V.int)->sp [.ref a] H (λv _=>v=.bl true) λ_ _ _=>False)
 (hCX:∀ H e s',CX [] H s₁ (λ_ _ _=>False) e s'->False) :
 codeAny (model P w) callerA (.call (.ref fa) ⟨[.ref a],[]⟩) (λr s'=>r=.ok (.ret (.bool true))/\OldK s₁.heap s'.heap/\s'.os=s₁.os/\AllBare s'.gens) s₁:=by
 have rv:=mK hi
 have lenV:=hi.length
 have core:∀ H:Hp,Gw H->fH K H a (ns.map V.int)->i7 P w H s₁.heap->(∀ b,H b≠none->b=a)->(H a≠none->K.lookup a=none) ->
  codeAny (model P w) callerA (.call (.ref fa) ⟨[.ref a],[]⟩) (λr s'=>r=.ok (.ret (.bool true))/\OldK s₁.heap s'.heap/\s'.os=s₁.os/\AllBare s'.gens) s₁:=by
  intro H hO hS hok hA hK
  have base_of:∀ {b:Addr} {o:Obj},s₁.heap.get? b=some o->H b=none->(nJ s₁.heap H).get? b=some o:=λe n=>ya e n
  have noA:∀ {b:Addr} {o:Obj} {es:Array DictEntry} {ep:Nat},s₁.heap.get? b=some o->o.data=.dict es ep->H b=none:=λ{b o es ep} e d=>by
   cases q:H b with
   | none=>rfl
   | some u =>
    have e':b=a:=hA b (by rw [q]; simp)
    subst e'
    rw [ha] at e; cases e
    have d':Data.seq vs.toArray _=Data.dict es ep:=d
    cases d'
  have nsK:∀ {b:Addr} {m:Str->Option Value},s₁.heap.Ns b m->(nJ s₁.heap H).Ns b m:=λ{b m} ⟨o,es,ep,e,d,r⟩=>⟨o,es,ep,base_of e (noA e d),d,r⟩
  have hKb:K.In (nJ s₁.heap H):=λb o e=>base_of (KX b o e) (by
   cases q:H b with
   | none=>rfl
   | some u =>
    have e':b=a:=hA b (by rw [q]; simp)
    subst e'
    rw [hK (by rw [q]; simp)] at e; cases e)
  have hM:Mod K mg (nJ s₁.heap H):=⟨hKb,nsK hns,⟨mb,nsK hb,hbb⟩,let ⟨mc,h1,h2⟩:=hlim; ⟨mc,nsK h1,h2⟩⟩
  have e0:Cc P w K mg (nJ s₁.heap H) callerA [] s₁ H:=⟨rfl,hM,λb o e=>B4 e,Nat.le_of_eq (vY _ _),trivial,λb hb=>absurd (show b∈([]:List Addr) from hb) (by simp),hok,.of_eq hg⟩
  refine Rc ((F _ hKb (nsK hns)).run callerA [] s₁ H ⟨[.ref a],[]⟩ [.ref a] [.ref a] _ _ hr e0 (hbind s₁ (.ref a)) (.cons rfl .nil) (tR H hO hS)) λr s' h=>?_
  cases r with
  | error e=>exact (hCX H e s' h).elim
  | ok fl =>
   cases fl with
   | next=>exact OF h
   | brk=>exact OF h
   | cont=>exact OF h
   | ret u =>
    obtain ⟨v,H',os,bare,un,hok',r',q⟩:=h
    have q':v=.bl true:=q
    subst q'
    obtain rfl:u=Value.bool true:=r'
    refine ⟨rfl,OldK.of_keep λb o e=>?_,os,bare⟩
    cases q:H b with
    | none=>exact un.keep b o e q (by intro z; exact absurd (show b∈([]:List Addr) from z) (by simp)) (by simp)
    | some u =>
     rcases hO b with z | ⟨ob,xs,z⟩
     ·rw [q] at z; cases z
     ·have z2:=un.frzs b ob _ z
      obtain ⟨e1,_⟩:=hok b _ z
      obtain ⟨e2,_⟩:=hok' b _ z2
      rw [e] at e1; cases e1
      exact e2
 cases hk:K.lookup a with
 | some o =>
  have e:=KX a o hk
  rw [ha] at e
  cases e
  refine core (λ_=>none) (λ_=>.inl rfl) (.inr ⟨_,vs.toArray,_,hk,rfl,rfl,rfl,by rw [NR,lenV]; exact hl,by simpa using rv⟩) (λb u z=>by have z':(none:Option HO)=some u:=z; cases z') (λb z=>absurd rfl z) λz=>absurd rfl z
 | none =>
  refine core (λb=>if b=a then some (.frz { cls:=.type "list",data:=.seq vs.toArray } (.lst (ns.map V.int))) else none) (λb=>?_) (.inl (.inr ⟨{ cls:=.type "list",data:=.seq vs.toArray },if_pos rfl⟩)) (λb u z=>?_) (λb z=>?_) λ_=>hk
  ·by_cases hb:b=a
   ·exact .inr ⟨_,_,if_pos hb⟩
   ·exact .inl (if_neg hb)
  ·by_cases hb:b=a
   ·have z':=(if_pos hb).symm.trans z
    cases z'
    subst hb
    exact ⟨ha,by rw [ND]; exact hl,vs,_,rv,ha⟩
   ·have z':=(if_neg hb).symm.trans z
    cases z'
  ·by_cases hb:b=a
   ·exact hb
   ·exact absurd (if_neg hb) z
noncomputable abbrev dJ {K:Nu} {h:Heap} (_:K.In h):Nu:=K
theorem Ct {l:PySem.W.OpenLaw} {K:Params->Nu} {CX:World->Gf} {sp:World->Sp}
 (hn:l.most=some n) (hn2:n<=sizeLine) (hdf:d.params.defaults=[]) (hr:gC k callerA)
 (hY:∀ (w:World) (h:Heap),YP w h->(K w.params).In h)
 (F:∀ (w:World) (mg:Str->Option Value) (fa:Addr) (h:Heap),(K w.params).In h->h.Ns mainGlobals mg->mg d.name=some (.ref fa) ->
   ∃ fd:FuncData,(∀ (s:Shared) (u:Value),BindsTo s fd ⟨[u],[]⟩ [(x,u)]) /\
    ∀ base:Heap,(K w.params).In base->base.Ns mainGlobals mg->aY l.prog w (K w.params) mg base (CX w) k fa fd [x] (sp w))
 (tR:∀ (w:World) (H:Hp) (a:Addr) (ns:List Int),ns.length<=n->Gw H->fH (K w.params) H a (ns.map V.int)->sp w [.ref a] H (λv _=>v=.bl true) λ_ _ _=>False)
 (hCX:∀ (w:World) (H:Hp) (s:Shared) (e:Value) (s':Shared),CX w [] H s (λ_ _ _=>False) e s'->False) :
 PySem.W.WalkO q loose XP YP l.row.toRowW d [] (λf vs=>PySem.call f vs):=by
 refine Att.pV hn hdf λw s₀ s₁ mg mb fa o pm cd doc a vs ns G Y ho hd hcd hmg hobj hints hlen hg=>?_
 have KX:=hY w _ Y
 obtain ⟨fd,hb,hF⟩:=F w mg fa _ KX G.T.g hmg
 exact yE KX G.T.g G.T.b G.T.builtins G.T.nolimit hg hobj hints (NI hlen hn2) hr hF hb (λH hO hS=>tR w H a ns hlen hO hS) λH e s'=>hCX w H s₁ e s'
end L2
namespace L2
open PySem PySem.Spec PyProof.Rows
noncomputable def fc (s:Stmt):Arguments:=match s with
 | .FunctionDef _ a _ _ _ _ _ _ _ _=>a
 | _=>{ posonlyargs:=[],args:=[],vararg:=none,kwonlyargs:=[],kw_defaults:=[],kwarg:=none,defaults:=[] }
noncomputable def aj (s:Stmt):List Stmt:=match s with
 | .FunctionDef _ _ b _ _ _ _ _ _ _=>b
 | _=>[]
noncomputable def aR (s:Stmt):Scope:=match s with
 | .FunctionDef _ _ _ _ _ _ sc _ _ _=>sc
 | _=>{ kind:=.function,names:=[],isGenerator:=false,isCoroutine:=false }
structure dh (K:Nu) (x qual:Str) (st:Stmt) (f:Addr) (fd:FuncData):Prop where
 ex:∃ (oc:Value) (od:Option Addr) (kV doc pm:Value) (an:Option Addr) (cdv ct:Value) (osl:Array (Option Value)),
  fd=Pn x qual (fc st) (aj st) (aR st) .none kV doc pm an cdv ct/\K.lookup f=some ⟨oc,od,.func fd,osl⟩/\R5 K cdv qual=true
 kp:Pa K (.ref f)=true
section
variable {K:Nu}
theorem dh.binds {st:Stmt} (F:dh K x qual st f fd)
 (h:∀ (kV doc pm:Value) (an:Option Addr) (cdv ct:Value) (us:List Value),us.length=ps.length->bindArgs (Pn x qual (fc st) (aj st) (aR st) .none kV doc pm an cdv ct) ⟨us,[]⟩=pure (ps.zip us)):Binds K fd ps []:=by
 obtain ⟨oc,od,kV,doc,pm,an,cdv,ct,osl,rfl,lk,hcd⟩:=F.ex
 exact .all (h kV doc pm an cdv ct)
theorem Gx {st:Stmt} {kV doc pm cdv ct:Value} (l:K.lookup f=some ⟨oc,od,.func (Pn x qual (fc st) (aj st) (aR st) .none kV doc pm an cdv ct),osl⟩)
 (c:R5 K cdv qual=true) (k:Pa K (.ref f)=true):dh K x qual st f (Pn x qual (fc st) (aj st) (aR st) .none kV doc pm an cdv ct):=⟨⟨oc,od,kV,doc,pm,an,cdv,ct,osl,rfl,l,c⟩,k⟩
end
theorem JD (hr:gC k A):A.units+1<cLine:=Pg (Nat.add_le_add_left (by decide:1<=64) _) hr.units
theorem wm (h:n<=1000):n<sizeLine:=Pg h (by decide)
def aH (H H':Hp):Prop:=∀ b o,H b=some o->H' b=some o
theorem aH.refl (H):aH H H:=λ_ _ h=>h
theorem aH.trans (a:aH H H1) (b:aH H1 H2):aH H H2:=λc o h=>b c o (a c o h)
theorem aH.free (e:aH H H') (h:H' l=Option.none):H l=Option.none:=by
 cases q:H l with
 | none=>rfl
 | some o =>
  rw [e l o q] at h
  cases h
theorem aH.seq {K:Nu} (e:aH H H') (h:fH K H a xs):fH K H' a xs:=by
 rcases h with (h | ⟨o,h⟩) | h
 ·exact .inl (.inl (e _ _ h))
 ·exact .inl (.inr ⟨o,e _ _ h⟩)
 ·exact .inr h
section
variable {κ:Type} [DecidableEq κ]
end
end L2
namespace EV
open PySem PySem.Spec PyProof.Rows L2
inductive D where
 | non | bl (b:Bool) | int (i:Int) | str (x:Str) | tup (ds:List D) | lst (ds:List D) | exc (C:Addr)
 | fdK (ks:List Key) (ds:List D) | fdT (ks:List (List Key)) (ds:List D) | adr (a:Addr)
noncomputable def Me (a C:Addr):Heap->Prop:=λh=>∃ o,h.get? a=some o/\o.cls=.ref C/\∃ vs,o.data=.fields vs
mutual
def Rep (K:Nu) (H:Hp):D->V->Prop
 | .non,v=>v=.non
 | .bl b,v=>v=.bl b
 | .int i,v=>v=.int i
 | .str x,v=>v=.str x
 | .tup ds,v=>∃ a xs,v=.ref a/\c8 K H a xs/\au K H ds xs
 | .lst ds,v=>∃ a xs,v=.ref a/\fH K H a xs/\au K H ds xs
 | .exc C,v=>∃ a,v=.ref a/\H a=some (.ext (Me a C))
 | .fdK ks ds,v=>∃ a ys o,v=.ref a/\H a=some (.frz o (.dK ys))/\ys.map (·.1)=ks/\au K H ds (ys.map (·.2))
 | .fdT ks ds,v=>∃ a ys o,v=.ref a/\H a=some (.frz o (.dT ys))/\ys.map (·.1)=ks/\(∀ y∈ys,c8 K H y.2.1 (y.1.map kV))/\au K H ds (ys.map (·.2.2))
 | .adr a,v=>v=.ref a
def au (K:Nu) (H:Hp):List D->List V->Prop
 | [],xs=>xs=[]
 | d::ds,xs=>∃ x r,xs=x::r/\Rep K H d x/\au K H ds r
end
theorem az {K:Nu} (e:aH H H') (h:c8 K H a xs):c8 K H' a xs:=by
 rcases h with (h | ⟨o,h⟩) | h
 ·exact .inl (.inl (e _ _ h))
 ·exact .inl (.inr ⟨o,e _ _ h⟩)
 ·exact .inr h
mutual
theorem Rep.mono {K:Nu} {H H':Hp} (e:aH H H'):∀ (d:D) {v:V},Rep K H d v->Rep K H' d v
 | .non,_,h=>by simpa [Rep] using h
 | .bl b,_,h=>by simpa [Rep] using h
 | .int i,_,h=>by simpa [Rep] using h
 | .str x,_,h=>by simpa [Rep] using h
 | .tup ds,_,h=>by
  simp only [Rep] at h |-
  obtain ⟨a,xs,e1,h1,h2⟩:=h
  exact ⟨a,xs,e1,az e h1,au.mono e ds h2⟩
 | .lst ds,_,h=>by
  simp only [Rep] at h |-
  obtain ⟨a,xs,e1,h1,h2⟩:=h
  exact ⟨a,xs,e1,e.seq h1,au.mono e ds h2⟩
 | .exc C,_,h=>by
  simp only [Rep] at h |-
  obtain ⟨a,e1,h1⟩:=h
  exact ⟨a,e1,e _ _ h1⟩
 | .fdK ks ds,_,h=>by
  simp only [Rep] at h |-
  obtain ⟨a,ys,o,e1,h1,h2,h3⟩:=h
  exact ⟨a,ys,o,e1,e _ _ h1,h2,au.mono e ds h3⟩
 | .fdT ks ds,_,h=>by
  simp only [Rep] at h |-
  obtain ⟨a,ys,o,e1,h1,h2,h3,h4⟩:=h
  exact ⟨a,ys,o,e1,e _ _ h1,h2,λy hy=>az e (h3 y hy),au.mono e ds h4⟩
 | .adr a,_,h=>by simpa [Rep] using h
theorem au.mono {K:Nu} {H H':Hp} (e:aH H H'):∀ (ds:List D) {xs:List V},au K H ds xs->au K H' ds xs
 | [],_,h=>by simpa [au] using h
 | d::ds,_,h=>by
  simp only [au] at h |-
  obtain ⟨x,r,e1,h1,h2⟩:=h
  exact ⟨x,r,e1,Rep.mono e d h1,au.mono e ds h2⟩
end
section
variable {K:Nu}
theorem aA:Rep K H (.int i) v↔v=.int i:=by simp only [Rep]
theorem fO:Rep K H (.bl i) v↔v=.bl i:=by simp only [Rep]
theorem bV:Rep K H .non v↔v=.non:=by simp only [Rep]
theorem gu:Rep K H (.str i) v↔v=.str i:=by simp only [Rep]
theorem aM:Rep K H (.tup ds) v↔∃ a xs,v=.ref a/\c8 K H a xs/\au K H ds xs:=by simp only [Rep]
theorem bq:Rep K H (.lst ds) v↔∃ a xs,v=.ref a/\fH K H a xs/\au K H ds xs:=by simp only [Rep]
theorem iw:Rep K H (.fdK ks ds) v↔∃ a ys o,v=.ref a/\H a=some (.frz o (.dK ys))/\ys.map (·.1)=ks/\au K H ds (ys.map (·.2)):=by simp only [Rep]
theorem iy:Rep K H (.fdT ks ds) v↔∃ a ys o,v=.ref a/\H a=some (.frz o (.dT ys))/\ys.map (·.1)=ks/\(∀ y∈ys,c8 K H y.2.1 (y.1.map kV))/\au K H ds (ys.map (·.2.2)):=by simp only [Rep]
theorem pW:Rep K H (.adr a) v↔v=.ref a:=by simp only [Rep]
theorem aC:au K H [] xs↔xs=[]:=by simp only [au]
theorem aD:au K H (d::ds) xs↔∃ x r,xs=x::r/\Rep K H d x/\au K H ds r:=by simp only [au]
theorem au.length:∀ {ds:List D} {xs:List V},au K H ds xs->ds.length=xs.length
 | [],_,h=>by rw [aC] at h; subst h; rfl
 | d::ds,_,h=>by
  rw [aD] at h
  obtain ⟨x,r,rfl,_,h2⟩:=h
  simp [au.length h2]
theorem au.get:∀ {ds:List D} {xs:List V} {i:Nat} {d:D},au K H ds xs->ds[i]?=some d->∃ x,xs[i]?=some x/\Rep K H d x
 | [],_,_,_,_,e=>by simp at e
 | d::ds,_,i,d',h,e=>by
  rw [aD] at h
  obtain ⟨x,r,rfl,h1,h2⟩:=h
  cases i with
  | zero=>simp at e; subst e; exact ⟨x,by simp,h1⟩
  | succ i =>
   obtain ⟨y,e2,h3⟩:=au.get (i:=i) (d:=d') h2 (by simpa using e)
   exact ⟨y,by simpa using e2,h3⟩
theorem au.get':∀ {ds:List D} {xs:List V} {i:Nat} {x:V},au K H ds xs->xs[i]?=some x->∃ d,ds[i]?=some d/\Rep K H d x:=λ{ds xs i x} h e=>by
 have hl:=h.length
 have hi:i<xs.length:=(NJ.mp e).1
 obtain ⟨y,e2,h2⟩:=h.get (i:=i) (d:=ds[i]'(by lia)) (by simp)
 rw [e] at e2; cases e2
 exact ⟨_,by simp,h2⟩
theorem au.append:∀ {ds es:List D} {xs ys:List V},au K H ds xs->au K H es ys->au K H (ds++es) (xs++ys)
 | [],_,_,_,h,g=>by rw [aC] at h; subst h; exact g
 | d::ds,_,_,_,h,g=>by
  rw [aD] at h
  obtain ⟨x,r,rfl,h1,h2⟩:=h
  exact aD.mpr ⟨x,r++_,rfl,h1,au.append h2 g⟩
theorem au.drop:∀ (n:Nat) {ds:List D} {xs:List V},au K H ds xs->au K H (ds.drop n) (xs.drop n)
 | 0,_,_,h=>h
 | n+1,[],_,h=>by rw [aC] at h; subst h; exact aC.mpr rfl
 | n+1,d::ds,_,h=>by
  rw [aD] at h
  obtain ⟨x,r,rfl,h1,h2⟩:=h
  exact au.drop n h2
theorem au.take:∀ (n:Nat) {ds:List D} {xs:List V},au K H ds xs->au K H (ds.take n) (xs.take n)
 | 0,_,_,h=>aC.mpr rfl
 | n+1,[],_,h=>by rw [aC] at h; subst h; exact aC.mpr rfl
 | n+1,d::ds,_,h=>by
  rw [aD] at h
  obtain ⟨x,r,rfl,h1,h2⟩:=h
  exact aD.mpr ⟨x,r.take n,rfl,h1,au.take n h2⟩
theorem au.dropLast (h:au K H ds xs):au K H ds.dropLast xs.dropLast:=by
 rw [SN,SN,h.length]; exact h.take _
theorem au.one (h:Rep K H d v):au K H [d] [v]:=aD.mpr ⟨v,[],rfl,h,aC.mpr rfl⟩
theorem au.cons (h:Rep K H d v) (t:au K H ds xs):au K H (d::ds) (v::xs):=aD.mpr ⟨v,xs,rfl,h,t⟩
theorem jc:∀ (ns:List Int),au K H (ns.map D.int) (ns.map V.int)
 | []=>aC.mpr rfl
 | n::ns=>.cons (aA.mpr rfl) (jc ns)
end
inductive Sh where
 | v (d:D) | l (ds:List D) | la (a:Addr) (ds:List D) | t (ss:List Sh) | ls (ss:List Sh)
noncomputable def pl (p:Addr) (xs:List V):HO:=.ext λh=>xs.length<=sizeLine/\∃ (its:List Value) (n:Nat),Vals xs its/\h.get? p=some { cls:=.type "list",data:=.seq its.toArray n }
mutual
def dF (K:Nu) (H Hf:Hp):Sh->V->List (Addr×List V)->Prop
 | .v d,v,fp=>Rep K Hf d v/\fp=[]
 | .l ds,v,fp=>∃ p xs,v=.ref p/\H p=some (pl p xs)/\Hf p=none/\au K Hf ds xs/\fp=[(p,xs)]
 | .la p ds,v,fp=>∃ xs,v=.ref p/\H p=some (pl p xs)/\Hf p=none/\au K Hf ds xs/\fp=[(p,xs)]
 | .t ss,v,fp=>∃ a xs,v=.ref a/\c8 K Hf a xs/\bh K H Hf ss xs fp
 | .ls ss,v,fp=>∃ p xs fq,v=.ref p/\H p=some (pl p xs)/\Hf p=none/\bh K H Hf ss xs fq/\fp=(p,xs)::fq
def bh (K:Nu) (H Hf:Hp):List Sh->List V->List (Addr×List V)->Prop
 | [],xs,fp=>xs=[]/\fp=[]
 | s::ss,xs,fp=>∃ x r f1 f2,xs=x::r/\dF K H Hf s x f1/\bh K H Hf ss r f2/\fp=f1++f2
end
def yF (H:Hp) (q:Addr):Prop:=∃ xs,H q=some (pl q xs)
mutual
theorem dF.mv {K:Nu} {H Hf H' ai:Hp} (sf:aH Hf ai):∀ (s:Sh) {v:V} {fp:List (Addr×List V)},(∀ q∈fp,H q.1=some (pl q.1 q.2)->Hf q.1=none->H' q.1=some (pl q.1 q.2)/\ai q.1=none)->dF K H Hf s v fp->dF K H' ai s v fp
 | .v d,_,_,_,h=>by simp only [dF] at h |-; exact ⟨h.1.mono sf d,h.2⟩
 | .l ds,_,_,hk,h=>by
  simp only [dF] at h |-
  obtain ⟨p,xs,e,h1,h2,h3,rfl⟩:=h
  obtain ⟨q1,q2⟩:=hk _ NP h1 h2
  exact ⟨p,xs,e,q1,q2,h3.mono sf ds,rfl⟩
 | .la p ds,_,_,hk,h=>by
  simp only [dF] at h |-
  obtain ⟨xs,e,h1,h2,h3,rfl⟩:=h
  obtain ⟨q1,q2⟩:=hk _ NP h1 h2
  exact ⟨xs,e,q1,q2,h3.mono sf ds,rfl⟩
 | .t ss,_,_,hk,h=>by
  simp only [dF] at h |-
  obtain ⟨a,xs,e,h1,h2⟩:=h
  exact ⟨a,xs,e,az sf h1,bh.mv sf ss hk h2⟩
 | .ls ss,_,_,hk,h=>by
  simp only [dF] at h |-
  obtain ⟨p,xs,fq,e,h1,h2,h3,rfl⟩:=h
  obtain ⟨q1,q2⟩:=hk _ NP h1 h2
  exact ⟨p,xs,fq,e,q1,q2,bh.mv sf ss (λq hq=>hk q (NK _ hq)) h3,rfl⟩
theorem bh.mv {K:Nu} {H Hf H' ai:Hp} (sf:aH Hf ai):∀ (ss:List Sh) {xs:List V} {fp:List (Addr×List V)},(∀ q∈fp,H q.1=some (pl q.1 q.2)->Hf q.1=none->H' q.1=some (pl q.1 q.2)/\ai q.1=none)->bh K H Hf ss xs fp->bh K H' ai ss xs fp
 | [],_,_,_,h=>by simpa only [bh] using h
 | s::ss,_,_,hk,h=>by
  simp only [bh] at h |-
  obtain ⟨x,r,f1,f2,e,h1,h2,rfl⟩:=h
  exact ⟨x,r,f1,f2,e,dF.mv sf s (λq hq=>hk q (Qt _ hq)) h1,bh.mv sf ss (λq hq=>hk q (OQ _ hq)) h2,rfl⟩
end
inductive Sl where
 | un
 | va (d:D)
 | ow (ds:List D)
 | oT (kvs:List (List Key×D))
 | oK (kvs:List (Key×D))
 | aw (a:Addr) (ds:List D)
 | aT (a:Addr) (kvs:List (List Key×D))
 | aK (a:Addr) (kvs:List (Key×D))
 | fo (s:Sh)
noncomputable def lO (K:Nu) (H:Hp) {κ:Type}:List (κ×D)->List (κ×V)->Prop:=Paired λa b=>a.1=b.1/\Rep K H a.2 b.2
theorem lO.mono {K:Nu} (e:aH H H') (h:lO K H ks xs):lO K H' ks xs :=
 Paired.FH h λa b z=>⟨z.1,Rep.mono e _ z.2⟩
noncomputable def kE (K:Nu) (H:Hp):List (List Key×D)->List (List Key×Addr×V)->Prop:=Paired λa b=>a.1=b.1/\c8 K H b.2.1 (a.1.map kV)/\Rep K H a.2 b.2.2
theorem kE.mono {K:Nu} (e:aH H H') (h:kE K H ks xs):kE K H' ks xs :=
 Paired.FH h λa b z=>⟨z.1,az e z.2.1,Rep.mono e _ z.2.2⟩
noncomputable def bu (K:Nu) (fr:Addr->Prop) (H Hf:Hp):Sl->V->Prop
 | .un,_=>False
 | .va d,v=>Rep K Hf d v
 | .ow ds,v=>∃ p xs,v=.ref p/\fr p/\H p=some (.lst xs)/\Hf p=none/\au K Hf ds xs
 | .oT kvs,v=>∃ p xs,v=.ref p/\fr p/\H p=some (.dT xs)/\Hf p=none/\kE K Hf kvs xs
 | .oK kvs,v=>∃ p xs,v=.ref p/\fr p/\H p=some (.dK xs)/\Hf p=none/\lO K Hf kvs xs
 | .aw a ds,v=>∃ p xs,v=.ref p/\(fr p/\p=a)/\H p=some (.lst xs)/\Hf p=none/\au K Hf ds xs
 | .aT a kvs,v=>∃ p xs,v=.ref p/\(fr p/\p=a)/\H p=some (.dT xs)/\Hf p=none/\kE K Hf kvs xs
 | .aK a kvs,v=>∃ p xs,v=.ref p/\(fr p/\p=a)/\H p=some (.dK xs)/\Hf p=none/\lO K Hf kvs xs
 | .fo s,v=>∃ fp,dF K H Hf s v fp/\(fp.map (·.1)).Nodup/\∀ a∈fp,fr a.1
noncomputable def Sl.owned:Sl->Bool
 | .ow _=>true | .oT _=>true | .oK _=>true | .aw _ _=>true | .aT _ _=>true | .aK _ _=>true | _=>false
structure bw (H Hf H' ai:Hp):Prop where
 s:aH H H'
 f:aH Hf ai
 b:aH ai H'
 n:∀ b,Hf b=none->H b≠none->(∀ xs,H b≠some (.tup xs))->ai b=none
theorem bw.refl (b:aH Hf H):bw H Hf H Hf:=⟨.refl _,.refl _,b,λ_ h _ _=>h⟩
theorem bw.trans (a:bw H Hf H1 aQ) (b:bw H1 aQ H2 cO):bw H Hf H2 cO :=
 ⟨a.s.trans b.s,a.f.trans b.f,b.b,λc h1 h2 h3=>by
   cases q:H c with
   | none=>exact absurd q h2
   | some o =>
    have e:=a.s c o q
    exact b.n c (a.n c h1 h2 h3) (by rw [e]; simp) (by intro xs; rw [e,<- q]; exact h3 xs)⟩
theorem bw.new (b:aH Hf H) (hp:H p=none):bw H Hf (upd H p o) (upd Hf p o):=by
 have hf:Hf p=none:=b.free hp
 refine ⟨λc u h=>?_,λc u h=>?_,λc u h=>?_,λc h1 h2 _=>?_⟩
 ·rw [av (aE h hp)]; exact h
 ·rw [av (aE h hf)]; exact h
 ·by_cases e:c=p
  ·subst e; rw [af] at h |-; exact h
  ·rw [av e] at h |-; exact b c u h
 ·by_cases e:c=p
  ·subst e; exact absurd hp h2
  ·rw [av e]; exact h1
theorem bw.dZ (b:aH Hf H) (hp:H p=none):bw H Hf (upd H p o) Hf :=
 ⟨(bw.new b hp (o:=o)).s,.refl _,λc u h=>(bw.new b hp (o:=o)).s c u (b c u h),λ_ h _ _=>h⟩
inductive At {α:Type}:List α->Nat->α->Prop where
 | z {x:α} {l:List α}:At (x::l) 0 x
 | s {x y:α} {l:List α} {i:Nat}:At l i x->At (y::l) (i+1) x
theorem At.get (h:At l i x):l[i]?=some x:=by
 induction h with
 | z=>rfl
 | s _ ih=>simpa using ih
theorem At.mem (h:At l i x):x∈l:=O1 h.get
inductive SSet {α:Type}:List α->Nat->α->List α->Prop where
 | z {x r:α} {l:List α}:SSet (x::l) 0 r (r::l)
 | s {r y:α} {l l':List α} {i:Nat}:SSet l i r l'->SSet (y::l) (i+1) r (y::l')
theorem SSet.eq (h:SSet l i r l'):l'=l.set i r:=by
 induction h with
 | z=>rfl
 | s _ ih=>simp [ih]
structure eG (K:Nu) (H₀ eO:Hp) (σ:L2.St) (H Hf:Hp) (ρ:List Sl):Prop where
 bas:bw H₀ eO H Hf
 len:σ.length=ρ.length
 at_:∀ (i:Nat) (r:Sl),ρ[i]?=some r->r≠.un->∃ v,σ[i]?=some (some v)/\bu K (λp=>H₀ p=none) H Hf r v
 sep:∀ (i j:Nat) (r r':Sl) (p:Addr),i≠j->ρ[i]?=some r->ρ[j]?=some r'->r.owned=true->r'.owned=true->σ[i]?=some (some (.ref p))->σ[j]?≠some (some (.ref p))
structure JE (P:Program) (w:World) (outer:List Env) (H:Hp) (s:Shared) (a C:Addr) (H':Hp) (s':Shared):Prop where
 os:s'.os=s.os
 bare:AllBare s'.gens
 un:Un (frs outer) [] H H' s.heap s'.heap
 hok:i7 P w H' s'.heap
 new:s.heap.get? a=none
 free:H' a=none
 fly:∃ (t:Addr) (B:Heap),Heap.FlyingW B outer a (.ref C) (.ref t) s'.heap/\(∀ b o,s.heap.get? b=some o->b∉frs outer->∃ o',s'.heap.get? b=some o'/\B.get? b=some o') /\
  ∀ b o,H' b≠none->s'.heap.get? b=some o->B.get? b=some o
noncomputable def cP (P:Program) (w:World):Gf:=λouter H s E e s'=>∃ a C H',e=.ref a/\JE P w outer H s a C H' s'/\E (.ref C) (some a) H'
set_option genInjectivity false in
structure Ctx (P:Program) (w:World) (K:Nu) (mg:Str->Option Value) (base:Heap) (k:Nat) (N:List Str) (sc:Scope) (bk:Bool) where
 X:Cx
 eP:X.prog=P
 ew:X.w=w
 eK:X.K=K
 emg:X.mg=mg
 eb:X.base=base
 eN:X.N=N
 esc:X.env.scope=sc
 calm:X.calm=true
 top:bk=false->X.stack=X.env::X.outer/\X.env.frame=some X.env.locals/\X.ex=[]
 cb:bk=false->∀ (aa:List (Addr×Obj)) (σ:L2.St) (H:Hp) (s:Shared),Inv X aa σ H s->∀ (x:Str) (c:Addr),X.env.cells.lookup x=some c->X.s₀.heap.objs.size<=c
 fn:∀ x,bk=false\/sc.names.lookup x=some .local->X.fn x=true\/X.env.scope.names.lookup x=some .local
 room:gC k X.A
 nd:N.Nodup
 vis:∀ x∈N,Loc sc x
 Hf:Hp
 B:Hp
 RX:Addr->List Sl->Prop
 exc:∀ (C a:Addr) (aa:List (Addr×Obj)) (σ:L2.St) (H ai:Hp) (ρ:List Sl) (s:Shared) (H':Hp) (s':Shared),Inv X aa σ H s->eG X.K B Hf σ H ai ρ->RX C ρ->JE X.prog X.w X.stack H s a C H' s'->aH H H'->X.xe (.ref a) s'
 RM:Addr->List Sl->Prop
 mde:∀ (C a:Addr) (aa:List (Addr×Obj)) (σ:L2.St) (H ai:Hp) (ρ:List Sl) (s:Shared) (h':Heap) (us:List Value),Inv X aa σ H s->eG X.K B Hf σ H ai ρ->RM C ρ->Heap.MadeExcOf s.heap h' a (.ref C) us->X.xe (.ref a) { s with heap:=h' }
noncomputable def Sl.Ng:Sl->Bool | .fo _=>true | _=>false
abbrev pe {α:Type} (fr:Addr->Prop) (H Hf:Hp) (o:α->HO) (R:α->Prop) (v:V):Prop:=∃ (p:Addr) (xs:α),v=.ref p/\fr p/\H p=some (o xs)/\Hf p=none/\R xs
theorem pe.IT (h:pe fr H Hf o R v) (hk:∀ p,v=.ref p->∀ u,(∀ ys,u≠.tup ys)->H p=some u->Hf p=none->H' p=some u/\ai p=none) (ho:∀ xs ys,o xs≠.tup ys) (hR:∀ xs,R xs->R' xs):pe fr H' ai o R' v:=by
 obtain ⟨p,xs,e,f,h1,h2,h3⟩:=h
 exact ⟨p,xs,e,f,(hk p e _ (ho xs) h1 h2).1,(hk p e _ (ho xs) h1 h2).2,hR xs h3⟩
theorem pe.IU (h:pe fr H Hf o R v) (hf:∀ p,fr p->fr' p):pe fr' H Hf o R v :=
 let ⟨p,xs,e,f,h⟩:=h; ⟨p,xs,e,hf p f,h⟩
theorem bu.mv {K:Nu} {B:Addr->Prop} (sf:aH Hf ai) (hk:∀ q o,¬ B q->H q=some o->(∀ xs,o≠.tup xs)->Hf q=none->H' q=some o/\ai q=none):∀ {r:Sl} {v:V},
 (r.Ng=true->∀ q,B q->¬ yF H q)->(r.owned=true->∀ q,v=.ref q->¬ B q)->bu K fr H Hf r v->bu K fr H' ai r v
 | .un,_,_,_,h=>h
 | .va d,_,_,_,h=>Rep.mono sf d h
 | .ow ds,_,_,hv,h=>pe.IT h (λp e o z ho hf=>hk p o (hv rfl p e) ho z hf) (λ_ _ z=>by cases z) λ_ h=>h.mono sf
 | .oT kvs,_,_,hv,h=>pe.IT h (λp e o z ho hf=>hk p o (hv rfl p e) ho z hf) (λ_ _ z=>by cases z) λ_ h=>h.mono sf
 | .oK kvs,_,_,hv,h=>pe.IT h (λp e o z ho hf=>hk p o (hv rfl p e) ho z hf) (λ_ _ z=>by cases z) λ_ h=>h.mono sf
 | .aw a ds,_,_,hv,h=>pe.IT h (λp e o z ho hf=>hk p o (hv rfl p e) ho z hf) (λ_ _ z=>by cases z) λ_ h=>h.mono sf
 | .aT a kvs,_,_,hv,h=>pe.IT h (λp e o z ho hf=>hk p o (hv rfl p e) ho z hf) (λ_ _ z=>by cases z) λ_ h=>h.mono sf
 | .aK a kvs,_,_,hv,h=>pe.IT h (λp e o z ho hf=>hk p o (hv rfl p e) ho z hf) (λ_ _ z=>by cases z) λ_ h=>h.mono sf
 | .fo s,_,hB,_,⟨fp,h1,h2,h3⟩=>⟨fp,dF.mv sf s (λq _ e1 e2=>hk q.1 _ (λb=>hB rfl q.1 b ⟨q.2,e1⟩) e1 (by intro ys z; cases z) e2) h1,h2,h3⟩
theorem bu.cC {K:Nu} (g:bw H Hf H' ai) (h:bu K fr H Hf r v):bu K fr H' ai r v :=
 bu.mv (B:=λ_=>False) g.f (λq o _ e1 e2 e3=>⟨g.s _ _ e1,g.n q e3 (by rw [e1]; simp) λxs z=>e2 xs (by rw [e1] at z; exact O5 z)⟩) (λ_ _ z=>z.elim) (λ_ _ _ z=>z) h
theorem bu.weak {K:Nu} (hf:∀ p,fr p->fr' p):∀ {r:Sl} {v:V},bu K fr H Hf r v->bu K fr' H Hf r v
 | .un,_,h=>h
 | .va d,_,h=>h
 | .ow ds,_,h=>pe.IU h hf
 | .oT ds,_,h=>pe.IU h hf
 | .oK ds,_,h=>pe.IU h hf
 | .aw a ds,_,h=>pe.IU h λp f=>⟨hf p f.1,f.2⟩
 | .aT a ds,_,h=>pe.IU h λp f=>⟨hf p f.1,f.2⟩
 | .aK a ds,_,h=>pe.IU h λp f=>⟨hf p f.1,f.2⟩
 | .fo s,_,⟨fp,h1,h2,h3⟩=>⟨fp,h1,h2,λa ha=>hf _ (h3 a ha)⟩
section
variable {K:Nu}
def Ctx.fr (c:Ctx P w K mg base k N sc bk) (p:Addr):Prop:=c.B p=none
abbrev bx (c:Ctx P w K mg base k N sc bk) (σ:L2.St) (H Hf:Hp) (ρ:List Sl):Prop:=eG c.X.K c.B c.Hf σ H Hf ρ
theorem eG.cC (S:eG K H₀ eO σ H Hf ρ) (g:bw H Hf H' ai):eG K H₀ eO σ H' ai ρ :=
 ⟨S.bas.trans g,S.len,λi r h hr=>let ⟨v,e,q⟩:=S.at_ i r h hr; ⟨v,e,q.cC g⟩,S.sep⟩
theorem eG.sb (S:eG K H₀ eO σ H Hf ρ):aH Hf H:=S.bas.b
theorem eG.va (S:eG K H₀ eO σ H Hf ρ) {i:Nat} (h:ρ[i]?=some (.va d)):∃ v,σ[i]?=some (some v)/\Rep K Hf d v:=S.at_ i _ h (by simp)
theorem eG.set (S:eG K H₀ eO σ H Hf ρ) (g:bw H Hf H1 aQ) (hr:bu K (λp=>H p=none) H1 aQ r v) :
 eG K H₀ eO (σ.set i (some v)) H1 aQ (ρ.set i r):=by
 have S1:=S.cC g
 have fr0:∀ p,H p=none->H₀ p=none:=λp h=>S.bas.s.free h
 have fresh:∀ p,r.owned=true->v=.ref p->H p=none:=λp ho e=>by
  subst e
  cases r with
  | un=>cases ho
  | va d=>cases ho
  | ow ds=>obtain ⟨p',xs,e,h,_⟩:=hr; cases e; exact h
  | oT ds=>obtain ⟨p',xs,e,h,_⟩:=hr; cases e; exact h
  | oK ds=>obtain ⟨p',xs,e,h,_⟩:=hr; cases e; exact h
  | aw a ds=>obtain ⟨p',xs,e,h,_⟩:=hr; cases e; exact h.1
  | aT a ds=>obtain ⟨p',xs,e,h,_⟩:=hr; cases e; exact h.1
  | aK a ds=>obtain ⟨p',xs,e,h,_⟩:=hr; cases e; exact h.1
  | fo s=>cases ho
 have old:∀ (j:Nat) (r':Sl) (p:Addr),ρ[j]?=some r'->r'.owned=true->σ[j]?=some (some (.ref p))->H p≠none:=λj r' p h ho hs=>by
  obtain ⟨v',e,q⟩:=S.at_ j r' h (by rintro rfl; cases ho)
  rw [hs] at e; cases e
  cases r' with
  | un=>cases ho
  | va d=>cases ho
  | ow ds=>obtain ⟨p',xs,e,_,h,_⟩:=q; cases e; rw [h]; simp
  | oT ds=>obtain ⟨p',xs,e,_,h,_⟩:=q; cases e; rw [h]; simp
  | oK ds=>obtain ⟨p',xs,e,_,h,_⟩:=q; cases e; rw [h]; simp
  | aw a ds=>obtain ⟨p',xs,e,_,h,_⟩:=q; cases e; rw [h]; simp
  | aT a ds=>obtain ⟨p',xs,e,_,h,_⟩:=q; cases e; rw [h]; simp
  | aK a ds=>obtain ⟨p',xs,e,_,h,_⟩:=q; cases e; rw [h]; simp
  | fo s=>cases ho
 refine ⟨S1.bas,by simp [S.len],λj r' hj hu=>?_,λj j' r1 r2 p hne h1 h2 o1 o2 e1 e2=>?_⟩
 ·by_cases q:j=i
  ·subst q
   have hi:j<ρ.length:=by
    have:=(NJ.mp hj).1
    simpa using this
   rw [OP hi] at hj; cases hj
   exact ⟨v,OP (by rw [S.len]; exact hi),hr.weak fr0⟩
  ·rw [OR (NZ q)] at hj |-
   exact S1.at_ j r' hj hu
 ·have hlt:∀ {j:Nat} {r:Sl},(ρ.set i r)[j]?=some r->j<ρ.length:=λ{j r} h=>by
   have:=(NJ.mp h).1
   simpa using this
  by_cases q1:j=i
  ·subst q1
   have hi:j<ρ.length:=by have:=(NJ.mp h1).1; simpa using this
   rw [OP hi] at h1; cases h1
   rw [OP (by rw [S.len]; exact hi)] at e1
   rw [OR hne] at h2 e2
   exact old j' r2 p h2 o2 e2 (fresh p o1 (by simpa using e1))
  ·by_cases q2:j'=i
   ·subst q2
    have hi:j'<ρ.length:=by have:=(NJ.mp h2).1; simpa using this
    rw [OP hi] at h2; cases h2
    rw [OP (by rw [S.len]; exact hi)] at e2
    rw [OR (NZ hne)] at h1 e1
    exact old j r1 p h1 o1 e1 (fresh p o2 (by simpa using e2))
   ·rw [OR (NZ q1)] at h1 e1
    rw [OR (NZ q2)] at h2 e2
    exact S.sep j j' r1 r2 p hne h1 h2 o1 o2 e1 e2
theorem eG.weak (S:eG K H₀ eO σ H Hf ρ) (hl:ρ'.length=ρ.length) (h:∀ (i:Nat) (r:Sl),ρ'[i]?=some r->r≠.un->ρ[i]?=some r):eG K H₀ eO σ H Hf ρ' :=
 ⟨S.bas,by rw [S.len,hl],λi r e hu=>S.at_ i r (h i r e hu) hu,λi j r r' p hne h1 h2 o1 o2=>S.sep i j r r' p hne (h i r h1 (by rintro rfl; cases o1)) (h j r' h2 (by rintro rfl; cases o2)) o1 o2⟩
end
section
variable {P:Program} {w:World} {K:Nu} {mg:Str->Option Value} {base:Heap} {k:Nat} {N:List Str} {sc:Scope} {bk:Bool}
noncomputable def bE (X:Cx) (e:Expr):TE:=λσ H Q=>∀ aa s,Inv X aa σ H s->wpAny (model X.prog X.w) X.A (eval e X.env) (EP X aa σ Q) X.xe s
theorem cY:PE X e (bE X e):=λaa s σ H Q I h=>h aa s I
theorem bO (h:PE X e t) (q:t σ H Q):bE X e σ H Q:=λaa s I=>h aa s σ H Q I q
noncomputable def bT (X:Cx) (e:Expr):TT:=λσ H Q=>∀ aa s,Inv X aa σ H s->wpAny (model X.prog X.w) X.A (isTrue e X.env (eval e X.env)) (TP X aa σ Q) X.xe s
theorem EF:PT X e (bT X e):=λaa s σ H Q I h=>h aa s I
theorem ug (h:PT X e t) (q:t σ H Q):bT X e σ H Q:=λaa s I=>h aa s σ H Q I q
noncomputable def bA (X:Cx) (es:List Expr):TA:=λσ H Q=>∀ pos aa s,Inv X aa σ H s->wpAny (model X.prog X.w) X.A (spliced (backTo pos (starEach es X.env))) (AP X aa σ Q) X.xe s
theorem Gy:PA X es (bA X es):=λpos aa s σ H Q I h=>h pos aa s I
theorem yG (h:PA X es t) (q:t σ H Q):bA X es σ H Q:=λpos aa s I=>h pos aa s σ H Q I q
noncomputable def bS (X:Cx) (st:Stmt):TS:=λD σ H=>∀ aa s,Inv X aa σ H s->wpAny (model X.prog X.w) X.A (exec st X.env) (SP X aa D) X.xe s
theorem Nh {st:Stmt}:PS X st (bS X st):=λaa s σ H D I h=>h aa s I
theorem d8 {st:Stmt} (h:PS X st t) {D:Ends} (q:t D σ H):bS X st D σ H:=λaa s I=>h aa s σ H D I q
noncomputable def IV (X:Cx) (st:List Stmt):TS:=λD σ H=>∀ aa s,Inv X aa σ H s->wpAny (model X.prog X.w) X.A (execs st X.env) (SP X aa D) X.xe s
theorem se {st:List Stmt}:rS X st (IV X st):=λaa s σ H D I h=>h aa s I
theorem yH {st:List Stmt} (h:rS X st t) {D:Ends} (q:t D σ H):IV X st D σ H:=λaa s I=>h aa s σ H D I q
noncomputable def bG (X:Cx) (tg:Expr):TG:=λv σ H Q=>∀ aa s u,Inv X aa σ H s->RelV v u->wpAny (model X.prog X.w) X.A (assign tg X.env u) (λ_ s'=>∃ σ' H',Inv X aa σ' H' s'/\Q σ' H') X.xe s
theorem Ni:PG X tg (bG X tg):=λaa s σ H v u Q I r h=>h aa s u I r
theorem EG (h:PG X tg t) (q:t v σ H Q):bG X tg v σ H Q:=λaa s u I r=>h aa s σ H v u Q I r q
variable (c:Ctx P w K mg base k N sc bk)
def cW (e:Expr) (ρ:List Sl) (R:Sl->Prop):Prop :=
 ∀ (σ:L2.St) (H Hf:Hp) (Q:VK),bx c σ H Hf ρ->(∀ r v H' ai,R r->bu c.X.K (λp=>H p=none) H' ai r v->bw H Hf H' ai->Q v H')->bE c.X e σ H Q
def aI (e:Expr) (ρ:List Sl) (R:D->Prop):Prop :=
 ∀ (σ:L2.St) (H Hf:Hp) (Q:VK),bx c σ H Hf ρ->(∀ d v H' ai,R d->Rep c.X.K ai d v->bw H Hf H' ai->Q v H')->bE c.X e σ H Q
def jA (e:Expr) (ρ:List Sl) (R:Bool->Prop):Prop :=
 ∀ (σ:L2.St) (H Hf:Hp) (Q:Bool->Hp->Prop),bx c σ H Hf ρ->(∀ b H' ai,R b->bw H Hf H' ai->Q b H')->bT c.X e σ H Q
def pX (es:List Expr) (ρ:List Sl) (R:List D->Prop):Prop :=
 ∀ (σ:L2.St) (H Hf:Hp) (Q:List V->Hp->Prop),bx c σ H Hf ρ->(∀ ds vs H' ai,R ds->au c.X.K ai ds vs->bw H Hf H' ai->Q vs H')->bA c.X es σ H Q
structure Pt where
 rt:Sl->Prop
 bk:List Sl->Prop:=λ_=>False
 ct:List Sl->Prop:=λ_=>False
structure yI (nx:List Sl->Prop) (p:Pt) (D:Ends):Prop where
 nx:∀ σ H Hf ρ,bx c σ H Hf ρ->nx ρ->D.nx σ H
 rt:∀ r v H Hf,bw c.B c.Hf H Hf->bu c.X.K c.fr H Hf r v->p.rt r->D.rt v H
 bk:∀ σ H Hf ρ,bx c σ H Hf ρ->p.bk ρ->D.bk σ H
 ct:∀ σ H Hf ρ,bx c σ H Hf ρ->p.ct ρ->D.ct σ H
def fP (st:Stmt) (ρ:List Sl) (nx:List Sl->Prop) (p:Pt):Prop :=
 ∀ (σ:L2.St) (H Hf:Hp) (D:Ends),bx c σ H Hf ρ->yI c nx p D->bS c.X st D σ H
def aG (st:List Stmt) (ρ:List Sl) (nx:List Sl->Prop) (p:Pt):Prop :=
 ∀ (σ:L2.St) (H Hf:Hp) (D:Ends),bx c σ H Hf ρ->yI c nx p D->IV c.X st D σ H
def pq (tg:Expr) (d:D) (ρ:List Sl) (R:List Sl->Prop):Prop :=
 ∀ (σ:L2.St) (H Hf:Hp) (v:V) (Q:L2.St->Hp->Prop),bx c σ H Hf ρ->Rep c.X.K Hf d v->(∀ σ' H' ai ρ',bx c σ' H' ai ρ'->bw H Hf H' ai->R ρ'->Q σ' H')->bG c.X tg v σ H Q
variable {c}
noncomputable def Sl.fz:Sl->Option D
 | .va d=>some d
 | .ow ds=>some (.lst ds)
 | _=>none
def EH (R:D->Prop) (r:Sl):Prop:=∃ d,r.fz=some d/\R d
theorem Gz (e:r.fz=some d) (h:bu K (λp=>H p=none) H' ai r v) (g:bw H Hf H' ai) :
 ∃ cO,Rep K cO d v/\bw H Hf H' cO:=by
 cases r with
 | un=>cases e
 | va d'=>cases e; exact ⟨ai,h,g⟩
 | oT _=>cases e
 | oK _=>cases e
 | aw _ _=>cases e
 | aT _ _=>cases e
 | aK _ _=>cases e
 | fo _=>cases e
 | ow ds =>
  cases e
  obtain ⟨p,xs,rfl,hp,h1,h2,h3⟩:=h
  have sf:aH ai (upd ai p (.lst xs)):=λb o e=>by rw [av (aE e h2)]; exact e
  have sb:aH (upd ai p (.lst xs)) H':=λb o e=>by
   by_cases q:b=p
   ·subst q; rw [af] at e; rw [h1]; exact e
   ·rw [av q] at e; exact g.b b o e
  refine ⟨upd ai p (.lst xs),bq.mpr ⟨p,xs,rfl,.inl (.inl af),h3.mono sf⟩,g.s,g.f.trans sf,sb,λb q1 q2 q3=>?_⟩
  have e:=g.n b q1 q2 q3
  by_cases q:b=p
  ·subst q; exact absurd hp q2
  ·rw [av q]; exact e
theorem e_x (h:cW c e ρ (EH R)):aI c e ρ R:=λσ H Hf Q S q =>
 h σ H Hf Q S λr v H' ai ⟨d,e1,rd⟩ rs g=>let ⟨cO,h1,g2⟩:=Gz e1 rs g; q d v H' cO rd h1 g2
theorem uh (h:aI c e ρ λd=>R (.va d)):cW c e ρ R:=λσ H Hf Q S q =>
 h σ H Hf Q S λd v H' ai rd h1 g=>q (.va d) v H' ai rd h1 g
theorem aI.imp (h:aI c e ρ R) (hi:∀ d,R d->R' d):aI c e ρ R':=λσ H Hf Q S q=>h σ H Hf Q S λd v H' ai rd=>q d v H' ai (hi d rd)
theorem cW.imp (h:cW c e ρ R) (hi:∀ d,R d->R' d):cW c e ρ R':=λσ H Hf Q S q=>h σ H Hf Q S λd v H' ai rd=>q d v H' ai (hi d rd)
theorem jA.imp (h:jA c e ρ R) (hi:∀ d,R d->R' d):jA c e ρ R':=λσ H Hf Q S q=>h σ H Hf Q S λd H' ai rd=>q d H' ai (hi d rd)
theorem iz (hN:At N i x) (hs:At ρ i (.va d)) (hR:R d)
 (hd:(x == ("__debug__":Str))=false:=by decide) (hcd:(x == ("__classdict__":Str))=false:=by decide) :
 aI c (.Name x pos) ρ R:=λσ H Hf Q S q=>by
 obtain ⟨v,e,r⟩:=S.va hs.get
 exact bO (rT (X:=c.X) (i:=i) (by rw [c.eN]; exact hN.get) (by rw [c.esc]; rcases c.vis x hN.mem with h | h; exact .inl h; exact .inr (.inl h)) hd hcd) ⟨v,e,q d v H Hf hR r (.refl S.sb)⟩
theorem JF (hR:R (.int i)):aI c (.Constant (.int i) j pos) ρ R:=λσ H Hf Q S q =>
 bO yb (q _ _ H Hf hR (aA.mpr rfl) (.refl S.sb))
theorem Mf (hR:R (.bl i)):aI c (.Constant (.bool i) j pos) ρ R:=λσ H Hf Q S q =>
 bO tV (q _ _ H Hf hR (fO.mpr rfl) (.refl S.sb))
theorem sj (hm:mg x=some (.int i t)) (hR:R (.int i)) (hg:sc.names.lookup x=some .globalImplicit:=by walk_at "u") (hd:(x == ("__debug__":Str))=false:=by decide) :
 aI c (.Name x pos) ρ R:=λσ H Hf Q S q =>
 bO (tW (X:=c.X) (v:=.int i) (u:=.int i t) (by unfold Gl Ov; rw [c.esc]; exact hg) (by rw [c.emg]; exact hm) ⟨t,rfl⟩ hd) (q _ _ H Hf hR (aA.mpr rfl) (.refl S.sb))
def Lk (K:Nu) (r:R2) (p:D->D->(Sl->Prop)->Prop):Prop :=
 ∀ (x y:D) (v u:V) (H Hf:Hp) (Q:VK) (R:Sl->Prop),aH Hf H->Rep K Hf x v->Rep K Hf y u->p x y R ->
  (∀ z v' H' ai,R z->bu K (λp=>H p=none) H' ai z v'->bw H Hf H' ai->Q v' H')->r v u H Q
theorem nU (ho:fF c.X (binaryOp op) r) (hd:Lk c.X.K r p)
 (h:aI c a ρ λx=>aI c b ρ λy=>p x y R):cW c (.BinOp a op b pos) ρ R:=λσ H Hf Q S q =>
 bO (EB ho cY cY) (h σ H Hf _ S λx v1 H1 aQ h1 r1 g1=>h1 σ H1 aQ _ (S.cC g1) λy v2 H2 cO h2 r2 g2 =>
  hd x y v1 v2 H2 cO Q R g2.b (Rep.mono g2.f x r1) r2 h2 λz v' H' ai hz rz g3 =>
   q z v' H' ai hz (rz.weak λp hp=>(g1.trans g2).s.free hp) ((g1.trans g2).trans g3))
theorem mO {f:Int->Int->Int}:Lk K (rI C λi j=>.int (f i j)) λx y R=>∃ i j,x=.int i/\y=.int j/\C i j/\R (.va (.int (f i j))):=by
 rintro x y v u H Hf Q R s rx ry ⟨i,j,rfl,rfl,hC,hR⟩ q
 rw [aA] at rx ry
 exact ⟨i,j,rx,ry,hC,q (.va (.int (f i j))) _ H Hf hR (show Rep K Hf (.int (f i j)) _ from aA.mpr rfl) (.refl s)⟩
theorem yJ {f:Int->Int->Int}:Lk K (v9 λi j=>.int (f i j)) λx y R=>∃ i j,x=.int i/\y=.int j/\R (.va (.int (f i j))):=by
 rintro x y v u H Hf Q R s rx ry ⟨i,j,rfl,rfl,hR⟩ q
 rw [aA] at rx ry
 exact ⟨i,j,rx,ry,q (.va (.int (f i j))) _ H Hf hR (show Rep K Hf (.int (f i j)) _ from aA.mpr rfl) (.refl s)⟩
theorem iA (h:cW c e ρ λr=>∃ d,r=.va d/\R d):aI c e ρ R:=e_x (h.imp λr ⟨d,e,hr⟩=>⟨d,by subst e; rfl,hr⟩)
noncomputable def jB:D->D->Bool
 | .non,.non=>true | .non,.int _=>true | .int _,.non=>true | .non,.bl _=>true | .bl _,.non=>true | .non,.str _=>true | .str _,.non=>true
 | .int _,.int _=>true | .bl _,.bl _=>true | .str _,.str _=>true | .int _,.str _=>true | .str _,.int _=>true | .bl _,.str _=>true | .str _,.bl _=>true
 | _,_=>false
noncomputable instance:DecidableEq D:=λ_ _=>Classical.propDecidable _
inductive lV:Nat->D->D->Prop where
 | sc {n:Nat} {x y:D} (h:jB x y=true):lV n x y
 | tup {n:Nat} {ds es:List D} (h:∀ (i:Nat) (d e:D),ds[i]?=some d->es[i]?=some e->lV n d e):lV (n+1) (.tup ds) (.tup es)
 | lst {n:Nat} {ds es:List D} (h:∀ (i:Nat) (d e:D),ds[i]?=some d->es[i]?=some e->lV n d e):lV (n+1) (.lst ds) (.lst es)
 | ln {n:Nat} {ds:List D}:lV n (.lst ds) .non
 | nl {n:Nat} {ds:List D}:lV n .non (.lst ds)
 | tn {n:Nat} {ds:List D}:lV n (.tup ds) .non
 | nt {n:Nat} {ds:List D}:lV n .non (.tup ds)
def wo (ds es:List D):Prop:=∀ (i:Nat) (d e:D),ds[i]?=some d->es[i]?=some e->lV 40 d e
def JG (x y:D):Prop:=jB x y=true\/∃ ds es,((x=.tup ds/\y=.tup es)\/(x=.lst ds/\y=.lst es))/\wo ds es
section
variable {a b:Expr} {pos:Pos} {ρ:List Sl} {R:D->Prop}
structure Sd (A B:Prop):Prop where
 s:A
 r:B
structure lP (A B:Prop) (x:Bool):Prop where
 t:x=true->A
 f:x=false->B
theorem JH (h1:A):lP A B true:=⟨λ_=>h1,λh=>by cases h⟩
theorem JI (h1:B):lP A B false:=⟨λh=>(by cases h),λ_=>h1⟩
theorem Cu (h1:p->A) (h2:¬ p->B):lP A B (@decide p i):=⟨λh=>h1 (of_decide_eq_true h),λh=>h2 (of_decide_eq_false h)⟩
theorem Cv (h:lP B A x):lP A B (!x):=⟨λe=>h.f (by simpa using e),λe=>h.t (by simpa using e)⟩
def BS (x y:D) (T:Bool->Prop):Prop:=JG x y/\T (decide (x=y))
theorem Cw (h:T (decide (i=j))):BS (.int i) (.int j) T:=⟨.inl rfl,by
 have e:decide (D.int i=D.int j)=decide (i=j):=by simp
 rw [e]; exact h⟩
theorem Cy (h:Sd (wo ds es) (T (decide (ds=es)))):BS (.lst ds) (.lst es) T:=⟨.inr ⟨ds,es,.inr ⟨rfl,rfl⟩,h.s⟩,by
 have e:decide (D.lst ds=D.lst es)=decide (ds=es):=by simp
 rw [e]; exact h.r⟩
noncomputable def I2 (k:Int->Int->Prop):D->D->Prop:=λx y=>∃ i j,x=.int i/\y=.int j/\k i j
theorem i2 {k:Int->Int->Prop} (h:k i j):I2 k (.int i) (.int j):=⟨i,j,rfl,rfl,h⟩
noncomputable def I1 (k:Int->Prop):D->Prop:=λx=>∃ i,x=.int i/\k i
theorem i1 {k:Int->Prop} (h:k i):I1 k (.int i):=⟨i,rfl,h⟩
noncomputable def B1 (k:Bool->Prop):D->Prop:=λx=>∃ i,x=.bl i/\k i
theorem b1 {k:Bool->Prop} (h:k i):B1 k (.bl i):=⟨i,rfl,h⟩
theorem JJ (h:aI c a ρ λx=>aI c b ρ λy=>I2 (λi j=>R (.int (i - j))) x y):aI c (.BinOp a .Sub b pos) ρ R :=
 iA (nU F4 yJ (h.imp λx hx=>hx.imp λy ⟨i,j,e1,e2,r⟩=>⟨i,j,e1,e2,_,rfl,r⟩))
def MulOk (i j:Int):Prop:=IntMulOk i j
def yK (j:Int):Prop:=0<j/\j.natAbs.log2<9000
theorem Cz:fF c.X (binaryOp .Mult) (rI MulOk λi j=>.int (i * j)):=IQ λ_ _ _ _ _ _ _ hc q=>mul_int q hc
theorem yL:fF c.X (binaryOp .FloorDiv) (rI (λ_ j=>yK j) λi j=>.int (i / j)):=IQ λi j _ _ _ _ _ hc q=>by
 have h1:(0:Int)<j:=hc.1
 exact floordiv_int (by lia) (by rw [Int.fdiv_eq_ediv_of_nonneg i (by lia)]; exact q) (.inl (PyProof.noPylong_of_log2 hc.2))
theorem JK (h:aI c a ρ λx=>aI c b ρ λy=>I2 (λi j=>Sd (MulOk i j) (R (.int (i * j)))) x y):aI c (.BinOp a .Mult b pos) ρ R :=
 iA (nU Cz mO (h.imp λx hx=>hx.imp λy ⟨i,j,e1,e2,⟨hc,r⟩⟩=>⟨i,j,e1,e2,hc,_,rfl,r⟩))
theorem GA (h:aI c a ρ λx=>aI c b ρ λy=>I2 (λi j=>Sd (yK j) (R (.int (i / j)))) x y):aI c (.BinOp a .FloorDiv b pos) ρ R :=
 iA (nU yL mO (h.imp λx hx=>hx.imp λy ⟨i,j,e1,e2,⟨hc,r⟩⟩=>⟨i,j,e1,e2,hc,_,rfl,r⟩))
theorem JL (h:aI c a ρ λx=>aI c b ρ λy=>I2 (λi j=>Sd (0<j) (R (.int (i % j)))) x y):aI c (.BinOp a .Mod b pos) ρ R :=
 iA (nU F5 mO (h.imp λx hx=>hx.imp λy ⟨i,j,e1,e2,⟨hc,r⟩⟩=>⟨i,j,e1,e2,hc,_,rfl,r⟩))
theorem JM (h:aI c a ρ λx=>aI c b ρ λy=>I2 (λi j=>Sd (yj i j) (R (.int (i ^ j.toNat)))) x y):aI c (.BinOp a .Pow b pos) ρ R :=
 iA (nU F6 mO (h.imp λx hx=>hx.imp λy ⟨i,j,e1,e2,⟨hc,r⟩⟩=>⟨i,j,e1,e2,hc,_,rfl,r⟩))
theorem JN (h:aI c a ρ (I1 λi=>R (.int (-i)))):aI c (.UnaryOp .USub a pos) ρ R:=λσ H Hf Q S q =>
 bO (Jo Ga cY) (h σ H Hf _ S λx v H' ai hx r g=>by
  obtain ⟨i,rfl,hR⟩:=hx
  rw [aA] at r
  exact ⟨i,r,q _ _ H' ai hR (aA.mpr rfl) g⟩)
def yM (K:Nu) (r:R2) (p:D->D->(Bool->Prop)->Prop):Prop :=
 ∀ (x y:D) (v u:V) (H Hf:Hp) (Q:VK) (R:Bool->Prop),aH Hf H->Rep K Hf x v->Rep K Hf y u->p x y R->(∀ b,R b->Q (.bl b) H)->r v u H Q
theorem JO (ho:fF c.X (compareOp op) r) (hd:yM c.X.K r p) (h:aI c a ρ λx=>aI c b ρ λy=>p x y λz=>R (.bl z))
 (hm:behindInMarks op b=false):aI c (.Compare a [op] [b] pos) ρ R:=λσ H Hf Q S q =>
 bO (Ca ho cY cY hm) (h σ H Hf _ S λx v1 H1 aQ h1 r1 g1=>h1 σ H1 aQ _ (S.cC g1) λy v2 H2 cO h2 r2 g2 =>
  hd x y v1 v2 H2 cO Q _ g2.b (Rep.mono g2.f x r1) r2 h2 λz hz=>q _ _ H2 cO hz (fO.mpr rfl) (g1.trans g2))
theorem um (ho:fF c.X (compareOp op) r) (hd:yM c.X.K r p) (h:aI c a ρ λx=>aI c b ρ λy=>p x y T)
 (hm:behindInMarks op b=false):jA c (.Compare a [op] [b] pos) ρ T:=λσ H Hf Q S q =>
 ug (Cb ho cY cY hm) (h σ H Hf _ S λx v1 H1 aQ h1 r1 g1=>h1 σ H1 aQ _ (S.cC g1) λy v2 H2 cO h2 r2 g2 =>
  hd x y v1 v2 H2 cO _ T g2.b (Rep.mono g2.f x r1) r2 h2 λz hz=>⟨z,rfl,q _ H2 cO hz (g1.trans g2)⟩)
theorem EI {f:Int->Int->Bool}:yM K (v9 λi j=>.bl (f i j)) λx y R=>I2 (λi j=>R (f i j)) x y:=by
 rintro x y v u H Hf Q R s rx ry ⟨i,j,rfl,rfl,hR⟩ q
 rw [aA] at rx ry
 exact ⟨i,j,rx,ry,q _ hR⟩
theorem uo (h:jB x y=true) (rx:Rep K H x v) (ry:Rep K H y u):B9 v u=true/\decide (v=u)=decide (x=y):=by
 cases x <;> cases y <;> simp [jB] at h <;> simp only [aA,fO,bV,gu] at rx ry <;> subst rx <;> subst ry <;> simp [B9]
theorem Mg (h:aI c a ρ λx=>aI c b ρ λy=>I2 (λi j=>T (decide (i<j))) x y):jA c (.Compare a [.Lt] [b] pos) ρ T:=um Js EI h (kj b)
theorem Mh (h:aI c a ρ λx=>aI c b ρ λy=>I2 (λi j=>T (decide (j<i))) x y):jA c (.Compare a [.Gt] [b] pos) ρ T:=um Jt EI h (kj b)
end
end
section
variable {K:Nu} {c:Ctx P w K mg base k N sc bk}
variable {es rest:List Expr}
noncomputable def bW (X:Cx) (e:Expr):TT:=λσ H Q=>∀ whole aa s,Inv X aa σ H s->wpAny (model X.prog X.w) X.A (isTrue e X.env whole) (TP X aa σ Q) X.xe s
theorem MU:PW X e (bW X e):=λwhole aa s σ H Q I h=>h whole aa s I
theorem uq (h:PW X e t) (q:t σ H Q):bW X e σ H Q:=λwhole aa s I=>h whole aa s σ H Q I q
def EJ (c:Ctx P w K mg base k N sc bk) (e:Expr) (ρ:List Sl) (R:Bool->Prop):Prop :=
 ∀ (σ:L2.St) (H Hf:Hp) (Q:Bool->Hp->Prop),bx c σ H Hf ρ->(∀ b H' ai,R b->bw H Hf H' ai->Q b H')->bW c.X e σ H Q
theorem MV (h:EJ c e ρ T):jA c e ρ T:=λσ H Hf Q S q aa s I=>h σ H Hf Q S q _ aa s I
theorem GB (h:jA c a ρ T):EJ c (.BoolOp .And [a] pos) ρ T:=λσ H Hf Q S q=>uq (pw_and1 EF) (h σ H Hf Q S q)
theorem JP (h:jA c a ρ T):EJ c (.BoolOp .Or [a] pos) ρ T:=λσ H Hf Q S q=>uq (pw_or1 EF) (h σ H Hf Q S q)
theorem w_and (h:jA c a ρ (lP (EJ c (.BoolOp .And (b::rest) pos) ρ T) (T false))):EJ c (.BoolOp .And (a::b::rest) pos) ρ T:=λσ H Hf Q S q =>
 uq (pw_and EF MU) (h σ H Hf _ S λx H' ai hx g=>by
  cases x with
  | true=>exact hx.t rfl σ H' ai Q (S.cC g) λy H2 cO hy g2=>q y H2 cO hy (g.trans g2)
  | false=>exact q false H' ai (hx.f rfl) g)
theorem w_or (h:jA c a ρ (lP (T true) (EJ c (.BoolOp .Or (b::rest) pos) ρ T))):EJ c (.BoolOp .Or (a::b::rest) pos) ρ T:=λσ H Hf Q S q =>
 uq (pw_or EF MU) (h σ H Hf _ S λx H' ai hx g=>by
  cases x with
  | false=>exact hx.f rfl σ H' ai Q (S.cC g) λy H2 cO hy g2=>q y H2 cO hy (g.trans g2)
  | true=>exact q true H' ai (hx.t rfl) g)
theorem JQ (h:jA c a ρ λx=>T (!x)):jA c (.UnaryOp .Not a pos) ρ T:=λσ H Hf Q S q =>
 ug (FN EF) (h σ H Hf _ S λx H' ai hx g=>q _ H' ai hx g)
theorem JR (h:aI c a ρ R):aI c (.BoolOp op [a] pos) ρ R:=λσ H Hf Q S q=>bO (FO cY) (h σ H Hf Q S q)
theorem JS (h:aI c a ρ (B1 (lP (aI c (.BoolOp .And (b::rest) pos) ρ R) (R (.bl false))))):aI c (.BoolOp .And (a::b::rest) pos) ρ R:=λσ H Hf Q S q =>
 bO (FP cY cY) (h σ H Hf _ S λx v H' ai ⟨k,e,h1⟩ r g=>by
  subst e
  rw [fO] at r
  refine ⟨k,r,?_⟩
  cases k with
  | true=>rw [if_pos rfl]; exact h1.t rfl σ H' ai Q (S.cC g) λy v2 H2 cO hy r2 g2=>q y v2 H2 cO hy r2 (g.trans g2)
  | false=>rw [if_neg NH]; exact q _ _ H' ai (h1.f rfl) (fO.mpr rfl) g)
theorem CA {R:Sl->Prop} (h:jA c t ρ (lP (cW c a ρ R) (cW c b ρ R))):cW c (.IfExp t a b pos) ρ R:=λσ H Hf Q S q =>
 bO (yc EF cY cY) (h σ H Hf _ S λx H' ai hx g=>by
  cases x with
  | true=>rw [if_pos rfl]; exact hx.t rfl σ H' ai Q (S.cC g) λy v2 H2 cO hy r2 g2=>q y v2 H2 cO hy (r2.weak λp hp=>g.s.free hp) (g.trans g2)
  | false=>rw [if_neg NH]; exact hx.f rfl σ H' ai Q (S.cC g) λy v2 H2 cO hy r2 g2=>q y v2 H2 cO hy (r2.weak λp hp=>g.s.free hp) (g.trans g2))
theorem CB (h:jA c t ρ (lP (aI c a ρ R) (aI c b ρ R))):aI c (.IfExp t a b pos) ρ R :=
 iA (CA (h.imp λx hx=>⟨λe=>uh ((hx.t e).imp λd h=>⟨d,rfl,h⟩),λe=>uh ((hx.f e).imp λd h=>⟨d,rfl,h⟩)⟩))
theorem JT (h:aI c e ρ (B1 T)) (he:∀ (env:Env) whole,isTrue e env whole=(do let v <- whole; standAt e.pos; holding [v] (truthy v)):=by intro _ _; walk_at "u"):jA c e ρ T:=λσ H Hf Q S q =>
 ug (FL cY (he _)) (h σ H Hf _ S λx v H' ai ⟨k,e,h1⟩ r g=>by
  subst e; rw [fO] at r
  exact ⟨k,r,q k H' ai h1 g⟩)
theorem kF {R:List D->Prop} (h:R []):pX c [] ρ R:=λσ H Hf Q S q=>yG dD (q [] [] H Hf h (aC.mpr rfl) (.refl S.sb))
theorem bz {R:List D->Prop} (h:aI c e ρ λd=>pX c es ρ λds=>R (d::ds)) (hs:∀ env,starEach (e::es) env=(false,eval e env)::starEach es env:=by intro _; walk_at "u"):pX c (e::es) ρ R:=λσ H Hf Q S q =>
 yG (bM cY Gy (hs _)) (h σ H Hf _ S λd v H1 aQ h1 r1 g1=>h1 σ H1 aQ _ (S.cC g1) λds vs H2 cO h2 r2 g2=>q _ _ H2 cO h2 (.cons (Rep.mono g2.f d r1) r2) (g1.trans g2))
theorem gI (h:pX c es ρ λds=>Sd (ds.length<=sizeLine) (R (.tup ds))):aI c (.Tuple es j pos) ρ R:=λσ H Hf Q S q =>
 bO (Gb Gy) (h σ H Hf _ S λds vs H' ai ⟨hl,hR⟩ r g=>⟨by rw [<- r.length]; exact hl,λp hp=>by
  have g2:=bw.new g.b hp (o:=.tup vs)
  exact q _ _ _ _ hR (aM.mpr ⟨p,vs,rfl,.inl (.inl af),r.mono g2.f⟩) (g.trans g2)⟩)
theorem EK {R:Sl->Prop} (h:pX c es ρ λds=>Sd (ds.length<=sizeLine) (R (.ow ds))):cW c (.List es pos) ρ R:=λσ H Hf Q S q =>
 bO (Ge Gy) (h σ H Hf _ S λds vs H' ai ⟨hl,hR⟩ r g=>⟨by rw [<- r.length]; exact hl,λp hp=>by
  have g2:=bw.dZ g.b hp (o:=.lst vs)
  exact q _ _ _ _ hR ⟨p,vs,rfl,g.s.free hp,af,g.b.free hp,r⟩ (g.trans g2)⟩)
variable {st:Stmt}
theorem GC (h:nx ρ):aG c [] ρ nx p:=λσ H Hf D S o=>yH B5 (o.nx σ H Hf ρ S h)
theorem aN (h:fP c st ρ (λρ'=>aG c sts ρ' nx p) p):aG c (st::sts) ρ nx p:=λσ H Hf D S o =>
 yH (yd Nh se) (h σ H Hf { D with nx:=IV c.X sts D } S ⟨λσ' H' ai ρ' S' q=>q σ' H' ai D S' o,o.rt,o.bk,o.ct⟩)
theorem cj (h:cW c e ρ p.rt):fP c (.Return (some e) pos) ρ nx p:=λσ H Hf D S o =>
 d8 (ye cY) (h σ H Hf _ S λr v H' ai hr rs g=>o.rt r v H' ai (S.bas.trans g) (rs.weak λp hp=>S.bas.s.free hp) hr)
theorem yN (hN:At N i x) (hi:At ρ i r) (hu:r.owned=true) (h:p.rt r)
 (hd:(x == ("__debug__":Str))=false:=by decide) (hcd:(x == ("__classdict__":Str))=false:=by decide) :
 fP c (.Return (some (.Name x pos2)) pos) ρ nx p:=λσ H Hf D S o=>by
 obtain ⟨v,e,rs⟩:=S.at_ i r hi.get (by rintro rfl; cases hu)
 exact d8 (ye (rT (X:=c.X) (i:=i) (by rw [c.eN]; exact hN.get) (by rw [c.esc]; rcases c.vis x hN.mem with h | h; exact .inl h; exact .inr (.inl h)) hd hcd)) ⟨v,e,o.rt r v H Hf S.bas rs h⟩
theorem JU (h:jA c t ρ (lP (aG c A ρ nx p) (aG c B ρ nx p))):fP c (.If t A B pos) ρ nx p:=λσ H Hf D S o =>
 d8 (Jh EF se se) (h σ H Hf _ S λx H' ai hx g=>by
  cases x with
  | true=>rw [if_pos rfl]; exact hx.t rfl σ H' ai D (S.cC g) o
  | false=>rw [if_neg NH]; exact hx.f rfl σ H' ai D (S.cC g) o)
def Nx (ρ:List Sl) (i:Nat) (R:List Sl->Prop) (r:Sl):Prop:=∃ ρ',SSet ρ i r ρ'/\R ρ'
theorem uu {R:List Sl->Prop} (h:SSet ρ i r ρ') (hr:R ρ'):Nx ρ i R r:=⟨ρ',h,hr⟩
theorem uv (hN:At N i x) (h:cW c e ρ (Nx ρ i nx))
 (hs:∀ env,swapsWith e (some (.Name x pos2)) pos.line env=pure false:=by intro _; walk_at "u") (hf:bk=false\/sc.names.lookup x=some .local:=by first | exact .inl rfl | exact .inr (by walk_at "u")):fP c (.Assign [.Name x pos2] e pos) ρ nx p:=λσ H Hf D S o =>
 d8 (FY (X:=c.X) (i:=i) (by rw [c.eN]; exact c.nd) (by rw [c.eN]; exact hN.get) (by rw [c.esc]; exact c.vis x hN.mem) cY (hs _) (c.fn x hf)) (h σ H Hf _ S λr v H' ai ⟨ρ',hs,hx⟩ rs g=>o.nx _ H' ai _ (hs.eq ▸ S.set g rs) hx)
theorem dM {R:List Sl->Prop} (hN:At N i x) (h:Nx ρ i R (.va d)) (hf:bk=false\/sc.names.lookup x=some .local:=by first | exact .inl rfl | exact .inr (by walk_at "u")):pq c (.Name x pos) d ρ R:=λσ H Hf v Q S r q=>by
 obtain ⟨ρ',hs,h⟩:=h
 exact EG (tX (X:=c.X) (i:=i) (by rw [c.eN]; exact c.nd) (by rw [c.eN]; exact hN.get) (by rw [c.esc]; exact c.vis x hN.mem) (c.fn x hf)) (q _ H Hf _ (hs.eq ▸ S.set (.refl S.sb) (r:=.va d) r) (.refl S.sb) h)
def wu (c:Ctx P w K mg base k N sc bk) (ts:List Expr) (ds:List D) (ρ:List Sl) (R:List Sl->Prop):Prop :=
 ∀ (σ:L2.St) (H Hf:Hp) (vs:List V) (Q:L2.St->Hp->Prop),bx c σ H Hf ρ->au c.X.K Hf ds vs->(∀ σ' H' ai ρ',bx c σ' H' ai ρ'->bw H Hf H' ai->R ρ'->Q σ' H') ->
  ∀ aa s us,Inv c.X aa σ H s->Vals vs us->wpAny (model c.X.prog c.X.w) c.X.A (assignInOrder ((assignEach ts c.X.env).map (·.2)) us) (λ_ s'=>∃ σ' H',Inv c.X aa σ' H' s'/\Q σ' H') c.X.xe s
theorem GD {R:List Sl->Prop} (h:R ρ):wu c [] [] ρ R:=λσ H Hf vs Q S r q aa s us I rv=>by
 rw [aC] at r; subst r
 exact B6 aa s σ H [] us Q I rv ⟨rfl,q σ H Hf ρ S (.refl S.sb) h⟩
theorem CC {R:List Sl->Prop} (hN:At N i x) (h:Nx ρ i (λρ'=>wu c ts ds ρ' R) (.va d))
 (hs:∀ env,(assignEach (.Name x pos::ts) env).map (·.2)=assign (.Name x pos) env::(assignEach ts env).map (·.2):=by intro _; walk_at "u") (hf:bk=false\/sc.names.lookup x=some .local:=by first | exact .inl rfl | exact .inr (by walk_at "u")):wu c (.Name x pos::ts) (d::ds) ρ R:=λσ H Hf vs Q S r q aa s us I rv=>by
 obtain ⟨ρ',hs',h⟩:=h
 rw [aD] at r
 obtain ⟨v,vr,rfl,r1,r2⟩:=r
 have hp:IP c.X ts (λvs' σ' H' Q'=>∀ aa s us,Inv c.X aa σ' H' s->Vals vs' us->wpAny (model c.X.prog c.X.w) c.X.A (assignInOrder ((assignEach ts c.X.env).map (·.2)) us) (λ_ s'=>∃ σ'' H'',Inv c.X aa σ'' H'' s'/\Q' σ'' H'') c.X.xe s) :=
  λaa s σ H vs us Q I r h=>h aa s us I r
 refine yf (tX (X:=c.X) (i:=i) (by rw [c.eN]; exact c.nd) (by rw [c.eN]; exact hN.get) (by rw [c.esc]; exact c.vis x hN.mem) (c.fn x hf)) hp (hs _) aa s σ H _ us Q I rv ⟨v,vr,rfl,?_⟩
 have S1:=S.set (i:=i) (.refl S.sb) (r:=.va d) (v:=v) r1
 rw [<- hs'.eq] at S1
 exact h _ H Hf vr Q S1 r2 q
theorem JV {R:List Sl->Prop} (he:d=.tup ds) (hl:ds.length=ts.length) (h:wu c ts ds ρ R)
 (hn:∀ env,(assignEach ts env).length=ts.length:=by intro _; walk_at "u") (hst:∀ env,(assignEach ts env).findIdx? (·.1)=none:=by intro _; walk_at "u"):pq c (.Tuple ts j pos) d ρ R:=λσ H Hf v Q S r q=>by
 subst he
 rw [aM] at r
 obtain ⟨a,xs,rfl,h1,h2⟩:=r
 have hp:IP c.X ts (λvs' σ' H' Q'=>∀ aa s us,Inv c.X aa σ' H' s->Vals vs' us->wpAny (model c.X.prog c.X.w) c.X.A (assignInOrder ((assignEach ts c.X.env).map (·.2)) us) (λ_ s'=>∃ σ'' H'',Inv c.X aa σ'' H'' s'/\Q' σ'' H'') c.X.xe s) :=
  λaa s σ H vs us Q I r h=>h aa s us I r
 refine EG (FT (X:=c.X) (k:=j) (n:=ts.length) c.calm hp (hn _) (hst _)) ⟨a,xs,rfl,az S.sb h1,by rw [<- h2.length,hl],?_⟩
 exact h σ H Hf xs Q S h2 λσ' H' ai ρ' S' g' hR=>q σ' H' ai ρ' S' g' hR
theorem JW {f:Int->Int->Int} (ho:fF c.X (inplaceOp op) (rI C λi j=>.int (f i j))) (hN:At N i x) (hi:At ρ i (.va (.int m)))
 (h:aI c e ρ (I1 λj=>Sd (C m j) (Nx ρ i nx (.va (.int (f m j)))))) (hf:bk=false\/sc.names.lookup x=some .local:=by first | exact .inl rfl | exact .inr (by walk_at "u")):fP c (.AugAssign (.Name x pos2) op e pos) ρ nx p:=λσ H Hf D S o=>by
 obtain ⟨v,e1,r1⟩:=S.va hi.get
 rw [aA] at r1; subst r1
 have hip:MS c.X op (rI C λi j=>.int (f i j)):=λaa s σ H x y v u Q I rx ry h=>ho aa s σ H x y v u Q I rx ry h
 refine d8 (FZ (X:=c.X) (i:=i) (by rw [c.eN]; exact c.nd) (by rw [c.eN]; exact hN.get) (by rw [c.esc]; exact c.vis x hN.mem) cY hip (c.fn x hf)) ⟨_,e1,h σ H Hf _ S λd v H' ai ⟨j,ed,⟨hC,ρ',hs,hn⟩⟩ r g=>?_⟩
 subst ed; rw [aA] at r
 have S2:=S.set g (i:=i) (r:=.va (.int (f m j))) (show Rep c.X.K ai (.int (f m j)) (.int (f m j)) from aA.mpr rfl)
 rw [<- hs.eq] at S2
 exact ⟨m,j,rfl,r,hC,o.nx _ H' ai _ S2 hn⟩
theorem GF (hN:At N i x) (hi:At ρ i (.va (.int m))) (h:aI c e ρ (I1 λj=>Nx ρ i nx (.va (.int (m - j))))) (hf:bk=false\/sc.names.lookup x=some .local:=by first | exact .inl rfl | exact .inr (by walk_at "u")) :
 fP c (.AugAssign (.Name x pos2) .Sub e pos) ρ nx p :=
 JW (C:=λ_ _=>True) (f:=λi j=>i - j) (λaa s σ H x y v u Q I rx ry ⟨i,j,e1,e2,_,q⟩=>B8 aa s σ H x y v u Q I rx ry ⟨i,j,e1,e2,q⟩) hN hi (h.imp λd ⟨j,e,q⟩=>⟨j,e,trivial,q⟩) hf
theorem uw (hq:c.X.xe=λ_ _=>False) (I:Nat->List Sl->Prop) (h0:I m₀ ρ)
 (h:∀ m ρ',I m ρ'->jA c t ρ' (lP (aG c body ρ' (λr=>∃ m',m'<m/\I m' r) { ct:=λr=>∃ m',m'<m/\I m' r,bk:=nx,rt:=p.rt }) (nx ρ'))) :
 fP c (.While t body [] pos) ρ nx p:=λσ H Hf D S o =>
 d8 (yg (by rw [hq]; exact PassesOwn.never) EF se) ⟨λm σ H=>∃ Hf ρ',bx c σ H Hf ρ'/\I m ρ',⟨m₀,Hf,ρ,S,h0⟩,λm σ H ⟨Hf,ρ',S,hI⟩=>h m ρ' hI σ H Hf _ S λx H' ai hx g=>by
  cases x with
  | false=>rw [if_neg NH]; exact o.nx σ H' ai ρ' (S.cC g) (hx.f rfl)
  | true =>
   rw [if_pos rfl]
   refine ⟨λσ' H'=>∃ m',m'<m/\∃ Hf ρ',bx c σ' H' Hf ρ'/\I m' ρ',λσ' H' ⟨m',hl,hh⟩=>⟨m',hl,hh⟩,?_⟩
   exact hx.t rfl σ H' ai _ (S.cC g) ⟨λσ H Hf ρ S ⟨m',hl,hi⟩=>⟨m',hl,Hf,ρ,S,hi⟩,o.rt,λσ H Hf ρ S q=>o.nx σ H Hf ρ S q,λσ H Hf ρ S ⟨m',hl,hi⟩=>⟨m',hl,Hf,ρ,S,hi⟩⟩⟩
end
theorem yO (h:n<=1000):n<=sizeLine:=PJ (wm h)
theorem yP (h:0<j) (h2:j.natAbs.log2<9000):yK j:=⟨h,h2⟩
inductive Res where
 | ok (r:Sl)
 | ex (C:Addr)
noncomputable abbrev Fn:=List D->Res->Prop
noncomputable def cZ (K:Nu) (F:Fn):Sp:=λvs H Q E=>∃ Hf ds r,aH Hf H/\au K Hf ds vs/\F ds r/\match r with
 | .ok sl=>∀ v H' ai,bw H Hf H' ai->bu K (λp=>H p=none) H' ai sl v->Q v H'
 | .ex C=>∀ a H',aH H H'->E (.ref C) (some a) H'
structure cu (P:Program) (w:World) (K:Nu) (mg:Str->Option Value) (base:Heap) (k:Nat) (x:Str) (F:Fn):Prop where
 ex:∃ f fd ps,mg x=some (.ref f)/\Pa K (.ref f)=true/\Binds K fd ps []/\aY P w K mg base (cP P w) k f fd ps (cZ K F)
section
variable {K:Nu} {c:Ctx P w K mg base k N sc bk}
noncomputable def GG (c:Ctx P w K mg base k N sc bk) (ρ:List Sl) (R:Sl->Prop):Res->Prop
 | .ok sl=>R sl
 | .ex C=>c.RX C ρ
theorem CD (h:cu P w K mg base j x F) (hj:j<=k):∃ f,mg x=some (.ref f)/\Pa K (.ref f)=true /\
 ∀ (aa:List (Addr×Obj)) (σ:L2.St) (H Hf:Hp) (s:Shared) (us:List Value) (vs:List V) (ds:List D) (r:Res) (Q:VK),Inv c.X aa σ H s->bx c σ H Hf ρ->Vals vs us->au c.X.K Hf ds vs->F ds r ->
  (∀ sl v H' ai,r=.ok sl->bu c.X.K (λp=>H p=none) H' ai sl v->bw H Hf H' ai->Q v H')->(∀ C,r=.ex C->c.RX C ρ)->wpAny (model c.X.prog c.X.w) c.X.A (call (.ref f) us) (EP c.X aa σ Q) c.X.xe s:=by
 obtain ⟨f,fd,ps,hm,hk,hb,hF⟩:=h.ex
 refine ⟨f,hm,hk,λaa σ H Hf s us vs ds r Q I S rv rs hr q hx=>?_⟩
 have hF':aY c.X.prog c.X.w c.X.K c.X.mg c.X.base (cP c.X.prog c.X.w) k f fd ps (cZ c.X.K F):=by rw [c.eP,c.ew,c.eK,c.emg,c.eb]; exact hF.mono hj
 have tR:cZ c.X.K F vs H Q (λcv ao H'=>∃ C,r=.ex C/\cv=.ref C/\aH H H'):=by
  refine ⟨Hf,ds,r,S.bas.b,rs,hr,?_⟩
  cases r with
  | ok sl=>exact λv H' ai g rs2=>q sl v H' ai rfl rs2 g
  | ex C=>exact λa H' s2=>⟨C,rfl,rfl,s2⟩
 have hl:us.length=ps.length:=by rw [<- rv.length]; exact hF'.len _ _ _ _ tR
 have hb':Binds c.X.K fd ps []:=by rw [c.eK]; exact hb
 have hb2:=hb' s us I.BQ (by simpa using hl)
 rw [OD] at hb2
 refine wpAny_call (Rc (hF'.run c.X.A c.X.stack s H ⟨us,[]⟩ us vs Q _ c.room I.Gg hb2 rv tR) λr' s' hq=>?_)
 cases r' with
 | error e =>
  obtain ⟨a,C,H',rfl,hE,C',e1,e2,sm⟩:=hq
  cases e2
  exact c.exc C a aa σ H Hf ρ s H' s' I S (hx C e1) hE sm
 | ok fl =>
  cases fl with
  | ret u=>exact I.after hq
  | next=>exact OF hq
  | brk=>exact OF hq
  | cont=>exact OF hq
theorem x_call {R:Sl->Prop} (h:cu P w K mg base j x F) (hj:j<=k)
 (ha:pX c (e::es) ρ λds=>∃ r,F ds r/\GG c ρ R r)
 (hg:sc.names.lookup x=some .globalImplicit:=by walk_at "u") (hdb:(x == ("__debug__":Str))=false:=by decide) (he:∀ env,starEach (e::es) env=(false,eval e env)::starEach es env:=by intro _; walk_at "u")
 (hpl:∀ env,(backTo pos (starEach es env)).any (·.1)=false:=by intro _; walk_at "u"):cW c (.Call (.Name x p) (e::es) [] pos) ρ R:=λσ H Hf Q S q aa s I=>by
 obtain ⟨f,hm,hk,run⟩:=CD (c:=c) (ρ:=ρ) h hj
 refine O2 (nK I (by unfold Gl Ov; rw [c.esc]; exact hg) (by rw [c.emg]; exact hm) ?_ hdb)
 refine S6 (h₀:=c.X.base) I.ok.mod.kin (by rw [c.eK]; exact hk) (bC (ha σ H Hf (λvs H1=>∃ aQ ds,(∃ r,F ds r/\GG c ρ R r)/\au c.X.K aQ ds vs/\bw H Hf H1 aQ) S (λds vs H1 aQ hr rs g=>⟨aQ,ds,hr,rs,g⟩) pos aa s I) λus s1 hh=>z2 hh λvs H1 hh=>w3 hh λI1 rv hh=>z2 hh λaQ ds hh=>w3 hh λhh rs g=>hh.elim λr hh=>w2 hh λhF hR=>⟨I1.BQ,?_⟩) (he _) (hpl _)
 refine run aa σ H1 aQ s1 us vs ds r Q I1 (S.cC g) rv rs hF (λsl v H' ai e1 rs2 g2=>?_) λC e1=>?_
 ·subst e1
  exact q sl v H' ai hR (rs2.weak λp hp=>g.s.free hp) (g.trans g2)
 ·subst e1
  exact hR
theorem aV (h:cu P w K mg base j x F) (hj:j<=k)
 (ha:pX c (e::es) ρ λds=>∃ r,F ds r/\GG c ρ (EH R) r)
 (hg:sc.names.lookup x=some .globalImplicit:=by walk_at "u") (hdb:(x == ("__debug__":Str))=false:=by decide) (he:∀ env,starEach (e::es) env=(false,eval e env)::starEach es env:=by intro _; walk_at "u")
 (hpl:∀ env,(backTo pos (starEach es env)).any (·.1)=false:=by intro _; walk_at "u"):aI c (.Call (.Name x p) (e::es) [] pos) ρ R:=e_x (x_call h hj ha hg hdb he hpl)
noncomputable def gM (N:List Str) (ds:List D):List Sl:=ds.map .va++NY (N.length - ds.length) .un
theorem yQ (r:au K eO ds vs) (sb:aH eO H₀):eG K H₀ eO (L2.start N vs) H₀ eO (gM N ds):=by
 have hl:=r.length
 refine ⟨.refl sb,by simp [L2.start,gM,hl],λi r' h hu=>?_,λi j r1 r2 p hne h1 h2 o1 o2=>?_⟩
 ·by_cases q:i<ds.length
  ·have e:(gM N ds)[i]?=some (.va ds[i]):=by
    unfold gM
    rw [PZ (by simpa using q)]; simp [q]
   rw [e] at h; cases h
   obtain ⟨x,e2,rx⟩:=r.get (i:=i) (d:=ds[i]) (by simp)
   refine ⟨x,?_,rx⟩
   unfold L2.start
   rw [PZ (by simp; lia)]
   simp [e2]
  ·unfold gM at h
   rw [QK (by simp; lia)] at h
   have:=O1 h
   exact absurd (Sy this) hu
 ·exfalso
  unfold gM at h1
  by_cases q:i<(ds.map Sl.va).length
  ·rw [PZ q] at h1
   rw [NO] at h1
   cases z:ds[i]? with
   | none=>rw [z] at h1; cases h1
   | some d=>rw [z] at h1; cases h1; cases o1
  ·rw [QK (by lia)] at h1
   have e3:=Sy (O1 h1)
   subst e3; cases o1
abbrev FS (N P:List Str) (st:Stmt):Prop:=(aR st).kind=.function/\(aR st).isCoroutine=false/\(aR st).isGenerator=false/\N.Nodup/\N.take P.length=P/\(∀ x∈P,(aR st).names.lookup x=some .local\/(aR st).names.lookup x=some .cell)/\(∀ y∈(aR st).names,y.2≠.free)/\∀ x∈N,(aR st).names.lookup x=some .local\/(aR st).names.lookup x=some .cell
theorem EL {N P:List Str} {st:Stmt} (h:FS N P st):nM N P (aR st)/\∀ x∈N,Loc (aR st) x:=⟨⟨h.1,h.2.1,h.2.2.1,h.2.2.2.1,h.2.2.2.2.1,h.2.2.2.2.2.1,h.2.2.2.2.2.2.1⟩,h.2.2.2.2.2.2.2⟩
theorem bK {st:Stmt} (Fu:dh K x qual st f fd) (SV:FS N ps st) (ar:∀ ds r,F ds r->ds.length=ps.length)
 (hok:∀ ds r,F ds r->∃ sl,r=.ok sl)
 (body:∀ (c:Ctx P w K mg base k N (aR st) false),c.X.xe=(λ_ _=>False)->∀ ds sl,F ds (.ok sl)->aG c (aj st) (gM N ds) (λ_=>sl=.va .non) { rt:=λr=>r=sl }) :
 aY P w K mg base (cP P w) (k+1) f fd ps (cZ K F):=by
 obtain ⟨Sc,Vi⟩:=EL SV
 obtain ⟨oc,od,kV,doc,pm,an,cdv,ct,osl,rfl,lk,hcd⟩:=Fu.ex
 refine EC lk hcd Sc (λvs H Q E ⟨Hf,ds,r,_,rs,hF,_⟩=>by rw [<- rs.length]; exact ar _ _ hF) λA outer s H vs Q E hr ⟨Hf,ds,r,sb,rs,hF,hq⟩=>?_
 obtain ⟨sl,rfl⟩:=hok _ _ hF
 let X:Cx:=(r6 (cP P w) P w K mg base N qual (aR st) f cdv A outer s H E).IM
 let c:Ctx P w K mg base k N (aR st) false :=
  { X:=X,eP:=rfl,ew:=rfl,eK:=rfl,emg:=rfl,eb:=rfl,eN:=rfl,esc:=rfl,calm:=rfl,top:=λ_=>⟨rfl,rfl,rfl⟩,cb:=λ_ _ _ _ _ I x c h=>I.ok.cab x c rfl h,fn:=λ_ _=>.inl rfl,B:=H,room:=hr,nd:=Sc.nd,vis:=Vi,Hf:=Hf,RX:=λ_ _=>False,
    exc:=λ_ _ _ _ _ _ _ _ _ _ _ _ h _ _=>h.elim,RM:=λ_ _=>False,mde:=λ_ _ _ _ _ _ _ _ _ _ _ _ h _=>h.elim }
 refine ⟨_,rS.IM (t:=IV X (aj st)) (se (X:=X)),?_⟩
 refine body c rfl ds sl hF (L2.start N vs) H Hf _ (yQ rs sb) ⟨λσ H' ai ρ S e=>?_,λr v H' ai g rv e=>?_,λ_ _ _ _ _ h=>h.elim,λ_ _ _ _ _ h=>h.elim⟩
 ·subst e
  exact hq .non H' ai S.bas (show Rep K ai .non .non from bV.mpr rfl)
 ·have e:r=sl:=e
  subst e
  exact hq v H' ai g rv
def Mi (K:Nu) (r:List V->Hp->VK->Prop) (p:List D->(Sl->Prop)->Prop):Prop :=
 ∀ (ds:List D) (vs:List V) (H Hf:Hp) (Q:VK) (R:Sl->Prop),aH Hf H->au K Hf ds vs->p ds R->(∀ z v' H' ai,R z->bu K (λp=>H p=none) H' ai z v'->bw H Hf H' ai->Q v' H')->r vs H Q
theorem JX {id:String} {R:Sl->Prop} (hc:fL c.X (.type id) r) (hd:Mi c.X.K r q) (hm:mg x=none) (hv:bootBuiltins x=some (.type id))
 (ha:pX c (e::es) ρ λds=>q ds R) (hg:sc.names.lookup x=some .globalImplicit:=by walk_at "u") (hn:x≠"__name__":=by decide) (hdb:(x == ("__debug__":Str))=false:=by decide)
 (he:∀ env,starEach (e::es) env=(false,eval e env)::starEach es env:=by intro _; walk_at "u") (hpl:∀ env,(backTo pos (starEach es env)).any (·.1)=false:=by intro _; walk_at "u"):cW c (.Call (.Name x p) (e::es) [] pos) ρ R:=λσ H Hf Q S qq =>
 bO (mD hc (by unfold Gl Ov; rw [c.esc]; exact hg) (by rw [c.emg]; exact hm) hv Gy hn hdb (he _) (hpl _))
  (ha σ H Hf _ S λds vs H1 aQ h1 rs g=>hd ds vs H1 aQ Q R g.b rs h1 λz v' H' ai hz rz g2=>qq z v' H' ai hz (rz.weak λp hp=>g.s.free hp) (g.trans g2))
theorem pY (h:au K H [d] vs):∃ v,vs=[v]/\Rep K H d v:=by
 rw [aD] at h
 obtain ⟨x,r,rfl,h1,h2⟩:=h
 rw [aC] at h2; subst h2
 exact ⟨x,rfl,h1⟩
def yR (K:Nu) (r:List V->Hp->VK->Prop) (p:List D->(D->Prop)->Prop):Prop :=
 ∀ (ds:List D) (vs:List V) (H Hf:Hp) (Q:VK) (R:D->Prop),aH Hf H->au K Hf ds vs->p ds R->(∀ d v H' ai,R d->Rep K ai d v->bw H Hf H' ai->Q v H')->r vs H Q
theorem uz {id:String} (hc:fL c.X (.builtin id) r) (hd:yR c.X.K r q) (hm:mg x=none) (hv:bootBuiltins x=some (.builtin id))
 (ha:pX c (e::es) ρ λds=>q ds R) (hg:sc.names.lookup x=some .globalImplicit) (hn:x≠"__name__") (hdb:(x == ("__debug__":Str))=false)
 (he:∀ env,starEach (e::es) env=(false,eval e env)::starEach es env) (hpl:∀ env,(backTo pos (starEach es env)).any (·.1)=false):aI c (.Call (.Name x p) (e::es) [] pos) ρ R:=λσ H Hf Q S qq =>
 bO (yl hc (by unfold Gl Ov; rw [c.esc]; exact hg) (by rw [c.emg]; exact hm) hv Gy hn hdb (he _) (hpl _))
  (ha σ H Hf _ S λds vs H1 aQ h1 rs g=>hd ds vs H1 aQ Q R g.b rs h1 λz v' H' ai hz rz g2=>qq z v' H' ai hz rz (g.trans g2))
theorem JY {id:String} (hc:fL c.X (.type id) r) (hd:yR c.X.K r q) (hm:mg x=none) (hv:bootBuiltins x=some (.type id))
 (ha:pX c (e::es) ρ λds=>q ds R) (hg:sc.names.lookup x=some .globalImplicit) (hn:x≠"__name__") (hdb:(x == ("__debug__":Str))=false)
 (he:∀ env,starEach (e::es) env=(false,eval e env)::starEach es env) (hpl:∀ env,(backTo pos (starEach es env)).any (·.1)=false):aI c (.Call (.Name x p) (e::es) [] pos) ρ R:=λσ H Hf Q S qq =>
 bO (mD hc (by unfold Gl Ov; rw [c.esc]; exact hg) (by rw [c.emg]; exact hm) hv Gy hn hdb (he _) (hpl _))
  (ha σ H Hf _ S λds vs H1 aQ h1 rs g=>hd ds vs H1 aQ Q R g.b rs h1 λz v' H' ai hz rz g2=>qq z v' H' ai hz rz (g.trans g2))
end
end EV
namespace EV
open PySem PySem.Spec PySem.Calls PyProof.Rows L2
theorem GH (x:bg P w H h a o):∃ u,h.get? a=some u:=by
 cases o with
 | lst xs=>obtain ⟨_,_,_,_,e⟩:=x; exact ⟨_,e⟩
 | tup xs=>obtain ⟨_,_,_,ob,e,_⟩:=x; exact ⟨_,e⟩
 | dK kvs=>obtain ⟨_,_,_,_,o,_,_,e,_⟩:=x; exact ⟨_,e⟩
 | dT kvs=>obtain ⟨_,_,_,_,o,_,_,e,_⟩:=x; exact ⟨_,e⟩
 | set S n=>obtain ⟨o,_,_,_,e,_⟩:=x; exact ⟨_,e⟩
 | ins C dx fs=>obtain ⟨_,_,_,e,_⟩:=x; exact ⟨_,e⟩
 | own y=>exact x
 | xd fs=>obtain ⟨_,⟨_,_,_,e,_⟩,_⟩:=x; exact ⟨_,e⟩
 | rng lo hi=>obtain ⟨_,_,_,e⟩:=x; exact ⟨_,e⟩
 | frz ob u=>obtain ⟨e,_⟩:=x; exact ⟨_,e⟩
 | tbl ps=>exact ⟨_,x⟩
 | met f y=>exact ⟨_,x⟩
 | ext φ =>exact x.2.1
section
variable {K:Nu}
end
open PySem.W Builtin Builtin.ObjectAttr Builtin.Getset_descriptor
structure Nj (K:Nu) (C:Addr):Prop where
 ga:Pw K (.ref C) "__getattribute__"=some (some (.builtin "BaseException.__getattribute__"))
 hk:Pw K (.ref C) "__getattr__"=some none
 ca:Pw K (.ref C) "__class__"=some (some (.builtin "object.__class__"))
 gt:Ti K (.builtin "object.__class__") "__get__"=some (some (.builtin "getset_descriptor.__get__"))
 tk:PySem.W.takesIn K (.builtin "object.__class__")=some true
 mo:PySem.W.mroIn K C (.type "object")=some true
 mb:PySem.W.mroIn K C (.type "BaseException")=some true
inductive EM (K:Nu):D->Value->Prop where
 | non:EM K .non (.type "NoneType")
 | bl {x:Bool}:EM K (.bl x) (.type "bool")
 | int {i:Int}:EM K (.int i) (.type "int")
 | str {x:Str}:EM K (.str x) (.type "str")
 | lst {ds:List EV.D}:EM K (.lst ds) (.type "list")
 | tup {ds:List EV.D}:EM K (.tup ds) (.type "tuple")
 | exc {C:Addr} (k:Nj K C):EM K (.exc C) (.ref C)
section
variable {K:Nu}
end
section
variable {X:Cx}
theorem jW (I:Inv X aa σ H s) (sb:aH Hf H):∀ (n:Nat) (d e:D) (v:V),lV n d e->Rep X.K Hf d v->Rep X.K Hf e v->d=e:=by
 intro n
 induction n with
 | zero =>
  intro d e v h r1 r2
  cases h with
  | sc h=>cases d <;> cases e <;> simp [jB] at h <;> simp_all [Rep]
  | ln=>rw [bV] at r2; subst r2; rw [bq] at r1; obtain ⟨_,_,e,_⟩:=r1; cases e
  | nl=>rw [bV] at r1; subst r1; rw [bq] at r2; obtain ⟨_,_,e,_⟩:=r2; cases e
  | tn=>rw [bV] at r2; subst r2; rw [aM] at r1; obtain ⟨_,_,e,_⟩:=r1; cases e
  | nt=>rw [bV] at r1; subst r1; rw [aM] at r2; obtain ⟨_,_,e,_⟩:=r2; cases e
 | succ n ih =>
  have els:∀ (ds es:List D) (xs:List V),(∀ (i:Nat) (d e:D),ds[i]?=some d->es[i]?=some e->lV n d e)->au X.K Hf ds xs->au X.K Hf es xs->ds=es:=λds es xs h q1 q2=>by
   apply RS
   intro i
   cases a:ds[i]? with
   | none =>
    have:ds.length<=i:=by simpa using a
    symm
    rw [List.getElem?_eq_none_iff,q2.length,<- q1.length]; exact this
   | some d =>
    obtain ⟨x,ex,rx⟩:=q1.get a
    obtain ⟨e,ee,re⟩:=q2.get' ex
    rw [ee,ih d e x (h i d e a ee) rx re]
  intro d e v h r1 r2
  cases h with
  | sc h=>cases d <;> cases e <;> simp [jB] at h <;> simp_all [Rep]
  | ln=>rw [bV] at r2; subst r2; rw [bq] at r1; obtain ⟨_,_,e,_⟩:=r1; cases e
  | nl=>rw [bV] at r1; subst r1; rw [bq] at r2; obtain ⟨_,_,e,_⟩:=r2; cases e
  | tn=>rw [bV] at r2; subst r2; rw [aM] at r1; obtain ⟨_,_,e,_⟩:=r1; cases e
  | nt=>rw [bV] at r1; subst r1; rw [aM] at r2; obtain ⟨_,_,e,_⟩:=r2; cases e
  | tup h =>
   rw [aM] at r1 r2
   obtain ⟨a,xs,rfl,p1,q1⟩:=r1
   obtain ⟨a',ys,e',p2,q2⟩:=r2
   cases e'
   have:=I.ja (az sb p1) (az sb p2)
   subst this
   rw [els _ _ _ h q1 q2]
  | lst h =>
   rw [bq] at r1 r2
   obtain ⟨a,xs,rfl,p1,q1⟩:=r1
   obtain ⟨a',ys,e',p2,q2⟩:=r2
   cases e'
   have:=I.pJ (sb.seq p1) (sb.seq p2)
   subst this
   rw [els _ _ _ h q1 q2]
theorem nV {α:Type} [BEq α] [LawfulBEq α] {a b:α} {i:Decidable (a=b)}:(a == b)=@decide (a=b) i:=by
 by_cases h:a=b
 ·subst h; simp
 ·simp [h]
theorem all_range {ds es:List D} (hn:ds.length=n) (hm:es.length=m) (h:n=m):((N6 n).all λj=>decide (ds[j]?=es[j]?))=decide (ds=es):=by
 rw [Q6,List.all_eq_true]
 simp only [R6,decide_eq_true_eq]
 constructor
 ·intro q
  apply RS
  intro i
  by_cases hi:i<n
  ·exact q i hi
  ·rw [O8 (by lia),O8 (by lia)]
 ·rintro rfl; intro _ _; rfl
theorem uA (h:jB x y=true) (r1:Rep X.K Hf x v) (r2:Rep X.K Hf y v') (e1:RelV v u) (e2:RelV v' u'):NV A s u u' (decide (x=y)):=by
 cases x <;> cases y <;> simp [jB] at h <;> simp only [aA,fO,bV,gu] at r1 r2 <;> subst r1 <;> subst r2
 case non.non=>cases e1; cases e2; simpa using NV.same _
 case non.bl b=>cases e1; cases e2; simpa using NV.none_bool (A:=A) (s:=s) b
 case non.int i=>cases e1; obtain ⟨t,rfl⟩:=e2; simpa using NV.none_int (A:=A) (s:=s) i t
 case non.str i=>cases e1; obtain ⟨t,rfl⟩:=e2; simpa using NV.none_str (A:=A) (s:=s) i t
 case bl.non b=>cases e1; cases e2; simpa using NV.bool_none (A:=A) (s:=s) b
 case bl.bl a b=>cases e1; cases e2; have q:=NV.bool_bool (A:=A) (s:=s) a b; rw [nV (i:=inferInstance)] at q; simpa using q
 case bl.str a b=>cases e1; obtain ⟨t,rfl⟩:=e2; simpa using NV.bool_str (A:=A) (s:=s) a b t
 case int.non a=>obtain ⟨t,rfl⟩:=e1; cases e2; simpa using NV.int_none (A:=A) (s:=s) a t
 case int.int a b=>obtain ⟨t,rfl⟩:=e1; obtain ⟨t',rfl⟩:=e2; have q:=NV.int_int (A:=A) (s:=s) a t b t'; rw [nV (i:=inferInstance)] at q; simpa using q
 case int.str a b=>obtain ⟨t,rfl⟩:=e1; obtain ⟨t',rfl⟩:=e2; simpa using NV.int_str (A:=A) (s:=s) a t b t'
 case str.non a=>obtain ⟨t,rfl⟩:=e1; cases e2; simpa using NV.str_none (A:=A) (s:=s) a t
 case str.bl a b=>obtain ⟨t,rfl⟩:=e1; cases e2; simpa using NV.str_bool (A:=A) (s:=s) a t b
 case str.int a b=>obtain ⟨t,rfl⟩:=e1; obtain ⟨t',rfl⟩:=e2; simpa using NV.str_int (A:=A) (s:=s) a t b t'
 case str.str a b=>obtain ⟨t,rfl⟩:=e1; obtain ⟨t',rfl⟩:=e2; have q:=NV.str_str (A:=A) (s:=s) a t b t'; rw [nV (i:=inferInstance)] at q; simpa using q
theorem in1_units (A:Around):A.in1.units=A.units+1:=rfl
theorem uB:decide (D.tup ds=D.tup es)=decide (ds=es):=by simp
theorem jX:decide (D.lst ds=D.lst es)=decide (ds=es):=by simp
theorem nW (I:Inv X aa σ H s) {A:Around} (h:∀ (i:Nat) (d e:D),ds[i]?=some d->es[i]?=some e->lV n d e)
 (ih:∀ (d e:D) (v v':V) (u u':Value) (A:Around),lV n d e->Rep X.K Hf d v->Rep X.K Hf e v'->RelV v u->RelV v' u'->A.units+n<cLine->NV A s u u' (decide (d=e)))
 (q1:au X.K Hf ds xs) (q2:au X.K Hf es ys) (r1:Vals xs us) (r2:Vals ys ws) (hu:A.in1.units+n<cLine) :
 ∀ j (h1:j<us.toArray.size) (h2:j<ws.toArray.size),NV A.in1 s us.toArray[j] ws.toArray[j] (decide (ds[j]?=es[j]?)):=λj h1 h2=>by
 have l1:=q1.length
 have l2:=q2.length
 have m1:=r1.length
 have m2:=r2.length
 simp only [NR] at h1 h2
 have hd:ds[j]?=some ds[j]:=NX (by lia)
 have he:es[j]?=some es[j]:=NX (by lia)
 obtain ⟨x,ex,rx⟩:=q1.get hd
 obtain ⟨y,ey,ry⟩:=q2.get he
 obtain ⟨u,eu,ru⟩:=r1.get ex
 obtain ⟨u',eu',ru'⟩:=r2.get ey
 have z1:us.toArray[j]=u:=by
  have:=NX h1
  rw [this] at eu
  simpa using eu
 have z2:ws.toArray[j]=u':=by
  have:=NX h2
  rw [this] at eu'
  simpa using eu'
 rw [z1,z2,hd,he]
 have q:=ih _ _ x y u u' A.in1 (h j _ _ hd he) rx ry ru ru' hu
 simpa using q
theorem mP (I:Inv X aa σ H s) (sb:aH Hf H):∀ (n:Nat) (d e:D) (v v':V) (u u':Value) (A:Around),lV n d e->Rep X.K Hf d v->Rep X.K Hf e v'->RelV v u->RelV v' u'->A.units+n<cLine->NV A s u u' (decide (d=e)):=by
 have non:∀ (n:Nat) (d e:D) (v v':V) (u u':Value) (A:Around),A.units<cLine->Rep X.K Hf d v->Rep X.K Hf e v'->RelV v u->RelV v' u' ->
  ((∃ ds,d=.lst ds/\e=.non)\/(∃ ds,d=.non/\e=.lst ds)\/(∃ ds,d=.tup ds/\e=.non)\/(∃ ds,d=.non/\e=.tup ds))->NV A s u u' (decide (d=e)):=by
  intro n d e v v' u u' A hu r1 r2 e1 e2 h
  rcases h with ⟨ds,rfl,rfl⟩ | ⟨ds,rfl,rfl⟩ | ⟨ds,rfl,rfl⟩ | ⟨ds,rfl,rfl⟩
  ·rw [bV] at r2; subst r2; rw [bq] at r1; obtain ⟨a,xs,rfl,p,_⟩:=r1; cases e1; cases e2
   obtain ⟨its,_,q,_⟩:=I.list (sb.seq p)
   simpa using NV.list_none (A:=A) q.isList hu
  ·rw [bV] at r1; subst r1; rw [bq] at r2; obtain ⟨a,xs,rfl,p,_⟩:=r2; cases e1; cases e2
   obtain ⟨its,_,q,_⟩:=I.list (sb.seq p)
   simpa using NV.none_list (A:=A) q.isList hu
  ·rw [bV] at r2; subst r2; rw [aM] at r1; obtain ⟨a,xs,rfl,p,_⟩:=r1; cases e1; cases e2
   obtain ⟨its,_,q,_⟩:=I.tuple (az sb p)
   simpa using NV.tuple_none (A:=A) (show s.heap.IsTuple a its.toArray from q) hu
  ·rw [bV] at r1; subst r1; rw [aM] at r2; obtain ⟨a,xs,rfl,p,_⟩:=r2; cases e1; cases e2
   obtain ⟨its,_,q,_⟩:=I.tuple (az sb p)
   simpa using NV.none_tuple (A:=A) (show s.heap.IsTuple a its.toArray from q) hu
 intro n
 induction n with
 | zero =>
  intro d e v v' u u' A h r1 r2 e1 e2 hu
  cases h with
  | sc h=>exact uA h r1 r2 e1 e2
  | ln=>exact non 0 _ _ _ _ _ _ A (by lia) r1 r2 e1 e2 (.inl ⟨_,rfl,rfl⟩)
  | nl=>exact non 0 _ _ _ _ _ _ A (by lia) r1 r2 e1 e2 (.inr (.inl ⟨_,rfl,rfl⟩))
  | tn=>exact non 0 _ _ _ _ _ _ A (by lia) r1 r2 e1 e2 (.inr (.inr (.inl ⟨_,rfl,rfl⟩)))
  | nt=>exact non 0 _ _ _ _ _ _ A (by lia) r1 r2 e1 e2 (.inr (.inr (.inr ⟨_,rfl,rfl⟩)))
 | succ n ih =>
  intro d e v v' u u' A h r1 r2 e1 e2 hu
  cases h with
  | sc h=>exact uA h r1 r2 e1 e2
  | ln=>exact non 0 _ _ _ _ _ _ A (by lia) r1 r2 e1 e2 (.inl ⟨_,rfl,rfl⟩)
  | nl=>exact non 0 _ _ _ _ _ _ A (by lia) r1 r2 e1 e2 (.inr (.inl ⟨_,rfl,rfl⟩))
  | tn=>exact non 0 _ _ _ _ _ _ A (by lia) r1 r2 e1 e2 (.inr (.inr (.inl ⟨_,rfl,rfl⟩)))
  | nt=>exact non 0 _ _ _ _ _ _ A (by lia) r1 r2 e1 e2 (.inr (.inr (.inr ⟨_,rfl,rfl⟩)))
  | @tup _ ds es h =>
   have hh:=lV.tup h
   have r1':=r1; have r2':=r2
   rw [aM] at r1 r2
   obtain ⟨a,xs,rfl,p1,q1⟩:=r1
   obtain ⟨b,ys,rfl,p2,q2⟩:=r2
   cases e1; cases e2
   by_cases hab:a=b
   ·subst hab
    have:=jW I sb _ _ _ _ hh r1' r2'
    rw [this]
    simpa using NV.same _
   ·obtain ⟨us,v1,t1,_⟩:=I.tuple (az sb p1)
    obtain ⟨ws,v2,t2,_⟩:=I.tuple (az sb p2)
    have key:=Qi.tuples (A:=A) (s:=s) (show s.heap.IsTuple a us.toArray from t1) (show s.heap.IsTuple b ws.toArray from t2) (by lia) (nW I h ih q1 q2 v1 v2 (by rw [in1_units]; lia))
    have hl1:us.toArray.size=ds.length:=by simp [<- v1.length,q1.length]
    have hl2:ws.toArray.size=es.length:=by simp [<- v2.length,q2.length]
    have e:((N6 (min us.toArray.size ws.toArray.size)).all (λj=>decide (ds[j]?=es[j]?)) && us.toArray.size == ws.toArray.size)=decide (D.tup ds=D.tup es):=by
     rw [uB,hl1,hl2]
     by_cases hl:ds.length=es.length
     ·rw [hl,Nat.min_self]
      simp only [beq_self_eq_true,Bool.and_true]
      exact all_range hl rfl rfl
     ·have:¬ ds=es:=λz=>hl (by rw [z])
      simp [hl,this]
    rw [e] at key
    exact .of_refs hab key
  | @lst _ ds es h =>
   have hh:=lV.lst h
   have r1':=r1; have r2':=r2
   rw [bq] at r1 r2
   obtain ⟨a,xs,rfl,p1,q1⟩:=r1
   obtain ⟨b,ys,rfl,p2,q2⟩:=r2
   cases e1; cases e2
   by_cases hab:a=b
   ·subst hab
    have:=jW I sb _ _ _ _ hh r1' r2'
    rw [this]
    simpa using NV.same _
   ·obtain ⟨us,v1,t1,_⟩:=I.list (sb.seq p1)
    obtain ⟨ws,v2,t2,_⟩:=I.list (sb.seq p2)
    have hl1:us.toArray.size=ds.length:=by simp [<- v1.length,q1.length]
    have hl2:ws.toArray.size=es.length:=by simp [<- v2.length,q2.length]
    by_cases hl:ds.length=es.length
    ·have key:=Qi.lists (A:=A) (s:=s) t1.isList t2.isList (by rw [hl1,hl2,hl]) (by lia) (nW I h ih q1 q2 v1 v2 (by rw [in1_units]; lia))
     rw [hl1,all_range rfl hl.symm rfl,<- jX] at key
     exact .of_refs hab key
    ·have key:=Qi.lists_lengths (A:=A) (s:=s) t1.isList t2.isList (by rw [hl1,hl2]; simpa using hl) (by lia)
     have e:decide (D.lst ds=D.lst es)=false:=by
      rw [jX]; exact decide_eq_false λz=>hl (by rw [z])
     rw [e]
     exact .of_refs hab key
theorem pZ (I:Inv X aa σ H s) (sb:aH Hf H) (hu:A.units+50<cLine) (hk:(d=.tup ds/\e=.tup es)\/(d=.lst ds/\e=.lst es)) (h:wo ds es)
 (r1:Rep X.K Hf d v) (r2:Rep X.K Hf e v') (e1:RelV v u) (e2:RelV v' u'):Qi A s u u' (decide (d=e))/\Sb A s u u' (!decide (d=e)):=by
 have ih:=mP I sb 40
 rcases hk with ⟨rfl,rfl⟩ | ⟨rfl,rfl⟩
 ·rw [aM] at r1 r2
  obtain ⟨a,xs,rfl,p1,q1⟩:=r1
  obtain ⟨b,ys,rfl,p2,q2⟩:=r2
  cases e1; cases e2
  obtain ⟨us,v1,t1,_⟩:=I.tuple (az sb p1)
  obtain ⟨ws,v2,t2,_⟩:=I.tuple (az sb p2)
  have els:=nW (A:=A) I h ih q1 q2 v1 v2 (by rw [in1_units]; lia)
  have key:=Qi.tuples (A:=A) (s:=s) (show s.heap.IsTuple a us.toArray from t1) (show s.heap.IsTuple b ws.toArray from t2) (by lia) els
  have key2:=Sb.tuples (A:=A) (s:=s) (show s.heap.IsTuple a us.toArray from t1) (show s.heap.IsTuple b ws.toArray from t2) (by lia) els
  have hl1:us.toArray.size=ds.length:=by simp [<- v1.length,q1.length]
  have hl2:ws.toArray.size=es.length:=by simp [<- v2.length,q2.length]
  have e:((N6 (min us.toArray.size ws.toArray.size)).all (λj=>decide (ds[j]?=es[j]?)) && us.toArray.size == ws.toArray.size)=decide (D.tup ds=D.tup es):=by
   rw [uB,hl1,hl2]
   by_cases hl:ds.length=es.length
   ·rw [hl,Nat.min_self]
    simp only [beq_self_eq_true,Bool.and_true]
    exact all_range hl rfl rfl
   ·have:¬ ds=es:=λz=>hl (by rw [z])
    simp [hl,this]
  rw [e] at key key2
  exact ⟨key,key2⟩
 ·rw [bq] at r1 r2
  obtain ⟨a,xs,rfl,p1,q1⟩:=r1
  obtain ⟨b,ys,rfl,p2,q2⟩:=r2
  cases e1; cases e2
  obtain ⟨us,v1,t1,_⟩:=I.list (sb.seq p1)
  obtain ⟨ws,v2,t2,_⟩:=I.list (sb.seq p2)
  have hl1:us.toArray.size=ds.length:=by simp [<- v1.length,q1.length]
  have hl2:ws.toArray.size=es.length:=by simp [<- v2.length,q2.length]
  by_cases hl:ds.length=es.length
  ·have els:=nW (A:=A) I h ih q1 q2 v1 v2 (by rw [in1_units]; lia)
   have key:=Qi.lists (A:=A) (s:=s) t1.isList t2.isList (by rw [hl1,hl2,hl]) (by lia) els
   have key2:=Sb.lists (A:=A) (s:=s) t1.isList t2.isList (by rw [hl1,hl2,hl]) (by lia) els
   rw [hl1,all_range rfl hl.symm rfl,<- jX] at key key2
   exact ⟨key,key2⟩
  ·have key:=Qi.lists_lengths (A:=A) (s:=s) t1.isList t2.isList (by rw [hl1,hl2]; simpa using hl) (by lia)
   have key2:=Sb.lists_lengths (A:=A) (s:=s) t1.isList t2.isList (by rw [hl1,hl2]; simpa using hl) (by lia)
   have e:decide (D.lst ds=D.lst es)=false:=by
    rw [jX]; exact decide_eq_false λz=>hl (by rw [z])
   rw [e]
   exact ⟨key,key2⟩
end
section
variable {K:Nu} {c:Ctx P w K mg base k N sc bk}
noncomputable def CF (K:Nu) (neg:Bool):R2:=λv u H Q=>∃ x y Hf,aH Hf H/\Rep K Hf x v/\Rep K Hf y u/\JG x y/\Q (.bl (if neg then !decide (x=y) else decide (x=y))) H
theorem yS:fF c.X (compareOp .Eq) (CF c.X.K false):=λaa s σ H v u v' u' Q I rv ru ⟨x,y,Hf,sb,rx,ry,ok,q⟩=>by
 rcases ok with h | ⟨ds,es,hk,hi⟩
 ·obtain ⟨z1,z2⟩:=uo h rx ry
  exact Jq aa s σ H v u v' u' Q I rv ru ⟨z1,by rw [z2]; exact q⟩
 ·exact (pZ I sb (by have:=c.room.un; lia) hk hi rx ry rv ru).1 _ _ _ _ ⟨.bl (decide (x=y)),H,I,rfl,q⟩
theorem GI:fF c.X (compareOp .NotEq) (CF c.X.K true):=λaa s σ H v u v' u' Q I rv ru ⟨x,y,Hf,sb,rx,ry,ok,q⟩=>by
 rcases ok with h | ⟨ds,es,hk,hi⟩
 ·obtain ⟨z1,z2⟩:=uo h rx ry
  exact Jr aa s σ H v u v' u' Q I rv ru ⟨z1,by rw [z2]; exact q⟩
 ·exact (pZ I sb (by have:=c.room.un; lia) hk hi rx ry rv ru).2 _ _ _ _ ⟨.bl (!decide (x=y)),H,I,rfl,q⟩
theorem yT:yM K (CF K false) λx y R=>BS x y R:=λx y v u H Hf Q R s rx ry ⟨h1,h2⟩ q=>⟨x,y,Hf,s,rx,ry,h1,q _ h2⟩
theorem GJ:yM K (CF K true) λx y R=>BS x y λb=>R (!b):=λx y v u H Hf Q R s rx ry ⟨h1,h2⟩ q=>⟨x,y,Hf,s,rx,ry,h1,q _ h2⟩
theorem Mj (h:aI c a ρ λx=>aI c b ρ λy=>BS x y T):jA c (.Compare a [.Eq] [b] pos) ρ T:=um yS yT h (kj b)
theorem Ml (h:aI c a ρ λx=>aI c b ρ λy=>BS x y λb=>T (!b)):jA c (.Compare a [.NotEq] [b] pos) ρ T:=um GI GJ h (kj b)
theorem Mm (h:aI c a ρ λx=>aI c b ρ λy=>BS x y λb=>R (.bl b)):aI c (.Compare a [.Eq] [b] pos) ρ R:=JO yS yT h (kj b)
end
section
variable {P:Program} {w:World} {K:Nu} {mg:Str->Option Value} {base:Heap} {k:Nat} {N:List Str} {sc:Scope} {bk:Bool} {c:Ctx P w K mg base k N sc bk} {ρ:List Sl} {pos:Pos} {a b e:Expr} {es:List Expr} {R:D->Prop} {T:Bool->Prop}
noncomputable def D.row:D->Option (List D)
 | .lst ds=>some ds
 | .tup ds=>some ds
 | _=>none
theorem iB (e:d.row=some ds) (h:Rep K H d v):∃ p xs,v=.ref p/\au K H ds xs/\((d=.lst ds/\fH K H p xs)\/(d=.tup ds/\c8 K H p xs)):=by
 cases d with
 | lst _=>cases e; rw [bq] at h; obtain ⟨p,xs,rfl,h1,h2⟩:=h; exact ⟨p,xs,rfl,h2,.inl ⟨rfl,h1⟩⟩
 | tup _=>cases e; rw [aM] at h; obtain ⟨p,xs,rfl,h1,h2⟩:=h; exact ⟨p,xs,rfl,h2,.inr ⟨rfl,h1⟩⟩
 | _=>cases e
def CG (x y:D) (R:D->Prop):Prop:=∃ ds i d,x.row=some ds/\y=.int i/\jU ds i=some d/\R d
theorem p5 (h:jU ds i=some d) (hR:R d):CG (.lst ds) (.int i) R:=⟨ds,i,d,rfl,rfl,h,hR⟩
theorem mQ (h:jU ds i=some d) (hR:R d):CG (.tup ds) (.int i) R:=⟨ds,i,d,rfl,rfl,h,hR⟩
theorem yU (h:au K H ds xs) (e:jU ds i=some d):∃ x,jU xs i=some x/\Rep K H d x:=by
 unfold jU at e |-
 rw [<- h.length]
 obtain ⟨j,e1,e2⟩:=Option.bind_eq_some_iff.mp e
 obtain ⟨x,e3,rx⟩:=h.get e2
 exact ⟨x,by rw [e1]; exact e3,rx⟩
theorem JZ (h:aI c a ρ λx=>aI c b ρ λy=>CG x y R) (hs:jV b:=by intro _ _; walk_at "u"):aI c (.Subscript a b pos) ρ R:=λσ H Hf Q S q =>
 bO (Jy (ED.or Cj Gj) cY cY hs) (h σ H Hf _ S λx v H1 aQ h1 r1 g1=>h1 σ H1 aQ _ (S.cC g1) λy u H2 cO ⟨ds,i,d,e1,e2,e3,hR⟩ r2 g2=>by
  subst e2
  rw [aA] at r2; subst r2
  obtain ⟨p,xs,rfl,hr,hk⟩:=iB e1 (Rep.mono g2.f x r1)
  obtain ⟨z,ez,rz⟩:=yU hr e3
  have fin:=q d z H2 cO hR rz (g1.trans g2)
  rcases hk with ⟨_,hk⟩ | ⟨_,hk⟩
  ·exact .inl ⟨p,xs,i,z,rfl,rfl,g2.b.seq hk,ez,fin⟩
  ·exact .inr ⟨p,xs,i,z,rfl,rfl,az g2.b hk,ez,fin⟩)
theorem uC (sb:aH Hf H) {d:D} (h:(d=.lst ds/\fH K Hf p xs)\/(d=.tup ds/\c8 K Hf p xs)):fH K H p xs\/c8 K H p xs:=h.elim (λz=>.inl (sb.seq z.2)) λz=>.inr (az sb z.2)
theorem yV:yR K (λxs H Q=>∃ p ys,xs=[.ref p]/\(fH K H p ys\/c8 K H p ys)/\Q (.int ys.length) H) (λds R=>∃ x,ds=[x]/\∃ ys,x.row=some ys/\R (.int ys.length)):=by
 rintro ds vs H Hf Q R s rs ⟨x,rfl,ys,e,hR⟩ q
 obtain ⟨v,rfl,rv⟩:=pY rs
 obtain ⟨p,xs,rfl,hr,hk⟩:=iB e rv
 exact ⟨p,xs,rfl,uC s hk,q _ _ H Hf hR (by rw [hr.length]; exact aA.mpr rfl) (.refl s)⟩
theorem e_len (hm:mg "len"=none) (h:aI c e ρ λx=>∃ ys,x.row=some ys/\R (.int ys.length)) (hg:sc.names.lookup (Nr "len")=some .globalImplicit:=by walk_at "u")
 (he:∀ env,starEach [e] env=(false,eval e env)::starEach [] env:=by intro _; walk_at "u"):aI c (.Call (.Name "len" p) [e] [] pos) ρ R :=
 uz nP yV hm PySem.boot_len (bz (h.imp λd hd=>kF ⟨d,rfl,hd⟩) he) hg (by decide) (by decide) he (by intro _; walk_at "u")
theorem GK {R:Sl->Prop} (hm:mg "list"=none) (h:aI c e ρ λx=>∃ ys,x.row=some ys/\R (.ow ys)) (hg:sc.names.lookup (Nr "list")=some .globalImplicit:=by walk_at "u")
 (he:∀ env,starEach [e] env=(false,eval e env)::starEach [] env:=by intro _; walk_at "u"):cW c (.Call (.Name "list" p) [e] [] pos) ρ R :=
 JX nQ (q:=λds R=>∃ x ys,ds=[x]/\x.row=some ys/\R (.ow ys)) (λds vs H Hf Q R s rs ⟨x,ys,e1,e2,hR⟩ q=>by
  subst e1
  obtain ⟨v,rfl,rv⟩:=pY rs
  obtain ⟨p,xs,rfl,hr,hk⟩:=iB e2 rv
  exact ⟨p,xs,rfl,uC s hk,λl hl=>by
   have g2:=bw.dZ s hl (o:=.lst xs)
   exact q _ _ _ _ hR ⟨l,xs,rfl,hl,af,s.free hl,hr⟩ g2⟩) hm PyProof.Rows.boot_list (bz (h.imp λd ⟨ys,h1,h2⟩=>kF ⟨d,ys,rfl,h1,h2⟩) he) hg (by decide) (by decide) he (by intro _; walk_at "u")
theorem jY (hm:mg "tuple"=none) (h:aI c e ρ λx=>∃ ys,x.row=some ys/\R (.tup ys)) (hg:sc.names.lookup (Nr "tuple")=some .globalImplicit:=by walk_at "u")
 (he:∀ env,starEach [e] env=(false,eval e env)::starEach [] env:=by intro _; walk_at "u"):aI c (.Call (.Name "tuple" p) [e] [] pos) ρ R :=
 JY lU (q:=λds R=>∃ x ys,ds=[x]/\x.row=some ys/\R (.tup ys)) (λds vs H Hf Q R s rs ⟨x,ys,e1,e2,hR⟩ q=>by
  subst e1
  obtain ⟨v,rfl,rv⟩:=pY rs
  obtain ⟨p,xs,rfl,hr,hk⟩:=iB e2 rv
  rcases hk with ⟨_,hk⟩ | ⟨_,hk⟩
  ·exact ⟨p,xs,rfl,.inl ⟨s.seq hk,λl hl=>by
    have g2:=bw.new s hl (o:=.tup xs)
    exact q _ _ _ _ hR (aM.mpr ⟨l,xs,rfl,.inl (.inl af),hr.mono g2.f⟩) g2⟩⟩
  ·exact ⟨p,xs,rfl,.inr ⟨az s hk,q _ _ H Hf hR (aM.mpr ⟨p,xs,rfl,hk,hr⟩) (.refl s)⟩⟩) hm PyProof.Rows.boot_tuple (bz (h.imp λd ⟨ys,h1,h2⟩=>kF ⟨d,ys,rfl,h1,h2⟩) he) hg (by decide) (by decide) he (by intro _; walk_at "u")
noncomputable def EN (K:Nu):R2:=λx y H Q=>∃ l b xs zs,x=.ref l/\y=.ref b/\fH K H l xs/\fH K H b zs/\xs.length+zs.length<=sizeLine/\∀ p,H p=none->Q (.ref p) (upd H p (.lst (xs++zs)))
theorem CH:fF X (binaryOp .Add) (EN X.K):=by
 intro aa s σ H x y v u Q I rx ry h
 obtain ⟨l,b,xs,zs,rfl,rfl,hH,hB,hz,q⟩:=h
 cases rx
 cases ry
 obtain ⟨its,r,hl,z⟩:=I.list hH
 obtain ⟨its2,r2,hl2,z2⟩:=I.list hB
 have e1:=r.length
 have e2:=r2.length
 obtain ⟨⟨cls,dd,data,sl⟩,n,p1,p2,p3,p4⟩:=hl
 obtain ⟨⟨cls2,dd2,data2,sl2⟩,n',q1,q2,q3,q4⟩:=hl2
 simp only at p2 p3 p4 q2 q3 q4
 subst p2 p3 p4 q2 q3 q4
 have ea:its.toArray++its2.toArray=(its++its2).toArray:=by simp
 refine Sa ⟨_,p1,rfl⟩ ⟨_,q1,rfl⟩ noFill_list_add seq_list_add PySem.F.slot_list_add PySem.F.entry_list_add (PySem.F.args_list_add_2 _ _) (list_addW l b its.toArray its2.toArray n n' none none sl sl2 (by simp; lia)) ⟨p1,q1,?_⟩
 rw [ea]
 exact ⟨.ref _,_,I.Cm (t':=s.toks) (r.append r2) (by rw [N5]; lia),rfl,q _ I.fresh⟩
noncomputable def yW (K:Nu):R2:=λx y H Q=>∃ a b xs ys,x=.ref a/\y=.ref b/\c8 K H a xs/\c8 K H b ys/\xs.length+ys.length<=sizeLine /\
 (xs=[]->Q (.ref b) H)/\(ys=[]->Q (.ref a) H)/\∀ p,H p=none->Q (.ref p) (upd H p (.tup (xs++ys)))
theorem yX:fF X (binaryOp .Add) (yW X.K):=by
 intro aa s σ H x y v u Q I rx ry h
 obtain ⟨t,b,xs,ys,rfl,rfl,hH,hB,hz,c1,c2,q⟩:=h
 cases rx
 cases ry
 obtain ⟨vs,r,ht,z⟩:=I.tuple hH
 obtain ⟨ws,r2,hb,z2⟩:=I.tuple hB
 obtain ⟨⟨cls,dd,data,sl⟩,ho,hc,n,hd⟩:=id ht
 obtain ⟨⟨cls2,dd2,data2,sl2⟩,ho2,hc2,n2,hd2⟩:=id hb
 simp only at hc hd hc2 hd2
 subst hc hd hc2 hd2
 have e:vs.toArray++ws.toArray=(vs++ws).toArray:=by simp
 have e1:=r.length
 have e2:=r2.length
 by_cases hv:vs=[]
 ·exact Sa ⟨_,ho,rfl⟩ ⟨_,ho2,rfl⟩ Tv seq_tuple_add SG SD (Sx _ _)
   (tuple_addW0 t b vs.toArray ws.toArray n n2 dd dd2 sl sl2 (by simp [hv])) ⟨ho,ho2,⟨.ref b,H,I,rfl,c1 (by rw [Vals.uc r] at hv; exact hv)⟩⟩
 ·by_cases hw:ws=[]
  ·exact Sa ⟨_,ho,rfl⟩ ⟨_,ho2,rfl⟩ Tv seq_tuple_add SG SD (Sx _ _)
    (tuple_addW1 t b vs.toArray ws.toArray n n2 dd dd2 sl sl2 (by simpa using hv) (by simp [hw])) ⟨ho,ho2,⟨.ref t,H,I,rfl,c2 (by rw [Vals.uc r2] at hw; exact hw)⟩⟩
  ·refine Sa ⟨_,ho,rfl⟩ ⟨_,ho2,rfl⟩ Tv seq_tuple_add SG SD (Sx _ _)
    (tuple_addW2 t b vs.toArray ws.toArray n n2 dd dd2 sl sl2 (by simpa using hv) (by simpa using hw) (by rw [NR,NR]; lia)) ⟨ho,ho2,?_⟩
   rw [e]
   refine ⟨.ref s.heap.objs.size,_,I.laid (t':=s.toks) (o:=.tup (xs++ys)) (λb ob q=>NC _ q) (Ny _) ?_,rfl,q _ (I.hok.fresh (Ny _))⟩
   exact ⟨by rw [N5]; exact hz,_,r.append r2,IsTup.new _ _⟩
inductive lW:D->D->(Sl->Prop)->Prop where
 | int {i j:Int} {R:Sl->Prop} (h:R (.va (.int (i+j)))):lW (.int i) (.int j) R
 | lst {ds es:List D} {R:Sl->Prop} (h:Sd (ds.length+es.length<=sizeLine) (R (.ow (ds++es)))):lW (.lst ds) (.lst es) R
 | tup {ds es:List D} {R:Sl->Prop} (h:Sd (ds.length+es.length<=sizeLine) (R (.va (.tup (ds++es))))):lW (.tup ds) (.tup es) R
 | str {x y:Str} {R:Sl->Prop} (h:Sd (x.length+y.length<=sizeLine) (R (.va (.str (x++y))))):lW (.str x) (.str y) R
theorem jC (h:au K H ds []):ds=[]:=by
 have:=h.length; cases ds with
 | nil=>rfl
 | cons _ _=>simp at this
theorem CI:Lk K (λx y H Q=>(((v9 λi j=>V.int (i+j)) x y H Q\/EN K x y H Q)\/yW K x y H Q)\/∃ i j,x=.str i/\y=.str j/\i.length+j.length<=sizeLine/\Q (.str (i++j)) H) lW:=by
 rintro x y v u H Hf Q R s rx ry h q
 cases h with
 | @int i j _ h =>
  rw [aA] at rx ry
  exact .inl (.inl (.inl ⟨i,j,rx,ry,q (.va (.int (i+j))) _ H Hf h (show Rep K Hf (.int (i+j)) _ from aA.mpr rfl) (.refl s)⟩))
 | @lst ds es _ h =>
  rw [bq] at rx ry
  obtain ⟨a,xs,rfl,h1,h2⟩:=rx
  obtain ⟨b,ys,rfl,h3,h4⟩:=ry
  refine .inl (.inl (.inr ⟨a,b,xs,ys,rfl,rfl,s.seq h1,s.seq h3,by rw [<- h2.length,<- h4.length]; exact h.s,λp hp=>?_⟩))
  exact q (.ow (ds++es)) _ _ _ h.r ⟨p,xs++ys,rfl,hp,af,s.free hp,h2.append h4⟩ (bw.dZ s hp)
 | @tup ds es _ h =>
  rw [aM] at rx ry
  obtain ⟨a,xs,rfl,h1,h2⟩:=rx
  obtain ⟨b,ys,rfl,h3,h4⟩:=ry
  refine .inl (.inr ⟨a,b,xs,ys,rfl,rfl,az s h1,az s h3,by rw [<- h2.length,<- h4.length]; exact h.s,λe=>?_,λe=>?_,λp hp=>?_⟩)
  ·subst e
   have:=jC h2
   subst this
   exact q (.va (.tup ([]++es))) _ H Hf h.r (show Rep K Hf (.tup ([]++es)) _ from aM.mpr ⟨b,ys,rfl,h3,h4⟩) (.refl s)
  ·subst e
   have:=jC h4
   subst this
   exact q (.va (.tup (ds++[]))) _ H Hf h.r (show Rep K Hf (.tup (ds++[])) _ from aM.mpr ⟨a,xs,rfl,h1,by rw [OD]; exact h2⟩) (.refl s)
  ·have g:=bw.new s hp (o:=.tup (xs++ys))
   exact q (.va (.tup (ds++es))) _ _ _ h.r (show Rep K _ (.tup (ds++es)) _ from aM.mpr ⟨p,xs++ys,rfl,.inl (.inl af),(h2.append h4).mono g.f⟩) g
 | @str x y _ h =>
  rw [gu] at rx ry
  exact .inr ⟨x,y,rx,ry,h.s,q (.va (.str (x++y))) _ H Hf h.r (show Rep K Hf (.str (x++y)) _ from gu.mpr rfl) (.refl s)⟩
theorem EO {R:Sl->Prop} (h:aI c a ρ λx=>aI c b ρ λy=>lW x y R):cW c (.BinOp a .Add b pos) ρ R :=
 nU (fF.or (fF.or (fF.or F3 CH) yX) rZ) CI h
noncomputable def cutD {α:Type} (xs:List α) (lo hi:Option Int):List α:=(xs.drop (HT.bZ xs.length 0 lo)).take (HT.bZ xs.length xs.length hi - HT.bZ xs.length 0 lo)
theorem p6 (h:au K H ds xs) (lo hi):au K H (cutD ds lo hi) (nN xs lo hi):=by
 unfold cutD nN
 rw [h.length]
 exact (h.drop _).take _
noncomputable def bP (X:Cx) (e:Option Expr):TO:=λσ H Q=>∀ aa s,Inv X aa σ H s->wpAny (model X.prog X.w) X.A (evalPart e X.env) (λu s'=>∃ o H',Inv X aa σ H' s'/\IsPart u o/\Q o H') X.xe s
theorem ER {X:Cx} {e:Option Expr}:PO X e (bP X e):=λaa s σ H Q I h=>h aa s I
def wz (c:Ctx P w K mg base k N sc bk) (e:Option Expr) (ρ:List Sl) (R:Option Int->Prop):Prop :=
 ∀ (σ:L2.St) (H Hf:Hp) (Q:Option Int->Hp->Prop),bx c σ H Hf ρ->(∀ o H' ai,R o->bw H Hf H' ai->Q o H')->bP c.X e σ H Q
theorem GL {R:Option Int->Prop} (h:R none):wz c none ρ R:=λσ H Hf Q S q aa s I=>Cf aa s σ H Q I (q none H Hf h (.refl S.sb))
theorem GN {R:Option Int->Prop} (h:aI c e ρ (I1 λi=>R (some i))):wz c (some e) ρ R:=λσ H Hf Q S q aa s I =>
 Cg cY aa s σ H Q I (h σ H Hf _ S λd v H' ai ⟨i,e,hR⟩ r g=>by subst e; rw [aA] at r; exact ⟨i,r,q _ H' ai hR g⟩)
noncomputable def J0 (K:Nu):V->Option Int->Option Int->Hp->VK->Prop:=λx lo hi H Q=>∃ a xs,x=.ref a/\c8 K H a xs /\
 (HT.bZ xs.length 0 lo=0/\HT.bZ xs.length xs.length hi=xs.length)/\Q (.ref a) H
theorem gD {lo hi:Option Int} (ht:IsTup s.heap t items) (hs:s.heap.IsSliceOf sl vl vu .none) (pl:IsPart vl lo) (pu:IsPart vu hi)
 (hw:HT.bZ items.size 0 lo=0/\HT.bZ items.size items.size hi=items.size) (h:Q (.ref t) s):wpAny (model prog w) A (getItem (.ref t) (.ref sl)) Q E s:=by
 obtain ⟨os,hos,hcs,hds⟩:=id hs
 have hTs:s.TypeIs (.ref sl) "slice":=⟨os,hos,hcs⟩
 unfold getItem
 try with_reducible refine ON ?_
 first | refine Nt (Nv ?_) | skip
 refine Nt (Te ht.typeIs (by decide) ?_)
 refine Nt (Pp (name:=Nr "__getitem__") ht.typeIs Qj
  (O4 Qj ht.typeIs entry_tuple_getitem ?_ (args_tuple_getitem _ _)))
 show wpAny _ _ (Builtin.Tuple.tupleItemsOf (.ref t) >>= _) _ _ s
 refine Nt (tupleItemsOf_ ht ?_)
 refine Nt (Pk hTs ?_)
 rw [if_pos (by decide)]
 refine Nt (HT.eS hs pl pu ?_)
 have hyes:((((HT.bZ items.size 0 lo:Nat):Int) == 0 && (1:Int) == 1 && (HT.bZ items.size items.size hi - HT.bZ items.size 0 lo) == items.size)=true):=by
  rw [hw.1,hw.2]; simp
 show wpAny _ _ (if (((HT.bZ items.size 0 lo:Nat):Int) == 0 && (1:Int) == 1 && (HT.bZ items.size items.size hi - HT.bZ items.size 0 lo) == items.size)=true then _ else _) _ _ s
 rw [if_pos hyes]
 obtain ⟨⟨cls,dd,data,sl'⟩,ho,hc,n,hd⟩:=id ht
 simp only at hc hd
 subst hc hd
 unfold Builtin.Tuple.tupleIsExact
 wp_walk using Rv ho
 exact ⟨_,rfl,Nv h⟩
theorem yY:BR X (J0 X.K):=by
 intro aa s σ H x v vl vu lo hi sl Q I rx hs pl pu h
 obtain ⟨a,xs,rfl,hx,hw,q⟩:=h
 cases rx
 obtain ⟨its,r,ht,hz⟩:=I.tuple hx
 have hlen:its.toArray.size=xs.length:=by rw [NR]; exact r.length.symm
 refine ⟨"tuple",_,Qj.lookup,ht.typeIs,?_⟩
 exact gD ht hs pl pu (by rw [hlen]; exact hw) ⟨.ref a,H,I,rfl,q⟩
inductive CJ:D->Option Int->Option Int->(Sl->Prop)->Prop where
 | lst {ds:List D} {lo hi:Option Int} {R:Sl->Prop} (h:R (.ow (cutD ds lo hi))):CJ (.lst ds) lo hi R
 | tup {ds:List D} {lo hi:Option Int} {R:Sl->Prop} (h:R (.va (.tup (cutD ds lo hi)))):CJ (.tup ds) lo hi R
theorem wA {lo hi:Option Int} (h:HT.bZ xs.length 0 lo=0/\HT.bZ xs.length xs.length hi=xs.length):cutD xs lo hi=xs:=by
 unfold cutD; rw [h.1,h.2]; simp
theorem uD {lo hi:Option Expr} {R:Sl->Prop} (h:aI c e ρ λx=>wz c lo ρ λl=>wz c hi ρ λu=>CJ x l u R):cW c (.Subscript e (.Slice lo hi none p2) pos) ρ R:=λσ H Hf Q S q =>
 bO (yr (BR.or (BR.or Ck Gi) yY) cY ER ER) (h σ H Hf _ S λx v H1 aQ h1 r1 g1=>h1 σ H1 aQ _ (S.cC g1) λl H2 cO h2 g2=>h2 σ H2 cO _ (S.cC (g1.trans g2)) λu H3 Hf3 h3 g3=>by
  have r3:=Rep.mono g3.f x (Rep.mono g2.f x r1)
  have g:=(g1.trans g2).trans g3
  cases h3 with
  | lst h =>
   rw [bq] at r3
   obtain ⟨a,xs,rfl,k1,k2⟩:=r3
   refine .inl (.inl ⟨a,xs,rfl,g3.b.seq k1,λp hp=>?_⟩)
   exact q _ _ _ _ h ⟨p,_,rfl,g.s.free hp,af,g3.b.free hp,p6 k2 l u⟩ (g.trans (bw.dZ g3.b hp))
  | tup h =>
   rw [aM] at r3
   obtain ⟨a,xs,rfl,k1,k2⟩:=r3
   by_cases hw:HT.bZ xs.length 0 l=0/\HT.bZ xs.length xs.length u=xs.length
   ·refine .inr ⟨a,xs,rfl,az g3.b k1,hw,?_⟩
    refine q _ _ _ _ h (show Rep c.X.K Hf3 _ _ from aM.mpr ⟨a,xs,rfl,k1,?_⟩) g
    rw [wA (by rw [k2.length]; exact hw)]; exact k2
   ·refine .inl (.inr ⟨a,xs,rfl,az g3.b k1,hw,λp hp=>?_⟩)
    have g4:=bw.new g3.b hp (o:=.tup (nN xs l u))
    exact q _ _ _ _ h (show Rep c.X.K _ _ _ from aM.mpr ⟨p,_,rfl,.inl (.inl af),(p6 k2 l u).mono g4.f⟩) (g.trans g4))
theorem yZ (a:bw H₀ eO H1 aQ) (b:bw H₀ aQ H Hf):bw H₀ eO H Hf :=
 ⟨b.s,a.f.trans b.f,b.b,λc h1 h2 h3=>b.n c (a.n c h1 h2 h3) h2 h3⟩
theorem eG.re (a:bw H₀ eO H1 aQ) (S:eG K H₀ aQ σ H Hf ρ):eG K H₀ eO σ H Hf ρ:=⟨yZ a S.bas,S.len,S.at_,S.sep⟩
theorem eG.anew (S:eG K H₀ eO σ H Hf ρ):eG K H₀ Hf σ H Hf ρ:=⟨⟨S.bas.s,.refl _,S.bas.b,λ_ h _ _=>h⟩,S.len,S.at_,S.sep⟩
noncomputable def Ctx.at_ (c:Ctx P w K mg base k N sc bk) {H1 aQ:Hp} (a:bw c.B c.Hf H1 aQ):Ctx P w K mg base k N sc bk :=
 { X:=c.X,eP:=c.eP,ew:=c.ew,eK:=c.eK,emg:=c.emg,eb:=c.eb,eN:=c.eN,esc:=c.esc,calm:=c.calm,top:=c.top,cb:=c.cb,fn:=c.fn,room:=c.room,nd:=c.nd,vis:=c.vis,B:=c.B,Hf:=aQ,RX:=c.RX,RM:=c.RM,
   exc:=λC x aa σ H ai ρ s H' s' I S h X sm=>c.exc C x aa σ H ai ρ s H' s' I (S.re a) h X sm,mde:=λC x aa σ H ai ρ s h' us I S h hx=>c.mde C x aa σ H ai ρ s h' us I (S.re a) h hx }
theorem yI.at_ {nx:List Sl->Prop} {p:Pt} {D:Ends} {H1 aQ:Hp} (a:bw c.B c.Hf H1 aQ) (o:yI c nx p D):yI (c.at_ a) nx p D :=
 ⟨λσ H Hf ρ S q=>o.nx σ H Hf ρ (eG.re a S) q,λr v H Hf g rv q=>o.rt r v H Hf (yZ a g) rv q,λσ H Hf ρ S q=>o.bk σ H Hf ρ (eG.re a S) q,λσ H Hf ρ S q=>o.ct σ H Hf ρ (eG.re a S) q⟩
noncomputable def bI (X:Cx) (tg iter:Expr):TI:=λσ H R=>∀ aa s,Inv X aa σ H s->wpAny (model X.prog X.w) X.A (eval iter X.env) (λv s1=>wpAny (model X.prog X.w) X.A (pyIter v) (LO X aa σ tg R) X.xe s1) X.xe s
theorem Nk {X:Cx} {tg iter:Expr}:PI X tg iter (bI X tg iter):=λaa s σ H R I h=>h aa s I
structure jd (K:Nu) (J:It) (ds:List D) (eO:Hp):Prop where
 go:∀ i d H Hf,aH eO Hf->aH Hf H->ds[i]?=some d->J.go i H/\∀ x H',J.yld i H x H'->∃ ai,bw H Hf H' ai/\Rep K ai d x
 stop:∀ i H Hf,aH eO Hf->aH Hf H->ds.length<=i->J.stop i H
def CK (c:Ctx P w K mg base k N sc bk) (tg iter:Expr) (ρ:List Sl) (R:List D->Prop):Prop :=
 ∀ (σ:L2.St) (H Hf:Hp) (Q:It->Hp->Prop),bx c σ H Hf ρ->(∀ ds J H' ai,R ds->bw H Hf H' ai->jd c.X.K J ds ai->Q J H')->bI c.X tg iter σ H Q
theorem wB {K:Nu} {ds:List D} {xs:List V} {p:Addr} {eO:Hp} (h:fH K eO p xs) (r:au K eO ds xs):jd K (LP K p) ds eO where
 go:=λi d H Hf s1 s2 e=>by
  obtain ⟨x,ex,rx⟩:=r.get e
  refine ⟨⟨xs,x,(s1.trans s2).seq h,ex⟩,λy H' ⟨e1,e2⟩=>?_⟩
  subst e1
  have:=e2 xs ((s1.trans s2).seq h)
  rw [ex] at this; cases this
  exact ⟨Hf,.refl s2,Rep.mono s1 d rx⟩
 stop:=λi H Hf s1 s2 e=>⟨xs,(s1.trans s2).seq h,by rw [<- r.length]; exact e⟩
theorem y9 {K:Nu} {ds:List D} {xs:List V} {p:Addr} {eO:Hp} (h:c8 K eO p xs) (r:au K eO ds xs):jd K (LQ K p) ds eO where
 go:=λi d H Hf s1 s2 e=>by
  obtain ⟨x,ex,rx⟩:=r.get e
  refine ⟨⟨xs,x,az (s1.trans s2) h,ex⟩,λy H' ⟨e1,e2⟩=>?_⟩
  subst e1
  have:=e2 xs (az (s1.trans s2) h)
  rw [ex] at this; cases this
  exact ⟨Hf,.refl s2,Rep.mono s1 d rx⟩
 stop:=λi H Hf s1 s2 e=>⟨xs,az (s1.trans s2) h,by rw [<- r.length]; exact e⟩
noncomputable def Mn (K:Nu) (tl:TE):TI:=λσ H R=>tl σ H λx H1=>∃ a,x=.ref a/\(((∃ xs,fH K H1 a xs)/\R (LP K a) H1)\/((∃ xs,c8 K H1 a xs)/\R (LQ K a) H1))
theorem GO (hl:PE X l tl):PI X tg l (Mn X.K tl):=by
 intro aa s σ H R I h
 refine bC (hl aa s σ H _ I h) λv s1 ⟨x,H1,I1,r1,q1⟩=>?_
 obtain ⟨a,e,h⟩:=q1
 subst e
 cases r1
 rcases h with ⟨⟨xs,hq⟩,q⟩ | ⟨⟨xs,hq⟩,q⟩
 ·obtain ⟨its,rv,p,hz⟩:=I1.list hq
  refine Tg p.isList ?_
  refine ⟨s1.heap.objs.size,[s1.heap.objs.size],_,_,H1,rfl,I1.kept (t':=s1.toks) λb o e=>NC _ e,v5 a _,⟨_,NL _ rfl,rfl,rfl⟩,λb hb=>?_,q⟩
  have e:b=s1.heap.objs.size:=by simpa using hb
  subst e
  exact I1.kh (Ny _) (I1.hok.fresh (Ny _))
 ·obtain ⟨its,rv,p,hz⟩:=I1.tuple hq
  refine S3 (show s1.heap.IsTuple a its.toArray from p) ?_
  refine ⟨s1.heap.objs.size,[s1.heap.objs.size],_,_,H1,rfl,I1.kept (t':=s1.toks) λb o e=>NC _ e,rV a _,⟨_,NL _ rfl,rfl,rfl⟩,λb hb=>?_,q⟩
  have e:b=s1.heap.objs.size:=by simpa using hb
  subst e
  exact I1.kh (Ny _) (I1.hok.fresh (Ny _))
theorem cX {R:List D->Prop} (h:aI c e ρ λd=>∃ ds,d.row=some ds/\R ds):CK c tg e ρ R:=λσ H Hf Q S q aa s I =>
 GO cY aa s σ H Q I (h σ H Hf _ S λd v H' ai ⟨ds,er,hR⟩ r g=>by
  obtain ⟨p,xs,rfl,hr,hk⟩:=iB er r
  refine ⟨p,rfl,?_⟩
  rcases hk with ⟨_,hk⟩ | ⟨_,hk⟩
  ·exact .inl ⟨⟨xs,g.b.seq hk⟩,q ds _ H' ai hR g (wB hk hr)⟩
  ·exact .inr ⟨⟨xs,az g.b hk⟩,q ds _ H' ai hR g (y9 hk hr)⟩)
noncomputable def p7 (lo:Int) (n:Nat):List D:=(N6 n).map λ(i:Nat)=>D.int (lo+(i:Int))
theorem za {K:Nu} {lo:Int} {n:Nat} {eO:Hp}:jd K (Li lo n) (p7 lo n) eO where
 go:=λi d H Hf s1 s2 e=>by
  unfold p7 at e
  rw [NO] at e
  obtain ⟨j,e1,e2⟩:=NQ.mp e
  have hi:i<n:=by
   have:=(NJ.mp e1).1
   simpa using this
  have:j=i:=by
   rw [RG hi] at e1; cases e1; rfl
  subst this
  refine ⟨hi,λx H' ⟨e3,e4⟩=>?_⟩
  subst e3 e4 e2
  exact ⟨Hf,.refl s2,aA.mpr rfl⟩
 stop:=λi H Hf s1 s2 e=>by
  show n<=i
  simpa [p7] using e
def zb (i:Int):Prop:= -(2 ^ 62)<=i/\i<2 ^ 62
theorem eT {R:List D->Prop} (hm:mg "range"=none) (h:aI c e ρ (I1 λj=>Sd (zb j) (R (p7 0 j.toNat)))) (hg:sc.names.lookup (Nr "range")=some .globalImplicit:=by walk_at "u")
 (hs:∀ env,starEach [e] env=(false,eval e env)::starEach [] env:=by intro _; walk_at "u"):CK c tg (.Call (.Name "range" p) [e] [] pos) ρ R:=λσ H Hf Q S q aa s I =>
 v7 (by unfold Gl Ov; rw [c.esc]; exact hg) (by rw [c.emg]; exact hm) (bM cY dD (hs _)) (hs _) aa s σ H Q I (h σ H Hf _ S λd v H' ai ⟨j,ed,⟨hj,hR⟩⟩ r g=>by
  subst ed; rw [aA] at r; subst r
  exact ⟨j,rfl,hj.1,hj.2,q _ _ H' ai hR g za⟩)
theorem di {tg iter:Expr} {body:List Stmt} {nx:List Sl->Prop} {p:Pt} (hq:c.X.xe=λ_ _=>False)
 (h:CK c tg iter ρ λds=>∃ I:Nat->List Sl->Prop,I 0 ρ /\
   (∀ c':Ctx P w K mg base k N sc bk,c'.X=c.X->c'.RX=c.RX->c'.RM=c.RM->∀ i d ρ',ds[i]?=some d->I i ρ'->pq c' tg d ρ' λρ''=>aG c' body ρ'' (I (i+1)) { rt:=p.rt,bk:=nx,ct:=I (i+1) })/\∀ ρ',I ds.length ρ'->nx ρ')
 (hs:∀ env x,foldedSetIterable iter env x=pure x:=by intro _ _; walk_at "u"):fP c (.For tg iter body [] pos) ρ nx p:=λσ H Hf D S o =>
 d8 (F1 (by rw [hq]; exact PassesOwn.never) c.calm Nk Ni se (hs _)) (h σ H Hf _ S λds J H1 aQ ⟨I,h0,hb,he⟩ g io=>by
  have S1:=S.cC g
  have gb:bw c.B c.Hf H1 aQ:=S1.bas
  refine ⟨λi m σ H=>m=ds.length - i/\i<=ds.length/\∃ Hf ρ',bx (c.at_ gb) σ H Hf ρ'/\I i ρ',⟨_,rfl,N1 _,aQ,ρ,S1.anew,h0⟩,?_⟩
  rintro i m σ H ⟨rfl,hi,Hf,ρ',S',hI⟩
  by_cases hlt:i<ds.length
  ·have ed:ds[i]?=some ds[i]:=NX hlt
   obtain ⟨hgo,hy⟩:=io.go i _ H Hf S'.bas.f S'.bas.b ed
   refine .inr ⟨hgo,λσ' H'=>∃ ai ρ'',bx (c.at_ gb) σ' H' ai ρ''/\I (i+1) ρ'',λσ' H' ⟨ai,ρ'',S'',hI'⟩=>⟨_,by omega,rfl,hlt,ai,ρ'',S'',hI'⟩,λx H' hx=>?_⟩
   obtain ⟨ai,g',rx⟩:=hy x H' hx
   refine hb (c.at_ gb) rfl rfl rfl i _ ρ' ed hI σ H' ai x _ (S'.cC g') rx λσ2 H2 cO ρ2 S2 _ hbody=>?_
   exact hbody σ2 H2 cO _ S2 ⟨λσ H Hf ρ S q=>⟨Hf,ρ,S,q⟩,(o.at_ gb).rt,λσ H Hf ρ S q=>(o.at_ gb).nx σ H Hf ρ S q,λσ H Hf ρ S q=>⟨Hf,ρ,S,q⟩⟩
  ·have e:i=ds.length:=by omega
   subst e
   exact .inl ⟨io.stop _ H Hf S'.bas.f S'.bas.b (Ny _),(o.at_ gb).nx σ H Hf ρ' S' (he ρ' hI)⟩)
end
section
variable {K:Nu}
end
section
variable {K:Nu}
theorem jD (h:R d):EH R (.va d):=⟨d,rfl,h⟩
theorem aU (h:R (.lst ds)):EH R (.ow ds):=⟨.lst ds,rfl,h⟩
theorem GP (h:aI c a ρ λx=>aI c b ρ λy=>lW x y (EH R)):aI c (.BinOp a .Add b pos) ρ R:=e_x (EO h)
theorem pX.imp {R R':List D->Prop} (h:pX c es ρ R) (hi:∀ d,R d->R' d):pX c es ρ R':=λσ H Hf Q S q=>h σ H Hf Q S λd v H' ai rd=>q d v H' ai (hi d rd)
theorem GQ (h:pX c es ρ λds=>Sd (ds.length<=sizeLine) (R (.lst ds))):aI c (.List es pos) ρ R:=e_x (EK (h.imp λds hd=>⟨hd.s,aU hd.r⟩))
theorem kG {lo hi:Option Expr} (h:aI c e ρ λx=>wz c lo ρ λl=>wz c hi ρ λu=>CJ x l u (EH R)):aI c (.Subscript e (.Slice lo hi none p2) pos) ρ R:=e_x (uD h)
theorem zc {R:Sl->Prop} (h:R (.va (.int (i+j)))):lW (.int i) (.int j) R:=.int h
theorem zd {ds es:List D} {R:Sl->Prop} (h:Sd (ds.length+es.length<=sizeLine) (R (.ow (ds++es)))):lW (.lst ds) (.lst es) R:=.lst h
theorem J1 (h:aI c a ρ λx=>aI c b ρ λy=>CG x y R) (hs:jV b:=by with_unfolding_all exact λ_ _=>rfl):aI c (.Subscript a b pos) ρ R:=JZ h hs
theorem GR {x:D} {Q:List D->Prop} (e:x.row=some ds) (h:Q ds):∃ ys,x.row=some ys/\Q ys:=⟨ds,e,h⟩
theorem ak {F:Fn} {R:Sl->Prop} (h:F ds (.ok sl)) (r:R sl):∃ r,F ds r/\GG c ρ R r:=⟨_,h,r⟩
end
section
variable {K:Nu}
end
noncomputable def del (H:Hp) (p:Addr):Hp:=λb=>if b=p then none else H b
theorem iC:del H p p=none:=if_pos rfl
theorem cy (h:b≠p):del H p b=H b:=if_neg h
theorem ze (h:H₀ p=none) (s:aH H₀ H):aH H₀ (del H p):=λb o e=>by
 rw [cy (aE e h)]; exact s b o e
theorem iD (h:del H p b=some o):b≠p/\H b=some o:=by
 by_cases e:b=p
 ·subst e; rw [iC] at h; cases h
 ·rw [cy e] at h; exact ⟨e,h⟩
theorem fh (sb:aH Hf H) (hp:Hf p=none):bw (del H p) Hf (upd H p o) Hf :=
 ⟨λb u e=>by obtain ⟨h1,h2⟩:=iD e; rw [av h1]; exact h2,.refl _,λb u e=>by rw [av (aE e hp)]; exact sb b u e,λ_ h _ _=>h⟩
section
variable {K:Nu}
theorem bu.ES (ho:r.owned=true) (h:bu K fr H Hf r v):∃ p o,v=.ref p/\fr p/\H p=some o/\Hf p=none/\¬ yF H p:=by
 have nf:∀ {p:Addr} {u:HO},H p=some u->(∀ φ,u≠.ext φ)->¬ yF H p:=λe k ⟨z,e2⟩=>by rw [e] at e2; exact k _ (O5 e2)
 cases r with
 | un=>cases ho
 | va d=>cases ho
 | fo s=>cases ho
 | ow ds=>obtain ⟨p,xs,rfl,f,h1,h2,_⟩:=h; exact ⟨p,_,rfl,f,h1,h2,nf h1 (by intro _ z; cases z)⟩
 | oT ds=>obtain ⟨p,xs,rfl,f,h1,h2,_⟩:=h; exact ⟨p,_,rfl,f,h1,h2,nf h1 (by intro _ z; cases z)⟩
 | oK ds=>obtain ⟨p,xs,rfl,f,h1,h2,_⟩:=h; exact ⟨p,_,rfl,f,h1,h2,nf h1 (by intro _ z; cases z)⟩
 | aw a ds=>obtain ⟨p,xs,rfl,f,h1,h2,_⟩:=h; exact ⟨p,_,rfl,f.1,h1,h2,nf h1 (by intro _ z; cases z)⟩
 | aT a ds=>obtain ⟨p,xs,rfl,f,h1,h2,_⟩:=h; exact ⟨p,_,rfl,f.1,h1,h2,nf h1 (by intro _ z; cases z)⟩
 | aK a ds=>obtain ⟨p,xs,rfl,f,h1,h2,_⟩:=h; exact ⟨p,_,rfl,f.1,h1,h2,nf h1 (by intro _ z; cases z)⟩
theorem bu.p8 (ho:r.owned=true) (h:bu K fr H Hf r v):∃ p o,v=.ref p/\fr p/\H p=some o/\Hf p=none :=
 let ⟨p,o,a,b,c,d,_⟩:=h.ES ho; ⟨p,o,a,b,c,d⟩
theorem bu.J2 (nf:¬ yF H p) (hv:r.owned=true->v≠.ref p) (h:bu K fr H Hf r v):bu K fr (del H p) Hf r v :=
 bu.mv (B:=λq=>q=p) (.refl _) (λq o hq e1 _ e3=>⟨by rw [cy hq]; exact e1,e3⟩) (λ_ q e=>by subst e; exact nf) (λho q z e=>by subst e; exact hv ho z) h
theorem eG.own (S:eG K H₀ eO σ H Hf ρ) {i:Nat} (hi:ρ[i]?=some r) (ho:r.owned=true):∃ p,σ[i]?=some (some (.ref p))/\bu K (λp=>H₀ p=none) H Hf r (.ref p):=by
 obtain ⟨v,e,q⟩:=S.at_ i r hi (by rintro rfl; cases ho)
 obtain ⟨p,o,rfl,_⟩:=q.p8 ho
 exact ⟨p,e,q⟩
theorem eG.upd (S:eG K H₀ eO σ H Hf ρ) (hi:ρ[i]?=some r) (ho:r.owned=true) (hp:σ[i]?=some (some (.ref p))) (g:bw (del H p) Hf H1 aQ)
 (hr:bu K (λq=>q=p) H1 aQ r' (.ref p)) (ho':r'.owned=true):eG K H₀ eO σ H1 aQ (ρ.set i r'):=by
 obtain ⟨p',ep,q⟩:=S.own hi ho
 rw [hp] at ep; cases ep
 obtain ⟨_,o,e,fp,hHp,hfp,nfz⟩:=q.ES ho
 cases e
 have hlt:i<ρ.length:=(NJ.mp hi).1
 refine ⟨⟨(ze fp S.bas.s).trans g.s,S.bas.f.trans g.f,g.b,λb h1 h2 h3=>?_⟩,by simp [S.len],λj r1 hj hu=>?_,λj j' r1 r2 q' hne h1 h2 o1 o2=>?_⟩
 ·have hb:b≠p:=λz=>by subst z; exact h2 fp
  cases z:H₀ b with
  | none=>exact absurd z h2
  | some o1 =>
   have e1:=S.bas.s b o1 z
   refine g.n b (S.bas.n b h1 h2 h3) (by rw [cy hb,e1]; simp) λxs=>?_
   rw [cy hb,e1,<- z]; exact h3 xs
 ·by_cases e:j=i
  ·subst e
   rw [OP hlt] at hj; cases hj
   exact ⟨_,hp,hr.weak λq' z=>by subst z; exact fp⟩
  ·rw [OR (NZ e)] at hj
   obtain ⟨v,e1,e2⟩:=S.at_ j r1 hj hu
   exact ⟨v,e1,(e2.J2 (p:=p) nfz λow z=>by subst z; exact S.sep i j _ _ p (NZ e) hi hj ho ow hp e1).cC g⟩
 ·have out:∀ {j:Nat} {r1:Sl},(ρ.set i r')[j]?=some r1->r1.owned=true->∃ r2,ρ[j]?=some r2/\r2.owned=true:=λ{j r1} hj how=>by
   by_cases e:j=i
   ·subst e; exact ⟨r,hi,ho⟩
   ·rw [OR (NZ e)] at hj; exact ⟨r1,hj,how⟩
  obtain ⟨r3,a1,a2⟩:=out h1 o1
  obtain ⟨r4,b1,b2⟩:=out h2 o2
  exact S.sep j j' r3 r4 q' hne a1 b1 a2 b2
end
section
variable {K:Nu} {c:Ctx P w K mg base k N sc bk}
theorem Ctx.lX (c:Ctx P w K mg base k N sc bk) (hN:At N i x) (hd:(x == ("__debug__":Str))=false) (hcd:(x == ("__classdict__":Str))=false):PE c.X (.Name x px) (Jd i) :=
 rT (X:=c.X) (i:=i) (by rw [c.eN]; exact hN.get) (by rw [c.esc]; rcases c.vis x hN.mem with h | h; exact .inl h; exact .inr (.inl h)) hd hcd
noncomputable def Sl.getL:Sl->Option (List D) | .ow ds=>some ds | .aw _ ds=>some ds | _=>none
noncomputable def Sl.putL:Sl->List D->Sl | .ow _,es=>.ow es | .aw a _,es=>.aw a es | s,_=>s
theorem cz {r:Sl} (h:r.getL=some ds):r.owned=true:=by cases r <;> first | rfl | cases h
theorem fj {r:Sl} {ds es:List D} (h:r.getL=some ds):(r.putL es).owned=true:=by cases r <;> first | rfl | cases h
theorem CL {p:Addr} (h:r.getL=some ds) (q:bu K fr H Hf r (.ref p)):∃ xs,H p=some (.lst xs)/\Hf p=none/\au K Hf ds xs:=by
 cases r with
 | ow es=>cases h; obtain ⟨_,xs,e,_,h1,h2,h3⟩:=q; cases e; exact ⟨xs,h1,h2,h3⟩
 | aw a es=>cases h; obtain ⟨_,xs,e,_,h1,h2,h3⟩:=q; cases e; exact ⟨xs,h1,h2,h3⟩
 | _=>cases h
theorem iE {ds es:List D} {p:Addr} (h:r.getL=some ds) (q:bu K fr H Hf r (.ref p)) (h1:H1 p=some (.lst ys)) (h2:aQ p=none) (h3:au K aQ es ys) :
 bu K (λq=>q=p) H1 aQ (r.putL es) (.ref p):=by
 cases r with
 | ow _=>exact ⟨p,ys,rfl,rfl,h1,h2,h3⟩
 | aw a _=>obtain ⟨_,xs,e,f,_⟩:=q; cases e; exact ⟨p,ys,rfl,⟨rfl,f.2⟩,h1,h2,h3⟩
 | _=>cases h
theorem GS (hN:At N i x) (hi:At ρ i r) (hr:r.getL=some ds) (h:aI c e ρ λd=>Sd (ds.length<sizeLine) (Nx ρ i nx (r.putL (ds++[d]))))
 (hs:∀ env,swapsWith (.Call (.Attribute (.Name x px) "append" ap) [e] [] cp) none pos.line env=pure false:=by intro _; walk_at "u") (hd:(x == ("__debug__":Str))=false:=by decide) (hcd:(x == ("__classdict__":Str))=false:=by decide)
 (hbase:∀ env,attributeBase (.Name x px) "append" env (eval (.Name x px) env)=eval (.Name x px) env:=by intro _; walk_at "u")
 (hfew:∀ env,((backTo cp (starEach [e] env)).all (λx=> !x.1) && (backToKw cp (keywordEach [] env)).all (λx=>x.1.isSome)
   && decide (([e]:List Expr).length+([]:List Keyword).length+(if ([]:List Keyword).isEmpty then 0 else 1)<30))=true:=by intro _; walk_at "u")
 (hline:(ap.endLine == cp.line)=true:=by walk_at "u") (he:∀ env,starEach [e] env=(false,eval e env)::starEach [] env:=by intro _; walk_at "u") (hpl:∀ env,(backTo cp (starEach [] env)).any (·.1)=false:=by intro _; walk_at "u") :
 fP c (.Expr (.Call (.Attribute (.Name x px) "append" ap) [e] [] cp) pos) ρ nx p:=λσ H Hf D S o=>by
 obtain ⟨q,eq,rq⟩:=S.own hi.get (cz hr)
 obtain ⟨xs,h1,h2,h3⟩:=CL hr rq
 refine d8 (jT (EE SA PySem.F.slot_list_append PySem.F.type_list_append mE (c.lX hN hd hcd) (bM cY dD (he _)) (hbase _) (hfew _) hline (he _) (hpl _)) (hs _)) ⟨_,eq,.inl ⟨rfl,xs,.inl (.inl h1)⟩,?_⟩
 refine h σ H Hf _ S λd v H' ai ⟨hz,ρ',hs',hn⟩ rd g=>?_
 have S':=S.cC g
 have e1:H' q=some (.lst xs):=g.s _ _ h1
 have e2:ai q=none:=g.n q h2 (by rw [h1]; simp) (by intro ys; rw [h1]; simp)
 refine ⟨q,xs,v,rfl,rfl,e1,by rw [<- h3.length]; exact hz,?_⟩
 refine o.nx _ _ ai ρ' ?_ hn
 rw [hs'.eq]
 have rq':=rq.cC g
 exact S'.upd hi.get (cz hr) eq (fh g.b e2) (iE hr rq' af e2 ((h3.mono g.f).append (.one rd))) (fj hr)
end
section
variable {κ β:Type} [DecidableEq κ]
noncomputable def bB (kvs:List (κ×β)) (k:κ):Option β:=(kvs.find? λkv=>decide (kv.1=k)).map (·.2)
noncomputable def putD (kvs:List (κ×β)) (k:κ) (v:β):List (κ×β) :=
 if (bB kvs k).isSome=true then kvs.map (λkv=>if kv.1=k then (kv.1,v) else kv) else kvs++[(k,v)]
theorem br {q:κ×β} {r:List (κ×β)} {k:κ} (e:q.1=k):bB (q::r) k=some q.2:=by simp [bB,O0,e]
theorem aW {q:κ×β} {r:List (κ×β)} {k:κ} (e:¬ q.1=k):bB (q::r) k=bB r k:=by simp [bB,O0,e]
end
noncomputable def D.wC:D->Option Key | .int i=>some (.inl i) | .str x=>some (.inr x) | _=>none
noncomputable def D.keys:List D->Option (List Key)
 | []=>some []
 | d::r=>match d.wC,D.keys r with | some k,some ks=>some (k::ks) | _,_=>none
theorem iF {K:Nu} (h:d.wC=some k) (r:Rep K H d v):v=kV k:=by
 cases d with
 | int i=>cases h; exact aA.mp r
 | str x=>cases h; exact gu.mp r
 | _=>cases h
theorem gv {K:Nu}:∀ {ds:List D} {ks:List Key} {xs:List V},D.keys ds=some ks->au K H ds xs->xs=ks.map kV
 | [],ks,xs,h,r=>by cases h; rw [aC.mp r]; rfl
 | d::ds,ks,xs,h,r=>by
  obtain ⟨x,t,rfl,r1,r2⟩:=aD.mp r
  unfold D.keys at h
  cases e1:d.wC with
  | none=>rw [e1] at h; cases h
  | some k =>
   cases e2:D.keys ds with
   | none=>rw [e1,e2] at h; cases h
   | some ks' =>
    rw [e1,e2] at h; cases h
    rw [iF e1 r1,gv e2 r2]; rfl
noncomputable def Sl.ET:Sl->Bool | .oK _=>true | .aK _ _=>true | .oT _=>true | .aT _ _=>true | _=>false
theorem p9 {r:Sl} (h:r.ET=true):r.owned=true:=by cases r <;> first | rfl | cases h
noncomputable def Sl.su:Sl->Option (List (Key×D)) | .oK kvs=>some kvs | .aK _ kvs=>some kvs | _=>none
noncomputable def Sl.qa:Sl->List (Key×D)->Sl | .oK _,es=>.oK es | .aK a _,es=>.aK a es | s,_=>s
noncomputable def Sl.wD:Sl->Option (List (List Key×D)) | .oT kvs=>some kvs | .aT _ kvs=>some kvs | _=>none
noncomputable def Sl.zf:Sl->List (List Key×D)->Sl | .oT _,es=>.oT es | .aT a _,es=>.aT a es | s,_=>s
theorem kH {r:Sl} (h:r.su=some kvs):r.owned=true:=by cases r <;> first | rfl | cases h
theorem kI {r:Sl} (h:r.su=some kvs):(r.qa es).owned=true:=by cases r <;> first | rfl | cases h
theorem sA {r:Sl} (h:r.wD=some kvs):(r.zf es).owned=true:=by cases r <;> first | rfl | cases h
section
variable {K:Nu} {fr:Addr->Prop} {H Hf H1 aQ:Hp} {r:Sl} {p:Addr}
theorem wF (h:r.su=some kvs) (q:bu K fr H Hf r (.ref p)):∃ xs,H p=some (.dK xs)/\Hf p=none/\lO K Hf kvs xs:=by
 cases r with
 | oK es=>cases h; obtain ⟨_,xs,e,_,h1,h2,h3⟩:=q; cases e; exact ⟨xs,h1,h2,h3⟩
 | aK a es=>cases h; obtain ⟨_,xs,e,_,h1,h2,h3⟩:=q; cases e; exact ⟨xs,h1,h2,h3⟩
 | _=>cases h
theorem CM (h:r.wD=some kvs) (q:bu K fr H Hf r (.ref p)):∃ xs,H p=some (.dT xs)/\Hf p=none/\kE K Hf kvs xs:=by
 cases r with
 | oT es=>cases h; obtain ⟨_,xs,e,_,h1,h2,h3⟩:=q; cases e; exact ⟨xs,h1,h2,h3⟩
 | aT a es=>cases h; obtain ⟨_,xs,e,_,h1,h2,h3⟩:=q; cases e; exact ⟨xs,h1,h2,h3⟩
 | _=>cases h
theorem qb (h:r.su=some kvs) (q:bu K fr H Hf r (.ref p)) (h1:H1 p=some (.dK ys)) (h2:aQ p=none) (h3:lO K aQ es ys):bu K (λq=>q=p) H1 aQ (r.qa es) (.ref p):=by
 cases r with
 | oK _=>exact ⟨p,ys,rfl,rfl,h1,h2,h3⟩
 | aK a _=>obtain ⟨_,xs,e,f,_⟩:=q; cases e; exact ⟨p,ys,rfl,⟨rfl,f.2⟩,h1,h2,h3⟩
 | _=>cases h
theorem zg (h:r.wD=some kvs) (q:bu K fr H Hf r (.ref p)) (h1:H1 p=some (.dT ys)) (h2:aQ p=none) (h3:kE K aQ es ys):bu K (λq=>q=p) H1 aQ (r.zf es) (.ref p):=by
 cases r with
 | oT _=>exact ⟨p,ys,rfl,rfl,h1,h2,h3⟩
 | aT a _=>obtain ⟨_,xs,e,f,_⟩:=q; cases e; exact ⟨p,ys,rfl,⟨rfl,f.2⟩,h1,h2,h3⟩
 | _=>cases h
noncomputable def zh (K:Nu) (Hf:Hp):Option D->Option V->Prop
 | none,none=>True
 | some d,some v=>Rep K Hf d v
 | _,_=>False
theorem lO.val (h:lO K Hf kvs xs) (k:Key):zh K Hf (bB kvs k) (ku xs k):=by
 unfold lO at h
 induction h with
 | nil=>exact QH
 | @cons a b as bs h t ih =>
  by_cases e:a.1=k
  ·rw [br e,kB (h.1.symm.trans e)]; exact h.2
  ·rw [aW e,kC (λz=>e (h.1.trans z))]; exact ih
theorem zh.isSome (h:zh K Hf o u):o.isSome=u.isSome:=by
 cases o <;> cases u <;> first | rfl | exact h.elim
theorem lO.put (h:lO K Hf kvs xs) (k:Key) (rd:Rep K Hf d v):lO K Hf (putD kvs k d) (putK xs k v):=by
 have e:=(h.val k).isSome
 unfold putD putK
 rw [e,pN]
 by_cases q:(ku xs k).isSome=true
 ·rw [if_pos q,if_pos q]
  unfold lO at h |-
  clear e q
  induction h with
  | nil=>exact .nil
  | @cons a b as bs h t ih =>
   rw [NF,NF]
   refine .cons ?_ ih
   by_cases e:a.1=k
   ·rw [if_pos e,if_pos (h.1.symm.trans e)]; exact ⟨h.1,rd⟩
   ·rw [if_neg e,if_neg (λz=>e (h.1.trans z))]; exact h
 ·rw [if_neg q,if_neg q]; exact Sn h ⟨rfl,rd⟩
theorem kE.val (h:kE K Hf kvs xs) (k):zh K Hf (bB kvs k) (atT xs k):=by
 unfold kE at h
 induction h with
 | nil=>exact QH
 | @cons a b as bs h t ih =>
  by_cases e:a.1=k
  ·have z:L2.atT (b::bs) k=some b.2.2:=by simp [L2.atT,O0,h.1.symm.trans e]
   rw [br e,z]; exact h.2.2
  ·have z:L2.atT (b::bs) k=L2.atT bs k:=by
    have:¬ b.1=k:=λz=>e (h.1.trans z)
    simp [L2.atT,O0,this]
   rw [aW e,z]; exact ih
theorem kE.put (h:kE K Hf kvs xs) (k) (hb:c8 K Hf b (k.map kV)) (rd:Rep K Hf d v):kE K Hf (putD kvs k d) (pQ xs k b v):=by
 have e:=(h.val k).isSome
 unfold putD pQ
 rw [e]
 by_cases q:(atT xs k).isSome=true
 ·rw [if_pos q,if_pos q]
  unfold kE at h |-
  clear e q
  induction h with
  | nil=>exact .nil
  | @cons a b' as bs h t ih =>
   rw [NF,NF]
   refine .cons ?_ ih
   unfold nS
   by_cases e:a.1=k
   ·rw [if_pos e,if_pos (h.1.symm.trans e)]; exact ⟨h.1,h.2.1,rd⟩
   ·rw [if_neg e,if_neg (λz=>e (h.1.trans z))]; exact h
 ·rw [if_neg q,if_neg q]; exact Sn h ⟨rfl,hb,rd⟩
theorem kE.zj (h:kE K Hf kvs xs):∀ x∈xs,c8 K Hf x.2.1 (x.1.map kV):=by
 unfold kE at h
 induction h with
 | nil=>intro x hx; cases hx
 | @cons a b as bs h t ih =>
  intro x hx
  rcases NU.mp hx with e | hx
  ·subst e; rw [<- h.1]; exact h.2.1
  ·exact ih x hx
inductive EU:Sl->D->Option D->Prop
 | k {r:Sl} {kvs:List (Key×D)} {d:D} {k:Key} (h:r.su=some kvs) (hk:d.wC=some k):EU r d (bB kvs k)
 | t {r:Sl} {kvs:List (List Key×D)} {ds:List D} {k:List Key} (h:r.wD=some kvs) (hk:D.keys ds=some k):EU r (.tup ds) (bB kvs k)
inductive CN:Sl->D->D->Sl->Prop
 | k {r:Sl} {kvs:List (Key×D)} {d e:D} {k:Key} (h:r.su=some kvs) (hk:d.wC=some k) (hz:kvs.length<sizeLine):CN r d e (r.qa (putD kvs k e))
 | t {r:Sl} {kvs:List (List Key×D)} {ds:List D} {e:D} {k:List Key} (h:r.wD=some kvs) (hk:D.keys ds=some k) (hz:kvs.length<sizeLine):CN r (.tup ds) e (r.zf (putD kvs k e))
theorem CN.owned' (h:CN r d e r'):r'.owned=true:=by cases h with | k h _ _=>exact kI h | t h _ _=>exact sA h
theorem EU.get (h:EU r d o) (q:bu K fr H Hf r (.ref p)) (rv:Rep K Hf d v) (sb:aH Hf H):∃ u,nT K H p v u/\zh K Hf o u:=by
 cases h with
 | k h hk =>
  obtain ⟨xs,h1,_,h3⟩:=wF h q
  rw [iF hk rv]
  exact ⟨_,.inl ⟨xs,_,.inl h1,rfl,rfl⟩,h3.val _⟩
 | t h hk =>
  obtain ⟨xs,h1,_,h3⟩:=CM h q
  obtain ⟨a,ys,rfl,h4,h5⟩:=aM.mp rv
  have:=gv hk h5
  subst this
  exact ⟨_,.inr ⟨xs,_,a,.inl h1,λx hx=>az sb (h3.zj x hx),rfl,az sb h4,rfl⟩,h3.val _⟩
theorem lO.length (h:lO K Hf kvs xs):kvs.length=xs.length:=OE h
theorem kE.length (h:kE K Hf kvs xs):kvs.length=xs.length:=OE h
theorem CN.put (h:CN r d e r') (q:bu K fr H Hf r (.ref p)) (rv:Rep K Hf d v) (ry:Rep K Hf e y) (sb:aH Hf H) :
 ∃ o,Co K H p v y (upd H p o)/\bu K (λq=>q=p) (upd H p o) Hf r' (.ref p):=by
 cases h with
 | k h hk hz =>
  obtain ⟨xs,h1,h2,h3⟩:=wF h q
  rw [iF hk rv]
  exact ⟨_,.inl ⟨xs,_,h1,rfl,by rw [<- h3.length]; exact hz,rfl⟩,qb h q af h2 (h3.put _ ry)⟩
 | t h hk hz =>
  obtain ⟨xs,h1,h2,h3⟩:=CM h q
  obtain ⟨a,ys,rfl,h4,h5⟩:=aM.mp rv
  have:=gv hk h5
  subst this
  exact ⟨_,.inr ⟨xs,_,a,h1,λx hx=>az sb (h3.zj x hx),rfl,az sb h4,by rw [<- h3.length]; exact hz,rfl⟩,zg h q af h2 (h3.put _ h4 ry)⟩
end
section
variable {K:Nu} {c:Ctx P w K mg base k N sc bk}
theorem Ctx.hu (c:Ctx P w K mg base k N sc bk):c.X.A.units+1<cLine:=JD c.room
theorem nX {R:Sl->Prop} (h:R (.oK [])):cW c (.Dict [] [] pos) ρ R:=λσ H Hf Q S q =>
 bO yz λp hp=>q (.oK []) (.ref p) _ Hf h ⟨p,[],rfl,hp,af,S.sb.free hp,.nil⟩ (bw.dZ S.sb hp)
theorem CO {R:Sl->Prop} (h:R (.oT [])):cW c (.Dict [] [] pos) ρ R:=λσ H Hf Q S q =>
 bO yC λp hp=>q (.oT []) (.ref p) _ Hf h ⟨p,[],rfl,hp,af,S.sb.free hp,.nil⟩ (bw.dZ S.sb hp)
theorem GU (hN:At N i x) (hi:At ρ i r) (h:aI c e ρ λdk=>aI c f ρ λdf=>∃ o,EU r dk o/\R (o.getD df)) (hd:(x == ("__debug__":Str))=false:=by decide) (hcd:(x == ("__classdict__":Str))=false:=by decide) (ho:r.ET=true:=by rfl)
 (m1:∀ env,attributeBase (.Name x px) "get" env (eval (.Name x px) env)=eval (.Name x px) env:=by intro _; walk_at "u")
 (m2:∀ env,((backTo cp (starEach [e,f] env)).all (λx=> !x.1) && (backToKw cp (keywordEach [] env)).all (λx=>x.1.isSome)
   && decide (([e,f]:List Expr).length+([]:List Keyword).length+(if ([]:List Keyword).isEmpty then 0 else 1)<30))=true:=by intro _; walk_at "u")
 (m3:(ap.endLine == cp.line)=true:=by walk_at "u") (m4:∀ env,backTo cp (starEach [e,f] env)=[(false,eval e env),(false,eval f env)]:=by intro _; walk_at "u") :
 aI c (.Call (.Attribute (.Name x px) "get" ap) [e,f] [] cp) ρ R:=λσ H Hf Q S q=>by
 obtain ⟨p,ep,rp⟩:=S.own hi.get (p9 ho)
 have isd:Mc H p:=by
  cases r with
  | oK kvs=>obtain ⟨xs,h1,_⟩:=wF (r:=.oK kvs) rfl rp; exact .inl ⟨xs,.inl h1⟩
  | aK a kvs=>obtain ⟨xs,h1,_⟩:=wF (r:=.aK a kvs) rfl rp; exact .inl ⟨xs,.inl h1⟩
  | oT kvs=>obtain ⟨xs,h1,_⟩:=CM (r:=.oT kvs) rfl rp; exact .inr ⟨xs,.inl h1⟩
  | aT a kvs=>obtain ⟨xs,h1,_⟩:=CM (r:=.aT a kvs) rfl rp; exact .inr ⟨xs,.inl h1⟩
  | _=>cases ho
 refine bO (yD c.hu (c.lX hN hd hcd) cY cY ⟨m1 _,m2 _,m3,m4 _⟩) ⟨_,ep,p,rfl,isd,h σ H Hf _ S λdk v H1 aQ h1 rv g1=>h1 σ H1 aQ _ (S.cC g1) λdf y H2 cO ⟨o,lk,hR⟩ ry g2=>?_⟩
 obtain ⟨u,dg,rel⟩:=lk.get (rp.cC (g1.trans g2)) (Rep.mono g2.f _ rv) g2.b
 refine ⟨u,dg,?_⟩
 cases o with
 | none=>cases u with
  | none=>exact q df y H2 cO hR ry (g1.trans g2)
  | some _=>exact rel.elim
 | some d=>cases u with
  | none=>exact rel.elim
  | some v'=>exact q d v' H2 cO hR rel (g1.trans g2)
theorem GV (hN:At N i x) (hi:At ρ i r) (h:aI c e ρ λdv=>aI c b ρ λdk=>∃ r',CN r dk dv r'/\Nx ρ i nx r') (ho:r.owned=true:=by rfl)
 (hs:∀ env,swapsWith e (some (.Subscript (.Name x px) b tp)) pos.line env=pure false:=by intro _; walk_at "u") (hd:(x == ("__debug__":Str))=false:=by decide) (hcd:(x == ("__classdict__":Str))=false:=by decide) :
 fP c (.Assign [.Subscript (.Name x px) b tp] e pos) ρ nx p:=λσ H Hf D S o=>by
 obtain ⟨p,ep,rp⟩:=S.own hi.get ho
 refine d8 (Cr c.hu (c.lX hN hd hcd) cY cY (hs _)) (h σ H Hf _ S λdv v H1 aQ h1 rv g1=>⟨_,ep,h1 σ H1 aQ _ (S.cC g1) λdk y H2 cO ⟨r',pt,ρ',hs',hn⟩ ry g2=>?_⟩)
 have g:=g1.trans g2
 obtain ⟨ob,dp,rp'⟩:=pt.put (rp.cC g) ry (Rep.mono g2.f _ rv) g.b
 refine ⟨p,_,rfl,dp,o.nx _ _ cO ρ' ?_ hn⟩
 rw [hs'.eq]
 obtain ⟨_,_,e0,_,_,hf⟩:=(rp.cC g).p8 ho
 cases e0
 exact (S.cC g).upd hi.get ho ep (fh g.b hf) rp' pt.owned'
theorem uE (hN:At N i x) (hi:At ρ i r) (h:aI c b ρ λdk=>∃ m:Int,EU r dk (some (.int m))/\aI c e ρ (I1 λj=>∃ r',CN r dk (.int (m+j)) r'/\Nx ρ i nx r')) (ho:r.owned=true:=by rfl)
 (ha:∀ ov iv new,augStore b ov iv new=(do holding [new,ov,iv] (setItem ov iv new); release [new,ov,iv] []; pure .next):=by intro _ _ _; walk_at "u") (hd:(x == ("__debug__":Str))=false:=by decide) (hcd:(x == ("__classdict__":Str))=false:=by decide) :
 fP c (.AugAssign (.Subscript (.Name x px) b tp) .Add e pos) ρ nx p:=λσ H Hf D S o=>by
 obtain ⟨p,ep,rp⟩:=S.own hi.get ho
 have hop:Jv c.X .Add (v9 λi j=>.int (i+j)):=B7
 refine d8 (Cs c.hu (c.lX hN hd hcd) cY cY hop ha) ⟨_,ep,h σ H Hf _ S λdk y H1 aQ ⟨m,lk,h1⟩ ry g1=>?_⟩
 obtain ⟨u,dg,rel⟩:=lk.get (rp.cC g1) ry g1.b
 cases u with
 | none=>exact rel.elim
 | some u =>
  have eu:u=V.int m:=(aA (K:=c.X.K) (H:=aQ)).mp rel
  subst eu
  refine ⟨p,_,rfl,dg,h1 σ H1 aQ _ (S.cC g1) λdj y2 H2 cO ⟨j,ej,r',pt,ρ',hs',hn⟩ ry2 g2=>?_⟩
  subst ej
  rw [aA.mp ry2]
  have g:=g1.trans g2
  obtain ⟨ob,dp,rp'⟩:=pt.put (rp.cC g) (Rep.mono g2.f _ ry) (v:=y) (y:=.int (m+j)) (aA.mpr rfl) g.b
  refine ⟨m,j,rfl,rfl,_,dp,o.nx _ _ cO ρ' ?_ hn⟩
  rw [hs'.eq]
  obtain ⟨_,_,e0,_,_,hf⟩:=(rp.cC g).p8 ho
  cases e0
  exact (S.cC g).upd hi.get ho ep (fh g.b hf) rp' pt.owned'
theorem EW (hN:At N i x) (hi:At ρ i r) (h:aI c e ρ λdk=>∃ o,EU r dk o/\T o.isSome) (ho:r.owned=true:=by rfl) (hm:behindInMarks CmpOp.In (.Name x px)=false:=by walk_at "u")
 (hd:(x == ("__debug__":Str))=false:=by decide) (hcd:(x == ("__classdict__":Str))=false:=by decide):jA c (.Compare e [.In] [.Name x px] pos) ρ T:=λσ H Hf Q S q=>by
 obtain ⟨p,ep,rp⟩:=S.own hi.get ho
 refine ug (FJ (Gp c.hu cY (c.lX hN hd hcd)) hm) (h σ H Hf _ S λdk y H1 aQ ⟨o,lk,hT⟩ ry g=>⟨_,ep,?_⟩)
 obtain ⟨u,dg,rel⟩:=lk.get (rp.cC g) ry g.b
 refine ⟨p,u,rfl,dg,u.isSome,rfl,q _ H1 aQ ?_ g⟩
 rw [<- rel.isSome]; exact hT
end
noncomputable abbrev i8:Value->Shared->Prop:=λ_ _=>False
section
variable {prog:Program} {w:World} {A:Around} {R:Result->Shared->Prop} {s:Shared}
theorem nY {elt target iter:Expr} {ifs:List Expr} {scope:Scope} {pos:Pos} {it acc:Value} {env:Env} (I:Nat->Shared->Prop)
 (turn:∀ n s,I n s->wpAny (model prog w) A (pyNext it) (λr s₁=>match r with
   | none=>R (.ok .next) s₁
   | some v=>wpAny (model prog w) A (letOwnedTupleGo target it v) (λ_ s₁'=>wpAny (model prog w) A (assign target env v) (λ_ s₂ =>
    wpAny (model prog w) A (forIn ifs true λc r=>if r=true then do let ok <- isTrue c env (eval c env); pure (Ot ok) else pure (Ot r)) (λok s₃ =>
     if ok=true then wpAny (model prog w) A (eval elt env) (λx s₄ =>
      wpAny (model prog w) A (call (.builtin "list.append") [acc,x]) (λ_ s₅=>∃ m,m<n/\I m s₅) i8 s₄) i8 s₃
     else ∃ m,m<n/\I m s₃) i8 s₂) i8 s₁') i8 s₁) i8 s)
 (n:Nat) (h:I n s) :
 codeAny (model prog w) A (.compLoop (.ListComp elt [⟨target,iter,ifs,0⟩] scope pos) 0 it acc env) R s:=by
 refine codeAny_loop rfl I (λn s hI=>?_) n h
 show wpAny _ A ((compTurn (.ListComp elt [⟨target,iter,ifs,0⟩] scope pos) 0 it acc env).onRaise (λx=>do noteFrame x env; theTreesLotGoes x)) _ _ s
 refine wpAny_noted ?_
 rw [compTurn_list]
 refine Nt (wpAny_standAt (Nt (Oh (turn n s hI) (λr s₁ h₁=>?_) λ_ _ f=>f.elim)))
 cases r with
 | none=>exact Nv h₁
 | some v =>
  refine Nt (Oh h₁ (λ_ s₁' h₁'=>?_) λ_ _ f=>f.elim)
  refine Nt (Oh h₁' (λ_ s₂ h₂=>Nt (Oh h₂ (λok s₃ h₃=>?_) λ_ _ f=>f.elim)) λ_ _ f=>f.elim)
  cases ok with
  | false=>exact Nv ⟨rfl,h₃⟩
  | true =>
   exact Nt (Nt (Oh h₃ (λx s₄ h₄=>Nt (Oh h₄ (λ_ s₅ h₅=>Nv (Nv ⟨rfl,h₅⟩)) λ_ _ f=>f.elim)) λ_ _ f=>f.elim))
theorem jE:∀ (ifs:List Expr),Q false s ->
 wpAny (model prog w) A (forIn ifs false λc r=>if r=true then do let ok <- isTrue c env (eval c env); pure (Ot ok) else pure (Ot r)) Q E s
 | [],h=>Nv h
 | t::ts,h=>by
  simp only [Q4,Od,if_false]
  exact Nt (Nv (jE ts h))
theorem sC
 (h:wpAny (model prog w) A (isTrue t env (eval t env)) (λb s'=>if b=true then wpAny (model prog w) A (forIn ts true λc r=>if r=true then do let ok <- isTrue c env (eval c env); pure (Ot ok) else pure (Ot r)) Q E s' else Q false s') E s) :
 wpAny (model prog w) A (forIn (t::ts) true λc r=>if r=true then do let ok <- isTrue c env (eval c env); pure (Ot ok) else pure (Ot r)) Q E s:=by
 simp only [Q4,if_true]
 refine Nt (Nt (Oh h (λb s' hb=>Nv ?_) λ_ _ x=>x))
 cases b with
 | true=>exact hb
 | false=>exact jE ts hb
end
noncomputable def bX (scope sc:Scope):Scope:={ scope with names:=scope.names.map λ(n,k)=>if (k == .free && sc.kind == .function && sc.names.lookup n == some .cell) then (n,.cell) else (n,k) }
theorem qe (h:env.scope=sc):relabel scope env=bX scope sc:=by
 subst h; rfl
noncomputable def Sl.tag (a:Addr):Sl->Sl
 | .ow ds=>.aw a ds | .oT ds=>.aT a ds | .oK ds=>.aK a ds
 | .aw b ds=>.aw b ds | .aT b ds=>.aT b ds | .aK b ds=>.aK b ds | .fo s=>.fo s
 | .un=>.un | .va d=>.va d
inductive xY (t:Str->Addr) (nm:List (Str×NameKind)) (N:List Str) (ρ:List Sl):List Str->List Sl->Prop
 | nil:xY t nm N ρ [] []
 | un {y:Str} {M:List Str} {r:List Sl}:xY t nm N ρ M r->xY t nm N ρ (y::M) (.un::r)
 | fr {y:Str} {i:Nat} {s s':Sl} {M:List Str} {r:List Sl} (hN:At N i y) (hs:At ρ i s) (hy:(y,Pj)∈nm) (ht:s.tag (t y)=s'):xY t nm N ρ M r->xY t nm N ρ (y::M) (s'::r)
theorem xY.len (h:xY t nm N ρ M r):M.length=r.length:=by
 induction h with
 | nil=>rfl
 | un t ih=>simp [ih]
 | fr hN hs hy ht t ih=>simp [ih]
inductive BU:List Sl->List Sl->Prop
 | nil:BU [] []
 | un {r:Sl} {a b:List Sl}:BU a b->BU (.un::a) (r::b)
 | same {r:Sl} {a b:List Sl}:BU a b->BU (r::a) (r::b)
theorem BU.weak (h:BU a b):a.length=b.length/\∀ (i:Nat) (r:Sl),a[i]?=some r->r≠.un->b[i]?=some r:=by
 induction h with
 | nil=>exact ⟨rfl,λi r e=>by simp at e⟩
 | un t ih=>exact ⟨by simp [ih.1],λi r e hu=>by cases i with | zero=>simp at e; exact absurd e.symm hu | succ i=>simpa using ih.2 i r (by simpa using e) hu⟩
 | same t ih=>exact ⟨by simp [ih.1],λi r e hu=>by cases i with | zero=>simpa using e | succ i=>simpa using ih.2 i r (by simpa using e) hu⟩
section
variable {K:Nu}
noncomputable def lQ (c:Ctx P w K mg base k N sc bk):List Expr->List Sl->(Bool->Prop)->Prop
 | [],_,T=>T true
 | t::ts,ρ,T=>jA c t ρ (lP (lQ c ts ρ T) (T false))
theorem mR (hq:c.X.xe=i8):∀ (ifs:List Expr) {H Hf:Hp} {s:Shared},bx c σ H Hf ρ->lQ c ifs ρ T->(∀ b H' ai,T b->bw H Hf H' ai->Q b H')->Inv c.X aa σ H s ->
 wpAny (model c.X.prog c.X.w) c.X.A (forIn ifs true λt r=>if r=true then do let ok <- isTrue t c.X.env (eval t c.X.env); pure (Ot ok) else pure (Ot r)) (TP c.X aa σ Q) i8 s
 | [],H,Hf,s,S,h,q,I=>wpAny_tests_nil ⟨H,I,q true H Hf h (.refl S.sb)⟩
 | t::ts,H,Hf,s,S,h,q,I=>by
  have h0:=h σ H Hf (λb H'=>∃ ai,lP (lQ c ts ρ T) (T false) b/\bw H Hf H' ai) S (λb H' ai hb g=>⟨ai,hb,g⟩) aa s I
  rw [hq] at h0
  refine sC (bC h0 λb s' ⟨H',I',ai,hb,g⟩=>?_)
  cases b with
  | true=>exact mR hq ts (S.cC g) (hb.t rfl) (λb H2 cO hT g2=>q b H2 cO hT (g.trans g2)) I'
  | false=>exact ⟨H',I',q false H' ai (hb.f rfl) g⟩
end
theorem kJ:∀ (names:List (Str×NameKind)) (cs:List (Str×Addr)),(∀ x∈names,x.2=.free->∃ a,env.cells.lookup x.1=some a) ->
 ∃ cl,(forIn names cs (λ(x:Str×NameKind) (r:List (Str×Addr))=>(if (x.2 == Pj)=true then do let a <- cellOf env x.1; pure (Ot ((x.1,a)::r)) else pure (Ot r):Sem (ForInStep (List (Str×Addr))))))=(pure cl:Sem (List (Str×Addr))) /\
  (∀ y a,cl.lookup y=some a->cs.lookup y=some a\/env.cells.lookup y=some a/\(y,Pj)∈names)/\(∀ y a,(y,Pj)∈names\/(∃ b,cs.lookup y=some b/\env.cells.lookup y=some b)->env.cells.lookup y=some a->cl.lookup y=some a)
 | [],cs,_=>⟨cs,rfl,λy a e=>.inl e,λy a h e=>by
  rcases h with h | ⟨b,h1,h2⟩
  ·cases h
  ·rw [e] at h2; cases h2; exact h1⟩
 | (n,kd)::r,cs,h=>by
  by_cases hk:kd=.free
  ·subst hk
   obtain ⟨a,ea⟩:=h (n,.free) NP rfl
   obtain ⟨cl,e1,e2,e3⟩:=kJ r ((n,a)::cs) λx hx=>h x (NK _ hx)
   refine ⟨cl,?_,λy b e=>?_,λy b hy e=>?_⟩
   ·rw [Q4]
    simp only [beq_self_eq_true,if_true,cellOf,ea,pure_bind]
    exact e1
   ·rcases e2 y b e with z | ⟨z1,z2⟩
    ·rw [Tz] at z
     cases q:(y == n) with
     | true =>
      rw [q] at z; cases z
      have:y=n:=by simpa using q
      subst this
      exact .inr ⟨ea,NP⟩
     | false=>rw [q] at z; exact .inl z
    ·exact .inr ⟨z1,NK _ z2⟩
   ·refine e3 y b ?_ e
    rcases hy with hy | ⟨b',h1,h2⟩
    ·rcases NU.mp hy with z | z
     ·cases z; exact .inr ⟨a,by simp,ea⟩
     ·exact .inl z
    ·refine .inr ⟨b',?_,h2⟩
     rw [Tz]
     cases q:(y == n) with
     | true =>
      have:y=n:=by simpa using q
      subst this
      rw [ea] at h2; exact h2
     | false=>exact h1
  ·have hb:(kd == Pj)=false:=by simpa using hk
   obtain ⟨cl,e1,e2,e3⟩:=kJ r cs λx hx=>h x (NK _ hx)
   refine ⟨cl,?_,λy b e=>?_,λy b hy e=>?_⟩
   ·rw [Q4]
    simp only [hb,Od,if_false,pure_bind]
    exact e1
   ·rcases e2 y b e with z | ⟨z1,z2⟩
    ·exact .inl z
    ·exact .inr ⟨z1,NK _ z2⟩
   ·refine e3 y b ?_ e
    rcases hy with hy | hy
    ·rcases NU.mp hy with z | z
     ·cases z; exact absurd rfl hk
     ·exact .inl z
    ·exact .inr hy
theorem CP (h:∀ x∈scope.names,x.2=.free->∃ a,env.cells.lookup x.1=some a) :
 ∃ cl,closureFor scope env=pure cl/\(∀ y a,cl.lookup y=some a->env.cells.lookup y=some a/\(y,Pj)∈scope.names)/\(∀ y a,(y,Pj)∈scope.names->env.cells.lookup y=some a->cl.lookup y=some a):=by
 obtain ⟨cl,e1,e2,e3⟩:=kJ scope.names [] h
 refine ⟨cl,?_,λy a e=>?_,λy a hy e=>e3 y a (.inl hy) e⟩
 ·unfold closureFor
  have e1':=congrArg (· >>= λcs=>(pure cs:Sem _)) e1
  simp only [pure_bind] at e1'
  exact e1'
 ·rcases e2 y a e with z | z
  ·simp at z
  ·exact z
section
variable {P:Program} {w:World} {K:Nu} {mg:Str->Option Value} {base:Heap} {k:Nat} {N:List Str} {sc:Scope} {bk:Bool} {c:Ctx P w K mg base k N sc bk} {ρ:List Sl} {pos:Pos}
def zk (c:Ctx P w K mg base k N sc bk) (tg:Expr) (ifs:List Expr) (elt:Expr) (ρ0:List Sl) (d:D) (o:Option D):Prop :=
 pq c tg d ρ0 λρ1=>BU ρ0 ρ1/\lQ c ifs ρ1 (lP (aI c elt ρ1 λe=>o=some e) (o=none))
theorem iG {nm:List (Str×NameKind)}:∀ {y:Str} {kd:NameKind},(nm.map λ(x:Str×NameKind)=>match x with | (n,k)=>(if (k == .free && sc.kind == .function && sc.names.lookup n == some .cell)=true then (n,NameKind.cell) else (n,k))).lookup y=some kd->∃ k0,(y,k0)∈nm/\(kd=k0\/kd=.cell/\k0=.free):=by
 induction nm with
 | nil=>intro y kd h; simp at h
 | cons x r ih =>
  obtain ⟨n,k0⟩:=x
  intro y kd h
  rw [NF,Tz] at h
  by_cases e:(k0 == .free && sc.kind == .function && sc.names.lookup n == some .cell)=true
  ·simp only [e,if_true] at h
   cases q:(y == n) with
   | true =>
    rw [q] at h; cases h
    have:y=n:=by simpa using q
    subst this
    have hf:k0=.free:=by simp only [QX,beq_iff_eq] at e; exact e.1.1
    exact ⟨k0,NP,.inr ⟨rfl,hf⟩⟩
   | false=>rw [q] at h; obtain ⟨k1,h1,h2⟩:=ih h; exact ⟨k1,NK _ h1,h2⟩
  ·simp only [e,Od,if_false] at h
   cases q:(y == n) with
   | true =>
    rw [q] at h; cases h
    have:y=n:=by simpa using q
    subst this
    exact ⟨k0,NP,.inl rfl⟩
   | false=>rw [q] at h; obtain ⟨k1,h1,h2⟩:=ih h; exact ⟨k1,NK _ h1,h2⟩
theorem xY.start {σ:L2.St} (h:xY t nm N ρ M r) (hσ:∀ (i:Nat) (s:Sl),ρ[i]?=some s->s≠.un->∃ v,σ[i]?=some (some v)) :
 ∃ σ0:L2.St,σ0.length=r.length/\∀ (j:Nat) (s:Sl),r[j]?=some s->(s=.un/\σ0[j]?=some none)\/∃ (i:Nat) (y:Str) (v:V) (s0:Sl),M[j]?=some y/\(y,Pj)∈nm/\N[i]?=some y/\ρ[i]?=some s0/\s=s0.tag (t y)/\s0≠.un/\σ[i]?=some (some v)/\σ0[j]?=some (some v):=by
 induction h with
 | nil=>exact ⟨[],rfl,λj s e=>by simp at e⟩
 | un t ih =>
  obtain ⟨σ0,hl,h0⟩:=ih
  refine ⟨none::σ0,by simp [hl],λj s e=>?_⟩
  cases j with
  | zero=>simp at e; exact .inl ⟨e.symm,by simp⟩
  | succ j =>
   rcases h0 j s (by simpa using e) with ⟨h1,h2⟩ | ⟨i,y,v,s0,h1,h2,h3,h4,h5,h6,h7,h8⟩
   ·exact .inl ⟨h1,by simpa using h2⟩
   ·exact .inr ⟨i,y,v,s0,by simpa using h1,h2,h3,h4,h5,h6,h7,by simpa using h8⟩
 | @fr y i s' s'' M r hN hs hy ht t ih =>
  obtain ⟨σ0,hl,h0⟩:=ih
  by_cases hu:s'=.un
  ·refine ⟨none::σ0,by simp [hl],λj s e=>?_⟩
   cases j with
   | zero=>simp at e; subst hu; exact .inl ⟨e.symm.trans ht.symm,by simp⟩
   | succ j =>
    rcases h0 j s (by simpa using e) with ⟨h1,h2⟩ | ⟨i,y,v,s0,h1,h2,h3,h4,h5,h6,h7,h8⟩
    ·exact .inl ⟨h1,by simpa using h2⟩
    ·exact .inr ⟨i,y,v,s0,by simpa using h1,h2,h3,h4,h5,h6,h7,by simpa using h8⟩
  ·obtain ⟨v,ev⟩:=hσ i s' hs.get hu
   refine ⟨some v::σ0,by simp [hl],λj s e=>?_⟩
   cases j with
   | zero=>simp at e; subst e; exact .inr ⟨i,y,v,s',by simp,hy,hN.get,hs.get,ht.symm,hu,ev,by simp⟩
   | succ j =>
    rcases h0 j s (by simpa using e) with ⟨h1,h2⟩ | ⟨i,y,v,s0,h1,h2,h3,h4,h5,h6,h7,h8⟩
    ·exact .inl ⟨h1,by simpa using h2⟩
    ·exact .inr ⟨i,y,v,s0,by simpa using h1,h2,h3,h4,h5,h6,h7,by simpa using h8⟩
noncomputable def Sl.adr:Sl->Option Addr | .aw a _=>some a | .aT a _=>some a | .aK a _=>some a | _=>none
theorem mS {s:Sl}:(s.tag a).owned=s.owned:=by cases s <;> rfl
theorem CQ {s:Sl} (h:s.owned=true):∃ b,(s.tag a).adr=some b:=by cases s <;> first | exact ⟨_,rfl⟩ | cases h
theorem uF (hv:s.owned=true->v=.ref a) (h:bu K fr H Hf s v):bu K fr H Hf (s.tag a) v:=by
 cases s with
 | ow ds=>obtain ⟨p,xs,e,f,r⟩:=h; exact ⟨p,xs,e,⟨f,by have:=hv rfl; rw [e] at this; cases this; rfl⟩,r⟩
 | oT ds=>obtain ⟨p,xs,e,f,r⟩:=h; exact ⟨p,xs,e,⟨f,by have:=hv rfl; rw [e] at this; cases this; rfl⟩,r⟩
 | oK ds=>obtain ⟨p,xs,e,f,r⟩:=h; exact ⟨p,xs,e,⟨f,by have:=hv rfl; rw [e] at this; cases this; rfl⟩,r⟩
 | _=>exact h
theorem uG (hb:s.adr=some b) (h:bu K fr H Hf s (.ref p)):p=b:=by
 cases s with
 | aw a ds=>cases hb; obtain ⟨q,xs,e,f,r⟩:=h; cases e; exact f.2
 | aT a ds=>cases hb; obtain ⟨q,xs,e,f,r⟩:=h; cases e; exact f.2
 | aK a ds=>cases hb; obtain ⟨q,xs,e,f,r⟩:=h; cases e; exact f.2
 | _=>cases hb
theorem eG.apart (S:eG K H₀ eO σ H Hf ρ) (h0:H₀ a=none) (hf:Hf a=none) (nf:¬ yF H a) (ha:∀ (i:Nat) (r:Sl),ρ[i]?=some r->r.owned=true->σ[i]?≠some (some (.ref a))):eG K H₀ eO σ (L2.upd H a o) Hf ρ :=
 ⟨⟨λb u e=>by rw [L2.av (aE e h0)]; exact S.bas.s b u e,S.bas.f,λb u e=>by rw [L2.av (aE e hf)]; exact S.bas.b b u e,S.bas.n⟩,S.len,λi r hi hu=>by
   obtain ⟨v,e,q⟩:=S.at_ i r hi hu
   refine ⟨v,e,?_⟩
   have hg:bw (del H a) Hf (L2.upd H a o) Hf:=fh S.bas.b hf
   exact (q.J2 (p:=a) nf λow z=>by subst z; exact ha i r hi ow e).cC hg,S.sep⟩
theorem uH (g:bw H1 aQ H' ai) (h1:H1 a=none) (hf:ai a=none):bw H1 aQ (upd H' a o) ai :=
 ⟨λb u e=>by rw [av (aE e h1)]; exact g.s b u e,g.f,λb u e=>by rw [av (aE e hf)]; exact g.b b u e,g.n⟩
section
variable {K:Nu} {H Hf H' ai:Hp}
noncomputable abbrev Fp:=List (Addr×List V)
mutual
theorem dF.fz:∀ (s:Sh) {v:V} {fp:Fp},dF K H Hf s v fp->∀ a∈fp,H a.1=some (pl a.1 a.2)/\Hf a.1=none
 | .v d,_,_,h=>by simp only [dF] at h; obtain ⟨_,rfl⟩:=h; intro a ha; cases ha
 | .l ds,_,_,h=>by
  simp only [dF] at h
  obtain ⟨p,xs,e,h1,h2,h3,rfl⟩:=h
  intro a ha
  obtain rfl:=NN.mp ha
  exact ⟨h1,h2⟩
 | .la p ds,_,_,h=>by
  simp only [dF] at h
  obtain ⟨xs,e,h1,h2,h3,rfl⟩:=h
  intro a ha
  obtain rfl:=NN.mp ha
  exact ⟨h1,h2⟩
 | .t ss,_,_,h=>by
  simp only [dF] at h
  obtain ⟨a,xs,e,h1,h2⟩:=h
  exact bh.fz ss h2
 | .ls ss,_,_,h=>by
  simp only [dF] at h
  obtain ⟨p,xs,fq,e,h1,h2,h3,rfl⟩:=h
  intro a ha
  rcases NU.mp ha with rfl | ha
  ·exact ⟨h1,h2⟩
  ·exact bh.fz ss h3 a ha
theorem bh.fz:∀ (ss:List Sh) {xs:List V} {fp:Fp},bh K H Hf ss xs fp->∀ a∈fp,H a.1=some (pl a.1 a.2)/\Hf a.1=none
 | [],_,_,h=>by simp only [bh] at h; obtain ⟨_,rfl⟩:=h; intro a ha; cases ha
 | s::ss,_,_,h=>by
  simp only [bh] at h
  obtain ⟨x,r,f1,f2,e,h1,h2,rfl⟩:=h
  intro a ha
  rcases N3.mp ha with ha | ha
  ·exact dF.fz s h1 a ha
  ·exact bh.fz ss h2 a ha
end
end
noncomputable def Sl.sh:Sl->Option Sh | .va d=>some (.v d) | .fo s=>some s | _=>none
theorem GW {H H' ai:Hp} (e:r.sh=some s) (h:bu K (λp=>H p=none) H' ai r v):∃ fp,dF K H' ai s v fp/\(fp.map (·.1)).Nodup/\∀ a∈fp,H a.1=none:=by
 cases r with
 | va d=>cases e; exact ⟨[],by simp only [dF]; exact ⟨h,trivial⟩,by simp,by intro a ha; cases ha⟩
 | fo s=>cases e; exact h
 | _=>cases e
theorem bh.snoc (h:dF K H Hf s v fp):∀ {ss:List Sh} {vs:List V} {fq:Fp},bh K H Hf ss vs fq->bh K H Hf (ss++[s]) (vs++[v]) (fq++fp)
 | [],_,_,q=>by
  simp only [bh] at q
  obtain ⟨rfl,rfl⟩:=q
  simp only [QZ,bh]
  exact ⟨v,[],fp,[],rfl,h,⟨rfl,rfl⟩,(OD _).symm⟩
 | s'::ss,_,_,q=>by
  simp only [bh] at q
  obtain ⟨x,r,f1,f2,rfl,h1,h2,rfl⟩:=q
  have:=bh.snoc h h2
  simp only [Qa,bh]
  exact ⟨x,r++[v],f1,f2++fp,rfl,h1,this,N7 _ _ _⟩
def zm (c:Ctx P w K mg base k N sc bk) (tg:Expr) (ifs:List Expr) (elt:Expr) (ρ0:List Sl) (d:D) (o:Option Sh):Prop :=
 pq c tg d ρ0 λρ1=>BU ρ0 ρ1/\lQ c ifs ρ1 (lP (cW c elt ρ1 λr=>∃ z,o=some z/\r.sh=some z) (o=none))
abbrev Mp (scope sc:Scope) (N':List Str):Prop:=scope.kind=.function/\(∀ x∈scope.names,x.2≠.cell)/\(∀ x∈scope.names,x.2=.local->scope.names.lookup x.1=some .local)/\(∀ x∈scope.names,x.2=.free->sc.names.lookup x.1=some .cell)/\N'.Nodup/\(∀ x∈N',(bX scope sc).names.lookup x=some .local\/(bX scope sc).names.lookup x=some .cell)/\∀ x∈scope.names,x.2=.free->(bX scope sc).names.lookup x.1=some .cell
theorem CS {elt tg iter:Expr} {ifs:List Expr} {scope:Scope} {N':List Str} {ρ0:(Str->Addr)->List Sl} {R:List Sh->Prop} (hq:c.X.xe=i8) (hfr:∀ t,xY t scope.names N ρ N' (ρ0 t))
 (h:CK c tg iter ρ λds=>Sd (ds.length<=sizeLine) (∃ os:List (Option Sh),os.length=ds.length /\
   (∀ c':Ctx P w K mg base k N' (bX scope sc) true,c'.X.xe=i8->∀ (t:Str->Addr) (i:Nat) (d:D) (o:Option Sh),ds[i]?=some d->os[i]?=some o->zm c' tg ifs elt (ρ0 t) d o)/\R (os.filterMap id)))
 (hcp:Mp scope sc N':=by decide +kernel)
 (hs:∀ env v,foldedSetIterable iter env v=pure v:=by intro _ _; walk_at "u")
 {σ:L2.St} {H Hf:Hp} (S:bx c σ H Hf ρ) {aa:List (Addr×Obj)} {s:Shared} (I:Inv c.X aa σ H s) {use:Option (Value->Sem Unit)} {QQ:Value->Shared->Prop}
 (kont:∀ (s':Shared) (H' ai:Hp) (a C:Addr) (ss:List Sh) (vs:List V) (fq:Fp),R ss->(∃ m,s'.heap.Ns C m)->C∉c.X.fs->fG c.X aa H' C->H a=none->H' a=some (.lst vs)->ai a=none->bh c.X.K H' ai ss vs fq->(fq.map (·.1)).Nodup->(∀ b∈fq,H b.1=none)->bw H Hf H' ai->(∀ h5,O3 C s'.heap h5->Inv c.X aa σ H' { s' with heap:=h5 })->compPost (model c.X.prog c.X.w) c.X.A i8 use QQ (.ref a) C (.ok .next) s') :
 wpAny (model c.X.prog c.X.w) c.X.A (comprehension (.ListComp elt [⟨tg,iter,ifs,0⟩] scope pos) scope c.X.env (firstIterPos [⟨tg,iter,ifs,0⟩] pos) (newList []) (firstAsync [⟨tg,iter,ifs,0⟩]) (firstIter [⟨tg,iter,ifs,0⟩] c.X.env) use) QQ i8 s:=by
 obtain ⟨hk,hnc,hnl,hfree,hnd,hv,hvf⟩:=hcp
 have hI:=h σ H Hf (λJ H1=>∃ ds aQ,Sd (ds.length<=sizeLine) (∃ os:List (Option Sh),os.length=ds.length /\
  (∀ c':Ctx P w K mg base k N' (bX scope sc) true,c'.X.xe=i8->∀ (t:Str->Addr) (i:Nat) (d:D) (o:Option Sh),ds[i]?=some d->os[i]?=some o->zm c' tg ifs elt (ρ0 t) d o)/\R (os.filterMap id))/\bw H Hf H1 aQ/\jd c.X.K J ds aQ) S (λds J H' ai hR g io=>⟨ds,ai,hR,g,io⟩) aa s I
 rw [hq] at hI
 have hcells:∀ x∈scope.names,x.2=.free->∃ a,c.X.env.cells.lookup x.1=some a:=λx hx hf=>I.ok.has x.1 (.inl (by unfold Ov; rw [c.esc]; exact hfree x hx hf))
 obtain ⟨cl,hclos,xV,hcl2⟩:=CP hcells
 refine wpAny_comprehension_free (cl:=cl) (use:=use) rfl (hs _) hclos hk hnl ?_
 refine bC (show wpAny _ _ (eval iter c.X.env) _ _ _ from hI) λv s1 h1=>bC h1 λitv s2 hh=>z5 hh λit fp tn J H1 hh=>w6 hh λe0 I1 Tn t0 hfp hh=>z2 hh λds aQ hh=>w3 hh λhz g io=>?_
 obtain ⟨hz,os,hh⟩:=hz
 refine w3 hh λhol hb hR=>?_
 subst e0
 have hcell':∀ y∈scope.names,y.2≠.cell:=hnc
 refine OJ (wpAny_newFunctionEnv hcell' (by intro y hy; simp at hy) (λh4 hns hsb=>?_) hk)
 dsimp only at hns hsb |-
 generalize hDe:s2.heap.objs.size=Da at *
 have k3:∀ b u,s2.heap.get? b=some u->(s2.heap.push { cls:=.type "list",dict:=none,data:=.seq ([]:List Value).toArray }).get? b=some u:=λb u e=>NC _ e
 generalize hH3:s2.heap.push { cls:=.type "list",dict:=none,data:=.seq ([]:List Value).toArray }=h3 at *
 have hCe:h3.objs.size=Da+1:=by rw [<- hH3,Py,hDe]
 have hgD:h3.get? Da=some { cls:=.type "list",dict:=none,data:=.seq ([]:List Value).toArray }:=by rw [<- hH3,<- hDe]; exact NL _ rfl
 have tS:H1 Da=none:=by rw [<- hDe]; exact I1.hok.fresh (Ny _)
 have I3:Inv c.X aa σ (upd H1 Da (.lst [])) { s2 with heap:=h3,toks:=s2.toks }:=I1.laid (a:=Da) (o:=.lst []) (t':=s2.toks) k3 (by rw [hDe]; exact Ny _) ⟨N1 _,[],0,.nil,hgD⟩
 have fpne:∀ b∈fp,b≠Da:=λb hb z=>by
  obtain ⟨o,e,_⟩:=Tn.obj _ _ t0 b hb
  subst z
  exact absurd (NG e) (by rw [hDe]; exact OW _)
 have fplt:∀ b∈fp,b<h3.objs.size:=λb hb=>by
  obtain ⟨o,e,_⟩:=Tn.obj _ _ t0 b hb
  exact NG (k3 b o e)
 let s3:Shared:={ s2 with heap:=h3,toks:=s2.toks }
 let H2:Hp:=upd H1 Da (.lst [])
 let X':Cx:={ prog:=c.X.prog,w:=c.X.w,K:=c.X.K,mg:=c.X.mg,base:=c.X.base,A:=c.X.A,N:=N',s₀:=s3,H₀:=H2,env:=compEnvC scope cl h3.objs.size c.X.env,outer:=c.X.stack,stack:=c.X.stack,ex:=fp,fn:=λ_=>false,calm:=true,pn:=[],xe:=i8 }
 have S1:=S.cC g
 have S2:bx c σ H2 aQ ρ:=S1.cC (bw.dZ g.b tS)
 obtain ⟨t,ht⟩:∃ t:Str->Addr,∀ (i:Nat) (y:Str) (p:Addr),N[i]?=some y->σ[i]?=some (some (.ref p))->t y=p:=by
  classical
  refine ⟨λy=>if h:∃ (i:Nat) (p:Addr),N[i]?=some y/\σ[i]?=some (some (.ref p)) then h.choose_spec.choose else 0,λi y p e1 e2=>?_⟩
  have h:∃ (i:Nat) (p:Addr),N[i]?=some y/\σ[i]?=some (some (.ref p)):=⟨i,p,e1,e2⟩
  show (if h:_ then _ else _)=p
  rw [dif_pos h]
  obtain ⟨e3,e4⟩:=h.choose_spec.choose_spec
  have hi:h.choose<N.length:=(NJ.mp e3).1
  have e5:h.choose=i:=(List.getElem?_inj hi c.nd).mp (e3.trans e1.symm)
  have e6:=(congrArg (λz=>σ[z]?) e5).symm.trans e4
  rw [show σ[i]?=some (some (.ref p)) from e2] at e6
  have e4:=e6
  exact (V.ref.inj (O5 (O5 e4))).symm
 have hfr:=hfr t
 generalize hρ:ρ0 t=ρt at hfr
 obtain ⟨σ0,hσl,hσ0⟩:=hfr.start (σ:=σ) λi s e hu=>let ⟨v,e2,_⟩:=S2.at_ i s e hu; ⟨v,e2⟩
 have k4:∀ b u,h3.get? b=some u->h4.get? b=some u:=λb u e=>hsb.extBut b u (N4 (NG e)) (NC _ e)
 have hsc:X'.env.scope=bX scope sc:=qe c.esc
 have okX:X'.Ok:={
  mod:=I3.ok.mod
  kind:=hk
  glob:=I3.ok.glob
  blt:=I3.ok.blt
  above:=Ny _
  inj:=λx y a e1 e2=>I3.ok.inj x y a (xV x a e1).1 (xV y a e2).1
  has:=λx hx=>by
   have key:(x,Pj)∈scope.names:=by
    have hx':(bX scope sc).names.lookup x=some .cell\/(bX scope sc).names.lookup x=some .free:=by
     unfold Ov at hx; rw [hsc] at hx; exact hx
    rcases hx' with hx' | hx'
    ·obtain ⟨k0,h1,h2⟩:=iG hx'
     rcases h2 with h2 | ⟨_,h2⟩
     ·subst h2; exact absurd rfl (hnc _ h1)
     ·subst h2; exact h1
    ·obtain ⟨k0,h1,h2⟩:=iG hx'
     rcases h2 with h2 | ⟨h2,_⟩
     ·subst h2; exact h1
     ·cases h2
   obtain ⟨a,ea⟩:=hcells _ key rfl
   exact ⟨a,hcl2 x a key ea⟩
  cab:=λx a hf=>by cases hf
  hd:=λ_=>I3.ok.hd c.calm
  frames:=I3.ok.frames
  stk:=.inl rfl
  exf:=λb hb=>⟨N4 (fplt b hb),λx a ea=>(hfp b hb).2.2.2.2.1 x a (xV x a ea).1⟩
  bs:=I3.bs
  bsz:=NI I3.ok.bsz I3.sz
  noex:=λb o e hb=>by
   rcases (hfp b hb).2.2.2.1 with z | z
   ·exact I3.ok.noex b o e z
   ·exact absurd (Ol (NG e) (NI I3.ok.bsz z)) (OW _)
  exfs:=λb hb m=>by
   rcases NU.mp (I3.rR b m) with z | z
   ·exact (hfp b hb).2.1 z
   ·exact (hfp b hb).2.2.1 z
  i9:=I3.stack
  frf:=I3.tT }
 have I4:Inv X' [] σ0 H2 { s2 with heap:=h4,toks:=s2.toks+([]:List (Str×Value)).length }:={
  ok:=okX
  os:=rfl
  bare:=I3.bare
  base:=Un.kept k4
  loc:=⟨_,hns,λj y v hy hv' _=>by
   have hj:j<ρt.length:=by
    have:=(NJ.mp hv').1
    rw [hσl] at this; exact this
   rcases hσ0 j ρt[j] (NX hj) with ⟨_,z⟩ | hh
   ·rw [z] at hv'; cases hv'
   ·refine z4 hh λi y' v' s0 hh=>w8 hh λh1 h2 h3' h4' hs5 hs6 h5 h6=>?_
    rw [h6] at hv'; cases hv'
    have hy':N'[j]?=some y:=hy
    rw [h1] at hy'; cases hy'
    obtain ⟨m0,hm0,hl⟩:=I3.loc
    have hkc:c.X.env.kindOf y=some .cell:=by unfold Ov; rw [c.esc]; exact hfree _ h2 rfl
    obtain ⟨u,r,lk⟩:=hl i y v (by rw [c.eN]; exact h3') h5 (.inr (.inl hkc))
    refine ⟨u,r,?_⟩
    rcases lk with ⟨q1,_⟩ | ⟨_,a,e1,e2⟩
    ·rw [hkc] at q1; cases q1
    ·refine .inr ⟨.inl ?_,a,hcl2 _ a h2 e1,?_⟩
     ·show List.lookup y X'.env.scope.names=_
      rw [hsc]; exact hvf _ h2 rfl
     ·obtain ⟨oc,e3,e4⟩:=e2
      exact ⟨oc,k4 _ _ e3,e4⟩⟩
  cell:=λx a ea=>by
   obtain ⟨v',oc,e3,e4⟩:=I3.cell x a (xV x a ea).1
   exact ⟨v',oc,k4 _ _ e3,e4⟩
  free:=I3.hok.fresh (Ny _)
  freeC:=λx a ea=>I3.freeC x a (xV x a ea).1
  pin:=λq hq'=>by simp at hq'; cases hq'
  hok:=I3.hok.kept k4
  len:=by rw [hσl]; exact hfr.len.symm }
 let c':Ctx P w K mg base k N' (bX scope sc) true :=
  { X:=X',eP:=c.eP,ew:=c.ew,eK:=c.eK,emg:=c.emg,eb:=c.eb,eN:=rfl,esc:=hsc,calm:=rfl,top:=λz=>(by cases z),cb:=λz=>(by cases z),fn:=λx hx=>.inr (by rw [hsc]; exact hx.resolve_left (λz=>by cases z)),room:=c.room,nd:=hnd,vis:=hv,
    Hf:=c.Hf,B:=c.B,RX:=λ_ _=>False,exc:=λ_ _ _ _ _ _ _ _ _ _ _ _ h _ _=>h.elim,RM:=λ_ _=>False,mde:=λ_ _ _ _ _ _ _ _ _ _ _ _ h _=>h.elim }
 have hN0:N'.length=ρt.length:=hfr.len
 have S4:bx c' σ0 H2 aQ ρt:=by
  refine ⟨S2.bas,hσl,λj r hj hu=>?_,λj j' r r' p hne e1 e2 o1 o2 f1 f2=>?_⟩
  ·rcases hσ0 j r hj with ⟨z,_⟩ | hh
   ·exact absurd z hu
   ·refine z4 hh λi y v s0 hh=>w8 hh λh1 h2 h3' h4' hs5 hs6 h5 h6=>?_
    obtain ⟨v',e3,q3⟩:=S2.at_ i s0 h4' hs6
    rw [h5] at e3; cases e3
    subst hs5
    exact ⟨v,h6,uF (λow=>by
     obtain ⟨p,_,rfl,_⟩:=q3.p8 ow
     rw [ht i y p h3' h5]) q3⟩
  ·have u1:r≠.un:=by rintro rfl; cases o1
   have u2:r'≠.un:=by rintro rfl; cases o2
   rcases hσ0 j r e1 with ⟨z,_⟩ | hh
   ·exact u1 z
   rcases hσ0 j' r' e2 with ⟨z,_⟩ | hh'
   ·exact u2 z
   refine z4 hh λi y v s0 hh=>w8 hh λh1 h2 h3' h4' hs5 hs6 h5 h6=>z4 hh' λi' y' v' s0' hh'=>w8 hh' λh1' h2' h3'' h4'' hs5' hs6' h5' h6'=>?_
   rw [f1] at h6; cases h6
   rw [f2] at h6'; cases h6'
   have hii:i≠i':=λz=>by
    subst z
    rw [h3'] at h3''; cases h3''
    have a1:j<N'.length:=(NJ.mp h1).1
    exact hne ((List.getElem?_inj a1 hnd).mp (h1.trans h1'.symm))
   subst hs5; subst hs5'
   rw [mS] at o1 o2
   exact S2.sep i i' s0 s0' p hii h4' h4'' o1 o2 h5 h5'
 have howA:∀ (j:Nat) (r:Sl),ρt[j]?=some r->r.owned=true->∃ b,r.adr=some b/\b≠Da:=λj r hj ho=>by
  rcases hσ0 j r hj with ⟨z,_⟩ | hh
  ·subst z; cases ho
  ·refine z4 hh λi y v s0 hh=>w8 hh λh1 h2 h3' h4' hs5 hs6 h5 h6=>?_
   subst hs5
   rw [mS] at ho
   obtain ⟨b,eb⟩:=CQ (a:=t y) ho
   refine ⟨b,eb,λz=>?_⟩
   obtain ⟨v',e3,q3⟩:=S1.at_ i s0 h4' hs6
   obtain ⟨p,o,e4,_,e5,_⟩:=q3.p8 ho
   subst e4
   have q4:=uF (a:=t y) (λ_=>by rw [ht i y p h3' e3]) q3
   have:=uG eb q4
   rw [this,z,tS] at e5; cases e5
 have hB0:c.B Da=none:=S1.bas.s.free tS
 have fps:∀ {H':Hp},(∀ b∈fp,H' b=none)->∀ b∈fp,fG X' [] H' b:=λhn b hb =>
  ⟨hn b hb,N4 (fplt b hb),okX.exfs b hb,.inl hb,λx a ea=>(hfp b hb).2.2.2.2.1 x a (xV x a ea).1,λp hp=>by cases hp⟩
 have fin:∀ (s':Shared) (σ':L2.St) (H' ai:Hp) (vs:List V) (fq:Fp),Inv X' [] σ' H' s'->bw H1 aQ H' ai->H' Da=some (.lst vs)->ai Da=none->bh c.X.K H' ai (os.filterMap id) vs fq->(fq.map (·.1)).Nodup->(∀ b∈fq,H1 b.1=none) ->
  compPost (model c.X.prog c.X.w) c.X.A i8 use QQ (.ref Da) h3.objs.size (.ok .next) s':=λs' σ' H' ai vs fq I' g' hD hfD hr hnd2 hfr2=>by
  obtain ⟨m,hm,_⟩:=I'.loc
  have hCX:h3.objs.size∉c.X.fs:=I3.Jb (Ny _)
  have hCf:fG c.X aa H' h3.objs.size:=by
   refine ⟨I'.free,λz=>?_,hCX,.inr I3.sz,λx a ea z=>?_,λp hp z=>?_⟩
   ·obtain ⟨m0,hm0,_⟩:=I3.loc
    obtain ⟨o,_,_,e,_⟩:=hm0
    exact absurd (NG e) (by rw [<- z]; exact OW _)
   ·obtain ⟨v',oc,e,_⟩:=I3.cell x a ea
    exact absurd (NG e) (by rw [z]; exact OW _)
   ·exact absurd (NG (I3.pin p hp).1) (by rw [z]; exact OW _)
  refine kont s' H' ai Da h3.objs.size (os.filterMap id) vs fq hR ⟨m,hm⟩ hCX hCf (g.s.free tS) hD hfD hr hnd2 (λb hb=>g.s.free (hfr2 b hb)) (g.trans g') λh5 xW=>?_
  have ub:Un (frs c.X.stack) fp H2 H' s3.heap h5:=by
   have u:=I'.base
   have ne:∀ b o,s3.heap.get? b=some o->b≠h3.objs.size:=λb o e=>N4 (NG e)
   refine ⟨λb o e n hf hx=>(xW.2 b (ne b o e)).trans (u.keep b o e n hf hx),λb o e n hf hx=>?_,u.free,λb o e hx=>?_,u.tups,u.frzs,u.tbls⟩
   ·obtain ⟨sl,e2⟩:=u.slot b o e n hf hx
    exact ⟨sl,(xW.2 b (ne b o e)).trans e2⟩
   ·obtain ⟨o',e2⟩:=u.there b o e hx
    exact ⟨o',(xW.2 b (ne b o e)).trans e2⟩
  have hokf:i7 c.X.prog c.X.w H' h5:=λb u e=>(I'.hok b u e).stay (λa o ha e2=>by
   refine (xW.2 a ?_).trans e2
   intro z; subst z
   have hfree':H' h3.objs.size=none:=I'.free
   rcases ha with z | z
   ·subst z; rw [hfree'] at e; cases e
   ·rw [hfree'] at z; cases z) (λ_ z=>z) λ_ _ z=>z
  exact I3.Jc (ch:=fp) I'.os ub hokf I'.bare λb hb=>⟨(hfp b hb).2.2.2.1,(hfp b hb).2.1,(hfp b hb).2.2.2.2.1,(hfp b hb).2.2.2.2.2⟩
 have loop:codeAny (model c.X.prog c.X.w) c.X.A (.compLoop (.ListComp elt [⟨tg,iter,ifs,0⟩] scope pos) 0 (.ref it) (.ref Da) X'.env) (compPost (model c.X.prog c.X.w) c.X.A i8 use QQ (.ref Da) h3.objs.size) { s2 with heap:=h4,toks:=s2.toks+([]:List (Str×Value)).length }:=by
  refine nY (λn s'=>∃ (i:Nat) (σ':L2.St) (H' ai:Hp) (vs:List V) (fq:Fp),n=ds.length - i/\i<=ds.length/\Inv X' [] σ' H' s'/\tn i s'.heap/\bx c' σ' H' ai ρt/\bw H1 aQ H' ai/\H' Da=some (.lst vs)/\ai Da=none/\bh c.X.K H' ai ((os.take i).filterMap id) vs fq/\(fq.map (·.1)).Nodup/\(∀ b∈fq,H1 b.1=none)/\vs.length<=i/\∀ b∈fp,H' b=none) ?_ ds.length
   ⟨0,σ0,H2,aQ,[],[],by simp,N1 _,I4,Tn.keep _ _ _ t0 λb hb o e=>k4 b o (k3 b o e),S4,bw.dZ g.b tS,af,g.b.free tS,by simp [bh],List.nodup_nil,(λb hb=>by cases hb),Ny _,λb hb=>by show upd H1 Da _ b=none; rw [av (fpne b hb)]; exact (hfp b hb).1⟩
  refine λn s5 hh=>z5 hh λi σ5 H5 Hf5 vs hh=>hh.elim λfq hh=>w6 hh λen hi I5 t5 S5 hh=>w6 hh λg5 hD5 hfD5 hr5 hnd5 hh=>w3 hh λhfr5 hlv fr5=>?_
  subst en
  by_cases hlt:i<ds.length
  ·have ed:ds[i]?=some ds[i]:=NX hlt
   have eo:os[i]?=some (os[i]'(by rw [hol]; exact hlt)):=NX _
   generalize ds[i]=d at ed
   generalize os[i]'(by rw [hol]; exact hlt)=o at eo
   obtain ⟨hgo,hy⟩:=io.go i d H5 Hf5 g5.f g5.b ed
   refine bC (Tn.item X' rfl rfl rfl rfl i [] s5 σ5 H5 i8 I5 (fps fr5) t5 hgo) λr s6 hh=>hh.elim λu hh=>w2 hh λhr h6=>?_
   subst hr
   refine bC h6 λ_ s7 hh=>z2 hh λx H7 hh=>w5 hh λI7 rx y7 t7 fr7=>?_
   obtain ⟨Hf7,g7,rx7⟩:=hy x H7 y7
   have I7':=I7.pinned (fps fr7) (Tn.obj _ _ t7)
   have S7:bx c' σ5 H7 Hf7 ρt:=S5.cC g7
   have hasg0:=hb c' rfl t i d o ed eo
   rw [hρ] at hasg0
   have hasg:=hasg0 σ5 H7 Hf7 x (λσ2 H2'=>∃ cO ρ1,bx c' σ2 H2' cO ρ1/\bw H7 Hf7 H2' cO/\BU ρt ρ1/\lQ c' ifs ρ1 (lP (cW c' elt ρ1 λr=>∃ z,o=some z/\r.sh=some z) (o=none))) S7 rx7 (λσ2 H2' cO ρ1 S' g' hw=>⟨cO,ρ1,S',g',hw⟩) _ s7 u I7' rx
   refine bC (show wpAny _ _ _ _ i8 _ from hasg) λ_ s8 hh=>z2 hh λσ8 H8 hh=>w2 hh λI8 hh=>z2 hh λHf8 ρ8 hh=>w4 hh λS8 g8 w8 hC8=>?_
   refine bC (mR (c:=c') rfl ifs S8 hC8 (Q:=λb H'=>∃ ai,lP (cW c' elt ρ8 λr=>∃ z,o=some z/\r.sh=some z) (o=none) b/\bw H8 Hf8 H' ai) (λb H' ai hb' g'=>⟨ai,hb',g'⟩) I8) λb s9 hh=>hh.elim λH9 hh=>w2 hh λI9 hh=>hh.elim λHf9 hh=>w2 hh λhb9 g9=>?_
   have g79:=(g7.trans g8).trans g9
   have hD9:H9 Da=some (.lst vs):=g79.s _ _ hD5
   have hfD9:Hf9 Da=none:=g79.n Da hfD5 (by rw [hD5]; simp) (by intro ys; rw [hD5]; simp)
   have keepT:∀ {σ':L2.St} {H':Hp} {s':Shared},Inv X' ([]++ki fp s7.heap) σ' H' s'->tn (i+1) s'.heap/\∀ b∈fp,H' b=none:=λ{σ' H' s'} I' =>
    ⟨Tn.keep _ _ _ t7 λb hb' ob e=>(I'.pin (b,ob) (OQ _ (OQ _ (eZ hb' e)))).1,λb hb'=>by
      obtain ⟨ob,e,_⟩:=Tn.obj _ _ t7 b hb'
      exact (I'.pin (b,ob) (OQ _ (OQ _ (eZ hb' e)))).2.1⟩
   have wk:∀ {σ':L2.St} {H' ai:Hp},bx c' σ' H' ai ρ8->bx c' σ' H' ai ρt:=λS'=>eG.weak S' w8.weak.1 w8.weak.2
   have tk:(os.take (i+1)).filterMap id=(os.take i).filterMap id++o.toList:=by
    rw [To,eo,List.filterMap_append]
    cases o <;> rfl
   cases b with
   | false =>
    have eo':=hb9.f rfl
    subst eo'
    rw [if_neg NH]
    obtain ⟨t9,fr9⟩:=keepT I9
    have hr9:bh c.X.K H9 Hf9 ((os.take i).filterMap id) vs fq:=bh.mv g79.f _ (λa _ e1 e2=>⟨g79.s _ _ e1,g79.n a.1 e2 (by rw [e1]; simp) (by intro ys z; rw [e1] at z; cases z)⟩) hr5
    exact ⟨_,Nat.sub_lt_sub_left hlt (P9 i),i+1,σ8,H9,Hf9,vs,fq,rfl,hlt,I9.fK,t9,wk (S8.cC g9),g5.trans g79,hD9,hfD9,by rw [tk]; simpa using hr9,hnd5,hfr5,Nat.le_succ_of_le hlv,fr9⟩
   | true =>
    rw [if_pos rfl]
    have hev:=hb9.t rfl σ8 H9 Hf9 (λv H'=>∃ ai r,(∃ z,o=some z/\r.sh=some z)/\bu c.X.K (λp=>H9 p=none) H' ai r v/\bw H9 Hf9 H' ai) (S8.cC g9) (λr v H' ai he r' g'=>⟨ai,r,he,r',g'⟩) _ s9 I9
    refine bC (show wpAny _ _ _ _ i8 _ from hev) λu2 s10 hh=>z2 hh λv2 H10 hh=>w3 hh λI10 r10 hh=>z2 hh λHf10 r hh=>w3 hh λeo0 re g10=>?_
    obtain ⟨z,rfl,eo'⟩:=eo0
    obtain ⟨f1,rf1,nd1,fr1⟩:=GW eo' re
    have z1:=dF.fz z rf1
    have z0:=bh.fz _ hr5
    have g510:=g79.trans g10
    have hr10:bh c.X.K H10 Hf10 ((os.take i).filterMap id) vs fq:=bh.mv g510.f _ (λa _ e1 e2=>⟨g510.s _ _ e1,g510.n a.1 e2 (by rw [e1]; simp) (by intro ys z; rw [e1] at z; cases z)⟩) hr5
    have hD10:H10 Da=some (.lst vs):=g10.s _ _ hD9
    have hfD10:Hf10 Da=none:=g10.n Da hfD9 (by rw [hD9]; simp) (by intro ys; rw [hD9]; simp)
    have app:=mE (X:=X') _ s10 σ8 H10 (.ref Da) [v2] (.ref Da) [u2] (λ_ H'=>H'=upd H10 Da (.lst (vs++[v2]))) I10 rfl (.cons r10 .nil) ⟨Da,vs,v2,rfl,rfl,hD10,Ol (Pg hlv hlt) hz,rfl⟩
    refine bC (show wpAny _ _ _ _ i8 _ from app) λ_ s11 ⟨_,H11,I11,_,e11⟩=>?_
    subst e11
    obtain ⟨t11,fr11⟩:=keepT I11
    have S10:bx c' σ8 H10 Hf10 ρ8:=(S8.cC g9).cC g10
    have gA:bw H1 aQ (upd H10 Da (.lst (vs++[v2]))) Hf10:=uH ((g5.trans g79).trans g10) tS hfD10
    refine ⟨_,Nat.sub_lt_sub_left hlt (P9 i),i+1,σ8,_,Hf10,vs++[v2],fq++f1,rfl,hlt,I11.fK,t11,?_,gA,af,hfD10,?_,?_,?_,by rw [N5]; exact RV hlv,fr11⟩
    ·refine (wk S10).apart hB0 hfD10 (λ⟨_,z⟩=>by rw [hD10] at z; cases z) λj r hj ho=>λz=>?_
     obtain ⟨b,eb,nb⟩:=howA j r hj ho
     obtain ⟨v',e3,q3⟩:=(wk S10).at_ j r hj (by rintro rfl; cases ho)
     rw [z] at e3; cases e3
     exact nb (uG eb q3).symm
    ·rw [tk]
     refine bh.mv (.refl _) _ (λa ha e1 e2=>⟨?_,e2⟩) (bh.snoc rf1 hr10)
     rw [av λz=>by rw [z,hD10] at e1; cases e1]; exact e1
    ·rw [Oq,List.nodup_append]
     refine ⟨hnd5,nd1,λa ha b hb z=>?_⟩
     subst z
     obtain ⟨p,hp,ep⟩:=Of.mp ha
     obtain ⟨q,hq',eq⟩:=Of.mp hb
     have e1:=g79.s _ _ (z0 p hp).1
     have e2:=fr1 q hq'
     rw [eq,<- ep,e1] at e2; cases e2
    ·intro b hb
     rcases N3.mp hb with hb | hb
     ·exact hfr5 b hb
     ·exact (g5.trans g79).s.free (fr1 b hb)
  ·have e:i=ds.length:=Nat.le_antisymm hi (Nat.le_of_not_lt hlt)
   subst e
   refine bC (Tn.done X' rfl rfl rfl rfl ds.length [] s5 σ5 H5 i8 I5 (fps fr5) t5 (io.stop _ H5 Hf5 g5.f g5.b (Ny _))) λr s6 ⟨hr,I6⟩=>?_
   subst hr
   refine fin s6 σ5 H5 Hf5 vs fq I6 g5 hD5 hfD5 ?_ hnd5 hfr5
   rw [P1 (by rw [hol]; exact Ny _)] at hr5
   exact hr5
 exact codeAny_compStart_list loop (Tn.self _ 0 _ _ _ (Tn.keep _ _ _ t0 λb hb o e=>k4 b o (k3 b o e)) loop)
theorem uI:∀ {ds:List D} {vs:List V} {fq:Fp},bh K H Hf (ds.map .v) vs fq->au K Hf ds vs
 | [],_,_,h=>by simp only [Pb,bh] at h; exact aC.mpr h.1
 | d::ds,_,_,h=>by
  simp only [NF,bh,dF] at h
  obtain ⟨x,r,f1,f2,rfl,h1,h2,-⟩:=h
  exact au.cons h1.1 (uI h2)
theorem GX:∀ os:List (Option D),(os.map (Option.map Sh.v)).filterMap id=(os.filterMap id).map Sh.v
 | []=>rfl
 | none::os=>GX os
 | some d::os=>congrArg (Sh.v d:: ·) (GX os)
theorem lQ.imp (h:∀ b,T b->T' b):∀ {ifs:List Expr} {ρ:List Sl},lQ c ifs ρ T->lQ c ifs ρ T'
 | [],_,q=>h _ q
 | _::_,_,q=>λσ H Hf Q S z=>q σ H Hf Q S λb H' ai hb g=>z b H' ai ⟨λe=>lQ.imp h (hb.t e),λe=>h _ (hb.f e)⟩ g
theorem zp (h:zk c tg ifs elt ρ0 d o):zm c tg ifs elt ρ0 d (o.map .v):=λσ H Hf v Q S r q=>h σ H Hf v Q S r λσ' H' ai ρ' S' g hw=>q σ' H' ai ρ' S' g ⟨hw.1,lQ.imp (λb hb=>⟨λe=>λσ2 H2 cO Q2 S2 q2=>hb.t e σ2 H2 cO Q2 S2 λd2 v2 H3 Hf3 ed rv g3=>q2 (.va d2) v2 H3 Hf3 ⟨.v d2,by rw [ed]; rfl,rfl⟩ rv g3,λe=>by rw [hb.f e]; rfl⟩) hw.2⟩
theorem CT {elt tg iter:Expr} {ifs:List Expr} {scope:Scope} {N':List Str} {ρ0:(Str->Addr)->List Sl} {R:Sl->Prop} (hq:c.X.xe=i8) (hfr:∀ t,xY t scope.names N ρ N' (ρ0 t))
 (h:CK c tg iter ρ λds=>Sd (ds.length<=sizeLine) (∃ os:List (Option D),os.length=ds.length /\
   (∀ c':Ctx P w K mg base k N' (bX scope sc) true,c'.X.xe=i8->∀ (t:Str->Addr) (i:Nat) (d:D) (o:Option D),ds[i]?=some d->os[i]?=some o->zk c' tg ifs elt (ρ0 t) d o)/\R (.ow (os.filterMap id))))
 (hcp:Mp scope sc N':=by decide +kernel)
 (hs:∀ env v,foldedSetIterable iter env v=pure v:=by intro _ _; walk_at "u")
 {σ:L2.St} {H Hf:Hp} (S:bx c σ H Hf ρ) {aa:List (Addr×Obj)} {s:Shared} (I:Inv c.X aa σ H s) {use:Option (Value->Sem Unit)} {QQ:Value->Shared->Prop}
 (kont:∀ (s':Shared) (H' ai:Hp) (a C:Addr) (r:Sl),R r->(∃ m,s'.heap.Ns C m)->C∉c.X.fs->fG c.X aa H' C->bu c.X.K (λp=>H p=none) H' ai r (.ref a)->bw H Hf H' ai->(∀ h5,O3 C s'.heap h5->Inv c.X aa σ H' { s' with heap:=h5 })->compPost (model c.X.prog c.X.w) c.X.A i8 use QQ (.ref a) C (.ok .next) s') :
 wpAny (model c.X.prog c.X.w) c.X.A (comprehension (.ListComp elt [⟨tg,iter,ifs,0⟩] scope pos) scope c.X.env (firstIterPos [⟨tg,iter,ifs,0⟩] pos) (newList []) (firstAsync [⟨tg,iter,ifs,0⟩]) (firstIter [⟨tg,iter,ifs,0⟩] c.X.env) use) QQ i8 s:=by
 refine CS (R:=λss=>∃ os:List D,ss=os.map .v/\R (.ow os)) hq hfr (λσ' H' ai Q S' q=>h σ' H' ai Q S' λds J H1 aQ hd=>q ds J H1 aQ ⟨hd.1,hd.2.elim λos ho=>⟨os.map (Option.map .v),by rw [ND]; exact ho.1,λc' hc t i d o e1 e2=>?_,os.filterMap id,?_,ho.2.2⟩⟩) hcp hs S I λs' H' ai a C ss vs fq hR hC1 hC2 xU ha h1 h2 r nd fr g hJ=>?_
 ·rw [NO,NQ] at e2
  obtain ⟨o',e3,rfl⟩:=e2
  exact zp (ho.2.1 c' hc t i d o' e1 e3)
 ·exact GX os
 ·obtain ⟨os,rfl,hR⟩:=hR
  exact kont s' H' ai a C (.ow os) hR hC1 hC2 xU ⟨a,vs,rfl,ha,h1,h2,uI r⟩ g hJ
theorem eF {elt tg iter:Expr} {ifs:List Expr} {scope:Scope} {N':List Str} {ρ0:(Str->Addr)->List Sl} {R:Sl->Prop} (hq:c.X.xe=i8) (hfr:∀ t,xY t scope.names N ρ N' (ρ0 t))
 (h:CK c tg iter ρ λds=>Sd (ds.length<=sizeLine) (∃ os:List (Option D),os.length=ds.length /\
   (∀ c':Ctx P w K mg base k N' (bX scope sc) true,c'.X.xe=i8->∀ (t:Str->Addr) (i:Nat) (d:D) (o:Option D),ds[i]?=some d->os[i]?=some o->zk c' tg ifs elt (ρ0 t) d o)/\R (.ow (os.filterMap id))))
 (hcp:Mp scope sc N':=by decide +kernel)
 (hs:∀ env v,foldedSetIterable iter env v=pure v:=by intro _ _; walk_at "u"):cW c (.ListComp elt [⟨tg,iter,ifs,0⟩] scope pos) ρ R:=λσ H Hf Q S q aa s I=>by
 rw [hq]
 rw [show (eval (.ListComp elt [⟨tg,iter,ifs,0⟩] scope pos) c.X.env)=comprehension (.ListComp elt [⟨tg,iter,ifs,0⟩] scope pos) scope c.X.env (firstIterPos [⟨tg,iter,ifs,0⟩] pos) (newList []) (firstAsync [⟨tg,iter,ifs,0⟩]) (firstIter [⟨tg,iter,ifs,0⟩] c.X.env) from rfl]
 exact CT hq hfr h hcp hs S I λs' H' ai a C r hr ⟨m,hm⟩ _ _ hrep g hJ=>⟨m,hm,λh5 xW=>⟨.ref a,H',hJ h5 xW,rfl,q r _ H' ai hr hrep g⟩⟩
end
mutual
def D.nl:D->Prop
 | .lst _=>False
 | .fdK _ _=>False
 | .fdT _ _=>False
 | .tup ds=>D.nZ ds
 | _=>True
def D.nZ:List D->Prop
 | []=>True
 | d::ds=>d.nl/\D.nZ ds
end
theorem uJ:∀ {ds:List D},D.nZ ds↔∀ d∈ds,d.nl
 | []=>by simp [D.nZ]
 | d::ds=>by simp [D.nZ,uJ (ds:=ds)]
theorem dG {α:Type} {f:α->D} {l:List α} (h:∀ x∈l,(f x).nl):D.nZ (l.map f):=uJ.mpr λd hd=>by
 obtain ⟨x,hx,rfl⟩:=Of.mp hd
 exact h x hx
theorem je:(D.int i).nl:=by simp [D.nl]
theorem jZ (l:List Int):D.nZ (l.map D.int):=dG λx _=>je
theorem n5 (h:D.nZ ds):(D.tup ds).nl:=by simpa [D.nl] using h
noncomputable def HO.mt:HO->Prop | .lst _=>True | .dK _=>True | .dT _=>True | _=>False
theorem wG {K:Nu} (hp:Hf p=some o) (hm:HO.mt o) (h:c8 K Hf a xs):c8 K (del Hf p) a xs:=by
 rcases h with (h | ⟨o',h⟩) | h
 ·exact .inl (.inl (by rw [cy (by rintro rfl; rw [hp] at h; cases h; exact hm)]; exact h))
 ·exact .inl (.inr ⟨o',by rw [cy (by rintro rfl; rw [hp] at h; cases h; exact hm)]; exact h⟩)
 ·exact .inr h
mutual
theorem sD {K:Nu} {Hf:Hp} {p:Addr} {o:HO} (hp:Hf p=some o) (hm:HO.mt o):∀ (d:D) {v:V},d.nl->Rep K Hf d v->Rep K (del Hf p) d v
 | .non,_,_,h=>by simpa [Rep] using h
 | .bl _,_,_,h=>by simpa [Rep] using h
 | .int _,_,_,h=>by simpa [Rep] using h
 | .str _,_,_,h=>by simpa [Rep] using h
 | .adr _,_,_,h=>by simpa [Rep] using h
 | .tup ds,v,f,h=>by
  simp only [Rep] at h |-
  obtain ⟨a,xs,e,h1,h2⟩:=h
  exact ⟨a,xs,e,wG hp hm h1,n6 hp hm ds (by simpa [D.nl] using f) h2⟩
 | .lst _,_,f,_=>by simp [D.nl] at f
 | .fdK _ _,_,f,_=>by simp [D.nl] at f
 | .fdT _ _,_,f,_=>by simp [D.nl] at f
 | .exc C,_,_,h=>by
  simp only [Rep] at h |-
  obtain ⟨a,e,h⟩:=h
  exact ⟨a,e,by rw [cy (by rintro rfl; rw [hp] at h; cases h; exact hm)]; exact h⟩
theorem n6 {K:Nu} {Hf:Hp} {p:Addr} {o:HO} (hp:Hf p=some o) (hm:HO.mt o):∀ (ds:List D) {xs:List V},D.nZ ds->au K Hf ds xs->au K (del Hf p) ds xs
 | [],_,_,h=>by simpa [au] using h
 | d::ds,xs,f,h=>by
  simp only [au] at h |-
  simp only [D.nZ] at f
  obtain ⟨x,r,e,h1,h2⟩:=h
  exact ⟨x,r,e,sD hp hm d f.1 h1,n6 hp hm ds f.2 h2⟩
end
noncomputable def Sl.nl:Sl->Prop
 | .va d=>d.nl
 | .ow ds=>D.nZ ds
 | _=>False
theorem bu.Mq {K:Nu} {H H' ai:Hp} (hp:ai p=some oz) (hm:HO.mt oz) (h0:H p=some o) (f:r.nl) (h:bu K (λp=>H p=none) H' ai r v):bu K (λp=>H p=none) H' (del ai p) r v:=by
 cases r with
 | va d=>exact sD hp hm d f h
 | ow ds =>
  obtain ⟨q,xs,rfl,fq,h1,h2,h3⟩:=h
  refine ⟨q,xs,rfl,fq,h1,?_,n6 hp hm ds f h3⟩
  rw [cy (by rintro rfl; rw [h0] at fq; cases fq)]; exact h2
 | _=>exact f.elim
section
variable {P:Program} {w:World} {K:Nu} {mg:Str->Option Value} {base:Heap} {k:Nat} {N:List Str} {sc:Scope} {bk:Bool} {c:Ctx P w K mg base k N sc bk} {ρ ρ':List Sl} {pos ap cp px tp:Pos} {a b e f:Expr} {es:List Expr} {R:D->Prop} {T:Bool->Prop} {nx:List Sl->Prop} {p:Pt} {x:Str} {i:Nat} {r:Sl} {ds:List D}
noncomputable def Sl.jL:Sl->Option D
 | .ow ds=>some (.lst ds) | .aw _ ds=>some (.lst ds)
 | _=>none
theorem kK (h:r.jL=some d):r.owned=true:=by cases r <;> first | rfl | cases h
theorem iH {κ:Type} {Hf:Hp} {kvs:List (κ×D)} {xs:List (κ×V)} (h:lO K Hf kvs xs):xs.map (·.1)=kvs.map (·.1)/\au K Hf (kvs.map (·.2)) (xs.map (·.2)):=by
 unfold lO at h
 induction h with
 | nil=>exact ⟨rfl,aC.mpr rfl⟩
 | cons h t ih=>exact ⟨by rw [NF,NF,ih.1,h.1],.cons h.2 ih.2⟩
theorem eU (h:kE K Hf kvs xs):xs.map (·.1)=kvs.map (·.1)/\(∀ y∈xs,c8 K Hf y.2.1 (y.1.map kV))/\au K Hf (kvs.map (·.2)) (xs.map (·.2.2)):=by
 refine ⟨?_,h.zj,?_⟩
 ·unfold kE at h
  induction h with
  | nil=>rfl
  | cons h t ih=>rw [NF,NF,ih,h.1]
 ·unfold kE at h
  induction h with
  | nil=>exact aC.mpr rfl
  | cons h t ih=>exact .cons h.2.2 ih
theorem bu.jL (h:r.jL=some d) (q:bu K fr H Hf r v):∃ p o,v=.ref p/\fr p/\H p=some o/\Hf p=none/\HO.mt o/\Rep K (upd Hf p o) d v:=by
 have sf:∀ {p:Addr} {o:HO},Hf p=none->aH Hf (upd Hf p o):=λhp b u e=>by rw [av (aE e hp)]; exact e
 cases r with
 | ow ds=>cases h; obtain ⟨p,xs,rfl,f,h1,h2,h3⟩:=q; exact ⟨p,_,rfl,f,h1,h2,trivial,bq.mpr ⟨p,xs,rfl,.inl (.inl af),h3.mono (sf h2)⟩⟩
 | aw a ds=>cases h; obtain ⟨p,xs,rfl,f,h1,h2,h3⟩:=q; exact ⟨p,_,rfl,f.1,h1,h2,trivial,bq.mpr ⟨p,xs,rfl,.inl (.inl af),h3.mono (sf h2)⟩⟩
 | _=>cases h
theorem eG.j0 (S:eG K H₀ eO σ H Hf ρ) (h:ρ[i]?=some r) (hr:r.jL=some d) :
 ∃ q o,H q=some o/\Hf q=none/\HO.mt o/\eG K H₀ eO σ H (L2.upd Hf q o) (ρ.set i (.va d)):=by
 obtain ⟨q,ev,rq⟩:=S.own h (kK hr)
 obtain ⟨_,o,e0,fq,hq,vV,hm,rd⟩:=rq.jL hr
 cases e0
 have hi:i<ρ.length:=(NJ.mp h).1
 have hown:=kK hr
 have sf:aH Hf (L2.upd Hf q o):=λb u e=>by rw [L2.av (aE e vV)]; exact e
 have sb:aH (L2.upd Hf q o) H:=λb u e=>by
  by_cases z:b=q
  ·subst z; rw [L2.af] at e; rw [hq]; exact e
  ·rw [L2.av z] at e; exact S.sb b u e
 refine ⟨q,o,hq,vV,hm,⟨S.bas.s,S.bas.f.trans sf,sb,λb h1 h2 h3=>?_⟩,by simp [S.len],λj r' hj hu=>?_,λj j' r1 r2 q' hne h1 h2 o1 o2=>?_⟩
 ·have e:=S.bas.n b h1 h2 h3
  by_cases z:b=q
  ·subst z; exact absurd fq h2
  ·rw [L2.av z]; exact e
 ·by_cases z:j=i
  ·subst z
   rw [OP hi] at hj
   cases hj
   exact ⟨_,ev,rd⟩
  ·rw [OR (NZ z)] at hj
   obtain ⟨v,e1,e2⟩:=S.at_ j r' hj hu
   refine ⟨v,e1,?_⟩
   have key:r'.owned=true->v≠.ref q:=λho z=>by
    subst z
    exact S.sep i j _ _ q (NZ ‹_›) h hj hown ho ev e1
   exact bu.mv (B:=λz=>z=q) sf (λz u hz e1 _ e3=>⟨e1,by rw [L2.av hz]; exact e3⟩) (by rintro _ z rfl ⟨ys,e9⟩; rw [hq] at e9; cases e9; exact hm) (λho z e=>by rintro rfl; exact key ho e) e2
 ·have out:∀ {j:Nat} {r:Sl},(ρ.set i (.va d))[j]?=some r->r.owned=true->ρ[j]?=some r:=λ{j r} hj ho=>by
   by_cases z:j=i
   ·subst z; rw [OP hi] at hj; cases hj; cases ho
   ·rw [OR (NZ z)] at hj; exact hj
  exact S.sep j j' r1 r2 q' hne (out h1 o1) (out h2 o2) o1 o2
theorem qf (sb:aH Hf H) (hq:H q=some o) (vV:Hf q=none) (g:bw H (upd Hf q o) H' ai):bw H Hf H' (del ai q) :=
 ⟨g.s,λb o e=>by rw [cy (aE e vV)]; exact g.f b o (by rw [av (aE e vV)]; exact e),λb o e=>by obtain ⟨_,e2⟩:=iD e; exact g.b b o e2,λb h1 h2 h3=>by
   by_cases z:b=q
   ·subst z; exact iC
   ·rw [cy z]; exact g.n b (by rw [av z]; exact h1) h2 h3⟩
theorem zq (i) (hi:At ρ i r) (hr:r.jL=some d0) (hs:SSet ρ i (.va d0) ρ') (h:aI c e ρ' λd=>Sd d.nl (R d)):aI c e ρ R:=λσ H Hf Q S q=>by
 obtain ⟨a,o,ha,xX,hm,S1⟩:=S.j0 hi.get hr
 rw [<- hs.eq] at S1
 exact h σ H _ Q S1 λd v H' ai ⟨fl,rd⟩ rv g=>q d v H' _ rd (sD (g.f a _ af) hm d fl rv) (qf S.sb ha xX g)
theorem EX (i) {R:Sl->Prop} (hi:At ρ i r) (hr:r.jL=some d0) (hs:SSet ρ i (.va d0) ρ') (h:cW c e ρ' λd=>Sd d.nl (R d)):cW c e ρ R:=λσ H Hf Q S q=>by
 obtain ⟨a,o,ha,xX,hm,S1⟩:=S.j0 hi.get hr
 rw [<- hs.eq] at S1
 exact h σ H _ Q S1 λd v H' ai ⟨fl,rd⟩ rv g=>q d v H' _ rd (rv.Mq (g.f a _ af) hm ha fl) (qf S.sb ha xX g)
theorem kL {st:List Stmt} (i) (hi:At ρ i r) (hr:r.jL=some d0) (hs:SSet ρ i (.va d0) ρ') (h:aG c st ρ' nx p):aG c st ρ nx p:=λσ H Hf D S o=>by
 obtain ⟨a,ob,ha,xX,hm,S1⟩:=S.j0 hi.get hr
 rw [<- hs.eq] at S1
 exact h σ H _ D S1 o
theorem EY {st:Stmt} (i) (hi:At ρ i r) (hr:r.jL=some d0) (hs:SSet ρ i (.va d0) ρ') (h:fP c st ρ' nx p):fP c st ρ nx p:=λσ H Hf D S o=>by
 obtain ⟨a,ob,ha,xX,hm,S1⟩:=S.j0 hi.get hr
 rw [<- hs.eq] at S1
 exact h σ H _ D S1 o
theorem J3 (hN:At N i x) (hi:At ρ i r) (hr:r.jL=some (.lst ds)) (hs:SSet ρ i (.va (.lst ds)) ρ') (h:aI c b ρ' λy=>Sd y.nl (∃ j d,y=.int j/\jU ds j=some d/\Sd d.nl (R d))) (hx:At ρ' i (.va (.lst ds)))
 (hd:(x == ("__debug__":Str))=false:=by decide) (hcd:(x == ("__classdict__":Str))=false:=by decide) (hp:jV b:=by with_unfolding_all exact λ_ _=>rfl):aI c (.Subscript (.Name x p2) b pos) ρ R :=
 zq i hi hr hs (JZ (iz hN hx (h.imp λy ⟨_,j,d,e1,e2,e3⟩=>⟨ds,j,d,rfl,e1,e2,e3⟩) hd hcd) hp)
theorem SSet.at (h:SSet l i r l'):At l' i r:=by
 induction h with
 | z=>exact .z
 | s _ ih=>exact .s ih
theorem GY (hm:mg "len"=none) (hN:At N i x) (hi:At ρ i r) (hr:r.jL=some (.lst ds)) (hs:SSet ρ i (.va (.lst ds)) ρ') (h:R (.int ds.length)) (hg:sc.names.lookup (Nr "len")=some .globalImplicit:=by walk_at "u")
 (hd:(x == ("__debug__":Str))=false:=by decide) (hcd:(x == ("__classdict__":Str))=false:=by decide)
 (he:∀ env,starEach [.Name x p2] env=(false,eval (.Name x p2) env)::starEach [] env:=by intro _; walk_at "u"):aI c (.Call (.Name "len" p1) [.Name x p2] [] pos) ρ R :=
 zq i hi hr hs (e_len hm (iz hN hs.at ⟨ds,rfl,je,h⟩ hd hcd) hg he)
theorem zu (hm:mg "tuple"=none) (hN:At N i x) (hi:At ρ i r) (hr:r.jL=some (.lst ds)) (hs:SSet ρ i (.va (.lst ds)) ρ') (h:Sd (D.nZ ds) (R (.tup ds))) (hg:sc.names.lookup (Nr "tuple")=some .globalImplicit:=by walk_at "u")
 (hd:(x == ("__debug__":Str))=false:=by decide) (hcd:(x == ("__classdict__":Str))=false:=by decide)
 (he:∀ env,starEach [.Name x p2] env=(false,eval (.Name x p2) env)::starEach [] env:=by intro _; walk_at "u"):aI c (.Call (.Name "tuple" p1) [.Name x p2] [] pos) ρ R :=
 zq i hi hr hs (jY hm (iz hN hs.at ⟨ds,rfl,n5 h.s,h.r⟩ hd hcd) hg he)
theorem Mr (h:cW c e ρ (EH R)):aI c e ρ R:=e_x h
end
end EV
set_option maxHeartbeats 0
namespace EV
open PySem PySem.Spec PyProof.Rows L2
section
variable {P:Program} {w:World} {K:Nu} {mg:Str->Option Value} {base h:Heap}
def aq (K:Nu) (mg:Str->Option Value) (x:Str) (st:Stmt):Prop:=∃ f fd,mg x=some (.ref f)/\dh K x x st f fd
theorem GZ {st:Stmt} {kV doc pm cdv ct:Value} (KX:K.In h) (G:h.Ns mainGlobals mg) (a:Ox K mainGlobals x=some (some (.ref f)))
 (l:K.lookup f=some ⟨oc,od,.func (Pn x x (fc st) (aj st) (aR st) .none kV doc pm an cdv ct),osl⟩) (c:R5 K cdv x=true) (k:Pa K (.ref f)=true):aq K mg x st :=
 ⟨f,_,PySem.W.mg_of KX G a,Gx l c k⟩
theorem G0 (e:(t == Ou T)=false) (m:PySem.W.kitMeta T=true) (s:PySem.W.subIn K t (.type T)=some b):PySem.W.kitOne K t (.type T)=some b:=by
 unfold PySem.W.kitOne PySem.W.kitCls
 simp [e,m,s]
structure Txt (K:Nu) (mg:Str->Option Value):Prop where
 abs:mg "abs"=none
 len:mg "len"=none
 isin:mg "isinstance"=none
 range:mg "range"=none
 int:mg "int"=none
 bool:mg "bool"=none
 tuple:mg "tuple"=none
 list:mg "list"=none
 max:mg "max"=none
 min:mg "min"=none
 sum:mg "sum"=none
 sorted:mg "sorted"=none
 zip:mg "zip"=none
 enum:mg "enumerate"=none
 all:mg "all"=none
 any:mg "any"=none
 dict:mg "dict"=none
 ib:PySem.W.kitOne K (.type "int") (.type "bool")=some false
theorem G1 (KX:K.In h) (G:h.Ns mainGlobals mg)
 (z1:Ox K mainGlobals "abs"=some none)
 (z2:Ox K mainGlobals "len"=some none)
 (z3:Ox K mainGlobals "isinstance"=some none)
 (z4:Ox K mainGlobals "range"=some none)
 (z5:Ox K mainGlobals "int"=some none)
 (z6:Ox K mainGlobals "bool"=some none)
 (z7:Ox K mainGlobals "tuple"=some none)
 (z8:Ox K mainGlobals "list"=some none)
 (z9:Ox K mainGlobals "max"=some none)
 (z10:Ox K mainGlobals "min"=some none)
 (z11:Ox K mainGlobals "sum"=some none)
 (z12:Ox K mainGlobals "sorted"=some none)
 (z13:Ox K mainGlobals "zip"=some none)
 (z14:Ox K mainGlobals "enumerate"=some none)
 (z15:Ox K mainGlobals "all"=some none)
 (z16:Ox K mainGlobals "any"=some none)
 (z17:Ox K mainGlobals "dict"=some none)
 (sib:PySem.W.subIn K (.type "int") (.type "bool")=some false):Txt K mg :=
 ⟨OA KX G z1,OA KX G z2,OA KX G z3,OA KX G z4,OA KX G z5,OA KX G z6,OA KX G z7,OA KX G z8,
  OA KX G z9,OA KX G z10,OA KX G z11,OA KX G z12,OA KX G z13,OA KX G z14,OA KX G z15,OA KX G z16,OA KX G z17,
  G0 (by decide) (by decide) sib⟩
theorem J4 {α:Type} (us:List α) (h:us.length=1):∃ a,us=[a]:=by match us,h with | [a],_=>exact ⟨a,rfl⟩
theorem J5 {α:Type} (us:List α) (h:us.length=2):∃ a b,us=[a,b]:=by match us,h with | [a,b],_=>exact ⟨a,b,rfl⟩
theorem J6 {α:Type} (us:List α) (h:us.length=3):∃ a b c,us=[a,b,c]:=by match us,h with | [a,b,c],_=>exact ⟨a,b,c,rfl⟩
theorem J7 {α:Type} (us:List α) (h:us.length=4):∃ a b c d,us=[a,b,c,d]:=by match us,h with | [a,b,c,d],_=>exact ⟨a,b,c,d,rfl⟩
theorem aJ (P) (w) (base) {st:Stmt} (D:aq K mg x st) (ok:∀ {f:Addr} {fd:FuncData},dh K x x st f fd->aY P w K mg base (cP P w) k f fd ps (cZ K F))
 (hb:∀ (kV doc pm:Value) (an:Option Addr) (cdv ct:Value) (us:List Value),us.length=ps.length->bindArgs (Pn x x (fc st) (aj st) (aR st) .none kV doc pm an cdv ct) ⟨us,[]⟩=pure (ps.zip us):=by intro _ _ _ _ _ _ us hl; first | (obtain ⟨a,rfl⟩:=J4 us hl; rfl) | (obtain ⟨a,b,rfl⟩:=J5 us hl; rfl) | (obtain ⟨a,b,c,rfl⟩:=J6 us hl; rfl) | (obtain ⟨a,b,c,d,rfl⟩:=J7 us hl; rfl) | (obtain ⟨a,b,c,d,e,rfl⟩:=len5 us hl; rfl) | (obtain ⟨a,b,c,d,e,f,rfl⟩:=len6 us hl; rfl) | (obtain rfl:=len0 us hl; rfl)):cu P w K mg base k x F :=
 let ⟨f,fd,m,Fu⟩:=D; ⟨f,fd,ps,m,Fu.kp,Fu.binds hb,ok Fu⟩
noncomputable def zw:Fn:=λds r=>∃ ns:List Int,ns.length<=63/\ds=[.lst (ns.map D.int)]/\r=.ok (.va (.bl true))
theorem G2 (H) (a) (ns:List Int) (hl:ns.length<=63) (hS:fH K H a (ns.map V.int)):cZ K zw [.ref a] H (λv _=>v=.bl true) λ_ _ _=>False :=
 ⟨H,[.lst (ns.map D.int)],.ok (.va (.bl true)),.refl H,.cons (bq.mpr ⟨a,_,rfl,hS,jc ns⟩) (aC.mpr rfl),⟨ns,hl,rfl,rfl⟩,λv H' ai _ r=>(fO (K:=K) (H:=ai)).mp r⟩
theorem walk {l:PySem.W.OpenLaw} {K:Params->Nu} (hk:k<=20) (hn:l.most=some 63) (hdf:d.params.defaults=[])
 (hY:∀ (w:World) (h:Heap),YP w h->(K w.params).In h)
 (F:∀ (w:World) (mg:Str->Option Value) (fa:Addr) (h:Heap),(K w.params).In h->h.Ns mainGlobals mg->mg d.name=some (.ref fa) ->
   ∃ fd:FuncData,(∀ (s:Shared) (u:Value),BindsTo s fd ⟨[u],[]⟩ [("_law_script",u)])/\∀ base:Heap,(K w.params).In base->base.Ns mainGlobals mg->aY l.prog w (K w.params) mg base (cP l.prog w) 20 fa fd ["_law_script"] (cZ (K w.params) zw)) :
 PySem.W.WalkO q loose XP YP l.row.toRowW d [] (λf vs=>PySem.call f vs) :=
 L2.Ct (n:=63) (k:=20) (x:="_law_script") (CX:=λw=>cP l.prog w) (sp:=λw=>cZ (K w.params) zw) hn (by decide) hdf ⟨rfl,by decide,by decide⟩ hY F (λ_ H a ns hl _ hS=>G2 H a ns hl hS) λ_ _ _ _ _ ⟨_,_,_,_,_,q⟩=>q
end
theorem iI (f:α->β) (xs) (lo hi):EV.cutD (xs.map f) lo hi=(EV.cutD xs lo hi).map f:=by
 unfold EV.cutD; simp only [ND,R8,List.map_drop]
theorem j3 (h0:0<=j) (h1:j<xs.length):jU xs j=xs[j.toNat]?:=by
 unfold jU IS
 rw [if_pos h0,if_pos h1]; rfl
theorem uK {j:Int} (h0:j<0) (h1:0<=j+xs.length):jU xs j=xs[(j+xs.length).toNat]?:=by
 unfold jU IS
 rw [if_neg (by lia)]
 rw [if_pos (by lia)]; rfl
theorem zz (h:a.natAbs<2 ^ 63):OH a<=64:=by
 unfold OH
 by_cases z:a=0
 ·subst z; decide
 ·have e:(a == 0)=false:=by simpa using z
  rw [e,if_neg NH]
  have:=(Nat.log2_lt (n:=a.natAbs) (k:=63) (by lia)).mpr h
  lia
theorem qg (h:a.natAbs<2 ^ 63):EV.MulOk a b:=IntMulOk.of_left (zz h)
theorem gw (h:(p7 0 n)[i]?=some d):i<n/\d=.int (i:Int):=by
 unfold p7 at h
 simp only [NO,NQ] at h
 obtain ⟨j,h1,rfl⟩:=h
 obtain ⟨hj,rfl⟩:=NJ.mp h1
 simp at hj
 exact ⟨hj,by simp⟩
section
variable {K:Nu}
theorem EZ (I) (h:jA c t ρ (lP (aG c A ρ I p) (aG c B ρ I p))) (hI:∀ ρ',I ρ'->nx ρ'):fP c (.If t A B pos) ρ nx p :=
 JU (h.imp λx hx=>⟨λe σ H Hf D S o=>hx.t e σ H Hf D S ⟨λσ H Hf ρ S q=>o.nx σ H Hf ρ S (hI _ q),o.rt,o.bk,o.ct⟩,λe σ H Hf D S o=>hx.f e σ H Hf D S ⟨λσ H Hf ρ S q=>o.nx σ H Hf ρ S (hI _ q),o.rt,o.bk,o.ct⟩⟩)
end
end EV
namespace EV
open PySem PySem.Spec PySem.Calls PyProof.Rows L2
noncomputable def HO.dct:HO->Prop | .dK _=>True | .dT _=>True | _=>False
theorem zA (I:Inv X aa σ H s) (hu:H a=some u) (nu:∀ xs,u≠.tup xs) (nw:∀ y,u≠.own y) (nt:∀ ps,u≠.tbl ps) (nf:∀ o z,X.H₀ a≠some (.frz o z))
 (hv:bg X.prog X.w H s.heap a v):Inv X aa σ (upd H a v) s:=by
 have hne:∀ {b:Addr} {z:HO},H b=some z->z≠u->b≠a:=λe d q=>by subst q; rw [hu] at e; cases e; exact d rfl
 have hno:∀ {b:Addr},H b=none->b≠a:=λe q=>by subst q; rw [hu] at e; cases e
 have hst:∀ {b:Addr} {z:HO},bg X.prog X.w H s.heap b z->bg X.prog X.w (upd H a v) s.heap b z:=λq =>
  q.stay (λ_ _ _ e=>e) (λb e=>by rw [av (hne e (NZ (nw _)))]; exact e) λb xs e=>by rw [av (hne e (NZ (nu xs)))]; exact e
 have fr:=I.free
 exact {
  ok:=I.ok,os:=I.os,bare:=I.bare,loc:=I.loc,cell:=I.cell,len:=I.len
  base:=⟨I.base.keep,I.base.slot,λb o h1 h2 h3=>by have e:=I.base.free b o h1 h2 h3; rw [av (hno e)]; exact e,I.base.there,
   λb xs e=>by have q:=I.base.tups b xs e; rw [av (hne q (NZ (nu xs)))]; exact q,
   λb o z e=>by
    have q:=I.base.frzs b o z e
    by_cases w:b=a
    ·subst w; exact absurd e (nf o z)
    ·rw [av w]; exact q,
   λb ps e=>by obtain ⟨m,q⟩:=I.base.tbls b ps e; exact ⟨m,by rw [av (hne q (NZ (nt _)))]; exact q⟩⟩
  free:=by rw [av (hno I.free)]; exact I.free
  freeC:=λx c e=>by have q:=I.freeC x c e; rw [av (hno q)]; exact q
  pin:=λq hq=>by obtain ⟨h1,h2,h3⟩:=I.pin q hq; exact ⟨h1,by rw [av (hno h2)]; exact h2,h3⟩
  hok:=λb z e=>by
   by_cases w:b=a
   ·subst w; rw [af] at e; cases e; exact hst hv
   ·rw [av w] at e; exact hst (I.hok b z e) }
theorem CU (I:Inv X aa σ H s) (hu:H a=some u) (hd:HO.dct u) :
 ∃ o,Inv X aa σ (upd H a (.frz o u)) s/\∀ o z,X.H₀ a≠some (.frz o z):=by
 obtain ⟨o,ho⟩:=GH (I.hok a u hu)
 have nf:∀ o z,X.H₀ a≠some (.frz o z):=λo z e=>by
  have q:=I.base.frzs a o z e
  rw [hu] at q; cases q; exact hd
 exact ⟨o,zA I hu (by rintro xs rfl; exact hd) (by rintro y rfl; exact hd) (by rintro ps rfl; exact hd) nf ⟨ho,I.hok a u hu⟩,nf⟩
theorem zB (I:Inv X aa σ H s) (hu:H a=some (.frz o u)) (nf:∀ o z,X.H₀ a≠some (.frz o z)):Inv X aa σ (upd H a u) s :=
 zA I hu (by intro xs z; cases z) (by intro y z; cases z) (by intro ps z; cases z) nf (I.hok a _ hu).2
noncomputable def Sl.qh:Sl->Option D
 | .oK kvs=>some (.fdK (kvs.map (·.1)) (kvs.map (·.2))) | .aK _ kvs=>some (.fdK (kvs.map (·.1)) (kvs.map (·.2)))
 | .oT kvs=>some (.fdT (kvs.map (·.1)) (kvs.map (·.2))) | .aT _ kvs=>some (.fdT (kvs.map (·.1)) (kvs.map (·.2)))
 | _=>none
theorem kM {r:Sl} (h:r.qh=some d):r.owned=true:=by cases r <;> first | rfl | cases h
section
variable {K:Nu}
theorem bu.qh (h:r.qh=some d) (q:bu K fr H Hf r v):∃ p u,v=.ref p/\fr p/\H p=some u/\Hf p=none/\HO.dct u/\∀ o,Rep K (L2.upd Hf p (.frz o u)) d v:=by
 have sf:∀ {p:Addr} {o:HO},Hf p=none->aH Hf (L2.upd Hf p o):=λhp b u e=>by rw [av (aE e hp)]; exact e
 cases r with
 | oK ds=>cases h; obtain ⟨p,xs,rfl,f,h1,h2,h3⟩:=q; exact ⟨p,_,rfl,f,h1,h2,trivial,λo=>iw.mpr ⟨p,xs,o,rfl,af,(iH h3).1,(iH h3).2.mono (sf h2)⟩⟩
 | aK a ds=>cases h; obtain ⟨p,xs,rfl,f,h1,h2,h3⟩:=q; exact ⟨p,_,rfl,f.1,h1,h2,trivial,λo=>iw.mpr ⟨p,xs,o,rfl,af,(iH h3).1,(iH h3).2.mono (sf h2)⟩⟩
 | oT ds=>cases h; obtain ⟨p,xs,rfl,f,h1,h2,h3⟩:=q; exact ⟨p,_,rfl,f,h1,h2,trivial,λo=>iy.mpr ⟨p,xs,o,rfl,af,(eU h3).1,λy hy=>az (sf h2) ((eU h3).2.1 y hy),(eU h3).2.2.mono (sf h2)⟩⟩
 | aT a ds=>cases h; obtain ⟨p,xs,rfl,f,h1,h2,h3⟩:=q; exact ⟨p,_,rfl,f.1,h1,h2,trivial,λo=>iy.mpr ⟨p,xs,o,rfl,af,(eU h3).1,λy hy=>az (sf h2) ((eU h3).2.1 y hy),(eU h3).2.2.mono (sf h2)⟩⟩
 | _=>cases h
theorem eG.CV (S:eG K H₀ eO σ H Hf ρ) (h:ρ[i]?=some r) (hr:r.qh=some d) :
 ∃ q u,H q=some u/\Hf q=none/\HO.dct u/\∀ o,eG K H₀ eO σ (L2.upd H q (.frz o u)) (L2.upd Hf q (.frz o u)) (ρ.set i (.va d)):=by
 obtain ⟨q,ev,rq⟩:=S.own h (kM hr)
 obtain ⟨_,u,e0,fq,hq,vV,hd,rd⟩:=rq.qh hr
 cases e0
 have hi:i<ρ.length:=(NJ.mp h).1
 have hown:=kM hr
 refine ⟨q,u,hq,vV,hd,λo=>⟨⟨λb z e=>?_,λb z e=>?_,λb z e=>?_,λb h1 h2 h3=>?_⟩,by simp [S.len],λj r' hj hu=>?_,λj j' r1 r2 q' hne h1 h2 o1 o2=>?_⟩⟩
 ·rw [L2.av (aE e fq)]; exact S.bas.s b z e
 ·have e2:=S.bas.f b z e
  rw [L2.av (aE e2 vV)]; exact e2
 ·by_cases w:b=q
  ·subst w; rw [L2.af] at e |-; exact e
  ·rw [L2.av w] at e |-; exact S.sb b z e
 ·have e:=S.bas.n b h1 h2 h3
  by_cases z:b=q
  ·subst z; exact absurd fq h2
  ·rw [L2.av z]; exact e
 ·have sf:aH Hf (L2.upd Hf q (.frz o u)):=λb z e=>by rw [L2.av (aE e vV)]; exact e
  by_cases z:j=i
  ·subst z
   rw [OP hi] at hj
   cases hj
   exact ⟨_,ev,rd o⟩
  ·rw [OR (NZ z)] at hj
   obtain ⟨v,e1,e2⟩:=S.at_ j r' hj hu
   refine ⟨v,e1,?_⟩
   have key:r'.owned=true->v≠.ref q:=λho z=>by
    subst z
    exact S.sep i j _ _ q (NZ ‹_›) h hj hown ho ev e1
   exact bu.mv (B:=λz=>z=q) sf (λz w hz e1 _ e3=>⟨by rw [L2.av hz]; exact e1,by rw [L2.av hz]; exact e3⟩) (by rintro _ z rfl ⟨ys,e9⟩; rw [hq] at e9; cases e9; exact hd) (λho z e=>by rintro rfl; exact key ho e) e2
 ·have out:∀ {j:Nat} {r:Sl},(ρ.set i (.va d))[j]?=some r->r.owned=true->ρ[j]?=some r:=λ{j r} hj ho=>by
   by_cases z:j=i
   ·subst z; rw [OP hi] at hj; cases hj; cases ho
   ·rw [OR (NZ z)] at hj; exact hj
  exact S.sep j j' r1 r2 q' hne (out h1 o1) (out h2 o2) o1 o2
end
theorem wH (sb:aH Hf H) (hq:H q=some u) (vV:Hf q=none) (g:bw (upd H q (.frz o u)) (upd Hf q (.frz o u)) H' ai):bw H Hf (upd H' q u) (del ai q) :=
 ⟨λb z e=>by
   by_cases w:b=q
   ·subst w; rw [af]; rw [hq] at e; exact e
   ·rw [av w]; exact g.s b z (by rw [av w]; exact e),
   λb z e=>by rw [cy (aE e vV)]; exact g.f b z (by rw [av (aE e vV)]; exact e),
   λb z e=>by obtain ⟨w,e2⟩:=iD e; rw [av w]; exact g.b b z e2,λb h1 h2 h3=>by
   by_cases w:b=q
   ·subst w; exact iC
   ·rw [cy w]; exact g.n b (by rw [av w]; exact h1) (by rw [av w]; exact h2) λxs=>by rw [av w]; exact h3 xs⟩
theorem CW {K:Nu} (hp:Hf p=some (.frz o u)) (hd:HO.dct u) (h:c8 K Hf a xs):c8 K (del Hf p) a xs:=by
 rcases h with (h | ⟨o',h⟩) | h
 ·exact .inl (.inl (by rw [cy (by rintro rfl; rw [hp] at h; cases h)]; exact h))
 ·exact .inl (.inr ⟨o',by rw [cy (by rintro rfl; rw [hp] at h; cases h; exact hd)]; exact h⟩)
 ·exact .inr h
mutual
theorem zC {K:Nu} {Hf:Hp} {p:Addr} {o:Obj} {u:HO} (hp:Hf p=some (.frz o u)) (hd:HO.dct u):∀ (d:D) {v:V},d.nl->Rep K Hf d v->Rep K (del Hf p) d v
 | .non,_,_,h=>by simpa [Rep] using h
 | .bl _,_,_,h=>by simpa [Rep] using h
 | .int _,_,_,h=>by simpa [Rep] using h
 | .str _,_,_,h=>by simpa [Rep] using h
 | .adr _,_,_,h=>by simpa [Rep] using h
 | .tup ds,v,f,h=>by
  simp only [Rep] at h |-
  obtain ⟨a,xs,e,h1,h2⟩:=h
  exact ⟨a,xs,e,CW hp hd h1,n8 hp hd ds (by simpa [D.nl] using f) h2⟩
 | .lst _,_,f,_=>by simp [D.nl] at f
 | .fdK _ _,_,f,_=>by simp [D.nl] at f
 | .fdT _ _,_,f,_=>by simp [D.nl] at f
 | .exc C,_,_,h=>by
  simp only [Rep] at h |-
  obtain ⟨a,e,h⟩:=h
  exact ⟨a,e,by rw [cy (by rintro rfl; rw [hp] at h; cases h)]; exact h⟩
theorem n8 {K:Nu} {Hf:Hp} {p:Addr} {o:Obj} {u:HO} (hp:Hf p=some (.frz o u)) (hd:HO.dct u):∀ (ds:List D) {xs:List V},D.nZ ds->au K Hf ds xs->au K (del Hf p) ds xs
 | [],_,_,h=>by simpa [au] using h
 | d::ds,xs,f,h=>by
  simp only [au] at h |-
  simp only [D.nZ] at f
  obtain ⟨x,r,e,h1,h2⟩:=h
  exact ⟨x,r,e,zC hp hd d f.1 h1,n8 hp hd ds f.2 h2⟩
end
section
variable {K:Nu}
theorem zD (S:bx c σ H Hf ρ) (hi:At ρ i r) (hr:r.qh=some d0) (hs:SSet ρ i (.va d0) ρ')
 (h:∀ q u o,H q=some u->Hf q=none->HO.dct u->bx c σ (upd H q (.frz o u)) (upd Hf q (.frz o u)) ρ'->bE c.X e σ (upd H q (.frz o u)) λv H'=>∃ ai,bw (upd H q (.frz o u)) (upd Hf q (.frz o u)) H' ai/\Q v (upd H' q u)):bE c.X e σ H Q:=by
 obtain ⟨q,u,hq,vV,hd,S1⟩:=S.CV hi.get hr
 intro aa s I
 obtain ⟨o,I1,nf⟩:=CU I hq hd
 have S2:=S1 o
 rw [<- hs.eq] at S2
 refine bC (h q u o hq vV hd S2 aa s I1) λv s' ⟨x,H',I',rv,ai,g,hQ⟩=>⟨x,_,zB I' (g.s q _ af) nf,rv,hQ⟩
theorem kN (i) {R:Sl->Prop} (hi:At ρ i r) (hr:r.qh=some d0) (hs:SSet ρ i (.va d0) ρ') (h:cW c e ρ' λd=>Sd d.nl (R d)):cW c e ρ R:=λσ H Hf Q S q=>by
 refine zD S hi hr hs λa u o ha xX hd S1=>h σ _ _ _ S1 λr1 v H' ai ⟨fl,rd⟩ rv g=>⟨ai,g,?_⟩
 have hp:=g.f a _ af
 refine q r1 v _ (del ai a) rd ?_ (wH S.sb ha xX g)
 have hH:H' a=some (.frz o u):=g.s a _ af
 cases r1 with
 | va d=>exact zC hp hd d fl rv
 | ow ds =>
  obtain ⟨b,xs,rfl,fb,h1,h2,h3⟩:=rv
  have nb:b≠a:=by rintro rfl; rw [show (upd H b (.frz o u)) b=_ from af] at fb; cases fb
  exact ⟨b,xs,rfl,by rw [av nb] at fb; exact fb,by rw [av nb]; exact h1,by rw [cy nb]; exact h2,n8 hp hd ds fl h3⟩
 | _=>exact fl.elim
end
def zE (h:Heap) (it d:Addr) (i n ep:Nat):Prop :=
 ∃ (x:Value) (f:Bool) (k v:Value),h.get? it=some { cls:=.type "dict_itemiterator",dict:=none,data:=.fields #[x,.bool f,.ref d,.int i 0,.int n 0,.int ep 0,k,v],slots:= #[] }/\(x=.none\/∃ a:Addr,x=rawInt a)
section
variable {s:Shared} {i n ep:Nat}
theorem n9:Ss "dict_itemiterator"=true:=by decide
theorem qk (h:Q (s.heap.get? a) s):wpAny M A (loadIfAlive a) Q E s:=λΓ p z=>by
 show Sem.wp M Γ (Sem.loadIfAlive a Sem.pure) _ _ p s
 rw [Sem.wp_loadIfAlive,Sem.wp]
 exact h
theorem zF (hs:s.heap=h) (hit:h.get? it=some { cls:=.type "dict_itemiterator",dict:=none,data:=.fields #[x,.bool f,.ref d,.int i 0,.int n 0,.int ep 0,k,v],slots:= #[] }) (hx:x=.none\/∃ a:Addr,x=rawInt a)
 (hQ:∀ h',zE h' it d i n ep->h'.get? h.objs.size=some { cls:=.type "tuple",data:=.seq #[a,b] }->h'.objs.size=h.objs.size+1->(∀ c o,c≠it->h.get? c=some o->h'.get? c=some o)->Q (.ref h.objs.size) { s with heap:=h' }) :
 wpAny (model prog w) A (Sq (.ref it) 6 a b) Q E s:=by
 subst hs
 have lt:it<s.heap.objs.size:=NG hit
 have ne:s.heap.objs.size≠it:=QE lt
 unfold Sq
 refine Nt (wpAny_newTuple ?_)
 have rP:=NC ({ cls:=.type "tuple",data:=.seq [a,b].toArray }:Obj) hit
 have htu:(s.heap.push { cls:=.type "tuple",data:=.seq [a,b].toArray }).get? s.heap.objs.size=some { cls:=.type "tuple",data:=.seq #[a,b] }:=NL _ rfl
 have hsz:(s.heap.push { cls:=.type "tuple",data:=.seq [a,b].toArray }).objs.size=s.heap.objs.size+1:=Py ..
 have hold:∀ c o,s.heap.get? c=some o->(s.heap.push { cls:=.type "tuple",data:=.seq [a,b].toArray }).get? c=some o:=λc o e=>NC _ e
 generalize (s.heap.push { cls:=.type "tuple",data:=.seq [a,b].toArray })=h2 at rP htu hsz hold |-
 have free:wpAny (model prog w) A (do
  let old:=[<- field (.ref it) 6,<- field (.ref it) (6+1)]
  setField (.ref it) 6 a; setField (.ref it) (6+1) b
  setField (.ref it) 0 (rawInt s.heap.objs.size); setField (.ref it) 1 (.bool false)
  letGo old [.ref s.heap.objs.size]
  pure (NW s.heap.objs.size)) Q E { s with heap:=h2 }:=by
  refine Nt (Pc rP rfl (x:=k) rfl (Nt (Pc rP rfl (x:=v) rfl ?_)))
  refine Nt (P6 rP (by simp) λh3 e3 s3=>?_)
  refine Nt (P6 e3 (by simp) λh4 e4 s4=>?_)
  refine Nt (P6 e4 (by simp) λh5 e5 s5=>?_)
  refine Nt (P6 e5 (by simp) λh6 e6 s6=>?_)
  have keep:∀ c o,c≠it->h2.get? c=some o->h6.get? c=some o:=λc o hc e=>s6.extBut c o hc (s5.extBut c o hc (s4.extBut c o hc (s3.extBut c o hc e)))
  refine Nt (Sj (Nv (hQ h6 ⟨_,_,_,_,e6,.inr ⟨_,rfl⟩⟩ (keep _ _ ne htu) ?_ λc o hc e=>keep c o hc (hold c o e))))
  rw [s6.1,s5.1,s4.1,s3.1,hsz]
 have told:∀ (h3:Heap) (x:Value) (f:Bool),h3.get? it=some { cls:=.type "dict_itemiterator",dict:=none,data:=.fields #[x,.bool f,.ref d,.int i 0,.int n 0,.int ep 0,k,v],slots:= #[] }->(x=.none\/∃ a:Addr,x=rawInt a) ->
  O3 it h2 h3->Q (.ref s.heap.objs.size) { s with heap:=h3 }:=λh3 x f e hx' s3 =>
  hQ h3 ⟨x,f,k,v,e,hx'⟩ (s3.extBut _ _ ne htu) (by rw [s3.1,hsz]) λc o hc e=>s3.extBut c o hc (hold c o e)
 show wpAny _ _ (TQ (.ref it) >>= _) _ _ _
 unfold TQ
 refine Nt (Nt (Pc rP rfl (x:=x) rfl ?_))
 rcases hx with rfl | ⟨a0,rfl⟩
 ·exact Nv free
 ·show wpAny _ _ (loadIfAlive (a0:Int).toNat >>= _) _ _ _
  refine Nt (qk ?_)
  split
  ·exact Nv free
  ·refine Nt ?_
   refine Pc rP rfl (x:=.bool f) rfl ?_
   cases f with
   | true =>
    dsimp only
    rw [if_neg (by decide)]
    exact Nv (Nv (told h2 _ _ rP (.inr ⟨a0,rfl⟩) (.refl ..)))
   | false =>
    dsimp only
    rw [if_pos (by decide)]
    refine Nt (P6 rP (by simp) λh3 e3 s3=>?_)
    exact Nv (Nv (told h3 _ true e3 (.inr ⟨a0,rfl⟩) s3))
theorem zE.G3 (h:zE s.heap it d i n ep):s.TypeIs (.ref it) "dict_itemiterator":=let ⟨_,_,_,_,e,_⟩:=h; ⟨_,e,rfl⟩
theorem next_item (hit:zE s.heap it d i es.size ep) (hod:s.heap.get? d=some od) (hdd:od.data=.dict es ep) (hx:es[i]?=some e)
 (hQ:∀ h',zE h' it d (i+1) es.size ep->h'.get? s.heap.objs.size=some { cls:=.type "tuple",data:=.seq #[e.key,e.val] }->h'.objs.size=s.heap.objs.size+1->(∀ c o,c≠it->s.heap.get? c=some o->h'.get? c=some o)->Q (some (.ref s.heap.objs.size)) { s with heap:=h' }) :
 wpAny (model prog w) A (pyNext (.ref it)) Q E s:=by
 have hT:=hit.G3
 obtain ⟨x,f,k,v,hat,hxx⟩:=hit
 have hlt:i<es.size:=(Qn.mp hx).1
 unfold pyNext
 refine Nt (QC (Pp (name:=Nr "__next__") hT Qk (O4 Qk hT TZ ?_ (TU _))))
 refine Nt (Nv (Nt (Nt ?_)))
 first | refine Nt (Rl hT (Nv ?_)) | refine Nt (Ro hT (Nv ?_))
 refine Nt (R1 hat rfl ?_)
 simp only [n9,if_true]
 show wpAny _ _ (if (NW d == OC)=true then _ else _) _ _ _
 rw [if_neg (show ¬ (NW d == OC)=true from NH)]
 refine Nt (Nv (Nt (Qy hod hdd ?_)))
 rw [if_neg (by simp)]
 refine Nt (Nv (Nt (QA hod hdd ?_)))
 rw [if_neg (by simp)]
 refine Nv ?_
 simp only [show ¬ ((i:Int)<0) from by lia,if_false,Oz,hx]
 refine Nt ?_
 first | refine Nt (Rl hT (Nv ?_)) | refine Nt (Ro hT (Nv ?_))
 refine Nt (SE hT ?_)
 show wpAny _ _ (setField (.ref it) 3 (rawInt ((i:Int)+1)) >>= _) _ _ s
 refine Nt (P6 hat (by simp) λh1 e1 s1=>?_)
 have e1':h1.get? it=some { cls:=.type "dict_itemiterator",dict:=none,data:=.fields #[x,.bool f,.ref d,.int ((i+1:Nat):Int) 0,.int es.size 0,.int ep 0,k,v],slots:= #[] }:=by
  have q:((i+1:Nat):Int)=(i:Int)+1:=by lia
  rw [q]; simpa [rawInt] using e1
 have hT1:Shared.TypeIs { s with heap:=h1 } (.ref it) "dict_itemiterator":=⟨_,e1',rfl⟩
 refine Nt (ON ?_)
 refine Nt (SE hT1 (Nt (SE hT1 ?_)))
 show wpAny _ _ (Sq (.ref it) 6 e.key e.val) _ _ { s with heap:=h1 }
 have z1:h1.objs.size=s.heap.objs.size:=s1.1
 refine zF (s:={ s with heap:=h1 }) rfl e1' hxx λh2 g2 t2 z2 k2=>?_
 rw [z1] at t2 z2 |-
 exact Nv ⟨_,rfl,Nv (hQ h2 g2 t2 z2 λc o hc q=>k2 c o hc (s1.extBut c o hc q))⟩
theorem next_end (hh:A.handled=none) (hit:zE s.heap it d i es.size ep) (hod:s.heap.get? d=some od) (hdd:od.data=.dict es ep) (hx:es.size<=i)
 (hQ:∀ h',PN it s.heap h'->Q none { s with heap:=h' }):wpAny (model prog w) A (pyNext (.ref it)) Q E s:=by
 have hT:=hit.G3
 obtain ⟨x,f,k,v,hat,hxx⟩:=hit
 unfold pyNext
 refine Nt (QC (Pp (name:=Nr "__next__") hT Qk (O4 Qk hT TZ ?_ (TU _))))
 refine Nt (Nv (Nt (Nt ?_)))
 first | refine Nt (Rl hT (Nv ?_)) | refine Nt (Ro hT (Nv ?_))
 refine Nt (R1 hat rfl ?_)
 simp only [n9,if_true]
 show wpAny _ _ (if (NW d == OC)=true then _ else _) _ _ _
 rw [if_neg (show ¬ (NW d == OC)=true from NH)]
 refine Nt (Nv (Nt (Qy hod hdd ?_)))
 rw [if_neg (by simp)]
 refine Nt (Nv (Nt (QA hod hdd ?_)))
 rw [if_neg (by simp)]
 refine Nv ?_
 simp only [show ¬ ((i:Int)<0) from by lia,if_false,Oz,Array.getElem?_eq_none hx]
 refine Nt ?_
 first | refine Nt (Rl hT (Nv ?_)) | refine Nt (Ro hT (Nv ?_))
 show wpAny _ _ (setField (.ref it) 2 .none >>= _) _ _ s
 refine Nt (Q7 hat rfl (by simp) (Nt ?_))
 simp only [newExc,newTuple]
 refine Nt (OJ ?_ (by size_fits))
 refine Nt (m:=firstArgMember _ _) (wpAny_of_eq (a:=OC) (by first | rfl | (simp only [firstArgMember]; rfl)) ?_)
 refine OJ ?_ (by size_fits)
 simp only [raiseNew]
 refine Nt (wpAny_handled ?_)
 rw [show A.in1.handled=none from hh]
 refine Nt (Nv (wpAny_throw ?_))
 refine Nt (RU (T:="StopIteration") (b:=true) ⟨_,NL _ rfl,rfl⟩ isSubtype_stop ?_)
 exact Nv (hQ _ (((QO ..).extBut.push _).push _))
theorem CY (hit:zE s.heap it d i n ep) (h:∀ h',zE h' it d i n ep->O3 it s.heap h'->Q () { s with heap:=h' }):wpAny (model prog w) A (letOwnedTupleGo tg (.ref it) (.ref a)) Q E s:=by
 have stay:Q () s:=h s.heap hit (.refl ..)
 obtain ⟨x,f,k,v,hat,hxx⟩:=hit
 have part:wpAny (model prog w) A (do
  let o <- load it
  match o.cls,o.data with
  | .type n,.fields vs =>
   if (["enumerate","zip","dict_itemiterator","dict_reverseitemiterator","odict_iterator","itertools.zip_longest","itertools.pairwise"].contains n && vs[0]? == some (rawInt a))=true then do
    rule "for.unpacks-the-owned-tuple"
    updateField it 0 .none
   else pure ()
  | _,_=>pure ()) Q E s:=by
  refine Nt (wpAny_load hat ?_)
  dsimp only
  split
  ·refine Nt (OO ?_)
   show wpAny _ _ (setField (.ref it) 0 .none) Q E s
   exact P6 hat (by simp) λh' e' s'=>h h' ⟨_,_,_,_,e',.inl rfl⟩ s'
  ·exact Nv stay
 unfold letOwnedTupleGo
 cases tg <;> first
  | exact Nv stay
  | exact part
end
noncomputable def bD:HO->List (V×V)
 | .dK ys=>ys.map λy=>(kV y.1,y.2)
 | .dT ys=>ys.map λy=>(.ref y.2.1,y.2.2)
 | _=>[]
theorem uL (h:kc k v=true):RelV (kV k) v:=by
 rcases bH h with ⟨i,t,rfl,rfl⟩ | ⟨x,t,rfl,rfl⟩
 ·exact ⟨t,rfl⟩
 ·exact ⟨t,rfl⟩
theorem bR (ok:bg P w H h d u) (hd:HO.dct u) (ho:h.get? d=some o) :
 o.ExactDict/\∃ es ep,o.data=.dict es ep/\Paired (λ(a:V×V) (e:DictEntry)=>RelV a.1 e.key/\RelV a.2 e.val) (bD u) es.toList/\(d == sysModules)=false/\(bD u).length<=sizeLine:=by
 cases u with
 | dK ys =>
  obtain ⟨z,y,vs,kv,o',es,ep,h1,h2,h3,h4,h5,h6⟩:=ok
  rw [ho] at h1; cases h1
  refine ⟨h2,es,ep,h3,?_,y,by simpa [bD] using z⟩
  show Paired _ (ys.map _) _
  clear h3 h4 h6 z
  generalize es.toList=l at h5 |-
  unfold KV at kv
  induction kv generalizing l with
  | nil=>cases h5; exact .nil
  | @cons a b as bs q t ih =>
   cases h5 with
   | cons r t' t''=>exact .cons ⟨by show L2.RelV (kV a.1) _; rw [q.1]; exact uL r,by rw [t']; exact q.2⟩ (ih hd _ t'')
 | dT ys =>
  obtain ⟨z,y,xs,kv,o',es,ep,h1,h2,h3,h4,h5⟩:=ok
  rw [ho] at h1; cases h1
  refine ⟨h2,es,ep,h3,?_,y,by simpa [bD] using z⟩
  rw [h4]
  show Paired _ (ys.map _) _
  clear h3 h4 h5 z
  induction kv with
  | nil=>exact .nil
  | @cons a b as bs q t ih =>
   rw [NF,NF]
   refine .cons ⟨?_,q.2.2⟩ (ih hd)
   show NW b.2.1=NW a.2.1
   rw [q.2.1]
 | _=>exact hd.elim
theorem c6:∀ {l:List α} {m:List β} {i:Nat} {a:α},Paired F l m->l[i]?=some a->∃ b,m[i]?=some b/\F a b
 | _,_,_,_,.nil,e=>by simp at e
 | _,_,0,_,.cons r _,e=>by simp at e; subst e; exact ⟨_,rfl,r⟩
 | _,_,i+1,a,.cons _ t,e=>by
  obtain ⟨b,h1,h2⟩:=c6 (i:=i) t (by simpa using e)
  exact ⟨b,by simpa using h1,h2⟩
noncomputable def Ll (d:Addr) (o:Obj) (u:HO):It :=
 ⟨λi H=>H d=some (.frz o u)/\i<(bD u).length,λi H x H'=>∃ p kv,(bD u)[i]?=some kv/\x=.ref p/\H p=none/\H'=upd H p (.tup [kv.1,kv.2]),λi H=>H d=some (.frz o u)/\(bD u).length<=i⟩
theorem wI:entryFor table "dict_itemiterator.__iter__"=some Builtin.«dict_keyiterator.__iter__» :=entryFor_alias (id':="dict_keyiterator.__iter__") (by kernel_rfl) rfl (by decide +kernel) (by kernel_rfl)
theorem kO {P:Program} {w:World} {K:Nu} {tg:Expr} {d it:Addr} {o:Obj} {u:HO} {es:Array DictEntry} {ep:Nat} (hd:HO.dct u) (hod:o.data=.dict es ep) (hne:it≠d) (hes:es.size=(bD u).length) :
 Turn P w K tg (Ll d o u) [it] it (λi h=>zE h it d i es.size ep) where
 mem:=by simp
 obj:=λi h st b hb=>by
  have e:b=it:=by simpa using hb
  subst e
  obtain ⟨x,f,k,v,e,_⟩:=st
  exact ⟨_,e,λv z=>by
   have z':So _=Data.cell v:=z
   cases z'⟩
 keep:=λi h h' st k=>by
  obtain ⟨x,f,kk,v,e,hx⟩:=st
  exact ⟨x,f,kk,v,k it (by simp) _ e,hx⟩
 item:=by
  intro X hP hw hK hc i aa s σ H E I hf st hg
  subst hP hw hK
  obtain ⟨hH,hi⟩:=hg
  obtain ⟨f0,f1,f2,f3,f4,f5⟩:=hf it (by simp)
  obtain ⟨ho,ok⟩:=(show bg X.prog X.w H s.heap d (.frz o u) from I.hok d _ hH)
  obtain ⟨_,es',ep',e1,e2,_⟩:=bR ok hd ho
  rw [hod] at e1; cases e1
  obtain ⟨e,he,re⟩:=c6 e2 (NX hi)
  have he':es[i]?=some e:=by simpa using he
  refine next_item st ho hod he' λh1 g1 t1 z1 k1=>?_
  have hil:it<s.heap.objs.size:=by
   obtain ⟨_,_,_,_,q,_⟩:=st
   exact NG q
  have Hp:H s.heap.objs.size=none:=I.hok.fresh (Ny _)
  have hit0:it≠s.heap.objs.size:=N4 hil
  generalize hkv:(bD u)[i]=kv at re
  have IA:Inv X aa σ (upd H s.heap.objs.size (.tup [kv.1,kv.2])) { s with heap:=s.heap.push { cls:=.type "tuple",data:=.seq #[e.key,e.val] },toks:=s.toks } :=
   I.laid (a:=s.heap.objs.size) (o:=.tup [kv.1,kv.2]) (λ_ _ q=>NC _ q) (Ny _) ⟨by show 2<=sizeLine; decide,[e.key,e.val],.cons re.1 (.cons re.2 .nil),_,NL _ rfl,rfl,0,rfl⟩
  have g0:upd H s.heap.objs.size (.tup [kv.1,kv.2]) it=none:=by rw [av hit0]; exact f0
  have I1:Inv X aa σ (upd H s.heap.objs.size (.tup [kv.1,kv.2])) { s with heap:=h1,toks:=s.toks }:=IA.turned (λb o hb q=>by
   by_cases z:b=s.heap.objs.size
   ·subst z
    rw [NL _ rfl] at q; cases q; exact t1
   ·have lt:b<s.heap.objs.size:=by
     have:=NG q
     rw [Py] at this
     exact Nat.lt_of_le_of_ne (Nat.le_of_lt_succ this) z
    refine k1 b o hb ?_
    rw [Heap.get?_push_ne _ _ _ z] at q; exact q) g0 f1 f3 f4 f5
  refine ⟨_,rfl,CY (s:={ s with heap:=h1 }) g1 λh2 g2 s2=>?_⟩
  refine ⟨.ref s.heap.objs.size,_,I1.turned (t':=s.toks) (λb o hb q=>(s2.2 b hb).trans q) g0 f1 f3 f4 f5,rfl,⟨_,kv,by rw [NX hi,hkv],rfl,Hp,rfl⟩,g2,λb hb=>?_⟩
  have e:b=it:=by simpa using hb
  rw [e]; exact g0
 done:=by
  intro X hP hw hK hc i aa s σ H E I hf st hg
  subst hP hw hK
  obtain ⟨hH,hi⟩:=hg
  obtain ⟨f0,f1,f2,f3,f4,f5⟩:=hf it (by simp)
  obtain ⟨ho,ok⟩:=(show bg X.prog X.w H s.heap d (.frz o u) from I.hok d _ hH)
  exact next_end (I.ok.hd hc) st ho hod (by lia) λh' eb=>⟨rfl,I.turned (t':=s.toks) (λb o hb e=>eb b o hb e) f0 f1 f3 f4 f5⟩
 self:=by
  intro A i s Q E st h
  have hT:=st.G3
  refine Tf hT T6 (O4 T6 hT wI ?_ (F.args_dict_itemiterator_iter_1 _))
  show wpAny _ _ (ret (.ref it)) _ _ s
  exact Nv ⟨_,rfl,"dict_itemiterator",_,hT,Qk.lookup,h⟩
theorem jF (d) (hd:(d == sysModules)=false) :
 MeetsIn prog w (Builtin.«dict.items» ⟨[.ref d],[]⟩) (λ_ R s=>s.TypeIs (.ref d) "dict"/\R (.ok (.ret (.ref s.heap.objs.size))) { s with heap:=s.heap.push { cls:=.type "dict_items",data:=.fields #[.ref d] } }) :=
 .of_wp λA R s ⟨hT,h⟩=>by
  unfold Builtin.«dict.items»
  refine Nt ?_
  unfold Builtin.Dict.noArgs
  refine Nt (wpAny_notOrdered_dict hT (show wpAny _ _ (pure d) _ _ s from Nv ?_))
  show wpAny _ _ (RB d >>= _) _ _ s
  unfold RB
  rw [if_neg (by rw [hd]; exact NH)]
  exact Nt (Nv (Nt (OJ (Nv ⟨_,rfl,h⟩))))
theorem mT (hv:s.heap.IsItemsView v d) (hod:s.heap.get? d=some od) (hdd:od.data=.dict es ep)
 (hQ:Q (.ref s.heap.objs.size) { s with heap:=s.heap.push { cls:=.type "dict_itemiterator",data:=.fields #[.none,.bool false,.ref d,.int 0 0,.int es.size 0,.int ep 0,.none,.none] } }) :
 wpAny (model prog w) A (pyIter (.ref v)) Q E s:=by
 obtain ⟨ov,hov,hcv,hdv⟩:=id hv
 refine Tf hv.typeIs F.slot_dict_items_iter (O4 F.slot_dict_items_iter hv.typeIs F.entry_dict_items_iter ?_ (F.args_dict_items_iter_1 _))
 unfold Builtin.«dict_items.__iter__»
 refine Nt (Nv (Nt ?_))
 unfold Builtin.Dict_items.dictOf
 refine Nt (Pc hov hdv (x:=.ref d) rfl (Nv (Nt ?_)))
 unfold Builtin.Dict_items.newIterator
 refine Nt (Qy hod hdd (Nt (QA hod hdd ?_)))
 simp only [n9,if_true]
 refine OJ (Nv ⟨_,rfl,"dict_itemiterator",_,⟨_,NL _ rfl,rfl⟩,Qk.lookup,?_⟩)
  (by simp only [sizeOk,TR,NR,N5,Oe,OZ,sizeLine_eq]; lia)
 simpa [rawInt,TR] using hQ
noncomputable def wJ:Key->D | .inl i=>.int i | .inr x=>.str x
noncomputable def D.pairs:D->Option (List D)
 | .fdK ks ds=>some (Sf (λk d=>D.tup [wJ k,d]) ks ds)
 | .fdT ks ds=>some (Sf (λk d=>D.tup [.tup (k.map wJ),d]) ks ds)
 | _=>none
noncomputable def G4 (te:TE):TI:=λσ H R=>te σ H λx H1=>∃ d o u,x=.ref d/\H1 d=some (.frz o u)/\HO.dct u/\∀ v,H1 v=none->R (Ll d o u) (upd H1 v (.ext λh=>h.IsItemsView v d))
theorem zG (he:PE X e te) (hbase:attributeBase e "items" X.env (eval e X.env)=eval e X.env) (hline:(ap.endLine == cp.line)=true):PI X tg (.Call (.Attribute e "items" ap) [] [] cp) (G4 te):=by
 intro aa s σ H R I h
 refine Th (T:="dict") (id:="dict.items") hbase rfl hline F.plainAttrs_dict RT F.type_dict_items (bC (he aa s σ H _ I h) λv s1 hh=>z2 hh λx H1 hh=>w3 hh λI1 r1 hh=>z3 hh λd o u hh=>w4 hh λex hH hd q=>?_)
 subst ex
 cases r1
 obtain ⟨ho,ok⟩:=(show bg X.prog X.w H1 s1.heap d (.frz o u) from I1.hok d _ hH)
 obtain ⟨hx,es,ep,hod,hp,hs,hz⟩:=bR ok hd ho
 have hT:s1.TypeIs (.ref d) "dict":=⟨o,ho,hx.1⟩
 refine ⟨hT,λb z=>by cases z; exact ⟨o,ho,hx.2.1⟩,?_⟩
 show wpAny _ _ (callWith cp (.builtin "dict.items") [.ref d] [] []) _ _ s1
 refine method_meetsIn RT F.entry_dict_items rfl (SW ⟨rfl,hT,F.args_dict_items_1 _,_,jF d hs,hT,?_⟩)
 have Hv:H1 s1.heap.objs.size=none:=I1.hok.fresh (Ny _)
 have hve:(s1.heap.push { cls:=.type "dict_items",data:=.fields #[.ref d] }).IsItemsView s1.heap.objs.size d:=⟨_,NL _ rfl,rfl,rfl⟩
 have I2:Inv X aa σ (upd H1 s1.heap.objs.size (.ext λh=>h.IsItemsView s1.heap.objs.size d)) { s1 with heap:=s1.heap.push { cls:=.type "dict_items",data:=.fields #[.ref d] },toks:=s1.toks } :=
  I1.laid (a:=s1.heap.objs.size) (λ_ _ q=>NC _ q) (Ny _) ⟨hve,⟨_,NL _ rfl⟩,λh1 h2 ⟨o,e,r⟩ k=>⟨o,k o e,r⟩⟩
 refine mT hve (NC _ ho) hod ?_
 have hsz:es.size=(bD u).length:=by rw [OE hp]; simp
 have I3:=I2.kept (t':=s1.toks) (h':=(s1.heap.push { cls:=.type "dict_items",data:=.fields #[.ref d] }).push { cls:=.type "dict_itemiterator",data:=.fields #[.none,.bool false,.ref d,.int 0 0,.int es.size 0,.int ep 0,.none,.none] }) λb o e=>NC _ e
 refine ⟨_,[_],_,_,_,rfl,I3,kO (o:=o) (u:=u) (es:=es) (ep:=ep) hd hod (λz=>?_) hsz,⟨.none,false,.none,.none,NL _ rfl,.inl rfl⟩,λb hb=>?_,q _ Hv⟩
 ·have lt:=NG (NC ({ cls:=.type "dict_items",data:=.fields #[.ref d] }:Obj) ho)
  rw [z] at lt
  exact absurd lt (OW _)
 ·have e:b=(s1.heap.push { cls:=.type "dict_items",data:=.fields #[.ref d] }).objs.size:=by simpa using hb
  subst e
  exact I2.kh (Ny _) (I2.hok.fresh (Ny _))
section
variable {K:Nu} {Hf:Hp}
theorem qm:Rep K Hf (wJ k) (kV k):=by
 cases k with
 | inl i=>exact aA.mpr rfl
 | inr x=>exact gu.mpr rfl
theorem mU:∀ {ks:List Key},au K Hf (ks.map wJ) (ks.map kV)
 | []=>aC.mpr rfl
 | k::ks=>.cons qm mU
def iJ (K:Nu) (Hf:Hp) (d:D) (kv:V×V):Prop:=∃ k e,d=.tup [k,e]/\Rep K Hf k kv.1/\Rep K Hf e kv.2
theorem uM:∀ {ys:List (Key×V)} {vs:List D},au K Hf vs (ys.map (·.2))->Paired (iJ K Hf) (Sf (λk d=>D.tup [wJ k,d]) (ys.map (·.1)) vs) (ys.map λy=>(kV y.1,y.2))
 | [],vs,h=>by
  cases vs with
  | nil=>exact .nil
  | cons d ds=>obtain ⟨x,r,e,_⟩:=aD.mp h; cases e
 | y::ys,vs,h=>by
  cases vs with
  | nil=>rw [aC] at h; cases h
  | cons d ds =>
   obtain ⟨x,r,e,h1,h2⟩:=aD.mp h
   cases e
   exact .cons ⟨_,_,rfl,qm,h1⟩ (uM h2)
theorem uN:∀ {ys:List (List Key×Addr×V)} {vs:List D},(∀ y∈ys,c8 K Hf y.2.1 (y.1.map kV))->au K Hf vs (ys.map (·.2.2))->Paired (iJ K Hf) (Sf (λk d=>D.tup [.tup (k.map wJ),d]) (ys.map (·.1)) vs) (ys.map λy=>(.ref y.2.1,y.2.2))
 | [],vs,_,h=>by
  cases vs with
  | nil=>exact .nil
  | cons d ds=>obtain ⟨x,r,e,_⟩:=aD.mp h; cases e
 | y::ys,vs,hk,h=>by
  cases vs with
  | nil=>rw [aC] at h; cases h
  | cons d ds =>
   obtain ⟨x,r,e,h1,h2⟩:=aD.mp h
   cases e
   exact .cons ⟨_,_,rfl,aM.mpr ⟨_,_,rfl,hk y NP,mU⟩,h1⟩ (uN (λz hz=>hk z (NK _ hz)) h2)
theorem jf (hp:d.pairs=some ds) (h:Rep K Hf d v):∃ a o u,v=.ref a/\Hf a=some (.frz o u)/\HO.dct u/\Paired (iJ K Hf) ds (bD u):=by
 cases d with
 | fdK ks vs =>
  cases hp
  obtain ⟨a,ys,o,rfl,h1,h2,h3⟩:=iw.mp h
  subst h2
  exact ⟨a,o,_,rfl,h1,trivial,uM h3⟩
 | fdT ks vs =>
  cases hp
  obtain ⟨a,ys,o,rfl,h1,h2,h3,h4⟩:=iy.mp h
  subst h2
  exact ⟨a,o,_,rfl,h1,trivial,uN h3 h4⟩
 | _=>cases hp
theorem gO {ds:List D} {a:Addr} {o:Obj} {u:HO} (h:Hf a=some (.frz o u)) (hp:Paired (iJ K Hf) ds (bD u)):jd K (Ll a o u) ds Hf where
 go:=λi d H aQ s1 s2 e=>by
  obtain ⟨kv,ekv,k,dd,rfl,r1,r2⟩:=c6 hp e
  refine ⟨⟨s2 _ _ (s1 _ _ h),(NJ.mp ekv).1⟩,λx H' ⟨p,kv',e1,e2,e3,e4⟩=>?_⟩
  rw [ekv] at e1; cases e1
  subst e2 e4
  have g:=bw.new s2 e3 (o:=.tup [kv.1,kv.2])
  exact ⟨upd aQ p (.tup [kv.1,kv.2]),g,aM.mpr ⟨p,_,rfl,.inl (.inl af),.cons (Rep.mono (s1.trans g.f) _ r1) (.cons (Rep.mono (s1.trans g.f) _ r2) (aC.mpr rfl))⟩⟩
 stop:=λi H aQ s1 s2 e=>⟨s2 _ _ (s1 _ _ h),by rw [<- OE hp]; exact e⟩
end
section
variable {K:Nu}
theorem CZ (h:aI c e ρ λd=>∃ ds,d.pairs=some ds/\R ds)
 (hb:∀ env,attributeBase e "items" env (eval e env)=eval e env:=by intro _; walk_at "u") (hl:(ap.endLine == cp.line)=true:=by walk_at "u") :
 CK c tg (.Call (.Attribute e "items" ap) [] [] cp) ρ R:=λσ H Hf Q S q aa s I =>
 zG (cY (X:=c.X)) (hb _) hl aa s σ H Q I (h σ H Hf _ S λd v H1 aQ ⟨ds,hp,hR⟩ rv g=>by
  obtain ⟨a,o,u,e1,e2,e3,e4⟩:=jf hp rv
  refine ⟨a,o,u,e1,g.b _ _ e2,e3,λvw hv=>?_⟩
  exact q ds _ _ aQ hR (g.trans (bw.dZ g.b hv)) (gO e2 e4))
theorem G5 {x:D} {Q:List D->Prop} (e:x.pairs=some ds) (h:Q ds):∃ ys,x.pairs=some ys/\Q ys:=⟨ds,e,h⟩
end
end EV
namespace SR
open PySem PyProof.Rows
noncomputable def cQ:Bool->Keyed->Array Keyed->Nat->Nat->Nat->StateT SortSt Sem (Option Nat):=sortPriv% PySem.Builtin.gallop
noncomputable def cD:Nat->StateT SortSt Sem Unit:=sortPriv% PySem.Builtin.setMinGallop
noncomputable def dH (left:Bool) (key:Keyed) (arr:Array Keyed) (base i:Nat):StateT SortSt Sem (Option Bool):=do
 let x <- elem' arr (base+i)
 if left then lt' x key else return (<- lt' key x).map (!·)
noncomputable abbrev qo:=Option (Option Nat)×Nat×Nat
noncomputable def kP (bey:Nat->StateT SortSt Sem (Option Bool)) (n lo hi:Nat):StateT SortSt Sem (Option Nat):=do
 let __s <- forIn [0:n] ((none,lo,hi):qo) λ_ __s =>
  if __s.snd.fst>=__s.snd.snd then pure (OU (none,__s.snd.fst,__s.snd.snd))
  else do
   let __x <- bey (__s.snd.fst+(__s.snd.snd - __s.snd.fst) / 2)
   match __x with
   | some more=>if more=true then pure (Ot (none,__s.snd.fst+(__s.snd.snd - __s.snd.fst) / 2+1,__s.snd.snd)) else pure (Ot (none,__s.snd.fst,__s.snd.fst+(__s.snd.snd - __s.snd.fst) / 2))
   | _=>pure (OU (some none,__s.snd.fst,__s.snd.snd))
 match __s.fst with
 | some r=>pure r
 | none=>pure (some __s.snd.snd)
noncomputable def zH (bey:Nat->StateT SortSt Sem (Option Bool)) (n hint maxofs:Nat):StateT SortSt Sem qo :=
 forIn [0:n] ((none,0,1):qo) λ_ __s =>
  if __s.snd.snd>=maxofs then pure (OU (none,__s.snd.fst,__s.snd.snd))
  else do
   let __x <- bey (hint+__s.snd.snd)
   match __x with
   | some more=>if (!more)=true then pure (OU (none,__s.snd.fst,__s.snd.snd)) else pure (Ot (none,__s.snd.snd,2 * __s.snd.snd+1))
   | _=>pure (OU (some none,__s.snd.fst,__s.snd.snd))
noncomputable def zI (bey:Nat->StateT SortSt Sem (Option Bool)) (n hint maxofs:Nat):StateT SortSt Sem qo :=
 forIn [0:n] ((none,0,1):qo) λ_ __s =>
  if __s.snd.snd>=maxofs then pure (OU (none,__s.snd.fst,__s.snd.snd))
  else do
   let __x <- bey (hint - __s.snd.snd)
   match __x with
   | some found=>if found=true then pure (OU (none,__s.snd.fst,__s.snd.snd)) else pure (Ot (none,__s.snd.snd,2 * __s.snd.snd+1))
   | _=>pure (OU (some none,__s.snd.fst,__s.snd.snd))
local macro_rules | `(tactic| walk_at "dl gallop")=>do
 let i:=Qf (P4 `PySem.Builtin.List.W1All `PySem.Builtin.gallop)
 `(tactic| delta $i)
theorem sE (left) (key) (arr) (base n hint):cQ left key arr base n hint=(do
 let __x <- dH left key arr base hint
 match __x with
 | some right =>
  if right=true then do
   let __s <- zH (dH left key arr base) n hint (n - hint)
   match __s.fst with
   | some r=>pure r
   | none=>kP (dH left key arr base) n (hint+__s.snd.fst+1) (hint+min __s.snd.snd (n - hint))
  else do
   let __s <- zI (dH left key arr base) n hint (hint+1)
   match __s.fst with
   | some r=>pure r
   | none=>kP (dH left key arr base) n (hint+1 - min __s.snd.snd (hint+1)) (hint - __s.snd.fst)
 | _=>pure none):=by
 unfold cQ
 walk_at "dl gallop"
 unfold zH zI kP dH
 dsimp only
 congr 1
 funext x
 cases x with
 | none=>rfl
 | some right =>
  dsimp only
  cases right with
  | true =>
   rw [if_pos rfl,if_pos rfl]
   congr 1
   funext c
   obtain ⟨r,l,o⟩:=c
   cases r with
   | some r=>rfl
   | none =>
    dsimp only
    congr 1
    funext c
    obtain ⟨r,l,o⟩:=c
    cases r <;> rfl
  | false =>
   rw [if_neg NH,if_neg NH]
   congr 1
   funext c
   obtain ⟨r,l,o⟩:=c
   cases r with
   | some r=>rfl
   | none =>
    dsimp only
    congr 1
    funext c
    obtain ⟨r,l,o⟩:=c
    cases r <;> rfl
def ir (prog:Program) (w:World) (A:Around) (s:Shared) (κ:SortKind) (rk:Keyed->Int) (L:List Keyed):Prop :=
 ∀ x∈L,∀ y∈L,∀ (E:Value->Shared->Prop) (Q:Bool->Shared->Prop),Q (decide (rk x<rk y)) s->wpAny (model prog w) A (keyLt' κ x.1 y.1) Q E s
noncomputable def R (rk:Keyed->Int) (xs:Array Keyed) (i:Nat):Int:=match xs[i]? with | some p=>rk p | none=>0
theorem dI (h:xs[i]?=some p):R rk xs i=rk p:=by unfold R; rw [h]
theorem ck (h:xs[i]?=ys[j]?):R rk xs i=R rk ys j:=by unfold R; rw [h]
theorem kQ {st:SortSt} (hC:ir prog w A s κ rk L) (hk:kindOf st=κ) (hx:x∈L) (hy:y∈L) (h:Q (some (decide (rk x<rk y))) st):wpS (model prog w) A E s (lt' x y) Q st:=by
 rw [lt'_eq]
 refine Nz (OX ?_)
 rw [hk]
 refine Nz (PX (QC (hC x hx y hy _ _ ⟨rfl,?_⟩)))
 exact NB h
theorem aS {st:SortSt} (hi:arr[i]?=some p) (h:Q p st):wpS (model prog w) A E s (elem' arr i) Q st:=by
 rw [elem'_eq,hi]; exact NB h
theorem wK {st:SortSt} (hC:ir prog w A s κ rk L) (hk:kindOf st=κ) (hi:(arrOf st)[i]?=some p) (hj:(arrOf st)[j]?=some q) (hp:p∈L) (hq:q∈L)
 (h:Q (some (decide (R rk (arrOf st) i<R rk (arrOf st) j))) st):wpS (model prog w) A E s (ltAt' i j) Q st:=by
 rw [ltAt'_eq]
 refine Nz (OX ?_)
 show wpS _ _ _ _ (do let x <- elem' (arrOf st) i; let y <- elem' (arrOf st) j; lt' x y) Q st
 refine Nz (aS hi (Nz (aS hj (kQ hC hk hp hq ?_))))
 rw [dI hi,dI hj] at h
 exact h
theorem sF {st:SortSt} (hC:ir prog w A s κ rk L) (hk:kindOf st=κ) (hkey:key∈L) (hi:arr[base+i]?=some p) (hp:p∈L)
 (hb:(if left=true then rk p<rk key else rk p<=rk key)↔i<k) (h:Q (some (decide (i<k))) st):wpS (model prog w) A E s (dH left key arr base i) Q st:=by
 unfold dH
 refine Nz (aS hi ?_)
 cases left with
 | true =>
  simp only [if_true] at hb |-
  refine kQ hC hk hp hkey ?_
  rw [decide_eq_decide.mpr hb]; exact h
 | false =>
  simp only [Od,if_false] at hb |-
  refine Nz (kQ hC hk hkey hp (NB ?_))
  have e:(!decide (rk key<rk p))=decide (i<k):=by
   rw [<- decide_not]; exact decide_eq_decide.mpr (by rw [<- hb]; omega)
  rw [Option.map_some,e]; exact h
theorem kR {st:SortSt} {n lo hi k:Nat} (hb:∀ i,i<n->∀ (Q:Option Bool->SortSt->Prop),Q (some (decide (i<k))) st->wpS (model prog w) A E s (bey i) Q st)
 (h1:lo<=k) (h2:k<=hi) (h3:hi<=n) (h:Q (some k) st):wpS (model prog w) A E s (kP bey n lo hi) Q st:=by
 unfold kP
 refine Nz (Ob (OB (I:=λx c st'=>st'=st/\∃ l r,c=(none,l,r)/\l<=k/\k<=r/\r<=n/\r - l<=n - x) (Q:=λc st'=>st'=st/\∃ l,c=(none,l,k)) ?step ?fin ⟨rfl,lo,hi,rfl,h1,h2,h3,by omega⟩) ?post)
 case fin =>
  rintro c st' ⟨rfl,l,r,rfl,a1,a2,a3,a4⟩
  have:r=k:=by omega
  subst this
  exact ⟨rfl,l,rfl⟩
 case step =>
  rintro x c st' _ hx ⟨rfl,l,r,rfl,a1,a2,a3,a4⟩
  dsimp only
  by_cases hge:l>=r
  ·rw [if_pos hge]
   have:r=k:=by omega
   subst this
   exact NB ⟨rfl,l,rfl⟩
  ·rw [if_neg hge]
   refine Nz (hb _ (by omega) _ ?_)
   dsimp only
   by_cases hm:l+(r - l) / 2<k
   ·rw [decide_eq_true hm,if_pos rfl]
    exact NB ⟨rfl,_,_,rfl,by omega,by omega,by omega,by omega⟩
   ·rw [decide_eq_false hm,if_neg NH]
    exact NB ⟨rfl,_,_,rfl,by omega,by omega,by omega,by omega⟩
 case post =>
  rintro c st' ⟨rfl,l,rfl⟩
  exact NB h
theorem fk {st:SortSt} (hC:ir prog w A s κ rk L) (hk:kindOf st=κ) (hkey:key∈L) (harr:∀ i,i<n->∃ p,arr[base+i]?=some p/\p∈L)
 (hb:∀ i,i<n->((if left=true then R rk arr (base+i)<rk key else R rk arr (base+i)<=rk key)↔i<k)) (hkn:k<=n) (hh:hint<n) (h:Q (some k) st):wpS (model prog w) A E s (cQ left key arr base n hint) Q st:=by
 have bey:∀ i,i<n->∀ (Q:Option Bool->SortSt->Prop),Q (some (decide (i<k))) st->wpS (model prog w) A E s (dH left key arr base i) Q st:=λi hi Q hQ=>by
  obtain ⟨p,e,hp⟩:=harr i hi
  refine sF hC hk hkey e hp ?_ hQ
  have:=hb i hi
  rw [dI e] at this
  exact this
 rw [sE]
 refine Nz (bey hint hh _ ?_)
 dsimp only
 by_cases hr:hint<k
 ·rw [decide_eq_true hr,if_pos rfl]
  unfold zH
  refine Nz (Ob (OB (I:=λx c st'=>st'=st/\∃ l o,c=(none,l,o)/\hint+l<k/\x<o) (Q:=λc st'=>st'=st/\∃ l o,c=(none,l,o)/\hint+l<k/\(k<=hint+o\/n - hint<=o)) ?step ?fin ⟨rfl,0,1,rfl,hr,by omega⟩) ?post)
  case fin =>
   rintro c st' ⟨rfl,l,o,rfl,a1,a2⟩
   exact ⟨rfl,l,o,rfl,a1,.inr (by omega)⟩
  case step =>
   rintro x c st' _ hx ⟨rfl,l,o,rfl,a1,a2⟩
   dsimp only
   by_cases hge:o>=n - hint
   ·rw [if_pos hge]; exact NB ⟨rfl,l,o,rfl,a1,.inr hge⟩
   ·rw [if_neg hge]
    refine Nz (bey _ (by omega) _ ?_)
    dsimp only
    by_cases hm:hint+o<k
    ·rw [decide_eq_true hm]; simp only [Qe,Od,if_false]
     exact NB ⟨rfl,o,2 * o+1,rfl,hm,by omega⟩
    ·rw [decide_eq_false hm]; simp only [Bool.not_false,if_true]
     exact NB ⟨rfl,l,o,rfl,a1,.inl (by omega)⟩
  case post =>
   rintro c st' ⟨rfl,l,o,rfl,a1,a2⟩
   dsimp only
   exact kR bey (by omega) (by omega) (by omega) h
 ·rw [decide_eq_false hr,if_neg NH]
  unfold zI
  refine Nz (Ob (OB (I:=λx c st'=>st'=st/\∃ l o,c=(none,l,o)/\l<=hint/\k<=hint - l/\x<o) (Q:=λc st'=>st'=st/\∃ l o,c=(none,l,o)/\l<=hint/\k<=hint - l/\(hint+1<=k+o\/hint+1<=o)) ?step ?fin ⟨rfl,0,1,rfl,by omega,by omega,by omega⟩) ?post)
  case fin =>
   rintro c st' ⟨rfl,l,o,rfl,a1,a2,a3⟩
   exact ⟨rfl,l,o,rfl,a1,a2,.inr (by omega)⟩
  case step =>
   rintro x c st' _ hx ⟨rfl,l,o,rfl,a1,a2,a3⟩
   dsimp only
   by_cases hge:o>=hint+1
   ·rw [if_pos hge]; exact NB ⟨rfl,l,o,rfl,a1,a2,.inr hge⟩
   ·rw [if_neg hge]
    refine Nz (bey _ (by omega) _ ?_)
    dsimp only
    by_cases hm:hint - o<k
    ·rw [decide_eq_true hm,if_pos rfl]
     exact NB ⟨rfl,l,o,rfl,a1,a2,.inl (by omega)⟩
    ·rw [decide_eq_false hm,if_neg NH]
     exact NB ⟨rfl,o,2 * o+1,rfl,by omega,by omega,by omega⟩
  case post =>
   rintro c st' ⟨rfl,l,o,rfl,a1,a2,a3⟩
   dsimp only
   exact kR bey (by omega) (by omega) (by omega) h
noncomputable def kT:Array Keyed->Array Keyed->StateT SortSt Sem (Array Keyed):=sortPriv% PySem.Builtin.mergeLo
theorem fm {st:SortSt} (h:Q () (PR (kindOf st) (arrOf st) (pendingOf st) g (failedOf st))):wpS M A E s (cD g) Q st :=
 O6 (f:=λst=>PR (kindOf st) (arrOf st) (pendingOf st) g (failedOf st)) h
section
variable {rk:Keyed->Int} {a b:Array Keyed}
def zJ (rk:Keyed->Int) (xs:List Keyed):Prop:=xs.Pairwise λp q=>rk p<=rk q
theorem uO (h:xs.length<=1):zJ rk xs:=by
 cases xs with
 | nil=>exact QV
 | cons x xs =>
  cases xs with
  | nil=>exact Qp _ _
  | cons y ys=>simp at h
def Res (rk:Keyed->Int) (a b r:Array Keyed):Prop:=r.toList.Perm (a.toList++b.toList)/\zJ rk r.toList
structure WL (rk:Keyed->Int) (a b:Array Keyed) (out:Array Keyed) (ia ib:Nat):Prop where
 pa:ia<=a.size
 pb:ib<=b.size
 pm:out.toList.Perm (a.toList.take ia++b.toList.take ib)
 sr:zJ rk out.toList
 ha:∀ p∈out.toList,∀ (j:Nat) (q:Keyed),ia<=j->a[j]?=some q->rk p<=rk q
 hb:∀ p∈out.toList,∀ (j:Nat) (q:Keyed),ib<=j->b[j]?=some q->rk p<=rk q
def Up (rk:Keyed->Int) (a:Array Keyed):Prop:=∀ (i j:Nat) (p q:Keyed),i<=j->a[i]?=some p->a[j]?=some q->rk p<=rk q
theorem jg (h:Up rk a):zJ rk a.toList:=by
 unfold zJ
 rw [Su]
 intro i j hi hj hij
 exact h i j _ _ (PJ hij) (by simp at hi |-) (by simp at hj |-)
theorem G6 (h:zJ rk a.toList):Up rk a:=λi j p q hij e1 e2=>by
 rw [<- Oj] at e1 e2
 obtain ⟨h1,r1⟩:=NJ.mp e1
 obtain ⟨h2,r2⟩:=NJ.mp e2
 subst r1 r2
 rcases Nat.lt_or_eq_of_le hij with z | z
 ·exact (Su.mp h) i j h1 h2 z
 ·subst z; exact OL _
theorem bL (h1:zJ rk xs) (h2:zJ rk ys) (h3:∀ p∈xs,∀ q∈ys,rk p<=rk q):zJ rk (xs++ys):=List.pairwise_append.mpr ⟨h1,h2,h3⟩
theorem dN (xs:Array Keyed) (i j):(xs.extract i j).toList=(xs.toList.take j).drop i:=by
 rw [List.drop_take]; simp [List.extract_eq_take_drop]
theorem gx (xs:Array Keyed) (i):(xs.extract i xs.size).toList=xs.toList.drop i:=by
 rw [dN,P1 (by simp)]
theorem iK (xs:Array Keyed) (i):(xs.extract i i).toList=[]:=by
 rw [dN,List.drop_take]; simp
theorem uP {xs:Array Keyed} (h:q∈(xs.extract i j).toList):∃ k,i<=k/\k<j/\xs[k]?=some q:=by
 obtain ⟨n,hn⟩:=Qu h
 rw [Oj,Rz] at hn
 split at hn
 ·rename_i z
  exact ⟨i+n,by lia,by lia,hn⟩
 ·cases hn
theorem WL.jh (h:WL rk a b out ia ib) (ua:Up rk a) (e:ib=b.size):Res rk a b (out++a.extract ia a.size++b.extract ib b.size):=by
 subst e
 have e0:(out++a.extract ia a.size++b.extract b.size b.size).toList=out.toList++a.toList.drop ia:=by
  rw [OI,OI,gx,gx,List.drop_of_length_le (show b.toList.length<=b.size by simp),OD]
 refine ⟨?_,?_⟩
 ·rw [e0]
  have hp:=h.pm
  rw [P1 (show b.toList.length<=b.size by simp)] at hp
  refine (hp.append_right _).trans ?_
  have:(a.toList.take ia++b.toList++a.toList.drop ia).Perm (a.toList.take ia++a.toList.drop ia++b.toList):=by
   rw [N7,N7]
   exact Qq _ P5
  rw [Pd] at this
  exact this
 ·rw [e0]
  refine bL h.sr ((jg ua).sublist (Tr _ _)) λp hp q hq=>?_
  obtain ⟨n,hn⟩:=Qu hq
  rw [Qx] at hn
  exact h.ha p hp (ia+n) q (by lia) (by rw [<- Oj]; exact hn)
theorem WL.ji (h:WL rk a b out ia ib) (ub:Up rk b) (e:ia=a.size):Res rk a b (out++a.extract ia a.size++b.extract ib b.size):=by
 subst e
 have e0:(out++a.extract a.size a.size++b.extract ib b.size).toList=out.toList++b.toList.drop ib:=by
  rw [OI,OI,gx,gx,List.drop_of_length_le (show a.toList.length<=a.size by simp),OD]
 refine ⟨?_,?_⟩
 ·rw [e0]
  have hp:=h.pm
  rw [P1 (show a.toList.length<=a.size by simp)] at hp
  refine (hp.append_right _).trans ?_
  rw [N7,Pd]
 ·rw [e0]
  refine bL h.sr ((jg ub).sublist (Tr _ _)) λp hp q hq=>?_
  obtain ⟨n,hn⟩:=Qu hq
  rw [Qx] at hn
  exact h.hb p hp (ib+n) q (by lia) (by rw [<- Oj]; exact hn)
theorem WL.last (h:WL rk a b out ia ib) (ub:Up rk b) (e:ia+1=a.size) (hl:∀ (j:Nat) (p q:Keyed),a[ia]?=some p->b[j]?=some q->rk q<=rk p) :
 Res rk a b (out++b.extract ib b.size++a.extract ia a.size):=by
 have e0:(out++b.extract ib b.size++a.extract ia a.size).toList=out.toList++(b.toList.drop ib++a.toList.drop ia):=by
  rw [OI,OI,gx,gx,N7]
 refine ⟨?_,?_⟩
 ·rw [e0]
  refine (h.pm.append_right _).trans ?_
  have:(a.toList.take ia++b.toList.take ib++(b.toList.drop ib++a.toList.drop ia)).Perm (a.toList.take ia++a.toList.drop ia++(b.toList.take ib++b.toList.drop ib)):=by
   rw [N7,N7]
   refine Qq _ ?_
   rw [<- N7]
   exact P5
  rw [Pd,Pd] at this
  exact this
 ·rw [e0]
  have ml:∀ q∈b.toList.drop ib,∃ j,ib<=j/\b[j]?=some q:=λq hq=>by
   obtain ⟨n,hn⟩:=Qu hq
   rw [Qx] at hn
   exact ⟨ib+n,by lia,by rw [<- Oj]; exact hn⟩
  have ml2:∀ q∈a.toList.drop ia,a[ia]?=some q:=λq hq=>by
   obtain ⟨n,hn⟩:=Qu hq
   rw [Qx] at hn
   have:=(NJ.mp hn).1
   have hn0:n=0:=by simp at this; lia
   subst hn0
   rw [<- Oj]; exact hn
  refine bL h.sr (bL ((jg ub).sublist (Tr _ _)) ?_ λp hp q hq=>?_) λp hp q hq=>?_
  ·exact uO (by simp; lia)
  ·obtain ⟨j,_,e1⟩:=ml p hp
   exact hl j q p (ml2 q hq) e1
  ·rcases N3.mp hq with z | z
   ·obtain ⟨j,h1,e1⟩:=ml q z
    exact h.hb p hp j q h1 e1
   ·exact h.ha p hp ia q (Ny _) (ml2 q z)
theorem cR {xs:Array Keyed} (h:xs[i]?=some p):xs.toList.take (i+1)=xs.toList.take i++[p]:=by
 rw [To,Oj,h]; rfl
theorem WL.fQ {out:Array Keyed} {ia ib:Nat} {p:Keyed} (h:WL rk a b out ia ib) (ub:Up rk b) (e:b[ib]?=some p) (hl:∀ (j:Nat) (q:Keyed),ia<=j->a[j]?=some q->rk p<=rk q):WL rk a b (out.push p) ia (ib+1) where
 pa:=h.pa
 pb:=(Qn.mp e).1
 pm:=by
  rw [Oc,cR e,<- N7]
  exact h.pm.append_right _
 sr:=by
  rw [Oc]
  exact bL h.sr (Qp _ _) λq hq r hr=>by
   rw [NN.mp hr]; exact h.hb q hq ib p (Ny _) e
 ha:=λq hq j r hj er=>by
  rw [Oc] at hq
  rcases N3.mp hq with z | z
  ·exact h.ha q z j r hj er
  ·rw [NN.mp z]; exact hl j r hj er
 hb:=λq hq j r hj er=>by
  rw [Oc] at hq
  rcases N3.mp hq with z | z
  ·exact h.hb q z j r (by lia) er
  ·rw [NN.mp z]; exact ub ib j p r (by lia) e er
theorem WL.fR {out:Array Keyed} {ia ib:Nat} {p:Keyed} (h:WL rk a b out ia ib) (ua:Up rk a) (e:a[ia]?=some p) (hl:∀ (j:Nat) (q:Keyed),ib<=j->b[j]?=some q->rk p<=rk q):WL rk a b (out.push p) (ia+1) ib where
 pa:=(Qn.mp e).1
 pb:=h.pb
 pm:=by
  rw [Oc,cR e]
  refine (h.pm.append_right _).trans ?_
  rw [N7,N7]
  exact Qq _ P5
 sr:=by
  rw [Oc]
  exact bL h.sr (Qp _ _) λq hq r hr=>by
   rw [NN.mp hr]; exact h.ha q hq ia p (Ny _) e
 hb:=λq hq j r hj er=>by
  rw [Oc] at hq
  rcases N3.mp hq with z | z
  ·exact h.hb q z j r hj er
  ·rw [NN.mp z]; exact hl j r hj er
 ha:=λq hq j r hj er=>by
  rw [Oc] at hq
  rcases N3.mp hq with z | z
  ·exact h.ha q z j r (by lia) er
  ·rw [NN.mp z]; exact ua ia j p r (by lia) e er
theorem WL.qp (h:WL rk a b out ia ib) (ua:Up rk a):∀ (k:Nat),ia+k<=a.size->(∀ (i j:Nat) (p q:Keyed),ia<=i->i<ia+k->ib<=j->a[i]?=some p->b[j]?=some q->rk p<=rk q)->WL rk a b (out++a.extract ia (ia+k)) (ia+k) ib
 | 0,_,_=>by
  have:out++a.extract ia (ia+0)=out:=by
   apply PU
   rw [OI,Nat.add_zero,iK,OD]
  rw [this]; exact h
 | k+1,hk,hl=>by
  have ih:=h.qp ua k (by lia) λi j p q h1 h2=>hl i j p q h1 (by lia)
  have e:a[ia+k]?=some (a[ia+k]'(by lia)):=N2 _
  have z:=ih.fR ua e λj q hj eq=>hl _ j _ q (by lia) (by lia) hj e eq
  have:out++a.extract ia (ia+(k+1))=(out++a.extract ia (ia+k)).push (a[ia+k]'(by lia)):=by
   apply PU
   simp only [OI,Oc,dN]
   rw [show ia+(k+1)=(ia+k)+1 by lia,cR e,T5 (by simp; lia),N7]
  rw [this]; exact z
theorem WL.qt (h:WL rk a b out ia ib) (ub:Up rk b):∀ (k:Nat),ib+k<=b.size->(∀ (i j:Nat) (p q:Keyed),ib<=i->i<ib+k->ia<=j->b[i]?=some p->a[j]?=some q->rk p<=rk q)->WL rk a b (out++b.extract ib (ib+k)) ia (ib+k)
 | 0,_,_=>by
  have:out++b.extract ib (ib+0)=out:=by
   apply PU
   rw [OI,Nat.add_zero,iK,OD]
  rw [this]; exact h
 | k+1,hk,hl=>by
  have ih:=h.qt ub k (by lia) λi j p q h1 h2=>hl i j p q h1 (by lia)
  have e:b[ib+k]?=some (b[ib+k]'(by lia)):=N2 _
  have z:=ih.fQ ub e λj q hj eq=>hl _ j _ q (by lia) (by lia) hj e eq
  have:out++b.extract ib (ib+(k+1))=(out++b.extract ib (ib+k)).push (b[ib+k]'(by lia)):=by
   apply PU
   simp only [OI,Oc,dN]
   rw [show ib+(k+1)=(ib+k)+1 by lia,cR e,T5 (by simp; lia),N7]
  rw [this]; exact z
end
section
variable {prog:Program} {w:World} {A:Around} {E:Value->Shared->Prop} {s:Shared} {L:List Keyed} {κ:SortKind} {rk:Keyed->Int} {a b:Array Keyed}
theorem kU (f:Nat->Int) (c):∀ n,(∀ i j,i<=j->j<n->f i<=f j)->∃ k,k<=n/\∀ i,i<n->(f i<=c↔i<k)
 | 0,_=>⟨0,Ny _,λi hi=>by lia⟩
 | n+1,hm=>by
  obtain ⟨k,h1,h2⟩:=kU f c n λi j hij hj=>hm i j hij (by lia)
  by_cases hc:f n<=c
  ·refine ⟨n+1,Ny _,λi hi=>⟨λ_=>hi,λ_=>?_⟩⟩
   exact N9 (hm i n (by lia) (by lia)) hc
  ·refine ⟨k,by lia,λi hi=>?_⟩
   by_cases hin:i<n
   ·exact h2 i hin
   ·have:i=n:=by lia
    subst this
    exact ⟨λz=>absurd z hc,λz=>by lia⟩
theorem kW (f:Nat->Int) (c):∀ n,(∀ i j,i<=j->j<n->f i<=f j)->∃ k,k<=n/\∀ i,i<n->(f i<c↔i<k)
 | 0,_=>⟨0,Ny _,λi hi=>by lia⟩
 | n+1,hm=>by
  obtain ⟨k,h1,h2⟩:=kW f c n λi j hij hj=>hm i j hij (by lia)
  by_cases hc:f n<c
  ·refine ⟨n+1,Ny _,λi hi=>⟨λ_=>hi,λ_=>?_⟩⟩
   exact RL (hm i n (by lia) (by lia)) hc
  ·refine ⟨k,by lia,λi hi=>?_⟩
   by_cases hin:i<n
   ·exact h2 i hin
   ·have:i=n:=by lia
    subst this
    exact ⟨λz=>absurd z hc,λz=>by lia⟩
theorem J8 (h:Up rk a) (hij:i<=j) (hj:j<a.size):R rk a i<=R rk a j:=by
 have e1:a[i]?=some (a[i]'(by lia)):=N2 _
 have e2:a[j]?=some a[j]:=N2 _
 rw [dI e1,dI e2]
 exact h i j _ _ hij e1 e2
structure cS (st st':SortSt):Prop where
 k:kindOf st'=kindOf st
 a:arrOf st'=arrOf st
 p:pendingOf st'=pendingOf st
 f:failedOf st'=failedOf st
theorem cS.refl (st:SortSt):cS st st:=⟨rfl,rfl,rfl,rfl⟩
theorem cS.min {st st':SortSt} (h:cS st st') (g):cS st (PR (kindOf st') (arrOf st') (pendingOf st') g (failedOf st')):=⟨h.k,h.a,h.p,h.f⟩
theorem cS.trans (h:cS s1 s2) (g:cS s2 s3):cS s1 s3:=⟨g.k.trans h.k,g.a.trans h.a,g.p.trans h.p,g.f.trans h.f⟩
theorem qu {st:SortSt} (hC:ir prog w A s κ rk L) (hk:kindOf st=κ) (hkey:key∈L) (mx:∀ (i:Nat) (p:Keyed),xs[i]?=some p->p∈L) (ux:Up rk xs) (n) (hn:base+n<=xs.size) (hh:hint<n)
 (h:∀ k,k<=n->(∀ (i:Nat) (p:Keyed),i<k->xs[base+i]?=some p->rk p<=rk key)->(∀ (i:Nat) (p:Keyed),k<=i->base+i<base+n->xs[base+i]?=some p->rk key<rk p)->Q (some k) st) :
 wpS (model prog w) A E s (cQ false key xs base n hint) Q st:=by
 obtain ⟨k,h1,h2⟩:=kU (λi=>R rk xs (base+i)) (rk key) n λi j hij hj=>J8 ux (by lia) (by lia)
 refine fk hC hk hkey (λi hi=>⟨xs[base+i]'(by lia),N2 _,mx _ _ (N2 _)⟩) (λi hi=>by simp only [Od,if_false]; exact h2 i hi) h1 hh (h k h1 (λi p hi e=>?_) λi p hi hb e=>?_)
 ·have:=(h2 i (by lia)).mpr hi
  rw [dI e] at this; exact this
 ·have:=mt (h2 i (by lia)).mp (by lia)
  rw [dI e] at this; lia
theorem qv {st:SortSt} (hC:ir prog w A s κ rk L) (hk:kindOf st=κ) (hkey:key∈L) (mx:∀ (i:Nat) (p:Keyed),xs[i]?=some p->p∈L) (ux:Up rk xs) (n) (hn:base+n<=xs.size) (hh:hint<n)
 (h:∀ k,k<=n->(∀ (i:Nat) (p:Keyed),i<k->xs[base+i]?=some p->rk p<rk key)->(∀ (i:Nat) (p:Keyed),k<=i->base+i<base+n->xs[base+i]?=some p->rk key<=rk p)->Q (some k) st) :
 wpS (model prog w) A E s (cQ true key xs base n hint) Q st:=by
 obtain ⟨k,h1,h2⟩:=kW (λi=>R rk xs (base+i)) (rk key) n λi j hij hj=>J8 ux (by lia) (by lia)
 refine fk hC hk hkey (λi hi=>⟨xs[base+i]'(by lia),N2 _,mx _ _ (N2 _)⟩) (λi hi=>by simp only [if_true]; exact h2 i hi) h1 hh (h k h1 (λi p hi e=>?_) λi p hi hb e=>?_)
 ·have:=(h2 i (by lia)).mpr hi
  rw [dI e] at this; exact this
 ·have:=mt (h2 i (by lia)).mp (by lia)
  rw [dI e] at this; lia
structure lY (rk:Keyed->Int) (a b out:Array Keyed) (ia ib:Nat):Prop where
 w:WL rk a b out ia ib
 la:ia+1<a.size
 lb:ib<b.size
end
section
local macro_rules | `(tactic| walk_at "dl mergeLo")=>do
 let i:=Qf (P4 `PySem.Builtin.List.W1All `PySem.Builtin.mergeLo)
 `(tactic| delta $i)
noncomputable abbrev zK:=Option (Array Keyed)×Array Keyed×Nat×Nat×Nat×Nat×Nat
noncomputable def E0 (a b out:Array Keyed) (ia ib:Nat):Array Keyed:=out++a.extract ia a.size++b.extract ib b.size
noncomputable def BV (a b out:Array Keyed) (ia ib:Nat):Array Keyed:=out++b.extract ib b.size++a.extract ia a.size
noncomputable def uQ (a b:Array Keyed) (mg ac bc ia ib:Nat) (out:Array Keyed):StateT SortSt Sem (ForInStep zK):=do
 let p <- elem' a ia
 if (ia+1+1 == a.size)=true then pure (.done (some (BV a b (out.push p) (ia+1) ib),out.push p,ia+1,ib,mg,ac,bc))
 else if (decide (ac<7) && decide (bc<7))=true then pure (.done (none,out.push p,ia+1,ib,mg,ac,bc))
 else pure (.yield (none,out.push p,ia+1,ib,mg,ac,bc))
noncomputable def uR (a b:Array Keyed) (mg ac bc ia ib:Nat) (out:Array Keyed):StateT SortSt Sem (ForInStep zK):=do
 let q <- elem' b ib
 if (ib+1 == b.size)=true then pure (.done (some (E0 a b (out.push q) ia (ib+1)),out.push q,ia,ib+1,mg,ac,bc))
 else do
  let p <- elem' a ia
  let x <- cQ true p b (ib+1) (b.size - (ib+1)) 0
  match x with
  | some k=>(if k>0 then
   (if (ib+1+k == b.size)=true then pure (.done (some (E0 a b (out.push q++b.extract (ib+1) (ib+1+k)) ia (ib+1+k)),out.push q++b.extract (ib+1) (ib+1+k),ia,ib+1+k,mg,ac,k))
    else uQ a b mg ac k ia (ib+1+k) (out.push q++b.extract (ib+1) (ib+1+k)))
   else uQ a b mg ac k ia (ib+1) (out.push q))
  | _=>pure (.done (some (E0 a b (out.push q) ia (ib+1)),out.push q,ia,ib+1,mg,ac,bc))
noncomputable def uS (a b:Array Keyed) (mg ac bc ia ib:Nat) (out:Array Keyed):StateT SortSt Sem (ForInStep zK):=do
 cD mg
 let q <- elem' b ib
 let x <- cQ false q a ia (a.size - ia) 0
 match x with
 | some k=>(if k>0 then
  (if (ia+k+1 == a.size)=true then pure (.done (some (BV a b (out++a.extract ia (ia+k)) (ia+k) ib),out++a.extract ia (ia+k),ia+k,ib,mg,k,bc))
   else if (ia+k == a.size)=true then pure (.done (some (E0 a b (out++a.extract ia (ia+k)) (ia+k) ib),out++a.extract ia (ia+k),ia+k,ib,mg,k,bc))
   else uR a b mg k bc (ia+k) ib (out++a.extract ia (ia+k)))
  else uR a b mg k bc ia ib out)
 | _=>pure (.done (some (E0 a b out ia ib),out,ia,ib,mg,ac,bc))
noncomputable def zL (a b:Array Keyed) (c:zK):StateT SortSt Sem (ForInStep zK) :=
 if c.2.2.2.2.1>1 then uS a b (c.2.2.2.2.1 - 1) c.2.2.2.2.2.1 c.2.2.2.2.2.2 c.2.2.1 c.2.2.2.1 c.2.1 else uS a b c.2.2.2.2.1 c.2.2.2.2.2.1 c.2.2.2.2.2.2 c.2.2.1 c.2.2.2.1 c.2.1
noncomputable abbrev G7:=Option (Array Keyed)×Array Keyed×Nat×Nat×Nat×Nat
noncomputable def zM (a b:Array Keyed) (mg:Nat) (c:G7):StateT SortSt Sem (ForInStep G7):=do
 let q <- elem' b c.2.2.2.1
 let p <- elem' a c.2.2.1
 let x <- lt' q p
 match x with
 | some y=>(if y=true then (do
  let q <- elem' b c.2.2.2.1
  if (c.2.2.2.1+1 == b.size)=true then pure (.done (some (E0 a b (c.2.1.push q) c.2.2.1 (c.2.2.2.1+1)),c.2.1.push q,c.2.2.1,c.2.2.2.1+1,0,c.2.2.2.2.2+1))
  else if c.2.2.2.2.2+1>=mg then pure (.done (none,c.2.1.push q,c.2.2.1,c.2.2.2.1+1,0,c.2.2.2.2.2+1))
  else pure (.yield (none,c.2.1.push q,c.2.2.1,c.2.2.2.1+1,0,c.2.2.2.2.2+1)))
  else (do
   let p <- elem' a c.2.2.1
   if (c.2.2.1+1+1 == a.size)=true then pure (.done (some (BV a b (c.2.1.push p) (c.2.2.1+1) c.2.2.2.1),c.2.1.push p,c.2.2.1+1,c.2.2.2.1,c.2.2.2.2.1+1,0))
   else if c.2.2.2.2.1+1>=mg then pure (.done (none,c.2.1.push p,c.2.2.1+1,c.2.2.2.1,c.2.2.2.2.1+1,0))
   else pure (.yield (none,c.2.1.push p,c.2.2.1+1,c.2.2.2.1,c.2.2.2.2.1+1,0))))
 | _=>pure (.done (some (E0 a b c.2.1 c.2.2.1 c.2.2.2.1),c.2.1,c.2.2.1,c.2.2.2.1,c.2.2.2.2.1,c.2.2.2.2.2))
noncomputable abbrev C0:=Option (Array Keyed)×Array Keyed×Nat×Nat×Nat
noncomputable def oh (a b:Array Keyed) (c:C0):StateT SortSt Sem (ForInStep C0):=do
 let s <- forIn [:a.size+b.size] ((none,c.2.1,c.2.2.1,c.2.2.2.1,0,0):G7) λ_ s=>zM a b c.2.2.2.2 s
 match s.1 with
 | some r=>pure (.done (some r,s.2.1,s.2.2.1,s.2.2.2.1,c.2.2.2.2))
 | none=>do
  liftM (rule "list.sort.gallop")
  let t <- forIn [:a.size+b.size] ((none,s.2.1,s.2.2.1,s.2.2.2.1,c.2.2.2.2+1,s.2.2.2.2.1,s.2.2.2.2.2):zK) λ_ t=>zL a b t
  match t.1 with
  | some r=>pure (.done (some r,t.2.1,t.2.2.1,t.2.2.2.1,t.2.2.2.2.1))
  | none=>do
   cD (t.2.2.2.2.1+1)
   pure (.yield (none,t.2.1,t.2.2.1,t.2.2.2.1,t.2.2.2.2.1+1))
theorem qw (a b):kT a b=(do
 liftM (rule "list.sort.merge-lo")
 let p <- elem' b 0
 if (1 == b.size)=true then pure (E0 a b #[p] 0 1)
 else if (0+1 == a.size)=true then pure (BV a b #[p] 0 1)
 else do
  let st <- get
  let s <- forIn [:a.size+b.size] ((none,#[p],0,1,gallopOf st):C0) λ_ c=>oh a b c
  match s.1 with
  | some r=>pure r
  | none=>liftM (unsupported (α:=Array Keyed) "internal:list.sort.merge-bound")):=by
 unfold kT
 walk_at "dl mergeLo"
 dsimp only
 refine congrArg _ (funext λ_=>?_)
 refine congrArg _ (funext λp=>?_)
 refine congrArg _ (congrArg _ ?_)
 refine congrArg _ (funext λst=>?_)
 have e:∀ (f g:Nat->C0->StateT SortSt Sem (ForInStep C0)) (c:C0) (k:C0->StateT SortSt Sem (Array Keyed)),f=g->(forIn [:a.size+b.size] c f >>= k)=(forIn [:a.size+b.size] c g >>= k):=λ_ _ _ _ h=>by rw [h]
 refine (e _ _ _ _ (funext λ_=>funext λc=>?_)).trans (congrArg _ (funext λs=>?_))
 ·obtain ⟨o,out,ia,ib,mg⟩:=c
  unfold oh
  dsimp only
  have e2:∀ (f g:Nat->G7->StateT SortSt Sem (ForInStep G7)) (c:G7) (k l:G7->StateT SortSt Sem (ForInStep C0)),f=g->k=l->(forIn [:a.size+b.size] c f >>= k)=(forIn [:a.size+b.size] c g >>= l):=λ_ _ _ _ _ h h2=>by rw [h,h2]
  refine e2 _ _ _ _ _ (funext λ_=>funext λc=>?_) (funext λs=>?_)
  ·rfl
  ·obtain ⟨o,out,ia,ib,ac,bc⟩:=s
   cases o with
   | some r=>rfl
   | none =>
    dsimp only
    refine congrArg _ (funext λ_=>?_)
    have e3:∀ (f g:Nat->zK->StateT SortSt Sem (ForInStep zK)) (c:zK) (k l:zK->StateT SortSt Sem (ForInStep C0)),f=g->k=l->(forIn [:a.size+b.size] c f >>= k)=(forIn [:a.size+b.size] c g >>= l):=λ_ _ _ _ _ h h2=>by rw [h,h2]
    refine e3 _ _ _ _ _ (funext λ_=>funext λc=>?_) (funext λs=>?_)
    ·rfl
    ·obtain ⟨o,s⟩:=s
     cases o <;> rfl
 ·obtain ⟨o,s⟩:=s
  cases o <;> rfl
end
theorem some_at {xs:Array Keyed} (h:i<xs.size):∃ p,xs[i]?=some p:=⟨xs[i],N2 h⟩
def C1 (rk:Keyed->Int) (a b:Array Keyed) (n:Nat) (o:Option (Array Keyed)) (ia ib:Nat) (out:Array Keyed):Prop:=(∃ r,o=some r/\Res rk a b r)\/(o=none/\lY rk a b out ia ib/\n<=ia+ib)
noncomputable def Dc (rk:Keyed->Int) (a b:Array Keyed) (n:Nat):ForInStep zK->Prop
 | .done c=>C1 rk a b n c.1 c.2.2.1 c.2.2.2.1 c.2.1
 | .yield c=>c.1=none/\lY rk a b c.2.1 c.2.2.1 c.2.2.2.1/\n<=c.2.2.1+c.2.2.2.1
theorem mV {st:SortSt} (lA:∀ {out:Array Keyed} {ia ib:Nat},WL rk a b out ia ib->ia+1=a.size->Res rk a b (BV a b out ia ib)) (W:WL rk a b out ia ib) (ua:Up rk a) (la:ia+1<a.size) (lb:ib<b.size) (ep:a[ia]?=some p)
 (hl:∀ (j:Nat) (r:Keyed),ib<=j->b[j]?=some r->rk p<=rk r) (hn:n<=ia+1+ib) (hQ:∀ x,Dc rk a b n x->Q x st):wpS (model prog w) A E s (uQ a b mg ac bc ia ib out) Q st:=by
 unfold uQ
 have W4:=W.fR ua ep hl
 refine Nz (aS ep ?_)
 by_cases e9:ia+1+1=a.size
 ·rw [if_pos (by simpa using e9)]
  exact NB (hQ _ (.inl ⟨_,rfl,lA W4 e9⟩))
 rw [if_neg (by simpa using e9)]
 have hL:lY rk a b (out.push p) (ia+1) ib:=⟨W4,Nat.lt_of_le_of_ne la e9,lb⟩
 split
 ·exact NB (hQ _ (.inr ⟨rfl,hL,hn⟩))
 ·exact NB (hQ _ ⟨rfl,hL,hn⟩)
theorem oi {xs:Array Keyed} {i j:Nat} (h:i<=j) (e:xs[j]?=some p):xs[i+(j - i)]?=some p:=by rw [SX h]; exact e
theorem mW {st:SortSt} (hC:ir prog w A s κ rk L) (hk:kindOf st=κ) (ma:∀ (i:Nat) (p:Keyed),a[i]?=some p->p∈L) (mb:∀ (i:Nat) (p:Keyed),b[i]?=some p->p∈L)
 (lA:∀ {out:Array Keyed} {ia ib:Nat},WL rk a b out ia ib->ia+1=a.size->Res rk a b (BV a b out ia ib)) (W:WL rk a b out ia ib) (ua:Up rk a) (ub:Up rk b) (la:ia+1<a.size) (lb:ib<b.size) (eq:b[ib]?=some q)
 (hl:∀ (j:Nat) (r:Keyed),ia<=j->a[j]?=some r->rk q<=rk r) (hn:n<=ia+ib+2) (hQ:∀ x,Dc rk a b n x->Q x st):wpS (model prog w) A E s (uR a b mg ac bc ia ib out) Q st:=by
 unfold uR
 have W2:=W.fQ ub eq hl
 refine Nz (aS eq ?_)
 by_cases e5:ib+1=b.size
 ·rw [if_pos (by simpa using e5)]
  exact NB (hQ _ (.inl ⟨_,rfl,W2.jh ua e5⟩))
 rw [if_neg (by simpa using e5)]
 obtain ⟨p,ep⟩:=some_at (xs:=a) (i:=ia) (by lia)
 refine Nz (aS ep ?_)
 refine Nz (qv hC hk (ma _ _ ep) mb ub _ (by lia) (by lia) λk hj1 hj2 hj3=>?_)
 dsimp only
 have W3:=W2.qt ub k (by lia) λi j r p' z1 z2 z3 e6 e7=>N9 (Po (hj2 (i - (ib+1)) r (by lia) (oi z1 e6))) (ua ia j p p' z3 ep e7)
 have bwd:∀ (j:Nat) (r:Keyed),ib+1+k<=j->b[j]?=some r->rk p<=rk r:=λj r hj e6=>hj3 (j - (ib+1)) r (by lia) (by have:=(Qn.mp e6).1; lia) (oi (NI (RW _ _) hj) e6)
 by_cases hj0:k>0
 ·rw [if_pos hj0]
  by_cases e8:ib+1+k=b.size
  ·rw [if_pos (by simpa using e8)]
   exact NB (hQ _ (.inl ⟨_,rfl,W3.jh ua e8⟩))
  rw [if_neg (by simpa using e8)]
  exact mV lA W3 ua la (by lia) ep bwd (by lia) hQ
 ·rw [if_neg hj0]
  exact mV lA W2 ua la (by lia) ep (λj r hj e6=>bwd j r (by lia) e6) (by lia) hQ
theorem mX {st:SortSt} (hC:ir prog w A s κ rk L) (hk:kindOf st=κ) (ma:∀ (i:Nat) (p:Keyed),a[i]?=some p->p∈L) (mb:∀ (i:Nat) (p:Keyed),b[i]?=some p->p∈L)
 (lA:∀ {out:Array Keyed} {ia ib:Nat},WL rk a b out ia ib->ia+1=a.size->Res rk a b (BV a b out ia ib)) (ua:Up rk a) (ub:Up rk b) (hL:lY rk a b out ia ib) (hn:n<=ia+ib) (hQ:∀ x st',cS st st'->Dc rk a b n x->Q x st') :
 wpS (model prog w) A E s (uS a b mg ac bc ia ib out) Q st:=by
 unfold uS
 have W:=hL.w
 have la:=hL.la
 have lb:=hL.lb
 obtain ⟨q,eq⟩:=some_at (xs:=b) lb
 refine Nz (fm ?_)
 have FA:=λx=>hQ x _ ((cS.refl st).min mg)
 refine Nz (aS eq ?_)
 refine Nz (qu hC (by exact hk) (mb _ _ eq) ma ua _ (by lia) (by lia) λk hk1 hk2 hk3=>?_)
 dsimp only
 have Wk:=W.qp ua k (by lia) λi j p r z1 z2 z3 e3 e4=>N9 (hk2 (i - ia) p (by lia) (oi z1 e3)) (ub ib j q r z3 eq e4)
 have fwd:∀ (j:Nat) (r:Keyed),ia+k<=j->a[j]?=some r->rk q<=rk r:=λj r hj e3=>Po (hk3 (j - ia) r (by lia) (by have:=(Qn.mp e3).1; lia) (oi (NI (RW _ _) hj) e3))
 by_cases hk0:k>0
 ·rw [if_pos hk0]
  by_cases e3:ia+k+1=a.size
  ·rw [if_pos (by simpa using e3)]
   exact NB (FA _ (.inl ⟨_,rfl,lA Wk e3⟩))
  rw [if_neg (by simpa using e3)]
  by_cases e4:ia+k=a.size
  ·rw [if_pos (by simpa using e4)]
   exact NB (FA _ (.inl ⟨_,rfl,Wk.ji ub e4⟩))
  rw [if_neg (by simpa using e4)]
  exact mW hC (by exact hk) ma mb lA Wk ua ub (by lia) lb eq fwd (by lia) FA
 ·rw [if_neg hk0]
  exact mW hC (by exact hk) ma mb lA W ua ub la lb eq (λj r hj e3=>fwd j r (by lia) e3) (by lia) FA
theorem wL {st:SortSt} (hC:ir prog w A s κ rk L) (hk:kindOf st=κ) (ma:∀ (i:Nat) (p:Keyed),a[i]?=some p->p∈L) (mb:∀ (i:Nat) (p:Keyed),b[i]?=some p->p∈L)
 (lA:∀ {out:Array Keyed} {ia ib:Nat},WL rk a b out ia ib->ia+1=a.size->Res rk a b (BV a b out ia ib)) (ua:Up rk a) (ub:Up rk b) (hL:lY rk a b c.2.1 c.2.2.1 c.2.2.2.1) (hn:n<=c.2.2.1+c.2.2.2.1+1)
 (hQ:∀ o ia ib out z y,C1 rk a b n o ia ib out->Q (.done (o,out,ia,ib,z)) st/\(o=none->Q (.yield (none,out,ia,ib,y)) st)):wpS (model prog w) A E s (zM a b mg c) Q st:=by
 obtain ⟨_,out,ia,ib,ac,bc⟩:=c
 unfold zM
 dsimp only at hL hn |-
 have W:=hL.w
 have la:=hL.la
 have lb:=hL.lb
 obtain ⟨q,eq⟩:=some_at (xs:=b) lb
 obtain ⟨p,ep⟩:=some_at (xs:=a) (Nat.lt_of_succ_lt la)
 refine Nz (aS eq (Nz (aS ep (Nz (kQ hC hk (mb _ _ eq) (ma _ _ ep) ?_)))))
 dsimp only
 by_cases hw:rk q<rk p
 ·rw [decide_eq_true hw,if_pos rfl]
  have W1:=W.fQ ub eq λj r hj e=>N9 (Po hw) (ua ia j p r hj ep e)
  refine Nz (aS eq ?_)
  by_cases e3:ib+1=b.size
  ·rw [if_pos (by simpa using e3)]
   exact NB (hQ _ _ _ _ _ (0,0) (.inl ⟨_,rfl,W1.jh ua e3⟩)).1
  rw [if_neg (by simpa using e3)]
  have z:=hQ none ia (ib+1) (out.push q) (0,bc+1) (0,bc+1) (.inr ⟨rfl,⟨W1,la,by lia⟩,by lia⟩)
  split
  ·exact NB z.1
  ·exact NB (z.2 rfl)
 ·rw [decide_eq_false hw,if_neg NH]
  have W1:=W.fR ua ep λj r hj e=>N9 (Int.not_lt.mp hw) (ub ib j q r hj eq e)
  refine Nz (aS ep ?_)
  by_cases e3:ia+1+1=a.size
  ·rw [if_pos (by simpa using e3)]
   exact NB (hQ _ _ _ _ _ (0,0) (.inl ⟨_,rfl,lA W1 e3⟩)).1
  rw [if_neg (by simpa using e3)]
  have z:=hQ none (ia+1) ib (out.push p) (ac+1,0) (ac+1,0) (.inr ⟨rfl,⟨W1,by lia,lb⟩,by lia⟩)
  split
  ·exact NB z.1
  ·exact NB (z.2 rfl)
theorem sG {st:SortSt} (hC:ir prog w A s κ rk L) (hk:kindOf st=κ) (ma:∀ (i:Nat) (p:Keyed),a[i]?=some p->p∈L) (mb:∀ (i:Nat) (p:Keyed),b[i]?=some p->p∈L)
 (lA:∀ {out:Array Keyed} {ia ib:Nat},WL rk a b out ia ib->ia+1=a.size->Res rk a b (BV a b out ia ib)) (ua:Up rk a) (ub:Up rk b) (hL:lY rk a b c.2.1 c.2.2.1 c.2.2.2.1) (hn:n<=c.2.2.1+c.2.2.2.1+1)
 (h1:∀ r z st',cS st st'->Res rk a b r->Q (.done (some r,z)) st') (h2:∀ ia ib out g st',cS st st'->lY rk a b out ia ib->n<=ia+ib->Q (.yield (none,out,ia,ib,g)) st'):wpS (model prog w) A E s (oh a b c) Q st:=by
 unfold oh
 refine Nz (Ob (OB (I:=λy c st'=>st'=st/\c.1=none/\lY rk a b c.2.1 c.2.2.1 c.2.2.2.1/\n+y<=c.2.2.1+c.2.2.2.1+1) (Q:=λc st'=>st'=st/\C1 rk a b n c.1 c.2.2.1 c.2.2.2.1 c.2.1) ?step ?fin ⟨rfl,rfl,hL,hn⟩) ?post)
 case fin =>
  rintro c st' ⟨rfl,hc,hL',hx⟩
  exact ⟨rfl,.inr ⟨hc,hL',by have:=hL'.la; have:=hL'.lb; lia⟩⟩
 case step =>
  rintro y c st' _ hy ⟨rfl,_,hL',hx⟩
  refine wL (n:=n+y) hC hk ma mb lA ua ub hL' hx λo ia ib out z y hR=>⟨?_,?_⟩
  ·refine ⟨rfl,?_⟩
   rcases hR with hR | ⟨q1,q2,q3⟩
   ·exact .inl hR
   ·exact .inr ⟨q1,q2,NI (RW _ _) q3⟩
  ·rintro rfl
   rcases hR with ⟨_,q,_⟩ | ⟨q1,q2,q3⟩
   ·cases q
   ·exact ⟨rfl,rfl,q2,RV q3⟩
 case post =>
  rintro ⟨o,out,ia,ib,ac,bc⟩ st' ⟨rfl,hR⟩
  dsimp only at hR |-
  rcases hR with ⟨r,rfl,hr⟩ | ⟨rfl,hL2,hn2⟩
  ·exact NB (h1 r _ _ (.refl _) hr)
  refine Nz (PX (OO ⟨rfl,?_⟩))
  refine Nz (Ob (OB (I:=λy c st''=>cS st' st''/\c.1=none/\lY rk a b c.2.1 c.2.2.1 c.2.2.2.1/\n<=c.2.2.1+c.2.2.2.1) (Q:=λc st''=>cS st' st''/\C1 rk a b n c.1 c.2.2.1 c.2.2.2.1 c.2.1) ?gstep ?gfin ⟨.refl _,rfl,hL2,hn2⟩) ?gpost)
  case gfin=>exact λc st'' ⟨q1,q2,q3,q4⟩=>⟨q1,.inr ⟨q2,q3,q4⟩⟩
  case gstep =>
   rintro y c st'' _ _ ⟨q1,q2,q3,q4⟩
   have key:wpS (model prog w) A E s (zL a b c) (λx st3=>cS st'' st3/\Dc rk a b n x) st'':=by
    unfold zL
    split
    ·exact mX hC (q1.k.trans hk) ma mb lA ua ub q3 q4 λx st3 k h=>⟨k,h⟩
    ·exact mX hC (q1.k.trans hk) ma mb lA ua ub q3 q4 λx st3 k h=>⟨k,h⟩
   refine Ob key λx st3 ⟨k,h⟩=>?_
   cases x with
   | done c=>exact ⟨q1.trans k,h⟩
   | yield c=>exact ⟨q1.trans k,h⟩
  case gpost =>
   rintro ⟨o,out,ia,ib,g,ac,bc⟩ st'' ⟨q1,hR⟩
   dsimp only at hR |-
   rcases hR with ⟨r,rfl,hr⟩ | ⟨rfl,hL3,hn3⟩
   ·exact NB (h1 r _ _ q1 hr)
   ·exact Nz (fm (NB (h2 _ _ _ _ _ (q1.min _) hL3 hn3)))
theorem qx {st:SortSt} (hC:ir prog w A s κ rk L) (hk:kindOf st=κ) (ma:∀ (i:Nat) (p:Keyed),a[i]?=some p->p∈L) (mb:∀ (i:Nat) (p:Keyed),b[i]?=some p->p∈L) (ua:Up rk a) (ub:Up rk b) (na:1<=a.size) (nb:1<=b.size)
 (h0:∀ p q,a[0]?=some p->b[0]?=some q->rk q<=rk p) (hl:∀ (j:Nat) (p q:Keyed),a[a.size - 1]?=some p->b[j]?=some q->rk q<=rk p) (h:∀ r st',Res rk a b r->cS st st'->Q r st'):wpS (model prog w) A E s (kT a b) Q st:=by
 have lastA:∀ {out:Array Keyed} {ia ib:Nat},WL rk a b out ia ib->ia+1=a.size->Res rk a b (BV a b out ia ib):=λhw e=>hw.last ub e λj p q e1 e2=>hl j p q (by rw [<- e]; exact e1) e2
 obtain ⟨q0,eq0⟩:=some_at (xs:=b) (i:=0) nb
 obtain ⟨p0,ep0⟩:=some_at (xs:=a) (i:=0) na
 have W0:WL rk a b #[q0] 0 1:=by
  have z:WL rk a b #[] 0 0:=⟨N1 _,N1 _,by simp,QV,by simp,by simp⟩
  exact z.fQ ub eq0 λj q _ e=>N9 (h0 p0 q0 ep0 eq0) (ua 0 j p0 q (N1 _) ep0 e)
 rw [qw]
 refine Nz (PX (OO ⟨rfl,?_⟩))
 refine Nz (aS eq0 ?_)
 by_cases e1:1=b.size
 ·rw [if_pos (by simpa using e1)]
  exact NB (h _ _ (W0.jh ua e1) (.refl _))
 rw [if_neg (by simpa using e1)]
 by_cases e2:0+1=a.size
 ·rw [if_pos (by simpa using e2)]
  exact NB (h _ _ (lastA W0 e2) (.refl _))
 rw [if_neg (by simpa using e2)]
 refine Nz (OX ?_)
 refine Nz (Ob (OB (I:=λx c st'=>cS st st'/\c.1=none/\lY rk a b c.2.1 c.2.2.1 c.2.2.2.1/\x+1<=c.2.2.1+c.2.2.2.1) (Q:=λc st'=>cS st st'/\∃ r,c.1=some r/\Res rk a b r) ?step ?fin ⟨.refl _,rfl,⟨W0,by dsimp only; lia,by dsimp only; lia⟩,by dsimp only; lia⟩) ?post)
 case fin =>
  rintro c st' ⟨hK,hc,hL,hx⟩
  have h1:=hL.la
  have h2:=hL.lb
  lia
 case post =>
  rintro c st' ⟨hK,r,hc,hr⟩
  rw [hc]
  exact NB (h r st' hr hK)
 case step =>
  rintro x c st1 _ hx ⟨hK,_,hL,hn⟩
  exact sG (n:=x+2) hC (hK.k.trans hk) ma mb lastA ua ub hL (RV hn) (λr z st' k hr=>⟨hK.trans k,r,rfl,hr⟩) λia ib out g st' k q1 q2=>⟨hK.trans k,rfl,q1,q2⟩
noncomputable def kX:Array Keyed->Array Keyed->StateT SortSt Sem (Array Keyed):=sortPriv% PySem.Builtin.mergeHi
local macro_rules | `(tactic| walk_at "dl mergeHi")=>do
 let i:=Qf (P4 `PySem.Builtin.List.W1All `PySem.Builtin.mergeHi)
 `(tactic| delta $i)
section
variable {rk:Keyed->Int} {a b:Array Keyed}
structure WH (rk:Keyed->Int) (a b:Array Keyed) (out:Array Keyed) (na nb:Nat):Prop where
 pa:na<=a.size
 pb:nb<=b.size
 pm:out.toList.Perm (a.toList.drop na++b.toList.drop nb)
 sr:zJ rk out.toList.reverse
 ha:∀ p∈out.toList,∀ (j:Nat) (q:Keyed),j<na->a[j]?=some q->rk q<=rk p
 hb:∀ p∈out.toList,∀ (j:Nat) (q:Keyed),j<nb->b[j]?=some q->rk q<=rk p
theorem dw (xs:Array Keyed) (i):(xs.extract 0 i).toList=xs.toList.take i:=by rw [dN,List.drop_zero]
theorem iL {xs:Array Keyed} (h:q∈xs.toList.take i):∃ j,j<i/\xs[j]?=some q:=by
 obtain ⟨n,hn⟩:=Qu h
 have hl:=(NJ.mp hn).1
 rw [Ow] at hl
 rw [Rt (by lia)] at hn
 exact ⟨n,by lia,by rw [<- Oj]; exact hn⟩
theorem WH.res (h:WH rk a b out na nb) (x) (hx:x.toList.Perm (a.toList.take na++b.toList.take nb)) (hs:zJ rk x.toList):Res rk a b (x++out.reverse):=by
 have e0:(x++out.reverse).toList=x.toList++out.toList.reverse:=by simp
 refine ⟨?_,?_⟩
 ·rw [e0]
  refine (hx.append ((Tp _).trans h.pm)).trans ?_
  have:(a.toList.take na++b.toList.take nb++(a.toList.drop na++b.toList.drop nb)).Perm (a.toList.take na++a.toList.drop na++(b.toList.take nb++b.toList.drop nb)):=by
   rw [N7,N7]
   refine Qq _ ?_
   rw [<- N7,<- N7]
   exact List.Perm.append_right _ P5
  rw [Pd,Pd] at this
  exact this
 ·rw [e0]
  refine bL hs h.sr λp hp q hq=>?_
  have hq':q∈out.toList:=by simpa using hq
  rcases N3.mp (hx.mem_iff.mp hp) with z | z
  ·obtain ⟨j,h1,e⟩:=iL z
   exact h.ha q hq' j p h1 e
  ·obtain ⟨j,h1,e⟩:=iL z
   exact h.hb q hq' j p h1 e
theorem WH.ji (h:WH rk a b out na nb) (ub:Up rk b) (e:na=0):Res rk a b (a.extract 0 na++b.extract 0 nb++out.reverse):=by
 subst e
 refine h.res _ ?_ ?_
 ·simp [dw]
 ·have:(a.extract 0 0++b.extract 0 nb).toList=b.toList.take nb:=by rw [OI,dw,dw]; simp
  rw [this]; exact (jg ub).sublist (RP _ _)
theorem WH.jh (h:WH rk a b out na nb) (ua:Up rk a) (e:nb=0):Res rk a b (a.extract 0 na++b.extract 0 nb++out.reverse):=by
 subst e
 refine h.res _ ?_ ?_
 ·simp [dw]
 ·have:(a.extract 0 na++b.extract 0 0).toList=a.toList.take na:=by rw [OI,dw,dw]; simp
  rw [this]; exact (jg ua).sublist (RP _ _)
theorem WH.first (h:WH rk a b out na nb) (ua:Up rk a) (e:nb=1) (hf:∀ (j:Nat) (p q:Keyed),a[j]?=some p->b[0]?=some q->rk q<=rk p) :
 Res rk a b (b.extract 0 nb++a.extract 0 na++out.reverse):=by
 subst e
 have e1:(b.extract 0 1++a.extract 0 na).toList=b.toList.take 1++a.toList.take na:=by rw [OI,dw,dw]
 refine h.res _ ?_ ?_
 ·rw [e1]; exact P5
 ·rw [e1]
  refine bL ?_ ((jg ua).sublist (RP _ _)) λp hp q hq=>?_
  ·exact uO (by simp; lia)
  ·obtain ⟨j,h1,e2⟩:=iL hp
   obtain ⟨j2,h2,e3⟩:=iL hq
   have:j=0:=by lia
   subst this
   exact hf j2 q p e3 e2
theorem mY {xs:Array Keyed} (hi:1<=i) (h:xs[i - 1]?=some p):xs.toList.drop (i - 1)=p::xs.toList.drop i:=by
 rw [<- Oj] at h
 obtain ⟨h1,h2⟩:=NJ.mp h
 rw [List.drop_eq_getElem_cons h1,h2,show i - 1+1=i by lia]
theorem WH.fR {out:Array Keyed} {na nb:Nat} {p:Keyed} (h:WH rk a b out na nb) (ua:Up rk a) (hn:1<=na) (e:a[na - 1]?=some p) (hl:∀ (j:Nat) (q:Keyed),j<nb->b[j]?=some q->rk q<=rk p):WH rk a b (out.push p) (na - 1) nb where
 pa:=by have:=h.pa; lia
 pb:=h.pb
 pm:=by
  rw [Oc,mY hn e]
  refine (h.pm.append_right _).trans ?_
  rw [Qa]
  exact P5
 sr:=by
  rw [Oc,SY]
  exact bL (Qp _ _) h.sr λr hr q hq=>by
   have hr':r=p:=by simpa using hr
   rw [hr']
   exact h.ha q (by simpa using hq) (na - 1) p (by lia) e
 ha:=λq hq j r hj er=>by
  rw [Oc] at hq
  rcases N3.mp hq with z | z
  ·exact h.ha q z j r (by lia) er
  ·rw [NN.mp z]; exact ua j (na - 1) r p (by lia) er e
 hb:=λq hq j r hj er=>by
  rw [Oc] at hq
  rcases N3.mp hq with z | z
  ·exact h.hb q z j r hj er
  ·rw [NN.mp z]; exact hl j r hj er
theorem WH.fQ {out:Array Keyed} {na nb:Nat} {p:Keyed} (h:WH rk a b out na nb) (ub:Up rk b) (hn:1<=nb) (e:b[nb - 1]?=some p) (hl:∀ (j:Nat) (q:Keyed),j<na->a[j]?=some q->rk q<=rk p):WH rk a b (out.push p) na (nb - 1) where
 pa:=h.pa
 pb:=by have:=h.pb; lia
 pm:=by
  rw [Oc,mY hn e]
  refine (h.pm.append_right _).trans ?_
  rw [N7]
  exact Qq _ P5
 sr:=by
  rw [Oc,SY]
  exact bL (Qp _ _) h.sr λr hr q hq=>by
   have hr':r=p:=by simpa using hr
   rw [hr']
   exact h.hb q (by simpa using hq) (nb - 1) p (by lia) e
 hb:=λq hq j r hj er=>by
  rw [Oc] at hq
  rcases N3.mp hq with z | z
  ·exact h.hb q z j r (by lia) er
  ·rw [NN.mp z]; exact ub j (nb - 1) r p (by lia) er e
 ha:=λq hq j r hj er=>by
  rw [Oc] at hq
  rcases N3.mp hq with z | z
  ·exact h.ha q z j r hj er
  ·rw [NN.mp z]; exact hl j r hj er
theorem uT {xs:Array Keyed} (h:m<n) (e:xs[m]?=some p):(xs.extract m n).reverse=(xs.extract (m+1) n).reverse.push p:=by
 apply PU
 rw [Oc,Qv,Qv,dN,dN]
 rw [<- Oj] at e
 obtain ⟨h1,h2⟩:=NJ.mp e
 have h3:m<(xs.toList.take n).length:=by rw [Ow]; lia
 rw [List.drop_eq_getElem_cons h3,List.reverse_cons,List.getElem_take,h2]
theorem qy (xs ys:Array Keyed) (p):xs++ys.push p=(xs++ys).push p:=by
 apply PU; simp
theorem WH.qp (h:WH rk a b out na nb) (ua:Up rk a):∀ (k m:Nat),m+k=na->(∀ (i j:Nat) (p q:Keyed),m<=i->i<na->j<nb->a[i]?=some p->b[j]?=some q->rk q<=rk p)->WH rk a b (out++(a.extract m na).reverse) m nb
 | 0,m,hm,_=>by
  have e:m=na:=by lia
  subst e
  have:out++(a.extract m m).reverse=out:=by
   apply PU
   rw [OI,Qv,iK,List.reverse_nil,OD]
  rw [this]; exact h
 | k+1,m,hm,hl=>by
  have hp:=h.pa
  have ih:=h.qp ua k (m+1) (by lia) λi j p q h1 h2=>hl i j p q (by lia) h2
  have e:a[m+1 - 1]?=some (a[m]'(by lia)):=N2 (show m<a.size by lia)
  have z:=ih.fR ua (by lia) e λj q hj eq=>hl m j _ q (Ny _) (by lia) hj (N2 (show m<a.size by lia)) eq
  rw [uT (show m<na by lia) (N2 (show m<a.size by lia)),qy]
  exact z
theorem WH.qt (h:WH rk a b out na nb) (ub:Up rk b):∀ (k m:Nat),m+k=nb->(∀ (i j:Nat) (p q:Keyed),m<=i->i<nb->j<na->b[i]?=some p->a[j]?=some q->rk q<=rk p)->WH rk a b (out++(b.extract m nb).reverse) na m
 | 0,m,hm,_=>by
  have e:m=nb:=by lia
  subst e
  have:out++(b.extract m m).reverse=out:=by
   apply PU
   rw [OI,Qv,iK,List.reverse_nil,OD]
  rw [this]; exact h
 | k+1,m,hm,hl=>by
  have hp:=h.pb
  have ih:=h.qt ub k (m+1) (by lia) λi j p q h1 h2=>hl i j p q (by lia) h2
  have e:b[m+1 - 1]?=some (b[m]'(by lia)):=N2 (show m<b.size by lia)
  have z:=ih.fQ ub (by lia) e λj q hj eq=>hl m j _ q (Ny _) (by lia) hj (N2 (show m<b.size by lia)) eq
  rw [uT (show m<nb by lia) (N2 (show m<b.size by lia)),qy]
  exact z
structure gJ (rk:Keyed->Int) (a b out:Array Keyed) (na nb:Nat):Prop where
 w:WH rk a b out na nb
 la:1<=na
 lb:2<=nb
end
noncomputable abbrev zN:=Option (Array Keyed)×Nat×Nat×Array Keyed×Nat×Nat×Nat
noncomputable def E1 (a b out:Array Keyed) (na nb:Nat):Array Keyed:=a.extract 0 na++b.extract 0 nb++out.reverse
noncomputable def Dd (a b out:Array Keyed) (na nb:Nat):Array Keyed:=b.extract 0 nb++a.extract 0 na++out.reverse
noncomputable def uU (a b:Array Keyed) (mg ac bc na nb:Nat) (out:Array Keyed):StateT SortSt Sem (ForInStep zN):=do
 let p <- elem' a (na - 1)
 if (na - 1 == 0)=true then pure (.done (some (E1 a b (out.push p) (na - 1) nb),na - 1,nb,out.push p,mg,ac,bc))
 else if (decide (ac<7) && decide (bc<7))=true then pure (.done (none,na - 1,nb,out.push p,mg,ac,bc))
 else pure (.yield (none,na - 1,nb,out.push p,mg,ac,bc))
noncomputable def uV (a b:Array Keyed) (mg ac bc na nb:Nat) (out:Array Keyed):StateT SortSt Sem (ForInStep zN):=do
 let q <- elem' b (nb - 1)
 if (nb - 1 == 1)=true then pure (.done (some (Dd a b (out.push q) na (nb - 1)),na,nb - 1,out.push q,mg,ac,bc))
 else do
  let p <- elem' a (na - 1)
  let x <- cQ true p b 0 (nb - 1) (nb - 1 - 1)
  match x with
  | some k=>(if nb - 1 - k>0 then
   (if (k == 1)=true then pure (.done (some (Dd a b (out.push q++(b.extract k (nb - 1)).reverse) na k),na,k,out.push q++(b.extract k (nb - 1)).reverse,mg,ac,nb - 1 - k))
    else if (k == 0)=true then pure (.done (some (E1 a b (out.push q++(b.extract k (nb - 1)).reverse) na k),na,k,out.push q++(b.extract k (nb - 1)).reverse,mg,ac,nb - 1 - k))
    else uU a b mg ac (nb - 1 - k) na k (out.push q++(b.extract k (nb - 1)).reverse))
   else uU a b mg ac (nb - 1 - k) na (nb - 1) (out.push q))
  | _=>pure (.done (some (E1 a b (out.push q) na (nb - 1)),na,nb - 1,out.push q,mg,ac,bc))
noncomputable def uW (a b:Array Keyed) (mg ac bc na nb:Nat) (out:Array Keyed):StateT SortSt Sem (ForInStep zN):=do
 cD mg
 let q <- elem' b (nb - 1)
 let x <- cQ false q a 0 na (na - 1)
 match x with
 | some k=>(if na - k>0 then
  (if (k == 0)=true then pure (.done (some (E1 a b (out++(a.extract k na).reverse) k nb),k,nb,out++(a.extract k na).reverse,mg,na - k,bc))
   else uV a b mg (na - k) bc k nb (out++(a.extract k na).reverse))
  else uV a b mg (na - k) bc na nb out)
 | _=>pure (.done (some (E1 a b out na nb),na,nb,out,mg,ac,bc))
noncomputable def zO (a b:Array Keyed) (c:zN):StateT SortSt Sem (ForInStep zN) :=
 if c.2.2.2.2.1>1 then uW a b (c.2.2.2.2.1 - 1) c.2.2.2.2.2.1 c.2.2.2.2.2.2 c.2.1 c.2.2.1 c.2.2.2.1 else uW a b c.2.2.2.2.1 c.2.2.2.2.2.1 c.2.2.2.2.2.2 c.2.1 c.2.2.1 c.2.2.2.1
noncomputable abbrev G8:=Option (Array Keyed)×Nat×Nat×Array Keyed×Nat×Nat
noncomputable def zP (a b:Array Keyed) (mg:Nat) (c:G8):StateT SortSt Sem (ForInStep G8):=do
 let q <- elem' b (c.2.2.1 - 1)
 let p <- elem' a (c.2.1 - 1)
 let x <- lt' q p
 match x with
 | some y=>(if y=true then (do
  let p <- elem' a (c.2.1 - 1)
  if (c.2.1 - 1 == 0)=true then pure (.done (some (E1 a b (c.2.2.2.1.push p) (c.2.1 - 1) c.2.2.1),c.2.1 - 1,c.2.2.1,c.2.2.2.1.push p,c.2.2.2.2.1+1,0))
  else if c.2.2.2.2.1+1>=mg then pure (.done (none,c.2.1 - 1,c.2.2.1,c.2.2.2.1.push p,c.2.2.2.2.1+1,0))
  else pure (.yield (none,c.2.1 - 1,c.2.2.1,c.2.2.2.1.push p,c.2.2.2.2.1+1,0)))
  else (do
   let q <- elem' b (c.2.2.1 - 1)
   if (c.2.2.1 - 1 == 1)=true then pure (.done (some (Dd a b (c.2.2.2.1.push q) c.2.1 (c.2.2.1 - 1)),c.2.1,c.2.2.1 - 1,c.2.2.2.1.push q,0,c.2.2.2.2.2+1))
   else if c.2.2.2.2.2+1>=mg then pure (.done (none,c.2.1,c.2.2.1 - 1,c.2.2.2.1.push q,0,c.2.2.2.2.2+1))
   else pure (.yield (none,c.2.1,c.2.2.1 - 1,c.2.2.2.1.push q,0,c.2.2.2.2.2+1))))
 | _=>pure (.done (some (E1 a b c.2.2.2.1 c.2.1 c.2.2.1),c.2.1,c.2.2.1,c.2.2.2.1,c.2.2.2.2.1,c.2.2.2.2.2))
noncomputable abbrev BW:=Option (Array Keyed)×Nat×Nat×Array Keyed×Nat
noncomputable def jj (a b:Array Keyed) (c:BW):StateT SortSt Sem (ForInStep BW):=do
 let s <- forIn [:a.size+b.size] ((none,c.2.1,c.2.2.1,c.2.2.2.1,0,0):G8) λ_ s=>zP a b c.2.2.2.2 s
 match s.1 with
 | some r=>pure (.done (some r,s.2.1,s.2.2.1,s.2.2.2.1,c.2.2.2.2))
 | none=>do
  liftM (rule "list.sort.gallop")
  let t <- forIn [:a.size+b.size] ((none,s.2.1,s.2.2.1,s.2.2.2.1,c.2.2.2.2+1,s.2.2.2.2.1,s.2.2.2.2.2):zN) λ_ t=>zO a b t
  match t.1 with
  | some r=>pure (.done (some r,t.2.1,t.2.2.1,t.2.2.2.1,t.2.2.2.2.1))
  | none=>do
   cD (t.2.2.2.2.1+1)
   pure (.yield (none,t.2.1,t.2.2.1,t.2.2.2.1,t.2.2.2.2.1+1))
theorem qz (a b):kX a b=(do
 liftM (rule "list.sort.merge-hi")
 let p <- elem' a (a.size - 1)
 if (a.size - 1 == 0)=true then pure (E1 a b #[p] (a.size - 1) b.size)
 else if (b.size == 1)=true then pure (Dd a b #[p] (a.size - 1) b.size)
 else do
  let st <- get
  let s <- forIn [:a.size+b.size] ((none,a.size - 1,b.size,#[p],gallopOf st):BW) λ_ c=>jj a b c
  match s.1 with
  | some r=>pure r
  | none=>liftM (unsupported (α:=Array Keyed) "internal:list.sort.merge-bound")):=by
 unfold kX
 walk_at "dl mergeHi"
 dsimp only
 refine congrArg _ (funext λ_=>?_)
 refine congrArg _ (funext λp=>?_)
 refine congrArg _ (congrArg _ ?_)
 refine congrArg _ (funext λst=>?_)
 have h1:∀ (c:BW),jj a b c=jj a b c:=λ_=>rfl
 have e:∀ (f g:Nat->BW->StateT SortSt Sem (ForInStep BW)) (c:BW) (k:BW->StateT SortSt Sem (Array Keyed)),f=g->(forIn [:a.size+b.size] c f >>= k)=(forIn [:a.size+b.size] c g >>= k):=λ_ _ _ _ h=>by rw [h]
 refine (e _ _ _ _ (funext λ_=>funext λc=>?_)).trans (congrArg _ (funext λs=>?_))
 ·obtain ⟨o,na,nb,out,mg⟩:=c
  unfold jj
  dsimp only
  have e2:∀ (f g:Nat->G8->StateT SortSt Sem (ForInStep G8)) (c:G8) (k l:G8->StateT SortSt Sem (ForInStep BW)),f=g->k=l->(forIn [:a.size+b.size] c f >>= k)=(forIn [:a.size+b.size] c g >>= l):=λ_ _ _ _ _ h h2=>by rw [h,h2]
  refine e2 _ _ _ _ _ (funext λ_=>funext λc=>?_) (funext λs=>?_)
  ·rfl
  ·obtain ⟨o,na,nb,out,ac,bc⟩:=s
   cases o with
   | some r=>rfl
   | none =>
    dsimp only
    refine congrArg _ (funext λ_=>?_)
    have e3:∀ (f g:Nat->zN->StateT SortSt Sem (ForInStep zN)) (c:zN) (k l:zN->StateT SortSt Sem (ForInStep BW)),f=g->k=l->(forIn [:a.size+b.size] c f >>= k)=(forIn [:a.size+b.size] c g >>= l):=λ_ _ _ _ _ h h2=>by rw [h,h2]
    refine e3 _ _ _ _ _ (funext λ_=>funext λc=>?_) (funext λs=>?_)
    ·rfl
    ·obtain ⟨o,s⟩:=s
     cases o <;> rfl
 ·obtain ⟨o,s⟩:=s
  cases o <;> rfl
def De (rk:Keyed->Int) (a b:Array Keyed) (n:Nat) (o:Option (Array Keyed)) (na nb:Nat) (out:Array Keyed):Prop:=(∃ r,o=some r/\Res rk a b r)\/(o=none/\gJ rk a b out na nb/\na+nb<=n)
noncomputable def Df (rk:Keyed->Int) (a b:Array Keyed) (n:Nat):ForInStep zN->Prop
 | .done c=>De rk a b n c.1 c.2.1 c.2.2.1 c.2.2.2.1
 | .yield c=>c.1=none/\gJ rk a b c.2.2.2.1 c.2.1 c.2.2.1/\c.2.1+c.2.2.1<=n
theorem mZ {st:SortSt} (W:WH rk a b out na nb) (ua:Up rk a) (ub:Up rk b) (la:1<=na) (lb:2<=nb) (ep:a[na - 1]?=some p)
 (hl:∀ (j:Nat) (r:Keyed),j<nb->b[j]?=some r->rk r<=rk p) (hn:na - 1+nb<=n) (hQ:∀ x,Df rk a b n x->Q x st):wpS (model prog w) A E s (uU a b mg ac bc na nb out) Q st:=by
 unfold uU
 have W4:=W.fR ua la ep hl
 refine Nz (aS ep ?_)
 by_cases e9:na - 1=0
 ·rw [if_pos (by simpa using e9)]
  exact NB (hQ _ (.inl ⟨_,rfl,W4.ji ub e9⟩))
 rw [if_neg (by simpa using e9)]
 have hL:gJ rk a b (out.push p) (na - 1) nb:=⟨W4,SH.mpr e9,lb⟩
 split
 ·exact NB (hQ _ (.inr ⟨rfl,hL,hn⟩))
 ·exact NB (hQ _ ⟨rfl,hL,hn⟩)
theorem m5 {st:SortSt} (hC:ir prog w A s κ rk L) (hk:kindOf st=κ) (ma:∀ (i:Nat) (p:Keyed),a[i]?=some p->p∈L) (mb:∀ (i:Nat) (p:Keyed),b[i]?=some p->p∈L)
 (fB:∀ {out:Array Keyed} {na nb:Nat},WH rk a b out na nb->nb=1->Res rk a b (Dd a b out na nb)) (W:WH rk a b out na nb) (ua:Up rk a) (ub:Up rk b) (la:1<=na) (lb:2<=nb) (eq:b[nb - 1]?=some q)
 (hl:∀ (j:Nat) (r:Keyed),j<na->a[j]?=some r->rk r<=rk q) (hn:na+nb<=n+2) (hQ:∀ x,Df rk a b n x->Q x st):wpS (model prog w) A E s (uV a b mg ac bc na nb out) Q st:=by
 unfold uV
 have W2:=W.fQ ub (Nat.le_of_succ_le lb) eq hl
 have hpa:=W.pa
 have hpb:=W.pb
 refine Nz (aS eq ?_)
 by_cases e5:nb - 1=1
 ·rw [if_pos (by simpa using e5)]
  exact NB (hQ _ (.inl ⟨_,rfl,fB W2 e5⟩))
 rw [if_neg (by simpa using e5)]
 have lb1:2<=nb - 1:=by lia
 obtain ⟨p,ep⟩:=some_at (xs:=a) (i:=na - 1) (by lia)
 refine Nz (aS ep ?_)
 refine Nz (qv hC hk (ma _ _ ep) mb ub _ (by lia) (by lia) λk hj1 hj2 hj3=>?_)
 dsimp only
 have dn2:∀ (i:Nat) (r:Keyed),i<k->b[i]?=some r->rk r<rk p:=λi r z1 e6=>hj2 i r z1 (by rw [PF]; exact e6)
 by_cases hj0:nb - 1 - k>0
 ·rw [if_pos hj0]
  have W3:=W2.qt ub (nb - 1 - k) k (SX hj1) λi j r p' z1 z2 z3 e6 e7=>N9 (ua j (na - 1) p' p (RD z3) e7 ep) (hj3 i r z1 (Nat.add_lt_add_left z2 0) (by rw [PF]; exact e6))
  by_cases e8:k=1
  ·rw [if_pos (by simpa using e8)]
   exact NB (hQ _ (.inl ⟨_,rfl,fB W3 e8⟩))
  rw [if_neg (by simpa using e8)]
  by_cases e10:k=0
  ·rw [if_pos (by simpa using e10)]
   exact NB (hQ _ (.inl ⟨_,rfl,W3.jh ua e10⟩))
  rw [if_neg (by simpa using e10)]
  exact mZ W3 ua ub la (by lia) ep (λj r hj e6=>Po (dn2 j r hj e6)) (by lia) hQ
 ·rw [if_neg hj0]
  exact mZ W2 ua ub la lb1 ep (λj r hj e6=>Po (dn2 j r (by lia) e6)) (by lia) hQ
theorem m6 {st:SortSt} (hC:ir prog w A s κ rk L) (hk:kindOf st=κ) (ma:∀ (i:Nat) (p:Keyed),a[i]?=some p->p∈L) (mb:∀ (i:Nat) (p:Keyed),b[i]?=some p->p∈L)
 (fB:∀ {out:Array Keyed} {na nb:Nat},WH rk a b out na nb->nb=1->Res rk a b (Dd a b out na nb)) (ua:Up rk a) (ub:Up rk b) (hL:gJ rk a b out na nb) (hn:na+nb<=n) (hQ:∀ x st',cS st st'->Df rk a b n x->Q x st') :
 wpS (model prog w) A E s (uW a b mg ac bc na nb out) Q st:=by
 unfold uW
 have W:=hL.w
 have la:=hL.la
 have lb:=hL.lb
 have hpa:=W.pa
 have hpb:=W.pb
 obtain ⟨q,eq⟩:=some_at (xs:=b) (i:=nb - 1) (by lia)
 refine Nz (fm ?_)
 have FA:=λx=>hQ x _ ((cS.refl st).min mg)
 refine Nz (aS eq ?_)
 refine Nz (qu hC (by exact hk) (mb _ _ eq) ma ua _ (by lia) (by lia) λk hk1 hk2 hk3=>?_)
 dsimp only
 have dn1:∀ (i:Nat) (p:Keyed),i<k->a[i]?=some p->rk p<=rk q:=λi p z1 e3=>hk2 i p z1 (by rw [PF]; exact e3)
 by_cases hk0:na - k>0
 ·rw [if_pos hk0]
  have Wk:=W.qp ua (na - k) k (SX hk1) λi j p r z1 z2 z3 e3 e4=>N9 (ub j (nb - 1) r q (RD z3) e4 eq) (Po (hk3 i p z1 (Nat.add_lt_add_left z2 0) (by rw [PF]; exact e3)))
  by_cases e4:k=0
  ·rw [if_pos (by simpa using e4)]
   exact NB (FA _ (.inl ⟨_,rfl,Wk.ji ub e4⟩))
  rw [if_neg (by simpa using e4)]
  exact m5 hC (by exact hk) ma mb fB Wk ua ub (SH.mpr e4) lb eq dn1 (by lia) FA
 ·rw [if_neg hk0]
  exact m5 hC (by exact hk) ma mb fB W ua ub la lb eq (λj r hj e3=>dn1 j r (by lia) e3) (by lia) FA
theorem wM {st:SortSt} (hC:ir prog w A s κ rk L) (hk:kindOf st=κ) (ma:∀ (i:Nat) (p:Keyed),a[i]?=some p->p∈L) (mb:∀ (i:Nat) (p:Keyed),b[i]?=some p->p∈L)
 (fB:∀ {out:Array Keyed} {na nb:Nat},WH rk a b out na nb->nb=1->Res rk a b (Dd a b out na nb)) (ua:Up rk a) (ub:Up rk b) (hL:gJ rk a b c.2.2.2.1 c.2.1 c.2.2.1) (hn:c.2.1+c.2.2.1<=n+1)
 (hQ:∀ o na nb out z y,De rk a b n o na nb out->Q (.done (o,na,nb,out,z)) st/\(o=none->Q (.yield (none,na,nb,out,y)) st)):wpS (model prog w) A E s (zP a b mg c) Q st:=by
 obtain ⟨_,na,nb,out,ac,bc⟩:=c
 unfold zP
 dsimp only at hL hn |-
 have W:=hL.w
 have la:=hL.la
 have lb:=hL.lb
 have hpa:=W.pa
 have hpb:=W.pb
 obtain ⟨q,eq⟩:=some_at (xs:=b) (i:=nb - 1) (by lia)
 obtain ⟨p,ep⟩:=some_at (xs:=a) (i:=na - 1) (by lia)
 refine Nz (aS eq (Nz (aS ep (Nz (kQ hC hk (mb _ _ eq) (ma _ _ ep) ?_)))))
 dsimp only
 by_cases hw:rk q<rk p
 ·rw [decide_eq_true hw,if_pos rfl]
  have W1:=W.fR ua la ep λj r hj e=>N9 (ub j (nb - 1) r q (RD hj) e eq) (Po hw)
  refine Nz (aS ep ?_)
  by_cases e3:na - 1=0
  ·rw [if_pos (by simpa using e3)]
   exact NB (hQ _ _ _ _ _ (0,0) (.inl ⟨_,rfl,W1.ji ub e3⟩)).1
  rw [if_neg (by simpa using e3)]
  have z:=hQ none (na - 1) nb (out.push p) (ac+1,0) (ac+1,0) (.inr ⟨rfl,⟨W1,SH.mpr e3,lb⟩,by lia⟩)
  split
  ·exact NB z.1
  ·exact NB (z.2 rfl)
 ·rw [decide_eq_false hw,if_neg NH]
  have W1:=W.fQ ub (Nat.le_of_succ_le lb) eq λj r hj e=>N9 (ua j (na - 1) r p (RD hj) e ep) (Int.not_lt.mp hw)
  refine Nz (aS eq ?_)
  by_cases e3:nb - 1=1
  ·rw [if_pos (by simpa using e3)]
   exact NB (hQ _ _ _ _ _ (0,0) (.inl ⟨_,rfl,fB W1 e3⟩)).1
  rw [if_neg (by simpa using e3)]
  have z:=hQ none na (nb - 1) (out.push q) (0,bc+1) (0,bc+1) (.inr ⟨rfl,⟨W1,la,by lia⟩,by lia⟩)
  split
  ·exact NB z.1
  ·exact NB (z.2 rfl)
theorem sH {st:SortSt} (hC:ir prog w A s κ rk L) (hk:kindOf st=κ) (ma:∀ (i:Nat) (p:Keyed),a[i]?=some p->p∈L) (mb:∀ (i:Nat) (p:Keyed),b[i]?=some p->p∈L)
 (fB:∀ {out:Array Keyed} {na nb:Nat},WH rk a b out na nb->nb=1->Res rk a b (Dd a b out na nb)) (ua:Up rk a) (ub:Up rk b) (hL:gJ rk a b c.2.2.2.1 c.2.1 c.2.2.1) (hn:c.2.1+c.2.2.1<=n+1) (hm:n+1<=a.size+b.size)
 (h1:∀ r z st',cS st st'->Res rk a b r->Q (.done (some r,z)) st') (h2:∀ na nb out g st',cS st st'->gJ rk a b out na nb->na+nb<=n->Q (.yield (none,na,nb,out,g)) st'):wpS (model prog w) A E s (jj a b c) Q st:=by
 unfold jj
 refine Nz (Ob (OB (I:=λy c st'=>st'=st/\c.1=none/\gJ rk a b c.2.2.2.1 c.2.1 c.2.2.1/\y+c.2.1+c.2.2.1<=n+1) (Q:=λc st'=>st'=st/\De rk a b n c.1 c.2.1 c.2.2.1 c.2.2.2.1) ?step ?fin ⟨rfl,rfl,hL,by dsimp only; lia⟩) ?post)
 case fin =>
  rintro c st' ⟨rfl,hc,hL',hx⟩
  exact ⟨rfl,.inr ⟨hc,hL',by lia⟩⟩
 case step =>
  rintro y c st' _ hy ⟨rfl,_,hL',hx⟩
  refine wM (n:=n - y) hC hk ma mb fB ua ub hL' (by have:=hL'.la; have:=hL'.lb; lia) λo na nb out z y hR=>⟨?_,?_⟩
  ·refine ⟨rfl,?_⟩
   rcases hR with hR | ⟨q1,q2,q3⟩
   ·exact .inl hR
   ·exact .inr ⟨q1,q2,by dsimp only; lia⟩
  ·rintro rfl
   rcases hR with ⟨_,q,_⟩ | ⟨q1,q2,q3⟩
   ·cases q
   ·exact ⟨rfl,rfl,q2,by have:=q2.la; have:=q2.lb; dsimp only; lia⟩
 case post =>
  rintro ⟨o,na,nb,out,ac,bc⟩ st' ⟨rfl,hR⟩
  dsimp only at hR |-
  rcases hR with ⟨r,rfl,hr⟩ | ⟨rfl,hL2,hn2⟩
  ·exact NB (h1 r _ _ (.refl _) hr)
  refine Nz (PX (OO ⟨rfl,?_⟩))
  refine Nz (Ob (OB (I:=λy c st''=>cS st' st''/\c.1=none/\gJ rk a b c.2.2.2.1 c.2.1 c.2.2.1/\c.2.1+c.2.2.1<=n) (Q:=λc st''=>cS st' st''/\De rk a b n c.1 c.2.1 c.2.2.1 c.2.2.2.1) ?gstep ?gfin ⟨.refl _,rfl,hL2,hn2⟩) ?gpost)
  case gfin=>exact λc st'' ⟨q1,q2,q3,q4⟩=>⟨q1,.inr ⟨q2,q3,q4⟩⟩
  case gstep =>
   rintro y c st'' _ _ ⟨q1,q2,q3,q4⟩
   have key:wpS (model prog w) A E s (zO a b c) (λx st3=>cS st'' st3/\Df rk a b n x) st'':=by
    unfold zO
    split
    ·exact m6 hC (q1.k.trans hk) ma mb fB ua ub q3 q4 λx st3 k h=>⟨k,h⟩
    ·exact m6 hC (q1.k.trans hk) ma mb fB ua ub q3 q4 λx st3 k h=>⟨k,h⟩
   refine Ob key λx st3 ⟨k,h⟩=>?_
   cases x with
   | done c=>exact ⟨q1.trans k,h⟩
   | yield c=>exact ⟨q1.trans k,h⟩
  case gpost =>
   rintro ⟨o,na,nb,out,g,ac,bc⟩ st'' ⟨q1,hR⟩
   dsimp only at hR |-
   rcases hR with ⟨r,rfl,hr⟩ | ⟨rfl,hL3,hn3⟩
   ·exact NB (h1 r _ _ q1 hr)
   ·exact Nz (fm (NB (h2 _ _ _ _ _ (q1.min _) hL3 hn3)))
theorem qA {st:SortSt} (hC:ir prog w A s κ rk L) (hk:kindOf st=κ) (ma:∀ (i:Nat) (p:Keyed),a[i]?=some p->p∈L) (mb:∀ (i:Nat) (p:Keyed),b[i]?=some p->p∈L) (ua:Up rk a) (ub:Up rk b) (na1:1<=a.size) (nb1:1<=b.size)
 (h0:∀ p q,a[0]?=some p->b[0]?=some q->rk q<=rk p) (hl:∀ (j:Nat) (p q:Keyed),a[a.size - 1]?=some p->b[j]?=some q->rk q<=rk p) (h:∀ r st',Res rk a b r->cS st st'->Q r st'):wpS (model prog w) A E s (kX a b) Q st:=by
 obtain ⟨p0,ep0⟩:=some_at (xs:=a) (i:=0) na1
 have firstB:∀ {out:Array Keyed} {na nb:Nat},WH rk a b out na nb->nb=1->Res rk a b (Dd a b out na nb):=λhw e=>hw.first ua e λj p q e1 e2=>N9 (h0 p0 q ep0 e2) (ua 0 j p0 p (N1 _) ep0 e1)
 obtain ⟨pl,epl⟩:=some_at (xs:=a) (i:=a.size - 1) (by lia)
 have W0:WH rk a b #[pl] (a.size - 1) b.size:=by
  have z:WH rk a b #[] a.size b.size:=⟨Ny _,Ny _,by simp,QV,by simp,by simp⟩
  exact z.fR ua na1 epl λj q _ e=>hl j pl q epl e
 rw [qz]
 refine Nz (PX (OO ⟨rfl,?_⟩))
 refine Nz (aS epl ?_)
 by_cases e1:a.size - 1=0
 ·rw [if_pos (by simpa using e1)]
  exact NB (h _ _ (W0.ji ub e1) (.refl _))
 rw [if_neg (by simpa using e1)]
 by_cases e2:b.size=1
 ·rw [if_pos (by simpa using e2)]
  exact NB (h _ _ (firstB W0 e2) (.refl _))
 rw [if_neg (by simpa using e2)]
 refine Nz (OX ?_)
 refine Nz (Ob (OB (I:=λx c st'=>cS st st'/\c.1=none/\gJ rk a b c.2.2.2.1 c.2.1 c.2.2.1/\x+c.2.1+c.2.2.1<a.size+b.size) (Q:=λc st'=>cS st st'/\∃ r,c.1=some r/\Res rk a b r) ?step ?fin ⟨.refl _,rfl,⟨W0,by dsimp only; lia,by dsimp only; lia⟩,by dsimp only; lia⟩) ?post)
 case fin =>
  rintro c st' ⟨hK,hc,hL,hx⟩
  have h1:=hL.la
  lia
 case post =>
  rintro c st' ⟨hK,r,hc,hr⟩
  rw [hc]
  exact NB (h r st' hr hK)
 case step =>
  rintro x c st1 _ hx ⟨hK,_,hL,hn⟩
  have l1:=hL.la
  have l2:=hL.lb
  exact sH (n:=a.size+b.size - x - 2) hC (hK.k.trans hk) ma mb firstB ua ub hL (by lia) (by lia) (λr z st' k hr=>⟨hK.trans k,r,rfl,hr⟩) λna nb out g st' k q1 q2=>⟨hK.trans k,rfl,q1,by have:=q1.la; dsimp only; lia⟩
def Seg (rk:Keyed->Int) (xs:Array Keyed) (lo hi:Nat):Prop:=∀ i j,lo<=i->i<=j->j<hi->R rk xs i<=R rk xs j
def E2 (rk:Keyed->Int) (xs:Array Keyed) (lo hi:Nat):Prop:=∀ i j,lo<=i->i<=j->j<hi->R rk xs j<=R rk xs i
structure Bs (κ:SortKind) (L:List Keyed) (st:SortSt):Prop where
 perm:(arrOf st).toList.Perm L
 kind:kindOf st=κ
 failed:failedOf st=none
structure Mv (st st':SortSt) (lo hi:Nat):Prop where
 out:∀ i,i<lo\/hi<=i->(arrOf st')[i]?=(arrOf st)[i]?
 pend:pendingOf st'=pendingOf st
section
variable {st st' st'':SortSt} {lo hi:Nat}
theorem Bs.size (h:Bs κ L st):(arrOf st).size=L.length:=by simpa using h.perm.length_eq
theorem Bs.at (h:Bs κ L st) (hi:i<L.length):∃ p,(arrOf st)[i]?=some p/\p∈L:=by
 have hs:=h.size
 refine ⟨(arrOf st)[i]'(by lia),N2 _,h.perm.mem_iff.mp ?_⟩
 rw [SQ]; exact Tt _
theorem Bs.arr (h:Bs κ L st) (hp:xs.toList.Perm (arrOf st).toList):Bs κ L (setArr st xs):=⟨hp.trans h.perm,h.kind,h.failed⟩
theorem Mv.refl:Mv st st lo hi:=⟨λ_ _=>rfl,rfl⟩
theorem Mv.trans (a:Mv st st' lo hi) (b:Mv st' st'' lo hi):Mv st st'' lo hi:=⟨λi h=>(b.out i h).trans (a.out i h),b.pend.trans a.pend⟩
theorem zQ (hj:j<=xs.size) (k):R rk (mirror xs i j ((j - i) / 2)) k=if i<=k/\k<j then R rk xs (i+j - 1 - k) else R rk xs k:=by
 have e:=getElem?_mirror_all (i:=i) hj k
 by_cases h:i<=k/\k<j
 ·rw [if_pos h] at e |-; exact ck e
 ·rw [if_neg h] at e |-; exact ck e
theorem kY (hj:j<=(arrOf st).size) (h1:lo<=i) (h2:j<=hi):Mv st (setArr st (mirror (arrOf st) i j ((j - i) / 2))) lo hi :=
 ⟨λk hk=>by
   have e:=getElem?_mirror_all (i:=i) hj k
   rw [if_neg (by lia)] at e; exact e,rfl⟩
theorem Dg (i) (xs):Seg rk xs i (i+1):=λa b h1 h2 h3=>by
 have:a=b:=by lia
 subst this; exact OL _
theorem zR (h:Seg rk xs lo (lo+n)) (hn:1<=n) (hl:¬ R rk xs (lo+n)<R rk xs (lo+n - 1)):Seg rk xs lo (lo+(n+1)):=λa b h1 h2 h3=>by
 by_cases hb:b<lo+n
 ·exact h a b h1 h2 hb
 ·have e:b=lo+n:=by lia
  subst e
  by_cases ha:a=lo+n
  ·subst ha; exact OL _
  ·exact N9 (h a (lo+n - 1) h1 (by lia) (by lia)) (Int.not_lt.mp hl)
theorem fS (h:E2 rk xs lo (lo+n)) (hn:1<=n) (hl:R rk xs (lo+n)<=R rk xs (lo+n - 1)):E2 rk xs lo (lo+(n+1)):=λa b h1 h2 h3=>by
 by_cases hb:b<lo+n
 ·exact h a b h1 h2 hb
 ·have e:b=lo+n:=by lia
  subst e
  by_cases ha:a=lo+n
  ·subst ha; exact OL _
  ·exact N9 hl (h a (lo+n - 1) h1 (by lia) (by lia))
end
section
variable {st:SortSt} {lo nrem:Nat}
theorem kZ (hC:ir prog w A s κ rk L) (hB:Bs κ L st) (hi:i<L.length) (hj:j<L.length) (h:Q (some (decide (R rk (arrOf st) i<R rk (arrOf st) j))) st):wpS (model prog w) A E s (ltAt' i j) Q st:=by
 obtain ⟨p,ep,hp⟩:=hB.at hi
 obtain ⟨q,eq,hq⟩:=hB.at hj
 exact wK hC hB.kind ep eq hp hq h
theorem d9 (h:Q () (setArr st (mirror (arrOf st) i j ((j - i) / 2)))):wpS (model prog w) A E s (reverseSlice' i j) Q st :=
 O6 (f:=λs=>setArr s (mirror (arrOf s) i j ((j - i) / 2))) h
noncomputable abbrev J9:=Option (Option Nat)×Nat
noncomputable def asc (lo a nrem:Nat):StateT SortSt Sem J9 :=
 forIn [a:nrem] ((none,a):J9) λ_ c=>ltAt' (lo+c.2) (lo+c.2 - 1) >>= λx=>match x with
  | some smaller=>if smaller=true then pure (OU (none,c.2)) else pure (Ot (none,c.2+1))
  | _=>pure (OU (some none,c.2))
theorem uX (hC:ir prog w A s κ rk L) (hB:Bs κ L st) (hn:lo+nrem<=L.length) (h1:1<=a) (h2:a<=nrem) (hs:Seg rk (arrOf st) lo (lo+a))
 (h:∀ n,a<=n->n<=nrem->Seg rk (arrOf st) lo (lo+n)->(n=nrem\/R rk (arrOf st) (lo+n)<R rk (arrOf st) (lo+n - 1))->Q (none,n) st):wpS (model prog w) A E s (asc lo a nrem) Q st:=by
 unfold asc
 refine OB (I:=λx c st'=>st'=st/\c=(none,x)/\Seg rk (arrOf st) lo (lo+x)) ?step ?fin ⟨rfl,rfl,hs⟩
 case fin =>
  rintro c st' ⟨rfl,rfl,hs'⟩
  rw [show max a nrem=nrem by lia] at hs' |-
  exact h nrem h2 (Ny _) hs' (.inl rfl)
 case step =>
  rintro x c st' hax hxn ⟨rfl,rfl,hs'⟩
  refine Nz (kZ hC hB (by dsimp only; lia) (by dsimp only; lia) ?_)
  dsimp only
  by_cases hl:R rk (arrOf st') (lo+x)<R rk (arrOf st') (lo+x - 1)
  ·rw [decide_eq_true hl,if_pos rfl]
   exact NB (h x hax (by lia) hs' (.inr hl))
  ·rw [decide_eq_false hl,if_neg NH]
   exact NB ⟨rfl,rfl,zR hs' (by lia) hl⟩
noncomputable abbrev Ka:=Option (Option Nat)×Nat×Nat
noncomputable def Kc (lo n nrem:Nat):StateT SortSt Sem Ka :=
 forIn [n:nrem] ((none,n,0):Ka) λ_ c=>ltAt' (lo+c.2.1) (lo+c.2.1 - 1) >>= λx=>match x with
  | some smaller=>if smaller=true then
   (if c.2.2>0 then reverseSlice' (lo+c.2.1 - (c.2.2+1)) (lo+c.2.1) >>= λ_=>pure (Ot (none,c.2.1+1,0)) else pure (Ot (none,c.2.1+1,0)))
   else ltAt' (lo+c.2.1 - 1) (lo+c.2.1) >>= λy=>match y with
    | some larger=>if larger=true then pure (OU (none,c.2.1,c.2.2)) else pure (Ot (none,c.2.1+1,c.2.2+1))
    | _=>pure (OU (some none,c.2.1,c.2.2))
  | _=>pure (OU (some none,c.2.1,c.2.2))
theorem iM (hj:j<=xs.size) (he:∀ k,i<=k->k<j->R rk xs k=R rk xs (j - 1)) (k):R rk (mirror xs i j ((j - i) / 2)) k=R rk xs k:=by
 rw [zQ hj]
 split
 ·rw [he _ (by lia) (by lia),he k (by lia) (by lia)]
 ·rfl
theorem Dh (hC:ir prog w A s κ rk L) (hB:Bs κ L st) (hn:lo+nrem<=L.length) (h1:1<=n) (h2:n<=nrem) (hs:E2 rk (arrOf st) lo (lo+n))
 (h:∀ m neq st',Bs κ L st'->Mv st st' lo (lo+nrem)->n<=m->m<=nrem->E2 rk (arrOf st') lo (lo+m)->neq+1<=m->(∀ i,lo+m - (neq+1)<=i->i<lo+m->R rk (arrOf st') i=R rk (arrOf st') (lo+m - 1))->Q (none,m,neq) st') :
 wpS (model prog w) A E s (Kc lo n nrem) Q st:=by
 unfold Kc
 refine OB (I:=λx c st'=>∃ neq,c=(none,x,neq)/\Bs κ L st'/\Mv st st' lo (lo+nrem)/\E2 rk (arrOf st') lo (lo+x)/\neq+1<=x/\(∀ i,lo+x - (neq+1)<=i->i<lo+x->R rk (arrOf st') i=R rk (arrOf st') (lo+x - 1))) ?step ?fin
  ⟨0,rfl,hB,.refl,hs,h1,λi a1 a2=>by congr 1; lia⟩
 case fin =>
  rintro c st' ⟨neq,rfl,jy,hM',hs',hq,he⟩
  rw [show max n nrem=nrem by lia] at hs' hq he |-
  exact h nrem neq st' jy hM' h2 (Ny _) hs' hq he
 case step =>
  rintro x c st' hax hxn ⟨neq,rfl,jy,hM',hs',hq,he⟩
  have hsz:=jy.size
  refine Nz (kZ hC jy (by dsimp only; lia) (by dsimp only; lia) ?_)
  dsimp only
  by_cases hl:R rk (arrOf st') (lo+x)<R rk (arrOf st') (lo+x - 1)
  ·rw [decide_eq_true hl,if_pos rfl]
   by_cases hq0:neq>0
   ·rw [if_pos hq0]
    have key:=iM (rk:=rk) (xs:=arrOf st') (i:=lo+x - (neq+1)) (j:=lo+x) (by lia) he
    refine Nz (d9 (NB ⟨0,rfl,jy.arr (Qm.mp (Rg _ _ _ _)),hM'.trans (kY (by lia) (by lia) (by lia)),?_,by lia,λi a1 a2=>by congr 1; lia⟩))
    refine fS (λa b z1 z2 z3=>?_) (by lia) ?_
    ·show R rk (mirror _ _ _ _) b<=R rk (mirror _ _ _ _) a
     rw [key,key]; exact hs' a b z1 z2 z3
    ·show R rk (mirror _ _ _ _) _<=R rk (mirror _ _ _ _) _
     rw [key,key]; lia
   ·rw [if_neg hq0]
    exact NB ⟨0,rfl,jy,hM',fS hs' (by lia) (by lia),by lia,λi a1 a2=>by congr 1; lia⟩
  ·rw [decide_eq_false hl,if_neg NH]
   refine Nz (kZ hC jy (by lia) (by lia) ?_)
   dsimp only
   by_cases hg:R rk (arrOf st') (lo+x - 1)<R rk (arrOf st') (lo+x)
   ·rw [decide_eq_true hg,if_pos rfl]
    exact NB (h x neq st' jy hM' hax (by lia) hs' hq he)
   ·rw [decide_eq_false hg,if_neg NH]
    have heq:R rk (arrOf st') (lo+x)=R rk (arrOf st') (lo+x - 1):=by lia
    refine NB ⟨neq+1,rfl,jy,hM',fS hs' (by lia) (by lia),by lia,λi a1 a2=>?_⟩
    rw [show lo+(x+1) - 1=lo+x by lia]
    by_cases hi:i=lo+x
    ·rw [hi]
    ·rw [heq]; exact he i (by lia) (by lia)
noncomputable def countRun':Nat->Nat->StateT SortSt Sem (Option Nat):=sortPriv% PySem.Builtin.countRun
theorem iN {Q:Option Nat->SortSt->Prop} (hC:ir prog w A s κ rk L) (hB:Bs κ L st) (hn:lo+nrem<=L.length) (h1:1<=n) (h2:n<=nrem) (hs:E2 rk (arrOf st) lo (lo+n))
 (h:∀ m st',Bs κ L st'->Mv st st' lo (lo+nrem)->1<=m->m<=nrem->Seg rk (arrOf st') lo (lo+m)->Q (some m) st') :
 wpS (model prog w) A E s (asc lo n nrem) (λc st'=>c.1=none/\Q (some c.2) st') (setArr st (mirror (arrOf st) lo (lo+n) ((lo+n - lo) / 2))):=by
 have hsz:=hB.size
 have jy:=hB.arr (Qm.mp (Rg (arrOf st) lo (lo+n) ((lo+n - lo) / 2)))
 refine uX hC jy hn h1 h2 (λa b z1 z2 z3=>?_) λm m1 m2 ms _=>⟨rfl,h m _ jy (kY (by lia) (Ny _) (by lia)) (by lia) m2 ms⟩
 show R rk (mirror _ _ _ _) a<=R rk (mirror _ _ _ _) b
 rw [zQ (by lia),zQ (by lia),if_pos (by lia),if_pos (by lia)]
 exact hs _ _ (by lia) (by lia) (by lia)
local macro_rules | `(tactic| walk_at "dl countRun")=>do
 let i:=Qf (P4 `PySem.Builtin.List.W1All `PySem.Builtin.countRun)
 `(tactic| delta $i)
theorem wpS_countRun (hC:ir prog w A s κ rk L) (hB:Bs κ L st) (hn:lo+nrem<=L.length) (h1:1<=nrem)
 (h:∀ m st',Bs κ L st'->Mv st st' lo (lo+nrem)->1<=m->m<=nrem->Seg rk (arrOf st') lo (lo+m)->Q (some m) st'):wpS (model prog w) A E s (countRun' lo nrem) Q st:=by
 unfold countRun'
 walk_at "dl countRun"
 dsimp only
 have hsz:=hB.size
 refine Nz (show wpS _ _ _ _ (asc lo 1 nrem) _ _ from uX hC hB hn (Ny _) h1 (Dg lo _) λn n1 n2 ns nor=>?_)
 dsimp only
 by_cases hnn:n=nrem
 ·rw [if_pos (by simpa using hnn)]
  exact NB (h n st hB .refl n1 n2 ns)
 rw [if_neg (by simpa using hnn)]
 have hlt:=nor.resolve_left hnn
 have rest:∀ (st1:SortSt),Bs κ L st1->Mv st st1 lo (lo+nrem)->E2 rk (arrOf st1) lo (lo+(n+1))->wpS (model prog w) A E s (Kc lo (n+1) nrem) (λc st2=>Bs κ L st2/\Mv st st2 lo (lo+nrem)/\c.1=none/\n+1<=c.2.1/\c.2.1<=nrem/\E2 rk (arrOf st2) lo (lo+c.2.1)/\c.2.2+1<=c.2.1/\(∀ i,lo+c.2.1 - (c.2.2+1)<=i->i<lo+c.2.1->R rk (arrOf st2) i=R rk (arrOf st2) (lo+c.2.1 - 1))) st1 :=
  λst1 hB1 hM1 hs1=>Dh hC hB1 hn (by lia) (by lia) hs1 λm neq st2 a1 a2 a3 a4 a5 a6 a7=>⟨a1,hM1.trans a2,rfl,a3,a4,a5,a6,a7⟩
 by_cases hgt:n>1
 ·rw [if_pos hgt]
  refine Nz (kZ hC hB (by lia) (by lia) ?_)
  dsimp only
  by_cases hrose:R rk (arrOf st) lo<R rk (arrOf st) (lo+n - 1)
  ·rw [decide_eq_true hrose,if_pos rfl]
   exact NB (h n st hB .refl n1 n2 ns)
  ·rw [decide_eq_false hrose,if_neg NH]
   have hall:∀ k,lo<=k->k<lo+n->R rk (arrOf st) k=R rk (arrOf st) (lo+n - 1):=λk z1 z2=>by
    have a1:=ns lo k (Ny _) z1 z2
    have a2:=ns k (lo+n - 1) z1 (by lia) (by lia)
    lia
   have key:=iM (rk:=rk) (xs:=arrOf st) (i:=lo) (j:=lo+n) (by lia) hall
   refine Nz (d9 ?_)
   refine Nz (PX (OO ⟨rfl,?_⟩))
   refine Nz (Ob (show wpS _ _ _ _ (Kc lo (n+1) nrem) _ _ from rest _ (hB.arr (Qm.mp (Rg _ _ _ _))) (kY (by lia) (Ny _) (by lia)) (fS (λa b z1 z2 z3=>?_) (by lia) ?_)) λc st2 hc=>?_)
   ·show R rk (mirror _ _ _ _) b<=R rk (mirror _ _ _ _) a
    rw [key,key,hall b (by lia) z3,hall a z1 (by lia)]; exact OL _
   ·show R rk (mirror _ _ _ _) _<=R rk (mirror _ _ _ _) _
    rw [key,key]; lia
   ·obtain ⟨r,m,neq⟩:=c
    obtain ⟨b1,b2,b3,b4,b5,b6,b7,b8⟩:=hc
    dsimp only at b3 b4 b5 b6 b7 b8 |-
    rw [b3]
    dsimp only
    by_cases hq0:neq>0
    ·rw [if_pos hq0]
     have hsz2:=b1.size
     have key2:=iM (rk:=rk) (xs:=arrOf st2) (i:=lo+m - (neq+1)) (j:=lo+m) (by lia) b8
     refine Nz (d9 (Nz (d9 (Nz (Ob (show wpS _ _ _ _ (asc lo m nrem) _ _ from iN (Q:=Q) hC (b1.arr (Qm.mp (Rg _ _ _ _))) hn (by lia) b5 (λa b z1 z2 z3=>?_) λk st3 c1 c2 c3 c4 c5=>h k st3 c1 ((b2.trans (kY (by lia) (by lia) (by lia))).trans c2) c3 c4 c5) λc st4 hc=>?_)))))
     ·show R rk (mirror _ _ _ _) b<=R rk (mirror _ _ _ _) a
      rw [key2,key2]; exact b6 a b z1 z2 z3
     ·obtain ⟨r,k⟩:=c
      obtain ⟨e,hQ⟩:=hc
      dsimp only at e hQ |-
      rw [e]
      exact NB hQ
    ·rw [if_neg hq0]
     refine Nz (d9 (Nz (Ob (show wpS _ _ _ _ (asc lo m nrem) _ _ from iN (Q:=Q) hC b1 hn (by lia) b5 b6 λk st3 c1 c2 c3 c4 c5=>h k st3 c1 (b2.trans c2) c3 c4 c5) λc st4 hc=>?_)))
     obtain ⟨r,k⟩:=c
     obtain ⟨e,hQ⟩:=hc
     dsimp only at e hQ |-
     rw [e]
     exact NB hQ
 ·rw [if_neg hgt]
  have e1:n=1:=by lia
  subst e1
  refine Nz (PX (OO ⟨rfl,?_⟩))
  refine Nz (Ob (show wpS _ _ _ _ (Kc lo (1+1) nrem) _ _ from rest st hB .refl (fS (λa b z1 z2 z3=>?_) (Ny _) (Po hlt))) λc st2 hc=>?_)
  ·have:a=b:=by lia
   subst this; exact OL _
  ·obtain ⟨r,m,neq⟩:=c
   obtain ⟨b1,b2,b3,b4,b5,b6,b7,b8⟩:=hc
   dsimp only at b3 b4 b5 b6 b7 b8 |-
   rw [b3]
   dsimp only
   by_cases hq0:neq>0
   ·rw [if_pos hq0]
    have hsz2:=b1.size
    have key2:=iM (rk:=rk) (xs:=arrOf st2) (i:=lo+m - (neq+1)) (j:=lo+m) (by lia) b8
    refine Nz (d9 (Nz (d9 (Nz (Ob (show wpS _ _ _ _ (asc lo m nrem) _ _ from iN (Q:=Q) hC (b1.arr (Qm.mp (Rg _ _ _ _))) hn (by lia) b5 (λa b z1 z2 z3=>?_) λk st3 c1 c2 c3 c4 c5=>h k st3 c1 ((b2.trans (kY (by lia) (by lia) (by lia))).trans c2) c3 c4 c5) λc st4 hc=>?_)))))
    ·show R rk (mirror _ _ _ _) b<=R rk (mirror _ _ _ _) a
     rw [key2,key2]; exact b6 a b z1 z2 z3
    ·obtain ⟨r,k⟩:=c
     obtain ⟨e,hQ⟩:=hc
     dsimp only at e hQ |-
     rw [e]
     exact NB hQ
   ·rw [if_neg hq0]
    refine Nz (d9 (Nz (Ob (show wpS _ _ _ _ (asc lo m nrem) _ _ from iN (Q:=Q) hC b1 hn (by lia) b5 b6 λk st3 c1 c2 c3 c4 c5=>h k st3 c1 (b2.trans c2) c3 c4 c5) λc st4 hc=>?_)))
    obtain ⟨r,k⟩:=c
    obtain ⟨e,hQ⟩:=hc
    dsimp only at e hQ |-
    rw [e]
    exact NB hQ
end
section
variable {st:SortSt} {lo:Nat}
theorem E3 (hs:src<xs.size) (hd:d<=src) (k):R rk (bubble xs src d) k=if k=src - d then R rk xs src else if src - d<k/\k<=src then R rk xs (k - 1) else R rk xs k:=by
 have e:=getElem?_bubble hs d hd k
 by_cases h1:k=src - d
 ·rw [if_pos h1] at e |-; exact ck e
 ·rw [if_neg h1] at e |-
  by_cases h2:src - d<k/\k<=src
  ·rw [if_pos h2] at e |-; exact ck e
  ·rw [if_neg h2] at e |-; exact ck e
theorem zS (h:Q () (setArr st (bubble (arrOf st) i (i - j)))):wpS (model prog w) A E s (moveDown' i j) Q st :=
 O6 (f:=λs=>setArr s (bubble (arrOf s) i (i - j))) h
noncomputable def binarySort':Nat->Nat->Nat->StateT SortSt Sem Bool:=sortPriv% PySem.Builtin.binarySort
local macro_rules | `(tactic| walk_at "dl binarySort")=>do
 let i:=Qf (P4 `PySem.Builtin.List.W1All `PySem.Builtin.binarySort)
 `(tactic| delta $i)
theorem wpS_binarySort (hC:ir prog w A s κ rk L) (hB:Bs κ L st) (hn:lo+n<=L.length) (hok:ok<=n) (hs:Seg rk (arrOf st) lo (lo+ok))
 (h:∀ st',Bs κ L st'->Mv st st' lo (lo+n)->Seg rk (arrOf st') lo (lo+n)->Q true st'):wpS (model prog w) A E s (binarySort' lo n ok) Q st:=by
 unfold binarySort'
 walk_at "dl binarySort"
 dsimp only
 refine Nz (Ob (OB (I:=λk c st'=>c.1=none/\Bs κ L st'/\Mv st st' lo (lo+n)/\Seg rk (arrOf st') lo (lo+min k n)) (Q:=λc st'=>c.1=none/\Bs κ L st'/\Mv st st' lo (lo+n)/\Seg rk (arrOf st') lo (lo+n)) ?step ?fin ?init) ?post)
 case post =>
  rintro ⟨c,u⟩ st' ⟨hc,jy,hM',hs'⟩
  dsimp only at hc |-
  rw [hc]
  exact NB (h st' jy hM' hs')
 case init =>
  refine ⟨rfl,hB,.refl,λa b z1 z2 z3=>?_⟩
  by_cases h1:ok=0
  ·have:a=b:=by lia
   subst this; exact OL _
  ·exact hs a b z1 z2 (by lia)
 case fin =>
  rintro c st' ⟨hc,jy,hM',hs'⟩
  rw [show min (max (max ok 1) n) n=n by lia] at hs'
  exact ⟨hc,jy,hM',hs'⟩
 case step =>
  rintro k ⟨c,u⟩ st' hak hkn ⟨rfl,jy,hM',hs'⟩
  rw [show min k n=k by lia] at hs'
  have hsz:=jy.size
  refine Nz (Ob (OB (I:=λx c st2=>st2=st'/\∃ l r,c=(none,l,r)/\l<=r/\r<=k/\r - l<=k - x/\(∀ i,i<l->R rk (arrOf st') (lo+i)<=R rk (arrOf st') (lo+k))/\(∀ i,r<=i->i<k->R rk (arrOf st') (lo+k)<R rk (arrOf st') (lo+i)))
   (Q:=λc st2=>st2=st'/\∃ l r,c=(none,l,r)/\l<=k/\(∀ i,i<l->R rk (arrOf st') (lo+i)<=R rk (arrOf st') (lo+k))/\(∀ i,l<=i->i<k->R rk (arrOf st') (lo+k)<R rk (arrOf st') (lo+i))) ?istep ?ifin ⟨rfl,0,k,rfl,by lia,by lia,by lia,λi hi=>by lia,λi h1 h2=>by lia⟩) ?ipost)
  case ifin =>
   rintro c st2 ⟨rfl,l,r,rfl,a1,a2,a3,a4,a5⟩
   have:l=r:=by lia
   subst this
   exact ⟨rfl,l,l,rfl,a2,a4,a5⟩
  case istep =>
   rintro x c st2 _ hx ⟨rfl,l,r,rfl,a1,a2,a3,a4,a5⟩
   dsimp only
   by_cases hge:l>=r
   ·rw [if_pos hge]
    have:l=r:=by lia
    subst this
    exact NB ⟨rfl,l,l,rfl,a2,a4,a5⟩
   ·rw [if_neg hge]
    refine Nz (kZ hC jy (by lia) (by lia) ?_)
    dsimp only
    by_cases hl:R rk (arrOf st2) (lo+k)<R rk (arrOf st2) (lo+(l+r) / 2)
    ·rw [decide_eq_true hl,if_pos rfl]
     refine NB ⟨rfl,l,(l+r) / 2,rfl,by lia,by lia,by lia,a4,λi h1 h2=>?_⟩
     exact Int.lt_of_lt_of_le hl (hs' _ _ (by lia) (by lia) (by lia))
    ·rw [decide_eq_false hl,if_neg NH]
     refine NB ⟨rfl,(l+r) / 2+1,r,rfl,by lia,by lia,by lia,λi h1=>?_,a5⟩
     exact N9 (hs' (lo+i) (lo+(l+r) / 2) (by lia) (by lia) (by lia)) (Int.not_lt.mp hl)
  case ipost =>
   rintro c st2 ⟨rfl,l,r,rfl,hlk,a4,a5⟩
   dsimp only
   have e1:lo+k - (lo+l)=k - l:=by lia
   refine Nz (zS (NB ⟨rfl,jy.arr (Qm.mp (bubble_perm _ _ _)),?_,?_⟩))
   ·refine hM'.trans ⟨λi hi=>?_,rfl⟩
    have e:=getElem?_bubble (xs:=arrOf st2) (src:=lo+k) (by lia) (lo+k - (lo+l)) (by lia) i
    rw [if_neg (by lia),if_neg (by lia)] at e
    exact e
   ·rw [show min (k+1) n=k+1 by lia]
    intro i j hi hij hj
    show R rk (bubble (arrOf st2) (lo+k) (lo+k - (lo+l))) i<=R rk (bubble (arrOf st2) (lo+k) (lo+k - (lo+l))) j
    rw [E3 (by lia) (by lia),E3 (by lia) (by lia),e1]
    have sub:∀ i,lo<=i->lo+(i - lo)=i:=λi hi=>by lia
    have f4:∀ i,lo<=i->i<lo+l->R rk (arrOf st2) i<=R rk (arrOf st2) (lo+k):=λi h1 h2=>by have:=a4 (i - lo) (by lia); rwa [sub i h1] at this
    have f5:∀ i,lo+l<=i->i<lo+k->R rk (arrOf st2) (lo+k)<R rk (arrOf st2) i:=λi h1 h2=>by have:=a5 (i - lo) (by lia) (by lia); rwa [sub i (by lia)] at this
    repeat' split
    all_goals first
     | (exfalso; lia)
     | exact OL _
     | exact f4 _ (by lia) (by lia)
     | exact Po (f5 _ (by lia) (by lia))
     | exact hs' _ _ (by lia) (by lia) (by lia)
theorem m7:∀ (l:List Keyed) (k sa:Nat) (A:Array Keyed),sa+k+l.length<=A.size->((l.zipIdx k).foldl (λa (x:Keyed×Nat)=>a.setIfInBounds (sa+x.2) x.1) A).size=A.size /\
 ∀ i:Nat,((l.zipIdx k).foldl (λa (x:Keyed×Nat)=>a.setIfInBounds (sa+x.2) x.1) A)[i]?=if sa+k<=i/\i<sa+k+l.length then l[i - (sa+k)]? else A[i]?
 | [],k,sa,A,h=>⟨rfl,λi=>by rw [if_neg (by simp only [OZ]; lia)]; rfl⟩
 | x::l,k,sa,A,h=>by
  rw [Oe] at h
  obtain ⟨h1,h2⟩:=m7 l (k+1) sa (A.setIfInBounds (sa+k) x) (by rw [Array.size_setIfInBounds]; lia)
  rw [List.zipIdx_cons,OT]
  refine ⟨by rw [h1,Array.size_setIfInBounds],λi=>?_⟩
  rw [h2 i,Oe]
  by_cases c1:sa+(k+1)<=i/\i<sa+(k+1)+l.length
  ·rw [if_pos c1,if_pos (by lia),show i - (sa+k)=i - (sa+(k+1))+1 by lia,List.getElem?_cons_succ]
  ·rw [if_neg c1]
   by_cases c2:i=sa+k
   ·subst c2
    rw [if_pos (by lia),Nat.sub_self,List.getElem?_cons_zero,Array.getElem?_setIfInBounds_self_of_lt (by lia)]
   ·rw [if_neg (by lia),Array.getElem?_setIfInBounds_ne (by lia)]
end
noncomputable def gP:Nat->StateT SortSt Sem Bool:=sortPriv% PySem.Builtin.mergeAt
local macro_rules | `(tactic| walk_at "dl mergeAt")=>do
 let i:=Qf (P4 `PySem.Builtin.List.W1All `PySem.Builtin.mergeAt)
 `(tactic| delta $i)
section
variable {st:SortSt}
theorem Di (h:Q ⟨⟩ st1):wpS M A E s (set st1:StateT SortSt Sem PUnit) Q st:=by
 unfold wpS; rw [StateT.run_set]; exact Nv ⟨rfl,h⟩
theorem wN (hC:ir prog w A s κ rk L) (hk:kindOf st=κ) (hkey:key∈L) (mx:∀ (i:Nat) (p:Keyed),xs[i]?=some p->p∈L) (hn:base+n<=xs.size) (us:Seg rk xs base (base+n)) (hh:hint<n)
 (h:∀ k,k<=n->(∀ i,base<=i->i<base+k->R rk xs i<=rk key)->(∀ i,base+k<=i->i<base+n->rk key<R rk xs i)->Q (some k) st):wpS (model prog w) A E s (cQ false key xs base n hint) Q st:=by
 obtain ⟨k,h1,h2⟩:=kU (λi=>R rk xs (base+i)) (rk key) n λi j hij hj=>us _ _ (by lia) (by lia) (by lia)
 refine fk hC hk hkey (λi hi=>⟨xs[base+i]'(by lia),N2 _,mx _ _ (N2 _)⟩) (λi hi=>by simp only [Od,if_false]; exact h2 i hi) h1 hh (h k h1 (λi hi hk=>?_) λi hi hk=>?_)
 ·have:=(h2 (i - base) (by lia)).mpr (by lia)
  rwa [show base+(i - base)=i by lia] at this
 ·have:=mt (h2 (i - base) (by lia)).mp (by lia)
  rw [show base+(i - base)=i by lia] at this
  lia
theorem wO (hC:ir prog w A s κ rk L) (hk:kindOf st=κ) (hkey:key∈L) (mx:∀ (i:Nat) (p:Keyed),xs[i]?=some p->p∈L) (hn:base+n<=xs.size) (us:Seg rk xs base (base+n)) (hh:hint<n)
 (h:∀ k,k<=n->(∀ i,base<=i->i<base+k->R rk xs i<rk key)->(∀ i,base+k<=i->i<base+n->rk key<=R rk xs i)->Q (some k) st):wpS (model prog w) A E s (cQ true key xs base n hint) Q st:=by
 obtain ⟨k,h1,h2⟩:=kW (λi=>R rk xs (base+i)) (rk key) n λi j hij hj=>us _ _ (by lia) (by lia) (by lia)
 refine fk hC hk hkey (λi hi=>⟨xs[base+i]'(by lia),N2 _,mx _ _ (N2 _)⟩) (λi hi=>by simp only [if_true]; exact h2 i hi) h1 hh (h k h1 (λi hi hk=>?_) λi hi hk=>?_)
 ·have:=(h2 (i - base) (by lia)).mpr (by lia)
  rwa [show base+(i - base)=i by lia] at this
 ·have:=mt (h2 (i - base) (by lia)).mp (by lia)
  rw [show base+(i - base)=i by lia] at this
  lia
theorem eB {xs:Array Keyed} (h:(xs.extract i j)[m]?=some p):xs[i+m]?=some p/\i+m<j:=by
 rw [Rz] at h
 split at h
 ·exact ⟨h,by lia⟩
 ·cases h
theorem uY {lo hi i j:Nat} (h:Seg rk xs lo hi) (h1:lo<=i) (h2:j<=hi):Up rk (xs.extract i j):=λa b p q hab e1 e2=>by
 obtain ⟨f1,g1⟩:=eB e1
 obtain ⟨f2,g2⟩:=eB e2
 have:=h (i+a) (i+b) (by lia) (by lia) (by lia)
 rwa [dI f1,dI f2] at this
theorem qB (hC:ir prog w A s κ rk L) (hB:Bs κ L st) (p1:(pendingOf st)[i]?=some (sa,na,pw)) (p2:(pendingOf st)[i+1]?=some (sa+na,nb,pw2)) (h1:1<=na) (h2:1<=nb) (hz:sa+na+nb<=L.length)
 (s1:Seg rk (arrOf st) sa (sa+na)) (s2:Seg rk (arrOf st) (sa+na) (sa+na+nb))
 (h:∀ st',Bs κ L st'->(∀ j,j<sa\/sa+na+nb<=j->(arrOf st')[j]?=(arrOf st)[j]?)->pendingOf st'=((pendingOf st).setIfInBounds i (sa,na+nb,pw)).eraseIdxIfInBounds (i+1)->Seg rk (arrOf st') sa (sa+na+nb)->Q true st') :
 wpS (model prog w) A E s (gP i) Q st:=by
 unfold gP
 walk_at "dl mergeAt"
 dsimp only
 refine Nz (OX ?_)
 rw [p1,p2]
 dsimp only
 have hsz:=hB.size
 have mL:∀ (i:Nat) (p:Keyed),(arrOf st)[i]?=some p->p∈L:=λi p e=>hB.perm.mem_iff.mp (by
  obtain ⟨h1,h2⟩:=Qn.mp e
  rw [<- h2,SQ]; exact Tt _)
 refine Nz (Di ?_)
 obtain ⟨key,ek,hkL⟩:=hB.at (i:=sa+na) (by lia)
 refine Nz (aS ek ?_)
 have rkey:R rk (arrOf st) (sa+na)=rk key:=dI ek
 refine Nz (wN hC hB.kind hkL mL (by show _<=(arrOf st).size; lia) s1 (by lia) λk k1 k2 k3=>?_)
 dsimp only
 by_cases e0:na - k=0
 ·rw [if_pos (by simpa using e0)]
  refine NB (h _ ⟨hB.perm,hB.kind,hB.failed⟩ (λ_ _=>rfl) rfl λa b z1 z2 z3=>?_)
  by_cases hb:b<sa+na
  ·exact s1 a b z1 z2 hb
  ·by_cases ha:sa+na<=a
   ·exact s2 a b ha z2 z3
   ·refine N9 (k2 a z1 (by lia)) ?_
    rw [<- rkey]; exact s2 (sa+na) b (Ny _) (by lia) z3
 rw [if_neg (by simpa using e0)]
 obtain ⟨key2,ek2,hk2L⟩:=hB.at (i:=sa+k+(na - k) - 1) (by lia)
 have rkey2:R rk (arrOf st) (sa+na - 1)=rk key2:=by rw [<- dI (rk:=rk) ek2]; congr 1; lia
 refine Nz (aS ek2 ?_)
 refine Nz (wO hC (by exact hB.kind) hk2L mL (by show _<=(arrOf st).size; lia) s2 (by lia) λm m1 m2 m3=>?_)
 dsimp only
 by_cases e1:m=0
 ·exfalso
  have a1:=m3 (sa+na) (by lia) (by lia)
  have a2:=k3 (sa+na - 1) (by lia) (by lia)
  rw [rkey2] at a2; rw [rkey] at a1; lia
 rw [if_neg (by simpa using e1)]
 have mx:∀ (i:Nat) (p:Keyed),((arrOf st).extract (sa+k) (sa+na))[i]?=some p->p∈L:=λi p e=>mL _ p (eB e).1
 have my:∀ (i:Nat) (p:Keyed),((arrOf st).extract (sa+na) (sa+na+m))[i]?=some p->p∈L:=λi p e=>mL _ p (eB e).1
 have ux:Up rk ((arrOf st).extract (sa+k) (sa+na)):=uY s1 (by lia) (Ny _)
 have uy:Up rk ((arrOf st).extract (sa+na) (sa+na+m)):=uY s2 (Ny _) (by lia)
 have zx:((arrOf st).extract (sa+k) (sa+na)).size=na - k:=by rw [Array.size_extract]; lia
 have zy:((arrOf st).extract (sa+na) (sa+na+m)).size=m:=by rw [Array.size_extract]; lia
 have h0:∀ p q,((arrOf st).extract (sa+k) (sa+na))[0]?=some p->((arrOf st).extract (sa+na) (sa+na+m))[0]?=some q->rk q<=rk p:=λp q e2 e3=>by
  obtain ⟨f1,g1⟩:=eB e2
  obtain ⟨f2,g2⟩:=eB e3
  have a1:=k3 (sa+k+0) (by lia) (by lia)
  rw [dI f1] at a1
  have a2:rk q=rk key:=by rw [<- rkey,<- dI (rk:=rk) f2]; rfl
  lia
 have hl:∀ (j:Nat) (p q:Keyed),((arrOf st).extract (sa+k) (sa+na))[((arrOf st).extract (sa+k) (sa+na)).size - 1]?=some p->((arrOf st).extract (sa+na) (sa+na+m))[j]?=some q->rk q<=rk p:=λj p q e2 e3=>by
  rw [zx] at e2
  obtain ⟨f1,g1⟩:=eB e2
  obtain ⟨f2,g2⟩:=eB e3
  have a1:=m2 (sa+na+j) (by lia) (by lia)
  rw [dI f2] at a1
  have a2:rk p=rk key2:=by rw [<- rkey2,<- dI (rk:=rk) f1]; congr 1; lia
  lia
 have fin:∀ (r:Array Keyed) (st2:SortSt),Res rk ((arrOf st).extract (sa+k) (sa+na)) ((arrOf st).extract (sa+na) (sa+na+m)) r->kindOf st2=kindOf st->arrOf st2=arrOf st->pendingOf st2=((pendingOf st).setIfInBounds i (sa,na+nb,pw)).eraseIdxIfInBounds (i+1)->failedOf st2=failedOf st ->
  Q true (setArr st2 (Rk (λa (x:Keyed×Nat)=>a.setIfInBounds (sa+k+x.2) x.1) (arrOf st2) r.toList.zipIdx)):=λr st2 hr e2 e3 e4 e5=>by
  have hlen:r.toList.length=na - k+m:=by
   have:=hr.1.length_eq
   simp only [N5,Oo,zx,zy] at this |-
   exact this
  obtain ⟨w1,w2⟩:=m7 r.toList 0 (sa+k) (arrOf st) (by lia)
  generalize hW:Rk (λa (x:Keyed×Nat)=>a.setIfInBounds (sa+k+x.2) x.1) (arrOf st) r.toList.zipIdx=W at w1 w2
  rw [e3,hW]
  have rW:∀ i,sa+k<=i->i<sa+na+m->R rk W i=R rk r (i - (sa+k)):=λi z1 z2=>by
   refine ck ?_
   rw [w2,if_pos (by lia),Oj]; rfl
  have rO:∀ i,(i<sa+k\/sa+na+m<=i)->R rk W i=R rk (arrOf st) i:=λi z=>by
   refine ck ?_
   rw [w2,if_neg (by lia)]
  have elt:∀ i,sa+k<=i->i<sa+na+m->∃ t,sa+k<=t/\t<sa+na+m/\R rk W i=R rk (arrOf st) t:=λi z1 z2=>by
   have hi:i - (sa+k)<r.size:=by rw [<- Oo]; lia
   have e6:r[i - (sa+k)]?=some r[i - (sa+k)]:=N2 hi
   have hm:r[i - (sa+k)]∈r.toList:=by rw [SQ]; exact Tt _
   rw [rW i z1 z2,dI e6]
   rcases N3.mp (hr.1.mem_iff.mp hm) with z | z
   ·obtain ⟨t,t1,t2,t3⟩:=uP z
    exact ⟨t,t1,by lia,(dI t3).symm⟩
   ·obtain ⟨t,t1,t2,t3⟩:=uP z
    exact ⟨t,by lia,by lia,(dI t3).symm⟩
  have ur:=G6 hr.2
  refine h _ ⟨?_,e2.trans hB.kind,e5.trans hB.failed⟩ (λj hj=>?_) e4 λa b z1 z2 z3=>?_
  ·
   refine List.Perm.trans ?_ hB.perm
   have eW:W.toList=(arrOf st).toList.take (sa+k)++r.toList++(arrOf st).toList.drop (sa+na+m):=by
    apply RS
    intro j
    rw [Oj,w2,N7,QM,QM,Ow,Qx,QY (by rw [Oo]; lia)]
    by_cases c1:j<sa+k
    ·rw [if_neg (by lia),if_pos c1,Rt c1,Oj]
    ·rw [if_neg c1]
     by_cases c2:j - (sa+k)<r.toList.length
     ·rw [if_pos (by lia),if_pos c2]; rfl
     ·rw [if_neg (by lia),if_neg c2,Oj]; congr 1; lia
   have eA:(arrOf st).toList=(arrOf st).toList.take (sa+k)++(((arrOf st).extract (sa+k) (sa+na)).toList++((arrOf st).extract (sa+na) (sa+na+m)).toList)++(arrOf st).toList.drop (sa+na+m):=by
    apply RS
    intro j
    rw [N7,N7,QM,QM,QM,Ow,Oo,Oo,Oo,zx,zy,Qx,QY (by lia)]
    by_cases c1:j<sa+k
    ·rw [if_pos c1,Rt c1]
    ·rw [if_neg c1]
     by_cases c2:j - (sa+k)<na - k
     ·rw [if_pos c2,Oj,Oj,Rz,if_pos (by lia)]; congr 1; lia
     ·rw [if_neg c2]
      by_cases c3:j - (sa+k) - (na - k)<m
      ·rw [if_pos c3,Oj,Oj,Rz,if_pos (by lia)]; congr 1; lia
      ·rw [if_neg c3]; congr 1; lia
   show W.toList.Perm _
   rw [eW]
   conv=>rhs; rw [eA]
   exact (Qq _ hr.1).append_right _
  ·show W[j]?=_
   rw [w2,if_neg (by lia)]
  ·show R rk W a<=R rk W b
   have kk:∀ t,sa+na<=t->t<sa+na+nb->rk key<=R rk (arrOf st) t:=λt t1 t2=>by rw [<- rkey]; exact s2 _ t (Ny _) t1 t2
   have kk2:∀ t,sa<=t->t<sa+na->R rk (arrOf st) t<=rk key2:=λt t1 t2=>by rw [<- rkey2]; exact s1 t _ t1 (by lia) (by lia)
   by_cases c1:a<sa+k
   ·rw [rO a (.inl c1)]
    have la:=k2 a z1 c1
    by_cases d1:b<sa+k
    ·rw [rO b (.inl d1)]; exact s1 a b z1 z2 (by lia)
    ·by_cases d2:b<sa+na+m
     ·obtain ⟨t,t1,t2,t3⟩:=elt b (by lia) d2
      rw [t3]
      by_cases d3:t<sa+na
      ·exact s1 a t z1 (by lia) d3
      ·exact N9 la (kk t (by lia) (by lia))
     ·rw [rO b (.inr (by lia))]
      exact N9 la (kk b (by lia) z3)
   ·by_cases c2:a<sa+na+m
    ·by_cases d2:b<sa+na+m
     ·rw [rW a (by lia) c2,rW b (by lia) d2]
      have f1:r[a - (sa+k)]?=some (r[a - (sa+k)]'(by rw [<- Oo]; lia)):=N2 _
      have f2:r[b - (sa+k)]?=some (r[b - (sa+k)]'(by rw [<- Oo]; lia)):=N2 _
      rw [dI f1,dI f2]
      exact ur _ _ _ _ (by lia) f1 f2
     ·obtain ⟨t,t1,t2,t3⟩:=elt a (by lia) c2
      rw [t3,rO b (.inr (by lia))]
      by_cases d3:t<sa+na
      ·exact N9 (kk2 t (by lia) d3) (m3 b (by lia) z3)
      ·exact s2 t b (by lia) (by lia) z3
    ·rw [rO a (.inr (by lia)),rO b (.inr (by lia))]
     exact s2 a b (by lia) z2 z3
 have post:∀ (r:Array Keyed) (st2:SortSt),failedOf st2=failedOf st->(failedOf st2).isNone=true:=λr st2 e=>by rw [e,hB.failed]; rfl
 by_cases hle:na - k<=m
 ·rw [if_pos hle]
  refine Nz (qx hC (by exact hB.kind) mx my ux uy (by show 1<=((arrOf st).extract (sa+k) (sa+na)).size; lia) (by show 1<=((arrOf st).extract (sa+na) (sa+na+m)).size; lia) h0 hl λr st2 hr hK=>?_)
  refine Nz (O6 (Nz (OX ?_)))
  have e9:failedOf st2=none:=hK.f.trans hB.failed
  have z:=fin r st2 hr hK.k hK.a hK.p hK.f
  refine NB ?_
  show Q (failedOf st2).isNone _
  rw [e9]; exact z
 ·rw [if_neg hle]
  refine Nz (qA hC (by exact hB.kind) mx my ux uy (by show 1<=((arrOf st).extract (sa+k) (sa+na)).size; lia) (by show 1<=((arrOf st).extract (sa+na) (sa+na+m)).size; lia) h0 hl λr st2 hr hK=>?_)
  refine Nz (O6 (Nz (OX ?_)))
  have e9:failedOf st2=none:=hK.f.trans hB.failed
  have z:=fin r st2 hr hK.k hK.a hK.p hK.f
  refine NB ?_
  show Q (failedOf st2).isNone _
  rw [e9]; exact z
end
noncomputable abbrev Kd:Nat->Nat->Nat->Nat:=sortPriv% PySem.Builtin.minRun
noncomputable def qC:StateT SortSt Sem Unit:=sortPriv% PySem.Builtin.sortRuns
local macro_rules | `(tactic| walk_at "dl sortRuns")=>do
 let i:=Qf (P4 `PySem.Builtin.List.W1All `PySem.Builtin.sortRuns)
 `(tactic| delta $i)
noncomputable def eV (rk:Keyed->Int) (xs:Array Keyed):Nat->List (Nat×Nat×Nat)->Nat->Prop
 | a,[],b=>a=b
 | a,p::r,b=>p.1=a/\1<=p.2.1/\Seg rk xs a (a+p.2.1)/\eV rk xs (a+p.2.1) r b
theorem eV.le:∀ {ps:List (Nat×Nat×Nat)} {a b:Nat},eV rk xs a ps b->a+ps.length<=b
 | [],a,b,h=>by have:a=b:=h; simp; lia
 | p::r,a,b,h=>by
  obtain ⟨_,h1,_,h2⟩:=h
  have:=h2.le
  rw [Oe]; lia
theorem eV.app:∀ {ps qs:List (Nat×Nat×Nat)} {a b:Nat},eV rk xs a (ps++qs) b↔∃ m,eV rk xs a ps m/\eV rk xs m qs b
 | [],qs,a,b=>⟨λh=>⟨a,rfl,h⟩,λ⟨m,h1,h2⟩=>by have:a=m:=h1; subst this; exact h2⟩
 | p::r,qs,a,b=>by
  constructor
  ·rintro ⟨h1,h2,h3,h4⟩
   obtain ⟨m,h5,h6⟩:=eV.app.mp h4
   exact ⟨m,⟨h1,h2,h3,h5⟩,h6⟩
  ·rintro ⟨m,⟨h1,h2,h3,h5⟩,h6⟩
   exact ⟨h1,h2,h3,eV.app.mpr ⟨m,h5,h6⟩⟩
theorem eV.congr:∀ {ps:List (Nat×Nat×Nat)} {a b:Nat},eV rk xs a ps b->(∀ i,a<=i->i<b->R rk ys i=R rk xs i)->eV rk ys a ps b
 | [],a,b,h,_=>h
 | p::r,a,b,h,e=>by
  obtain ⟨h1,h2,h3,h4⟩:=h
  have hl:=h4.le
  refine ⟨h1,h2,λi j z1 z2 z3=>?_,h4.congr λi z1 z2=>e i (by lia) z2⟩
  rw [e i z1 (by lia),e j (by lia) (by lia)]
  exact h3 i j z1 z2 z3
theorem eV.mod (f) (hf:∀ p,(f p).1=p.1/\(f p).2.1=p.2.1):∀ {ps:List (Nat×Nat×Nat)} {a b:Nat} (i:Nat),eV rk xs a ps b->eV rk xs a (ps.modify i f) b
 | [],a,b,i,h=>by simpa using h
 | p::r,a,b,0,h=>by
  obtain ⟨h1,h2,h3,h4⟩:=h
  rw [List.modify_zero_cons]
  refine ⟨(hf p).1.trans h1,by rw [(hf p).2]; exact h2,by rw [(hf p).2]; exact h3,by rw [(hf p).2]; exact h4⟩
 | p::r,a,b,i+1,h=>by
  obtain ⟨h1,h2,h3,h4⟩:=h
  rw [List.modify_succ_cons]
  exact ⟨h1,h2,h3,h4.mod f hf i⟩
theorem eV.two:∀ {ps:List (Nat×Nat×Nat)} {a b:Nat} (i:Nat),eV rk xs a ps b->i+1<ps.length->∃ s n pw m pw2,ps[i]?=some (s,n,pw)/\ps[i+1]?=some (s+n,m,pw2)/\1<=n/\1<=m/\a<=s/\s+n+m<=b/\Seg rk xs s (s+n)/\Seg rk xs (s+n) (s+n+m) /\
 ∀ ys:Array Keyed,(∀ j,j<s\/s+n+m<=j->R rk ys j=R rk xs j)->Seg rk ys s (s+n+m)->eV rk ys a ((ps.set i (s,n+m,pw)).eraseIdx (i+1)) b
 | [],a,b,i,h,hi=>by simp at hi
 | [p],a,b,i,h,hi=>by simp at hi
 | p::q::r,a,b,0,h,hi=>by
  obtain ⟨h1,h2,h3,h4,h5,h6,h7⟩:=h
  obtain ⟨s,n,pw⟩:=p
  obtain ⟨s',m,pw2⟩:=q
  dsimp only at h1 h2 h3 h4 h5 h6 h7
  subst h1; subst h4
  have hl:=h7.le
  refine ⟨s,n,pw,m,pw2,rfl,rfl,h2,h5,Ny _,by lia,h3,h6,λys e hs=>?_⟩
  refine ⟨rfl,by dsimp only; lia,by dsimp only; rw [<- Nat.add_assoc]; exact hs,?_⟩
  dsimp only
  rw [<- Nat.add_assoc]
  exact h7.congr λi z1 z2=>e i (.inr z1)
 | p::q::r,a,b,i+1,h,hi=>by
  obtain ⟨h1,h2,h3,h4⟩:=h
  obtain ⟨s,n,pw,m,pw2,e1,e2,a1,a2,a3,a4,a5,a6,a7⟩:=h4.two i (by simpa using hi)
  refine ⟨s,n,pw,m,pw2,by simpa using e1,by simpa using e2,a1,a2,by lia,a4,a5,a6,λys e hs=>?_⟩
  rw [List.set_cons_succ,List.eraseIdx_cons_succ]
  refine ⟨h1,h2,λj j' z1 z2 z3=>?_,a7 ys e hs⟩
  rw [e j (.inl (by lia)),e j' (.inl (by lia))]
  exact h3 j j' z1 z2 z3
section
variable {st:SortSt}
theorem gQ (hC:ir prog w A s κ rk L) (hB:Bs κ L st) (hc:eV rk (arrOf st) 0 (pendingOf st).toList b) (hb:b<=L.length) (hi:i+1<(pendingOf st).size)
 (h:∀ st',Bs κ L st'->eV rk (arrOf st') 0 (pendingOf st').toList b->(∀ j,b<=j->(arrOf st')[j]?=(arrOf st)[j]?)->(pendingOf st').size+1=(pendingOf st).size->Q true st'):wpS (model prog w) A E s (gP i) Q st:=by
 obtain ⟨sa,n,pw,m,pw2,e1,e2,a1,a2,a3,a4,a5,a6,a7⟩:=hc.two i (by rw [Oo]; exact hi)
 rw [Oj] at e1 e2
 refine qB hC hB e1 e2 a1 a2 (by lia) a5 a6 λst' b1 b2 b3 b4=>h st' b1 ?_ (λj hj=>b2 j (.inr (by lia))) ?_
 ·rw [b3,TV,Array.toList_setIfInBounds]
  exact a7 _ (λj hj=>ck (b2 j hj)) b4
 ·rw [b3,<- Oo,TV,Array.toList_setIfInBounds,List.length_eraseIdx,List.length_set,Oo,if_pos hi]; lia
theorem wpS_sortRuns (hC:ir prog w A s κ rk L) (hB:Bs κ L st) (hp:pendingOf st= #[]) (h:∀ st',Bs κ L st'->Seg rk (arrOf st') 0 L.length->Q () st'):wpS (model prog w) A E s qC Q st:=by
 unfold qC
 walk_at "dl sortRuns"
 dsimp only
 refine Nz (OX ?_)
 have hsz:=hB.size
 rw [hsz]
 obtain ⟨mr,hmr⟩:∃ mr,Kd L.length L.length 0=mr:=⟨_,rfl⟩
 delta Kd at hmr
 rw [hmr]
 refine Nz (Ob (OB (I:=λx c st'=>c.1=none/\Bs κ L st'/\eV rk (arrOf st') 0 (pendingOf st').toList c.2/\c.2<=L.length/\(x<=c.2\/L.length<=c.2)) (Q:=λc st'=>c.1=none/\Bs κ L st'/\eV rk (arrOf st') 0 (pendingOf st').toList L.length) ?step ?fin ?init) ?post)
 case init=>exact ⟨rfl,hB,by rw [hp]; rfl,N1 _,.inl (Ny _)⟩
 case fin =>
  rintro ⟨c,lo⟩ st' ⟨rfl,jy,hC',h1,h2⟩
  dsimp only at hC' h1 h2 |-
  have e:lo=L.length:=by
   rcases h2 with z | z
   ·lia
   ·lia
  subst e
  exact ⟨rfl,jy,hC'⟩
 case step =>
  rintro x ⟨c,lo⟩ st' _ hx ⟨rfl,jy,hC',h1,h2⟩
  dsimp only at hC' h1 h2 |-
  by_cases hge:lo>=L.length
  ·rw [if_pos hge]
   have e:lo=L.length:=by lia
   subst e
   exact NB ⟨rfl,jy,hC'⟩
  rw [if_neg hge]
  refine Nz (show wpS _ _ _ _ (countRun' lo (L.length - lo)) _ _ from wpS_countRun hC jy (by lia) (by lia) λm st1 hB1 hM1 m1 m2 ms=>?_)
  have hC1:eV rk (arrOf st1) 0 (pendingOf st1).toList lo:=by
   rw [hM1.pend]; exact hC'.congr λi _ z=>ck (hM1.out i (.inl z))
  dsimp only
  by_cases hmin:m<mr
  ·rw [if_pos (show m<_ from hmin)]
   refine Nz (PX (OO ⟨rfl,?_⟩))
   have hf1:m<=min (L.length - lo) mr:=by lia
   have hf2:lo+min (L.length - lo) mr<=L.length:=by lia
   refine Nz (show wpS _ _ _ _ (binarySort' lo (min (L.length - lo) mr) m) _ _ from wpS_binarySort hC hB1 hf2 hf1 ms λst2 hB2 hM2 hS2=>?_)
   have hC2:eV rk (arrOf st2) 0 (pendingOf st2).toList lo:=by
    rw [hM2.pend]; exact hC1.congr λi _ z=>ck (hM2.out i (.inl z))
   simp only [Qe,Od,if_false]
   generalize hF:min (L.length - lo) mr=F at hf1 hf2 hS2
   have hF':=hF
   clear hM2 hM1
   refine Nz (OX ?_)
   rcases hbk:(pendingOf st2).back? with _ | ⟨q1,q2,q3⟩
   ·dsimp only
    refine Nz (O6 (NB ⟨rfl,⟨hB2.perm,hB2.kind,hB2.failed⟩,?_,by dsimp only; lia,by dsimp only; lia⟩))
    show eV rk (arrOf st2) 0 ((pendingOf st2).push (lo,F,0)).toList (lo+(F))
    rw [Oc]
    exact eV.app.mpr ⟨lo,hC2,rfl,by dsimp only; lia,hS2,rfl⟩
   ·dsimp only
    refine Nz (Ob (OB (I:=λy c st'=>c.1=none/\Bs κ L st'/\eV rk (arrOf st') 0 (pendingOf st').toList lo/\Seg rk (arrOf st') lo (lo+(F))) (Q:=λc st'=>c.1=none/\Bs κ L st'/\eV rk (arrOf st') 0 (pendingOf st').toList lo/\Seg rk (arrOf st') lo (lo+(F))) ?_ (λ_ _ z=>z) ⟨rfl,hB2,hC2,hS2⟩) ?_)
    ·rintro y ⟨c,u⟩ st3 _ hy ⟨rfl,tQ,xU,BP⟩
     refine Nz (OX ?_)
     by_cases hs1:(pendingOf st3).size>1
     ·rw [if_pos hs1]
      obtain ⟨⟨r1,r2,r3⟩,er⟩:∃ t,(pendingOf st3)[(pendingOf st3).size - 2]?=some t:=⟨_,N2 (show (pendingOf st3).size - 2<(pendingOf st3).size by lia)⟩
      rw [er]
      dsimp only
      split
      ·exact NB ⟨rfl,tQ,xU,BP⟩
      ·refine Nz (show wpS _ _ _ _ (gP ((pendingOf st3).size - 2)) _ _ from gQ hC tQ xU (by lia) (by lia) λst4 hB4 hC4 ho4 hz4=>?_)
       simp only [Qe,Od,if_false]
       exact NB ⟨rfl,hB4,hC4,λa b z1 z2 z3=>by rw [ck (ho4 a z1),ck (ho4 b (by lia))]; exact BP a b z1 z2 z3⟩
     ·rw [if_neg hs1]
      exact NB ⟨rfl,tQ,xU,BP⟩
    ·rintro ⟨c,u⟩ st3 ⟨hc,tQ,xU,BP⟩
     dsimp only at hc |-
     rw [hc]
     dsimp only
     refine Nz (O6 (Nz (O6 (NB ⟨rfl,⟨tQ.perm,tQ.kind,tQ.failed⟩,?_,by dsimp only; lia,by dsimp only; lia⟩))))
     show eV rk (arrOf st3) 0 (((pendingOf st3).modify ((pendingOf st3).size - 1) _).push (lo,F,0)).toList (lo+(F))
     rw [Oc,Array.toList_modify]
     refine eV.app.mpr ⟨lo,?_,rfl,by dsimp only; lia,BP,rfl⟩
     refine eV.mod _ (λp=>?_) _ xU
     exact ⟨rfl,rfl⟩
  ·rw [if_neg (show ¬ m<_ from hmin)]
   refine Nz (OX ?_)
   rcases hbk:(pendingOf st1).back? with _ | ⟨q1,q2,q3⟩
   ·dsimp only
    refine Nz (O6 (NB ⟨rfl,⟨hB1.perm,hB1.kind,hB1.failed⟩,?_,by dsimp only; lia,by dsimp only; lia⟩))
    show eV rk (arrOf st1) 0 ((pendingOf st1).push (lo,m,0)).toList (lo+(m))
    rw [Oc]
    exact eV.app.mpr ⟨lo,hC1,rfl,by dsimp only; lia,ms,rfl⟩
   ·dsimp only
    refine Nz (Ob (OB (I:=λy c st'=>c.1=none/\Bs κ L st'/\eV rk (arrOf st') 0 (pendingOf st').toList lo/\Seg rk (arrOf st') lo (lo+(m))) (Q:=λc st'=>c.1=none/\Bs κ L st'/\eV rk (arrOf st') 0 (pendingOf st').toList lo/\Seg rk (arrOf st') lo (lo+(m))) ?_ (λ_ _ z=>z) ⟨rfl,hB1,hC1,ms⟩) ?_)
    ·rintro y ⟨c,u⟩ st3 _ hy ⟨rfl,tQ,xU,BP⟩
     refine Nz (OX ?_)
     by_cases hs1:(pendingOf st3).size>1
     ·rw [if_pos hs1]
      obtain ⟨⟨r1,r2,r3⟩,er⟩:∃ t,(pendingOf st3)[(pendingOf st3).size - 2]?=some t:=⟨_,N2 (show (pendingOf st3).size - 2<(pendingOf st3).size by lia)⟩
      rw [er]
      dsimp only
      split
      ·exact NB ⟨rfl,tQ,xU,BP⟩
      ·refine Nz (show wpS _ _ _ _ (gP ((pendingOf st3).size - 2)) _ _ from gQ hC tQ xU (by lia) (by lia) λst4 hB4 hC4 ho4 hz4=>?_)
       simp only [Qe,Od,if_false]
       exact NB ⟨rfl,hB4,hC4,λa b z1 z2 z3=>by rw [ck (ho4 a z1),ck (ho4 b (by lia))]; exact BP a b z1 z2 z3⟩
     ·rw [if_neg hs1]
      exact NB ⟨rfl,tQ,xU,BP⟩
    ·rintro ⟨c,u⟩ st3 ⟨hc,tQ,xU,BP⟩
     dsimp only at hc |-
     rw [hc]
     dsimp only
     refine Nz (O6 (Nz (O6 (NB ⟨rfl,⟨tQ.perm,tQ.kind,tQ.failed⟩,?_,by dsimp only; lia,by dsimp only; lia⟩))))
     show eV rk (arrOf st3) 0 (((pendingOf st3).modify ((pendingOf st3).size - 1) _).push (lo,m,0)).toList (lo+(m))
     rw [Oc,Array.toList_modify]
     refine eV.app.mpr ⟨lo,?_,rfl,by dsimp only; lia,BP,rfl⟩
     refine eV.mod _ (λp=>?_) _ xU
     exact ⟨rfl,rfl⟩
 case post =>
  rintro ⟨c,lo⟩ st' ⟨hc,jy,hC'⟩
  dsimp only at hc |-
  rw [hc]
  dsimp only
  have hl0:=hC'.le
  rw [Oo] at hl0
  refine Nz (Ob (OB (I:=λx c st2=>c.1=none/\Bs κ L st2/\eV rk (arrOf st2) 0 (pendingOf st2).toList L.length/\((pendingOf st2).size<=1\/(pendingOf st2).size+x<=L.length)) (Q:=λc st2=>c.1=none/\Bs κ L st2/\eV rk (arrOf st2) 0 (pendingOf st2).toList L.length/\(pendingOf st2).size<=1) ?mstep ?mfin ⟨rfl,jy,hC',.inr (by lia)⟩) ?mpost)
  case mfin =>
   rintro c2 st2 ⟨a1,a2,a3,a4⟩
   exact ⟨a1,a2,a3,by lia⟩
  case mpost =>
   rintro ⟨c2,u⟩ st2 ⟨a1,a2,a3,a4⟩
   dsimp only at a1 |-
   rw [a1]
   refine NB (h st2 a2 ?_)
   rw [<- Oo] at a4
   match e:(pendingOf st2).toList,a4 with
   | [],_ =>
    rw [e] at a3
    have z:0=L.length:=a3
    intro i j _ _ hj; lia
   | [p],_ =>
    rw [e] at a3
    obtain ⟨b1,b2,b3,b4⟩:=a3
    have z:0+p.2.1=L.length:=b4
    rw [<- z]; exact b3
  case mstep =>
   rintro x ⟨c2,u⟩ st2 _ hx ⟨a1,a2,a3,a4⟩
   refine Nz (OX ?_)
   by_cases hs1:(pendingOf st2).size<=1
   ·rw [if_pos hs1]
    exact NB ⟨rfl,a2,a3,hs1⟩
   ·rw [if_neg hs1]
    have key:∀ i,i+1<(pendingOf st2).size->wpS (model prog w) A E s (gP i) (λr st3=>r=true/\Bs κ L st3/\eV rk (arrOf st3) 0 (pendingOf st3).toList L.length/\(pendingOf st3).size+1=(pendingOf st2).size) st2:=λi hi =>
     gQ hC a2 a3 (Ny _) hi λst3 b1 b2 _ b3=>⟨rfl,b1,b2,b3⟩
    refine Nz (Ob (show wpS _ _ _ _ (gP _) _ _ from key _ ?_) λr st3 hr=>?_)
    ·unfold pendingOf at hs1 |-
     repeat' split
     all_goals lia
    ·obtain ⟨rfl,b1,b2,b3⟩:=hr
     simp only [Qe,Od,if_false]
     exact NB ⟨rfl,b1,b2,.inr (by lia)⟩
end
end SR
namespace SR
open PySem PyProof.Rows
noncomputable def dup (vs:List Value):List Keyed:=vs.map λv=>(v,v)
theorem uZ (vs):(vs.toArray.zip vs.toArray).toList=dup vs:=by
 unfold dup
 rw [Array.toList_zip]
 induction vs with
 | nil=>rfl
 | cons v vs ih=>simpa using ih
def Ord (rk:Keyed->Int) (b:Bool) (out:List Value):Prop:=out.Pairwise λx y=>if b then rk (y,y)<=rk (x,x) else rk (x,x)<=rk (y,y)
theorem qD {xs:Array Keyed} (h:xs.toList.Perm (dup vs)):(xs.toList.map (·.2)).Perm vs/\∀ p∈xs.toList,p=(p.2,p.2):=by
 refine ⟨?_,λp hp=>?_⟩
 ·have q:=h.map (·.2)
  have e:(dup vs).map (·.2)=vs:=by
   unfold dup
   rw [Og]
   exact List.map_id' vs
  rwa [e] at q
 ·have:=h.mem_iff.mp hp
  simp only [dup,Of] at this
  obtain ⟨v,_,rfl⟩:=this
  rfl
theorem Dj {st:SortSt} (hp:(arrOf st).toList.Perm (dup vs)) (hs:Seg rk (arrOf st) 0 (dup vs).length) (b) :
 ((if b=true then ((arrOf st).map (·.2)).reverse else (arrOf st).map (·.2)).toList).Perm vs/\Ord rk b (if b=true then ((arrOf st).map (·.2)).reverse else (arrOf st).map (·.2)).toList:=by
 obtain ⟨h1,h2⟩:=qD hp
 have up:((arrOf st).toList.map (·.2)).Pairwise λx y=>rk (x,x)<=rk (y,y):=by
  rw [QT]
  refine Su.mpr λi j hi hj hij=>?_
  have l:=hp.length_eq
  simp only [Oo] at hi hj l
  have z:=hs i j (N1 _) (PJ hij) (by lia)
  have ei:(arrOf st)[i]?=some ((arrOf st).toList[i]'(by simpa using hi)):=by simp [hi]
  have ej:(arrOf st)[j]?=some ((arrOf st).toList[j]'(by simpa using hj)):=by simp [hj]
  rw [dI ei,dI ej] at z
  have e1:=h2 _ (Om (show i<(arrOf st).toList.length by simpa using hi))
  have e2:=h2 _ (Om (show j<(arrOf st).toList.length by simpa using hj))
  rw [e1,e2] at z
  exact z
 cases b with
 | false=>simp only [Od,if_false,TL]; exact ⟨h1,up.imp λh=>by simpa using h⟩
 | true =>
  simp only [if_true,Qv,TL]
  refine ⟨(Tp _).trans h1,?_⟩
  unfold Ord
  rw [List.pairwise_reverse]
  exact up.imp λh=>by simpa using h
def Ms (prog:Program) (w:World) (A:Around) (s:Shared) (a:Addr) (vs:List Value) (κ:SortKind) (rk:Keyed->Int):Prop :=
 ∀ h':Heap,(∀ c o,c≠a->s.heap.get? c=some o->h'.get? c=some o) ->
  (∀ (Q:SortKind->Shared->Prop) (E:Value->Shared->Prop),2<=vs.length->Q κ { s with heap:=h' }->wpAny (model prog w) A (keyKind' vs.toArray) Q E { s with heap:=h' })/\ir prog w A { s with heap:=h' } κ rk (dup vs)
theorem m8 (ho:s.heap.get? a=some (seqObj "list" vs.toArray n)) (hk:Ms prog w A s a vs κ rk) (hz:vs.length<=sizeLine)
 (h:∀ out:Array Value,out.toList.Perm vs->Ord rk b out.toList->P (.done (.ret .none)) { s with heap:=sortedHeap s.heap a vs out }) :
 wpAny (model prog w) A (Builtin.«list.sort» ⟨[.ref a],[(Nr "reverse",.bool b)]⟩) P E s:=by
 rw [list_sort_rev]
 have lta:a<s.heap.objs.size:=NG ho
 refine Nt (PD ho rfl (Nt (OV ho rfl ?_ (by simpa using hz))))
 obtain ⟨e1,ho1⟩:∃ e1,(s.heap.update a (N8 λ_=> #[])).get? a=some (seqObj "list" #[] e1):=⟨_,RY ho (λ_=> #[])⟩
 have oth:∀ c o,c≠a->s.heap.get? c=some o->(s.heap.update a (N8 λ_=> #[])).get? c=some o:=λc o hc q=>by rw [Pf _ _ _ _ hc]; exact q
 have sz1:(s.heap.update a (N8 λ_=> #[])).objs.size=s.heap.objs.size:=TJ ..
 refine Nt (QF ho1 rfl (Nt (wpAny_newTuple ?_ (by simpa using hz))))
 refine Nt (Q8 (ON ?_))
 show wpAny (model prog w) A _ P E { s with heap:=((s.heap.update a (N8 λ_=> #[])).push (seqObj "tuple" vs.toArray 0)).push (seqObj "list" #[] 0) }
 have ho6:(((s.heap.update a (N8 λ_=> #[])).push (seqObj "tuple" vs.toArray 0)).push (seqObj "list" #[] 0)).get? a=some (seqObj "list" #[] e1):=NC _ (NC _ ho1)
 obtain ⟨hkk,hC⟩:=hk (((s.heap.update a (N8 λ_=> #[])).push (seqObj "tuple" vs.toArray 0)).push (seqObj "list" #[] 0)) λc o hc q=>NC _ (NC _ (oth c o hc q))
 have fin:∀ st':SortSt,(arrOf st').toList.Perm (dup vs)->Seg rk (arrOf st') 0 (dup vs).length ->
  P (.done (.ret .none)) { s with heap:=sortedHeap s.heap a vs (if b then ((arrOf st').map (·.2)).reverse else (arrOf st').map (·.2)) }:=λst' hp hs =>
  let ⟨q1,q2⟩:=Dj hp hs b; h _ q1 q2
 have hstart:(if b=true then (vs.toArray.zip vs.toArray).reverse else vs.toArray.zip vs.toArray).toList.Perm (dup vs):=by
  cases b with
  | false=>rw [if_neg NH,uZ]
  | true=>rw [if_pos rfl,Qv,uZ]; exact Tp _
 dsimp only
 have told:∀ t:Sem Fin,wpAny (model prog w) A t P E { s with heap:=((s.heap.update a (N8 λ_=> #[])).push (seqObj "tuple" vs.toArray 0)).push (seqObj "list" #[] 0) } ->
  wpAny (model prog w) A (if b=true then (do let _ <- rule "list.sort.reverse"; t) else t) P E { s with heap:=((s.heap.update a (N8 λ_=> #[])).push (seqObj "tuple" vs.toArray 0)).push (seqObj "list" #[] 0) }:=λt ht=>by
  split
  ·exact Nt (OO ht)
  ·exact ht
 refine told _ ?_
 have hlen:∀ {xs:Array Keyed},xs.toList.Perm (dup vs)->(if b=true then (Array.map (λx=>x.snd) xs).reverse else Array.map (λx=>x.snd) xs).size<=sizeLine+1:=λ{xs} hp=>by
  have l:=hp.length_eq
  simp only [Oo,dup,ND] at l
  split
  ·rw [Array.size_reverse,Array.size_map]; lia
  ·rw [Array.size_map]; lia
 by_cases h2:vs.toArray.size<2
 ·rw [if_pos h2,if_pos h2]
  refine Nt (Nv ?_)
  rw [StateT.run_pure]
  refine Nt (Nv ?_)
  dsimp only
  refine Nt (QF ho6 rfl (Nt (OV ho6 rfl ?_ (hsz2:=hlen hstart))))
  simp only [bne_self_eq_false,Od,if_false]
  refine Nv (fin (PR general' (if b=true then (vs.toArray.zip vs.toArray).reverse else vs.toArray.zip vs.toArray) #[] 7 none) hstart ?_)
  intro i j _ hij hj
  have hl:(dup vs).length<2:=by simpa [dup] using h2
  have:i=j:=by lia
  subst this; exact OL _
 ·rw [if_neg h2,if_neg h2]
  refine Nt (hkk _ _ (by simpa using h2) ?_)
  refine Nt (Oh (wpS_sortRuns (κ:=κ) (rk:=rk) (L:=dup vs) (st:=PR κ (if b=true then (vs.toArray.zip vs.toArray).reverse else vs.toArray.zip vs.toArray) #[] 7 none)
   (Q:=λ_ st'=>(arrOf st').toList.Perm (dup vs)/\failedOf st'=none/\Seg rk (arrOf st') 0 (dup vs).length) hC ⟨hstart,rfl,rfl⟩ rfl λst' a1 a2=>⟨a1.perm,a1.failed,a2⟩) ?_ λ_ _ e=>e)
  rintro ⟨⟨⟩,st'⟩ s' ⟨rfl,hp,hf,hs⟩
  dsimp only
  refine Nt (QF ho6 rfl (Nt (OV ho6 rfl ?_ (hsz2:=hlen hp))))
  rw [hf]
  simp only [bne_self_eq_false,Od,if_false]
  exact Nv (fin st' hp hs)
section
variable {α:Type} {lt:α->α->Bool} {L:List α}
theorem filter_le:∀ {l:List α},(∀ z∈l,p z=true->q z=true)->(l.filter p).length<=(l.filter q).length
 | [],_=>Ny _
 | x::l,h=>by
  have ih:=filter_le (l:=l) λz hz=>h z (NK _ hz)
  have hx:=h x NP
  cases e:p x with
  | false =>
   rw [QL (by simp [e])]
   by_cases e2:q x=true
   ·rw [P0 e2]; exact Nat.le_succ_of_le ih
   ·rw [QL e2]; exact ih
  | true =>
   rw [P0 e,P0 (hx e)]
   exact RV ih
theorem filter_lt:∀ {l:List α},(∀ z∈l,p z=true->q z=true)->(∃ z∈l,q z=true/\p z=false)->(l.filter p).length<(l.filter q).length
 | [],_,h=>by obtain ⟨z,h,_⟩:=h; cases h
 | x::l,h,g=>by
  have h':∀ z∈l,p z=true->q z=true:=λz hz=>h z (NK _ hz)
  have hx:=h x NP
  by_cases e:p x=true
  ·rw [P0 e,P0 (hx e)]
   obtain ⟨z,hz,z1,z2⟩:=g
   rcases NU.mp hz with rfl | hz
   ·rw [e] at z2; cases z2
   ·exact Nat.succ_lt_succ (filter_lt h' ⟨z,hz,z1,z2⟩)
  ·rw [QL e]
   by_cases e2:q x=true
   ·rw [P0 e2]; exact Nat.lt_succ_of_le (filter_le h')
   ·rw [QL e2]
    obtain ⟨z,hz,z1,z2⟩:=g
    rcases NU.mp hz with rfl | hz
    ·exact absurd z1 e2
    ·exact filter_lt h' ⟨z,hz,z1,z2⟩
structure E4 (lt:α->α->Bool) (L:List α):Prop where
 irr:∀ x∈L,lt x x=false
 tr:∀ x∈L,∀ y∈L,∀ z∈L,lt x y=true->lt y z=true->lt x z=true
 tot:∀ x∈L,∀ y∈L,x≠y->lt x y=true\/lt y x=true
noncomputable def rank (lt:α->α->Bool) (L:List α) (x:α):Int:=((L.filter λz=>lt z x).length:Int)
theorem j4 (h:E4 lt L) (hx:x∈L) (hy:y∈L) (e:lt x y=true):rank lt L x<rank lt L y:=by
 have q:=filter_lt (l:=L) (p:=λz=>lt z x) (q:=λz=>lt z y) (λz hz hzx=>h.tr z hz x hx y hy hzx e) ⟨x,hx,e,h.irr x hx⟩
 unfold rank; lia
theorem Dk (h:E4 lt L) (hx:x∈L) (hy:y∈L):decide (rank lt L x<rank lt L y)=lt x y:=by
 classical
 cases e:lt x y with
 | true=>exact decide_eq_true (j4 h hx hy e)
 | false =>
  refine decide_eq_false λz=>?_
  by_cases w:x=y
  ·subst w; exact absurd z (Int.lt_irrefl _)
  ·rcases h.tot x hx y hy w with q | q
   ·rw [e] at q; cases q
   ·have:=j4 h hy hx q; lia
theorem fT (hp:n.Perm m):∀ {l:List α},Paired S l m->∃ l',l'.Perm l/\Paired S l' n:=by
 induction hp with
 | nil=>intro l h; exact ⟨l,.refl _,h⟩
 | cons x _ ih =>
  intro l h
  cases h with
  | cons r t=>obtain ⟨l',h1,h2⟩:=ih t; exact ⟨_::l',h1.cons _,.cons r h2⟩
 | swap x y l' =>
  intro l h
  cases h with
  | cons r t=>cases t with | cons r2 t2=>exact ⟨_,.swap _ _ _,.cons r2 (.cons r t2)⟩
 | trans _ _ ih1 ih2 =>
  intro l h
  obtain ⟨l1,h1,h2⟩:=ih2 h
  obtain ⟨l2,h3,h4⟩:=ih1 h2
  exact ⟨l2,h3.trans h1,h4⟩
theorem gR (h:Paired S l m):∀ u∈m,∃ x∈l,S x u:=by
 induction h with
 | nil=>intro u hu; cases hu
 | cons r t ih =>
  intro u hu
  rcases NU.mp hu with rfl | hu
  ·exact ⟨_,NP,r⟩
  ·obtain ⟨x,h1,h2⟩:=ih u hu; exact ⟨x,NK _ h1,h2⟩
open Classical in
noncomputable def wQ {β:Type} (S:α->Value->Prop) (lt:α->α->Bool) (L:List α) (p:Value×β):Int:=if h:∃ x,x∈L/\S x p.1 then rank lt L h.choose else 0
theorem j5 (inj:∀ x y u,S x u->S y u->x=y) (hx:x∈L) (h:S x p.1):wQ S lt L p=rank lt L x:=by
 have e:∃ x,x∈L/\S x p.1:=⟨x,hx,h⟩
 unfold wQ
 rw [dif_pos e,inj _ _ _ e.choose_spec.2 h]
theorem qE (inj:∀ x y u,S x u->S y u->x=y) (h:E4 lt L) (nd:L.Nodup) (hL:Paired S L us) (hp:out.Perm us) (ho:Ord (wQ S lt L) b out) :
 ∃ L',L'.Perm L/\L'.Pairwise (λx y=>if b then lt y x=true else lt x y=true)/\Paired S L' out:=by
 obtain ⟨L',h1,h2⟩:=fT hp hL
 refine ⟨L',h1,?_,h2⟩
 have hm:∀ x∈L',x∈L:=λx hx=>h1.mem_iff.mp hx
 have nd':L'.Nodup:=h1.nodup_iff.mpr nd
 clear h1 hp hL nd
 unfold Ord at ho
 induction h2 with
 | nil=>exact .nil
 | @cons x u xs us r t ih =>
  obtain ⟨q1,q2⟩:=Qw.mp ho
  obtain ⟨n1,n2⟩:=Pu.mp nd'
  refine .cons (λy hy=>?_) (ih q2 (λz hz=>hm z (NK _ hz)) n2)
  have hx:=hm x NP
  have hyL:=hm y (NK _ hy)
  obtain ⟨v,hv,sv⟩:∃ v∈us,S y v:=by
   clear ih ho q1 q2 n1 n2 hm nd'
   induction t with
   | nil=>cases hy
   | cons r t ih2 =>
    rcases NU.mp hy with rfl | hy
    ·exact ⟨_,NP,r⟩
    ·obtain ⟨v,h1,h2⟩:=ih2 hy; exact ⟨v,NK _ h1,h2⟩
  have q:=q1 v hv
  rw [j5 inj hx (p:=(u,u)) r,j5 inj hyL (p:=(v,v)) sv] at q
  have ne:x≠y:=λz=>n1 (z ▸ hy)
  cases b with
  | true =>
   simp only [if_true] at q |-
   rcases h.tot x hx y hyL ne with w | w
   ·have:=j4 h hx hyL w; lia
   ·exact w
  | false =>
   simp only [Od,if_false] at q |-
   rcases h.tot x hx y hyL ne with w | w
   ·exact w
   ·have:=j4 h hyL hx w; lia
end
theorem zT (inj:∀ x y u,S x u->S y u->x=y) (h:E4 lt L) (hL:Paired S L us)
 (hk:∀ x∈L,∀ y∈L,∀ u v,S x u->S y v->∀ (E:Value->Shared->Prop) (Q:Bool->Shared->Prop),Q (lt x y) s->wpAny (model prog w) A (keyLt' κ u v) Q E s):ir prog w A s κ (wQ S lt L) (dup us):=by
 intro p hp q hq E Q hQ
 simp only [dup,Of] at hp hq
 obtain ⟨u,hu,rfl⟩:=hp
 obtain ⟨v,hv,rfl⟩:=hq
 obtain ⟨x,hx,sx⟩:=gR hL u hu
 obtain ⟨y,hy,sy⟩:=gR hL v hv
 refine hk x hx y hy u v sx sy E Q ?_
 rw [j5 inj hx (p:=(u,u)) sx,j5 inj hy (p:=(v,v)) sy,Dk h hx hy] at hQ
 exact hQ
end SR
namespace SR
open PySem PySem.Calls PyProof.Rows L2 EV
theorem lZ (a):Builtin.«list.sort» ⟨[.ref a],[(Nr "key",.builtin "len")]⟩=(do
 let items <- Pr (.ref a)
 Pq (.ref a) λ_=> #[]
 let before <- seqEpoch a
 let held <- newTuple items.toList
 let keyStore <- newList []
 holding [held,keyStore] do
  rule "list.sort.key"
  for x in items do
   match <- (call (.builtin "len") [x]).attempt with
   | .ok k=>Pq keyStore (·.push k)
   | .error e =>
    rule "list.sort.key-raised"
    let made <- Pr keyStore
    Pq keyStore λ_=> #[]
    letGo made.toList.reverse [e]
    Pq (.ref a) λ_=>items; throw e
  let keys <- Pr keyStore
  let kind <- if items.size<2 then pure general' else keyKind' keys
  let ((),s) <- (if items.size<2 then pure () else sortRuns').run (PR kind (keys.zip items) #[] 7 none)
  Pq keyStore λ_=> #[]
  letGo ((arrOf s).map (·.1)).toList (failedOf s).toList
  let touched:=(<- seqEpoch a) != before
  Pq (.ref a) λ_=>(arrOf s).map (·.2)
  if let some e:=failedOf s then rule "list.sort.comparison-raised"; throw e
  if touched then rule "list.sort.modified"; raiseError "ValueError" "list modified during sort"
  ret .none):=by
 rfl
theorem gS (a v):argsOk "list.sort" ⟨[a],[(Nr "key",v)]⟩:=by unfold argsOk; kernel_rfl
theorem jM (a v):argsOk "sorted" ⟨[a],[(Nr "key",v)]⟩:=by unfold argsOk; kernel_rfl
noncomputable def intOf (p:Keyed):Int:=match p.1 with | .int m _=>m | _=>0
theorem u0:∀ {ks vs:List Value},ks.length=vs.length->(ks.zip vs).map (·.2)=vs
 | [],[],_=>rfl
 | k::ks,v::vs,h=>by rw [RJ,NF,u0 (by simpa using h)]
 | [],_::_,h=>by simp at h
 | _::_,[],h=>by simp at h
theorem u5 {ks vs:List Value} {ms:List Int} (h:IntsAre ks ms) {p:Keyed} (hp:p∈ks.zip vs):∃ m t,p.1=.int m t:=by
 obtain ⟨k,v⟩:=p
 exact h.all k (R0 hp).1
theorem zU (ho:s.heap.get? a=some (seqObj "list" vs.toArray n)) (hz:vs.length<=sizeLine)
 (hv:∀ v∈vs,∃ (l:Addr) (items:Array Value),v=.ref l/\l≠a/\s.heap.IsList l items/\items.size<=sizeLine)
 (h:∀ (out:Array Value) (h':Heap) (tk e:Nat),out.toList.Perm vs->h'.get? a=some (seqObj "list" out e)->(∀ c o,c≠a->s.heap.get? c=some o->h'.get? c=some o)->P (.done (.ret .none)) { s with heap:=h',toks:=tk }) :
 wpAny (model prog w) A (Builtin.«list.sort» ⟨[.ref a],[(Nr "key",.builtin "len")]⟩) P E s:=by
 rw [lZ]
 have lta:a<s.heap.objs.size:=NG ho
 refine Nt (PD ho rfl (Nt (OV ho rfl ?_ (by simpa using hz))))
 obtain ⟨e1,ho1⟩:∃ e1,(s.heap.update a (N8 λ_=> #[])).get? a=some (seqObj "list" #[] e1):=⟨_,RY ho (λ_=> #[])⟩
 have oth:∀ c o,c≠a->s.heap.get? c=some o->(s.heap.update a (N8 λ_=> #[])).get? c=some o:=λc o hc q=>by rw [Pf _ _ _ _ hc]; exact q
 refine Nt (QF ho1 rfl (Nt (wpAny_newTuple ?_ (by simpa using hz))))
 refine Nt (Q8 (ON ?_))
 generalize hkS:((s.heap.update a (N8 λ_=> #[])).push (seqObj "tuple" vs.toArray 0)).objs.size=kS
 have hks:(((s.heap.update a (N8 λ_=> #[])).push (seqObj "tuple" vs.toArray 0)).push (seqObj "list" #[] 0)).get? kS=some (seqObj "list" #[] 0):=by rw [<- hkS]; exact NL _ rfl
 have kne:∀ c,c<s.heap.objs.size->c≠kS:=λc hc e=>by
  rw [<- hkS,size_push',TJ] at e; lia
 have k1:∀ c o,c≠a->s.heap.get? c=some o->(((s.heap.update a (N8 λ_=> #[])).push (seqObj "tuple" vs.toArray 0)).push (seqObj "list" #[] 0)).get? c=some o:=λc o hc q=>NC _ (NC _ (oth c o hc q))
 have ho6:(((s.heap.update a (N8 λ_=> #[])).push (seqObj "tuple" vs.toArray 0)).push (seqObj "list" #[] 0)).get? a=some (seqObj "list" #[] e1):=NC _ (NC _ ho1)
 dsimp only
 generalize (((s.heap.update a (N8 λ_=> #[])).push (seqObj "tuple" vs.toArray 0)).push (seqObj "list" #[] 0))=h1 at hks k1 ho6 |-
 have hak:a≠kS:=kne a lta
 refine Nt (OO ?_)
 refine Nt (Oh (wpAny_forIn_array' _ (λrest _ s'=>∃ (dn:List Value) (ks:List Value) (ms:List Int) (hh:Heap) (tk e:Nat),vs=dn++rest/\s'={ s with heap:=hh,toks:=tk }/\IntsAre ks ms/\ks.length=dn.length/\hh.get? kS=some (seqObj "list" ks.toArray e)/\∀ c o,c≠kS->h1.get? c=some o->hh.get? c=some o)
  (λ_ s'=>∃ (ks:List Value) (ms:List Int) (hh:Heap) (tk e:Nat),s'={ s with heap:=hh,toks:=tk }/\IntsAre ks ms/\ks.length=vs.length/\hh.get? kS=some (seqObj "list" ks.toArray e)/\∀ c o,c≠kS->h1.get? c=some o->hh.get? c=some o) ?turn ?fin _ _ ?beg) ?rest λ_ _ e=>e)
 case beg=>exact ⟨[],[],[],h1,_,0,rfl,rfl,.nil,rfl,hks,λ_ _ _ q=>q⟩
 case fin =>
  rintro _ s' ⟨dn,ks,ms,hh,tk,e,e1,e2,e3,e4,e5,e6⟩
  rw [OD] at e1
  exact ⟨ks,ms,hh,tk,e,e2,e3,by rw [e4,e1],e5,e6⟩
 case turn =>
  rintro v rest _ s' ⟨dn,ks,ms,hh,tk,e,ev,rfl,e3,e4,e5,e6⟩
  obtain ⟨l,items,rfl,hla,hli,hsz⟩:=hv v (by rw [ev]; simp)
  obtain ⟨o,q1,q2,q3⟩:=hli
  have hl':hh.IsList l items:=⟨o,e6 l o (kne l (NG q1)) (k1 l o hla q1),q2,q3⟩
  refine Nt (QC (call_len_list hl' (by have:=nL; lia) ?_))
  dsimp only
  have hkl:ks.length<=sizeLine:=by rw [e4]; have:=congrArg PK ev; simp at this; lia
  refine Nt (OV e5 rfl ?_ (by simpa using hkl) (by simp; lia))
  refine Nv ⟨dn++[.ref l],ks++[.int items.size (tk+1)],ms++[(items.size:Int)],_,_,e+1,by rw [ev]; simp,rfl,e3.append (.cons _ _ .nil),by simp [e4],?_,λc o hc q=>?_⟩
  ·have:=RY e5 (λa=>a.push (.int items.size (tk+1)))
   simpa using this
  ·rw [Pf _ _ _ _ hc]; exact e6 c o hc q
 case rest =>
  rintro _ s' ⟨ks,ms,hh,tk,e,rfl,e3,e4,e5,e6⟩
  refine Nt (PD e5 rfl ?_)
  have zl:(ks.toArray.zip vs.toArray).toList=ks.zip vs:=by rw [Array.toList_zip]
  have hoa:=e6 a _ hak ho6
  have pl:∀ {st':SortSt},(arrOf st').toList.Perm (ks.zip vs)->((arrOf st').map (·.2)).toList.Perm vs:=λ{st'} hp=>by
   rw [TL]
   have:=hp.map (·.2)
   rwa [u0 e4] at this
  have ho7:(hh.update kS (N8 λ_=>(#[]:Array Value))).get? a=some (seqObj "list" #[] e1):=by rw [Pf _ _ _ _ hak]; exact hoa
  have fin:∀ (out:Array Value),out.toList.Perm vs->P (.done (.ret .none)) { s with heap:=(hh.update kS (N8 λ_=>(#[]:Array Value))).update a (N8 λ_=>out),toks:=tk }:=λout hp =>
   h out _ _ _ hp (RY ho7 (λ_=>out)) λc o hc q=>by
    have lc:=NG q
    rw [Pf _ _ _ _ hc,Pf _ _ _ _ (kne c lc)]
    exact e6 c o (kne c lc) (k1 c o hc q)
  have hkz:(ks.toArray:Array Value).size<=sizeLine:=by rw [NR,e4]; exact hz
  have oz:∀ {out:Array Value},out.toList.Perm vs->out.size<=sizeLine+1:=λ{out} hp=>by
   have l:=hp.length_eq
   rw [Oo] at l; lia
  by_cases h2:vs.toArray.size<2
  ·rw [if_pos h2,if_pos h2]
   refine Nt (Nv ?_)
   rw [StateT.run_pure]
   refine Nt (Nv ?_)
   dsimp only
   have p0:=pl (st':=PR general' (ks.toArray.zip vs.toArray) #[] 7 none) (by show (ks.toArray.zip vs.toArray).toList.Perm _; rw [zl])
   refine Nt (OV e5 rfl ?_ hkz)
   refine Nt (Sj ?_)
   refine Nt (QF ho7 rfl (Nt (OV ho7 rfl ?_ (hsz2:=oz p0))))
   simp only [bne_self_eq_false,Od,if_false]
   exact Nv (fin _ p0)
  ·rw [if_neg h2,if_neg h2]
   rw [ksk_kind (kz:=ms) e3 (by rw [NR,e4]; simpa using h2)]
   refine Nt (Nv ?_)
   have hC:ir prog w A { s with heap:=hh,toks:=tk } oneType' intOf (ks.zip vs):=λx hx y hy E Q hQ=>by
    obtain ⟨m,t,ex⟩:=u5 e3 hx
    obtain ⟨m',t',ey⟩:=u5 e3 hy
    unfold intOf at hQ
    rw [ex,ey] at hQ |-
    rw [keyLt'_oneType]
    exact oneLt_int hQ
   refine Nt (Oh (wpS_sortRuns (κ:=oneType') (rk:=intOf) (L:=ks.zip vs) (st:=PR oneType' (ks.toArray.zip vs.toArray) #[] 7 none)
    (Q:=λ_ st'=>(arrOf st').toList.Perm (ks.zip vs)/\failedOf st'=none) hC ⟨(by show (ks.toArray.zip vs.toArray).toList.Perm _; rw [zl]),rfl,rfl⟩ rfl λst' a1 a2=>⟨a1.perm,a1.failed⟩) ?_ λ_ _ e=>e)
   rintro ⟨⟨⟩,st'⟩ s' ⟨rfl,hp,hf⟩
   dsimp only
   refine Nt (OV e5 rfl ?_ hkz)
   refine Nt (Sj ?_)
   refine Nt (QF ho7 rfl (Nt (OV ho7 rfl ?_ (hsz2:=oz (pl hp)))))
   rw [hf]
   simp only [bne_self_eq_false,Od,if_false]
   exact Nv (fin _ (pl hp))
end SR
namespace EV
open PySem PySem.Spec PySem.Calls PyProof.Rows L2
theorem wR (b) (x y):keyLt' (tuples' b) x y=(do
 let xs <- Pr x
 let ys <- Pr y
 for ((p,q),i) in (xs.toList.zip ys.toList).zipIdx do
  if !(<- eqBool p q) then return <- oneLt' (b && i == 0) p q
 return decide (xs.size<ys.size)):=rfl
theorem oj:∀ l:List Int,HT.lexLt l l=false
 | []=>rfl
 | x::l=>by rw [HT.cG,if_pos rfl]; exact oj l
theorem sI:∀ {a b c:List Int},HT.lexLt a b=true->HT.lexLt b c=true->HT.lexLt a c=true
 | [],[],_,h,_=>by cases h
 | [],_::_,[],_,h=>by cases h
 | [],_::_,_::_,_,_=>rfl
 | _::_,[],_,h,_=>by cases h
 | _::_,_::_,[],_,h=>by cases h
 | x::a,y::b,z::c,h,g=>by
  rw [HT.cG] at h g |-
  by_cases e:x=y
  ·subst e
   rw [if_pos rfl] at h
   by_cases f:x=z
   ·subst f; rw [if_pos rfl] at g |-; exact sI h g
   ·rw [if_neg f] at g |-; exact g
  ·rw [if_neg e] at h
   have h:=of_decide_eq_true h
   by_cases f:y=z
   ·subst f; rw [if_neg e]; exact decide_eq_true h
   ·rw [if_neg f] at g
    have g:=of_decide_eq_true g
    rw [if_neg (by lia)]; exact decide_eq_true (by lia)
theorem j6:∀ {a b:List Int},a≠b->HT.lexLt a b=true\/HT.lexLt b a=true
 | [],[],h=>absurd rfl h
 | [],_::_,_=>.inl rfl
 | _::_,[],_=>.inr rfl
 | x::a,y::b,h=>by
  rw [HT.cG,HT.cG]
  by_cases e:x=y
  ·subst e
   rw [if_pos rfl,if_pos rfl]
   exact j6 λz=>h (by rw [z])
  ·rw [if_neg e,if_neg (NZ e)]
   rcases Int.lt_or_gt_of_ne e with z | z
   ·exact .inl (decide_eq_true z)
   ·exact .inr (decide_eq_true z)
noncomputable abbrev aL:=List Int×Int
noncomputable def cU (x y:aL):Bool:=if x.1=y.1 then decide (x.2<y.2) else HT.lexLt x.1 y.1
theorem j7 (L:List aL):SR.E4 cU L where
 irr:=λx _=>by unfold cU; rw [if_pos rfl]; exact decide_eq_false (Int.lt_irrefl _)
 tr:=λx _ y _ z _ h g=>by
  unfold cU at *
  by_cases e:x.1=y.1
  ·rw [if_pos e] at h
   by_cases f:y.1=z.1
   ·rw [if_pos f] at g; rw [if_pos (e.trans f)]
    exact decide_eq_true (Int.lt_trans (of_decide_eq_true h) (of_decide_eq_true g))
   ·rw [if_neg f] at g; rw [if_neg (λw=>f (e.symm.trans w)),e]; exact g
  ·rw [if_neg e] at h
   by_cases f:y.1=z.1
   ·rw [if_neg (λw=>e (w.trans f.symm)),<- f]; exact h
   ·rw [if_neg f] at g
    have q:=sI h g
    rw [if_neg λw=>by rw [w,oj] at q; cases q]; exact q
 tot:=λx _ y _ h=>by
  unfold cU
  by_cases e:x.1=y.1
  ·rw [if_pos e,if_pos e.symm]
   have:x.2≠y.2:=λz=>h (Prod.ext e z)
   rcases Int.lt_or_gt_of_ne this with z | z
   ·exact .inl (decide_eq_true z)
   ·exact .inr (decide_eq_true z)
  ·rw [if_neg e,if_neg (NZ e)]
   exact j6 e
noncomputable abbrev aB (t:aL):D:=.tup [.tup (t.1.map .int),.int t.2]
section
variable {X:Cx}
def gK (K:Nu) (Hf:Hp) (d:D) (u:Value):Prop:=∃ v,RelV v u/\Rep K Hf d v
theorem k6 (l m:List Int):lV 1 (.tup (l.map .int)) (.tup (m.map .int)):=.tup λi d e h1 h2=>by
 simp only [NO,NQ] at h1 h2
 obtain ⟨x,_,rfl⟩:=h1
 obtain ⟨y,_,rfl⟩:=h2
 exact .sc rfl
theorem Dl (x y):lV 2 (aB x) (aB y):=.tup λi d e h1 h2=>by
 rcases i with _ | _ | i
 ·simp at h1 h2; subst h1 h2; exact k6 _ _
 ·simp at h1 h2; subst h1 h2; exact .sc rfl
 ·simp at h1
theorem zV (h:aB x=aB y):x=y:=by
 simp only [D.tup.injEq,List.cons.injEq,D.int.injEq,and_true] at h
 have e:x.1=y.1:=by
  exact (S9 (f:=D.int) (λa b e=>by injection e)).mp h.1
 exact Prod.ext e h.2
theorem fu:∀ {l:List Int} {ys:List V},au X.K Hf (l.map D.int) ys->ys=l.map V.int
 | [],ys,h=>aC.mp h
 | n::l,ys,h=>by
  obtain ⟨y,r,rfl,z1,z2⟩:=aD.mp h
  rw [aA] at z1; subst z1
  rw [fu z2]; rfl
theorem Dn (I:Inv X aa σ H s) (sb:aH Hf H) (h1:gK X.K Hf (aB x) u) (h2:gK X.K Hf (aB y) u):x=y:=by
 obtain ⟨v,r1,q1⟩:=h1
 obtain ⟨v',r2,q2⟩:=h2
 have:=r1.inj r2
 subst this
 exact zV (jW I sb 2 _ _ _ (Dl x y) q1 q2)
theorem om (I:Inv X aa σ H s) (sb:aH Hf H) (h:gK X.K Hf (aB x) u):∃ a b its t,u=.ref a/\IsTup s.heap a #[.ref b,.int x.2 t]/\IsTup s.heap b its/\IntsAre its.toList x.1/\gK X.K Hf (.tup (x.1.map .int)) (.ref b):=by
 obtain ⟨v,rv,q⟩:=h
 obtain ⟨a,xs,rfl,h1,h2⟩:=aM.mp q
 cases rv
 obtain ⟨p,r,rfl,q1,q2⟩:=aD.mp h2
 obtain ⟨p2,r2,rfl,q3,q4⟩:=aD.mp q2
 rw [aC] at q4; subst q4
 rw [aA] at q3; subst q3
 obtain ⟨its,rel,tu,_⟩:=I.tuple (az sb h1)
 cases rel with
 | cons r1 t1=>cases t1 with
  | cons r2 t2 =>
   cases t2
   obtain ⟨t,rfl⟩:=r2
   obtain ⟨b,ys,rfl,h3,h4⟩:=aM.mp q1
   cases r1
   obtain ⟨its2,rel2,tu2,_⟩:=I.tuple (az sb h3)
   refine ⟨a,b,its2.toArray,t,rfl,tu,tu2,?_,.ref b,rfl,aM.mpr ⟨b,ys,rfl,h3,h4⟩⟩
   have e:=fu h4
   subst e
   exact intsAre_of rel2
theorem dO:∀ (l:List α) (r:List β) {Q:List β->Shared->Prop},Paired (λa b=>∀ (Q:β->Shared->Prop),Q b s->wpAny M A (f a) Q E s) l r->Q r s->wpAny M A (l.mapM f) Q E s
 | _,_,Q,.nil,h=>by rw [List.mapM_nil]; exact Nv h
 | _,_,Q,.cons q t,h=>by
  rw [List.mapM_cons]
  exact Nt (q _ (Nt (dO _ _ t (Nv h))))
theorem zW (I:Inv X aa σ H s) (sb:aH Hf H) (h:Paired (λx u=>gK X.K Hf (aB x) u) L us) (h2:2<=us.length) (hQ:Q (tuples' false) s):wpAny (model X.prog X.w) A (keyKind' us.toArray) Q E s:=by
 have key:∃ fs:List Value,fs.length=us.length/\(∀ f∈fs,s.TypeIs f "tuple")/\Paired (λu o=>∀ (Q:Option Value->Shared->Prop),Q o s->wpAny (model X.prog X.w) A (firstOfTuple' u) Q E s) us (fs.map some):=by
  clear h2 hQ
  induction h with
  | nil=>exact ⟨[],rfl,by simp,.nil⟩
  | @cons x u L us r t ih =>
   obtain ⟨fs,e1,e2,e3⟩:=ih
   obtain ⟨a,b,its,tk,rfl,t1,t2,_⟩:=om I sb r
   refine ⟨.ref b::fs,by simp [e1],λf hf=>?_,.cons (λQ hQ=>?_) e3⟩
   ·rcases NU.mp hf with rfl | hf
    ·obtain ⟨o,ho,hc,_⟩:=t2; exact ⟨o,ho,hc⟩
    ·exact e2 f hf
   ·obtain ⟨o,ho,hc,n,hd⟩:=t1
    show wpAny _ _ (do
     if (<- typeOf (.ref a)) != .type "tuple" then return none
     return (<- Pr (.ref a))[0]?) _ _ _
    refine Nt (Pk (T:="tuple") ⟨o,ho,hc⟩ ?_)
    rw [if_neg (by simp)]
    exact Nt (PD ho hd (Nv hQ))
 obtain ⟨fs,e1,e2,e3⟩:=key
 rw [keyKind'_eq,RQ]
 simp only [bind_map_left]
 refine Nt (dO _ _ e3 ?_)
 rw [if_pos (by simp)]
 refine Nt (OO ?_)
 have e4:(List.map some fs).toArray.filterMap id=fs.toArray:=by simp
 rw [e4,oneTypeOnly'_eq,RQ]
 simp only [bind_map_left]
 have e5:Paired (λu o=>∀ (Q:Value->Shared->Prop),Q o s->wpAny (model X.prog X.w) A (typeOf u) Q E s) fs (fs.map λ_=>Ou "tuple"):=by
  clear e1 e3 e4
  induction fs with
  | nil=>exact .nil
  | cons f fs ih=>exact .cons (λQ hQ=>Pk (e2 f NP) hQ) (ih λg hg=>e2 g (NK _ hg))
 refine Nt (Nt (dO _ _ e5 ?_))
 obtain ⟨f,fs',rfl⟩:∃ f fs',fs=f::fs':=by
  match fs,e1 with
  | [],e1=>simp at e1; lia
  | f::fs',_=>exact ⟨f,fs',rfl⟩
 have h0:(List.map (λ_=>Ou "tuple") (f::fs')).toArray[0]?=some (Ou "tuple"):=by simp
 rw [h0]
 dsimp only
 rw [if_pos (by simp)]
 refine Nv (Nv ?_)
 have e6:(some (Ou "tuple")).any (λx=>x != Ou "tuple")=false:=by simp
 rw [e6]
 exact hQ
theorem G9 (I:Inv X aa σ H s) (sb:aH Hf H) (hA:A.units+10<cLine) (hx:gK X.K Hf (aB x) u) (hy:gK X.K Hf (aB y) v) (hQ:Q (cU x y) s):wpAny (model X.prog X.w) A (keyLt' (tuples' false) u v) Q E s:=by
 obtain ⟨a,b,its,t,rfl,⟨o,ho,hc,n,hd⟩,t2,i2,z1⟩:=om I sb hx
 obtain ⟨a',b',its',t',rfl,⟨o',ho',hc',n',hd'⟩,t2',i2',z2⟩:=om I sb hy
 rw [wR]
 refine Nt (PD ho hd (Nt (PD ho' hd' ?_)))
 obtain ⟨w1,r1,q1⟩:=z1
 obtain ⟨w2,r2,q2⟩:=z2
 have e1:NV A s (.ref b) (.ref b') (decide (D.tup (x.1.map .int)=D.tup (y.1.map .int))):=mP I sb 1 _ _ _ _ _ _ A (k6 x.1 y.1) q1 q2 r1 r2 (by lia)
 have e2:decide (D.tup (x.1.map D.int)=D.tup (y.1.map D.int))=decide (x.1=y.1):=by
  by_cases z:x.1=y.1
  ·rw [z]; simp
  ·have:¬ D.tup (x.1.map D.int)=D.tup (y.1.map D.int):=λw=>by
    injection w with w
    exact z ((S9 (f:=D.int) (λa b e=>by injection e)).mp w)
   rw [decide_eq_false this,decide_eq_false z]
 rw [e2] at e1
 have ez:((#[NW b,PV x.2 t]:Array Value).toList.zip (#[NW b',PV y.2 t']:Array Value).toList).zipIdx=[((NW b,NW b'),0),((PV x.2 t,PV y.2 t'),1)]:=rfl
 rw [ez]
 have lti:∀ (bb:Bool) (m n:Int) (t u:Tok) (Q:Bool->Shared->Prop),Q (decide (m<n)) s->wpAny (model X.prog X.w) A (oneLt' (false && bb) (.int m t) (.int n u)) Q E s:=λbb m n t u Q h=>by
  rw [Bool.false_and,oneLt'_eq,if_neg NH]
  exact Nt (lt_int (Nv h))
 simp only [Q4,List.forIn_nil]
 refine Nt (Nt (Nt (e1 _ _ _ _ ?_)))
 unfold cU at hQ
 by_cases z:x.1=y.1
 ·rw [if_pos z] at hQ
  rw [decide_eq_true z]
  simp only [Qe,Od,if_false]
  refine Nv ?_
  dsimp only
  refine Nt (Nt ?_)
  refine Tu ?_
  by_cases w:x.2=y.2
  ·rw [show (x.2 == y.2)=true by simpa using w]
   simp only [Qe,Od,if_false]
   refine Nv (Nv ?_)
   dsimp only
   refine Nv ?_
   rw [w] at hQ
   simpa using hQ
  ·rw [show (x.2 == y.2)=false by simpa using w]
   simp only [Bool.not_false,if_true]
   refine Nt (lti _ _ _ _ _ _ (Nv ?_))
   dsimp only
   exact Nv (Nv hQ)
 ·rw [if_neg z] at hQ
  rw [decide_eq_false z]
  simp only [Bool.not_false,if_true]
  refine Nt ?_
  rw [Bool.false_and,oneLt'_eq,if_neg NH]
  refine Nt (HT.kq (s:=s) t2 t2' i2 i2' (by lia) ?_)
  refine Nv (Nv ?_)
  dsimp only
  exact Nv (Nv hQ)
end
noncomputable abbrev BX (X:Cx) (A:Around):Cx:={ X with A:=A }
theorem Ke (ok:X.Ok) (h1:X.calm=true->A.handled=none) (h2:A.frames=some X.stack):(BX X A).Ok :=
 ⟨ok.mod,ok.kind,ok.glob,ok.blt,ok.above,ok.inj,ok.has,ok.cab,h1,h2,ok.stk,ok.exf,ok.bs,ok.bsz,ok.noex,ok.exfs,ok.i9,ok.frf⟩
theorem gT (I:Inv X aa σ H s) (h1:X.calm=true->A.handled=none) (h2:A.frames=some X.stack):Inv (BX X A) aa σ H s :=
 ⟨Ke I.ok h1 h2,I.os,I.bare,I.base,I.loc,I.cell,I.free,I.freeC,I.pin,I.hok,I.len⟩
theorem eX (ok:X.Ok) (I:Inv (BX X A) aa σ H s):Inv X aa σ H s :=
 ⟨ok,I.os,I.bare,I.base,I.loc,I.cell,I.free,I.freeC,I.pin,I.hok,I.len⟩
theorem Dp {fp:List Addr} (h:∀ b∈fp,fG X aa H b) (n:∀ b∈fp,H' b=none):∀ b∈fp,fG X aa H' b:=λb hb=>⟨n b hb,(h b hb).2⟩
theorem zX (hc:X.calm=true) (Tn:Turn X.prog X.w X.K (.Name nm np) J fp it tn) (io:jd X.K J ds rM)
 (hS0:Hb S=none) (hSf:S∉fp) (hn:ds.length<=sizeLine) (okX:X.Ok) (h1:X.A.in1.handled=none) (h2:X.A.in1.frames=some X.stack)
 (fin:∀ (s':Shared) (H' ai:Hp) (xs:List V),Inv X aa σ H' s'->H' S=some (.lst xs)->ai S=none->au X.K ai ds xs->bw Hb rM H' ai->R (.ok (.ret res)) s') :
 ∀ (k i:Nat) (s:Shared) (H Hf:Hp) (xs:List V),ds.length - i=k->i<=ds.length->Inv X aa σ H s->tn i s.heap->(∀ b∈fp,fG X aa H b)->H S=some (.lst xs)->Hf S=none->au X.K Hf (ds.take i) xs->bw Hb rM H Hf ->
  codeAny (model X.prog X.w) X.A (.builtin "list.extend.loop" ⟨[.ref S,.ref it,res],[]⟩) R s:=by
 intro k
 induction k with
 | zero =>
  intro i s H Hf xs hk hi I t hf hS hfS hr g
  have e:i=ds.length:=by omega
  subst e
  rw [OM] at hr
  refine RZ PySem.F.entry_extend_loop ?_
  rw [RE Rp _]
  show wpAny _ X.A.in1 (pyNext (.ref it) >>= _) _ _ s
  refine Nt (Oh (Tn.done (BX X X.A.in1) rfl rfl rfl hc _ aa s σ H _ (gT I (λ_=>h1) h2) hf t (io.stop _ H Hf g.f g.b (Ny _))) (λr s' ⟨e,I'⟩=>?_) λ_ _ x=>x)
  subst e
  exact Nv (fin s' H Hf xs (eX okX I') hS hfS hr g)
 | succ k ih =>
  intro i s H Hf xs hk hi I t hf hS hfS hr g
  have lt:i<ds.length:=by omega
  have ed:ds[i]?=some ds[i]:=NX lt
  obtain ⟨hgo,hy⟩:=io.go i ds[i] H Hf g.f g.b ed
  refine RZ PySem.F.entry_extend_loop ?_
  rw [RE Rp _]
  show wpAny _ X.A.in1 (pyNext (.ref it) >>= _) _ _ s
  refine Nt (Oh (Tn.item (BX X X.A.in1) rfl rfl rfl hc i aa s σ H _ (gT I (λ_=>h1) h2) hf t hgo) (λr s1 ⟨u,e,hu⟩=>?_) λ_ _ x=>x)
  subst e
  show wpAny _ X.A.in1 (letOwnedTupleGo (.Name nm np) (.ref it) u >>= λ_=>(Pq (.ref S) (·.push u) >>= λ_=>again (.builtin "list.extend.loop" ⟨[.ref S,.ref it,res],[]⟩))) _ _ s1
  refine Nt (Oh hu (λ_ s2 ⟨x,H',I2,rx,y,t2,n2⟩=>?_) λ_ _ x=>x)
  have I2:=eX okX I2
  obtain ⟨ai,g',rd⟩:=hy x H' y
  have hS':H' S=some (.lst xs):=g'.s _ _ hS
  have hfS':ai S=none:=g'.n S hfS (by rw [hS]; simp) (by intro ys; rw [hS]; simp)
  obtain ⟨z,its,n,rv,el,eo⟩:=I2.nR hS'
  have hx:xs.length=i:=by rw [<- hr.length,Ow]; omega
  have hz:(xs++[x]).length<=sizeLine:=by simp only [N5,Oe,OZ]; omega
  refine Nt (OV eo rfl ?_ (by simp; omega) (by simp; omega))
  have ef:(λa:Array Value=>a.push u) its.toArray=(its++[u]).toArray:=by simp
  have I3:=I2.pM (f:=λa=>a.push u) (t':=s2.toks) hS' eo ef (rv.append (.cons rx .nil)) hz
  refine Nv ⟨plainId_quiet Rp _,ih (i+1) _ (upd H' S (.lst (xs++[x]))) ai (xs++[x]) (by omega) lt I3 (Tn.keep _ _ _ t2 λb hb o e=>?_) (Dp hf λb hb=>?_) af hfS' ?_ (uH (g.trans g') hS0 hfS')⟩
  ·exact (Ry _ _ (λw:S=b=>hSf (w ▸ hb))).trans e
  ·rw [av (λw:b=S=>hSf (w ▸ hb))]; exact n2 b hb
  ·rw [To,ed]
   exact (hr.mono g'.f).append (au.one rd)
theorem m9 (hT:s.TypeIs (.ref v) "dict_items") (hQ:Q false s):wpAny (model prog w) A (Ql (.ref v)) Q E s:=by
 unfold Ql
 refine Nt (wpAny_specialOf hT PySem.F.slot_dict_items_len.lookup ?_)
 have e:splitId "dict_items.__len__"=some ("dict_items","__len__"):=by decide +kernel
 dsimp only
 rw [e]
 dsimp only
 refine Nt (RU (b:=true) hT (by rw [isSubtype_type]; kernel_rfl) ?_)
 rw [if_neg (by decide)]
 exact Nt (Pk hT (Nv hQ))
theorem u6 (I:Inv X aa σ H s) (hv:s.heap.IsItemsView v d) (hH:H d=some (.frz o u)) (hd:HO.dct u) :
 wpAny (model X.prog X.w) A (pyIter (.ref v)) (λitv s2=>∃ (it:Addr) (es:Array DictEntry) (ep:Nat),itv=.ref it/\s.heap.objs.size<=it/\Inv X aa σ H s2/\Turn X.prog X.w X.K tg (Ll d o u) [it] it (λi h=>zE h it d i es.size ep)/\zE s2.heap it d 0 es.size ep/\(∀ b∈[it],fG X aa H b) /\
  (∀ b o,s.heap.get? b=some o->s2.heap.get? b=some o)) E s:=by
 obtain ⟨ho,ok⟩:=(show bg X.prog X.w H s.heap d (.frz o u) from I.hok d _ hH)
 obtain ⟨hx,es,ep,hod,hp,hs,hz⟩:=bR ok hd ho
 refine mT hv ho hod ?_
 have hsz:es.size=(bD u).length:=by rw [OE hp]; simp
 refine ⟨_,es,ep,rfl,Ny _,I.kept (t':=s.toks) λb o e=>NC _ e,kO (o:=o) (u:=u) (es:=es) (ep:=ep) hd hod (λz=>?_) hsz,⟨.none,false,.none,.none,NL _ rfl,.inl rfl⟩,λb hb=>?_,λb o e=>NC _ e⟩
 ·have lt:=NG ho
  rw [<- z] at lt
  exact absurd lt (OW _)
 ·have e:b=s.heap.objs.size:=by simpa using hb
  subst e
  exact I.kh (Ny _) (I.hok.fresh (Ny _))
theorem nc (hc:X.calm=true) (h1:X.A.in1.handled=none) (h2:X.A.in1.frames=some X.stack) (I1:Inv X aa σ (upd H S (.lst [])) s) (sb:aH Hf H) (HS:H S=none) (hvS:S≠src) (hltS:S<s.heap.objs.size) (hn:ds.length<=sizeLine)
 (hT:(false || Ou T == Ou "list" || Ou T == Ou "tuple")=false) (ty:∀ s':Shared,(∀ b o,s.heap.get? b=some o->s'.heap.get? b=some o)->s'.TypeIs (.ref src) T)
 (hint:∀ (A:Around) (s':Shared) (Q:Bool->Shared->Prop) (E:Value->Shared->Prop),s'.TypeIs (.ref src) T->Q false s'->wpAny (model X.prog X.w) A (Ql (.ref src)) Q E s')
 (iter:wpAny (model X.prog X.w) X.A.in1 (pyIter (.ref src)) (λitv s2=>∃ (it:Addr) (tn:Nat->Heap->Prop) (J:It),itv=.ref it /\
   s.heap.objs.size<=it/\Inv X aa σ (upd H S (.lst [])) s2/\Turn X.prog X.w X.K (.Name "x" ⟨0,0,0,0⟩) J [it] it tn/\tn 0 s2.heap/\(∀ b∈[it],fG X aa (upd H S (.lst [])) b)/\(∀ b o,s.heap.get? b=some o->s2.heap.get? b=some o)/\jd X.K J ds Hf) E s)
 (hR:∀ (s':Shared) (H' ai:Hp) (xs:List V),Inv X aa σ H' s'->H' S=some (.lst xs)->ai S=none->au X.K ai ds xs->bw H Hf H' ai->R (.ok (.ret res)) s') :
 wpAny (model X.prog X.w) X.A.in1 (Rn (.ref S) (.ref src) res) (λfin s'=>match fin with | .done f=>R (.ok f) s' | .again c=>c.quiet=true/\codeAny (model X.prog X.w) X.A c R s') E s:=by
 unfold Rn
 have ne:Builtin.List.listSameRef (.ref S) (.ref src)=false:=by simp [Builtin.List.listSameRef,hvS]
 refine Nt (Pk (ty s λ_ _ e=>e) ?_)
 rw [if_neg (by rw [ne,hT]; decide)]
 refine Nt (Oh iter (λitv s2 hh=>z3 hh λit tn J hh=>w8 hh λe hit I2 Tn t0 hf k2 io=>?_) λ_ _ x=>x)
 subst e
 refine Nt (ON (hint _ s2 _ _ (ty s2 k2) ?_))
 have hSne:it≠S:=QE (Ol hltS hit)
 have g0:bw H Hf (upd H S (.lst [])) Hf:=bw.dZ sb HS
 have fin:∀ s3:Shared,Inv X aa σ (upd H S (.lst [])) s3->tn 0 s3.heap->wpAny (model X.prog X.w) X.A.in1 (again (.builtin "list.extend.loop" ⟨[.ref S,.ref it,res],[]⟩)) (λfin s'=>match fin with | .done f=>R (.ok f) s' | .again c=>c.quiet=true/\codeAny (model X.prog X.w) X.A c R s') E s3:=λs3 I3 t3 =>
  Nv ⟨plainId_quiet Rp _,zX (X:=X) (Hb:=H) (rM:=Hf) hc Tn io HS (λm=>hSne (NN.mp m).symm) hn I1.ok h1 h2 hR ds.length 0 s3 _ Hf [] (by simp) (N1 _) I3 t3 hf af (sb.free HS) (aC.mpr rfl) g0⟩
 obtain ⟨_,its,n,rv,el,eo⟩:=I2.nR (l:=S) (xs:=[]) af
 cases rv
 split
 ·refine Nt (OO ?_)
  unfold Builtin.List.listTouch
  refine Nt (Nt (OV eo rfl ?_))
  have I3:=I2.pM (f:=λa=>a.push .none) (its':=[.none]) (ys:=[.non]) (t':=s2.toks) af eo (by simp) (.cons rfl .nil) (by show 1<=sizeLine; decide)
  obtain ⟨_,its3,n3,rv3,el3,eo3⟩:=I3.nR (l:=S) (xs:=[.non]) af
  cases rv3 with
  | cons r3 t3 =>
   cases t3
   cases r3
   refine OV eo3 rfl ?_
   have I4:=I3.pM (f:=λa=>a.pop) (its':=[]) (ys:=[]) (t':=s2.toks) af eo3 (by simp) .nil (N1 _)
   rw [nI,nI] at I4
   refine fin _ I4 (Tn.keep 0 _ _ t0 λb hb o e=>?_)
   have hbS:S≠b:=λw=>hSne (by rw [NN.mp hb] at w; exact w.symm)
   exact (Ry _ _ hbS).trans ((Ry _ _ hbS).trans e)
 ·exact fin s2 I2 t0
theorem gU (hc:X.calm=true) (h1:X.A.in1.handled=none) (h2:X.A.in1.frames=some X.stack) (I:Inv X aa σ H s) (sb:aH Hf H) (hlt:src<s.heap.objs.size) (hn:ds.length<=sizeLine) (hT:(false || Ou T == Ou "list" || Ou T == Ou "tuple")=false)
 (ty:∀ s':Shared,(∀ b o,s.heap.get? b=some o->s'.heap.get? b=some o)->s'.TypeIs (.ref src) T)
 (hint:∀ (A:Around) (s':Shared) (Q:Bool->Shared->Prop) (E:Value->Shared->Prop),s'.TypeIs (.ref src) T->Q false s'->wpAny (model X.prog X.w) A (Ql (.ref src)) Q E s')
 (iter:∀ (A:Around) (s1:Shared) (H1:Hp) (E:Value->Shared->Prop),Inv X aa σ H1 s1->aH Hf H1->(∀ b o,s.heap.get? b=some o->s1.heap.get? b=some o)->wpAny (model X.prog X.w) A (pyIter (.ref src)) (λitv s2=>∃ (it:Addr) (tn:Nat->Heap->Prop) (J:It),itv=.ref it /\
   s1.heap.objs.size<=it/\Inv X aa σ H1 s2/\Turn X.prog X.w X.K (.Name "x" ⟨0,0,0,0⟩) J [it] it tn/\tn 0 s2.heap/\(∀ b∈[it],fG X aa H1 b)/\(∀ b o,s1.heap.get? b=some o->s2.heap.get? b=some o)/\jd X.K J ds Hf) E s1)
 (hQ:∀ (us:List Value) (s':Shared) (H' ai:Hp) (xs:List V),Inv X aa σ H' s'->Vals xs us->au X.K ai ds xs->bw H Hf H' ai->ds.length<=sizeLine->Q us s'):wpAny (model X.prog X.w) X.A (collect (.ref src)) Q E s:=by
 unfold collect
 refine Nt (wpAny_runValue (RZ PySem.F.entry_proto_collect ?_))
 rw [RE PySem.F.plain_proto_collect _]
 show wpAny _ X.A.in1 (newList [] >>= λl=>again (.builtin "list.__iadd__" ⟨[l,.ref src],[]⟩)) _ _ s
 have HS:H s.heap.objs.size=none:=I.hok.fresh (Ny _)
 have hvS:s.heap.objs.size≠src:=QE hlt
 refine Nt (OJ (Nv ⟨plainId_quiet PySem.F.plain_list_iadd _,RZ PySem.F.entry_list_iadd ?_⟩))
 rw [RE PySem.F.plain_list_iadd _]
 generalize hS:s.heap.objs.size=S at *
 have I1:Inv X aa σ (upd H S (.lst [])) { s with heap:=s.heap.push { cls:=.type "list",data:=.seq ([]:List Value).toArray },toks:=s.toks }:=by
  have:=I.Cm (t':=s.toks) (ys:=[]) (its:=[]) .nil (N1 _)
  rw [hS] at this
  exact this
 show wpAny _ X.A.in1 (Rn (.ref S) (.ref src) (.ref S)) _ _ { s with heap:=s.heap.push { cls:=.type "list",data:=.seq ([]:List Value).toArray } }
 have k1:∀ b o,s.heap.get? b=some o->(s.heap.push { cls:=.type "list",data:=.seq ([]:List Value).toArray }).get? b=some o:=λb o e=>NC _ e
 generalize hs1:({ s with heap:=s.heap.push { cls:=.type "list",data:=.seq ([]:List Value).toArray } }:Shared)=s1
 replace I1:Inv X aa σ (upd H S (.lst [])) s1:=by rw [<- hs1]; exact I1
 replace k1:∀ b o,s.heap.get? b=some o->s1.heap.get? b=some o:=by rw [<- hs1]; exact k1
 have hltS:S<s1.heap.objs.size:=by rw [<- hs1,<- hS]; show _<(Heap.push _ _).objs.size; rw [Py]; exact P9 _
 refine nc (R:=λr s'=>match r with
  | .ok (.ret v)=>wpAny (model X.prog X.w) X.A (do
   let .ref a:=v | unsupported "internal:collect"
   let o <- load a
   match o.data with
   | .seq xs _=>pure xs.toList
   | _=>unsupported "internal:collect") Q E s'
  | .ok _=>False
  | .error e=>E e s') hc h1 h2 I1 sb HS hvS hltS hn hT (λs' k=>ty s' λb o e=>k b o (k1 b o e)) hint (iter _ s1 _ _ I1 (bw.dZ sb HS (o:=.lst [])).b k1) λs' H' ai xs I' hS' _ hr g=>?_
 obtain ⟨_,its,n,rv,el,eo⟩:=I'.nR hS'
 exact Nt (wpAny_load eo (Nv (hQ its s' H' ai xs I' rv hr g hn)))
theorem oq (hc:X.calm=true) (h1:X.A.in1.handled=none) (h2:X.A.in1.frames=some X.stack) (I:Inv X aa σ H s) (sb:aH Hf H) (hv:s.heap.IsItemsView v d) (hH:Hf d=some (.frz o u)) (hd:HO.dct u)
 (hp:Paired (iJ X.K Hf) ds (bD u))
 (hQ:∀ (us:List Value) (s':Shared) (H' ai:Hp) (xs:List V),Inv X aa σ H' s'->Vals xs us->au X.K ai ds xs->bw H Hf H' ai->ds.length<=sizeLine->Q us s'):wpAny (model X.prog X.w) X.A (collect (.ref v)) Q E s:=by
 obtain ⟨ho,ok⟩:=(show bg X.prog X.w H s.heap d (.frz o u) from I.hok d _ (sb _ _ hH))
 obtain ⟨_,_,_,_,_,_,hz⟩:=bR ok hd ho
 have up:∀ s':Shared,(∀ b o,s.heap.get? b=some o->s'.heap.get? b=some o)->s'.heap.IsItemsView v d:=λs' k=>by obtain ⟨q,q1,q2⟩:=hv; exact ⟨q,k _ _ q1,q2⟩
 refine gU (T:="dict_items") hc h1 h2 I sb (by obtain ⟨_,q,_⟩:=hv; exact NG q) (by rw [OE hp]; exact hz) (by decide) (λs' k=>(up s' k).typeIs) (λA s' Q E q h=>m9 q h) (λA s1 H1 E I1 sb1 k1=>?_) hQ
 refine Oh (u6 (tg:=.Name "x" ⟨0,0,0,0⟩) I1 (up s1 k1) (sb1 _ _ hH) hd) (λitv s2 ⟨it,es,ep,e,hit,I2,Tn,t0,hf,k2⟩=>?_) λ_ _ x=>x
 exact ⟨it,_,_,e,hit,I2,Tn,t0,hf,k2,gO hH hp⟩
noncomputable def Hg (te:TE):TE:=λσ H Q=>te σ H λx H1=>∃ d o u,x=.ref d/\H1 d=some (.frz o u)/\HO.dct u/\∀ v,H1 v=none->Q (.ref v) (upd H1 v (.ext λh=>h.IsItemsView v d))
theorem qF (he:PE X e te) (hbase:attributeBase e "items" X.env (eval e X.env)=eval e X.env) (hline:(ap.endLine == cp.line)=true):PE X (.Call (.Attribute e "items" ap) [] [] cp) (Hg te):=by
 intro aa s σ H Q I h
 refine Th (T:="dict") (id:="dict.items") hbase rfl hline F.plainAttrs_dict RT F.type_dict_items (bC (he aa s σ H _ I h) λv s1 ⟨x,H1,I1,r1,d,o,u,ex,hH,hd,q⟩=>?_)
 subst ex
 cases r1
 obtain ⟨ho,ok⟩:=(show bg X.prog X.w H1 s1.heap d (.frz o u) from I1.hok d _ hH)
 obtain ⟨hx,es,ep,hod,hp,hs,hz⟩:=bR ok hd ho
 have hT:s1.TypeIs (.ref d) "dict":=⟨o,ho,hx.1⟩
 refine ⟨hT,λb z=>by cases z; exact ⟨o,ho,hx.2.1⟩,?_⟩
 show wpAny _ _ (callWith cp (.builtin "dict.items") [.ref d] [] []) _ _ s1
 refine method_meetsIn RT F.entry_dict_items rfl (SW ⟨rfl,hT,F.args_dict_items_1 _,_,jF d hs,hT,?_⟩)
 have Hv:H1 s1.heap.objs.size=none:=I1.hok.fresh (Ny _)
 have hve:(s1.heap.push { cls:=.type "dict_items",data:=.fields #[.ref d] }).IsItemsView s1.heap.objs.size d:=⟨_,NL _ rfl,rfl,rfl⟩
 have I2:Inv X aa σ (upd H1 s1.heap.objs.size (.ext λh=>h.IsItemsView s1.heap.objs.size d)) { s1 with heap:=s1.heap.push { cls:=.type "dict_items",data:=.fields #[.ref d] },toks:=s1.toks } :=
  I1.laid (a:=s1.heap.objs.size) (λ_ _ q=>NC _ q) (Ny _) ⟨hve,⟨_,NL _ rfl⟩,λh1 h2 ⟨o,e,r⟩ k=>⟨o,k o e,r⟩⟩
 exact ⟨.ref s1.heap.objs.size,_,I2,rfl,q _ Hv⟩
section
variable {X:Cx} {aa:List (Addr×Obj)} {σ:L2.St} {H Hf:Hp} {s:Shared} {E:Value->Shared->Prop} {α:Type} {enc:α->D} {lt:α->α->Bool} {κ:SortKind}
theorem k7 {K:Nu}:∀ {L:List α} {xs:List V} {us:List Value},au K Hf (L.map enc) xs->Vals xs us->Paired (λx u=>gK K Hf (enc x) u) L us
 | [],xs,us,h,v=>by rw [Pb,aC] at h; subst h; cases v; exact .nil
 | t::L,xs,us,h,v=>by
  rw [NF] at h
  obtain ⟨x,r,rfl,h1,h2⟩:=aD.mp h
  cases v with
  | cons r1 r2=>exact .cons ⟨x,r1,h1⟩ (k7 h2 r2)
theorem k8 {K:Nu}:∀ {L:List α} {us:List Value},Paired (λx u=>gK K Hf (enc x) u) L us->∃ xs,au K Hf (L.map enc) xs/\Vals xs us
 | _,_,.nil=>⟨[],aC.mpr rfl,.nil⟩
 | _,_,.cons ⟨x,r1,h1⟩ t=>by
  obtain ⟨xs,h2,h3⟩:=k8 t
  exact ⟨x::xs,.cons h1 h2,.cons r1 h3⟩
structure Hh (X:Cx) (enc:α->D) (lt:α->α->Bool) (κ:SortKind):Prop where
 lin:∀ L:List α,SR.E4 lt L
 inj:∀ (aa:List (Addr×Obj)) (σ:L2.St) (H Hf:Hp) (s:Shared),Inv X aa σ H s->aH Hf H->∀ x y u,gK X.K Hf (enc x) u->gK X.K Hf (enc y) u->x=y
 kind:∀ (aa:List (Addr×Obj)) (σ:L2.St) (H Hf:Hp) (s:Shared) (A:Around) (E:Value->Shared->Prop),Inv X aa σ H s->aH Hf H->∀ (L:List α) (us:List Value),Paired (λx u=>gK X.K Hf (enc x) u) L us->2<=us.length->∀ Q:SortKind->Shared->Prop,Q κ s->wpAny (model X.prog X.w) A (keyKind' us.toArray) Q E s
 cmp:∀ (aa:List (Addr×Obj)) (σ:L2.St) (H Hf:Hp) (s:Shared) (A:Around) (E:Value->Shared->Prop),Inv X aa σ H s->aH Hf H->A.units+10<cLine->∀ (x y:α) (u v:Value),gK X.K Hf (enc x) u->gK X.K Hf (enc y) v->∀ Q:Bool->Shared->Prop,Q (lt x y) s->wpAny (model X.prog X.w) A (keyLt' κ u v) Q E s
theorem u7:Hh X aB cU (tuples' false) :=
 ⟨j7,λ_ _ _ _ _ I sb _ _ _ h1 h2=>Dn I sb h1 h2,λ_ _ _ _ _ _ _ I sb _ _ p h2 _ hQ=>zW I sb p h2 hQ,λ_ _ _ _ _ _ _ I sb hA _ _ _ _ hx hy _ hQ=>G9 I sb hA hx hy hQ⟩
def gE (lt:α->α->Bool) (b:Bool) (L:List α):Prop:=L.Pairwise λx y=>if b then lt y x=true else lt x y=true
abbrev fU (b:Bool) (L:List aL):Prop:=gE cU b L
theorem k9 {Q:Value->Shared->Prop} (hs:Hh X enc lt κ) (I:Inv X aa σ H s) (sb:aH Hf H) (hA:A.units+20<cLine) (hr:au X.K Hf (L.map enc) xs) (hv:Vals xs us) (hz:us.length<=sizeLine) (nd:L.Nodup)
 (hQ:∀ (L':List α) (xs':List V) (s':Shared),L'.Perm L->gE lt b L'->au X.K Hf (L'.map enc) xs'->xs'.length<=sizeLine->Inv X aa σ (upd H s.heap.objs.size (.lst xs')) s'->Q (.ref s.heap.objs.size) s') :
 wpAny (model X.prog X.w) A (newList us >>= λl=>(holding [l] (call (.builtin "list.sort") [l] [(Nr "reverse",.bool b)]) >>= λ_=>ret l)) (λfin s'=>∃ v,fin=.done (.ret v)/\Q v s') E s:=by
 refine Nt (Q8 ?_ hz)
 have ha:(s.heap.push (seqObj "list" us.toArray 0)).get? s.heap.objs.size=some (seqObj "list" us.toArray 0):=NL _ rfl
 have I1:Inv X aa σ H { s with heap:=s.heap.push (seqObj "list" us.toArray 0),toks:=s.toks }:=I.kept λb o e=>NC _ e
 have Ha:H s.heap.objs.size=none:=I.hok.fresh (Ny _)
 obtain ⟨f0,f1,f2,f3,f4,f5⟩:=I.kh (H':=H) (Ny _) Ha
 have pL:=k7 hr hv
 refine Nt (ON (SS slot_list_sort ⟨_,ha,rfl⟩ entry_list_sort (SR.m8 (κ:=κ) (rk:=SR.wQ (λx u=>gK X.K Hf (enc x) u) lt L) (b:=b) ha ?_ hz λout hp ho=>⟨_,rfl,?_⟩) (args_list_sort_rev _ _)))
 ·intro h' k
  have I2:=I1.turned (h':=h') (t':=s.toks) (it:=s.heap.objs.size) (λb o hb e=>k b o hb e) f0 f1 f3 f4 f5
  refine ⟨λQ E h2 hQ=>hs.kind _ _ _ _ _ _ _ I2 sb _ _ pL h2 _ hQ,SR.zT (λx y u h1 h2=>hs.inj _ _ _ _ _ I2 sb x y u h1 h2) (hs.lin L) pL λx _ y _ u v hx hy E Q hQ=>hs.cmp _ _ _ _ _ _ _ I2 sb ?_ _ _ _ _ hx hy _ hQ⟩
  show A.units+1+10<cLine
  lia
 ·obtain ⟨L',p1,p2,p3⟩:=SR.qE (S:=λx u=>gK X.K Hf (enc x) u) (λx y u h1 h2=>hs.inj _ _ _ _ _ I sb x y u h1 h2) (hs.lin L) nd pL hp ho
  obtain ⟨xs',r',v'⟩:=k8 p3
  obtain ⟨e,he⟩:=sortedHeap_at (vs:=us) (out:=out) ha
  have hl:out.toList.length=us.length:=hp.length_eq
  refine Nv ⟨_,rfl,hQ L' xs' _ p1 p2 r' ?_ ?_⟩
  ·have:=v'.length; lia
  ·refine I.laid (t':=s.toks) (λb o q=>?_) (Ny _) ⟨by have:=v'.length; lia,out.toList,e,v',by simpa using he⟩
   have lt:=NG q
   rw [sortedHeap_old (N4 lt) (by rw [size_push']; exact RO lt)]
   exact NC _ q
end
theorem qG (hc:X.calm=true) (I:Inv X aa σ H s) (sb:aH Hf H) (hA:X.A.units+60<cLine) (hv:s.heap.IsItemsView v d) (hH:Hf d=some (.frz o u)) (hd:HO.dct u)
 (hp:Paired (iJ X.K Hf) (L.map aB) (bD u)) (nd:L.Nodup)
 (hQ:∀ (L':List aL) (xs':List V) (s':Shared) (H' ai:Hp) (a:Addr),L'.Perm L->fU b L'->au X.K ai (L'.map aB) xs'->bw H Hf H' ai->H' a=none->Inv X aa σ (upd H' a (.lst xs')) s'->Q (.ref a) s') :
 wpAny (model X.prog X.w) X.A (call (.builtin "sorted") [.ref v] [(Nr "reverse",.bool b)]) Q E s:=by
 refine Rx Rh Ra Rb (args_sorted_rev _ _) ?_
 unfold Builtin.«sorted»
 refine Nt (m:=checkCount "sorted" 1 1 _) (Nv ?_)
 have h1:X.A.in1.handled=none:=I.ok.hd hc
 have h2:X.A.in1.frames=some X.stack:=I.ok.frames
 refine Nt (oq (X:=BX X X.A.in1) (H:=H) (Hf:=Hf) hc h1 h2 (gT I (λ_=>h1) h2) sb hv hH hd hp λus s' H' ai xs I' rv rr g hz=>?_)
 have I2:=eX I.ok I'
 have el:=rr.length
 have el2:=rv.length
 refine k9 (b:=b) u7 I2 g.b ?_ rr rv (by lia) nd λL' xs' s2 p1 p2 p3 p4 I3=>hQ L' xs' s2 H' ai _ p1 p2 p3 g (I2.hok.fresh (Ny _)) I3
 show X.A.units+1+20<cLine
 lia
section
variable {K:Nu} {c:Ctx P w K mg base k N sc bk}
theorem qH (hm:mg "sorted"=none) (h:aI c e ρ λd=>∃ L:List aL,d.pairs=some (L.map aB)/\Sd L.Nodup (∀ L':List aL,L'.Perm L->fU true L'->R (.ow (L'.map aB))))
 (hg:sc.names.lookup (Nr "sorted")=some .globalImplicit:=by walk_at "u")
 (hb:∀ env,attributeBase e "items" env (eval e env)=eval e env:=by intro _; walk_at "u") (hl:(ap.endLine == cp.line)=true:=by walk_at "u") :
 cW c (.Call (.Name "sorted" np) [.Call (.Attribute e "items" ap) [] [] cp] [⟨some "reverse",.Constant (.bool true) j kp1,kp⟩] pos) ρ R:=λσ H Hf Q S q aa s I=>by
 have hgl:Gl c.X "sorted":=by unfold Gl Ov; rw [c.esc]; exact hg
 refine O2 (dz I hgl (by rw [c.emg]; exact hm) (show bootBuiltins "sorted"=some (.builtin "sorted") by decide +kernel) ?_ (by decide) (by decide))
 refine Sk ?_
 have hpa:=bM (X:=c.X) (e:=.Call (.Attribute e "items" ap) [] [] cp) (es:=[]) (qF cY (hb _) hl) dD (by rfl)
 refine bC (hpa pos aa s σ H (λvs H1=>∃ x,vs=[x]/\∃ (v d:Addr) (o:Obj) (u:HO) (L:List aL) (H0 rM:Hp),x=.ref v/\H1=upd H0 v (.ext λh=>h.IsItemsView v d)/\H0 v=none/\rM d=some (.frz o u)/\HO.dct u/\Paired (iJ c.X.K rM) (L.map aB) (bD u)/\L.Nodup/\bw H Hf H0 rM/\∀ L':List aL,L'.Perm L->fU true L'->R (.ow (L'.map aB))) I ?_) λus s1 ⟨vs,H1,I1,r1,x,ex,v,d,o,u,L,H0,rM,e1,e2,e3,e4,e5,e6,e7,e8,e9⟩=>?_
 ·exact h σ H Hf _ S λd v H1 aQ ⟨L,hp,⟨hn,hR⟩⟩ rv g=>by
   obtain ⟨a,o,u,e1,e2,e3,e4⟩:=jf hp rv
   exact ⟨a,o,u,e1,g.b _ _ e2,e3,λvw hv=>⟨_,rfl,vw,a,o,u,L,H1,aQ,rfl,rfl,hv,e2,e3,e4,hn,g,hR⟩⟩
 ·subst ex e1 e2
  have eu:us=[.ref v]:=by
   cases r1 with
   | cons q1 q2=>cases q2; cases q1; rfl
  subst eu
  have g1:bw H0 rM (upd H0 v (.ext λh=>h.IsItemsView v d)) rM:=bw.dZ e8.b e3
  refine kws_cons (bC (tV (X:=c.X) (b:=true) (j:=j) (pos:=kp1) aa s1 σ _ (λx H1=>x=.bl true/\H1=upd H0 v (.ext λh=>h.IsItemsView v d)) I1 ⟨rfl,rfl⟩) λkv s2 ⟨x,H2,I2,rx,e10,e11⟩=>kws_nil ?_)
  subst e10 e11
  have ek:kv=.bool true:=rx
  subst ek
  obtain ⟨hvw,_⟩:=(show bg c.X.prog c.X.w _ s2.heap v (.ext λh=>h.IsItemsView v d) from I2.hok v _ af)
  refine qG (b:=true) c.calm I2 g1.b ?_ hvw e4 e5 e6 e7 λL' xs' s' H' ai a p1 p2 p3 g2 na I3=>?_
  ·have:=c.room.un
   have hc:(200:Nat)<=16 * k+200:=by lia
   lia
  ·have gg:=(e8.trans g1).trans g2
   exact ⟨.ref a,_,I3,rfl,q (.ow (L'.map aB)) _ _ ai (e9 L' p1 p2) ⟨a,xs',rfl,gg.s.free na,af,g2.b.free na,p3⟩ (gg.trans (bw.dZ gg.b na))⟩
end
theorem ou (hc:X.calm=true) (I:Inv X aa σ H s) (sb:aH Hf H) (hA:X.A.units+60<cLine) (hl:fH X.K Hf l ys) (hr:au X.K Hf (L.map aB) ys) (nd:L.Nodup)
 (hQ:∀ (L':List aL) (xs':List V) (s':Shared) (a:Addr),L'.Perm L->fU b L'->au X.K Hf (L'.map aB) xs'->H a=none->Inv X aa σ (upd H a (.lst xs')) s'->Q (.ref a) s') :
 wpAny (model X.prog X.w) X.A (call (.builtin "sorted") [.ref l] [(Nr "reverse",.bool b)]) Q E s:=by
 refine Rx Rh Ra Rb (args_sorted_rev _ _) ?_
 unfold Builtin.«sorted»
 refine Nt (m:=checkCount "sorted" 1 1 _) (Nv ?_)
 obtain ⟨its,rv,p,hz⟩:=I.list (sb.seq hl)
 have el:=rv.length
 refine Nt (collect_list p.isList ?_ (by lia))
 have I2:Inv X aa σ H { s with heap:=(s.heap.push (seqObj "list" #[] 0)).update s.heap.objs.size (N8 (· ++its.toArray)),toks:=s.toks }:=I.kept λc o e=>by
  rw [Pf _ _ _ _ (N4 (NG e))]
  exact NC _ e
 refine k9 (b:=b) u7 I2 sb ?_ hr rv (by lia) nd λL' xs' s2 p1 p2 p3 p4 I3=>hQ L' xs' s2 _ p1 p2 p3 (I2.hok.fresh (Ny _)) I3
 show X.A.units+1+20<cLine
 lia
section
variable {K:Nu} {c:Ctx P w K mg base k N sc bk}
theorem sJ (hm:mg "sorted"=none) (h:aI c e ρ λd=>∃ L:List aL,d=.lst (L.map aB)/\Sd L.Nodup (∀ L':List aL,L'.Perm L->fU true L'->R (.ow (L'.map aB))))
 (hg:sc.names.lookup (Nr "sorted")=some .globalImplicit:=by walk_at "u")
 (he:∀ env,starEach [e] env=(false,eval e env)::starEach [] env:=by intro _; walk_at "u")
 (hpl:∀ env,(backTo pos (starEach [e] env)).any (·.1)=false:=by intro _; walk_at "u") :
 cW c (.Call (.Name "sorted" np) [e] [⟨some "reverse",.Constant (.bool true) j kp1,kp⟩] pos) ρ R:=λσ H Hf Q S q aa s I=>by
 have hgl:Gl c.X "sorted":=by unfold Gl Ov; rw [c.esc]; exact hg
 refine O2 (dz I hgl (by rw [c.emg]; exact hm) (show bootBuiltins "sorted"=some (.builtin "sorted") by decide +kernel) ?_ (by decide) (by decide))
 refine Sk ?_ (by rw [he]; rfl) (hpl _)
 have hpa:=bM (X:=c.X) (e:=e) (es:=[]) cY dD (he _)
 refine bC (hpa pos aa s σ H (λvs H1=>∃ x,vs=[x]/\∃ (L:List aL) (aQ:Hp),Rep c.X.K aQ (.lst (L.map aB)) x/\L.Nodup/\bw H Hf H1 aQ/\∀ L':List aL,L'.Perm L->fU true L'->R (.ow (L'.map aB))) I ?_) λus s1 hh=>z2 hh λvs H1 hh=>w3 hh λI1 r1 hh=>hh.elim λx hh=>w2 hh λex hh=>z2 hh λL aQ hh=>w4 hh λe1 e7 e8 e9=>?_
 ·exact h σ H Hf _ S λd v H1 aQ ⟨L,hp,⟨hn,hR⟩⟩ rv g=>⟨_,rfl,L,aQ,by rw [<- hp]; exact rv,hn,g,hR⟩
 ·subst ex
  obtain ⟨a0,ys,rfl,hs,hr⟩:=bq.mp e1
  have eu:us=[.ref a0]:=by
   cases r1 with
   | cons q1 q2=>cases q2; cases q1; rfl
  subst eu
  refine kws_cons (bC (tV (X:=c.X) (b:=true) (j:=j) (pos:=kp1) aa s1 σ _ (λx H2=>x=.bl true/\H2=H1) I1 ⟨rfl,rfl⟩) λkv s2 ⟨x,H2,I2,rx,e10,e11⟩=>kws_nil ?_)
  subst e10 e11
  have ek:kv=.bool true:=rx
  subst ek
  refine ou (b:=true) c.calm I2 e8.b ?_ hs hr e7 λL' xs' s' a p1 p2 p3 na I3=>?_
  ·have:=c.room.un
   lia
  ·exact ⟨.ref a,_,I3,rfl,q (.ow (L'.map aB)) _ _ aQ (e9 L' p1 p2) ⟨a,xs',rfl,e8.s.free na,af,e8.b.free na,p3⟩ (e8.trans (bw.dZ e8.b na))⟩
end
end EV
namespace EV
open PySem PySem.Spec PyProof.Rows L2
noncomputable def trim (l:List Int):List Int:=(l.reverse.dropWhile λx=>x == 0).reverse
theorem gy (l):trim (l++[0])=trim l:=by simp [trim]
theorem ng (l) (h:x≠0):trim (l++[x])=l++[x]:=by simp [trim,List.dropWhile_cons,h]
theorem jk {l:List Int} (h:m<l.length):l.take (m+1)=l.take m++[l.getD m 0]:=by
 rw [OY h]; simp [OG,h]
theorem nh (h:m<l.length) (z:l.getD m 0=0) (e:trim (l.take (m+1))=trim l):trim (l.take m)=trim l:=by
 rw [jk h,z,gy] at e; exact e
theorem ni (h:m<l.length) (z:l.getD m 0≠0) (e:trim (l.take (m+1))=trim l):l.take (m+1)=trim l:=by
 rw [<- e,jk h,ng _ z]
theorem fV (l):(trim l).length<=l.length:=by
 unfold trim
 rw [S0]
 exact NI (List.dropWhile_sublist _).length_le (by simp)
theorem cB (l):trim (trim l)=trim l:=by
 unfold trim
 rw [List.reverse_reverse]
 congr 1
 generalize l.reverse=r
 induction r with
 | nil=>rfl
 | cons x r ih=>by_cases h:x == 0 <;> simp [List.dropWhile_cons,h,ih]
theorem zY (l:List α) (h:m<=l.length):EV.cutD l none (some (m:Int))=l.take m:=by
 unfold EV.cutD HT.bZ
 have e:¬ (m:Int)<0:=by lia
 simp only [e,if_false,Oz]
 simp [QY h]
section
variable {K:Nu} {c:Ctx P w K mg base k N sc bk}
theorem s_pop (hN:At N i x) (hi:At ρ i r) (hr:r.getL=some ds) (h:Sd (ds≠[]) (Nx ρ i nx (r.putL ds.dropLast)))
 (hs:∀ env,swapsWith (.Call (.Attribute (.Name x px) "pop" ap) [] [] cp) none pos.line env=pure false:=by intro _; walk_at "u") (hd:(x == ("__debug__":Str))=false:=by decide) (hcd:(x == ("__classdict__":Str))=false:=by decide)
 (hbase:∀ env,attributeBase (.Name x px) "pop" env (eval (.Name x px) env)=eval (.Name x px) env:=by intro _; walk_at "u")
 (hline:(ap.endLine == cp.line)=true:=by walk_at "u") :
 fP c (.Expr (.Call (.Attribute (.Name x px) "pop" ap) [] [] cp) pos) ρ nx p:=λσ H Hf D S o=>by
 obtain ⟨q,eq,rq⟩:=S.own hi.get (cz hr)
 obtain ⟨xs,h1,h2,h3⟩:=CL hr rq
 obtain ⟨hz,ρ',hs',hn⟩:=h
 have hl:=h3.length
 have hlen:0<xs.length:=by
  rw [<- hl]; exact List.length_pos_iff.mpr hz
 obtain ⟨y,hy⟩:∃ y,xs[xs.length - 1]?=some y:=⟨_,NX (by omega)⟩
 refine d8 (jT (yu SA PySem.F.slot_list_pop PySem.F.type_list_pop Gk (c.lX hN hd hcd) (hbase _) hline) (hs _)) ⟨_,eq,.inl ⟨rfl,xs,.inl (.inl h1)⟩,?_⟩
 refine ⟨q,xs,y,rfl,rfl,h1,hy,?_⟩
 refine o.nx _ _ Hf ρ' ?_ hn
 rw [hs'.eq]
 exact S.upd hi.get (cz hr) eq (fh S.sb h2) (iE hr rq af h2 h3.dropLast) (fj hr)
end
noncomputable def encA (A:List aL):List (List Key×D):=A.map λt=>(t.1.map NT,.int t.2)
theorem oA:∀ {l m:List Int},(l.map (NT:Int->Key))=m.map NT->l=m
 | [],[],_=>rfl
 | x::l,y::m,h=>by
  simp only [NF,List.cons.injEq,NT.injEq] at h
  rw [h.1,oA h.2]
 | [],_::_,h=>by simp at h
 | _::_,[],h=>by simp at h
theorem u9 (A) (l):bB (encA A) (l.map NT)=(bB A l).map D.int:=by
 induction A with
 | nil=>rfl
 | cons t A ih =>
  by_cases e:t.1=l
  ·rw [br e]
   show bB ((t.1.map NT,D.int t.2)::encA A) _=_
   rw [br (by rw [e])]; rfl
  ·rw [aW e,<- ih]
   show bB ((t.1.map NT,D.int t.2)::encA A) _=_
   rw [aW λz=>e (oA z)]
theorem Dq (A) (l) (n):putD (encA A) (l.map NT) (.int n)=encA (putD A l n):=by
 unfold putD
 rw [u9]
 by_cases h:(bB A l).isSome=true
 ·rw [if_pos h,if_pos (by rw [P7]; exact h)]
  unfold encA
  rw [Og,Og]
  refine Pe λt _=>?_
  simp only [R9]
  by_cases e:t.1=l
  ·rw [if_pos e,if_pos (by rw [e])]
  ·rw [if_neg e,if_neg λz=>e (oA z)]
 ·rw [if_neg h,if_neg (by rw [P7]; exact h)]
  unfold encA
  simp
theorem jl:∀ l:List Int,D.keys (l.map D.int)=some (l.map NT)
 | []=>rfl
 | x::l=>by
  simp only [NF]
  unfold D.keys
  rw [jl l]; rfl
theorem Dr (A:List aL) (l:List Int) (n:Int):(putD A l n).length<=A.length+1:=by
 unfold putD; split <;> simp
theorem Ds (A):(encA A).length=A.length:=by simp [encA]
theorem qI (l:List Int) (n:Int) (h:(A.map (·.1)).Nodup):((putD A l n).map (·.1)).Nodup:=by
 unfold putD
 split
 ·rw [Og]
  have e:(A.map ((·.1)∘λkv:aL=>if kv.1=l then (kv.1,n) else kv))=A.map (·.1):=Pe λt _=>by
   simp only [R9]; split <;> rfl
  rw [e]; exact h
 ·rename_i q
  rw [Oq,List.nodup_append]
  refine ⟨h,by simp,?_⟩
  intro a ha b hb
  simp at hb
  subst hb
  intro z
  subst z
  apply q
  obtain ⟨t,ht,e⟩:=Of.mp ha
  unfold bB
  rw [P7,List.find?_isSome]
  exact ⟨t,ht,decide_eq_true e⟩
theorem keys_nodup {A:List aL} (h:(A.map (·.1)).Nodup):A.Nodup:=by
 unfold List.Nodup at *
 rw [QT] at h
 exact h.imp λq z=>q (by rw [z])
noncomputable def fy (A:List aL) (t:aL):List aL:=putD A (trim t.1) ((bB A (trim t.1)).getD 0+t.2)
noncomputable def aP (ts:List aL):List aL:=ts.foldl fy []
theorem lg (ts) (t):aP (ts++[t])=fy (aP ts) t:=by simp [aP]
theorem oB (ts:List aL) (A):(ts.foldl fy A).length<=A.length+ts.length:=by
 induction ts generalizing A with
 | nil=>simp
 | cons t ts ih =>
  have h1:=ih (fy A t)
  have h2:=Dr A (trim t.1) ((bB A (trim t.1)).getD 0+t.2)
  simp only [OT,Oe]
  unfold fy at *
  lia
theorem eE (ts):(aP ts).length<=ts.length:=by
 have:=oB ts []
 simpa [aP] using this
theorem dP (ts):((aP ts).map (·.1)).Nodup:=by
 unfold aP
 have:∀ A:List aL,(A.map (·.1)).Nodup->((ts.foldl fy A).map (·.1)).Nodup:=by
  induction ts with
  | nil=>exact λA h=>h
  | cons t ts ih=>exact λA h=>ih _ (qI _ _ h)
 exact this [] (by simp)
theorem Dt (x):cU x x=false:=(j7 [x]).irr x (by simp)
theorem zZ (h:cU x y=true) (g:cU y z=true):cU x z=true:=(j7 [x,y,z]).tr x (by simp) y (by simp) z (by simp) h g
theorem qJ:∀ {L M:List aL},L.Perm M->fU true L->fU true M->L=M
 | [],M,h,_,_=>by rw [List.nil_perm] at h; exact h.symm
 | x::L,[],h,_,_=>by simp at h
 | x::L,y::M,h,h1,h2=>by
  unfold fU gE at h1 h2
  rw [Qw] at h1 h2
  by_cases e:x=y
  ·subst e
   rw [qJ ((List.perm_cons _).mp h) h1.2 h2.2]
  ·exfalso
   have hx:x∈M:=by
    have:=h.subset (NP)
    rcases NU.mp this with z | z
    ·exact absurd z e
    ·exact z
   have hy:y∈L:=by
    have:=h.symm.subset (NP)
    rcases NU.mp this with z | z
    ·exact absurd z.symm e
    ·exact z
   have a:=h1.1 y hy
   have b:=h2.1 x hx
   simp only [if_true] at a b
   have:=zZ a b
   rw [Dt] at this; cases this
noncomputable def wU (t:aL):List aL->List aL
 | []=>[t]
 | x::r=>if cU x t=true then t::x::r else x::wU t r
noncomputable def gW (L:List aL):List aL:=L.foldr wU []
theorem lu (t):∀ L:List aL,(wU t L).Perm (t::L)
 | []=>.refl _
 | x::r=>by
  unfold wU
  split
  ·exact .refl _
  ·exact ((lu t r).cons x).trans (.swap _ _ _)
theorem bQ:∀ L:List aL,(gW L).Perm L
 | []=>.refl _
 | t::L=>(lu t (gW L)).trans ((bQ L).cons t)
theorem Du (h:x≠y):cU x y=true\/cU y x=true:=(j7 [x,y]).tot x (by simp) y (by simp) h
theorem vc (t):∀ L:List aL,t∉L->fU true L->fU true (wU t L)
 | [],_,_=>Qp _ _
 | x::r,hn,h=>by
  have h':=h
  unfold fU gE at h'
  rw [Qw] at h'
  unfold wU
  by_cases e:cU x t=true
  ·rw [if_pos e]
   unfold fU gE
   rw [Qw]
   refine ⟨λy hy=>?_,h⟩
   simp only [if_true]
   rcases NU.mp hy with rfl | z
   ·exact e
   ·have:=h'.1 y z
    simp only [if_true] at this
    exact zZ this e
  ·rw [if_neg e]
   unfold fU gE
   rw [Qw]
   refine ⟨λy hy=>?_,vc t r (λz=>hn (NK _ z)) h'.2⟩
   rcases NU.mp ((lu t r).subset hy) with rfl | z
   ·simp only [if_true]
    rcases Du (x:=x) (y:=y) (λz=>hn (by rw [z]; exact NP)) with q | q
    ·exact absurd q e
    ·exact q
   ·exact h'.1 y z
theorem iO:∀ {L:List aL},L.Nodup->fU true (gW L)
 | [],_=>QV
 | t::L,h=>by
  rw [Pu] at h
  exact vc t _ (λz=>h.1 ((bQ L).subset z)) (iO h.2)
theorem oE (hn:L.Nodup) (hp:L'.Perm L) (hs:fU true L'):L'=gW L:=qJ (hp.trans (bQ L).symm) hs (iO hn)
noncomputable def nz (L:List aL):List aL:=L.filter λt=>t.2 != 0
theorem Aa (hn:L.Nodup):nz (gW L)=gW (nz L) :=
 oE (SO _ hn) ((bQ L).filter _) ((iO hn).filter _)
theorem encK (A):(Sl.oT (encA A)).qh=some (.fdT (A.map λt=>t.1.map NT) (A.map λt=>.int t.2)):=by
 show some _=some _
 unfold encA
 rw [Og,Og]; rfl
theorem nj (A:List aL):(D.fdT (A.map λt=>t.1.map NT) (A.map λt=>.int t.2)).pairs=some (A.map aB):=by
 show some _=some _
 congr 1
 rw [List.zipWith_map,List.zipWith_self]
 refine Pe λt _=>?_
 unfold aB
 congr 3
 rw [Og]; rfl
theorem Ab (h:r.wD=some (encA A)) (l):EU r (.tup (l.map .int)) ((bB A l).map D.int):=by
 rw [<- u9]; exact .t h (jl l)
theorem Ac (hz:A.length<sizeLine):CN (.oT (encA A)) (.tup (l.map .int)) (.int n) (.oT (encA (putD A l n))):=by
 rw [<- Dq]
 exact .t (r:=.oT (encA A)) rfl (jl l) (by rw [Ds]; exact hz)
theorem qK (o:Option Int):(o.map D.int).getD (.int 0)=.int (o.getD 0):=by cases o <;> rfl
end EV
namespace EV
open PySem PySem.Spec PySem.Calls PyProof.Rows L2
theorem oF {L:List Addr} (I:Inv X aa σ H s) (k:∀ b o,b∉L->s.heap.get? b=some o->h'.get? b=some o) (hf:∀ b∈L,fG X aa H b):Inv X aa σ H { s with heap:=h',toks:=t' }:=by
 have nit:∀ b u,H b=some u->b∉L:=λb u e z=>by rw [(hf b z).1] at e; cases e
 refine I.step (g':=s.gens) (d':=s.drawn) (ch:=L) (λb hb=>?_) (λb o _ _ hc e _=>k b o hc e) (λb o _ _ hc e _=>⟨o.slots,k b o hc e⟩) (λ_ _ _ _ n=>n)
  (λb o hc e=>⟨o,k b o hc e⟩) (λ_ _ e=>e) (λ_ _ _ e=>e) (λb ps e=>⟨#[],by rw [e]; simp⟩) (λm hm=>?_) (λb u e=>?_) I.bare
 ·obtain ⟨_,f1,_,f3,f4,f5⟩:=hf b hb
  exact ⟨f3,f1,f4,f5⟩
 ·obtain ⟨o,es,ep,ho,r⟩:=hm
  exact ⟨o,es,ep,k _ o (λz=>(hf _ z).2.1 rfl) ho,r⟩
 ·refine (I.hok b u e).stay (λc v hc q=>k c v ?_ q) (λ_ q=>q) λ_ _ q=>q
  rcases hc with z | z
  ·rw [z]; exact nit b u e
  ·exact nit c _ z
section
variable {K:Nu}
end
end EV
namespace EV
open PySem PySem.Spec PyProof.Rows L2
theorem oG {A:List aL} {l:List Int} {n:Int} {t:aL} (h:t∈putD A l n):t.1=l\/t∈A:=by
 unfold putD at h
 split at h
 ·obtain ⟨u,hu,e⟩:=Of.mp h
  split at e
  ·rename_i q; subst e; exact .inl q
  ·subst e; exact .inr hu
 ·rcases N3.mp h with q | q
  ·exact .inr q
  ·simp at q; subst q; exact .inl rfl
theorem oH (hl:∀ t∈ts,t.1.length<=n):∀ t∈aP ts,trim t.1=t.1/\t.1.length<=n:=by
 unfold aP
 suffices H:∀ A:List aL,(∀ t∈A,trim t.1=t.1/\t.1.length<=n)->∀ t∈ts.foldl fy A,trim t.1=t.1/\t.1.length<=n from H [] (by simp)
 induction ts with
 | nil=>exact λA h=>h
 | cons u ts ih =>
  refine λA h=>ih (λt ht=>hl t (NK _ ht)) _ λt ht=>?_
  rcases oG ht with e | e
  ·rw [e,cB]
   exact ⟨rfl,NI (fV _) (hl u NP)⟩
  ·exact h t e
noncomputable def aO (ts:List aL):List aL:=gW (nz (aP ts))
theorem vd (h:(A.map (·.1)).Nodup):((nz A).map (·.1)).Nodup:=List.Nodup.sublist (List.filter_sublist.map _) h
theorem nk (ts):(aO ts).Perm (nz (aP ts)):=bQ _
theorem qL (h:t∈aO ts):t∈aP ts/\t.2≠0:=by
 have:=(nk ts).subset h
 unfold nz at this
 rw [Q0] at this
 exact ⟨this.1,by simpa using this.2⟩
theorem fW (ts):(aO ts).length<=ts.length:=by
 rw [(nk ts).length_eq]
 exact NI (List.length_filter_le _ _) (eE ts)
end EV
namespace EV
open PySem PySem.Spec PySem.Calls PyProof.Rows L2
theorem Dv {K:Nu} {f:Int->Int->Int}:yR K (λxs H Q=>∃ i j,xs=[.int i,.int j]/\Q (.int (f i j)) H) (λds R=>∃ i j:Int,ds=[.int i,.int j]/\R (.int (f i j))):=by
 rintro ds vs H Hf Q R s rs ⟨i,j,rfl,hR⟩ q
 obtain ⟨v,r,rfl,r1,r2⟩:=aD.mp rs
 obtain ⟨v',r',rfl,r1',r2'⟩:=aD.mp r2
 rw [aC] at r2'
 subst r2'
 rw [aA] at r1 r1'
 subst r1 r1'
 exact ⟨i,j,rfl,q _ _ H Hf hR (aA.mpr rfl) (.refl s)⟩
section
variable {K:Nu} {c:Ctx P w K mg base k N sc bk}
theorem boot_max:bootBuiltins "max"=some (.builtin "max"):=by decide +kernel
theorem Hi (hm:mg "max"=none) (h:aI c a ρ λx=>aI c b ρ λy=>I2 (λi j=>R (.int (if j>i then j else i))) x y) (hg:sc.names.lookup (Nr "max")=some .globalImplicit:=by walk_at "u")
 (he:∀ env,starEach [a,b] env=(false,eval a env)::starEach [b] env:=by intro _; walk_at "u") (he2:∀ env,starEach [b] env=(false,eval b env)::starEach [] env:=by intro _; walk_at "u")
 (hpl:∀ env,(backTo pos (starEach [b] env)).any (·.1)=false:=by intro _; walk_at "u"):aI c (.Call (.Name "max" p) [a,b] [] pos) ρ R :=
 uz (wc c.calm) (Dv (f:=λi j=>if j>i then j else i)) hm boot_max (bz (h.imp λx h1=>bz (h1.imp λy ⟨i,j,e1,e2,hR⟩=>kF ⟨i,j,by rw [e1,e2],hR⟩) he2) he) hg (by decide) (by decide) he hpl
theorem E5 (h:aI c a ρ λx=>aI c b ρ λy=>I2 (λi j=>Sd (yj i j) (R (.int (i * 2 ^ j.toNat)))) x y):aI c (.BinOp a .LShift b pos) ρ R :=
 iA (nU F7 mO (h.imp λx hx=>hx.imp λy ⟨i,j,e1,e2,⟨hc,r⟩⟩=>⟨i,j,e1,e2,hc,_,rfl,r⟩))
theorem E6 (h:aI c a ρ λx=>aI c b ρ λy=>I2 (λi j=>Sd (0<=j) (R (.int (i / 2 ^ j.toNat)))) x y):aI c (.BinOp a .RShift b pos) ρ R :=
 iA (nU F8 mO (h.imp λx hx=>hx.imp λy ⟨i,j,e1,e2,⟨hc,r⟩⟩=>⟨i,j,e1,e2,hc,_,rfl,r⟩))
theorem Ad (h:aI c a ρ λx=>aI c b ρ λy=>I2 (λi j=>R (.int (Builtin.bitAnd i j))) x y):aI c (.BinOp a .BitAnd b pos) ρ R :=
 iA (nU F9 yJ (h.imp λx hx=>hx.imp λy ⟨i,j,e1,e2,r⟩=>⟨i,j,e1,e2,_,rfl,r⟩))
end
noncomputable abbrev Ln:=List (Key×D)->List D->(List (Key×D)->Prop)->Prop
noncomputable def Hj (K:Nu) (F:Ln):Sp:=λvs H Q _=>∃ Hf p kvs xs us ds B,vs=.ref p::us/\aH Hf H/\H p=some (.dK xs)/\Hf p=none/\lO K Hf kvs xs/\au K Hf ds us/\F kvs ds B /\
 ∀ kvs' H' ai xs',B kvs'->bw (del H p) Hf H' ai->H' p=some (.dK xs')->ai p=none->lO K ai kvs' xs'->Q .non H'
structure Ae (P:Program) (w:World) (K:Nu) (mg:Str->Option Value) (base:Heap) (k:Nat) (x:Str) (F:Ln):Prop where
 ex:∃ f fd ps,mg x=some (.ref f)/\Pa K (.ref f)=true/\Binds K fd ps []/\aY P w K mg base (cP P w) k f fd ps (Hj K F)
noncomputable def startM (q:Addr) (kvs:List (Key×D)) (N:List Str) (ds:List D):List Sl:=.aK q kvs::(ds.map .va++NY (N.length - (ds.length+1)) .un)
theorem wV {K:Nu} (r:au K Hf ds us) (sb:aH Hf H) (h1:H q=some (.dK xs)) (h2:Hf q=none) (h3:lO K Hf kvs xs) :
 eG K (del H q) Hf (L2.start N (.ref q::us)) H Hf (startM q kvs N ds):=by
 have hl:=r.length
 have rest:∀ (i:Nat) (r':Sl),(startM q kvs N ds)[i+1]?=some r'->r'≠.un->∃ d,ds[i]?=some d/\r'=.va d:=λi r' h hu=>by
  have h':(ds.map Sl.va++NY (N.length - (ds.length+1)) Sl.un)[i]?=some r':=by simpa [startM] using h
  by_cases w:i<ds.length
  ·rw [PZ (by simpa using w),NO,NX w] at h'
   cases h'
   exact ⟨_,by simp,rfl⟩
  ·rw [QK (by simp; lia)] at h'
   exact absurd (Sy (O1 h')) hu
 refine ⟨⟨λb o e=>(iD e).2,.refl _,sb,λ_ h _ _=>h⟩,by simp [L2.start,startM,hl],λi r' h hu=>?_,λi j r1 r2 p hne e1 e2 o1 o2=>?_⟩
 ·cases i with
  | zero =>
   have:r'=.aK q kvs:=by simpa [startM] using h.symm
   subst this
   exact ⟨.ref q,by simp [L2.start],q,xs,rfl,⟨iC,rfl⟩,h1,h2,h3⟩
  | succ i =>
   obtain ⟨d,hd,rfl⟩:=rest i r' h hu
   obtain ⟨x,e2,rx⟩:=r.get hd
   refine ⟨x,?_,rx⟩
   have hi:i<us.length:=(NJ.mp e2).1
   unfold L2.start
   rw [PZ (by simp; lia)]
   simp [e2]
 ·exfalso
  have own:∀ {i:Nat} {r:Sl},(startM q kvs N ds)[i]?=some r->r.owned=true->i=0:=λ{i r} h ho=>by
   cases i with
   | zero=>rfl
   | succ i =>
    obtain ⟨d,_,rfl⟩:=rest i r h (by rintro rfl; cases ho)
    cases ho
  exact hne ((own e1 o1).trans (own e2 o2).symm)
section
variable {K:Nu} {c:Ctx P w K mg base k N sc bk}
theorem Kf {st:Stmt} (Fu:dh K x qual st f fd) (SV:FS N ps st) (ar:∀ kvs ds B,F kvs ds B->ds.length+1=ps.length)
 (body:∀ (c:Ctx P w K mg base k N (aR st) false),c.X.xe=(λ_ _=>False)->∀ q kvs ds B,F kvs ds B->aG c (aj st) (startM q kvs N ds) (λρ=>∃ kvs' r,B kvs'/\ρ=.aK q kvs'::r) { rt:=λ_=>False }) :
 aY P w K mg base (cP P w) (k+1) f fd ps (Hj K F):=by
 obtain ⟨Sc,Vi⟩:=EL SV
 obtain ⟨oc,od,kV,doc,pm,an,cdv,ct,osl,rfl,lk,hcd⟩:=Fu.ex
 refine EC lk hcd Sc (λvs H Q E hh=>z4 hh λHf q kvs xs hh=>z3 hh λus ds B hh=>w8 hh λe _ _ _ _ rs hF _=>by rw [e,Oe,<- rs.length]; exact ar _ _ _ hF) λA outer s H vs Q E hr hh=>z4 hh λHf q kvs xs hh=>z3 hh λus ds B hh=>w8 hh λe sb h1 h2 h3 rs hF hq=>?_
 subst e
 let X:Cx:=(r6 (cP P w) P w K mg base N qual (aR st) f cdv A outer s H E).IM
 let c:Ctx P w K mg base k N (aR st) false :=
  { X:=X,eP:=rfl,ew:=rfl,eK:=rfl,emg:=rfl,eb:=rfl,eN:=rfl,esc:=rfl,calm:=rfl,top:=λ_=>⟨rfl,rfl,rfl⟩,cb:=λ_ _ _ _ _ I x c h=>I.ok.cab x c rfl h,fn:=λ_ _=>.inl rfl,B:=del H q,room:=hr,nd:=Sc.nd,vis:=Vi,Hf:=Hf,RX:=λ_ _=>False,
    exc:=λ_ _ _ _ _ _ _ _ _ _ _ _ h _ _=>h.elim,RM:=λ_ _=>False,mde:=λ_ _ _ _ _ _ _ _ _ _ _ _ h _=>h.elim }
 refine ⟨_,rS.IM (t:=IV X (aj st)) (se (X:=X)),?_⟩
 refine body c rfl q kvs ds B hF (L2.start N (.ref q::us)) H Hf _ (wV rs sb h1 h2 h3) ⟨λσ H' ai ρ S ⟨kvs',r,hB,e⟩=>?_,λr v H' ai g rv e=>e.elim,λ_ _ _ _ _ h=>h.elim,λ_ _ _ _ _ h=>h.elim⟩
 subst e
 obtain ⟨v,_,q',xs',_,⟨_,rfl⟩,a1,a2,a3⟩:=S.at_ 0 _ rfl (by simp)
 exact hq kvs' H' ai xs' hB S.bas a1 a2 a3
theorem oJ (h:Ae P w K mg base j x F) (hj:j<=k) (hN:At N i y) (hi:At ρ i r) (hr:r.su=some kvs)
 (ha:pX c es ρ λds=>∃ B,F kvs ds B/\∀ kvs',B kvs'->Nx ρ i nx (r.qa kvs'))
 (hg:sc.names.lookup x=some .globalImplicit:=by walk_at "u") (hdb:(x == ("__debug__":Str))=false:=by decide) (hd:(y == ("__debug__":Str))=false:=by decide) (hcd:(y == ("__classdict__":Str))=false:=by decide)
 (he:∀ env,starEach (.Name y py::es) env=(false,eval (.Name y py) env)::starEach es env:=by intro _; walk_at "u")
 (hpl:∀ env,(backTo cp (starEach es env)).any (·.1)=false:=by intro _; walk_at "u")
 (hs:∀ env,swapsWith (.Call (.Name x px) (.Name y py::es) [] cp) none pos.line env=pure false:=by intro _; walk_at "u"):fP c (.Expr (.Call (.Name x px) (.Name y py::es) [] cp) pos) ρ nx p:=λσ H Hf D S o=>by
 obtain ⟨q,eq,rq⟩:=S.own hi.get (kH hr)
 obtain ⟨xs,h1,h2,h3⟩:=wF hr rq
 refine d8 (jT cY (hs _)) (show bE c.X _ σ H (λ_ H'=>D.nx σ H') from λaa s I=>?_)
 obtain ⟨f,fd,ps,hm,hk,hb,hF⟩:=h.ex
 refine O2 (nK I (by unfold Gl Ov; rw [c.esc]; exact hg) (by rw [c.emg]; exact hm) ?_ hdb)
 have hA:bA c.X (.Name y py::es) σ H (λvs H1=>∃ us aQ ds B,vs=.ref q::us/\F kvs ds B/\(∀ kvs',B kvs'->Nx ρ i nx (r.qa kvs'))/\au c.X.K aQ ds us/\bw H Hf H1 aQ) :=
  yG (bM (c.lX hN hd hcd) Gy (he _)) ⟨_,eq,ha σ H Hf _ S λds vs H1 aQ ⟨B,hF,hn⟩ rs g=>⟨vs,aQ,ds,B,rfl,hF,hn,rs,g⟩⟩
 refine S6 (h₀:=c.X.base) I.ok.mod.kin (by rw [c.eK]; exact hk) (bC (hA cp aa s I) λus s1 hh=>z2 hh λvs H1 hh=>w3 hh λI1 rv hh=>z4 hh λus' aQ ds B hh=>w5 hh λev hF' hn rs g=>⟨I1.BQ,?_⟩) (he _) (hpl _)
 subst ev
 have S1:=S.cC g
 have rq1:=rq.cC g
 obtain ⟨xs1,a1,a2,a3⟩:=wF hr rq1
 have hF2:aY c.X.prog c.X.w c.X.K c.X.mg c.X.base (cP c.X.prog c.X.w) k f fd ps (Hj c.X.K F):=by rw [c.eP,c.ew,c.eK,c.emg,c.eb]; exact hF.mono hj
 have tR:Hj c.X.K F (.ref q::us') H1 (λ_ H'=>D.nx σ H') (λ_ _ _=>False):=by
  refine ⟨aQ,q,kvs,xs1,us',ds,B,rfl,g.b,a1,a2,a3,rs,hF',λkvs' H' ai xs' hB g2 b1 b2 b3=>?_⟩
  obtain ⟨ρ',hs',hn⟩:=hn kvs' hB
  refine o.nx σ H' ai ρ' ?_ hn
  rw [hs'.eq]
  exact S1.upd hi.get (kH hr) eq g2 (qb hr rq1 b1 b2 b3) (kI hr)
 have hl:us.length=ps.length:=by rw [<- rv.length]; exact hF2.len _ _ _ _ tR
 have hb':Binds c.X.K fd ps []:=by rw [c.eK]; exact hb
 have hb2:=hb' s1 us I1.BQ (by simpa using hl)
 rw [OD] at hb2
 refine wpAny_call (Rc (hF2.run c.X.A c.X.stack s1 H1 ⟨us,[]⟩ us _ _ _ c.room I1.Gg hb2 rv tR) λr' s' hq=>?_)
 cases r' with
 | error e =>
  obtain ⟨a,C,H',rfl,hE,h⟩:=hq
  exact h.elim
 | ok fl =>
  cases fl with
  | ret u=>exact I1.after hq
  | next=>exact OF hq
  | brk=>exact OF hq
  | cont=>exact OF hq
end
theorem au.many {K:Nu} (h:au K H ds xs):∀ k:Nat,au K H (NY k ds).flatten (NY k xs).flatten
 | 0=>aC.mpr rfl
 | k+1=>by
  rw [O9,O9,P8,P8]
  exact h.append (au.many h k)
theorem au.set {K:Nu}:∀ {ds:List D} {xs:List V} (i:Nat) {d:D} {v:V},au K H ds xs->Rep K H d v->au K H (ds.set i d) (xs.set i v)
 | [],_,i,_,_,h,_=>by rw [aC] at h; subst h; exact aC.mpr rfl
 | e::ds,_,i,d,v,h,q=>by
  obtain ⟨x,r,rfl,h1,h2⟩:=aD.mp h
  cases i with
  | zero=>exact .cons q h2
  | succ i=>exact .cons h1 (au.set i h2 q)
theorem Af {n k:Nat} {i:Int} (hi:i=k) (e:s.heap.get? l=some { cls:=.type "list",data:=.seq items n }) (hk:k<items.size) (hf:items.size<2 ^ 63)
 (hQ:Q () { s with heap:=s.heap.update l (N8 λxs=>xs.setIfInBounds k v) }):wpAny (model prog w) A (setItem (.ref l) (.int i t) v) Q E s:=by
 have ht:s.TypeIs (.ref l) "list":=⟨_,e,rfl⟩
 have hx:items[k]?=some items[k]:=N2 hk
 unfold setItem
 refine ON (Nt (Te ht (by decide) ?_))
 refine Nt (Pp (name:=Nr "__setitem__") ht PySem.slot_list_setitem (O4 PySem.slot_list_setitem ht PySem.entry_list_setitem ?_ (PySem.args_list_setitem _ _ _)))
 show wpAny _ _ (Builtin.List.listSubscript? (.int i t) >>= _) _ _ s
 refine Nt (wpAny_listSubscript_int (fitsIndex_of (show 0<=i by lia) (show i<2 ^ 63 by lia)) ?_)
 clear hf
 subst hi
 show wpAny _ _ ((seqItemAt l k >>= λr=>pure (r.map λx=>(k,x))) >>= _) _ _ s
 refine Nt (Nt (wpAny_seqItemAt e rfl (Nv ?_)))
 rw [hx]
 show wpAny _ _ (setSeqItemAt l k v >>= _) _ _ s
 refine Nt (wpAny_setSeqItemAt e rfl ?_)
 first
  | exact Nt (Nv (Nv ⟨OC,rfl,Nv hQ⟩))
  | exact Nv ⟨OC,rfl,Nv hQ⟩
noncomputable def Kg:FQ:=λo i v H Q=>∃ l xs k,o=.ref l/\i=.int (k:Nat)/\H l=some (.lst xs)/\k<xs.length/\Q (upd H l (.lst (xs.set k v)))
theorem Ag:Jj X Kg:=by
 intro aa s σ H o i v ov iv u Q I r1 r2 r3 h
 obtain ⟨l,xs,k,rfl,rfl,hH,hk,q⟩:=h
 cases r1
 obtain ⟨t,rfl⟩:=r2
 obtain ⟨z,its,n,r,hl,e⟩:=I.nR hH
 have hbig:xs.length<2 ^ 63:=Pg z (by decide)
 refine Af rfl e (by rw [NR,<- hl]; exact hk) (by rw [NR,<- hl]; exact hbig) ⟨_,I.pM (its':=its.set k u) (t':=s.toks) hH e ?_ (Vals.set r3 k r) (by rw [List.length_set]; exact z),q⟩
 show its.toArray.setIfInBounds k u=(its.set k u).toArray
 simp
theorem Dw:LZ X "int.bit_length" (λx vs H Q=>∃ i,x=.int i/\vs=[]/\Q (.int (OH i:Nat)) H):=by
 intro aa s σ H x xs v us Q I r1 r2 h
 obtain ⟨i,rfl,rfl,q⟩:=h
 obtain ⟨t,rfl⟩:=r1
 cases r2
 exact PyProof.Rows.call_int_bit_length ⟨.int (OH i:Nat),H,I.tok _,⟨_,rfl⟩,q⟩
section
variable {K:Nu} {c:Ctx P w K mg base k N sc bk}
theorem Ah (h:aI c e ρ (I1 λi=>R (.int (OH i:Nat)))) (hbase:∀ env,attributeBase e "bit_length" env (eval e env)=eval e env:=by intro _; walk_at "u") (hline:(ap.endLine == cp.line)=true:=by walk_at "u") :
 aI c (.Call (.Attribute e "bit_length" ap) [] [] cp) ρ R:=λσ H Hf Q S q =>
 bO (yu PySem.F.plainAttrs_int PySem.F.slot_int_bit_length PySem.F.type_int_bit_length Dw cY (hbase _) hline) (h σ H Hf _ S λd v H' ai ⟨i,e,hR⟩ r g=>by
  subst e
  rw [aA] at r; subst r
  exact ⟨rfl,i,rfl,rfl,q _ _ H' ai hR (aA.mpr rfl) g⟩)
theorem E7 {R:Sl->Prop} (h:cW c a ρ λr=>∃ ds,r=.ow ds/\aI c b ρ (I1 λn=>Sd ((0<=n/\n<2 ^ 63)/\ds.length * n.toNat<=sizeLine) (R (.ow (NY n.toNat ds).flatten)))):cW c (.BinOp a .Mult b pos) ρ R:=λσ H Hf Q S q =>
 bO (EB Gm cY cY) (h σ H Hf _ S λr v H1 aQ ⟨ds,er,h1⟩ rr g1=>h1 σ H1 aQ _ (S.cC g1) λdn u H2 cO ⟨n,en,⟨⟨n0,n1⟩,hz⟩,hR⟩ rn g2=>by
  subst er en
  rw [aA] at rn; subst rn
  obtain ⟨l,xs,rfl,fl,k1,k2,k3⟩:=rr
  have k1':=g2.s _ _ k1
  refine ⟨l,n,xs,rfl,rfl,k1',by lia,n1,by rw [<- k3.length]; exact hz,λp hp=>?_⟩
  have g3:=bw.dZ (o:=.lst (NY n.toNat xs).flatten) g2.b hp
  exact q _ _ _ _ hR ⟨p,_,rfl,(g1.trans g2).s.free hp,af,g2.b.free hp,(k3.mono g2.f).many _⟩ ((g1.trans g2).trans g3))
theorem Hl (hN:At N i x) (hi:At ρ i r) (hr:r.getL=some ds) (h:aI c e ρ λdv=>aI c b ρ λdk=>∃ m:Nat,dk=.int m/\Sd (m<ds.length) (Nx ρ i nx (r.putL (ds.set m dv))))
 (hs:∀ env,swapsWithSole [.Subscript (.Name x px) b tp] e pos.line env=pure false:=by intro _; walk_at "u") (hw:∀ env,swappedStores [.Subscript (.Name x px) b tp] e env=pure none:=by intro _; walk_at "u")
 (h1:∀ env,(assignEach [.Subscript (.Name x px) b tp] env).map (·.2)=[assign (.Subscript (.Name x px) b tp) env]:=by intro _; walk_at "u")
 (ha:∀ env v,assign (.Subscript (.Name x px) b tp) env v=(do
   let ov <- holding [v] (eval (.Name x px) env)
   let iv <- holding [v,ov] (eval b env)
   standAt tp
   holding [v,ov,iv] (setItem ov iv v)
   release [v,ov,iv] []):=by intro _ _; walk_at "u")
 (hd:(x == ("__debug__":Str))=false:=by decide) (hcd:(x == ("__classdict__":Str))=false:=by decide):fP c (.Assign [.Subscript (.Name x px) b tp] e pos) ρ nx p:=λσ H Hf D S o=>by
 obtain ⟨q,eq,rq⟩:=S.own hi.get (cz hr)
 refine d8 (FW cY (FU (c.lX hN hd hcd) cY Ag (ha _)) (hs _) (hw _) (h1 _)) (h σ H Hf _ S λdv v H1 aQ h2 rv g1=>⟨_,eq,h2 σ H1 aQ _ (S.cC g1) λdk y H2 cO ⟨m,em,hm,ρ',hs',hn⟩ ry g2=>?_⟩)
 subst em
 rw [aA] at ry; subst ry
 have g:=g1.trans g2
 obtain ⟨xs,k1,k2,k3⟩:=CL hr (rq.cC g)
 refine ⟨q,xs,m,rfl,rfl,k1,by rw [<- k3.length]; exact hm,o.nx _ _ cO ρ' ?_ hn⟩
 rw [hs'.eq]
 exact (S.cC g).upd hi.get (cz hr) eq (fh g.b k2) (iE hr (rq.cC g) af k2 (k3.set m (Rep.mono g2.f _ rv))) (fj hr)
end
theorem gX {K:Nu}:∀ {ns:List Int} {xs:List V},au K H (ns.map D.int) xs->xs=ns.map V.int
 | [],xs,h=>by rw [Pb,aC] at h; subst h; rfl
 | b::bs,xs,h=>by
  rw [NF,aD] at h
  obtain ⟨x,r,rfl,h1,h2⟩:=h
  rw [aA] at h1
  rw [h1,gX h2]; rfl
theorem fX {ns:List Int} {us:List Value} (h:Vals (ns.map V.int) us) (i:Nat) (v:Value) (e:us.toArray[i]?=some v):∃ t,v=.int (ns.getD i 0) t:=by
 have e':us[i]?=some v:=by simpa using e
 have hi:i<ns.length:=by
  have:=(NJ.mp e').1
  have l:=h.length
  rw [ND] at l
  omega
 obtain ⟨u,hu,r⟩:=h.get (i:=i) (x:=.int (ns.getD i 0)) (by simp [OG,hi])
 rw [e'] at hu; cases hu
 exact r
theorem ly (I:Inv X aa σ H s) (hq:fH X.K H p xs) :
 ∃ its:List Value,Vals xs its/\s.heap.IsList p its.toArray/\p<s.heap.objs.size:=by
 obtain ⟨its,rv,pl,hz⟩:=I.list hq
 exact ⟨its,rv,pl.isList,by obtain ⟨o,e,_⟩:=pl.isList; exact NG e⟩
theorem nq (I:Inv X aa σ H s) (hk:∀ b o,b∉[s.heap.objs.size]->(s.heap.push ob).get? b=some o->h'.get? b=some o):Inv X aa σ H { s with heap:=h',toks:=tk } :=
 I.kept (h':=h') (t':=tk) λb u e=>hk b u (by simpa using N4 (NG e)) (NC _ e)
theorem wW (hc:X.calm=true):fL X (.builtin "max") (λxs H Q=>∃ (p:Addr) (ns:List Int),xs=[.ref p]/\ns≠[]/\fH X.K H p (ns.map V.int)/\∀ m∈ns,(∀ n∈ns,n<=m)->Q (.int m) H):=by
 intro aa s σ H xs us Q I r h
 obtain ⟨p,ns,rfl,hne,hq,q⟩:=h
 obtain ⟨u,rfl,rx⟩:=vals1 r
 cases rx
 obtain ⟨its,rv,pl,hlt⟩:=ly I hq
 have hn:its.toArray.size=ns.length:=by have l:=rv.length; rw [ND] at l; simp [l]
 have hpos:0<ns.length:=List.length_pos_iff.mpr hne
 refine call_max_walk (Tg pl ?_)
 have hh:X.A.in1.handled=none:=I.ok.hd hc
 refine ⟨_,_,_,_,_,_,_,rfl,Walks.list hh s.heap.objs.size p (N4 hlt) its.toArray,⟨⟨_,NL _ rfl,rfl,rfl⟩,pl.at λo e=>NC _ e⟩,?_,by rw [hn]; exact hpos,CmpOf.ints_gt (λi=>ns.getD i 0) (fX rv),?_⟩
 ·intro b hb
  show b<(s.heap.push _).objs.size
  rw [Py]
  simp only [NU,Qz,or_false] at hb
  rcases hb with rfl | rfl
  ·exact P9 _
  ·exact RO hlt
 ·intro v h' tk hP hk
  obtain ⟨t,rfl⟩:=fX rv _ _ hP
  obtain ⟨b1,b2⟩:=argBest_gt (λi=>ns.getD i 0) (its.toArray.size - 1)
  rw [hn] at b1 b2 |-
  have J:=nq (s:=s) (tk:=tk) I hk
  refine ⟨.int _,H,J,⟨_,rfl⟩,q _ ?_ λn hm=>?_⟩
  ·rw [OG,NX (by omega)]
   exact Om _
  ·obtain ⟨j,hj,rfl⟩:=List.getElem_of_mem hm
   have:=b2 j (by omega)
   rw [show ns.getD j 0=ns[j] by simp [OG,hj]] at this
   exact this
theorem ve (ns:List Int):∀ j,j<=ns.length->preSum (λi=>ns.getD i 0) j=(ns.take j).sum
 | 0,_=>rfl
 | j+1,h=>by
  show preSum (λi=>ns.getD i 0) j+ns.getD j 0=_
  rw [ve ns j (by omega),OY (by omega),QB]
  simp [OG,show j<ns.length by omega]
theorem wX (hc:X.calm=true):fL X (.builtin "sum") (λxs H Q=>∃ (p:Addr) (ns:List Int),xs=[.ref p]/\fH X.K H p (ns.map V.int)/\Q (.int ns.sum) H):=by
 intro aa s σ H xs us Q I r h
 obtain ⟨p,ns,rfl,hq,q⟩:=h
 obtain ⟨u,rfl,rx⟩:=vals1 r
 cases rx
 obtain ⟨its,rv,pl,hlt⟩:=ly I hq
 have hn:its.toArray.size=ns.length:=by have l:=rv.length; rw [ND] at l; simp [l]
 refine call_sum_walkG (Tg pl ?_)
 have hh:X.A.in1.handled=none:=I.ok.hd hc
 refine ⟨_,_,_,_,_,_,λi=>ns.getD i 0,rfl,Walks.list hh s.heap.objs.size p (N4 hlt) its.toArray,⟨⟨_,NL _ rfl,rfl,rfl⟩,pl.at λo e=>NC _ e⟩,?_,fX rv,?_⟩
 ·intro b hb
  show b<(s.heap.push _).objs.size
  rw [Py]
  simp only [NU,Qz,or_false] at hb
  rcases hb with rfl | rfl
  ·exact P9 _
  ·exact RO hlt
 ·intro h' tk t' hk
  rw [hn,ve ns _ (Ny _),OM]
  have J:=nq (s:=s) (tk:=tk) I hk
  exact ⟨.int ns.sum,H,J,⟨_,rfl⟩,q⟩
section
variable {K:Nu} {c:Ctx P w K mg base k N sc bk}
theorem boot_sum:bootBuiltins "sum"=some (.builtin "sum"):=by decide +kernel
theorem wY {Z:List Int->Int->Prop} (hr:∀ (p:Addr) (ns:List Int) H Q,fH K H p (ns.map V.int)->(∀ m,Z ns m->Q (.int m) H)->ns≠[]->r [.ref p] H Q) :
 yR K r (λds R=>∃ ns:List Int,ns≠[]/\ds=[.lst (ns.map D.int)]/\∀ m,Z ns m->R (.int m)):=by
 rintro ds vs H Hf Q R s rs ⟨ns,hne,rfl,hR⟩ q
 obtain ⟨v,rfl,rv⟩:=pY rs
 rw [bq] at rv
 obtain ⟨a,xs,rfl,h1,h2⟩:=rv
 rw [gX h2] at h1
 exact hr a ns H Q (s.seq h1) (λm hm=>q _ _ H Hf (hR m hm) (aA.mpr rfl) (.refl s)) hne
theorem Ai (hm:mg "max"=none) (h:aI c e ρ λx=>∃ ns:List Int,ns≠[]/\x=.lst (ns.map D.int)/\∀ m,(m∈ns/\∀ n∈ns,n<=m)->R (.int m)) (hg:sc.names.lookup (Nr "max")=some .globalImplicit:=by walk_at "u")
 (he:∀ env,starEach [e] env=(false,eval e env)::starEach [] env:=by intro _; walk_at "u"):aI c (.Call (.Name "max" p) [e] [] pos) ρ R :=
 uz (wW c.calm) (wY (Z:=λns m=>m∈ns/\∀ n∈ns,n<=m) λp ns H Q h q hne=>⟨p,ns,rfl,hne,h,λm h1 h2=>q m ⟨h1,h2⟩⟩) hm boot_max
  (bz (h.imp λd ⟨ns,hne,e,hR⟩=>kF ⟨ns,hne,by rw [e],hR⟩) he) hg (by decide) (by decide) he (by intro _; walk_at "u")
theorem Ho (hm:mg "sum"=none) (h:aI c e ρ λx=>∃ ns:List Int,x=.lst (ns.map D.int)/\R (.int ns.sum)) (hg:sc.names.lookup (Nr "sum")=some .globalImplicit:=by walk_at "u")
 (he:∀ env,starEach [e] env=(false,eval e env)::starEach [] env:=by intro _; walk_at "u"):aI c (.Call (.Name "sum" p) [e] [] pos) ρ R :=
 uz (wX c.calm) (q:=λds R=>∃ ns:List Int,ds=[.lst (ns.map D.int)]/\R (.int ns.sum)) (by
  rintro ds vs H Hf Q R s rs ⟨ns,rfl,hR⟩ q
  obtain ⟨v,rfl,rv⟩:=pY rs
  rw [bq] at rv
  obtain ⟨a,xs,rfl,h1,h2⟩:=rv
  rw [gX h2] at h1
  exact ⟨a,ns,rfl,s.seq h1,q _ _ H Hf hR (aA.mpr rfl) (.refl s)⟩) hm boot_sum (bz (h.imp λd ⟨ns,e,hR⟩=>kF ⟨ns,by rw [e],hR⟩) he) hg (by decide) (by decide) he (by intro _; walk_at "u")
end
section
variable {prog:Program} {w:World} {A:Around} {E:Value->Shared->Prop} {s:Shared}
variable {jt tp:Addr} {i:Nat} {items:Array Value}
theorem nextT (hh:A.handled=none) (h1:s.heap.IsTupleIter jt tp i) (h2:s.heap.IsTuple tp items)
 (hv:∀ v,items[i]?=some v->∀ h',h'.IsTupleIter jt tp (i+1)->O3 jt s.heap h'->Q v { s with heap:=h' })
 (hn:items[i]?=none->∀ h' e,PN jt s.heap h'->(∃ o,h'.get? e=some o/\o.cls=.type "StopIteration")->E (.ref e) { s with heap:=h' }) :
 wpAny (model prog w) A (Qo (.ref jt)) Q E s:=by
 obtain ⟨ob,hob,hcb,hdb⟩:=id h1
 obtain ⟨ot,hot,_,m,hdt⟩:=id h2
 unfold Qo
 refine Nt (Pp (name:=Nr "__next__") h1.typeIs F.slot_tuple_iterator_next (O4 F.slot_tuple_iterator_next h1.typeIs F.entry_tuple_iterator_next ?_ (F.args_tuple_iterator_next_1 _)))
 show wpAny _ _ (field (.ref jt) 0 >>= _) _ _ s
 refine Nt (Pc hob hdb (x:=.ref tp) rfl ?_)
 show wpAny _ _ (if (NW tp == OC)=true then _ else _) _ _ s
 rw [if_neg (show ¬ ((NW tp == OC)=true) from NH)]
 show wpAny _ _ (field (.ref jt) 1 >>= _) _ _ s
 refine Nt (Pc hob hdb (x:=.int i 0) rfl ?_)
 show wpAny _ _ (seqItems? (.ref tp) >>= _) _ _ s
 refine Nt (wpAny_seqItems hot hdt ?_)
 rw [Oz]
 dsimp only
 cases hx:items[i]? with
 | some v =>
  have q:=hv v hx (s.heap.update jt (Obj.mapFields λvs=>vs.setIfInBounds 1 (rawInt ((i:Int)+1)))) ⟨_,Heap.get?_update_self _ hob (Obj.isFreed_of_fields (RI hdb _)),(Obj.cls_mapFields ..).trans hcb,by rw [RI hdb]; simp [rawInt]⟩ (QO ..)
  dsimp only
  exact Nt (Q7 hob hdb (by simp) (Nv ⟨v,rfl,Nv q⟩))
 | none =>
  dsimp only
  refine Nt (OO (Nt (Q7 hob hdb (by simp) (show wpAny _ _ (newExc (.type "StopIteration") [] >>= _) _ _ _ from Nt ?_))))
  simp only [newExc,newTuple]
  refine Nt (OJ (Nt (m:=firstArgMember _ _) (wpAny_of_eq (a:=OC) (by first | rfl | (simp only [firstArgMember]; rfl)) (OJ ?_ (by size_fits)))) (by size_fits))
  simp only [raiseNew]
  refine Nt (wpAny_handled ?_)
  rw [show A.in1.handled=none from hh]
  exact Nt (Nv (wpAny_throw (hn hx _ _ (((QO ..).extBut.push _).push _) ⟨_,NL _ rfl,rfl⟩)))
theorem Hq (hh:A.handled=none) (jt tp:Addr) (hne:tp≠jt) (items:Array Value) :
 Draws prog w A jt [jt,tp] items.size (λi v=>items[i]?=some v) (λi h=>h.IsTupleIter jt tp i/\h.IsTuple tp items) where
 live:=λ_ _ ⟨⟨o,ho,_⟩,_⟩=>⟨o,ho⟩
 frame:=λ_ _ _ ⟨⟨o,e,r⟩,⟨o',e',r'⟩⟩ hk=>⟨⟨o,hk jt (by simp) o e,r⟩,o',hk tp (by simp) o' e',r'⟩
 item:=λi s Q E hi ⟨s1,s2⟩ q=>nextT hh s1 s2 (λv hv h' a b=>q v h' s.toks hv ⟨a,s2.extBut b.extBut hne⟩ b) λhx=>by
  rw [N2 hi] at hx; cases hx
 done:=λs Q E ⟨s1,s2⟩ q=>nextT hh s1 s2 (λv hv=>by simp at hv) λ_=>q
end
set_option maxHeartbeats 1000000 in
theorem qM (tp) (items) (n) (dc) (sl) :
 Meets (Builtin.«enumerate.__new__» ⟨[.type "enumerate",.ref tp],[]⟩) (λ_ R s=>s.heap.get? tp=some { cls:=.type "tuple",dict:=dc,data:=.seq items n,slots:=sl } /\
  R (.ok (.ret (.ref (s.heap.push { cls:=.type "tuple_iterator",data:=.fields #[.ref tp,.int 0 0] }).objs.size)))
   { s with heap:=(s.heap.push { cls:=.type "tuple_iterator",data:=.fields #[.ref tp,.int 0 0] }).push { cls:=.type "enumerate",data:=.fields #[.none,.bool false,.ref s.heap.objs.size,rawInt 0,.none,.none] } }) :=
 .of_wp λprog w A R ⟨hp,g,d,tk,os⟩ ⟨hl,h⟩=>by
  have hz:=sub_enumerate
  have hT:Heap.IsTuple (Shared.heap ⟨hp,g,d,tk,os⟩) tp items:=⟨_,hl,rfl,n,rfl⟩
  wp_walk using Rv hl
  refine wpAny_stack_any λst=>Nv ?_
  split
  ·rename_i k _ _ _ _ _
   cases (k == Ou "enumerate") <;> (wp_walk using Rv hl,S3 hT; exact ⟨_,rfl,h⟩)
  ·wp_walk using Rv hl,S3 hT; exact ⟨_,rfl,h⟩
theorem sL (hT:s.heap.IsTuple tp items)
 (h:∀ h',IsEnum h' (s.heap.objs.size+1) s.heap.objs.size 0 .none->h'.IsTupleIter s.heap.objs.size tp 0->(∀ b o,s.heap.get? b=some o->h'.get? b=some o)->Q (.ref (s.heap.objs.size+1)) { s with heap:=h' }) :
 wpAny (model prog w) A (call (.type "enumerate") [.ref tp]) Q E s:=by
 obtain ⟨⟨c,dc,dt,sl⟩,hl,hc,n,hd⟩:=hT
 obtain rfl:c=.type "tuple":=hc
 obtain rfl:dt=.seq items n:=hd
 refine callType_new F.called_enumerate (by decide) (F.typeCall_enumerate_1 _) (F.newCall_enumerate_1 _) (λob=>F.args_object_init_2 ob _) F.entry_enumerate_new (qM tp items n dc sl) ⟨hl,?_⟩
 generalize e1:s.heap.push { cls:=.type "tuple_iterator",data:=.fields #[.ref tp,.int 0 0] }=g1
 have hz:g1.objs.size=s.heap.objs.size+1:=by rw [<- e1]; exact Py ..
 have hi:g1.get? s.heap.objs.size=some { cls:=.type "tuple_iterator",data:=.fields #[.ref tp,.int 0 0] }:=by rw [<- e1]; exact NL _ rfl
 have hb:∀ b o,s.heap.get? b=some o->g1.get? b=some o:=λb o q=>by rw [<- e1]; exact NC _ q
 have he:IsEnum (g1.push { cls:=.type "enumerate",data:=.fields #[.none,.bool false,.ref s.heap.objs.size,rawInt 0,.none,.none] }) g1.objs.size s.heap.objs.size 0 .none:=NL _ rfl
 rw [hz] at he
 show _/\_
 rw [hz]
 exact ⟨⟨_,he,rfl⟩,h _ he ⟨_,NC _ hi,rfl,rfl⟩ λb o q=>NC _ (hb b o q)⟩
noncomputable def lz (ds:List D):List D:=ds.zipIdx.map λx=>D.tup [.int x.2,x.1]
noncomputable def Mt (K:Nu) (t:Addr):It :=
 ⟨λi H=>∃ xs x,c8 K H t xs/\xs[i]?=some x,
  λi H v H'=>∃ p x,v=.ref p/\H p=none/\H'=upd H p (.tup [.int (i:Nat),x])/\∀ xs,c8 K H t xs->xs[i]?=some x,
  λi H=>∃ xs,c8 K H t xs/\xs.length<=i⟩
theorem Dy (I:Inv X aa σ H s) (h1:c8 X.K H a xs) (h2:c8 X.K H a ys):xs=ys:=I.ja h1 h2
theorem Aj {prog:Program} {w:World} {A:Around} (hh:A.handled=none) (j t:Addr) (items:Array Value) (i:Nat) (hx:items[i]?=none) :
 Draws prog w A j [j,t] i (λ_ _=>False) (λk h=>k=i/\h.IsTupleIter j t i/\h.IsTuple t items) where
 live:=λ_ _ ⟨_,⟨o,ho,_⟩,_⟩=>⟨o,ho⟩
 frame:=λ_ _ _ ⟨ek,⟨o,e,r⟩,⟨o',e',r'⟩⟩ hk=>⟨ek,⟨o,hk j (by simp) o e,r⟩,o',hk t (by simp) o' e',r'⟩
 item:=λk s Q E hi ⟨ek,_⟩ _=>absurd ek (N4 hi)
 done:=λs Q E ⟨_,s1,s2⟩ q=>nextT hh s1 s2 (λv hv=>by rw [hx] at hv; cases hv) λ_=>q
theorem wZ {P:Program} {w:World} {K:Nu} {elts:List Expr} {k:Nat} {pos:Pos} {e j t:Addr} (hne:e≠j) :
 Turn P w K (.Tuple elts k pos) (Mt K t) [e,j] e (λi h=>(∃ old,IsEnum h e j i old)/\h.IsTupleIter j t i) where
 mem:=by simp
 obj:=λi h ⟨⟨old,he⟩,⟨o1,e1,_,d1⟩⟩ b hb=>by
  simp only [NU,Qz,or_false] at hb
  rcases hb with rfl | rfl
  ·exact ⟨_,he,λv q=>by have q':So _=Data.cell v:=q; cases q'⟩
  ·exact ⟨_,e1,λv q=>by rw [d1] at q; cases q⟩
 keep:=λi h h' ⟨⟨old,he⟩,⟨o1,e1,r1⟩⟩ hk=>⟨⟨old,hk e (by simp) _ he⟩,⟨o1,hk j (by simp) _ e1,r1⟩⟩
 item:=by
  intro X hP hw hK hc i aa s σ H E I hf st hg
  subst hP hw hK
  obtain ⟨⟨old,he⟩,hj⟩:=st
  obtain ⟨xs,x,q1,hx⟩:=hg
  obtain ⟨its,rv,p1,z1⟩:=I.tuple q1
  obtain ⟨u,hu,ru⟩:=rv.get hx
  have pT:s.heap.IsTuple t its.toArray:=by obtain ⟨o,ho,hc',n,hd⟩:=p1; exact ⟨o,ho,hc',n,hd⟩
  have hjt:t≠j:=by
   obtain ⟨o,ho,hc',n,hd⟩:=pT
   obtain ⟨o',ho',hc'',_⟩:=hj
   rintro rfl
   rw [ho] at ho'; cases ho'
   rw [hc'] at hc''; exact absurd hc'' (by simp)
  have het:e≠t:=by
   obtain ⟨o,ho,hc',n,hd⟩:=pT
   rintro rfl
   rw [he] at ho; cases ho
   exact absurd hc' (by simp)
  have hi:i<its.toArray.size:=by
   have:i<its.length:=(NJ.mp hu).1
   simpa using this
  have hh:X.A.in1.handled=none:=I.ok.hd hc
  refine wpAny_pyNext_enum_itemD (Hq hh j t hjt its.toArray) he ⟨hj,pT⟩ hi hne (by simp; exact ⟨hne,het⟩) λx' h' tk hPx a1 a2 a3 a4 hk=>?_
  have ex:x'=u:=by
   have:its[i]?=some x':=by simpa using hPx
   rw [hu] at this; cases this; rfl
  subst ex
  have Hp:H s.heap.objs.size=none:=I.hok.fresh (Ny _)
  have IA:Inv X aa σ (upd H s.heap.objs.size (.tup [.int (i:Nat),x])) { s with heap:=s.heap.push { cls:=.type "tuple",data:=.seq #[.int (i:Nat) tk,x'] },toks:=tk+1 } :=
   I.laid (a:=s.heap.objs.size) (o:=.tup [.int (i:Nat),x]) (λ_ _ q=>NC _ q) (Ny _) ⟨by show 2<=sizeLine; decide,[.int (i:Nat) tk,x'],.cons ⟨tk,rfl⟩ (.cons ru .nil),_,NL _ rfl,rfl,0,rfl⟩
  have lt:∀ b∈[e,j],b<s.heap.objs.size:=λb hb=>by
   obtain ⟨o1,e1,_⟩:=hj
   simp only [NU,Qz,or_false] at hb
   rcases hb with rfl | rfl
   ·exact NG he
   ·exact NG e1
  have gf:∀ b∈[e,j],fG X aa (upd H s.heap.objs.size (.tup [.int (i:Nat),x])) b:=λb hb=>⟨by rw [av (N4 (lt b hb))]; exact (hf b hb).1,(hf b hb).2⟩
  have I1:Inv X aa σ (upd H s.heap.objs.size (.tup [.int (i:Nat),x])) { s with heap:=h',toks:=tk+1 } :=
   oF (s:={ s with heap:=s.heap.push { cls:=.type "tuple",data:=.seq #[.int (i:Nat) tk,x'] },toks:=tk+1 }) (t':=tk+1) (h':=h') (L:=[e,j]) IA (λb o hb q=>by
    simp only [NU,Qz,or_false,not_or] at hb
    by_cases z:b=s.heap.objs.size
    ·subst z
     rw [NL _ rfl] at q; cases q; exact a3
    ·refine hk b o hb.1 hb.2 ?_
     rw [Heap.get?_push_ne _ _ _ z] at q; exact q) gf
  refine ⟨_,rfl,wpAny_letOwnedTupleGo_enum (s:={ s with heap:=h',toks:=tk+1 }) a1 λh2' hz' hs'=>?_⟩
  refine ⟨.ref s.heap.objs.size,_,oF (s:={ s with heap:=h',toks:=tk+1 }) (t':=tk+1) (h':=h2') (L:=[e,j]) I1 (λb o hb q=>hs'.extBut b o (λz=>hb (by simp [z])) q) gf,rfl,
   ⟨_,x,rfl,Hp,rfl,λxs' h=>by rw [Dy I h q1]; exact hx⟩,⟨⟨x',?_⟩,a2.1.extBut hs'.extBut (NZ hne)⟩,λb hb=>(gf b hb).1⟩
  have hz2:=hz'
  rw [show ((i:Int)+1)=((i+1:Nat):Int) by lia] at hz2
  exact hz2
 done:=by
  intro X hP hw hK hc i aa s σ H E I hf st hg
  subst hP hw hK
  obtain ⟨⟨old,he⟩,hj⟩:=st
  obtain ⟨xs,q1,hend⟩:=hg
  obtain ⟨its,rv,p1,z1⟩:=I.tuple q1
  have pT:s.heap.IsTuple t its.toArray:=by obtain ⟨o,ho,hc',n,hd⟩:=p1; exact ⟨o,ho,hc',n,hd⟩
  have hl:=rv.length
  have hx:its.toArray[i]?=none:=by simp; lia
  have hh:X.A.in1.handled=none:=I.ok.hd hc
  exact wpAny_pyNext_enum_endD (Aj hh j t its.toArray i hx) he ⟨rfl,hj,pT⟩ λh' hk=>⟨rfl,oF (t':=s.toks) (L:=[e,j]) I (λb o hb q=>hk b o (λz=>hb (by simp [z])) q) hf⟩
 self:=λA i s Q E ⟨⟨old,he⟩,_⟩ h=>wpAny_pyIter_enum he h
theorem w9 {K:Nu} {Hf:Hp} {ds:List D} {xs:List V} {t:Addr} (h1:c8 K Hf t xs) (r1:au K Hf ds xs):jd K (Mt K t) (lz ds) Hf where
 go:=λi d H aQ s1 s2 e=>by
  unfold lz at e
  rw [NO,NQ] at e
  obtain ⟨⟨x,m⟩,ex,rfl⟩:=e
  rw [List.getElem?_zipIdx,NQ] at ex
  obtain ⟨x',ex,ee⟩:=ex
  cases ee
  obtain ⟨v1,f1,g1⟩:=r1.get ex
  have q1:=az (s1.trans s2) h1
  refine ⟨⟨xs,v1,q1,f1⟩,λv H' ⟨p,y,e1,e2,e3,e4⟩=>?_⟩
  have z1:=e4 xs q1
  rw [f1] at z1; cases z1
  subst e1 e3
  have g:=bw.new s2 e2 (o:=.tup [.int (i:Nat),v1])
  rw [PF]
  exact ⟨upd aQ p (.tup [.int (i:Nat),v1]),g,aM.mpr ⟨p,_,rfl,.inl (.inl af),.cons (aA.mpr rfl) (.cons (Rep.mono (s1.trans g.f) _ g1) (aC.mpr rfl))⟩⟩
 stop:=λi H aQ s1 s2 e=>⟨xs,az (s1.trans s2) h1,by
  rw [<- r1.length]
  simpa [lz] using e⟩
theorem xg:bootBuiltins "enumerate"=some (.type "enumerate"):=by decide +kernel
noncomputable def Kh (K:Nu) (ta:TA):TI:=λσ H R=>ta σ H λvs H1=>∃ t xs,vs=[.ref t]/\c8 K H1 t xs/\R (Mt K t) H1
theorem Dz (hg:Gl X "enumerate") (hm:X.mg "enumerate"=none) (ha:PA X [a] ta) (hs:starEach [a] X.env=[(false,eval a X.env)]) :
 PI X (.Tuple elts kt tpos) (.Call (.Name "enumerate" p) [a] [] pos) (Kh X.K ta):=by
 intro aa s σ H R I h
 refine Call_ (dz I hg hm xg (QJ (bC (ha pos aa s σ H _ I h) λus s1 ⟨vs,H1,I1,r1,q1⟩=>?_) hs (by rfl)))
 obtain ⟨t,xs,e,q1,q⟩:=q1
 subst e
 obtain ⟨u,rfl,rx⟩:=vals1 r1
 cases rx
 obtain ⟨its,rv,p1,z1⟩:=I1.tuple q1
 have pT:s1.heap.IsTuple t its.toArray:=by obtain ⟨o,ho,hc',n,hd⟩:=p1; exact ⟨o,ho,hc',n,hd⟩
 refine sL pT λh' a1 a2 hk=>wpAny_pyIter_enum a1 ?_
 refine ⟨s1.heap.objs.size+1,[s1.heap.objs.size+1,s1.heap.objs.size],_,_,H1,rfl,I1.kept (t':=s1.toks) hk,wZ (QE (P9 _)),⟨⟨.none,a1⟩,a2⟩,λb hb=>?_,q⟩
 have hb':s1.heap.objs.size<=b:=by
  simp only [NU,Qz,or_false] at hb
  rcases hb with rfl | rfl
  ·exact RW _ _
  ·exact Ny _
 exact I1.kh hb' (I1.hok.fresh hb')
section
variable {K:Nu} {c:Ctx P w K mg base k N sc bk}
theorem Hr (hm:mg "enumerate"=none) (h:aI c a ρ λx=>∃ ds,x=.tup ds/\R (lz ds)) (hg:sc.names.lookup (Nr "enumerate")=some .globalImplicit:=by walk_at "u")
 (hs:∀ env,starEach [a] env=(false,eval a env)::starEach [] env:=by intro _; walk_at "u"):CK c (.Tuple elts kt tpos) (.Call (.Name "enumerate" p) [a] [] pos) ρ R:=λσ H Hf Q S q aa s I =>
 Dz (by unfold Gl Ov; rw [c.esc]; exact hg) (by rw [c.emg]; exact hm) (bM cY dD (hs _)) (by rw [hs]; rfl) aa s σ H Q I
  (h σ H Hf _ S λx v1 H1 aQ ⟨ds,e1,hR⟩ r1 g1=>by
    subst e1
    rw [aM] at r1
    obtain ⟨t,xs,rfl,s1,t1⟩:=r1
    exact ⟨t,xs,rfl,az g1.b s1,q _ _ H1 aQ hR g1 (w9 s1 t1)⟩)
end
noncomputable def Hs (lo:Int) (n:Nat):It:=⟨λi _=>i<n,λi H x H'=>H'=H/\x=.int (lo - i),λi _=>n<=i⟩
noncomputable def Ak (lo:Int) (n:Nat):List D:=(N6 n).map λ(i:Nat)=>D.int (lo - (i:Int))
theorem xh {P:Program} {w:World} {K:Nu} {tg:Expr} (j:Addr) (lo:Int) (n:Nat):Turn P w K tg (Hs lo n) [j] j (λi h=>IsRangeIter h j (lo+(i:Nat) * -1) ((n:Int) - (i:Nat)) (-1)) where
 mem:=NN.mpr rfl
 obj:=λi h st b hb=>by
  obtain rfl:b=j:=NN.mp hb
  exact ⟨_,st,λv z=>by have q:So _=Data.cell v:=z; cases q⟩
 keep:=λi h h' st k=>k j (NN.mpr rfl) _ st
 item:=by
  intro X hP hw hK hc i aa s σ H E I hf st hg
  subst hP hw hK
  obtain ⟨f0,f1,f2,f3,f4,f5⟩:=hf j (NN.mpr rfl)
  have W:=Walks.range (prog:=X.prog) (w:=X.w) (I.ok.hd hc) j lo (-1) n
  refine W.item i s _ _ hg st λv h' tk hv st' kk=>?_
  obtain ⟨t,rfl⟩:=hv
  have I1:Inv X aa σ H { s with heap:=h',toks:=tk }:=I.turned (λb o hb e=>kk b o (by simpa using hb) e) f0 f1 f3 f4 f5
  have e:lo+(i:Int) * -1=lo - i:=by lia
  exact ⟨_,rfl,mj (s:={ s with heap:=h',toks:=tk }) (n:="range_iterator") st' rfl rfl (by decide) ⟨.int (lo - i),H,I1,⟨t,by rw [e]⟩,⟨rfl,rfl⟩,st',λb hb=>(hf b hb).1⟩⟩
 done:=by
  intro X hP hw hK hc i aa s σ H E I hf st hg
  subst hP hw hK
  obtain ⟨f0,f1,f2,f3,f4,f5⟩:=hf j (NN.mpr rfl)
  exact wpAny_pyNext_range_end (I.ok.hd hc) st (by have:n<=i:=hg; lia) λh' eb=>⟨rfl,I.turned (t':=s.toks) (λb o hb e=>eb b o hb e) f0 f1 f3 f4 f5⟩
 self:=λ_ _ _ _ _ st h=>wpAny_pyIter_rangeiter st h
theorem lB {lo hi:Int}:Rw lo hi (-1)=((lo - hi).toNat:Int):=by
 unfold Rw
 rw [if_neg (by decide)]
 split
 ·rw [show - (-1:Int)=1 by decide,Int.ediv_one]; lia
 ·lia
theorem small_down (ha: -(2 ^ 62)<=a) (ha':a<2 ^ 62) (hb: -(2 ^ 62)<=b) (hb':b<2 ^ 62):Builtin.Range.small a b (-1)=true:=by
 unfold Builtin.Range.small
 rw [lB]
 simp only [Builtin.Range.rangeFitsLong,QX,Bool.or_eq_true,decide_eq_true_eq,beq_iff_eq,show ¬ (-1:Int)>0 by decide,if_false]
 lia
noncomputable def Kl (ta:TA):TI:=λσ H R=>ta σ H λvs H1=>∃ i j:Int,vs=[.int i,.int j,.int (-1)]/\(-(2 ^ 62)<=i/\i<2 ^ 62/\ -(2 ^ 62)<=j/\j<2 ^ 62)/\R (Hs i (i - j).toNat) H1
theorem DA (hg:Gl X "range") (hm:X.mg "range"=none) (ha:PA X [a,b,c] ta) (hs:starEach [a,b,c] X.env=[(false,eval a X.env),(false,eval b X.env),(false,eval c X.env)])
 (hs2:starEach [b,c] X.env=[(false,eval b X.env),(false,eval c X.env)]):PI X tg (.Call (.Name "range" p) [a,b,c] [] pos) (Kl ta):=by
 intro aa s σ H R I h
 refine Call_ (dz I hg hm boot_range (QJ (bC (ha pos aa s σ H _ I h) λus s1 ⟨vs,H1,I1,r1,q1⟩=>?_) (by rw [hs,hs2]) (by rw [hs2]; rfl)))
 obtain ⟨i,j,e,⟨q1,q2,q3,q4⟩,q⟩:=q1
 subst e
 cases r1 with
 | cons r rr=>cases rr with
  | cons r' rr=>cases rr with
   | cons r'' rr =>
    cases rr
    obtain ⟨t,rfl⟩:=r
    obtain ⟨t',rfl⟩:=r'
    obtain ⟨t'',rfl⟩:=r''
    refine call_range_3 (by decide) ?_ (.inl (PyProof.noPylong_of_log2 (by decide +kernel)))
    refine wpAny_pyIter_range (IsRange.new ..) (small_down q1 q2 q3 q4) ?_
    have I2:Inv X aa σ H1 { s1 with heap:=s1.heap.push { cls:=.type "range",data:=.fields #[.int i t,.int j t',.int (-1) t''] },toks:=s1.toks }:=I1.kept λb o e=>NC _ e
    generalize s1.heap.push { cls:=.type "range",data:=.fields #[.int i t,.int j t',.int (-1) t''] }=g at I2 |-
    refine ⟨g.objs.size,[g.objs.size],_,_,H1,rfl,I2.kept (t':=s1.toks) λb o e=>NC _ e,xh _ i (i - j).toNat,?_,λb hb=>?_,q⟩
    ·show IsRangeIter _ _ (i+((0:Nat):Int) * -1) ((((i - j).toNat:Nat):Int) - ((0:Nat):Int)) (-1)
     rw [show i+((0:Nat):Int) * -1=i by simp,show (((i - j).toNat:Nat):Int) - ((0:Nat):Int)=Rw i j (-1) by rw [lB]; lia]
     exact NL _ rfl
    ·obtain rfl:b=g.objs.size:=NN.mp hb
     exact I2.kh (Ny _) (I2.hok.fresh (Ny _))
theorem Al {K:Nu} {lo:Int} {n:Nat} {eO:Hp}:jd K (Hs lo n) (Ak lo n) eO where
 go:=λi d H Hf s1 s2 e=>by
  unfold Ak at e
  rw [NO] at e
  obtain ⟨j,e1,e2⟩:=NQ.mp e
  have hi:i<n:=by simpa using (NJ.mp e1).1
  have:j=i:=by rw [RG hi] at e1; cases e1; rfl
  subst this
  refine ⟨hi,λx H' ⟨e3,e4⟩=>?_⟩
  subst e3 e4 e2
  exact ⟨Hf,.refl s2,aA.mpr rfl⟩
 stop:=λi H Hf s1 s2 e=>show n<=i by simpa [Ak] using e
section
variable {K:Nu} {c:Ctx P w K mg base k N sc bk}
theorem Ht (hm:mg "range"=none) (h:aI c a ρ λx=>aI c b ρ λy=>aI c e ρ λz=>∃ i j:Int,x=.int i/\y=.int j/\z=.int (-1)/\Sd (zb i) (Sd (zb j) (R (Ak i (i - j).toNat))))
 (hg:sc.names.lookup (Nr "range")=some .globalImplicit:=by walk_at "u")
 (hs:∀ env,starEach [a,b,e] env=(false,eval a env)::starEach [b,e] env:=by intro _; walk_at "u") (hs2:∀ env,starEach [b,e] env=(false,eval b env)::starEach [e] env:=by intro _; walk_at "u")
 (hs3:∀ env,starEach [e] env=(false,eval e env)::starEach [] env:=by intro _; walk_at "u"):CK c tg (.Call (.Name "range" p) [a,b,e] [] pos) ρ R:=λσ H Hf Q S q aa s I =>
 DA (by unfold Gl Ov; rw [c.esc]; exact hg) (by rw [c.emg]; exact hm) (bM cY (bM cY (bM cY dD (hs3 _)) (hs2 _)) (hs _)) (by rw [hs,hs2,hs3]; rfl) (by rw [hs2,hs3]; rfl) aa s σ H Q I
  (h σ H Hf _ S λx v1 H1 aQ h1 r1 g1=>h1 σ H1 aQ _ (S.cC g1) λy v2 H2 cO h2 r2 g2=>h2 σ H2 cO _ (S.cC (g1.trans g2)) λz v3 H3 Hf3 ⟨i,j,e1,e2,e3,⟨hi,⟨hj,hR⟩⟩⟩ r3 g3=>by
    subst e1 e2 e3; rw [aA] at r1 r2 r3; subst r1 r2 r3
    exact ⟨i,j,rfl,⟨hi.1,hi.2,hj.1,hj.2⟩,q _ _ H3 Hf3 hR ((g1.trans g2).trans g3) Al⟩)
end
noncomputable abbrev ltI (x y:Int):Bool:=decide (x<y)
noncomputable def MW (d:Addr) (o:Obj) (ys:List (Key×V)):It :=
 ⟨λi H=>H d=some (.frz o (.dK ys))/\i<ys.length,λi H x H'=>H'=H/\∃ y,ys[i]?=some y/\x=kV y.1,λi H=>H d=some (.frz o (.dK ys))/\ys.length<=i⟩
theorem oM (I:Inv X aa σ H s) (hH:H d=some (.frz o (.dK ys))):∃ (vs:List (Key×Value)) (es:Array DictEntry) (ep:Nat),o.data=.dict es ep/\KV ys vs/\s.heap.DictAt (bU X.prog X.w) d vs ep/\(d == sysModules)=false/\ys.length<=sizeLine:=by
 obtain ⟨ho,ok⟩:=(show bg X.prog X.w H s.heap d (.frz o (.dK ys)) from I.hok d _ hH)
 obtain ⟨z,y,vs,kv,o',es,ep,h1,h2,h3,h4,h5,h6⟩:=ok
 rw [ho] at h1; cases h1
 exact ⟨vs,es,ep,h3,kv,⟨o,es,ho,h2,h3,h4,h5,h6⟩,y,z⟩
theorem xj {P:Program} {w:World} {K:Nu} {tg:Expr} {d j:Addr} {o:Obj} {ys:List (Key×V)} {es:Array DictEntry} {ep:Nat} (hod:o.data=.dict es ep):Turn P w K tg (MW d o ys) [j] j (λi h=>h.IsKeyIter j d i ys.length ep) where
 mem:=NN.mpr rfl
 obj:=λi h ⟨q,e,_,hd⟩ b hb=>by
  obtain rfl:b=j:=NN.mp hb
  exact ⟨_,e,λv z=>by rw [hd] at z; cases z⟩
 keep:=λi h h' ⟨q,e,r⟩ k=>⟨q,k j (NN.mpr rfl) _ e,r⟩
 item:=by
  intro X hP hw hK hc i aa s σ H E I hf st hg
  subst hP hw hK
  obtain ⟨f0,f1,f2,f3,f4,f5⟩:=hf j (NN.mpr rfl)
  obtain ⟨hH,hi⟩:=hg
  obtain ⟨vs,es',ep',e1,kv,da,_⟩:=oM I hH
  rw [hod] at e1; cases e1
  have hl:ys.length=vs.length:=OE kv
  obtain ⟨⟨ky,v⟩,hv,r1,r2⟩:=c6 kv (NX hi)
  rw [hl] at st
  refine wpAny_pyNext_dict_item st da hv λkey h' hkey hit' hs'=>?_
  have I1:Inv X aa σ H { s with heap:=h',toks:=s.toks }:=I.turned (λb o hb e=>hs'.extBut b o hb e) f0 f1 f3 f4 f5
  obtain ⟨q,e,qc,qd⟩:=id hit'
  rw [<- hl] at hit'
  exact ⟨_,rfl,mj (s:={ s with heap:=h',toks:=s.toks }) (n:="dict_keyiterator") e qc qd (by decide) ⟨kV ky,H,I1,uL hkey,⟨rfl,_,NX hi,by rw [r1]⟩,hit',λb hb=>(hf b hb).1⟩⟩
 done:=by
  intro X hP hw hK hc i aa s σ H E I hf st hg
  subst hP hw hK
  obtain ⟨f0,f1,f2,f3,f4,f5⟩:=hf j (NN.mpr rfl)
  obtain ⟨hH,hi⟩:=hg
  obtain ⟨vs,es',ep',e1,kv,da,_⟩:=oM I hH
  rw [hod] at e1; cases e1
  have hl:ys.length=vs.length:=OE kv
  rw [hl] at st
  exact wpAny_pyNext_dict_end (I.ok.hd hc) st da (O8 (by lia)) λh' eb=>⟨rfl,I.turned (t':=s.toks) (λb o hb e=>eb b o hb e) f0 f1 f3 f4 f5⟩
 self:=λ_ _ _ _ _ st h=>wpAny_pyIter_keyiter st h
theorem xm {K:Nu} {Hf:Hp} {d:Addr} {o:Obj} {ys:List (Key×V)} {ns:List Int} (hH:Hf d=some (.frz o (.dK ys))) (hk:ys.map (·.1)=ns.map NT):jd K (MW d o ys) (ns.map D.int) Hf where
 go:=λi x H aQ s1 s2 e=>by
  rw [NO,NQ] at e
  obtain ⟨n,hn,rfl⟩:=e
  have hq:=congrArg (λl=>l[i]?) hk
  simp only [NO,hn,Option.map_some] at hq
  obtain ⟨y,hy,ey⟩:=NQ.mp hq
  refine ⟨⟨s2 _ _ (s1 _ _ hH),(NJ.mp hy).1⟩,λv H' ⟨e1,y',e2,e3⟩=>?_⟩
  rw [hy] at e2; cases e2
  subst e1 e3
  exact ⟨aQ,.refl s2,by rw [ey]; exact aA.mpr rfl⟩
 stop:=λi H aQ s1 s2 e=>⟨s2 _ _ (s1 _ _ hH),by
  have:=congrArg PK hk
  simp only [ND] at this e
  lia⟩
theorem nv (hT:s.TypeIs (.ref v) "dict") (hQ:Q false s):wpAny (model prog w) A (Ql (.ref v)) Q E s:=by
 unfold Ql
 refine Nt (wpAny_specialOf hT PySem.F.slot_dict_len.lookup ?_)
 have e:splitId "dict.__len__"=some ("dict","__len__"):=by decide +kernel
 dsimp only
 rw [e]
 dsimp only
 refine Nt (RU (b:=true) hT (by rw [isSubtype_type]; kernel_rfl) ?_)
 rw [if_neg (by decide)]
 exact Nt (Pk hT (Nv hQ))
section
variable {X:Cx} {aa:List (Addr×Obj)} {σ:L2.St} {H Hf:Hp} {s:Shared} {E:Value->Shared->Prop}
theorem qN {K:Nu}:∀ {L:List Int} {us:List Value},Paired (λx u=>gK K Hf (D.int x) u) L us->IntsAre us L
 | _,_,.nil=>.nil
 | _,_,.cons ⟨x,r1,h1⟩ t=>by
  rw [aA] at h1; subst h1
  obtain ⟨tk,rfl⟩:=r1
  exact .cons _ _ (qN t)
theorem DB:Hh X D.int ltI oneType' where
 lin:=λL=>⟨λx _=>by simp,λx _ y _ z _ h g=>by simp only [decide_eq_true_eq] at *; lia,λx _ y _ h=>by simp only [decide_eq_true_eq]; lia⟩
 inj:=λ_ _ _ _ _ _ _ x y u ⟨v,r1,h1⟩ ⟨v',r2,h2⟩=>by
  rw [aA] at h1 h2; subst h1 h2
  obtain ⟨t,rfl⟩:=r1
  obtain ⟨t',e⟩:=r2
  cases e; rfl
 kind:=λ_ _ _ _ _ _ _ _ _ L us p h2 Q hQ=>by
  rw [ksk_kind (kz:=L) (qN p) (by simpa using h2)]
  exact Nv hQ
 cmp:=λ_ _ _ _ _ _ _ _ _ _ x y u v ⟨a,r1,h1⟩ ⟨b,r2,h2⟩ Q hQ=>by
  rw [aA] at h1 h2; subst h1 h2
  obtain ⟨t,rfl⟩:=r1
  obtain ⟨t',rfl⟩:=r2
  rw [keyLt'_oneType]
  exact oneLt_int hQ
theorem qO (hc:X.calm=true) (I:Inv X aa σ H s) (sb:aH Hf H) (hA:X.A.units+60<cLine) (hH:Hf d=some (.frz o (.dK ys))) (hk:ys.map (·.1)=ns.map NT) (nd:ns.Nodup)
 (hQ:∀ (L':List Int) (xs':List V) (s':Shared) (H' ai:Hp) (a:Addr),L'.Perm ns->gE ltI b L'->au X.K ai (L'.map D.int) xs'->bw H Hf H' ai->H' a=none->Inv X aa σ (upd H' a (.lst xs')) s'->Q (.ref a) s') :
 wpAny (model X.prog X.w) X.A (call (.builtin "sorted") [.ref d] [(Nr "reverse",.bool b)]) Q E s:=by
 refine Rx Rh Ra Rb (args_sorted_rev _ _) ?_
 unfold Builtin.«sorted»
 refine Nt (m:=checkCount "sorted" 1 1 _) (Nv ?_)
 have h1:X.A.in1.handled=none:=I.ok.hd hc
 have h2:X.A.in1.frames=some X.stack:=I.ok.frames
 obtain ⟨vs,es,ep,e1,kv,da,hs,hz⟩:=oM I (sb _ _ hH)
 have hl:ys.length=vs.length:=OE kv
 have hn:(ns.map D.int).length=ys.length:=by have:=congrArg PK hk; simp only [ND] at this |-; lia
 refine Nt (gU (X:=BX X X.A.in1) (H:=H) (Hf:=Hf) (ds:=ns.map D.int) (T:="dict") hc h1 h2 (gT I (λ_=>h1) h2) sb da.lt_size (by lia) (by decide) (λs' k=>(da.keep k).dictOf.typeIs) (λA s' Q E q h=>nv q h) (λA s1 H1 E I1 sb1 k1=>?_) λus s' H' ai xs I' rv rr g hz'=>?_)
 ·refine wpAny_pyIter_dict hs (da.keep k1) ?_
  refine ⟨_,_,_,rfl,Ny _,I1.kept (t':=s1.toks) λb o e=>NC _ e,xj e1,⟨_,NL _ rfl,rfl,?_⟩,λb hb=>?_,λb o e=>NC _ e,xm hH hk⟩
  ·rw [hl]; rfl
  ·obtain rfl:b=s1.heap.objs.size:=NN.mp hb
   exact I1.kh (Ny _) (I1.hok.fresh (Ny _))
 ·have I2:=eX I.ok I'
  have el:=rr.length
  have el2:=rv.length
  refine k9 (b:=b) DB I2 g.b ?_ rr rv (by lia) nd λL' xs' s2 p1 p2 p3 p4 I3=>hQ L' xs' s2 H' ai _ p1 p2 p3 g (I2.hok.fresh (Ny _)) I3
  show X.A.units+1+20<cLine
  lia
end
section
variable {K:Nu} {c:Ctx P w K mg base k N sc bk}
theorem sM (hm:mg "sorted"=none) (h:aI c e ρ λd=>∃ (ns:List Int) (ds:List D),d=.fdK (ns.map NT) ds/\Sd ns.Nodup (∀ L':List Int,L'.Perm ns->gE ltI true L'->R (.ow (L'.map D.int))))
 (hg:sc.names.lookup (Nr "sorted")=some .globalImplicit:=by walk_at "u")
 (he:∀ env,starEach [e] env=(false,eval e env)::starEach [] env:=by intro _; walk_at "u")
 (hpl:∀ env,(backTo pos (starEach [e] env)).any (·.1)=false:=by intro _; walk_at "u") :
 cW c (.Call (.Name "sorted" np) [e] [⟨some "reverse",.Constant (.bool true) j kp1,kp⟩] pos) ρ R:=λσ H Hf Q S q aa s I=>by
 have hgl:Gl c.X "sorted":=by unfold Gl Ov; rw [c.esc]; exact hg
 refine O2 (dz I hgl (by rw [c.emg]; exact hm) (show bootBuiltins "sorted"=some (.builtin "sorted") by decide +kernel) ?_ (by decide) (by decide))
 refine Sk ?_ (by rw [he]; rfl) (hpl _)
 have hpa:=bM (X:=c.X) (e:=e) (es:=[]) cY dD (he _)
 refine bC (hpa pos aa s σ H (λvs H1=>∃ x,vs=[x]/\∃ (ns:List Int) (ds:List D) (aQ:Hp),Rep c.X.K aQ (.fdK (ns.map NT) ds) x/\ns.Nodup/\bw H Hf H1 aQ/\∀ L':List Int,L'.Perm ns->gE ltI true L'->R (.ow (L'.map D.int))) I ?_) λus s1 hh=>z2 hh λvs H1 hh=>w3 hh λI1 r1 hh=>hh.elim λx hh=>w2 hh λex hh=>z3 hh λns ds aQ hh=>w4 hh λe1 e7 e8 e9=>?_
 ·exact h σ H Hf _ S λd v H1 aQ ⟨ns,ds,hp,⟨hn,hR⟩⟩ rv g=>⟨_,rfl,ns,ds,aQ,by rw [<- hp]; exact rv,hn,g,hR⟩
 ·subst ex
  obtain ⟨a0,ys,o,rfl,hs,hk,hr⟩:=iw.mp e1
  have eu:us=[.ref a0]:=by
   cases r1 with
   | cons q1 q2=>cases q2; cases q1; rfl
  subst eu
  refine kws_cons (bC (tV (X:=c.X) (b:=true) (j:=j) (pos:=kp1) aa s1 σ _ (λx H2=>x=.bl true/\H2=H1) I1 ⟨rfl,rfl⟩) λkv s2 ⟨x,H2,I2,rx,e10,e11⟩=>kws_nil ?_)
  subst e10 e11
  have ek:kv=.bool true:=rx
  subst ek
  refine qO (b:=true) c.calm I2 e8.b ?_ hs hk e7 λL' xs' s' H' ai a p1 p2 p3 g na I3=>?_
  ·have:=c.room.un
   lia
  ·have gg:=e8.trans g
   exact ⟨.ref a,_,I3,rfl,q (.ow (L'.map D.int)) _ _ ai (e9 L' p1 p2) ⟨a,xs',rfl,gg.s.free na,af,g.b.free na,p3⟩ (gg.trans (bw.dZ g.b na))⟩
end
section
variable {K:Nu}
end
section
variable {K:Nu}
end
end EV
namespace EV
open PySem PySem.Spec PyProof.Rows L2
noncomputable def dig (b:Int):Nat->(Nat->Int)->Int
 | 0,_=>0
 | m+1,f=>f 0 * b ^ m+dig b m (λi=>f (i+1))
noncomputable abbrev b9 (p:List Int) (i:Nat):Int:=p.getD i 0
noncomputable def pk (b:Int) (p:List Int):Int:=dig b 6 (b9 p)
theorem iP:∀ {m:Nat} {f g:Nat->Int},(∀ i,i<m->f i=g i)->dig b m f=dig b m g
 | 0,_,_,_=>rfl
 | m+1,f,g,h=>by
  unfold dig
  rw [h 0 (by lia),iP (m:=m) λi hi=>h (i+1) (by lia)]
theorem vf:∀ (m:Nat) (f g:Nat->Int),dig b m (λi=>f i+g i)=dig b m f+dig b m g
 | 0,_,_=>rfl
 | m+1,f,g=>by
  unfold dig
  rw [vf m (λi=>f (i+1)) (λi=>g (i+1)),PM]
  lia
theorem iQ:∀ (m:Nat),dig b m (λ_=>0)=0
 | 0=>rfl
 | m+1=>by unfold dig; rw [iQ m,Qg]; rfl
theorem gY (hb:0<b):∀ (m:Nat) (f:Nat->Int),(∀ i,i<m->0<=f i/\f i<b)->0<=dig b m f/\dig b m f<b ^ m
 | 0,_,_=>⟨OL _,by show (0:Int)<b ^ 0; rw [Int.pow_zero]; decide⟩
 | m+1,f,h=>by
  have h0:=h 0 (by lia)
  have ih:=gY hb m (λi=>f (i+1)) λi hi=>h (i+1) (by lia)
  have hp:0<b ^ m:=Qh hb
  unfold dig
  rw [Int.pow_succ]
  have a1:0<=f 0 * b ^ m:=R7 h0.1 (by lia)
  have a2:(f 0+1) * b ^ m<=b * b ^ m:=TY (by lia) (by lia)
  rw [PM,Ri] at a2
  rw [Int.mul_comm (b ^ m) b]
  lia
theorem vg (hb:0<b):∀ (m:Nat) (f:Nat->Int),(∀ i,i<m->0<=f i/\f i<b)->∀ i,i<m->dig b m f / b ^ (m - 1 - i) % b=f i
 | 0,_,_,_,hi=>absurd hi (Nat.not_lt_zero _)
 | m+1,f,h,i,hi=>by
  have ih:=vg hb m (λi=>f (i+1)) λi hi=>h (i+1) (by lia)
  have bd:=gY hb m (λi=>f (i+1)) λi hi=>h (i+1) (by lia)
  have hp:0<b ^ m:=Qh hb
  unfold dig
  cases i with
  | zero =>
   rw [show m+1 - 1 - 0=m by lia,Si,Int.add_mul_ediv_right _ _ (by lia),Int.ediv_eq_zero_of_lt bd.1 bd.2,Rf]
   exact Int.emod_eq_of_lt (h 0 (by lia)).1 (h 0 (by lia)).2
  | succ i =>
   have e:b ^ m=b ^ (i+1) * b ^ (m - 1 - i):=by rw [<- Int.pow_add]; congr 1; lia
   have hq:0<b ^ (m - 1 - i):=Qh hb
   rw [show m+1 - 1 - (i+1)=m - 1 - i by lia,e,<- Q9,Si,Int.add_mul_ediv_right _ _ (by lia),Int.pow_succ,<- Q9,Int.add_mul_emod_self_right]
   exact ih i (by lia)
theorem jm (h:trim (x::p)=x::p):trim p=p:=by
 rcases List.eq_nil_or_concat p with rfl | ⟨r,z,rfl⟩
 ·rfl
 ·rw [List.concat_eq_append] at h |-
  by_cases e:z=0
  ·subst e
   rw [<- Qa,gy] at h
   have:=congrArg PK h
   have l:=fV (x::r)
   simp only [Oe,N5,OZ] at this l
   lia
  ·exact ng r e
theorem qP:∀ {p:List Int},trim p=p->p≠[]->(∀ x∈p,0<=x)->∃ i,i<p.length/\0<b9 p i
 | [],_,h,_=>absurd rfl h
 | [x],h,_,h0=>by
  refine ⟨0,by simp,?_⟩
  have:x≠0:=by rintro rfl; simp [trim] at h
  have:=h0 x (by simp)
  show 0<x
  lia
 | x::y::p,h,_,h0=>by
  obtain ⟨i,hi,hq⟩:=qP (jm h) (by simp) λz hz=>h0 z (NK _ hz)
  exact ⟨i+1,by simp only [Oe] at *; lia,by simpa [b9] using hq⟩
theorem vh (hb:0<b):∀ (m:Nat) (f:Nat->Int),(∀ i,i<m->0<=f i/\f i<b)->(∃ i,i<m/\0<f i)->0<dig b m f
 | 0,_,_,h=>by obtain ⟨i,hi,_⟩:=h; lia
 | m+1,f,h,⟨i,hi,hq⟩=>by
  have bd:=gY hb m (λi=>f (i+1)) λi hi=>h (i+1) (by lia)
  have hp:0<b ^ m:=Qh hb
  unfold dig
  cases i with
  | zero =>
   have:=Int.mul_pos hq hp
   lia
  | succ i =>
   have:=vh hb m (λi=>f (i+1)) (λi hi=>h (i+1) (by lia)) ⟨i,by lia,hq⟩
   have:=R7 (h 0 (by lia)).1 (show 0<=b ^ m by lia)
   lia
theorem Am (hb:0<b):∀ (m:Nat) (p q:List Int),trim p=p->trim q=q->p.length<=m->q.length<=m->(∀ x∈p,0<=x/\x<b)->(∀ x∈q,0<=x/\x<b)->HT.lexLt p q=true->dig b m (b9 p)<dig b m (b9 q)
 | m,[],[],_,_,_,_,_,_,h=>by cases h
 | m,[],y::q,_,tq,_,lq,_,hq,_=>by
  have e:dig b m (b9 [])=0:=by
   rw [show b9 ([]:List Int)=λ_=>0 from funext λi=>by simp [b9]]; exact iQ m
  rw [e]
  obtain ⟨i,hi,h0⟩:=qP tq (by simp) λx hx=>(hq x hx).1
  refine vh hb m _ (λj hj=>?_) ⟨i,by lia,h0⟩
  by_cases z:j<(y::q).length
  ·have:b9 (y::q) j=(y::q)[j]:=by unfold b9; rw [OG,NX z]; rfl
   rw [this]; exact hq _ (Om _)
  ·have:b9 (y::q) j=0:=by simp only [b9,OG,O8 (by lia:(y::q).length<=j)]; rfl
   rw [this]; lia
 | m,x::p,[],_,_,_,_,_,_,h=>by cases h
 | 0,x::p,y::q,_,_,lp,_,_,_,_=>by simp at lp
 | m+1,x::p,y::q,tp,tq,lp,lq,hp,hq,h=>by
  simp only [Oe] at lp lq
  rw [HT.cG] at h
  have rd:∀ (r:List Int),(∀ z∈r,0<=z/\z<b)->∀ j,0<=b9 r j/\b9 r j<b:=λr hr j=>by
   by_cases z:j<r.length
   ·have:b9 r j=r[j]:=by unfold b9; rw [OG,NX z]; rfl
    rw [this]; exact hr _ (Om _)
   ·have:b9 r j=0:=by simp only [b9,OG,O8 (by lia:r.length<=j)]; rfl
    rw [this]; lia
  have hp':∀ z∈p,0<=z/\z<b:=λz hz=>hp z (NK _ hz)
  have hq':∀ z∈q,0<=z/\z<b:=λz hz=>hq z (NK _ hz)
  unfold dig
  show x * b ^ m+dig b m (b9 p)<y * b ^ m+dig b m (b9 q)
  by_cases e:x=y
  ·rw [if_pos e] at h
   subst e
   have:=Am hb m p q (jm tp) (jm tq) (by lia) (by lia) hp' hq' h
   lia
  ·rw [if_neg e] at h
   have hxy:x<y:=of_decide_eq_true h
   have b1:=gY hb m (b9 p) λi _=>rd p hp' i
   have b2:=gY hb m (b9 q) λi _=>rd q hq' i
   have a2:(x+1) * b ^ m<=y * b ^ m:=TY (by lia) (by have hh:0<b ^ m:=Qh hb; lia)
   rw [PM,Ri] at a2
   lia
def Bd (b:Int) (p:List Int):Prop:=p.length<=6/\∀ x∈p,0<=x/\x<b
theorem c7 (z:j<p.length):b9 p j=p[j]:=by unfold b9; rw [OG,NX z]; rfl
theorem cH (z:p.length<=j):b9 p j=0:=by unfold b9; rw [OG,O8 z]; rfl
theorem E8 (hb:0<b) (h:Bd b p) (i):0<=b9 p i/\b9 p i<b:=by
 by_cases z:i<p.length
 ·rw [c7 z]; exact h.2 _ (Om _)
 ·rw [cH (by lia)]; lia
theorem qQ (p):∃ m,p=trim p++NY m 0:=by
 suffices H:∀ r:List Int,∃ m,r=NY m 0++r.dropWhile λx=>x == 0 by
  obtain ⟨m,h⟩:=H p.reverse
  refine ⟨m,?_⟩
  have:=congrArg List.reverse h
  rw [List.reverse_reverse,SY,List.reverse_replicate] at this
  exact this
 intro r
 induction r with
 | nil=>exact ⟨0,rfl⟩
 | cons x r ih =>
  by_cases e:x=0
  ·subst e
   obtain ⟨m,h⟩:=ih
   refine ⟨m+1,?_⟩
   rw [O9,List.dropWhile_cons_of_pos (by simp),Qa,<- h]
  ·exact ⟨0,by rw [List.dropWhile_cons_of_neg (by simpa using e)]; rfl⟩
theorem dQ (p) (i):b9 (trim p) i=b9 p i:=by
 obtain ⟨m,h⟩:=qQ p
 by_cases z:i<(trim p).length
 ·have e:b9 p i=b9 (trim p++NY m 0) i:=by rw [<- h]
  rw [e]
  unfold b9
  simp only [OG]
  rw [PZ z]
 ·rw [cH (by lia)]
  have e:b9 p i=b9 (trim p++NY m 0) i:=by rw [<- h]
  rw [e]
  unfold b9
  simp only [OG]
  rw [QK (by lia),List.getElem?_replicate]
  split <;> rfl
theorem DC (b) (p):pk b (trim p)=pk b p:=iP λi _=>dQ p i
theorem qR (h:x∈trim p):x∈p:=by
 obtain ⟨m,e⟩:=qQ p
 rw [e]; exact Qt _ h
theorem oN (h:Bd b p):Bd b (trim p):=⟨NI (fV p) h.1,λx hx=>h.2 x (qR hx)⟩
theorem An (hb:0<b) (hp:Bd b p) (hq:Bd b q) (tp:trim p=p) (tq:trim q=q) (h:HT.lexLt p q=true):pk b p<pk b q:=Am hb 6 p q tp tq hp.1 hq.1 hp.2 hq.2 h
theorem sN (hb:0<b) (hp:Bd b p) (hq:Bd b q) (tp:trim p=p) (tq:trim q=q) (h:pk b p=pk b q):p=q:=by
 by_cases e:p=q
 ·exact e
 ·exfalso
  rcases j6 e with z | z
  ·have:=An hb hp hq tp tq z; lia
  ·have:=An hb hq hp tq tp z; lia
noncomputable def Lo (b:Int) (key:Int):List Int:=trim ((N6 6).map λ(i:Nat)=>key / b ^ (5 - i) % b)
theorem Hu (hb:0<b) (h:Bd b p):Lo b (pk b p)=trim p:=by
 have e:((N6 6).map λ(i:Nat)=>pk b p / b ^ (5 - i) % b)=p++NY (6 - p.length) 0:=by
  refine TH (by simp; have:=h.1; lia) λi h1 h2=>?_
  have hi:i<6:=by simpa using h1
  rw [List.getElem_map,List.getElem_range]
  have:=vg hb 6 (b9 p) (λj _=>E8 hb h j) i hi
  rw [show 6 - 1 - i=5 - i by lia] at this
  rw [show pk b p=dig b 6 (b9 p) from rfl,this]
  by_cases z:i<p.length
  ·rw [c7 z,List.getElem_append_left z]
  ·rw [cH (by lia),List.getElem_append_right (by lia),List.getElem_replicate]
 unfold Lo
 rw [e]
 generalize 6 - p.length=m
 induction m with
 | zero=>simp
 | succ m ih=>rw [List.replicate_succ',<- N7,gy]; exact ih
noncomputable def cL (B:List (Int×Int)):List (Key×D):=B.map λx=>(.inl x.1,.int x.2)
theorem iR (B) (k):bB (cL B) (.inl k)=(bB B k).map D.int:=by
 induction B with
 | nil=>rfl
 | cons t B ih =>
  by_cases e:t.1=k
  ·rw [br e]
   show bB ((NT t.1,D.int t.2)::cL B) _=_
   rw [br (by rw [e])]; rfl
  ·rw [aW e,<- ih]
   show bB ((NT t.1,D.int t.2)::cL B) _=_
   rw [aW λz=>e (NT.inj z)]
theorem qS (B) (k n):putD (cL B) (.inl k) (.int n)=cL (putD B k n):=by
 unfold putD
 rw [iR]
 by_cases h:(bB B k).isSome=true
 ·rw [if_pos h,if_pos (by rw [P7]; exact h)]
  unfold cL
  rw [Og,Og]
  refine Pe λt _=>?_
  simp only [R9]
  by_cases e:t.1=k
  ·rw [if_pos e,if_pos (by rw [e])]
  ·rw [if_neg e,if_neg λz=>e (NT.inj z)]
 ·rw [if_neg h,if_neg (by rw [P7]; exact h)]
  unfold cL
  simp
noncomputable def fY (b:Int) (t:aL):Int×Int:=(pk b t.1,t.2)
def Gd (b:Int) (A:List aL):Prop:=∀ t∈A,Bd b t.1/\trim t.1=t.1
theorem sO (hb:0<b) (h:Gd b A) (hp:Bd b p) (tp:trim p=p):bB (A.map (fY b)) (pk b p)=bB A p:=by
 induction A with
 | nil=>rfl
 | cons t A ih =>
  have ih:=ih λx hx=>h x (NK _ hx)
  have ht:=h t NP
  by_cases e:t.1=p
  ·rw [br e,NF,br (show (fY b t).1=pk b p by unfold fY; rw [e])]; rfl
  ·rw [aW e,NF,aW λz=>e (sN hb ht.1 hp ht.2 tp z),ih]
theorem Hw (hb:0<b) (h:Gd b A) (hp:Bd b p) (tp:trim p=p):putD (A.map (fY b)) (pk b p) n=(putD A p n).map (fY b):=by
 unfold putD
 rw [sO hb h hp tp]
 split
 ·rw [Og,Og]
  refine Pe λt ht=>?_
  simp only [R9]
  by_cases e:t.1=p
  ·rw [if_pos e,if_pos (show (fY b t).1=pk b p by unfold fY; rw [e])]; rfl
  ·rw [if_neg e,if_neg (show ¬ (fY b t).1=pk b p from λz=>e (sN hb (h t ht).1 hp (h t ht).2 tp z))]
 ·simp [fY]
theorem Hx (h:Gd b A) (hp:Bd b p) (tp:trim p=p):Gd b (putD A p n):=λt ht=>by
 rcases oG ht with e | e
 ·rw [e]; exact ⟨hp,tp⟩
 ·exact h t e
theorem oO (h:∀ t∈ts,Bd b t.1):Gd b (aP ts):=by
 unfold aP
 suffices H:∀ A,Gd b A->Gd b (ts.foldl fy A) from H [] (λ_ h=>by cases h)
 induction ts with
 | nil=>exact λA h=>h
 | cons u ts ih=>exact λA hA=>ih (λt ht=>h t (NK _ ht)) _ (Hx hA (oN (h u NP)) (cB _))
theorem Hy (hb:0<b) (h:∀ t∈ts,Bd b t.1) (ht:Bd b t.1) :
 putD ((aP ts).map (fY b)) (pk b t.1) ((bB ((aP ts).map (fY b)) (pk b t.1)).getD 0+t.2)=(aP (ts++[t])).map (fY b):=by
 rw [lg]
 unfold fy
 rw [<- DC b t.1,sO hb (oO h) (oN ht) (cB _),Hw hb (oO h) (oN ht) (cB _)]
theorem qT:∀ {L M:List Int},L.Perm M->L.Pairwise (λx y=>y<x)->M.Pairwise (λx y=>y<x)->L=M
 | [],M,h,_,_=>by rw [List.nil_perm] at h; exact h.symm
 | x::L,[],h,_,_=>by simp at h
 | x::L,y::M,h,h1,h2=>by
  rw [Qw] at h1 h2
  by_cases e:x=y
  ·subst e
   rw [qT ((List.perm_cons _).mp h) h1.2 h2.2]
  ·exfalso
   have hx:x∈M:=(NU.mp (h.subset NP)).resolve_left e
   have hy:y∈L:=(NU.mp (h.symm.subset NP)).resolve_left (NZ e)
   have a:=h1.1 y hy
   have b:=h2.1 x hx
   lia
theorem vj {A:List aL} (hk:(A.map (·.1)).Nodup) {t:aL} (h:t∈A):bB A t.1=some t.2:=by
 induction A with
 | nil=>cases h
 | cons u A ih =>
  rw [NF,Pu] at hk
  rcases NU.mp h with rfl | h
  ·exact br rfl
  ·rw [aW λe=>hk.1 (by rw [e]; exact List.mem_map_of_mem h)]
   exact ih hk.2 h
theorem Ao (hb:0<b) (h:∀ t∈ts,Bd b t.1) (hp:L'.Perm (((aP ts).map (fY b)).map (·.1))) (hs:L'.Pairwise λx y=>y<x):L'=(gW (aP ts)).map λt=>pk b t.1:=by
 have hg:=oO h
 have hk:=dP ts
 generalize aP ts=A at *
 refine qT (hp.trans ?_) hs ?_
 ·rw [Og]
  exact ((bQ A).map _).symm
 ·rw [QT]
  have hs2:=iO (keys_nodup hk)
  have hm:∀ t∈gW A,t∈A:=λt ht=>(bQ A).subset ht
  have hk2:(gW A).Pairwise λx y=>x.1≠y.1:=by
   have:=((bQ A).map (·.1)).nodup_iff.mpr hk
   unfold List.Nodup at this
   rwa [QT] at this
  unfold fU gE at hs2
  refine TM.imp_of_mem (R:=λx y=>(if true then cU y x=true else cU x y=true)/\x.1≠y.1) (λ{x y} hx hy q=>?_) (hs2.and hk2)
  obtain ⟨q1,q2⟩:=q
  rw [if_pos rfl] at q1
  unfold cU at q1
  rw [if_neg (NZ q2)] at q1
  exact An hb (hg _ (hm _ hy)).1 (hg _ (hm _ hx)).1 (hg _ (hm _ hy)).2 (hg _ (hm _ hx)).2 q1
noncomputable def DE (b:Int) (p:List Int):Int:=p.foldl (λa x=>a * b+x) 0
theorem Aq (b) (p) (x):DE b (p++[x])=DE b p * b+x:=by unfold DE; rw [Tq]; rfl
theorem qU (b):∀ (p:List Int) (a:Int),p.foldl (λa x=>a * b+x) a=a * b ^ p.length+dig b p.length (b9 p)
 | [],a=>by simp [dig]
 | x::p,a=>by
  rw [OT,qU b p]
  show (a * b+x) * b ^ p.length+_=a * b ^ (p.length+1)+(x * b ^ p.length+dig b p.length (b9 p))
  rw [PM,Int.pow_succ,Q9,Int.mul_comm b (b ^ p.length)]
  lia
theorem vm (b) (p):DE b p=dig b p.length (b9 p):=by unfold DE; rw [qU]; lia
theorem qV (k):∀ (m:Nat) (f:Nat->Int),(∀ i,m<=i->f i=0)->dig b (m+k) f=dig b m f * b ^ k
 | 0,f,h=>by
  rw [PF,iP (g:=λ_=>0) λi _=>h i (N1 _),iQ]
  show 0=0 * b ^ k
  rw [Qg]
 | m+1,f,h=>by
  rw [show m+1+k=(m+k)+1 by lia]
  unfold dig
  rw [qV k m (λi=>f (i+1)) λi hi=>h (i+1) (by lia),PM,Int.pow_add,Q9]
theorem Hz (h:p.length<=6):DE b p * b ^ (6 - p.length)=pk b p:=by
 rw [vm,<- qV (6 - p.length) p.length (b9 p) λi hi=>cH hi]
 rw [show p.length+(6 - p.length)=6 by lia]
 rfl
theorem Ar (hb:0<b) (h:∀ x∈p,0<=x/\x<b):0<=DE b p/\DE b p<b ^ p.length:=by
 rw [vm]
 exact gY hb _ _ λi hi=>by rw [c7 hi]; exact h _ (Om _)
theorem Km (hb:0<b) (h:Bd b p):0<=pk b p/\pk b p<b ^ 6:=gY hb _ _ λi _=>E8 hb h i
theorem two_pos (W):(0:Int)<2 ^ W:=Qh (by decide)
theorem gz (W):((2:Int) ^ W)=((2 ^ W:Nat):Int):=by rw [Int.natCast_pow]; rfl
theorem Au (hW:W<=10) (hn:n<=6):((2:Int) ^ W) ^ n<=2 ^ 60:=by
 rw [<- Int.pow_mul,gz,gz]
 exact Int.ofNat_le.mpr (RC (by decide) (NI (Px hW hn) (by decide)))
theorem vn (hW:W<=10) (hn:n<=6) (h0:0<=x) (h:x<((2:Int) ^ W) ^ n):x.natAbs<2 ^ 64:=by
 have:=Au hW hn
 have h60:(2:Int) ^ 60<2 ^ 64:=by decide
 have:x<((2 ^ 64:Nat):Int):=by rw [<- gz]; lia
 lia
theorem xo (W) (h:0<=x):Builtin.bitAnd x (1 * 2 ^ W - 1)=x % 2 ^ W:=by
 have hp:=two_pos W
 have e0:(1:Int) * 2 ^ W - 1=((2 ^ W - 1:Nat):Int):=by
  have:0<2 ^ W:=Nat.pow_pos (by decide)
  rw [Ri,gz]; lia
 rw [e0]
 show (match decide (0<=x),decide (0<=((2 ^ W - 1:Nat):Int)) with
  | true,true=>(((x.toNat &&& (((2 ^ W - 1:Nat):Int)).toNat:Nat)):Int)
  | true,false=>_ | false,true=>_ | false,false=>_)=_
 rw [decide_eq_true h,decide_eq_true (Int.natCast_nonneg _)]
 show ((x.toNat &&& (2 ^ W - 1):Nat):Int)=_
 rw [Nat.and_two_pow_sub_one_eq_mod,gz,Int.natCast_emod,Int.toNat_of_nonneg h]
noncomputable def cM (p q:List Int):List Int:=(N6 (max p.length q.length)).map λk=>b9 p k+b9 q k
noncomputable def gF (l r:aL):aL:=(cM l.1 r.1,l.2 * r.2)
noncomputable def aF (A B:List aL):List aL:=A.flatMap λl=>B.map (gF l)
theorem iS (p q):(cM p q).length=max p.length q.length:=by simp [cM]
theorem bY (p q) (i):b9 (cM p q) i=b9 p i+b9 q i:=by
 by_cases z:i<max p.length q.length
 ·rw [c7 (by rw [iS]; exact z)]; simp [cM]
 ·rw [cH (by rw [iS]; lia),cH (by lia),cH (by lia)]; rfl
theorem DF (b) (p q):pk b (cM p q)=pk b p+pk b q:=by
 unfold pk
 rw [<- vf]
 exact iP λi _=>bY p q i
theorem fZ (h:t∈aF A B):∃ l∈A,∃ r∈B,t=gF l r:=by
 unfold aF at h
 obtain ⟨l,hl,h⟩:=Tw.mp h
 obtain ⟨r,hr,rfl⟩:=Of.mp h
 exact ⟨l,hl,r,hr,rfl⟩
theorem xq (A B) (l):aF (A++[l]) B=aF A B++B.map (gF l):=by
 unfold aF
 rw [List.flatMap_append,QU,List.flatMap_nil,OD]
theorem dR (A B):(aF A B).length=A.length * B.length:=by
 induction A with
 | nil=>simp [aF]
 | cons a A ih =>
  unfold aF at *
  rw [QU,N5,ih,ND,Oe,QD]
  lia
end EV
namespace EV
open PySem PySem.Spec PySem.Calls PyProof.Rows L2
theorem Av {K:Nu}:∀ {kvs:List (Key×D)} {ys:List (Key×V)},ys.map (·.1)=kvs.map (·.1)->au K H (kvs.map (·.2)) (ys.map (·.2))->lO K H kvs ys
 | [],[],_,_=>.nil
 | [],y::ys,h,_=>by simp at h
 | x::kvs,[],h,_=>by simp at h
 | x::kvs,y::ys,h,r=>by
  rw [NF,NF] at h r
  obtain ⟨v,t,e,r1,r2⟩:=aD.mp r
  injection e with e1 e2
  injection h with h1 h2
  subst e1 e2
  exact .cons ⟨h1.symm,r1⟩ (Av h2 r2)
section
variable {K:Nu}
theorem HA (h:aI c a ρ λx=>aI c b ρ λy=>∃ (kvs:List (Key×D)) (kk:Key) (d:D),x=.fdK (kvs.map (·.1)) (kvs.map (·.2))/\y.wC=some kk/\bB kvs kk=some d/\R d) (hs:Cp b:=by with_unfolding_all exact λ_ _=>rfl):aI c (.Subscript a b pos) ρ R:=λσ H Hf Q S q =>
 bO (uf c.hu cY cY hs) (h σ H Hf _ S λx v H1 aQ h1 r1 g1=>h1 σ H1 aQ _ (S.cC g1) λy u H2 cO ⟨kvs,kk,d,e1,e2,e3,hR⟩ r2 g2=>by
  subst e1
  obtain ⟨p,ys,o,rfl,k1,k2,k3⟩:=iw.mp r1
  have kv:=(Av k2 k3).mono g2.f
  have rel:=kv.val kk
  rw [e3] at rel
  rw [iF e2 r2]
  cases z:ku ys kk with
  | none=>rw [z] at rel; exact rel.elim
  | some v =>
   rw [z] at rel
   exact ⟨p,v,rfl,.inl ⟨ys,kk,.inr ⟨o,g2.b _ _ (g2.f _ _ k1)⟩,rfl,z.symm⟩,q d v H2 cO hR rel (g1.trans g2)⟩)
end
end EV
namespace EV
open PySem PySem.Spec PyProof.Rows L2
theorem qW {A:List aL} {l:List Int} {n:Int} {t:aL} (h:t∈putD A l n):t=(l,n)\/t∈A:=by
 unfold putD at h
 split at h
 ·obtain ⟨u,hu,e⟩:=Of.mp h
  split at e
  ·rename_i q; subst e; exact .inl (by rw [q])
  ·subst e; exact .inr hu
 ·rcases N3.mp h with q | q
  ·exact .inr q
  ·simp at q; exact .inl q
theorem HB {A:List aL} (h:∀ t∈A,t.2.natAbs<=c) (l):((bB A l).getD 0).natAbs<=c:=by
 unfold bB
 cases e:A.find? (λkv=>decide (kv.1=l)) with
 | none=>exact N1 _
 | some u=>exact h u (List.mem_of_find?_eq_some e)
theorem vo:∀ (ts A:List aL) (c:Nat),(∀ t∈A,t.2.natAbs<=c)->(∀ t∈ts,t.2.natAbs<=m)->∀ t∈ts.foldl fy A,t.2.natAbs<=c+ts.length * m
 | [],A,c,h,_,t,ht=>by simpa using h t ht
 | u::ts,A,c,h,g,t,ht=>by
  have:=vo (m:=m) ts (fy A u) (c+m) (λt' ht'=>by
   rcases qW ht' with rfl | q
   ·have a:=HB h (trim u.1)
    have b:=g u NP
    show ((bB A (trim u.1)).getD 0+u.2).natAbs<=c+m
    omega
   ·have:=h t' q; omega) (λt h=>g t (NK _ h)) t ht
  rw [Oe,QD]
  omega
theorem HC (h:∀ t∈ts,t.2.natAbs<=m):∀ t∈aP ts,t.2.natAbs<=ts.length * m:=λt ht=>by
 have:=vo ts [] 0 (by simp) h t ht
 omega
theorem xr (l m:List Int):lV (n+1) (.tup (l.map D.int)) (.tup (m.map D.int)):=.tup λi d e h1 h2=>by
 simp only [NO,NQ] at h1 h2
 obtain ⟨a,_,rfl⟩:=h1
 obtain ⟨b,_,rfl⟩:=h2
 exact .sc rfl
theorem Aw (x y):lV (n+2) (aB x) (aB y):=.tup λi d e h1 h2=>by
 rcases i with _ | _ | i
 ·simp at h1 h2; subst h1 h2; exact xr _ _
 ·simp at h1 h2; subst h1 h2; exact .sc rfl
 ·simp at h1
theorem Ax (es):wo [] es:=λi d e h _=>by simp at h
theorem xu (L M:List aL):wo (L.map aB) (M.map aB):=λi d e h1 h2=>by
 simp only [NO,NQ] at h1 h2
 obtain ⟨a,_,rfl⟩:=h1
 obtain ⟨b,_,rfl⟩:=h2
 exact Aw a b
theorem qX (h:wo ds ds) (t:T true):BS (.lst ds) (.lst ds) T:=Cy ⟨h,by rw [decide_eq_true rfl]; exact t⟩
section
variable {K:Nu}
theorem int_mk (KX:K.In h) (G:h.Ns mainGlobals mg) (a:Ox K mainGlobals x=some (some (.int i tk))):∃ tk:Tok,mg x=some (.int i tk):=⟨tk,PySem.W.mg_of KX G a⟩
theorem vp (P) (w) (base) {st:Stmt} (D:aq K mg x st) (ok:∀ {f:Addr} {fd:FuncData},dh K x x st f fd->aY P w K mg base (cP P w) k f fd ps (Hj K F))
 (hb:∀ (kV doc pm:Value) (an:Option Addr) (cdv ct:Value) (us:List Value),us.length=ps.length->bindArgs (Pn x x (fc st) (aj st) (aR st) .none kV doc pm an cdv ct) ⟨us,[]⟩=pure (ps.zip us):=by intro _ _ _ _ _ _ us hl; first | (obtain ⟨a,rfl⟩:=J4 us hl; rfl) | (obtain ⟨a,b,rfl⟩:=J5 us hl; rfl) | (obtain ⟨a,b,c,rfl⟩:=J6 us hl; rfl) | (obtain ⟨a,b,c,d,rfl⟩:=J7 us hl; rfl) | (obtain ⟨a,b,c,d,e,rfl⟩:=len5 us hl; rfl) | (obtain ⟨a,b,c,d,e,f,rfl⟩:=len6 us hl; rfl) | (obtain rfl:=len0 us hl; rfl)):Ae P w K mg base k x F :=
 let ⟨f,fd,m,Fu⟩:=D; ⟨f,fd,ps,m,Fu.kp,Fu.binds hb,ok Fu⟩
end
structure Ay (P:Program) (w:World) (K:Nu) (mg:Str->Option Value) (base:Heap) (k:Nat) (f:Addr) (F:Fn):Prop where
 ex:∃ fd ps,Pa K (.ref f)=true/\Binds K fd ps []/\aY P w K mg base (cP P w) k f fd ps (cZ K F)
section
variable {K:Nu} {c:Ctx P w K mg base k N sc bk}
theorem cu.at_ (h:cu P w K mg base j x F):∃ f,mg x=some (.ref f)/\Ay P w K mg base j f F:=by
 obtain ⟨f,fd,ps,a,b,c,d⟩:=h.ex
 exact ⟨f,a,fd,ps,b,c,d⟩
theorem fC (hm:mg x=some (.ref f)) (hR:R (.adr f)) (hg:sc.names.lookup x=some .globalImplicit:=by walk_at "u") (hd:(x == ("__debug__":Str))=false:=by decide) :
 aI c (.Name x pos) ρ R:=λσ H Hf Q S q =>
 bO (tW (X:=c.X) (v:=.ref f) (u:=.ref f) (by unfold Gl Ov; rw [c.esc]; exact hg) (by rw [c.emg]; exact hm) rfl hd) (q _ _ H Hf hR (pW.mpr rfl) (.refl S.sb))
theorem Az (h:Ay P w K mg base j f F) (hj:j<=k):Pa K (.ref f)=true /\
 ∀ (aa:List (Addr×Obj)) (σ:L2.St) (H Hf:Hp) (s:Shared) (us:List Value) (vs:List V) (ds:List D) (r:Res) (Q:VK),Inv c.X aa σ H s->bx c σ H Hf ρ->Vals vs us->au c.X.K Hf ds vs->F ds r ->
  (∀ sl v H' ai,r=.ok sl->bu c.X.K (λp=>H p=none) H' ai sl v->bw H Hf H' ai->Q v H')->(∀ C,r=.ex C->c.RX C ρ)->wpAny (model c.X.prog c.X.w) c.X.A (call (.ref f) us) (EP c.X aa σ Q) c.X.xe s:=by
 obtain ⟨fd,ps,hk,hb,hF⟩:=h.ex
 refine ⟨hk,λaa σ H Hf s us vs ds r Q I S rv rs hr q hx=>?_⟩
 have hF':aY c.X.prog c.X.w c.X.K c.X.mg c.X.base (cP c.X.prog c.X.w) k f fd ps (cZ c.X.K F):=by rw [c.eP,c.ew,c.eK,c.emg,c.eb]; exact hF.mono hj
 have tR:cZ c.X.K F vs H Q (λcv ao H'=>∃ C,r=.ex C/\cv=.ref C/\aH H H'):=by
  refine ⟨Hf,ds,r,S.bas.b,rs,hr,?_⟩
  cases r with
  | ok sl=>exact λv H' ai g rs2=>q sl v H' ai rfl rs2 g
  | ex C=>exact λa H' s2=>⟨C,rfl,rfl,s2⟩
 have hl:us.length=ps.length:=by rw [<- rv.length]; exact hF'.len _ _ _ _ tR
 have hb':Binds c.X.K fd ps []:=by rw [c.eK]; exact hb
 have hb2:=hb' s us I.BQ (by simpa using hl)
 rw [OD] at hb2
 refine wpAny_call (Rc (hF'.run c.X.A c.X.stack s H ⟨us,[]⟩ us vs Q _ c.room I.Gg hb2 rv tR) λr' s' hq=>?_)
 cases r' with
 | error e =>
  obtain ⟨a,C,H',rfl,hE,C',e1,e2,sm⟩:=hq
  cases e2
  exact c.exc C a aa σ H Hf ρ s H' s' I S (hx C e1) hE sm
 | ok fl =>
  cases fl with
  | ret u=>exact I.after hq
  | next=>exact OF hq
  | brk=>exact OF hq
  | cont=>exact OF hq
theorem vq {R:Sl->Prop} (h:Ay P w K mg base j f F) (hj:j<=k) (hN:At N i x) (hi:At ρ i (.va (.adr f)))
 (ha:pX c (e::es) ρ λds=>∃ r,F ds r/\GG c ρ R r)
 (hdb:(x == ("__debug__":Str))=false:=by decide) (hcd:(x == ("__classdict__":Str))=false:=by decide) (he:∀ env,starEach (e::es) env=(false,eval e env)::starEach es env:=by intro _; walk_at "u")
 (hpl:∀ env,(backTo pos (starEach es env)).any (·.1)=false:=by intro _; walk_at "u"):cW c (.Call (.Name x p) (e::es) [] pos) ρ R:=λσ H Hf Q S q aa s I=>by
 obtain ⟨hk,run⟩:=Az (c:=c) (ρ:=ρ) h hj
 obtain ⟨v0,e0,r0⟩:=S.va hi.get
 rw [pW] at r0
 subst r0
 refine O2 (bC (c.lX hN hdb hcd aa s σ H (λv H1=>v=.ref f/\H1=H) I ⟨_,e0,rfl,rfl⟩) λfv s1 ⟨v,H1,I1,rv,e1,e2⟩=>?_)
 subst e1 e2
 have ef:fv=.ref f:=rv
 subst ef
 refine S6 (h₀:=c.X.base) I1.ok.mod.kin (by rw [c.eK]; exact hk) (bC (ha σ _ Hf (λvs H1=>∃ aQ ds,(∃ r,F ds r/\GG c ρ R r)/\au c.X.K aQ ds vs/\bw _ Hf H1 aQ) S (λds vs H1 aQ hr rs g=>⟨aQ,ds,hr,rs,g⟩) pos aa s1 I1) λus s2 ⟨vs,H2,I2,rv,aQ,ds,⟨r,hF,hR⟩,rs,g⟩=>⟨I2.BQ,?_⟩) (he _) (hpl _)
 refine run aa σ H2 aQ s2 us vs ds r Q I2 (S.cC g) rv rs hF (λsl v H' ai e1 rs2 g2=>?_) λC e1=>?_
 ·subst e1
  exact q sl v H' ai hR (rs2.weak λp hp=>g.s.free hp) (g.trans g2)
 ·subst e1
  exact hR
end
end EV
namespace EV
open PySem PySem.Spec PySem.Calls PyProof.Rows L2
theorem xw (hc:X.calm=true) (I:Inv X aa σ H s) (sb:aH Hf H) (hv:s.heap.IsItemsView v d) (hH:Hf d=some (.frz o u)) (hd:HO.dct u) (hp:Paired (iJ X.K Hf) ds (bD u))
 (hQ:∀ (a:Addr) (s':Shared) (H' ai:Hp) (xs:List V),Inv X aa σ H' s'->H' a=some (.lst xs)->H a=none->ai a=none->au X.K ai ds xs->bw H Hf H' ai->Q (.ref a) s'):wpAny (model X.prog X.w) X.A (call (.type "list") [.ref v]) Q E s:=by
 obtain ⟨ho,ok⟩:=(show bg X.prog X.w H s.heap d (.frz o u) from I.hok d _ (sb _ _ hH))
 obtain ⟨_,_,_,_,_,_,hz⟩:=bR ok hd ho
 have h1:X.A.in1.handled=none:=I.ok.hd hc
 have h2:X.A.in1.frames=some X.stack:=I.ok.frames
 refine callType_codes (Q₁:=λobj s₁=>obj=.ref s.heap.objs.size/\s₁={ s with heap:=s.heap.push { cls:=.type "list",data:=.seq #[] } }) F.called_list (F.typeCall_list_1 _) F.entry_list_init
  (code_list_new _ ⟨rfl,rfl⟩) λobj s₁ h₁=>?_
 obtain ⟨rfl,rfl⟩:=h₁
 have hS:(s.heap.push { cls:=.type "list",data:=.seq #[] }).get? s.heap.objs.size=some { cls:=.type "list",data:=.seq #[] }:=NL _ rfl
 refine ⟨⟨_,hS,rfl⟩,F.args_list_init_2 _ _,?_⟩
 show wpAny _ X.A.in1.in1 (do let old <- Pr (.ref s.heap.objs.size); Pq (.ref s.heap.objs.size) (λ_=> #[]); letGo old.toList.reverse; Rn (.ref s.heap.objs.size) (.ref v) .none) _ _ _
 refine Nt (PD hS rfl ?_)
 have HS:H s.heap.objs.size=none:=I.hok.fresh (Ny _)
 have I1:Inv X aa σ (upd H s.heap.objs.size (.lst [])) { s with heap:=s.heap.push { cls:=.type "list",data:=.seq ([]:List Value).toArray },toks:=s.toks }:=I.Cm (t':=s.toks) (ys:=[]) (its:=[]) .nil (N1 _)
 refine Nt (OV hS rfl ?_)
 have I2:=I1.pM (f:=λ_=>(#[]:Array Value)) (its':=[]) (ys:=[]) (t':=s.toks) af (n:=0) hS (by simp) .nil (N1 _)
 rw [nI] at I2
 refine Nt (Sj ?_)
 have k1:∀ b o,s.heap.get? b=some o->((s.heap.push { cls:=.type "list",data:=.seq ([]:List Value).toArray }).update s.heap.objs.size (N8 λ_=>(#[]:Array Value))).get? b=some o:=λb o e=>by
  rw [Pf _ _ _ _ (N4 (NG e))]
  exact NC _ e
 have up:∀ s':Shared,(∀ b o,s.heap.get? b=some o->s'.heap.get? b=some o)->s'.heap.IsItemsView v d:=λs' k=>by obtain ⟨q,q1,q2⟩:=hv; exact ⟨q,k _ _ q1,q2⟩
 have hne:s.heap.objs.size≠v:=QE (by obtain ⟨_,q,_⟩:=hv; exact NG q)
 have g0:bw H Hf (upd H s.heap.objs.size (.lst [])) Hf:=bw.dZ sb HS
 refine nc (X:=BX X X.A.in1) (T:="dict_items") (ds:=ds) (H:=H) (Hf:=Hf) (R:=wants (λr s₂=>r=.none/\Q (.ref s.heap.objs.size) s₂) E) hc h1 h2 (gT I2 (λ_=>h1) h2) sb HS hne ?_ (by rw [OE hp]; exact hz) (by decide) (λs' k=>(up s' λb o e=>k b o (k1 b o e)).typeIs) (λA s' Q E q h=>m9 q h) ?_ λs' H' ai xs I' hS' hfS hr g=>⟨rfl,hQ _ s' H' ai xs (eX I.ok I') hS' HS hfS hr g⟩
 ·show _<(Heap.update _ _ _).objs.size
  rw [TJ]
  show _<(Heap.push _ _).objs.size
  rw [Py]; exact P9 _
 ·refine Oh (u6 (X:=BX X X.A.in1) (tg:=.Name "x" ⟨0,0,0,0⟩) (gT I2 (λ_=>h1) h2) (up _ k1) (g0.b _ _ hH) hd) (λitv s2 hh=>z3 hh λit es ep hh=>w7 hh λe hit I3 Tn t0 hf k2=>?_) λ_ _ x=>x
  exact ⟨it,_,_,e,hit,I3,Tn,t0,hf,k2,gO hH hp⟩
section
variable {K:Nu} {c:Ctx P w K mg base k N sc bk}
theorem qY (hm:mg "list"=none) (h:aI c e ρ λd=>∃ ds,d.pairs=some ds/\R (.ow ds)) (hg:sc.names.lookup (Nr "list")=some .globalImplicit:=by walk_at "u")
 (hb:∀ env,attributeBase e "items" env (eval e env)=eval e env:=by intro _; walk_at "u") (hl:(ap.endLine == cp.line)=true:=by walk_at "u") :
 cW c (.Call (.Name "list" np) [.Call (.Attribute e "items" ap) [] [] cp] [] pos) ρ R:=λσ H Hf Q S q aa s I=>by
 have hgl:Gl c.X "list":=by unfold Gl Ov; rw [c.esc]; exact hg
 refine O2 (dz I hgl (by rw [c.emg]; exact hm) (show bootBuiltins "list"=some (.type "list") by decide +kernel) ?_ (by decide) (by decide))
 have hpa:=bM (X:=c.X) (e:=.Call (.Attribute e "items" ap) [] [] cp) (es:=[]) (qF cY (hb _) hl) dD (by rfl)
 refine QJ (bC (hpa pos aa s σ H (λvs H1=>∃ x,vs=[x]/\∃ (v d:Addr) (o:Obj) (u:HO) (ds:List D) (H0 rM:Hp),x=.ref v/\H1=upd H0 v (.ext λh=>h.IsItemsView v d)/\H0 v=none/\rM d=some (.frz o u)/\HO.dct u/\Paired (iJ c.X.K rM) ds (bD u)/\bw H Hf H0 rM/\R (.ow ds)) I ?_) λus s1 hh=>z2 hh λvs H1 hh=>w3 hh λI1 r1 hh=>hh.elim λx hh=>w2 hh λex hh=>z4 hh λv d o u hh=>z3 hh λds H0 rM hh=>w8 hh λe1 e2 e3 e4 e5 e6 e8 e9=>?_) (by rfl) (by rfl)
 ·exact h σ H Hf _ S λd v H1 aQ ⟨ds,hp,hR⟩ rv g=>by
   obtain ⟨a,o,u,e1,e2,e3,e4⟩:=jf hp rv
   exact ⟨a,o,u,e1,g.b _ _ e2,e3,λvw hv=>⟨_,rfl,vw,a,o,u,ds,H1,aQ,rfl,rfl,hv,e2,e3,e4,g,hR⟩⟩
 ·subst ex e1 e2
  have eu:us=[.ref v]:=by
   cases r1 with
   | cons q1 q2=>cases q2; cases q1; rfl
  subst eu
  have g1:bw H0 rM (upd H0 v (.ext λh=>h.IsItemsView v d)) rM:=bw.dZ e8.b e3
  obtain ⟨hvw,_⟩:=(show bg c.X.prog c.X.w _ s1.heap v (.ext λh=>h.IsItemsView v d) from I1.hok v _ af)
  refine xw c.calm I1 g1.b hvw e4 e5 e6 λa s' H' ai xs I' hS' na xX hr g=>?_
  have gg:=(e8.trans g1).trans g
  exact ⟨.ref a,H',I',rfl,q (.ow ds) _ _ ai e9 ⟨a,xs,rfl,e8.s.free (g1.s.free na),hS',xX,hr⟩ gg⟩
end
theorem AA {K:Nu}:∀ {ds:List D} {xs:List V} {us:List Value},au K Hf ds xs->Vals xs us->Paired (λd u=>gK K Hf d u) ds us
 | [],xs,us,h,v=>by rw [aC] at h; subst h; cases v; exact .nil
 | t::L,xs,us,h,v=>by
  obtain ⟨x,r,rfl,h1,h2⟩:=aD.mp h
  cases v with
  | cons r1 r2=>exact .cons ⟨x,r1,h1⟩ (AA h2 r2)
theorem AB {K:Nu}:∀ {ds:List D} {us:List Value},Paired (λd u=>gK K Hf d u) ds us->∃ xs,au K Hf ds xs/\Vals xs us
 | _,_,.nil=>⟨[],aC.mpr rfl,.nil⟩
 | _,_,.cons ⟨x,r1,h1⟩ t=>by
  obtain ⟨xs,h2,h3⟩:=AB t
  exact ⟨x::xs,.cons h1 h2,.cons r1 h3⟩
theorem sP (hc:X.calm=true) (I:Inv X aa σ H s) (sb:aH Hf H) (hl:fH X.K Hf l ys) (hr:au X.K Hf ds ys) (hd:∀ d∈ds,∃ es,d=.lst es)
 (hQ:∀ (ds':List D) (xs':List V) (s':Shared) (a:Addr),ds'.Perm ds->au X.K Hf ds' xs'->H a=none->Inv X aa σ (upd H a (.lst xs')) s'->Q (.ref a) s') :
 wpAny (model X.prog X.w) X.A (call (.builtin "sorted") [.ref l] [(Nr "key",.builtin "len")]) Q E s:=by
 refine Rx Rh Ra Rb (SR.jM _ _) ?_
 unfold Builtin.«sorted»
 refine Nt (m:=checkCount "sorted" 1 1 _) (Nv ?_)
 obtain ⟨its,rv,p,hz⟩:=I.list (sb.seq hl)
 have el:=rv.length
 refine Nt (collect_list p.isList ?_ (by lia))
 have I2:Inv X aa σ H { s with heap:=(s.heap.push (seqObj "list" #[] 0)).update s.heap.objs.size (N8 (· ++its.toArray)),toks:=s.toks }:=I.kept λc o e=>by
  rw [Pf _ _ _ _ (N4 (NG e))]
  exact NC _ e
 generalize (s.heap.push (seqObj "list" #[] 0)).update s.heap.objs.size (N8 (· ++its.toArray))=h0 at I2 |-
 refine Nt (Q8 ?_ (by lia))
 have ha:(h0.push (seqObj "list" its.toArray 0)).get? h0.objs.size=some (seqObj "list" its.toArray 0):=NL _ rfl
 have Ha:H h0.objs.size=none:=I2.hok.fresh (Ny _)
 have k2:∀ b o,h0.get? b=some o->(h0.push (seqObj "list" its.toArray 0)).get? b=some o:=λb o e=>NC _ e
 have I3:Inv X aa σ H { s with heap:=h0.push (seqObj "list" its.toArray 0),toks:=s.toks }:=I2.kept (t':=s.toks) k2
 have pL:=AA hr rv
 refine Nt (ON (SS slot_list_sort ⟨_,ha,rfl⟩ entry_list_sort (SR.zU ha (by lia) (λv hv=>?_) λout h' tk e hp he hk=>⟨_,rfl,?_⟩) (SR.gS _ _)))
 ·obtain ⟨d,hd',x,r1,h1⟩:=SR.gR pL v hv
  obtain ⟨es,rfl⟩:=hd d hd'
  obtain ⟨b,zs,rfl,q1,q2⟩:=bq.mp h1
  cases r1
  obtain ⟨its',rv',p',hz'⟩:=I3.list (sb.seq q1)
  have e':=rv'.length
  refine ⟨b,its'.toArray,rfl,?_,p'.isList,by simp only [NR]; lia⟩
  rintro rfl
  obtain ⟨_,_,p2,_⟩:=I2.list (sb.seq q1)
  obtain ⟨o,q,_⟩:=p2.isList
  exact OW _ (NG q)
 ·obtain ⟨ds',p1,p2⟩:=SR.fT hp pL
  obtain ⟨xs',r',v'⟩:=AB p2
  have hlen:out.toList.length=its.length:=hp.length_eq
  refine Nv ⟨_,rfl,hQ ds' xs' _ _ p1 r' Ha ?_⟩
  refine I2.laid (t':=tk) (a:=h0.objs.size) (λb o q=>hk b o (N4 (NG q)) (k2 b o q)) (Ny _) ⟨by have:=v'.length; lia,out.toList,e,v',by simpa using he⟩
section
variable {K:Nu} {c:Ctx P w K mg base k N sc bk}
theorem xx (hm:mg "sorted"=none) (hml:mg "len"=none) (h:aI c e ρ λd=>∃ ds,d=.lst ds/\Sd (∀ x∈ds,∃ es,x=.lst es) (∀ ds':List D,ds'.Perm ds->R (.ow ds')))
 (hg:sc.names.lookup (Nr "sorted")=some .globalImplicit:=by walk_at "u") (hgl:sc.names.lookup (Nr "len")=some .globalImplicit:=by walk_at "u")
 (he:∀ env,starEach [e] env=(false,eval e env)::starEach [] env:=by intro _; walk_at "u")
 (hpl:∀ env,(backTo pos (starEach [e] env)).any (·.1)=false:=by intro _; walk_at "u") :
 cW c (.Call (.Name "sorted" np) [e] [⟨some "key",.Name "len" kp1,kp⟩] pos) ρ R:=λσ H Hf Q S q aa s I=>by
 have hgs:Gl c.X "sorted":=by unfold Gl Ov; rw [c.esc]; exact hg
 have hgl':Gl c.X "len":=by unfold Gl Ov; rw [c.esc]; exact hgl
 refine O2 (dz I hgs (by rw [c.emg]; exact hm) (show bootBuiltins "sorted"=some (.builtin "sorted") by decide +kernel) ?_ (by decide) (by decide))
 refine Sk ?_ (by rw [he]; rfl) (hpl _)
 have hpa:=bM (X:=c.X) (e:=e) (es:=[]) cY dD (he _)
 refine bC (hpa pos aa s σ H (λvs H1=>∃ x,vs=[x]/\∃ (ds:List D) (aQ:Hp),Rep c.X.K aQ (.lst ds) x/\(∀ x∈ds,∃ es,x=.lst es)/\bw H Hf H1 aQ/\∀ ds':List D,ds'.Perm ds->R (.ow ds')) I ?_) λus s1 hh=>z2 hh λvs H1 hh=>w3 hh λI1 r1 hh=>hh.elim λx hh=>w2 hh λex hh=>z2 hh λds aQ hh=>w4 hh λe1 e7 e8 e9=>?_
 ·exact h σ H Hf _ S λd v H1 aQ ⟨ds,hp,⟨hn,hR⟩⟩ rv g=>⟨_,rfl,ds,aQ,by rw [<- hp]; exact rv,hn,g,hR⟩
 ·subst ex
  obtain ⟨a0,ys,rfl,hs,hr⟩:=bq.mp e1
  have eu:us=[.ref a0]:=by
   cases r1 with
   | cons q1 q2=>cases q2; cases q1; rfl
  subst eu
  refine kws_cons (dz I1 hgl' (by rw [c.emg]; exact hml) (show bootBuiltins "len"=some (.builtin "len") by decide +kernel) ?_ (by decide) (by decide))
  refine kws_nil ?_
  exact sP c.calm I1 e8.b hs hr e7 λds' xs' s' a p1 p3 na I3=>⟨.ref a,_,I3,rfl,q (.ow ds') _ _ aQ (e9 ds' p1) ⟨a,xs',rfl,e8.s.free na,af,e8.b.free na,p3⟩ (e8.trans (bw.dZ e8.b na))⟩
end
end EV
namespace EV
open PySem PySem.Spec PyProof.Rows L2
noncomputable def jn (t:aL):aL:=(t.1,-t.2)
theorem DG (h:trim m=m) (hn:m≠[]):b9 m (m.length - 1)≠0:=by
 rcases List.eq_nil_or_concat m with rfl | ⟨l,x,rfl⟩
 ·exact absurd rfl hn
 ·rw [List.concat_eq_append] at h |-
  intro z
  have e:b9 (l++[x]) ((l++[x]).length - 1)=x:=by
   rw [c7 (by simp)]; simp
  rw [e] at z; subst z
  rw [gy] at h
  have:=fV l
  rw [h,N5,O7] at this
  lia
theorem xy (hl:trim l=l) (hm:trim m=m) (h:∀ i,b9 l i=b9 m i):l=m:=by
 have key:∀ {l m:List Int},trim m=m->(∀ i,b9 l i=b9 m i)->m.length<=l.length:=λ{l m} hm h=>by
  rcases Nat.lt_or_ge l.length m.length with z | z
  ·have hn:m≠[]:=by rintro rfl; simp at z
   have:=DG hm hn
   rw [<- h,cH (by lia)] at this
   exact absurd rfl this
  ·exact z
 have e:l.length=m.length:=Nat.le_antisymm (key hl λi=>(h i).symm) (key hm h)
 refine TH e λi h1 h2=>?_
 have:=h i
 rwa [c7 h1,c7 h2] at this
theorem f6 (h:∀ i,b9 p i=b9 q i):trim p=trim q:=xy (cB p) (cB q) λi=>by rw [dQ,dQ,h]
theorem xA (a b):trim (cM (trim a) (trim b))=trim (cM a b):=f6 λi=>by rw [bY,bY,dQ,dQ]
theorem sQ (a b):trim (cM (trim a) b)=trim (cM a b):=f6 λi=>by rw [bY,bY,dQ]
theorem sR (a b):trim (cM a (trim b))=trim (cM a b):=f6 λi=>by rw [bY,bY,dQ]
theorem xB (a b):cM a b=cM b a:=by
 unfold cM; rw [Nat.max_comm]; exact Pe λk _=>Si _ _
theorem AD (a):trim (cM [] a)=trim a:=f6 λi=>by rw [bY,cH (N1 _),Rf]
theorem sS (a b c):trim (cM (cM a b) c)=trim (cM a (cM b c)):=f6 λi=>by
 rw [bY,bY,bY,bY,Int.add_assoc]
noncomputable def ev (g:List Int->Int):List aL->Int
 | []=>0
 | t::A=>t.2 * g (trim t.1)+ev g A
theorem aZ (g) (t) (A):ev g (t::A)=t.2 * g (trim t.1)+ev g A:=rfl
theorem cg (g) (B):∀ A,ev g (A++B)=ev g A+ev g B
 | []=>by simp [ev]
 | t::A=>by rw [Qa,aZ,aZ,cg g B A]; lia
theorem jo (g):∀ A:List aL,ev g (A.map jn)= - ev g A
 | []=>rfl
 | t::A=>by
  rw [NF,aZ,aZ,jo g A]
  show -t.2 * g (trim t.1)+_=_
  rw [Int.neg_mul]; lia
theorem AE (g) (l):∀ B:List aL,ev g (B.map (gF l))=l.2 * ev (λq=>g (trim (cM (trim l.1) q))) B
 | []=>by simp [ev]
 | r::B=>by
  rw [NF,aZ,aZ,AE g l B]
  show l.2 * r.2 * g (trim (cM l.1 r.1))+_=_
  rw [Int.mul_add,xA,Q9]
theorem bN (g) (B):∀ A:List aL,ev g (aF A B)=ev (λp=>ev (λq=>g (trim (cM p q))) B) A
 | []=>rfl
 | l::A=>by
  show ev g (B.map (gF l)++aF A B)=_
  rw [cg,AE,bN g B A]; rfl
theorem f7 (e:∀ p,trim p=p->g p=h p):∀ A,ev g A=ev h A
 | []=>rfl
 | t::A=>by rw [aZ,aZ,e _ (cB _),f7 e A]
theorem AG (g h):∀ A,ev (λp=>g p+h p) A=ev g A+ev h A
 | []=>rfl
 | t::A=>by rw [aZ,aZ,aZ,AG g h A,Int.mul_add]; lia
theorem E9 (c) (g):∀ A,ev (λp=>c * g p) A=c * ev g A
 | []=>by simp [ev]
 | t::A=>by rw [aZ,aZ,E9 c g A,Int.mul_add,Int.mul_left_comm]
theorem vv:∀ A,ev (λ_=>0) A=0
 | []=>rfl
 | t::A=>by rw [aZ,vv A]; simp
theorem vz (f:List Int->List Int->Int) (B):∀ A,ev (λp=>ev (λq=>f p q) B) A=ev (λq=>ev (λp=>f p q) A) B
 | []=>by show 0=ev (λ_=>0) B; rw [vv]
 | t::A=>by
  show t.2 * ev (λq=>f (trim t.1) q) B+ev _ A=ev (λq=>t.2 * f (trim t.1) q+ev (λp=>f p q) A) B
  rw [AG,E9,vz f B A]
def eqv (A B:List aL):Prop:=∀ g,ev g A=ev g B
theorem eqv.rf (A):eqv A A:=λ_=>rfl
theorem eqv.app (h:eqv A A') (k:eqv B B'):eqv (A++B) (A'++B'):=λg=>by rw [cg,cg,h g,k g]
theorem eqv.neg (h:eqv A B):eqv (A.map jn) (B.map jn):=λg=>by rw [jo,jo,h g]
theorem eqv.prod (h:eqv A A') (k:eqv B B'):eqv (aF A B) (aF A' B'):=λg=>by
 rw [bN,bN,h]; exact f7 (λp _=>k _) _
instance trmSetoid:Setoid (List aL):=⟨eqv,⟨eqv.rf,λh g=>(h g).symm,λh k g=>(h g).trans (k g)⟩⟩
noncomputable def MP:Type:=Quotient trmSetoid
noncomputable def mp (A:List aL):MP:=Quotient.mk trmSetoid A
theorem dS:mp A=mp B↔eqv A B:=⟨λh=>Quotient.exact h,λh=>R4 h⟩
noncomputable def cT (n:Int):List aL:=[([],n)]
theorem jN (g) (n):ev g (cT n)=n * g []:=by show n * g (trim [])+0=_; rw [Sg]; rfl
noncomputable instance:Add MP:=⟨Quotient.lift₂ (λA B=>mp (A++B)) λ_ _ _ _ h k=>R4 (eqv.app h k)⟩
noncomputable instance:Mul MP:=⟨Quotient.lift₂ (λA B=>mp (aF A B)) λ_ _ _ _ h k=>R4 (eqv.prod h k)⟩
noncomputable instance:Neg MP:=⟨Quotient.lift (λA=>mp (A.map jn)) λ_ _ h=>R4 (eqv.neg h)⟩
noncomputable instance:Sub MP:=⟨λa b=>a+ -b⟩
noncomputable instance:NatCast MP:=⟨λn=>mp (cT n)⟩
noncomputable instance:IntCast MP:=⟨λn=>mp (cT n)⟩
noncomputable instance (n:Nat):OfNat MP n:=⟨mp (cT n)⟩
noncomputable instance:SMul Nat MP:=⟨λn a=>(n:MP) * a⟩
noncomputable instance:SMul Int MP:=⟨λn a=>(n:MP) * a⟩
noncomputable def MP.pow (a:MP):Nat->MP
 | 0=>1
 | n+1=>MP.pow a n * a
noncomputable instance:HPow MP Nat MP:=⟨MP.pow⟩
theorem f9 (A B):mp (A++B)=mp A+mp B:=rfl
theorem dU (A B):mp (aF A B)=mp A * mp B:=rfl
theorem HD (A):mp (A.map jn)= -mp A:=rfl
theorem sU (n):mp (cT n)=(n:MP):=rfl
theorem pA {P:MP->Prop} (h:∀ A,P (mp A)) (a:MP):P a:=Quotient.inductionOn a h
theorem HE (g) (A):ev g (aF (cT 1) A)=ev g A:=by
 rw [bN,jN,Ri]
 exact f7 (λp hp=>by rw [AD,hp]) _
theorem mulC:∀ a b:MP,a * b=b * a:=pA λA=>pA λB=>dS.mpr λg=>by
 rw [bN,bN,vz]
 exact f7 (λq _=>f7 (λp _=>by rw [xB]) _) _
theorem Kn:∀ a:MP,1 * a=a:=pA λA=>dS.mpr λg=>HE g A
theorem Mu:∀ a b:MP,a+b=b+a:=pA λA=>pA λB=>dS.mpr λg=>by rw [cg,cg,Si]
theorem Fb:∀ a b c:MP,(a+b) * c=a * c+b * c:=pA λA=>pA λB=>pA λC=>dS.mpr λg=>by rw [bN,cg,cg,bN,bN]
theorem Fc:∀ a:MP,0 * a=0:=pA λA=>dS.mpr λg=>by
 rw [bN,jN,jN]; show 0 * _=0 * _; rw [Qg,Qg]
noncomputable instance:Lean.Grind.CommRing MP where
 add_zero:=pA λA=>dS.mpr λg=>by rw [cg,jN]; show _+0 * _=_; rw [Qg,Sg]
 add_comm:=Mu
 add_assoc:=pA λA=>pA λB=>pA λC=>dS.mpr λg=>by rw [cg,cg,cg,cg,Int.add_assoc]
 mul_assoc:=pA λA=>pA λB=>pA λC=>dS.mpr λg=>by
  rw [bN,bN,bN]
  refine f7 (λp _=>?_) _
  rw [bN]
  refine f7 (λq _=>f7 (λr _=>?_) _) _
  rw [sQ,sR,sS]
 mul_one:=λa=>by rw [mulC,Kn]
 one_mul:=Kn
 left_distrib:=λa b c=>by rw [mulC,Fb,mulC b,mulC c]
 right_distrib:=Fb
 zero_mul:=Fc
 mul_zero:=λa=>by rw [mulC,Fc]
 pow_zero:=λ_=>rfl
 pow_succ:=λ_ _=>rfl
 ofNat_succ:=λn=>dS.mpr λg=>by
  show ev g (cT ((n+1:Nat):Int))=ev g (cT (n:Int)++cT ((1:Nat):Int))
  rw [cg,jN,jN,jN,Int.natCast_add,PM]
 ofNat_eq_natCast:=λ_=>rfl
 nsmul_eq_natCast_mul:=λ_ _=>rfl
 neg_add_cancel:=pA λA=>dS.mpr λg=>by
  rw [cg,jo,jN]; show _=0 * _; rw [Qg]; lia
 sub_eq_add_neg:=λ_ _=>rfl
 neg_zsmul:=λi=>pA λA=>dS.mpr λg=>by
  show ev g (aF (cT (-i)) A)=ev g ((aF (cT i) A).map jn)
  rw [jo,bN,bN,jN,jN,Int.neg_mul]
 zsmul_natCast_eq_nsmul:=λ_ _=>rfl
 intCast_ofNat:=λ_=>rfl
 intCast_neg:=λi=>dS.mpr λg=>by
  show ev g (cT (-i))=ev g ((cT i).map jn)
  rw [jo,jN,jN,Int.neg_mul]
 mul_comm:=mulC
theorem AH {A:List aL} {p q:List Int} {n:Int}:(bB (putD A p n) q).getD 0=if q=p then n else (bB A q).getD 0:=by
 unfold putD
 split
 ·rename_i h
  induction A with
  | nil=>simp [bB] at h
  | cons t A ih =>
   rw [NF]
   by_cases e:t.1=p
   ·rw [if_pos e]
    by_cases z:q=p
    ·rw [if_pos z,br (by rw [e,z])]; rfl
    ·rw [if_neg z,aW (by rw [e]; exact λw=>z w.symm),aW (by rw [e]; exact λw=>z w.symm)]
     clear ih h
     induction A with
     | nil=>rfl
     | cons u A ih =>
      rw [NF]
      by_cases w:u.1=q
      ·rw [if_neg (by rw [w]; exact z),br w,br w]
      ·rw [aW w,<- ih,aW (by split <;> exact w)]
   ·rw [if_neg e]
    have h':(bB A p).isSome=true:=by rw [aW e] at h; exact h
    by_cases z:t.1=q
    ·rw [br z,br z,if_neg (by rw [<- z]; exact e)]
    ·rw [aW z,aW z,ih h']
 ·rename_i h
  induction A with
  | nil =>
   rw [QZ]
   by_cases z:q=p
   ·rw [if_pos z,br z.symm]; rfl
   ·rw [if_neg z,aW λw=>z w.symm]
  | cons t A ih =>
   have h0:¬ t.1=p:=λe=>h (by rw [br e]; rfl)
   rw [Qa]
   by_cases z:t.1=q
   ·rw [br z,br z,if_neg (by rw [<- z]; exact h0)]
   ·rw [aW z,aW z,ih (by rw [aW h0] at h; exact h)]
noncomputable def cf (p:List Int) (A:List aL):Int:=ev (λq=>if q=p then 1 else 0) A
theorem AI (p):∀ ts:List aL,(bB (aP ts) p).getD 0=cf p ts:=by
 intro ts
 suffices H:∀ (ts A:List aL),(bB (ts.foldl fy A) p).getD 0=(bB A p).getD 0+cf p ts by
  have:=H ts []
  rw [show (bB ([]:List aL) p).getD 0=0 from rfl,Rf] at this
  exact this
 intro ts
 induction ts with
 | nil=>intro A; show _=_+0; rw [Sg]; rfl
 | cons t ts ih =>
  intro A
  rw [OT,ih]
  unfold fy
  rw [AH]
  show _=_+(t.2 * (if trim t.1=p then 1 else 0)+cf p ts)
  by_cases z:p=trim t.1
  ·rw [if_pos z,if_pos z.symm,z]; lia
  ·rw [if_neg z,if_neg λw=>z w.symm]; lia
theorem AJ:t∈nz (aP ts)↔trim t.1=t.1/\t.2≠0/\t.2=cf t.1 ts:=by
 have hk:=dP ts
 constructor
 ·intro h
  unfold nz at h
  rw [Q0] at h
  refine ⟨?_,by simpa using h.2,?_⟩
  ·have bd:∃ n,∀ t∈ts,t.1.length<=n:=by
    clear h hk
    induction ts with
    | nil=>exact ⟨0,λt h=>by cases h⟩
    | cons u ts ih =>
     obtain ⟨n,hn⟩:=ih
     refine ⟨max n u.1.length,λt ht=>?_⟩
     rcases NU.mp ht with rfl | ht
     ·lia
     ·have:=hn t ht; lia
   obtain ⟨n,hn⟩:=bd
   exact (oH hn t h.1).1
  ·rw [<- AI,vj hk h.1]; rfl
 ·rintro ⟨h1,h2,h3⟩
  unfold nz
  rw [Q0]
  refine ⟨?_,by simpa using h2⟩
  rw [<- AI] at h3
  cases e:bB (aP ts) t.1 with
  | none=>rw [e] at h3; exact absurd h3 h2
  | some n =>
   rw [e] at h3
   have h3':t.2=n:=h3
   unfold bB at e
   obtain ⟨u,hu,e2⟩:=NQ.mp e
   have m:=List.mem_of_find?_eq_some hu
   have z:u.1=t.1:=by simpa using List.find?_some hu
   have:u=t:=Prod.ext z (by rw [e2,h3'])
   rw [<- this]; exact m
theorem qZ {L M:List aL} (h1:L.Nodup) (h2:M.Nodup) (h:∀ t,t∈L↔t∈M):L.Perm M:=(List.perm_ext_iff_of_nodup h1 h2).mpr h
theorem AK (h:eqv A B):aO A=aO B:=by
 have nA:=keys_nodup (vd (dP A))
 have nB:=keys_nodup (vd (dP B))
 have hp:(nz (aP A)).Perm (nz (aP B)):=qZ nA nB λt=>by rw [AJ,AJ]; unfold cf; rw [h]
 exact oE nB ((bQ _).trans hp) (iO nA)
theorem dW (h:mp A=mp B):aO A=aO B:=AK (dS.mp h)
theorem HF (g) (hp:trim p=p) (n) (hk:(A.map (·.1)).Nodup) (ht:∀ t∈A,trim t.1=t.1):ev g (putD A p n)=ev g A+(n - (bB A p).getD 0) * g p:=by
 unfold putD
 split
 ·rename_i h
  induction A with
  | nil=>simp [bB] at h
  | cons t A ih =>
   rw [NF]
   rw [NF,Pu] at hk
   by_cases e:t.1=p
   ·rw [if_pos e]
    have same:A.map (λkv:aL=>if kv.1=p then (kv.1,n) else kv)=A:=by
     refine (Pe λu hu=>?_).trans (List.map_id A)
     rw [if_neg λz=>hk.1 (by rw [e,<- z]; exact Of.mpr ⟨u,hu,rfl⟩)]; rfl
    rw [same,br e]
    rw [aZ,aZ]
    show n * g (trim t.1)+_=_+(n - t.2) * _
    rw [ht t NP,e,Int.sub_mul]; lia
   ·rw [if_neg e]
    rw [aZ,aZ,ih hk.2 (λu hu=>ht u (NK _ hu)) (by rw [aW e] at h; exact h),aW e]; lia
 ·rename_i h
  have e:bB A p=none:=by
   cases e:bB A p with
   | none=>rfl
   | some n=>rw [e] at h; exact absurd rfl h
  rw [cg,e]
  show _+(n * g (trim p)+0)=_+(n - 0) * _
  rw [hp,Int.sub_zero,Sg]
theorem vA (ts):eqv (aP ts) ts:=by
 suffices H:∀ (ts A:List aL),(A.map (·.1)).Nodup->(∀ t∈A,trim t.1=t.1)->eqv (ts.foldl fy A) (A++ts) from H ts [] (by simp) (by simp)
 intro ts
 induction ts with
 | nil=>intro A _ _ g; simp
 | cons t ts ih =>
  intro A hk ht g
  have ih':ev g (ts.foldl fy (fy A t))=ev g (fy A t++ts):=ih _ (qI _ _ hk) (λu hu=>by
   rcases oG hu with e | e
   ·rw [e,cB]
   ·exact ht u e) g
  rw [OT,ih',cg,cg]
  unfold fy
  rw [HF g (cB _) _ hk ht]
  show _=_+(t.2 * g (trim t.1)+ev g ts)
  rw [Int.sub_mul,PM]; lia
theorem DH (g) (h:A.Perm B):ev g A=ev g B:=by
 induction h with
 | nil=>rfl
 | cons x _ ih=>rw [aZ,aZ,ih]
 | swap x y l=>rw [aZ,aZ,aZ,aZ]; lia
 | trans _ _ a b=>rw [a,b]
theorem AL (g):∀ A:List aL,ev g (nz A)=ev g A
 | []=>rfl
 | t::A=>by
  unfold nz
  by_cases h:t.2=0
  ·rw [QL (by simp [h])]
   show ev g (nz A)=t.2 * _+_
   rw [AL g A,h,Qg,Rf]
  ·rw [P0 (by simp [h])]
   show _+ev g (nz A)=_
   rw [AL g A]; rfl
theorem AM (ts):eqv (aO ts) ts:=λg=>by
 show ev g (gW (nz (aP ts)))=_
 rw [DH g (bQ _),AL,vA ts g]
theorem c9 (A):mp (aO A)=mp A:=dS.mpr (AM A)
theorem HG (A):mp (aP A)=mp A:=dS.mpr (vA A)
noncomputable def stp {α:Type} (xs:List α) (lo hi st:Option Int):List α:=(sliceRange (sliceBounds lo hi st xs.length).1 (sliceBounds lo hi st xs.length).2.1 (sliceBounds lo hi st xs.length).2.2).filterMap (xs[·]?)
theorem div_le_self {m st:Int} (h:0<m) (hs:0<st):(m+st - 1) / st<=m:=by
 have e:(m+st - 1) / st<m+1:=by
  apply Int.ediv_lt_of_lt_mul hs
  have:0<=m * (st - 1):=R7 (by lia) (by lia)
  rw [Int.mul_sub,Int.mul_one] at this
  rw [PM,Ri]
  lia
 lia
theorem vB {lo hi:Option Int} (hk:0<k):(stp xs lo hi (some k)).length<=xs.length:=by
 unfold stp
 refine NI (List.length_filterMap_le ..) ?_
 have h0:0<=(sliceBounds lo hi (some k) xs.length).1:=by
  cases lo with
  | none=>simp only [sliceBounds,QW]; rw [if_pos hk]; lia
  | some i=>simp only [sliceBounds,QW]; rw [if_pos hk]; lia
 have h1:(sliceBounds lo hi (some k) xs.length).2.1<=xs.length:=by
  cases hi with
  | none=>simp only [sliceBounds,QW]; rw [if_pos hk]; lia
  | some i=>simp only [sliceBounds,QW]; rw [if_pos hk]; lia
 have h2:(sliceBounds lo hi (some k) xs.length).2.2=k:=rfl
 rw [h2]
 unfold sliceRange
 simp only [ND,List.length_range]
 rw [if_pos (by exact hk)]
 split
 ·rename_i z
  have:=div_le_self (m:=(sliceBounds lo hi (some k) xs.length).2.1 - (sliceBounds lo hi (some k) xs.length).1) (by lia) hk
  lia
 ·simp
theorem DI (f:α->β) (xs) (lo hi st):stp (xs.map f) lo hi st=(stp xs lo hi st).map f:=by
 unfold stp
 rw [ND,List.map_filterMap]
 congr 1
 funext i
 rw [NO]
theorem ny (h:Vals xs its):∀ ns:List Nat,Vals (ns.filterMap (xs[·]?)) (ns.filterMap (its[·]?)):=by
 intro ns
 induction ns with
 | nil=>exact .nil
 | cons n ns ih =>
  rw [OS,OS]
  by_cases z:n<xs.length
  ·obtain ⟨u,e,hu⟩:=h.get (NX z)
   rw [NX z,e]
   exact .cons hu ih
  ·rw [O8 (by lia),O8 (by rw [<- h.length]; lia)]
   exact ih
theorem nC {K:Nu} (h:au K H ds xs):∀ ns:List Nat,au K H (ns.filterMap (ds[·]?)) (ns.filterMap (xs[·]?)):=by
 intro ns
 induction ns with
 | nil=>exact aC.mpr rfl
 | cons n ns ih =>
  rw [OS,OS]
  by_cases z:n<ds.length
  ·obtain ⟨u,e,hu⟩:=h.get (NX z)
   rw [NX z,e]
   exact aD.mpr ⟨_,_,rfl,hu,ih⟩
  ·rw [O8 (by lia),O8 (by rw [<- h.length]; lia)]
   exact ih
noncomputable def Mw (X:Cx) (te:TE) (tl th ts:TO):TE:=λσ H Q=>te σ H λx H1=>tl σ H1 λl H2=>th σ H2 λu H3=>ts σ H3 λt H4=>∃ a xs k,x=.ref a/\fH X.K H4 a xs/\t=some k/\0<k/\∀ p,H4 p=none->Q (.ref p) (upd H4 p (.lst (stp xs l u (some k))))
section
variable {lo hi:Option Expr} {st:Expr}
theorem HH (he:PE X e te) (hl:PO X lo tl) (hu:PO X hi th) (ht:PO X (some st) ts):PE X (.Subscript e (.Slice lo hi (some st) p2) pos) (Mw X te tl th ts):=by
 intro aa s σ H Q I h
 refine Rj (bC (he aa s σ H _ I h) λv s1 ⟨x,H1,I1,r1,q1⟩=>?_)
 refine wpAny_Slice (bC (hl aa s1 σ H1 _ I1 q1) λvl s2 ⟨l,H2,I2,pl,q2⟩=>bC (hu aa s2 σ H2 _ I2 q2) λvu s3 ⟨u,H3,I3,pu,q3⟩=>bC (ht aa s3 σ H3 _ I3 q3) λvt s4 ⟨t,H4,I4,pt,q4⟩=>?_)
 obtain ⟨a,xs,k,rfl,hx,rfl,hk,q⟩:=q4
 have I5:Inv X aa σ H4 { s4 with heap:=s4.heap.push { cls:=.type "slice",data:=.fields #[vl,vu,vt] } }:=I4.kept (t':=s4.toks) λb ob q=>NC _ q
 cases r1
 obtain ⟨its,r,hi,hz⟩:=I5.list hx
 have hlen:=r.length
 show wpAny (model X.prog X.w) X.A (subscriptTail e (.Slice lo _ (some st) p2) (.ref a) (.ref s4.heap.objs.size)) (EP X aa σ Q) X.xe { s4 with heap:=s4.heap.push { cls:=.type "slice",data:=.fields #[vl,vu,vt] } }
 refine tail_any (ops:=[.ref a,.ref s4.heap.objs.size]) hi.isList.typeIs RN.lookup ?_ (by walk_at "u")
 refine Sw hi.isList (Tc ..) pl pu pt (by intro e; injection e with e; lia) ?_ (by rw [NR] <;> lia)
 have I6:=I5
 generalize hS:({ s4 with heap:=s4.heap.push { cls:=.type "slice",data:=.fields #[vl,vu,vt] } }:Shared)=S at I6 |-
 have ep:slicePick its.toArray l u (some k)=(stp its l u (some k)).toArray:=by
  unfold slicePick stp
  simp only [NR,List.getElem?_toArray]
 rw [ep]
 refine ⟨.ref S.heap.objs.size,_,I6.laid (t':=S.toks) (o:=.lst (stp xs l u (some k))) (λb ob q=>NC _ q) (Ny _) ?_,rfl,q _ (I6.hok.fresh (Ny _))⟩
 exact ⟨NI (vB hk) hz,_,0,by unfold stp; rw [hlen]; exact ny r _,NL _ rfl⟩
end
section
variable {K:Nu}
theorem Ko {lo hi:Option Expr} {st:Expr} (h:aI c e ρ λx=>wz c lo ρ λl=>wz c hi ρ λu=>wz c (some st) ρ λt=>∃ ds k,x=.lst ds/\t=some k/\0<k/\R (.ow (stp ds l u (some k)))):cW c (.Subscript e (.Slice lo hi (some st) p2) pos) ρ R:=λσ H Hf Q S q =>
 bO (HH cY ER ER ER) (h σ H Hf _ S λx v H1 aQ h1 r1 g1=>h1 σ H1 aQ _ (S.cC g1) λl H2 cO h2 g2=>h2 σ H2 cO _ (S.cC (g1.trans g2)) λu H3 Hf3 h3 g3=>h3 σ H3 Hf3 _ (S.cC ((g1.trans g2).trans g3)) λt H4 Hf4 h4 g4=>by
  obtain ⟨ds,k,rfl,rfl,hk,hR⟩:=h4
  have r3:=Rep.mono g4.f _ (Rep.mono g3.f _ (Rep.mono g2.f _ r1))
  have g:=((g1.trans g2).trans g3).trans g4
  rw [bq] at r3
  obtain ⟨a,xs,rfl,k1,k2⟩:=r3
  refine ⟨a,xs,k,rfl,g4.b.seq k1,rfl,hk,λp hp=>?_⟩
  exact q _ _ _ _ hR ⟨p,_,rfl,g.s.free hp,af,g4.b.free hp,by unfold stp; rw [k2.length]; exact nC k2 _⟩ (g.trans (bw.dZ g4.b hp)))
end
end EV
namespace EV
open PySem PySem.Spec PySem.Calls PyProof.Rows L2
structure Drw (prog:Program) (w:World) (L:List Addr) (i:Addr) (N N':Heap->Prop) (x:Value):Prop where
 keep:∀ {b:Addr} {h h':Heap},b∈L->PN b h h'->N h->N h'
 keep':∀ {b:Addr} {h h':Heap},b∈L->PN b h h'->N' h->N' h'
 run:∀ {A:Around} {E Q:Value->Shared->Prop} {s:Shared},N s.heap->(∀ h',N' h'->O3 i s.heap h'->Q x { s with heap:=h' })->wpAny (model prog w) A (Qo (.ref i)) Q E s
structure Dry (prog:Program) (w:World) (L:List Addr) (i:Addr) (N:Heap->Prop):Prop where
 keep:∀ {b:Addr} {h h':Heap},b∈L->PN b h h'->N h->N h'
 run:∀ {A:Around} {E Q:Value->Shared->Prop} {s:Shared},A.handled=none->N s.heap->(∀ h' e,PN i s.heap h'->(∃ o,h'.get? e=some o/\o.cls=.type "StopIteration")->E (.ref e) { s with heap:=h' })->wpAny (model prog w) A (Qo (.ref i)) Q E s
structure Nl (z TI TO i1 i2:Addr):Prop where
 a:TI≠z
 b:TO≠z
 c:i1≠z
 d:i2≠z
 e:TI≠TO
 f:TI≠i1
 g:TI≠i2
 h:TO≠i1
 i:TO≠i2
 j:i1≠i2
structure ZS (K:Nu) where
 sq:Hp->Addr->List V->Prop
 it:Heap->Addr->Addr->Nat->Prop
 us:Heap->Addr->Array Value->Prop
 dm:List D->D
 cl:String
 rep:∀ {H:Hp} {ds:List D} {v:V},Rep K H (dm ds) v↔∃ a xs,v=.ref a/\sq H a xs/\au K H ds xs
 same:∀ {H H':Hp} {a:Addr} {xs:List V},aH H H'->sq H a xs->sq H' a xs
 ini:∀ {h:Heap} {i l:Addr},h.get? i=some { cls:=.type cl,data:=.fields #[.ref l,.int 0 0] }->it h i l 0
 get:∀ {X:Cx} {aa:List (Addr×Obj)} {σ:L2.St} {H:Hp} {s:Shared} {l:Addr} {xs:List V},X.K=K->Inv X aa σ H s->sq H l xs->∃ its,Vals xs its/\us s.heap l its.toArray
 inj:∀ {X:Cx} {aa:List (Addr×Obj)} {σ:L2.St} {H:Hp} {s:Shared} {l:Addr} {xs ys:List V},X.K=K->Inv X aa σ H s->sq H l xs->sq H l ys->xs=ys
 ito:∀ {h:Heap} {i l:Addr} {k:Nat},it h i l k->∃ o,h.get? i=some o/\∀ v,o.data≠.cell v
 itk:∀ {h h':Heap} {i l:Addr} {k:Nat},(∀ o,h.get? i=some o->h'.get? i=some o)->it h i l k->it h' i l k
 usk:∀ {h h':Heap} {l:Addr} {a:Array Value},(∀ o,h.get? l=some o->h'.get? l=some o)->us h l a->us h' l a
 uso:∀ {h:Heap} {l:Addr} {a:Array Value},us h l a->∃ o,h.get? l=some o
 run:∀ {prog:Program} {w:World} {i l:Addr} {a:Array Value} {k:Nat} {x:Value} {A:Around} {E Q:Value->Shared->Prop} {s:Shared},l≠i->a[k]?=some x->it s.heap i l k->us s.heap l a->(∀ h',it h' i l (k+1)->O3 i s.heap h'->Q x { s with heap:=h' })->wpAny (model prog w) A (Qo (.ref i)) Q E s
 dry:∀ {prog:Program} {w:World} {i l:Addr} {a:Array Value} {k:Nat} {A:Around} {E Q:Value->Shared->Prop} {s:Shared},A.handled=none->a[k]?=none->it s.heap i l k->us s.heap l a->(∀ h' e,PN i s.heap h'->(∃ o,h'.get? e=some o/\o.cls=.type "StopIteration")->E (.ref e) { s with heap:=h' })->wpAny (model prog w) A (Qo (.ref i)) Q E s
section
variable {K:Nu}
end
section
variable (c d:String)
end
section
variable {K:Nu}
end
section
variable {K:Nu}
end
end EV
namespace EV
open PySem PySem.Spec PyProof.Rows L2
end EV
namespace EV
open PySem PySem.Spec PySem.Calls PyProof.Rows L2
noncomputable abbrev gc (l:List Int):D:=.tup (l.map .int)
section
variable {X:Cx} {aa:List (Addr×Obj)} {σ:L2.St} {H Hf:Hp} {s:Shared} {A:Around} {E:Value->Shared->Prop}
theorem j8 (I:Inv X aa σ H s) (sb:aH Hf H) {l:List Int} {u:Value} (h:gK X.K Hf (gc l) u):∃ b its,u=.ref b/\IsTup s.heap b its/\IntsAre its.toList l:=by
 obtain ⟨v,rv,q⟩:=h
 obtain ⟨b,ys,rfl,h3,h4⟩:=aM.mp q
 cases rv
 obtain ⟨its2,rel2,tu2,_⟩:=I.tuple (az sb h3)
 have e:=fu h4
 subst e
 exact ⟨b,its2.toArray,rfl,tu2,intsAre_of rel2⟩
theorem AN {x y:List Int} (h:gc x=gc y):x=y:=by
 simp only [gc,D.tup.injEq] at h
 exact (S9 (f:=D.int) (λa b e=>by injection e)).mp h
theorem AO (I:Inv X aa σ H s) (sb:aH Hf H) {x y:List Int} {u:Value} (h1:gK X.K Hf (gc x) u) (h2:gK X.K Hf (gc y) u):x=y:=by
 obtain ⟨v,r1,q1⟩:=h1
 obtain ⟨v',r2,q2⟩:=h2
 have:=r1.inj r2
 subst this
 exact AN (jW I sb 1 _ _ _ (k6 x y) q1 q2)
theorem DJ (L:List (List Int)):SR.E4 HT.lexLt L:=⟨λ_ _=>oj _,λ_ _ _ _ _ _ h g=>sI h g,λ_ _ _ _ h=>j6 h⟩
noncomputable def AQ (L:List (List Int)):SortKind:=open Classical in if ∀ l∈L,l≠[] then tuples' true else if L.head?=some [] then oneType' else general'
theorem DK (b:Bool) {m n:Int} {t u:Tok} {Q:Bool->Shared->Prop} (h:Q (decide (m<n)) s):wpAny (model X.prog X.w) A (oneLt' b (.int m t) (.int n u)) Q E s:=by
 cases b with
 | true=>exact oneLt_int h
 | false =>
  rw [oneLt'_eq,if_neg NH]
  exact Nt (lt_int (Nv h))
theorem vC {b:Bool} {m n:Nat} {Q:Bool->Shared->Prop}:∀ {vs ws:List Value} {x y:List Int} (i:Nat),IntsAre vs x->IntsAre ws y->x.length+n=y.length+m->Q (HT.lexLt x y) s->PySem.W.KatLex X.prog X.w A b (decide (m<n)) Q (vs.zip ws) i s
 | _,_,_,_,i,.nil,.nil,e,h=>PySem.W.kat_nil (by rw [HT.gG] at h; rw [decide_eq_false (by simp at e; lia)]; exact h)
 | _,_,_,_,i,.nil,.cons c u hw,e,h=>PySem.W.kat_nil (by rw [HT.fM] at h; rw [decide_eq_true (by simp at e; lia)]; exact h)
 | _,_,_,_,i,.cons a t hv,.nil,e,h=>PySem.W.kat_nil (by rw [HT.fN] at h; rw [decide_eq_false (by simp at e; lia)]; exact h)
 | _,_,_,_,i,.cons a t hv,.cons c u hw,e,h=>by
  rw [RJ]
  refine PySem.W.kat_cons (Tu ?_)
  rw [HT.cG] at h
  by_cases z:a=c
  ·rw [if_pos z] at h
   rw [show (a == c)=true by simpa using z]
   exact PySem.W.kat_yes (vC (i+1) hv hw (by simp at e; lia) h)
  ·rw [if_neg z] at h
   rw [show (a == c)=false by simpa using z]
   exact PySem.W.kat_no (DK _ h)
theorem jG {α β:Type} {F:α->β->Prop}:∀ {l:List α} {m:List β} {i:Nat} {b:β},Paired F l m->m[i]?=some b->∃ a,l[i]?=some a/\F a b
 | _,_,_,_,.nil,e=>by simp at e
 | _,_,0,_,.cons r _,e=>by simp at e; subst e; exact ⟨_,rfl,r⟩
 | _,_,i+1,a,.cons _ t,e=>by
  obtain ⟨b,h1,h2⟩:=jG (i:=i) t (by simpa using e)
  exact ⟨b,by simpa using h1,h2⟩
theorem AR (I:Inv X aa σ H s) (sb:aH Hf H) {L:List (List Int)} {us:List Value} (h:Paired (λx u=>gK X.K Hf (gc x) u) L us) (h2:2<=us.length) {Q:SortKind->Shared->Prop} (hQ:Q (AQ L) s):wpAny (model X.prog X.w) A (keyKind' us.toArray) Q E s:=by
 have key:∃ fs:List (Option Value),Paired (λ(l:List Int) o=>(l=[]/\o=none)\/∃ n r t,l=n::r/\o=some (PV n t)) L fs/\Paired (λu o=>∀ (Q:Option Value->Shared->Prop),Q o s->wpAny (model X.prog X.w) A (firstOfTuple' u) Q E s) us fs:=by
  clear h2 hQ
  induction h with
  | nil=>exact ⟨[],.nil,.nil⟩
  | @cons x u L us r t ih =>
   obtain ⟨fs,e1,e2⟩:=ih
   obtain ⟨a,its,rfl,⟨o,ho,hc,n,hd⟩,ia⟩:=j8 I sb r
   refine ⟨its[0]?::fs,.cons ?_ e1,.cons (λQ hQ=>?_) e2⟩
   ·rw [<- Oj]
    generalize its.toList=il at ia
    cases ia with
    | nil=>exact .inl ⟨rfl,rfl⟩
    | cons n t' _=>exact .inr ⟨n,_,t',rfl,rfl⟩
   ·show wpAny _ _ (do
     if (<- typeOf (.ref a)) != .type "tuple" then return none
     return (<- Pr (.ref a))[0]?) _ _ _
    refine Nt (Pk (T:="tuple") ⟨o,ho,hc⟩ ?_)
    rw [if_neg (by simp)]
    exact Nt (PD ho hd (Nv hQ))
 obtain ⟨fs,e1,e2⟩:=key
 rw [keyKind'_eq,RQ]
 simp only [bind_map_left]
 refine Nt (dO _ _ e2 ?_)
 have typs:∀ {T:String} (vs:List Value) (Q:List Value->Shared->Prop),(∀ v∈vs,s.TypeIs v T)->Q (vs.map λ_=>.type T) s->wpAny (model X.prog X.w) A (vs.mapM typeOf) Q E s:=λ{T} vs Q ht hQ=>by
  refine dO _ _ ?_ hQ
  clear hQ
  induction vs with
  | nil=>exact .nil
  | cons f fs ih=>exact .cons (λQ hQ=>Pk (ht f NP) hQ) (ih λg hg=>ht g (NK _ hg))
 have el:L.length=us.length:=OE h
 have ef:L.length=fs.length:=OE e1
 have oneT:∀ {T:String} (vs:List Value) (Q:Option Value->Shared->Prop),vs≠[]->(∀ v∈vs,s.TypeIs v T)->Q (some (.type T)) s->wpAny (model X.prog X.w) A (oneTypeOnly' vs.toArray) Q E s:=λ{T} vs Q hne ht hQ=>by
  rw [oneTypeOnly'_eq,RQ]
  simp only [bind_map_left]
  refine Nt (typs (T:=T) vs _ ht ?_)
  obtain ⟨f,r,rfl⟩:=List.exists_cons_of_ne_nil hne
  have h0:(List.map (λ_=>Ou T) (f::r)).toArray[0]?=some (Ou T):=by simp
  rw [h0]
  dsimp only
  rw [if_pos (by simp)]
  exact Nv hQ
 unfold AQ at hQ
 by_cases hall:∀ l∈L,l≠[]
 ·rw [if_pos hall] at hQ
  have e3:∃ gs:List Value,fs=gs.map some/\∀ g∈gs,s.TypeIs g "int":=by
   clear h h2 hQ e2 el ef oneT typs
   induction e1 with
   | nil=>exact ⟨[],rfl,by simp⟩
   | @cons x o L fs r t ih =>
    obtain ⟨gs,q1,q2⟩:=ih λl hl=>hall l (NK _ hl)
    rcases r with ⟨z,_⟩ | ⟨n,r',t',_,rfl⟩
    ·exact absurd z (hall x NP)
    ·exact ⟨.int n t'::gs,by rw [q1]; rfl,λg hg=>by
      rcases NU.mp hg with rfl | hg
      ·exact typeIs_int s n t'
      ·exact q2 g hg⟩
  obtain ⟨gs,rfl,q2⟩:=e3
  rw [if_pos (by simp)]
  refine Nt (OO ?_)
  have e4:(gs.map some).toArray.filterMap id=gs.toArray:=by simp
  rw [e4]
  refine Nt (oneT (T:="int") gs _ (λz=>by subst z; rw [el,Pb,OZ] at ef; lia) q2 (Nv ?_))
  have e6:(some (Ou "int")).any (λx=>x != Ou "tuple")=true:=by decide
  rw [e6]
  exact hQ
 ·rw [if_neg hall] at hQ
  have hno:¬ (fs.toArray.all λx=>x.isSome)=true:=λz=>hall λl hl hl0=>by
   obtain ⟨i,hi,ei⟩:=List.mem_iff_getElem.mp hl
   obtain ⟨o,ho,r⟩:=c6 e1 (NX hi)
   rw [ei] at r
   have zo:o.isSome=true:=by
    rw [List.all_toArray,List.all_eq_true] at z
    exact z o (O1 ho)
   rcases r with ⟨_,rfl⟩ | ⟨n,r',t',e,_⟩
   ·cases zo
   ·rw [hl0] at e; cases e
  rw [if_neg hno]
  cases e1 with
  | nil=>rw [OZ] at el; lia
  | @cons x o L fs r t =>
   have e0:((o::fs).toArray[0]?.bind id)=o:=by simp
   rw [e0]
   rcases r with ⟨rfl,rfl⟩ | ⟨n,r',t',rfl,rfl⟩
   ·rw [if_pos (by simp)] at hQ
    rw [if_neg (by simp)]
    refine Nt (oneT (T:="tuple") us _ (λz=>by subst z; simp at h2) (λv hv=>?_) (Nv hQ))
    obtain ⟨i,hi,ei⟩:=List.mem_iff_getElem.mp hv
    obtain ⟨l,_,r⟩:=jG h (NX hi)
    rw [ei] at r
    obtain ⟨a,its,rfl,⟨o,ho,hc,n,hd⟩,ia⟩:=j8 I sb r
    exact ⟨o,ho,hc⟩
   ·rw [if_neg (by simp)] at hQ
    rw [if_pos (by simp)]
    exact Nv hQ
theorem Fd {vs:List Value} {ns:List Int} (h:IntsAre vs ns):vs.length=ns.length:=h.length
theorem HJ (I:Inv X aa σ H s) (sb:aH Hf H) (hA:A.units+10<cLine) {L:List (List Int)} {x y:List Int} {u v:Value} (hx:gK X.K Hf (gc x) u) (hy:gK X.K Hf (gc y) v) {Q:Bool->Shared->Prop} (hQ:Q (HT.lexLt x y) s):wpAny (model X.prog X.w) A (keyLt' (AQ L) u v) Q E s:=by
 obtain ⟨a,its,rfl,ta,ia⟩:=j8 I sb hx
 obtain ⟨b,its2,rfl,tb,ib⟩:=j8 I sb hy
 have hu:A.units<cLine:=by lia
 have gen:wpAny (model X.prog X.w) A (oneLt' false (.ref a) (.ref b)) Q E s:=PySem.W.kat_one _ _ (HT.kq ta tb ia ib hu hQ)
 obtain ⟨⟨cls,dd,data,sl⟩,ho,hc,n,hd⟩:=id ta
 obtain ⟨⟨cls2,dd2,data2,sl2⟩,ho2,hc2,n2,hd2⟩:=id tb
 simp only at hc hd hc2 hd2
 subst hc hd hc2 hd2
 unfold AQ
 split
 ·exact PySem.W.kat_lt ho rfl ho2 rfl (vC (m:=its.size) (n:=its2.size) 0 ia ib (by have:=ia.length; have:=ib.length; simp only [Oo] at *; lia) hQ)
 ·split
  ·rw [keyLt'_oneType,oneLt'_eq]
   simp only [if_true]
   refine Nt (wpAny_cRoomFor hu ?_)
   refine Nt (wpAny_callSpecialIfBound?_slot ⟨_,ho,rfl⟩ SJ (QG SJ ⟨_,ho,rfl⟩ PySem.F.entry_tuple_lt (PySem.F.args_tuple_lt_2 _ _) (HT.gH a b its its2 n n2 dd dd2 sl sl2 x y ia ib) ⟨ho,ho2,?_⟩))
   exact QS hQ
  ·exact gen
end
section
variable {prog:Program} {w:World} {A:Around} {E:Value->Shared->Prop} {s:Shared}
open PySem in
theorem AU {d:Addr} {o:Obj} {es:Array DictEntry} {ep:Nat} {Q:Value->Shared->Prop} (hd:(d == sysModules)=false) (ho:s.heap.get? d=some o) (hx:o.ExactDict) (hdat:o.data=.dict es ep)
 (hQ:Q (.ref s.heap.objs.size) { s with heap:=s.heap.push { cls:=.type "dict_keyiterator",data:=.fields #[.ref d,.int 0 0,.int es.size 0,.int ep 0] } }) :
 wpAny (model prog w) A (pyIter (.ref d)) Q E s:=by
 have hT:s.TypeIs (.ref d) "dict":=⟨o,ho,hx.1⟩
 refine Tf hT F.slot_dict_iter (O4 F.slot_dict_iter hT F.entry_dict_iter ?_ (F.args_dict_iter_1 _))
 unfold Builtin.«dict.__iter__»
 refine Nt ?_
 unfold Builtin.Dict.dictSlotNone
 refine Nt (wpAny_notOrdered_dict hT ?_)
 show wpAny _ _ (pure (NW d)) _ _ s
 refine Nv ?_
 show wpAny _ _ (RB d >>= _) _ _ s
 unfold RB
 rw [if_neg (by rw [hd]; exact NH)]
 refine Nt (Nv ?_)
 refine Nt (Qy ho hdat ?_)
 refine Nt (QA ho hdat ?_)
 refine Nt (OJ (Nv ⟨_,rfl,"dict_keyiterator",_,⟨_,NL _ rfl,rfl⟩,QI.lookup,?_⟩))
 simpa [rawInt] using hQ
theorem AV {it d:Addr} {i ep:Nat} {od:Obj} {es:Array DictEntry} {e:DictEntry} {Q:Option Value->Shared->Prop} (hit:s.heap.IsKeyIter it d i es.size ep)
 (hod:s.heap.get? d=some od) (hdd:od.data=.dict es ep) (hx:es[i]?=some e)
 (hQ:∀ h',h'.IsKeyIter it d (i+1) es.size ep->O3 it s.heap h'->Q (some e.key) { s with heap:=h' }) :
 wpAny (model prog w) A (pyNext (.ref it)) Q E s:=by
 obtain ⟨o,ho,hc,hd⟩:=id hit
 unfold pyNext
 refine Nt (QC (Pp (name:=Nr "__next__") hit.typeIs QI
  (O4 QI hit.typeIs T7 ?_ (T4 _))))
 refine Nt (Nv ?_)
 refine Nt ?_
 refine Nt ?_
 first | refine Nt (Rm hit.typeIs (Nv ?_)) | refine Nt (Rr hit.typeIs (Nv ?_))
 refine Nt (R1 ho hd ?_)
 have hown:Ss "dict_keyiterator"=false:=by decide
 simp only [hown,Od,if_false]
 show wpAny _ _ (if (NW d == OC)=true then _ else _) _ _ s
 rw [if_neg (show ¬ ((NW d == OC)=true) from NH)]
 refine Nt (Nv ?_)
 refine Nt (Qy hod hdd ?_)
 rw [if_neg (by simp)]
 refine Nt (Nv ?_)
 refine Nt (QA hod hdd ?_)
 rw [if_neg (by simp)]
 refine Nv ?_
 simp only [show ¬ ((i:Int)<0) from by omega,if_false,Oz,hx]
 refine Nt ?_
 first | refine Nt (Rm hit.typeIs (Nv ?_)) | refine Nt (Rr hit.typeIs (Nv ?_))
 refine Nt (wpAny_isOneOf_keyiter hit.typeIs ?_)
 show wpAny _ _ (setField (.ref it) 1 (rawInt ((i:Int)+1)) >>= _) _ _ s
 refine Nt (Q7 ho hd (by simp) ?_)
 have hit':(s.heap.update it (Obj.mapFields (·.setIfInBounds 1 (rawInt ((i:Int)+1))))).IsKeyIter it d (i+1) es.size ep :=
  ⟨_,Heap.get?_update_self _ ho (Obj.isFreed_of_fields (RI hd _)),(Obj.cls_mapFields ..).trans hc,by rw [RI hd]; simp [rawInt]⟩
 refine Nt (ON ?_)
 refine Nt (wpAny_isOneOf_keyiter (s:={ s with heap:=s.heap.update it (Obj.mapFields (·.setIfInBounds 1 (rawInt ((i:Int)+1)))) }) hit'.typeIs ?_)
 show wpAny _ _ (pure e.key) _ _ _
 exact Nv (Nv ⟨_,rfl,Nv (hQ _ hit' (QO ..))⟩)
theorem DL {it d:Addr} {i ep:Nat} {od:Obj} {es:Array DictEntry} {Q:Option Value->Shared->Prop} (hh:A.handled=none) (hit:s.heap.IsKeyIter it d i es.size ep)
 (hod:s.heap.get? d=some od) (hdd:od.data=.dict es ep) (hge:es.size<=i)
 (hQ:∀ h',PN it s.heap h'->Q none { s with heap:=h' }):wpAny (model prog w) A (pyNext (.ref it)) Q E s:=by
 obtain ⟨o,ho,hc,hd⟩:=id hit
 unfold pyNext
 refine Nt (QC (Pp (name:=Nr "__next__") hit.typeIs QI
  (O4 QI hit.typeIs T7 ?_ (T4 _))))
 refine Nt (Nv ?_)
 refine Nt ?_
 refine Nt ?_
 first | refine Nt (Rm hit.typeIs (Nv ?_)) | refine Nt (Rr hit.typeIs (Nv ?_))
 refine Nt (R1 ho hd ?_)
 have hown:Ss "dict_keyiterator"=false:=by decide
 simp only [hown,Od,if_false]
 show wpAny _ _ (if (NW d == OC)=true then _ else _) _ _ s
 rw [if_neg (show ¬ ((NW d == OC)=true) from NH)]
 refine Nt (Nv ?_)
 refine Nt (Qy hod hdd ?_)
 rw [if_neg (by simp)]
 refine Nt (Nv ?_)
 refine Nt (QA hod hdd ?_)
 rw [if_neg (by simp)]
 refine Nv ?_
 simp only [show ¬ ((i:Int)<0) from by omega,if_false,Oz,Array.getElem?_eq_none hge]
 refine Nt ?_
 first | refine Nt (Rm hit.typeIs (Nv ?_)) | refine Nt (Rr hit.typeIs (Nv ?_))
 show wpAny _ _ (setField (.ref it) 0 .none >>= _) _ _ s
 refine Nt (Q7 ho hd (by simp) ?_)
 show wpAny _ _ (newExc (.type "StopIteration") [] >>= _) _ _ _
 refine Nt ?_
 simp only [newExc,newTuple]
 refine Nt (OJ ?_ (by size_fits))
 refine Nt (m:=firstArgMember _ _) (wpAny_of_eq (a:=OC) (by first | rfl | (simp only [firstArgMember]; rfl)) ?_)
 refine OJ ?_ (by size_fits)
 simp only [raiseNew]
 refine Nt (wpAny_handled ?_)
 rw [show A.in1.handled=none from hh]
 refine Nt (Nv (wpAny_throw ?_))
 refine Nt (RU (T:="StopIteration") (b:=true) ⟨_,NL _ rfl,rfl⟩ isSubtype_stop ?_)
 exact Nv (hQ _ (((QO ..).extBut.push _).push _))
end
section
variable {X:Cx} {aa:List (Addr×Obj)} {σ:L2.St} {H Hf:Hp} {s:Shared} {E:Value->Shared->Prop} {α:Type} {enc:α->D} {lt:α->α->Bool} {κ:SortKind}
structure Kp (X:Cx) (enc:α->D) (lt:α->α->Bool) (κ:SortKind) (L:List α):Prop where
 lin:SR.E4 lt L
 inj:∀ (aa:List (Addr×Obj)) (σ:L2.St) (H Hf:Hp) (s:Shared),Inv X aa σ H s->aH Hf H->∀ x y u,gK X.K Hf (enc x) u->gK X.K Hf (enc y) u->x=y
 kind:∀ (aa:List (Addr×Obj)) (σ:L2.St) (H Hf:Hp) (s:Shared) (A:Around) (E:Value->Shared->Prop),Inv X aa σ H s->aH Hf H->∀ us:List Value,Paired (λx u=>gK X.K Hf (enc x) u) L us->2<=us.length->∀ Q:SortKind->Shared->Prop,Q κ s->wpAny (model X.prog X.w) A (keyKind' us.toArray) Q E s
 cmp:∀ (aa:List (Addr×Obj)) (σ:L2.St) (H Hf:Hp) (s:Shared) (A:Around) (E:Value->Shared->Prop),Inv X aa σ H s->aH Hf H->A.units+10<cLine->∀ (x y:α) (u v:Value),gK X.K Hf (enc x) u->gK X.K Hf (enc y) v->∀ Q:Bool->Shared->Prop,Q (lt x y) s->wpAny (model X.prog X.w) A (keyLt' κ u v) Q E s
theorem DM (L:List (List Int)):Kp X gc HT.lexLt (AQ L) L :=
 ⟨DJ L,λ_ _ _ _ _ I sb _ _ _ h1 h2=>AO I sb h1 h2,λ_ _ _ _ _ _ _ I sb _ p h2 _ hQ=>AR I sb p h2 hQ,λ_ _ _ _ _ _ _ I sb hA _ _ _ _ hx hy _ hQ=>HJ I sb hA hx hy hQ⟩
theorem xC {L:List α} {b:Bool} {kw:List (Str×Value)} {A:Around} {us:List Value} {xs:List V} {Q:Value->Shared->Prop} (hs:Kp X enc lt κ L) (I:Inv X aa σ H s) (sb:aH Hf H) (hA:A.units+20<cLine) (hr:au X.K Hf (L.map enc) xs) (hv:Vals xs us) (hz:us.length<=sizeLine) (nd:L.Nodup)
 (hkw:∀ l,Builtin.«list.sort» ⟨[.ref l],kw⟩=Builtin.«list.sort» ⟨[.ref l],[(Nr "reverse",.bool b)]⟩) (hka:∀ l,argsOk "list.sort" ⟨[.ref l],kw⟩)
 (hQ:∀ (L':List α) (xs':List V) (s':Shared),L'.Perm L->gE lt b L'->au X.K Hf (L'.map enc) xs'->xs'.length<=sizeLine->Inv X aa σ (upd H s.heap.objs.size (.lst xs')) s'->Q (.ref s.heap.objs.size) s') :
 wpAny (model X.prog X.w) A (newList us >>= λl=>(holding [l] (call (.builtin "list.sort") [l] kw) >>= λ_=>ret l)) (λfin s'=>∃ v,fin=.done (.ret v)/\Q v s') E s:=by
 refine Nt (Q8 ?_ hz)
 have ha:(s.heap.push (seqObj "list" us.toArray 0)).get? s.heap.objs.size=some (seqObj "list" us.toArray 0):=NL _ rfl
 have I1:Inv X aa σ H { s with heap:=s.heap.push (seqObj "list" us.toArray 0),toks:=s.toks }:=I.kept λb o e=>NC _ e
 have Ha:H s.heap.objs.size=none:=I.hok.fresh (Ny _)
 obtain ⟨f0,f1,f2,f3,f4,f5⟩:=I.kh (H':=H) (Ny _) Ha
 have pL:=k7 hr hv
 refine Nt (ON (SS slot_list_sort ⟨_,ha,rfl⟩ entry_list_sort (by
  rw [hkw]
  refine SR.m8 (κ:=κ) (rk:=SR.wQ (λx u=>gK X.K Hf (enc x) u) lt L) (b:=b) ha ?_ hz λout hp ho=>⟨_,rfl,?_⟩
  ·intro h' k
   have I2:=I1.turned (h':=h') (t':=s.toks) (it:=s.heap.objs.size) (λb o hb e=>k b o hb e) f0 f1 f3 f4 f5
   refine ⟨λQ E h2 hQ=>hs.kind _ _ _ _ _ _ _ I2 sb _ pL h2 _ hQ,SR.zT (λx y u h1 h2=>hs.inj _ _ _ _ _ I2 sb x y u h1 h2) hs.lin pL λx _ y _ u v hx hy E Q hQ=>hs.cmp _ _ _ _ _ _ _ I2 sb ?_ _ _ _ _ hx hy _ hQ⟩
   show A.units+1+10<cLine
   lia
  ·obtain ⟨L',p1,p2,p3⟩:=SR.qE (S:=λx u=>gK X.K Hf (enc x) u) (λx y u h1 h2=>hs.inj _ _ _ _ _ I sb x y u h1 h2) hs.lin nd pL hp ho
   obtain ⟨xs',r',v'⟩:=k8 p3
   obtain ⟨e,he⟩:=sortedHeap_at (vs:=us) (out:=out) ha
   have hl:out.toList.length=us.length:=hp.length_eq
   refine Nv ⟨_,rfl,hQ L' xs' _ p1 p2 r' ?_ ?_⟩
   ·have:=v'.length; lia
   ·refine I.laid (t':=s.toks) (λb o q=>?_) (Ny _) ⟨by have:=v'.length; lia,out.toList,e,v',by simpa using he⟩
    have lt:=NG q
    rw [sortedHeap_old (N4 lt) (by rw [size_push']; exact RO lt)]
    exact NC _ q) (hka _)))
end
theorem l0 {a:Value}:argsOk "sorted" ⟨[a],[]⟩:=by unfold argsOk; kernel_rfl
theorem args_list_sort_1 {a:Value}:argsOk "list.sort" ⟨[a],[]⟩:=by unfold argsOk; kernel_rfl
noncomputable def Kq (d:Addr) (o:Obj) (u:HO):It :=
 ⟨λi H=>H d=some (.frz o u)/\i<(bD u).length,λi H x H'=>H'=H/\∃ y,(bD u)[i]?=some y/\x=y.1,λi H=>H d=some (.frz o u)/\(bD u).length<=i⟩
theorem sV {P:Program} {w:World} {K:Nu} {tg:Expr} {d j:Addr} {o:Obj} {u:HO} {es:Array DictEntry} {ep:Nat} (hd:HO.dct u) (hod:o.data=.dict es ep) (hes:es.size=(bD u).length):Turn P w K tg (Kq d o u) [j] j (λi h=>h.IsKeyIter j d i es.size ep) where
 mem:=NN.mpr rfl
 obj:=λi h ⟨q,e,_,hd⟩ b hb=>by
  obtain rfl:b=j:=NN.mp hb
  exact ⟨_,e,λv z=>by rw [hd] at z; cases z⟩
 keep:=λi h h' ⟨q,e,r⟩ k=>⟨q,k j (NN.mpr rfl) _ e,r⟩
 item:=by
  intro X hP hw hK hc i aa s σ H E I hf st hg
  subst hP hw hK
  obtain ⟨f0,f1,f2,f3,f4,f5⟩:=hf j (NN.mpr rfl)
  obtain ⟨hH,hi⟩:=hg
  obtain ⟨ho,ok⟩:=(show bg X.prog X.w H s.heap d (.frz o u) from I.hok d _ hH)
  obtain ⟨_,es',ep',e1,e2,_⟩:=bR ok hd ho
  rw [hod] at e1; cases e1
  obtain ⟨e,he,re⟩:=c6 e2 (NX hi)
  have he':es[i]?=some e:=by simpa using he
  refine AV st ho hod he' λh' hit' hs'=>?_
  have I1:Inv X aa σ H { s with heap:=h',toks:=s.toks }:=I.turned (λb o hb e=>hs'.extBut b o hb e) f0 f1 f3 f4 f5
  obtain ⟨q,eq,qc,qd⟩:=id hit'
  exact ⟨_,rfl,mj (s:={ s with heap:=h',toks:=s.toks }) (n:="dict_keyiterator") eq qc qd (by decide) ⟨_,H,I1,re.1,⟨rfl,_,NX hi,rfl⟩,hit',λb hb=>(hf b hb).1⟩⟩
 done:=by
  intro X hP hw hK hc i aa s σ H E I hf st hg
  subst hP hw hK
  obtain ⟨f0,f1,f2,f3,f4,f5⟩:=hf j (NN.mpr rfl)
  obtain ⟨hH,hi⟩:=hg
  obtain ⟨ho,ok⟩:=(show bg X.prog X.w H s.heap d (.frz o u) from I.hok d _ hH)
  exact DL (I.ok.hd hc) st ho hod (by rw [hes]; exact hi) λh' eb=>⟨rfl,I.turned (t':=s.toks) (λb o hb e=>eb b o hb e) f0 f1 f3 f4 f5⟩
 self:=λ_ _ _ _ _ st h=>wpAny_pyIter_keyiter st h
theorem sW {K:Nu} {Hf:Hp} {d:Addr} {o:Obj} {ys:List (List Key×Addr×V)} {ks:List (List Int)} (hH:Hf d=some (.frz o (.dT ys))) (hk:ys.map (·.1)=ks.map (·.map NT)) (hs:∀ y∈ys,c8 K Hf y.2.1 (y.1.map kV)):jd K (Kq d o (.dT ys)) (ks.map gc) Hf where
 go:=λi x H aQ s1 s2 e=>by
  rw [NO,NQ] at e
  obtain ⟨n,hn,rfl⟩:=e
  have hq:=congrArg (λl=>l[i]?) hk
  simp only [NO,hn,Option.map_some] at hq
  obtain ⟨y,hy,ey⟩:=NQ.mp hq
  have hp:(bD (.dT ys))[i]?=some (.ref y.2.1,y.2.2):=by
   show (ys.map _)[i]?=_
   rw [NO,hy]; rfl
  refine ⟨⟨s2 _ _ (s1 _ _ hH),(NJ.mp hp).1⟩,λv H' ⟨e1,y',e2,e3⟩=>?_⟩
  rw [hp] at e2; cases e2
  subst e1 e3
  refine ⟨aQ,.refl s2,aM.mpr ⟨y.2.1,y.1.map kV,rfl,az s1 (hs y (O1 hy)),?_⟩⟩
  rw [ey,Og]
  exact jc n
 stop:=λi H aQ s1 s2 e=>⟨s2 _ _ (s1 _ _ hH),by
  have:=congrArg PK hk
  show (ys.map _).length<=i
  simp only [ND] at this e |-
  lia⟩
section
variable {X:Cx} {aa:List (Addr×Obj)} {σ:L2.St} {H Hf:Hp} {s:Shared} {E:Value->Shared->Prop}
theorem oQ {d:Addr} {o:Obj} {ys:List (List Key×Addr×V)} {ks:List (List Int)} {Q:Value->Shared->Prop} (hc:X.calm=true) (I:Inv X aa σ H s) (sb:aH Hf H) (hA:X.A.units+60<cLine) (hH:Hf d=some (.frz o (.dT ys))) (hk:ys.map (·.1)=ks.map (·.map NT)) (hq:∀ y∈ys,c8 X.K Hf y.2.1 (y.1.map kV)) (nd:ks.Nodup)
 (hQ:∀ (L':List (List Int)) (xs':List V) (s':Shared) (H' ai:Hp) (a:Addr),L'.Perm ks->gE HT.lexLt false L'->au X.K ai (L'.map gc) xs'->bw H Hf H' ai->H' a=none->Inv X aa σ (upd H' a (.lst xs')) s'->Q (.ref a) s') :
 wpAny (model X.prog X.w) X.A (call (.builtin "sorted") [.ref d]) Q E s:=by
 refine call_function_entry Rh Ra Rb l0 ?_
 unfold Builtin.«sorted»
 refine Nt (m:=checkCount "sorted" 1 1 _) (Nv ?_)
 have h1:X.A.in1.handled=none:=I.ok.hd hc
 have h2:X.A.in1.frames=some X.stack:=I.ok.frames
 obtain ⟨ho,ok⟩:=(show bg X.prog X.w H s.heap d (.frz o (.dT ys)) from I.hok d _ (sb _ _ hH))
 obtain ⟨hx,es,ep,e1,e2,hs,hz⟩:=bR ok trivial ho
 have hsz:es.size=(bD (.dT ys)).length:=by rw [OE e2]; simp
 have hn:(ks.map gc).length=(bD (.dT ys)).length:=by have:=congrArg PK hk; show _=(ys.map _).length; simp only [ND] at this |-; lia
 have ty:∀ s':Shared,(∀ b o,s.heap.get? b=some o->s'.heap.get? b=some o)->s'.TypeIs (.ref d) "dict":=λs' k=>⟨o,k _ _ ho,hx.1⟩
 refine Nt (gU (X:=BX X X.A.in1) (H:=H) (Hf:=Hf) (ds:=ks.map gc) (T:="dict") hc h1 h2 (gT I (λ_=>h1) h2) sb (NG ho) (by lia) (by decide) (λs' k=>ty s' k) (λA s' Q E q h=>nv q h) (λA s1 H1 E I1 sb1 k1=>?_) λus s' H' ai xs I' rv rr g hz'=>?_)
 ·refine AU hs (k1 _ _ ho) hx e1 ?_
  refine ⟨_,_,_,rfl,Ny _,I1.kept (t':=s1.toks) λb o e=>NC _ e,sV (u:=.dT ys) trivial e1 hsz,⟨_,NL _ rfl,rfl,rfl⟩,λb hb=>?_,λb o e=>NC _ e,sW hH hk hq⟩
  obtain rfl:b=s1.heap.objs.size:=NN.mp hb
  exact I1.kh (Ny _) (I1.hok.fresh (Ny _))
 ·have I2:=eX I.ok I'
  have el:=rr.length
  have el2:=rv.length
  refine xC (b:=false) (DM ks) I2 g.b ?_ rr rv (by lia) nd (λ_=>rfl) (λ_=>args_list_sort_1) λL' xs' s2 p1 p2 p3 p4 I3=>hQ L' xs' s2 H' ai _ p1 p2 p3 g (I2.hok.fresh (Ny _)) I3
  show X.A.units+1+20<cLine
  lia
end
section
variable {P:Program} {w:World} {K:Nu} {mg:Str->Option Value} {base:Heap} {k:Nat} {N:List Str} {sc:Scope} {bk:Bool} {c:Ctx P w K mg base k N sc bk} {ρ:List Sl} {np pos:Pos} {e:Expr}
theorem Kr {R:Sl->Prop} (hm:mg "sorted"=none) (h:aI c e ρ λd=>∃ (ks:List (List Int)) (ds:List D),d=.fdT (ks.map (·.map NT)) ds/\Sd ks.Nodup (∀ L':List (List Int),L'.Perm ks->gE HT.lexLt false L'->R (.ow (L'.map gc))))
 (hg:sc.names.lookup (Nr "sorted")=some .globalImplicit:=by walk_at "u")
 (he:∀ env,starEach [e] env=(false,eval e env)::starEach [] env:=by intro _; walk_at "u")
 (hpl:∀ env,(backTo pos (starEach [] env)).any (·.1)=false:=by intro _; walk_at "u") :
 cW c (.Call (.Name "sorted" np) [e] [] pos) ρ R:=λσ H Hf Q S q aa s I=>by
 have hgl:Gl c.X "sorted":=by unfold Gl Ov; rw [c.esc]; exact hg
 refine O2 (dz I hgl (by rw [c.emg]; exact hm) (show bootBuiltins "sorted"=some (.builtin "sorted") by decide +kernel) ?_ (by decide) (by decide))
 have hpa:=bM (X:=c.X) (e:=e) (es:=[]) cY dD (he _)
 refine TX (bC (hpa pos aa s σ H (λvs H1=>∃ x,vs=[x]/\∃ (ks:List (List Int)) (ds:List D) (aQ:Hp),Rep c.X.K aQ (.fdT (ks.map (·.map NT)) ds) x/\ks.Nodup/\bw H Hf H1 aQ/\∀ L':List (List Int),L'.Perm ks->gE HT.lexLt false L'->R (.ow (L'.map gc))) I ?_) λus s1 hh=>z2 hh λvs H1 hh=>w3 hh λI1 r1 hh=>hh.elim λx hh=>w2 hh λex hh=>z3 hh λks ds aQ hh=>w4 hh λe1 e7 e8 e9=>?_) (he _) (hpl _)
 ·exact h σ H Hf _ S λd v H1 aQ ⟨ks,ds,hp,⟨hn,hR⟩⟩ rv g=>⟨_,rfl,ks,ds,aQ,by rw [<- hp]; exact rv,hn,g,hR⟩
 ·subst ex
  obtain ⟨a0,ys,o,rfl,hs,hk,hq,hr⟩:=iy.mp e1
  have eu:us=[.ref a0]:=by
   cases r1 with
   | cons q1 q2=>cases q2; cases q1; rfl
  subst eu
  refine oQ c.calm I1 e8.b ?_ hs hk hq e7 λL' xs' s' H' ai a p1 p2 p3 g na I3=>?_
  ·have:=c.room.un
   lia
  ·have gg:=e8.trans g
   exact ⟨.ref a,_,I3,rfl,q (.ow (L'.map gc)) _ _ ai (e9 L' p1 p2) ⟨a,xs',rfl,gg.s.free na,af,g.b.free na,p3⟩ (gg.trans (bw.dZ g.b na))⟩
end
section
variable {X:Cx} {aa:List (Addr×Obj)} {σ:L2.St} {H Hf:Hp} {s:Shared} {E:Value->Shared->Prop}
noncomputable def Ks:V->List V->Hp->VK->Prop:=λx vs H Q=>∃ l xs y,x=.ref l/\vs=[.int 0,y]/\H l=some (.lst xs)/\xs.length<sizeLine/\Q .non (upd H l (.lst (y::xs)))
theorem DN:L6 X "list.insert" Ks:=by
 intro aa s σ H x vs v us Q I rx rv h
 obtain ⟨l,xs,y,rfl,rfl,hH,hz,q⟩:=h
 cases rx
 cases rv with
 | cons r0 rv =>
  obtain ⟨t,rfl⟩:=r0
  obtain ⟨u,rfl,ru⟩:=Vals.one rv
  obtain ⟨z,its,n,r,hl,e⟩:=I.nR hH
  refine QG F.slot_list_insert ⟨_,e,rfl⟩ F.entry_list_insert (F.args_list_insert_3 _ _ _) (PySem.AutoSeq1.list_insert_list_int_val_1 l its.toArray n 0 t u (by decide) (by rw [NR]; lia)) ⟨e,?_⟩
  refine ⟨.non,_,I.pM (its':=u::its) hH e (by simp) (.cons ru r) ?_,rfl,q⟩
  rw [Oe]
  lia
end
section
variable {P:Program} {w:World} {K:Nu} {mg:Str->Option Value} {base:Heap} {k:Nat} {N:List Str} {sc:Scope} {bk:Bool} {c:Ctx P w K mg base k N sc bk} {ρ:List Sl} {pos ap cp px p0:Pos} {e:Expr} {nx:List Sl->Prop} {p:Pt} {x:Str} {i j:Nat}
theorem Mx {r:Sl} {ds:List D} (hN:At N i x) (hi:At ρ i r) (hr:r.getL=some ds) (h:aI c e ρ λd=>Sd (ds.length<sizeLine) (Nx ρ i nx (r.putL (d::ds))))
 (hs:∀ env,swapsWith (.Call (.Attribute (.Name x px) "insert" ap) [.Constant (.int 0) j p0,e] [] cp) none pos.line env=pure false:=by intro _; walk_at "u") (hd:(x == ("__debug__":Str))=false:=by decide) (hcd:(x == ("__classdict__":Str))=false:=by decide)
 (hbase:∀ env,attributeBase (.Name x px) "insert" env (eval (.Name x px) env)=eval (.Name x px) env:=by intro _; walk_at "u")
 (hfew:∀ env,((backTo cp (starEach [.Constant (.int 0) j p0,e] env)).all (λx=> !x.1) && (backToKw cp (keywordEach [] env)).all (λx=>x.1.isSome)
   && decide (([.Constant (.int 0) j p0,e]:List Expr).length+([]:List Keyword).length+(if ([]:List Keyword).isEmpty then 0 else 1)<30))=true:=by intro _; walk_at "u")
 (hline:(ap.endLine == cp.line)=true:=by walk_at "u") (he0:∀ env,starEach [.Constant (.int 0) j p0,e] env=(false,eval (.Constant (.int 0) j p0) env)::starEach [e] env:=by intro _; walk_at "u") (he:∀ env,starEach [e] env=(false,eval e env)::starEach [] env:=by intro _; walk_at "u") (hpl:∀ env,(backTo cp (starEach [e] env)).any (·.1)=false:=by intro _; walk_at "u") :
 fP c (.Expr (.Call (.Attribute (.Name x px) "insert" ap) [.Constant (.int 0) j p0,e] [] cp) pos) ρ nx p:=λσ H Hf D S o=>by
 obtain ⟨q,eq,rq⟩:=S.own hi.get (cz hr)
 obtain ⟨xs,h1,h2,h3⟩:=CL hr rq
 refine d8 (jT (EE SA PySem.F.slot_list_insert PySem.F.type_list_insert DN (c.lX hN hd hcd) (bM yb (bM cY dD (he _)) (he0 _)) (hbase _) (hfew _) hline (he0 _) (hpl _)) (hs _)) ⟨_,eq,.inl ⟨rfl,xs,.inl (.inl h1)⟩,?_⟩
 refine h σ H Hf _ S λd v H' ai ⟨hz,ρ',hs',hn⟩ rd g=>?_
 have S':=S.cC g
 have e1:H' q=some (.lst xs):=g.s _ _ h1
 have e2:ai q=none:=g.n q h2 (by rw [h1]; simp) (by intro ys; rw [h1]; simp)
 refine ⟨q,xs,v,rfl,rfl,e1,by rw [<- h3.length]; exact hz,?_⟩
 refine o.nx _ _ ai ρ' ?_ hn
 rw [hs'.eq]
 have rq':=rq.cC g
 exact S'.upd hi.get (cz hr) eq (fh g.b e2) (iE hr rq' af e2 (.cons rd (h3.mono g.f))) (fj hr)
end
end EV
namespace EV
open PySem PySem.Spec PyProof.Rows L2
theorem vD {α:Type}:∀ ys:List α,(N6 ys.length).filterMap (ys[·]?)=ys
 | []=>rfl
 | y::ys=>by
  rw [Oe,List.range_succ_eq_map,OS]
  show y::_=_
  rw [RK]
  exact congrArg (y:: ·) (vD ys)
theorem q8 {α β:Type} {f g:α->Option β}:∀ {l:List α},(∀ x∈l,f x=g x)->l.filterMap f=l.filterMap g
 | [],_=>rfl
 | x::l,h=>by rw [OS,OS,h x NP,q8 λy hy=>h y (NK _ hy)]
theorem AW {α:Type} (xs:List α):List.filterMap ((xs[·]?)∘λi=>xs.length - 1 - i) (N6 xs.length)=xs.reverse:=by
 have h:=vD xs.reverse
 rw [S0] at h
 refine Eq.trans (q8 λk hk=>?_) h
 exact (List.getElem?_reverse (R6.mp hk)).symm
theorem vE {α:Type} (xs:List α):stp xs none none (some (-1))=xs.reverse:=by
 unfold stp sliceBounds
 simp only [QW,show ¬ ((-1:Int)>0) by decide,if_false]
 have e:sliceRange ((xs.length:Int) - 1) (-1) (-1)=(N6 xs.length).map λi=>xs.length - 1 - i:=by
  unfold sliceRange
  simp only [show ¬ ((-1:Int)>0) by decide,if_false]
  have c:(if (xs.length:Int) - 1> -1 then ((xs.length:Int) - 1 - -1 - -1 - 1) / (- -1) else 0)=(xs.length:Int):=by
   split
   ·rw [show (- -1:Int)=1 by decide,Int.ediv_one]; omega
   ·omega
  rw [c,Oz]
  refine Pe λk hk=>?_
  have:=R6.mp hk
  omega
 rw [e,RK]
 exact AW xs
noncomputable def Mz (X:Cx) (te:TE) (tl th ts:TO):TE:=λσ H Q=>te σ H λx H1=>tl σ H1 λl H2=>th σ H2 λu H3=>ts σ H3 λt H4=>∃ a xs k,x=.ref a/\fH X.K H4 a xs/\l=none/\u=none/\t=some k/\k= -1/\∀ p,H4 p=none->Q (.ref p) (upd H4 p (.lst (stp xs l u (some k))))
section
variable {X:Cx} {e:Expr} {te:TE} {lo hi:Option Expr} {st:Expr} {tl th ts:TO} {pos p2:Pos}
theorem HK (he:PE X e te) (hl:PO X lo tl) (hu:PO X hi th) (ht:PO X (some st) ts):PE X (.Subscript e (.Slice lo hi (some st) p2) pos) (Mz X te tl th ts):=by
 intro aa s σ H Q I h
 refine Rj (bC (he aa s σ H _ I h) λv s1 ⟨x,H1,I1,r1,q1⟩=>?_)
 refine wpAny_Slice (bC (hl aa s1 σ H1 _ I1 q1) λvl s2 ⟨l,H2,I2,pl,q2⟩=>bC (hu aa s2 σ H2 _ I2 q2) λvu s3 ⟨u,H3,I3,pu,q3⟩=>bC (ht aa s3 σ H3 _ I3 q3) λvt s4 ⟨t,H4,I4,pt,q4⟩=>?_)
 obtain ⟨a,xs,k,rfl,hx,rfl,rfl,rfl,rfl,q⟩:=q4
 have I5:Inv X aa σ H4 { s4 with heap:=s4.heap.push { cls:=.type "slice",data:=.fields #[vl,vu,vt] } }:=I4.kept (t':=s4.toks) λb ob q=>NC _ q
 cases r1
 obtain ⟨its,r,hi,hz⟩:=I5.list hx
 have hlen:=r.length
 show wpAny (model X.prog X.w) X.A (subscriptTail e (.Slice lo _ (some st) p2) (.ref a) (.ref s4.heap.objs.size)) (EP X aa σ Q) X.xe { s4 with heap:=s4.heap.push { cls:=.type "slice",data:=.fields #[vl,vu,vt] } }
 refine tail_any (ops:=[.ref a,.ref s4.heap.objs.size]) hi.isList.typeIs RN.lookup ?_ (by walk_at "u")
 refine Sw hi.isList (Tc ..) pl pu pt (by decide) ?_ (by rw [NR] <;> lia)
 have I6:=I5
 generalize hS:({ s4 with heap:=s4.heap.push { cls:=.type "slice",data:=.fields #[vl,vu,vt] } }:Shared)=S at I6 |-
 have ep:slicePick its.toArray none none (some (-1))=(stp its none none (some (-1))).toArray:=by
  unfold slicePick stp
  simp only [NR,List.getElem?_toArray]
 rw [ep]
 refine ⟨.ref S.heap.objs.size,_,I6.laid (t':=S.toks) (o:=.lst (stp xs none none (some (-1)))) (λb ob q=>NC _ q) (Ny _) ?_,rfl,q _ (I6.hok.fresh (Ny _))⟩
 exact ⟨by rw [vE,S0]; exact hz,_,0,by unfold stp; rw [hlen]; exact ny r _,NL _ rfl⟩
end
section
variable {P:Program} {w:World} {K:Nu} {mg:Str->Option Value} {base:Heap} {k:Nat} {N:List Str} {sc:Scope} {bk:Bool} {c:Ctx P w K mg base k N sc bk}
variable {e:Expr} {pos:Pos} {ρ:List Sl}
theorem MX {lo hi:Option Expr} {st:Expr} {p2:Pos} {R:Sl->Prop} (h:aI c e ρ λx=>wz c lo ρ λl=>wz c hi ρ λu=>wz c (some st) ρ λt=>l=none/\u=none/\t=some (-1)/\∃ ds,x=.lst ds/\R (.ow ds.reverse)):cW c (.Subscript e (.Slice lo hi (some st) p2) pos) ρ R:=λσ H Hf Q S q =>
 bO (HK cY ER ER ER) (h σ H Hf _ S λx v H1 aQ h1 r1 g1=>h1 σ H1 aQ _ (S.cC g1) λl H2 cO h2 g2=>h2 σ H2 cO _ (S.cC (g1.trans g2)) λu H3 Hf3 h3 g3=>h3 σ H3 Hf3 _ (S.cC ((g1.trans g2).trans g3)) λt H4 Hf4 h4 g4=>by
  obtain ⟨rfl,rfl,rfl,ds,rfl,hR⟩:=h4
  have r3:=Rep.mono g4.f _ (Rep.mono g3.f _ (Rep.mono g2.f _ r1))
  have g:=((g1.trans g2).trans g3).trans g4
  rw [bq] at r3
  obtain ⟨a,xs,rfl,k1,k2⟩:=r3
  refine ⟨a,xs,-1,rfl,g4.b.seq k1,rfl,rfl,rfl,rfl,λp hp=>?_⟩
  exact q _ _ _ _ hR ⟨p,_,rfl,g.s.free hp,af,g4.b.free hp,by rw [<- vE]; unfold stp; rw [k2.length]; exact nC k2 _⟩ (g.trans (bw.dZ g4.b hp)))
end
end EV
namespace EV
open PySem PySem.Spec PySem.Calls PyProof.Rows L2
theorem AX {K:Nu} {H:Hp}:∀ {kvs:List (List Key×D)} {ys:List (List Key×Addr×V)},ys.map (·.1)=kvs.map (·.1)->(∀ y∈ys,c8 K H y.2.1 (y.1.map kV))->au K H (kvs.map (·.2)) (ys.map (·.2.2))->kE K H kvs ys
 | [],[],_,_,_=>.nil
 | [],y::ys,h,_,_=>by simp at h
 | x::kvs,[],h,_,_=>by simp at h
 | x::kvs,y::ys,h,hq,r=>by
  rw [NF,NF] at h r
  obtain ⟨v,t,e,r1,r2⟩:=aD.mp r
  injection e with e1 e2
  injection h with h1 h2
  subst e1 e2
  exact .cons ⟨h1.symm,by rw [<- h1]; exact hq y NP,r1⟩ (AX h2 (λz hz=>hq z (NK _ hz)) r2)
section
variable {P:Program} {w:World} {K:Nu} {mg:Str->Option Value} {base:Heap} {k:Nat} {N:List Str} {sc:Scope} {bk:Bool} {c:Ctx P w K mg base k N sc bk} {ρ:List Sl} {pos:Pos} {a b:Expr} {R:D->Prop}
theorem MA (h:aI c a ρ λx=>aI c b ρ λy=>∃ (kvs:List (List Key×D)) (ds:List D) (kk:List Key) (d:D),x=.fdT (kvs.map (·.1)) (kvs.map (·.2))/\y=.tup ds/\D.keys ds=some kk/\bB kvs kk=some d/\R d) (hs:Cp b:=by with_unfolding_all exact λ_ _=>rfl):aI c (.Subscript a b pos) ρ R:=λσ H Hf Q S q =>
 bO (uf c.hu cY cY hs) (h σ H Hf _ S λx v H1 aQ h1 r1 g1=>h1 σ H1 aQ _ (S.cC g1) λy u H2 cO ⟨kvs,ds,kk,d,e1,e0,e2,e3,hR⟩ r2 g2=>by
  subst e1 e0
  obtain ⟨p,ys,o,rfl,k1,k2,k4,k3⟩:=iy.mp r1
  have kv:=(AX k2 k4 k3).mono g2.f
  have rel:=kv.val kk
  rw [e3] at rel
  obtain ⟨pb,xb,rfl,kb,rb⟩:=aM.mp r2
  rw [gv e2 rb] at kb
  cases z:atT ys kk with
  | none=>rw [z] at rel; exact rel.elim
  | some v =>
   rw [z] at rel
   exact ⟨p,v,rfl,.inr ⟨ys,kk,pb,.inr ⟨o,g2.b _ _ (g2.f _ _ k1)⟩,λx hx=>az g2.b (az g2.f (k4 x hx)),rfl,az g2.b kb,z.symm⟩,q d v H2 cO hR rel (g1.trans g2)⟩)
end
section
variable {K:Nu}
end
section
variable {K:Nu}
end
section
variable {K:Nu}
end
end EV
namespace My
open PySem PySem.Spec PyProof.Rows L2 EV
noncomputable abbrev top (i:Nat):Stmt:=PySem.Challenge.pw_everydraw_k15_whole_what_lies_on_what.main.body.getD i (.Pass ⟨0,0,0,0⟩)
theorem sX:FS ["powers","end"] ["powers"] (top 2):=by decide +kernel
theorem sY:FS ["terms","total","powers","number","bare"] ["terms"] (top 3):=by decide +kernel
theorem q9:FS ["one","other"] ["one","other"] (top 4):=by decide +kernel
theorem oR:FS ["one","other"] ["one","other"] (top 5):=by decide +kernel
theorem gZ:FS ["some","greatest","powers","number","k","power"] ["some"] (top 6):=by decide +kernel
theorem oS:FS ["one","other","most"] ["one","other"] (top 7):=by decide +kernel
theorem xD:FS ["powers","width","key","power"] ["powers","width"] (top 8):=by decide +kernel
theorem oU:FS ["key","width","mask"] ["key","width"] (top 9):=by decide +kernel
theorem xE:FS ["some","width"] ["some","width"] (top 10):=by decide +kernel
theorem rg:FS ["total","width"] ["total","width"] (top 11):=by decide +kernel
theorem jO:FS ["total","left","right","key","number","shift","part","whole"] ["total","left","right"] (top 12):=by decide +kernel
theorem l5:FS ["one","other","width","total"] ["one","other"] (top 13):=by decide +kernel
theorem ri:FS ["parts","most","part"] ["parts"] (top 15):=by decide +kernel
theorem rj:FS ["whole","part","width","factors","left","right","product"] ["whole","part","width"] (top 16):=by decide +kernel
theorem l6:FS ["parts","width","whole","part"] ["parts"] (top 17):=by decide +kernel
theorem oV:FS ["k"] ["k"] (top 18):=by decide +kernel
theorem jq:FS ["total","f"] ["total","f"] (top 19):=by decide +kernel
theorem sZ:FS ["total","one","other"] ["total","one","other"] (top 21):=by decide +kernel
theorem lC:FS ["total","i","j"] ["total","i","j"] (top 22):=by decide +kernel
theorem jr:FS ["total","l"] ["total","l"] (top 23):=by decide +kernel
theorem oW:FS ["total","i","j","f","way"] ["total","i","j","f"] (top 25):=by decide +kernel
theorem oX:FS ["total","i","l"] ["total","i","l"] (top 26):=by decide +kernel
theorem lD:FS ["total","i","l"] ["total","i","l"] (top 27):=by decide +kernel
theorem oY:FS ["total","i","l"] ["total","i","l"] (top 28):=by decide +kernel
theorem ju:FS ["total","i","l","foot","square"] ["total","i","l"] (top 29):=by decide +kernel
theorem lE:FS ["i","j","t"] ["i","j","t"] (top 30):=by decide +kernel
theorem jP:FS ["i","j"] ["i","j"] (top 31):=by decide +kernel
theorem l7:FS ["l","m"] ["l","m"] (top 32):=by decide +kernel
theorem oZ:FS ["i","l"] ["i","l"] (top 33):=by decide +kernel
theorem lF:FS ["i","l"] ["i","l"] (top 34):=by decide +kernel
theorem l8:FS ["i","l"] ["i","l"] (top 35):=by decide +kernel
theorem l9:FS ["i","j","f"] ["i","j","f"] (top 36):=by decide +kernel
theorem iT:FS ["i","l"] ["i","l"] (top 37):=by decide +kernel
theorem xF:FS ["_law_script","_law_k"] ["_law_script","_law_k"] (top 39):=by decide +kernel
theorem tw:FS ["_law_cell_here","_law_k","_law_many","_law_number"] ["_law_cell_here","_law_k","_law_many"] (top 40):=by decide +kernel
theorem o4:FS ["_law_powers","_law_found"] ["_law_powers"] (top 41):=by decide +kernel
theorem AY:FS ["_law_terms","_law_counts","_law_powers","_law_number","_law_short"] ["_law_terms"] (top 42):=by decide +kernel
theorem tD:FS ["_law_cells","_law_offset","_law_found","_law_k","_law_terms","_law_cell_here"] ["_law_cells","_law_offset"] (top 43):=by decide +kernel
theorem jQ:FS ["_law_cell_here","_law_rest","_law_powers","_law_k"] ["_law_cell_here"] (top 44):=by decide +kernel
theorem DO:FS ["_law_i","_law_l","_law_found","_law_k"] ["_law_i","_law_l"] (top 45):=by decide +kernel
theorem tE:FS ["_law_one","_law_other","_law_j","_law_k"] ["_law_one","_law_other"] (top 46):=by decide +kernel
theorem jv:FS ["_law_i","_law_j","_law_t","_law_f","_law_line"] ["_law_i","_law_j","_law_t","_law_f"] (top 47):=by decide +kernel
theorem jR:FS ["_law_i","_law_l","_law_m","_law_meet","_law_side","_law_square"] ["_law_i","_law_l","_law_m"] (top 48):=by decide +kernel
theorem iU:FS ["_law_i","_law_l","_law_foot","_law_other"] ["_law_i","_law_l"] (top 49):=by decide +kernel
theorem HL:FS ["_law_script","_law_cells","_law_i","_law_j","_law_l","_law_kind","_law_other","_law_f","_law_small"] ["_law_script"] (top 50):=by decide +kernel
local macro_rules | `(tactic| walk_at "side")=> `(tactic| first | lia | assumption | exact je | exact yO (RA rfl) | exact yP (by decide) (by decide +kernel) | (show yj _ _; exact ⟨by decide,by decide,by decide +kernel⟩))
local macro_rules | `(tactic| walk_at "at")=> `(tactic| with_reducible (repeat (first | exact At.z | apply At.s)))
local macro_rules | `(tactic| walk_at "sset")=> `(tactic| with_reducible (repeat (first | exact SSet.z | apply SSet.s)))
local macro_rules | `(tactic| walk_at "atI")=> `(tactic| first | assumption | rfl)
local macro_rules | `(tactic| walk_at "own")=> `(tactic| walk_at "u")
local macro_rules | `(tactic| walk_at "evSs")=> `(tactic| first
 | with_reducible refine aN ?_
 | with_reducible refine GC ?_)
local macro_rules | `(tactic| walk_at "evS")=> `(tactic| first
 | ((with_reducible show fP _ (Sm [NS _ _] _ _) _ _ _); with_reducible refine uv (by walk_at "at") ?_)
 | ((with_reducible show fP _ (Stmt.If _ _ _ _) _ _ _); walk_at "evIf")
 | ((with_reducible show fP _ (Stmt.Expr _ _) _ _ _); walk_at "evXp")
 | ((with_reducible show fP _ (Stmt.Return (some (NS _ _)) _) _ _ _); with_reducible refine yN (by walk_at "at") (by walk_at "at") rfl ?_)
 | ((with_reducible show fP _ (Stmt.Return (some _) _) _ _ _); with_reducible refine cj ?_)
 | ((with_reducible show fP _ (Stmt.Return none _) _ _ _); with_reducible refine s_retN ?_)
 | ((with_reducible show fP _ (R3 (NS _ _) Se _ _) _ _ _); with_reducible refine s_addq (by walk_at "at") (by walk_at "at") ?_)
 | ((with_reducible show fP _ (R3 (NS _ _) Operator.Sub _ _) _ _ _); with_reducible refine GF (by walk_at "at") (by walk_at "at") ?_)
 | ((with_reducible show fP _ (R3 (Pz (NS _ _) _ _) Se _ _) _ _ _); with_reducible refine uE (by walk_at "at") (by walk_at "at") ?_)
 | ((with_reducible show fP _ (Sm [Expr.Tuple [NS _ _,NS _ _] _ _] (Expr.Tuple [_,_] _ _) _) _ _ _); with_reducible refine s_par (by walk_at "at") (by walk_at "at") (by decide) ?_)
 | ((with_reducible show fP _ (Sm [Expr.Tuple _ _ _] _ _) _ _ _); with_reducible refine s_asg ?_)
 | ((with_reducible show fP _ (Sm [Pz (NS _ _) _ _] _ _) _ _ _); walk_at "evPut")
 | with_reducible refine s_break ?_
 | with_reducible refine s_continue ?_
 | with_reducible refine s_pass ?_)
local macro_rules | `(tactic| walk_at "evIf")=> `(tactic| with_reducible refine JU ?_)
local macro_rules | `(tactic| walk_at "evXp")=> `(tactic| with_reducible refine GS (by walk_at "at") (by walk_at "at") (by walk_at "own") ?_)
local macro_rules | `(tactic| walk_at "evPut")=> `(tactic| with_reducible refine GV (by walk_at "at") (by walk_at "at") ?_ (ho:=by walk_at "own"))
local macro_rules | `(tactic| walk_at "evK")=> `(tactic| first
 | with_reducible refine JF ?_
 | with_reducible refine Mf ?_
 | with_reducible refine e_non ?_
 | with_reducible refine e_str ?_)
local macro_rules | `(tactic| walk_at "evCm")=> `(tactic| first
 | with_reducible refine e_isN ?_
 | with_reducible refine e_notN ?_
 | with_reducible refine e_lt ?_
 | with_reducible refine Mm ?_
 | with_reducible refine e_ne ?_)
local macro_rules | `(tactic| walk_at "evIx")=> `(tactic| first
 | ((with_reducible show aI _ (Pz _ (Expr.Slice _ _ _ _) _) _ _); with_reducible refine kG ?_)
 | ((with_reducible show aI _ (Pz (NS _ _) _ _) _ _); with_reducible refine J3 (by walk_at "at") (by walk_at "at") (by walk_at "own") (by walk_at "sset") ?_ (by walk_at "at"))
 | ((with_reducible show aI _ (Pz (NS _ _) _ _) _ _); with_reducible refine e_dix (by walk_at "at") (by walk_at "at") ?_)
 | with_reducible refine J1 ?_)
local macro_rules | `(tactic| walk_at "evBo")=> `(tactic| first
 | with_reducible refine GP ?_
 | with_reducible refine JJ ?_
 | with_reducible refine JK ?_
 | with_reducible refine JL ?_
 | with_reducible refine GA ?_
 | with_reducible refine JM ?_)
local macro_rules | `(tactic| walk_at "evCa")=> `(tactic| first
 | ((with_reducible show aI _ (Oi (Expr.Attribute _ _ _) _ _ _) _ _); walk_at "evMt")
 | ((with_reducible show aI _ (Oi (NS "isinstance" _) _ _ _) _ _); first
  | with_reducible refine e_isin (Txt.isin (by assumption)) (Txt.c_int (by assumption)) ?_
  | with_reducible refine e_isin (Txt.isin (by assumption)) (Txt.c_tuple (by assumption)) ?_
  | with_reducible refine e_isin (Txt.isin (by assumption)) (Txt.c_list (by assumption)) ?_
  | with_reducible refine e_isin (Txt.isin (by assumption)) (Txt.c_bool (by assumption)) ?_)
 | ((with_reducible show aI _ (Oi (NS "len" _) _ _ _) _ _); first
  | ((with_reducible show aI _ (Oi _ [NS _ _] _ _) _ _); with_reducible refine GY (Txt.len (by assumption)) (by walk_at "at") (by walk_at "at") (by walk_at "own") (by walk_at "sset") ?_)
  | with_reducible refine e_len (Txt.len (by assumption)) ?_)
 | ((with_reducible show aI _ (Oi (NS "tuple" _) _ _ _) _ _); first
  | ((with_reducible show aI _ (Oi _ [NS _ _] _ _) _ _); with_reducible refine zu (Txt.tuple (by assumption)) (by walk_at "at") (by walk_at "at") (by walk_at "own") (by walk_at "sset") ?_)
  | with_reducible refine jY (Txt.tuple (by assumption)) ?_)
 | ((with_reducible show aI _ (Oi (NS "abs" _) _ _ _) _ _); with_reducible refine e_abs (Txt.abs (by assumption)) ?_)
 | ((with_reducible show aI _ (Oi (NS "int" _) _ _ _) _ _); with_reducible refine e_intB (Txt.int (by assumption)) ?_))
local macro_rules | `(tactic| walk_at "evMt")=> `(tactic| with_reducible refine GU (by walk_at "at") (by walk_at "at") ?_ (ho:=by walk_at "own"))
local macro_rules | `(tactic| walk_at "evE")=> `(tactic| first
 | ((with_reducible show aI _ (NS _ _) _ _); with_reducible refine iz (by walk_at "at") (by walk_at "at") ?_)
 | ((with_reducible show aI _ (Expr.Constant _ _ _) _ _); walk_at "evK")
 | ((with_reducible show aI _ (Oi _ _ _ _) _ _); walk_at "evCa")
 | ((with_reducible show aI _ (Pz _ _ _) _ _); walk_at "evIx")
 | ((with_reducible show aI _ (Expr.BinOp _ _ _ _) _ _); walk_at "evBo")
 | ((with_reducible show aI _ (Expr.Compare _ _ _ _) _ _); walk_at "evCm")
 | with_reducible refine gI ?_
 | with_reducible refine GQ ?_
 | with_reducible refine JN ?_
 | with_reducible refine e_not ?_
 | with_reducible refine JS ?_
 | with_reducible refine e_or ?_
 | with_reducible refine JR ?_
 | with_reducible refine CB ?_)
local macro_rules | `(tactic| walk_at "evX")=> `(tactic| first
 | ((with_reducible show cW _ (Expr.List _ _) _ _); with_reducible refine EK ?_)
 | ((with_reducible show cW _ (Oi _ _ _ _) _ _); walk_at "evXC")
 | ((with_reducible show cW _ (Expr.BinOp _ Se _ _) _ _); with_reducible refine EO ?_)
 | ((with_reducible show cW _ (Pz _ (Expr.Slice _ _ _ _) _) _ _); with_reducible refine uD ?_)
 | with_reducible refine uh ?_)
local macro_rules | `(tactic| walk_at "evXC")=> `(tactic| first
 | ((with_reducible show cW _ (Oi (NS "list" _) _ _ _) _ _); first
  | ((with_reducible show cW _ (Oi _ [NS _ _] _ _) _ _); with_reducible refine x_listO (Txt.list (by assumption)) (by walk_at "at") (by walk_at "at") (by walk_at "own") (by walk_at "sset") ?_)
  | with_reducible refine GK (Txt.list (by assumption)) ?_)
 | with_reducible refine uh ?_)
local macro_rules | `(tactic| walk_at "evT")=> `(tactic| first
 | ((with_reducible show jA _ (Expr.Compare _ _ _ _) _ _); first
  | with_reducible refine t_isN ?_
  | with_reducible refine t_notN ?_
  | with_reducible refine Ml ?_
  | with_reducible refine Mj ?_
  | with_reducible refine Mg ?_
  | with_reducible refine t_le ?_
  | with_reducible refine Mh ?_
  | with_reducible refine t_ge ?_
  | with_reducible refine EW (by walk_at "at") (by walk_at "at") ?_
  | with_reducible refine t_dnotin (by walk_at "at") (by walk_at "at") ?_)
 | with_reducible refine JQ ?_
 | with_reducible refine MV (w_and ?_)
 | with_reducible refine MV (w_or ?_)
 | with_reducible refine JT ?_)
local macro_rules | `(tactic| walk_at "evW")=> `(tactic| first
 | with_reducible refine w_and ?_
 | with_reducible refine w_or ?_
 | with_reducible refine GB ?_
 | with_reducible refine JP ?_)
local macro_rules | `(tactic| walk_at "evG")=> `(tactic| first
 | ((with_reducible show pq _ (NS _ _) _ _ _); with_reducible refine dM (by walk_at "at") ?_)
 | with_reducible refine JV rfl (by walk_at "u") ?_)
local macro_rules | `(tactic| walk_at "evGs")=> `(tactic| first
 | with_reducible refine GD ?_
 | ((with_reducible show wu _ (_::_) _ _ _); with_reducible refine CC (by walk_at "at") ?_))
local macro_rules | `(tactic| walk_at "evL")=> `(tactic| first
 | ((with_reducible show Nx _ _ _ _); with_reducible refine uu (by walk_at "sset") ?_)
 | ((with_reducible show Sd _ _); first | with_reducible refine Sd.mk (by walk_at "side") ?_ | with_reducible refine Sd.mk ?_ ?_)
 | ((with_reducible show lP _ _ _); first
  | with_reducible refine JH ?_
  | with_reducible refine JI ?_
  | with_reducible refine Cv ?_
  | with_reducible refine Cu (λh=>?_) (λh=>?_)
  | with_reducible refine if2 (λh=>?_) (λh=>?_))
 | with_reducible refine i2 ?_
 | with_reducible refine i1 ?_
 | with_reducible refine b1 ?_
 | ((with_reducible show BS _ _ _); first
  | with_reducible refine Cw ?_
  | with_reducible refine eqp_bl ?_
  | with_reducible refine eqp_str ?_)
 | ((with_reducible show lW _ _ _); first
  | with_reducible refine zc ?_
  | with_reducible refine zd ?_
  | with_reducible refine addp_tup ?_)
 | ((with_reducible show EH _ _); first
  | with_reducible refine jD ?_
  | with_reducible refine aU ?_)
 | ((with_reducible show IsN _ _); first
  | with_reducible refine isn_t ?_
  | with_reducible refine isn_f (by intro q; cases q) ?_)
 | ((with_reducible show CG _ _ _); first
  | refine mQ (by rfl) ?_
  | refine p5 (by rfl) ?_)
 | ((with_reducible show CJ _ _ _ _); first
  | with_reducible refine EV.CJ.lst ?_
  | with_reducible refine EV.CJ.tup ?_)
 | ((with_reducible show ∃ ys,D.row _=some ys/\_); refine GR (by rfl) ?_)
 | ((with_reducible show ∃ t b,EM _ _ t/\_); first
  | with_reducible refine isd .int kit_ii ?_
  | with_reducible refine isd .int (Txt.ib (by assumption)) ?_
  | with_reducible refine isd .bl kit_bb ?_
  | with_reducible refine isd .lst kit_ll ?_
  | with_reducible refine isd .tup kit_tt ?_)
 | ((with_reducible show ∃ j d,D.int _=D.int j/\_); refine ⟨_,_,rfl,(by walk_at "atI"),?_⟩)
 | ((with_reducible show ∃ r,_/\GG _ _ _ r); walk_at "evR"))
local macro_rules | `(tactic| walk_at "ev1")=> `(tactic| first
 | ((with_reducible show aI _ _ _ _); walk_at "evE")
 | ((with_reducible show cW _ _ _ _); walk_at "evX")
 | ((with_reducible show jA _ _ _ _); walk_at "evT")
 | ((with_reducible show aG _ _ _ _ _); walk_at "evSs")
 | ((with_reducible show fP _ _ _ _ _); walk_at "evS")
 | ((with_reducible show pX _ _ _ _); first | with_reducible refine bz ?_ | with_reducible refine kF ?_)
 | ((with_reducible show EJ _ _ _ _); walk_at "evW")
 | ((with_reducible show pq _ _ _ _ _); walk_at "evG")
 | ((with_reducible show wu _ _ _ _ _); walk_at "evGs")
 | ((with_reducible show wz _ _ _ _); first | with_reducible refine GL ?_ | with_reducible refine GN ?_)
 | walk_at "evL")
local macro_rules | `(tactic| walk_at "ev")=> `(tactic| repeat' (walk_at "ev1"))
section
variable {K:Nu}
theorem gh (h:n<=1000000):n<sizeLine:=Pg h (by decide)
theorem vF (h:n<=1000000):n<=sizeLine:=PJ (gh h)
noncomputable def jH:Fn:=λds r=>∃ l:List Int,l.length<=64/\ds=[.tup (l.map .int)]/\r=.ok (.va (.tup ((trim l).map .int)))
theorem AZ (h:l.length<=64):jH [.tup (l.map .int)] (.ok (.va (.tup ((trim l).map .int)))):=⟨l,h,rfl,rfl⟩
theorem A0 {cl:List Int} {j:Int} (h0:0<=j) (h1:j<cl.length) (h:R (.int (cl.getD j.toNat 0))):CG (.tup (cl.map D.int)) (.int j) R:=by
 refine mQ ?_ h
 rw [j3 h0 (by simpa using h1)]
 have hj:j.toNat<cl.length:=by lia
 simp [NO,hj]
theorem DP (Fu:dh K "trimmed" "trimmed" (top 2) f fd) (T:Txt K mg):aY P w K mg base (cP P w) 1 f fd ["powers"] (cZ K jH):=by
 refine bK Fu sX (by rintro ds r ⟨a,_,rfl,_⟩; rfl) (by rintro ds r ⟨a,_,_,rfl⟩; exact ⟨_,rfl⟩) λc hq ds sl hF=>?_
 obtain ⟨l,hl,rfl,e⟩:=hF
 injection e with e
 subst e
 show aG c _ [.va (.tup (l.map .int)),.un] _ _
 conv in (aj _)=>whnf
 walk_at "ev"
 with_reducible refine uw hq (λm ρ'=>m<=l.length/\trim (l.take m)=trim l/\ρ'=[.va (.tup (l.map .int)),.va (.int (m:Int))]) (m₀:=l.length) ?_ ?_
 ·refine ⟨Ny _,by rw [OM],?_⟩
  rw [ND]
 ·rintro m ρ' ⟨hm,ht,rfl⟩
  walk_at "ev"
  ·refine A0 (by lia) (by lia) ?_
   have hk:((m:Int) - 1).toNat=m - 1:=by lia
   rw [hk]
   have hm1:m - 1+1=m:=by lia
   walk_at "ev"
   ·exact ⟨m - 1,by lia,by lia,nh (by lia) (by assumption) (by rw [hm1]; exact ht),by rw [show ((m - 1:Nat):Int)=(m:Int) - 1 by lia]⟩
   ·show Sl.va _=Sl.va _
    rw [iI,zY _ hm]
    have:=ni (l:=l) (m:=m - 1) (by lia) (by assumption) (by rw [hm1]; exact ht)
    rw [hm1] at this
    rw [this]
  ·show Sl.va _=Sl.va _
   have:m=0:=by lia
   subst this
   rw [iI,zY _ hm,<- ht]
   rfl
noncomputable def thing (a k m:Int):Int :=
 ((a % 2147483647 * 48271+69621 * k * k+7 * k) % 2147483629 * ((a % 2147483647 * 48271+69621 * k * k+7 * k) % 2147483629) % 2147483587) * ((a % 2147483647 * 48271+69621 * k * k+7 * k) % 2147483629 * ((a % 2147483647 * 48271+69621 * k * k+7 * k) % 2147483629) % 2147483587+48271) % 2147483563 % m
theorem iV (a k) (h:0<m):0<=thing a k m/\thing a k m<m:=⟨Int.emod_nonneg _ (by lia),Int.emod_lt_of_pos _ h⟩
noncomputable def o5:Fn:=λds r=>∃ a k m:Int,0<m/\m.natAbs<2 ^ 63/\k.natAbs<2 ^ 40/\ds=[.int a,.int k,.int m]/\r=.ok (.va (.int (thing a k m)))
theorem DQ (hm:0<m) (h2:m.natAbs<2 ^ 63) (hk:k.natAbs<2 ^ 40):o5 [.int a,.int k,.int m] (.ok (.va (.int (thing a k m)))):=⟨a,k,m,hm,h2,hk,rfl,rfl⟩
theorem A3 (Fu:dh K "_law_thing" "_law_thing" (top 40) f fd) (T:Txt K mg):aY P w K mg base (cP P w) 1 f fd ["_law_cell_here","_law_k","_law_many"] (cZ K o5):=by
 refine bK Fu tw (by rintro ds r ⟨a,k,m,_,_,_,rfl,_⟩; rfl) (by rintro ds r ⟨a,k,m,_,_,_,_,rfl⟩; exact ⟨_,rfl⟩) λc hq ds sl hF=>?_
 obtain ⟨a,k,m,hm,hm2,hk,rfl,e⟩:=hF
 injection e with e
 subst e
 show aG c _ [.va (.int a),.va (.int k),.va (.int m),.un] _ _
 conv in (aj _)=>whnf
 walk_at "ev"
 all_goals first
  | exact qg (by lia)
  | exact dv_few hm hm2
  | rfl
  | trace_state
theorem jw (x):(aB x).nl:=n5 (by unfold D.nZ; exact ⟨n5 (jZ _),dG (f:=D.int) (l:=[x.2]) λ_ _=>je⟩)
noncomputable def rQ (t:aL):Option D:=if t.2≠0 then some (aB t) else none
theorem iW:∀ L:List aL,(L.map rQ).filterMap id=(nz L).map aB
 | []=>rfl
 | t::L=>by
  unfold nz
  by_cases h:t.2=0
  ·simp only [NF,rQ,h,ne_eq,not_true,if_false,OS,id,List.filter_cons,bne_self_eq_false,Od]
   exact iW L
  ·have hb:(t.2 != 0)=true:=by simpa using h
   rw [List.filter_cons,if_pos hb,NF,NF,OS]
   simp only [rQ,ne_eq,h,not_false_eq_true,if_true,id]
   rw [iW L]; rfl
noncomputable def rm:Fn:=λds r=>∃ ts:List aL,ts.length<=400000/\(∀ t∈ts,t.1.length<=64)/\ds=[.lst (ts.map aB)]/\r=.ok (.ow ((gW (nz (aP ts))).map aB))
theorem tF (h:ts.length<=400000) (h2:∀ t∈ts,t.1.length<=64):rm [.lst (ts.map aB)] (.ok (.ow ((gW (nz (aP ts))).map aB))):=⟨ts,h,h2,rfl,rfl⟩
section
local macro_rules | `(tactic| walk_at "evX")=> `(tactic| first | ((with_reducible show cW _ (Expr.Dict _ _ _) _ _); with_reducible refine CO ?_))
local macro_rules | `(tactic| walk_at "evCa")=> `(tactic| first | with_reducible refine aV (F:=jH) (by assumption) (by decide) ?_)
local macro_rules | `(tactic| walk_at "evR")=> `(tactic| first | with_reducible refine ak (AZ ?_) ?_)
theorem DR (Fu:dh K "poly_of" "poly_of" (top 3) f fd) (T:Txt K mg) (h1:cu P w K mg base 1 "trimmed" jH):aY P w K mg base (cP P w) 2 f fd ["terms"] (cZ K rm):=by
 refine bK Fu sY (by rintro ds r ⟨n,_,_,rfl,_⟩; rfl) (by rintro ds r ⟨n,_,_,_,rfl⟩; exact ⟨_,rfl⟩) λc hq ds sl hF=>?_
 obtain ⟨ts,hl,hlen,rfl,e⟩:=hF
 injection e with e
 subst e
 show aG c _ [.va (.lst (ts.map aB)),.un,.un,.un,.un] _ _
 conv in (aj _)=>whnf
 walk_at "ev"
 with_reducible refine di hq (cX ?_)
 walk_at "ev"
 refine ⟨λi ρ'=>∃ s2 s3 s4:Sl,ρ'=[.va (.lst (ts.map aB)),.oT (encA (aP (ts.take i))),s2,s3,s4],⟨_,_,_,rfl⟩,?_,?_⟩
 ·rintro c' rN x8 x9 i d ρ' hd ⟨s2,s3,s4,rfl⟩
  simp only [NO,NQ] at hd
  obtain ⟨t,ht,rfl⟩:=hd
  obtain ⟨hi,rfl⟩:=NJ.mp ht
  have h6:=hlen _ (Om hi)
  have hsz:(aP (ts.take i)).length<sizeLine:=gh (by have:=eE (ts.take i); rw [Ow] at this; lia)
  show pq c' _ (D.tup [.tup (ts[i].1.map .int),.int ts[i].2]) _ _
  walk_at "ev"
  ·exact h6
  walk_at "ev"
  refine ⟨_,Ab (A:=aP (ts.take i)) rfl _,?_⟩
  rw [qK]
  walk_at "ev"
  refine ⟨_,Ac hsz,?_⟩
  walk_at "ev"
  have e:aP (ts.take (i+1))=putD (aP (ts.take i)) (trim ts[i].1) ((bB (aP (ts.take i)) (trim ts[i].1)).getD 0+ts[i].2):=by
   rw [OY hi,lg]; rfl
  show ∃ s2 s3 s4:Sl,_=[_,Sl.oT (encA (aP (ts.take (i+1)))),s2,s3,s4]
  rw [e]
  exact ⟨_,_,_,rfl⟩
 ·rintro ρ' ⟨s2,s3,s4,rfl⟩
  rw [ND,OM]
  have hn:=keys_nodup (dP ts)
  with_reducible refine aN ?_
  with_reducible refine cj ?_
  refine eF hq (N':=["term"]) (ρ0:=λ_=>[.un]) (λt=>.un .nil) ?_
  refine cX (e_x (kN 1 (by walk_at "at") (encK _) (by walk_at "sset") (qH (Txt.sorted T) ?_)))
  walk_at "ev"
  refine ⟨_,nj _,hn,λL' hp hs=>?_⟩
  have eL:=oE hn hp hs
  subst eL
  refine ⟨dG λx _=>jw x,aU (GR rfl ⟨?_,(gW (aP ts)).map rQ,by simp,?_,?_⟩)⟩
  ·exact vF (by rw [ND]; have:=(bQ (aP ts)).length_eq; have:=eE ts; lia)
  ·intro c' hc t i d o hd ho
   simp only [NO,NQ] at hd ho
   obtain ⟨x,hx,rfl⟩:=hd
   obtain ⟨x',hx',rfl⟩:=ho
   rw [hx] at hx'; cases hx'
   refine dM (by walk_at "at") (uu (by walk_at "sset") ⟨.un .nil,?_⟩)
   show lQ c' _ [.va (.tup [.tup (x.1.map .int),.int x.2])] _
   simp only [lQ]
   walk_at "ev"
   all_goals first
    | (show rQ x=some (aB x); unfold rQ; rw [if_pos (by assumption)])
    | (show rQ x=none; unfold rQ; rw [if_neg λh=>h (by assumption)])
  ·rw [iW,Aa hn]
theorem DS (Fu:dh K "_law_sum" "_law_sum" (top 42) f fd) (T:Txt K mg) (h1:cu P w K mg base 1 "_law_trimmed" jH):aY P w K mg base (cP P w) 2 f fd ["_law_terms"] (cZ K rm):=by
 refine bK Fu AY (by rintro ds r ⟨n,_,_,rfl,_⟩; rfl) (by rintro ds r ⟨n,_,_,_,rfl⟩; exact ⟨_,rfl⟩) λc hq ds sl hF=>?_
 obtain ⟨ts,hl,hlen,rfl,e⟩:=hF
 injection e with e
 subst e
 show aG c _ [.va (.lst (ts.map aB)),.un,.un,.un,.un] _ _
 conv in (aj _)=>whnf
 walk_at "ev"
 with_reducible refine di hq (cX ?_)
 walk_at "ev"
 refine ⟨λi ρ'=>∃ s2 s3 s4:Sl,ρ'=[.va (.lst (ts.map aB)),.oT (encA (aP (ts.take i))),s2,s3,s4],⟨_,_,_,rfl⟩,?_,?_⟩
 ·rintro c' rN x8 x9 i d ρ' hd ⟨s2,s3,s4,rfl⟩
  simp only [NO,NQ] at hd
  obtain ⟨t,ht,rfl⟩:=hd
  obtain ⟨hi,rfl⟩:=NJ.mp ht
  have h6:=hlen _ (Om hi)
  have hsz:(aP (ts.take i)).length<sizeLine:=gh (by have:=eE (ts.take i); rw [Ow] at this; lia)
  show pq c' _ (D.tup [.tup (ts[i].1.map .int),.int ts[i].2]) _ _
  walk_at "ev"
  ·exact h6
  walk_at "ev"
  refine ⟨_,Ab (A:=aP (ts.take i)) rfl _,?_⟩
  rw [qK]
  walk_at "ev"
  refine ⟨_,Ac hsz,?_⟩
  walk_at "ev"
  have e:aP (ts.take (i+1))=putD (aP (ts.take i)) (trim ts[i].1) ((bB (aP (ts.take i)) (trim ts[i].1)).getD 0+ts[i].2):=by
   rw [OY hi,lg]; rfl
  show ∃ s2 s3 s4:Sl,_=[_,Sl.oT (encA (aP (ts.take (i+1)))),s2,s3,s4]
  rw [e]
  exact ⟨_,_,_,rfl⟩
 ·rintro ρ' ⟨s2,s3,s4,rfl⟩
  rw [ND,OM]
  have hn:=keys_nodup (dP ts)
  with_reducible refine aN ?_
  with_reducible refine cj ?_
  refine sJ (Txt.sorted T) (e_x (kN 1 (by walk_at "at") (encK _) (by walk_at "sset") (eF hq (N':=["_law_powers","_law_number"]) (ρ0:=λ_=>[.un,.un]) (λt=>.un (.un .nil)) (CZ ?_))))
  walk_at "ev"
  refine G5 (nj _) ⟨?_,(aP ts).map rQ,by simp,?_,?_⟩
  ·exact vF (by rw [ND]; have:=eE ts; lia)
  ·intro c' hc t i d o hd ho
   simp only [NO,NQ] at hd ho
   obtain ⟨x,hx,rfl⟩:=hd
   obtain ⟨x',hx',rfl⟩:=ho
   rw [hx] at hx'; cases hx'
   show pq c' _ (.tup [.tup (x.1.map .int),.int x.2]) _ _
   walk_at "ev"
   refine ⟨.un (.un .nil),?_⟩
   simp only [lQ]
   walk_at "ev"
   all_goals first
    | (show rQ x=some (aB x); unfold rQ; rw [if_pos (by assumption)])
    | (show rQ x=none; unfold rQ; rw [if_neg λh=>h (by assumption)])
  ·rw [iW]
   refine ⟨dG λx _=>jw x,aU ⟨_,rfl,SO _ hn,λL' hp hs=>?_⟩⟩
   have eL:=oE (SO _ hn) hp hs
   rw [eL]
   rfl
end
noncomputable def nD:Fn:=λds r=>∃ A B:List aL,A.length+B.length<=400000/\(∀ t∈A++B,t.1.length<=64)/\ds=[.lst (A.map aB),.lst (B.map aB)]/\r=.ok (.ow ((aO (A++B)).map aB))
noncomputable def o6:Fn:=λds r=>∃ A B:List aL,A.length+B.length<=400000/\(∀ t∈A++B,t.1.length<=64)/\ds=[.lst (A.map aB),.lst (B.map aB)]/\r=.ok (.ow ((aO (A++B.map jn)).map aB))
theorem A4 (h:A.length+B.length<=400000) (h2:∀ t∈A++B,t.1.length<=64):nD [.lst (A.map aB),.lst (B.map aB)] (.ok (.ow ((aO (A++B)).map aB))):=⟨A,B,h,h2,rfl,rfl⟩
theorem DT (h:A.length+B.length<=400000) (h2:∀ t∈A++B,t.1.length<=64):o6 [.lst (A.map aB),.lst (B.map aB)] (.ok (.ow ((aO (A++B.map jn)).map aB))):=⟨A,B,h,h2,rfl,rfl⟩
section
local macro_rules | `(tactic| walk_at "evXC")=> `(tactic| first | with_reducible refine x_call (F:=rm) (by assumption) (by decide) ?_)
local macro_rules | `(tactic| walk_at "evR")=> `(tactic| first | with_reducible refine ak (tF ?_ ?_) ?_)
theorem DU (Fu:dh K "poly_sum" "poly_sum" (top 4) f fd) (T:Txt K mg) (h1:cu P w K mg base 2 "poly_of" rm):aY P w K mg base (cP P w) 3 f fd ["one","other"] (cZ K nD):=by
 refine bK Fu q9 (by rintro ds r ⟨A,B,_,_,rfl,_⟩; rfl) (by rintro ds r ⟨A,B,_,_,_,rfl⟩; exact ⟨_,rfl⟩) λc hq ds sl hF=>?_
 obtain ⟨A,B,hl,hp,rfl,e⟩:=hF
 injection e with e
 subst e
 show aG c _ [.va (.lst (A.map aB)),.va (.lst (B.map aB))] _ _
 conv in (aj _)=>whnf
 walk_at "ev"
 ·rw [ND,ND]; exact vF (by lia)
 walk_at "ev"
 rw [<- Oq]
 exact ak (tF (by rw [N5]; lia) hp) rfl
theorem A5 (Fu:dh K "poly_less" "poly_less" (top 5) f fd) (T:Txt K mg) (h1:cu P w K mg base 2 "poly_of" rm):aY P w K mg base (cP P w) 3 f fd ["one","other"] (cZ K o6):=by
 refine bK Fu oR (by rintro ds r ⟨A,B,_,_,rfl,_⟩; rfl) (by rintro ds r ⟨A,B,_,_,_,rfl⟩; exact ⟨_,rfl⟩) λc hq ds sl hF=>?_
 obtain ⟨A,B,hl,hp,rfl,e⟩:=hF
 injection e with e
 subst e
 show aG c _ [.va (.lst (A.map aB)),.va (.lst (B.map aB))] _ _
 conv in (aj _)=>whnf
 walk_at "ev"
 refine e_x (eF hq (N':=["powers","number"]) (ρ0:=λ_=>[.un,.un]) (λt=>.un (.un .nil)) (cX ?_))
 walk_at "ev"
 ·exact vF (by rw [ND]; lia)
 refine ⟨B.map λt=>some (aB (jn t)),by simp,?_,aU ?_⟩
 ·intro c' hc t i d o hd ho
  simp only [NO,NQ] at hd ho
  obtain ⟨x,hx,rfl⟩:=hd
  obtain ⟨x',hx',rfl⟩:=ho
  rw [hx] at hx'; cases hx'
  show pq c' _ (.tup [.tup (x.1.map .int),.int x.2]) _ _
  walk_at "ev"
  refine ⟨.un (.un .nil),?_⟩
  simp only [lQ]
  refine ⟨λ_=>?_,λh=>by cases h⟩
  walk_at "ev"
  rfl
 ·have e1:(B.map λt=>some (aB (jn t))).filterMap id=(B.map jn).map aB:=by
   rw [Og,RK]
   induction B with
   | nil=>rfl
   | cons b B ih=>simpa using ih
  rw [e1]
  walk_at "ev"
  ·rw [ND,ND,ND]; exact vF (by lia)
  rw [<- Oq]
  refine ak (tF (by rw [N5,ND]; lia) λt ht=>?_) rfl
  rcases N3.mp ht with q | q
  ·exact hp t (Qt _ q)
  ·obtain ⟨u,hu,rfl⟩:=Of.mp q
   exact hp u (OQ _ hu)
end
end
section
variable {K:Nu}
theorem A6 {l:List Int} (h:m<l.length):jU ((l.take (m+1)).map D.int) (-1)=some (.int (l.getD m 0)):=by
 have hl:(l.take (m+1)).length=m+1:=by simp; lia
 rw [uK (by decide) (by simp only [ND,hl]; lia),ND,hl]
 have e:(-1+((m+1:Nat):Int)).toNat=m:=by lia
 rw [e,NO,List.getElem?_take]
 simp [OG,h]
section
local macro_rules | `(tactic| walk_at "side")=> `(tactic| exact jZ _)
local macro_rules | `(tactic| walk_at "evXp")=> `(tactic| ((with_reducible show fP _ (Stmt.Expr (Oi _ [] _ _) _) _ _ _); with_reducible refine s_pop (by walk_at "at") (by walk_at "at") (by walk_at "own") ?_))
theorem A7 (Fu:dh K "_law_trimmed" "_law_trimmed" (top 41) f fd) (T:Txt K mg):aY P w K mg base (cP P w) 1 f fd ["_law_powers"] (cZ K jH):=by
 refine bK Fu o4 (by rintro ds r ⟨a,_,rfl,_⟩; rfl) (by rintro ds r ⟨a,_,_,rfl⟩; exact ⟨_,rfl⟩) λc hq ds sl hF=>?_
 obtain ⟨l,hl,rfl,e⟩:=hF
 injection e with e
 subst e
 show aG c _ [.va (.tup (l.map .int)),.un] _ _
 conv in (aj _)=>whnf
 walk_at "ev"
 with_reducible refine uw hq (λm ρ'=>m<=l.length/\trim (l.take m)=trim l/\ρ'=[.va (.tup (l.map .int)),.ow ((l.take m).map .int)]) (m₀:=l.length) ?_ ?_
 ·exact ⟨Ny _,by rw [OM],by rw [OM]⟩
 ·rintro m ρ' ⟨hm,ht,rfl⟩
  have hL:((l.take m).map D.int).length=m:=by simp; lia
  walk_at "ev"
  ·rw [hL] at *
   obtain ⟨n,rfl⟩:∃ n,m=n+1:=⟨m - 1,by lia⟩
   refine ⟨_,_,rfl,A6 (by lia),?_⟩
   walk_at "ev"
   ·intro z; have z':=congrArg PK z; rw [ND,Ow,OZ] at z'; lia
   ·refine ⟨n,by lia,by lia,nh (by lia) (by assumption) ht,?_⟩
    show [_,Sl.ow _]=_
    rw [jk (by lia),Oq,List.map_singleton,List.dropLast_concat]
   ·show Sl.va _=Sl.va _
    rw [ni (by lia) (by assumption) ht]
  ·show Sl.va _=Sl.va _
   have:m=0:=by rw [hL] at *; lia
   subst this
   rw [<- ht]
   rfl
end
end
section
variable {K:Nu}
noncomputable def vG:Nat->Int->List Int×Int
 | 0,r=>([],r)
 | i+1,r=>((vG i r).1++[(vG i r).2 / 5 % 4],(vG i r).2 / 4)
noncomputable def xZ (n:Int):aL :=
 if n % 2=1 then ((vG (n / 2 % 5).toNat (n / 2)).1,(vG (n / 2 % 5).toNat (n / 2)).2 / 5 % (2 * 10 ^ Int.toNat 9+1) - 10 ^ Int.toNat 9)
 else ((N6 (thing (n / 2) 0 4).toNat).map λ(i:Nat)=>thing (n / 2) (1+(i:Int)) 2,thing (n / 2) 9 7 - 3)
theorem vH (i) (r):(vG i r).1.length=i:=by
 induction i with
 | zero=>rfl
 | succ i ih=>simp [vG,ih]
theorem HM (i) (r):∀ x∈(vG i r).1,0<=x/\x<=3:=by
 induction i with
 | zero=>intro x hx; cases hx
 | succ i ih =>
  intro x hx
  simp only [vG,N3,NN] at hx
  rcases hx with hx | rfl
  ·exact ih x hx
  ·lia
def MY (t:aL):Prop:=t.1.length<=4/\(∀ x∈t.1,0<=x/\x<=3)/\t.2.natAbs<2 ^ 31
theorem HN (n):MY (xZ n):=by
 unfold xZ
 split
 ·refine ⟨by rw [vH]; lia,HM _ _,?_⟩
  show ((vG (n / 2 % 5).toNat (n / 2)).2 / 5 % (2 * 1000000000+1) - 1000000000).natAbs<2 ^ 31
  lia
 ·have h4:=iV (n / 2) 0 (m:=4) (by decide)
  have h7:=iV (n / 2) 9 (m:=7) (by decide)
  refine ⟨by simp; lia,λx hx=>?_,?_⟩
  ·obtain ⟨i,_,rfl⟩:=Of.mp hx
   have:=iV (n / 2) (1+(i:Int)) (m:=2) (by decide)
   lia
  ·show (thing (n / 2) 9 7 - 3).natAbs<2 ^ 31
   lia
theorem iX (n):(p7 0 n).length=n:=by simp [p7]
noncomputable def DV:Fn:=λds r=>∃ n:Int,ds=[.int n]/\r=.ok (.va (aB (xZ n)))
theorem Ku (n):DV [.int n] (.ok (.va (aB (xZ n)))):=⟨n,rfl,rfl⟩
section
local macro_rules | `(tactic| walk_at "side")=> `(tactic| exact jZ _)
local macro_rules | `(tactic| walk_at "evCa")=> `(tactic| with_reducible refine aV (F:=o5) (by assumption) (by decide) ?_)
local macro_rules | `(tactic| walk_at "evR")=> `(tactic| first | with_reducible refine ak (DQ ?_ ?_ ?_) ?_)
theorem HP (Fu:dh K "_law_small_term" "_law_small_term" (top 44) f fd) (T:Txt K mg) (h1:cu P w K mg base 1 "_law_thing" o5):aY P w K mg base (cP P w) 2 f fd ["_law_cell_here"] (cZ K DV):=by
 refine bK Fu jQ (by rintro ds r ⟨n,rfl,_⟩; rfl) (by rintro ds r ⟨n,_,rfl⟩; exact ⟨_,rfl⟩) λc hq ds sl hF=>?_
 obtain ⟨n,rfl,e⟩:=hF
 injection e with e
 subst e
 show aG c _ [.va (.int n),.un,.un,.un] _ _
 conv in (aj _)=>whnf
 walk_at "ev"
 ·with_reducible refine di hq (eT (Txt.range (by assumption)) ?_)
  walk_at "ev"
  ·exact ⟨by lia,by lia⟩
  refine ⟨λi ρ'=>∃ s4:Sl,ρ'=[.va (.int n),.va (.int (vG i (n / 2)).2),.ow ((vG i (n / 2)).1.map .int),s4],⟨.un,rfl⟩,?_,?_⟩
  ·rintro c' rN x8 x9 i d ρ' hd ⟨s4,rfl⟩
   obtain ⟨hi,rfl⟩:=gw hd
   have hlen:((vG i (n / 2)).1.map D.int).length=i:=by rw [ND,vH]
   walk_at "ev"
   ·exact gh (by lia)
   ·refine ⟨.va (.int (i:Int)),?_⟩
    show [_,_,Sl.ow _,_]=_
    simp only [vG,Oq,NF,Pb]
  ·rintro ρ' ⟨s4,rfl⟩
   rw [iX]
   walk_at "ev"
   all_goals first
    | exact qg (by decide)
    | decide
    | exact ⟨by decide,by decide,by decide +kernel⟩
    | (show Sl.va _=Sl.va _; unfold xZ; rw [if_pos (by assumption)])
 ·have t4:=iV (n / 2) 0 (m:=4) (by decide)
  with_reducible refine di hq (eT (Txt.range (by assumption)) ?_)
  walk_at "ev"
  ·decide
  ·decide
  ·decide
  walk_at "ev"
  ·exact ⟨by lia,by lia⟩
  refine ⟨λi ρ'=>∃ s4:Sl,ρ'=[.va (.int n),.va (.int (n / 2)),.ow (((N6 i).map λ(i:Nat)=>thing (n / 2) (1+(i:Int)) 2).map .int),s4],⟨.un,rfl⟩,?_,?_⟩
  ·rintro c' rN x8 x9 i d ρ' hd ⟨s4,rfl⟩
   obtain ⟨hi,rfl⟩:=gw hd
   have hlen:(((N6 i).map λ(i:Nat)=>thing (n / 2) (1+(i:Int)) 2).map D.int).length=i:=by simp
   walk_at "ev"
   ·decide
   ·decide
   ·lia
   walk_at "ev"
   ·exact gh (by lia)
   ·refine ⟨.va (.int (i:Int)),?_⟩
    show [_,_,Sl.ow _,_]=_
    simp only [List.range_succ,Oq,NF,Pb]
  ·rintro ρ' ⟨s4,rfl⟩
   rw [iX]
   walk_at "ev"
   ·decide
   ·decide
   ·decide
   walk_at "ev"
   show Sl.va _=Sl.va _
   unfold xZ
   rw [if_neg (by assumption)]
end
end
section
variable {K:Nu}
noncomputable def DW (p:List Int) (g:Nat->Int) (k:Nat):Int:=if b9 p k>g k then b9 p k else g k
noncomputable def gk (L:List aL) (k:Nat):Int:=L.foldl (λa t=>if b9 t.1 k>a then b9 t.1 k else a) 0
noncomputable def bF (L:List aL):List Int:=(N6 6).map (gk L)
noncomputable def g6 (p:List Int) (g:Nat->Int) (j k:Nat):Int:=if k<j then DW p g k else g k
theorem vI (L:List aL) (k):∀ a:Int,a<=L.foldl (λa t=>if b9 t.1 k>a then b9 t.1 k else a) a:=by
 induction L with
 | nil=>exact λa=>OL _
 | cons t L ih =>
  intro a
  rw [OT]
  refine N9 ?_ (ih _)
  split <;> lia
theorem Fe (L) (k):0<=gk L k:=vI L k 0
theorem DX (L) (t):gk (L++[t])=DW t.1 (gk L):=by
 funext k
 unfold gk DW
 rw [Tq]; rfl
theorem DY:g6 p (gk L) p.length=DW p (gk L):=by
 funext k
 unfold g6
 split
 ·rfl
 ·unfold DW
  rw [cH (by lia)]
  have:=Fe L k
  rw [if_neg (by lia)]
theorem A8 (p) (g):g6 p g 0=g:=by funext k; unfold g6; rw [if_neg (by lia)]
noncomputable def fD (g:Nat->Int):List D:=((N6 6).map g).map D.int
theorem A9 (p) (g) (h:j<6) (q:DW p g j=b9 p j):(fD (g6 p g j)).set j (.int (b9 p j))=fD (g6 p g (j+1)):=by
 refine TH (by simp [fD]) λi h1 h2=>?_
 have hi:i<6:=by simpa [fD] using h2
 rw [List.getElem_set]
 simp only [fD,List.getElem_map,List.getElem_range]
 unfold g6
 by_cases e:j=i
 ·subst e
  rw [if_pos rfl,if_pos (by lia),q]
 ·rw [if_neg e]
  by_cases z:i<j
  ·rw [if_pos z,if_pos (by lia)]
  ·rw [if_neg z,if_neg (by lia)]
theorem xG (p) (g) (q:DW p g j=g j):fD (g6 p g j)=fD (g6 p g (j+1)):=by
 unfold fD
 congr 1
 refine Pe λi _=>?_
 unfold g6
 by_cases z:i<j
 ·rw [if_pos z,if_pos (by lia)]
 ·by_cases e:i=j
  ·subst e; rw [if_neg z,if_pos (by lia),q]
  ·rw [if_neg z,if_neg (by lia)]
theorem DZ (g) {j:Nat} (h:j<6):jU (fD g) (j:Int)=some (.int (g j)):=by
 rw [j3 (by lia) (by simp [fD]; lia),Oz]
 simp [fD,h]
noncomputable def jx:Fn:=λds r=>∃ L:List aL,(∀ t∈L,t.1.length<=6)/\ds=[.lst (L.map aB)]/\r=.ok (.ow (fD (gk L)))
theorem o7 (h:∀ t∈L,t.1.length<=6):jx [.lst (L.map aB)] (.ok (.ow (fD (gk L)))):=⟨L,h,rfl,rfl⟩
section
local macro_rules | `(tactic| walk_at "evPut")=> `(tactic| with_reducible refine Hl (by walk_at "at") (by walk_at "at") (by walk_at "own") ?_)
local macro_rules | `(tactic| walk_at "evX")=> `(tactic| first | ((with_reducible show cW _ (Expr.BinOp _ Operator.Mult _ _) _ _); with_reducible refine E7 ?_))
local macro_rules | `(tactic| walk_at "evE")=> `(tactic| first | ((with_reducible show aI _ (NS "PLACES" _) _ _); with_reducible refine sj (by assumption) ?_))
theorem Ba (Fu:dh K "greatest_powers" "greatest_powers" (top 6) f fd) (T:Txt K mg) (PL:∃ tk:Tok,mg "PLACES"=some (.int 6 tk)):aY P w K mg base (cP P w) 1 f fd ["some"] (cZ K jx):=by
 obtain ⟨tk,hPL⟩:=PL
 refine bK Fu gZ (by rintro ds r ⟨L,_,rfl,_⟩; rfl) (by rintro ds r ⟨L,_,_,rfl⟩; exact ⟨_,rfl⟩) λc hq ds sl hF=>?_
 obtain ⟨L,hl,rfl,e⟩:=hF
 injection e with e
 subst e
 show aG c _ [.va (.lst (L.map aB)),.un,.un,.un,.un,.un] _ _
 conv in (aj _)=>whnf
 walk_at "ev"
 refine ⟨_,rfl,?_⟩
 walk_at "ev"
 ·exact ⟨⟨by decide,by decide⟩,by decide⟩
 walk_at "ev"
 show fP c _ [.va (.lst (L.map aB)),.ow (fD (gk [])),.un,.un,.un,.un] _ _
 with_reducible refine di hq (cX ?_)
 walk_at "ev"
 refine ⟨λi ρ'=>∃ s2 s3 s4 s5:Sl,ρ'=[.va (.lst (L.map aB)),.ow (fD (gk (L.take i))),s2,s3,s4,s5],⟨_,_,_,_,rfl⟩,?_,?_⟩
 ·rintro c' rN x8 x9 i d ρ' hd ⟨s2,s3,s4,s5,rfl⟩
  simp only [NO,NQ] at hd
  obtain ⟨t,ht,rfl⟩:=hd
  obtain ⟨hi,rfl⟩:=NJ.mp ht
  have h6:=hl _ (Om hi)
  have hq':c'.X.xe=λ_ _=>False:=by rw [rN]; exact hq
  show pq c' _ (D.tup [.tup (L[i].1.map .int),.int L[i].2]) _ _
  walk_at "ev"
  have eg:gk (L.take (i+1))=g6 L[i].1 (gk (L.take i)) L[i].1.length:=by rw [OY hi,DX,DY]
  generalize L[i]=t at h6 eg |-
  generalize gk (L.take i)=g at eg |-
  with_reducible refine di hq' (Hr (Txt.enum (by assumption)) ?_)
  walk_at "ev"
  refine ⟨_,rfl,?_⟩
  refine ⟨λj ρ'=>∃ s4 s5:Sl,ρ'=[.va (.lst (L.map aB)),.ow (fD (g6 t.1 g j)),.va (.tup (t.1.map .int)),.va (.int t.2),s4,s5],⟨s4,s5,by rw [A8]⟩,?_,?_⟩
  ·rintro c2 hcX2 hcR2 hcM2 j d ρ' hd ⟨s4,s5,rfl⟩
   unfold lz at hd
   simp only [NO,NQ,List.getElem?_zipIdx] at hd
   obtain ⟨⟨x,m⟩,⟨y,⟨z,hz,rfl⟩,e⟩,rfl⟩:=hd
   obtain ⟨rfl,rfl⟩:D.int z=x/\0+j=m:=by simpa using e
   obtain ⟨hj,rfl⟩:=NJ.mp hz
   have hj6:j<6:=by lia
   have ha:jU (fD (g6 t.1 g j)) (((0+j:Nat):Int))=some (.int (g j)):=by
    rw [PF,DZ _ hj6]; unfold g6; rw [if_neg (by lia)]
   have ep:b9 t.1 j=t.1[j]:=c7 hj
   have hj0:0+j=j:=PF j
   rw [hj0] at ha |-
   show pq c2 _ (D.tup [.int (j:Nat),.int t.1[j]]) _ _
   walk_at "ev"
   ·refine ⟨j,rfl,⟨by simp [fD]; lia,?_⟩⟩
    walk_at "ev"
    refine ⟨.va (.int (j:Nat)),.va (.int t.1[j]),?_⟩
    show [_,Sl.ow ((fD (g6 t.1 g j)).set j (.int t.1[j])),_,_,_,_]=_
    rw [<- ep,A9 t.1 g hj6 (by unfold DW; rw [ep,if_pos (by assumption)])]
   ·refine ⟨.va (.int (j:Nat)),.va (.int t.1[j]),?_⟩
    rw [xG t.1 g (by unfold DW; rw [ep,if_neg (by assumption)])]
  ·rintro ρ' ⟨s4,s5,rfl⟩
   rw [show (lz (t.1.map D.int)).length=t.1.length by simp [lz]]
   walk_at "ev"
   exact ⟨_,_,_,_,by rw [eg]⟩
 ·rintro ρ' ⟨s2,s3,s4,s5,rfl⟩
  rw [ND,OM]
  walk_at "ev"
  rfl
end
noncomputable def pB (ns:List Int):Int:=ns.foldr max 0
theorem Bb:∀ {ns:List Int} {n:Int},n∈ns->n<=pB ns
 | x::ns,n,h=>by
  show n<=max x (pB ns)
  rcases NU.mp h with rfl | h
  ·lia
  ·have:=Bb h; lia
theorem vJ:∀ (ns:List Int),0<=pB ns
 | []=>OL _
 | x::ns=>by show 0<=max x (pB ns); have:=vJ ns; lia
theorem tG:∀ {ns:List Int} {m:Int},0<=m->(∀ n∈ns,n<=m)->pB ns<=m
 | [],_,h,_=>h
 | x::ns,m,h0,h=>by
  show max x (pB ns)<=m
  have:=tG h0 λn hn=>h n (NK _ hn)
  have:=h x NP
  lia
theorem lG (h:m∈bF L) (h2:∀ n∈bF L,n<=m):m=pB (bF L):=by
 have h0:0<=m:=by
  unfold bF at h
  obtain ⟨k,_,rfl⟩:=Of.mp h
  exact Fe L k
 exact Int.le_antisymm (Bb h) (tG h0 h2)
noncomputable def Ff (A B:List aL):Nat:=OH (pB (bF A)+pB (bF B))
noncomputable def D0:Fn:=λds r=>∃ A B:List aL,(∀ t∈A++B,t.1.length<=6)/\ds=[.lst (A.map aB),.lst (B.map aB)]/\r=.ok (.va (.int (Ff A B:Nat)))
theorem Kv (h:∀ t∈A++B,t.1.length<=6):D0 [.lst (A.map aB),.lst (B.map aB)] (.ok (.va (.int (Ff A B:Nat)))):=⟨A,B,h,rfl,rfl⟩
section
local macro_rules | `(tactic| walk_at "evMt")=> `(tactic| with_reducible refine Ah ?_)
local macro_rules | `(tactic| walk_at "evCa")=> `(tactic| first
 | ((with_reducible show aI _ (Oi (NS "max" _) [_] _ _) _ _); with_reducible refine Ai (Txt.max (by assumption)) ?_)
 | with_reducible refine aV (F:=jx) (by assumption) (by decide) ?_)
theorem HQ (Fu:dh K "width_for" "width_for" (top 7) f fd) (T:Txt K mg) (h1:cu P w K mg base 1 "greatest_powers" jx):aY P w K mg base (cP P w) 2 f fd ["one","other"] (cZ K D0):=by
 refine bK Fu oS (by rintro ds r ⟨A,B,_,rfl,_⟩; rfl) (by rintro ds r ⟨A,B,_,_,rfl⟩; exact ⟨_,rfl⟩) λc hq ds sl hF=>?_
 obtain ⟨A,B,hp,rfl,e⟩:=hF
 injection e with e
 subst e
 show aG c _ [.va (.lst (A.map aB)),.va (.lst (B.map aB)),.un] _ _
 conv in (aj _)=>whnf
 walk_at "ev"
 refine ak (o7 λt ht=>hp t (Qt _ ht)) (aU ⟨bF A,by simp [bF],rfl,λm ⟨m1,m2⟩=>?_⟩)
 rw [lG m1 m2]
 walk_at "ev"
 refine ak (o7 λt ht=>hp t (OQ _ ht)) (aU ⟨bF B,by simp [bF],rfl,λm ⟨m1,m2⟩=>?_⟩)
 rw [lG m1 m2]
 walk_at "ev"
 rfl
end
end
section
variable {K:Nu}
noncomputable def Ea:Fn:=λds r=>∃ (p:List Int) (W:Nat),W<=10/\Bd (2 ^ W) p/\ds=[.tup (p.map .int),.int (W:Nat)]/\r=.ok (.va (.int (pk (2 ^ W) p)))
theorem Kw (h:W<=10) (h2:Bd (2 ^ W) p):Ea [.tup (p.map .int),.int (W:Nat)] (.ok (.va (.int (pk (2 ^ W) p)))):=⟨p,W,h,h2,rfl,rfl⟩
section
local macro_rules | `(tactic| walk_at "evE")=> `(tactic| first | ((with_reducible show aI _ (NS "PLACES" _) _ _); with_reducible refine sj (by assumption) ?_))
local macro_rules | `(tactic| walk_at "evBo")=> `(tactic| first | with_reducible refine E5 ?_ | with_reducible refine E6 ?_ | with_reducible refine Ad ?_)
theorem HR (Fu:dh K "key_of" "key_of" (top 8) f fd) (T:Txt K mg) (PL:∃ tk:Tok,mg "PLACES"=some (.int 6 tk)):aY P w K mg base (cP P w) 1 f fd ["powers","width"] (cZ K Ea):=by
 obtain ⟨tk,hPL⟩:=PL
 refine bK Fu xD (by rintro ds r ⟨p,W,_,_,rfl,_⟩; rfl) (by rintro ds r ⟨p,W,_,_,_,rfl⟩; exact ⟨_,rfl⟩) λc hq ds sl hF=>?_
 obtain ⟨p,W,hW,hp,rfl,e⟩:=hF
 injection e with e
 subst e
 have h6:=hp.1
 show aG c _ [.va (.tup (p.map .int)),.va (.int (W:Nat)),.un,.un] _ _
 conv in (aj _)=>whnf
 walk_at "ev"
 with_reducible refine di hq (cX ?_)
 walk_at "ev"
 refine ⟨λi ρ'=>∃ s3:Sl,ρ'=[.va (.tup (p.map .int)),.va (.int (W:Nat)),.va (.int (DE (2 ^ W) (p.take i))),s3],⟨_,rfl⟩,?_,?_⟩
 ·rintro c' rN x8 x9 i d ρ' hd ⟨s3,rfl⟩
  simp only [NO,NQ] at hd
  obtain ⟨x,hx,rfl⟩:=hd
  obtain ⟨hi,rfl⟩:=NJ.mp hx
  have bd:=Ar (two_pos W) (p:=p.take i) λx hx=>hp.2 x (Qs hx)
  have hl:(p.take i).length<=6:=by rw [Ow]; lia
  walk_at "ev"
  ·exact ⟨by lia,by lia,vn hW hl bd.1 bd.2⟩
  ·refine ⟨.va (.int p[i]),?_⟩
   rw [OY hi,Aq,Oz]
 ·rintro ρ' ⟨s3,rfl⟩
  rw [ND,OM]
  have bd:=Ar (two_pos W) hp.2
  have ew:(W:Int) * (6 - ((p.map D.int).length:Nat))=((W * (6 - p.length):Nat):Int):=by
   rw [ND,Int.natCast_mul,Int.ofNat_sub h6]; rfl
  have ew2:W * (6 - p.length)<=60:=NI (Px hW (Nat.sub_le 6 _)) (by decide)
  walk_at "ev"
  ·exact qg (by lia)
  ·rw [ew]; exact ⟨by lia,by lia,vn hW h6 bd.1 bd.2⟩
  ·show Sl.va _=Sl.va _
   rw [ew,Oz,Int.pow_mul,Hz h6]
end
theorem gi {α:Type} (f:α->D):∀ L:List α,(L.map λt=>some (f t)).filterMap id=L.map f
 | []=>rfl
 | x::L=>by
  rw [NF,NF,OS]
  exact congrArg (f x:: ·) (gi f L)
noncomputable def vK:Fn:=λds r=>∃ (x:Int) (W:Nat),W<=10/\0<=x/\ds=[.int x,.int (W:Nat)]/\r=.ok (.va (.tup ((Lo (2 ^ W) x).map .int)))
theorem HU (h:W<=10) (h2:0<=x):vK [.int x,.int (W:Nat)] (.ok (.va (.tup ((Lo (2 ^ W) x).map .int)))):=⟨x,W,h,h2,rfl,rfl⟩
section
local macro_rules | `(tactic| walk_at "evE")=> `(tactic| first | ((with_reducible show aI _ (NS "PLACES" _) _ _); with_reducible refine sj (by assumption) ?_))
local macro_rules | `(tactic| walk_at "evBo")=> `(tactic| first | with_reducible refine E5 ?_ | with_reducible refine E6 ?_ | with_reducible refine Ad ?_)
local macro_rules | `(tactic| walk_at "evXC")=> `(tactic| first | with_reducible refine x_call (F:=jH) (by assumption) (by decide) ?_)
theorem Eb (Fu:dh K "powers_of" "powers_of" (top 9) f fd) (T:Txt K mg) (PL:∃ tk:Tok,mg "PLACES"=some (.int 6 tk)) (h1:cu P w K mg base 1 "trimmed" jH):aY P w K mg base (cP P w) 2 f fd ["key","width"] (cZ K vK):=by
 obtain ⟨tk,hPL⟩:=PL
 refine bK Fu oU (by rintro ds r ⟨x,W,_,_,rfl,_⟩; rfl) (by rintro ds r ⟨x,W,_,_,_,rfl⟩; exact ⟨_,rfl⟩) λc hq ds sl hF=>?_
 obtain ⟨x,W,hW,hx,rfl,e⟩:=hF
 injection e with e
 subst e
 show aG c _ [.va (.int x),.va (.int (W:Nat)),.un] _ _
 conv in (aj _)=>whnf
 walk_at "ev"
 ·exact ⟨by lia,by lia,by decide⟩
 walk_at "ev"
 rw [Oz]
 refine e_x (eF hq (N':=["k","key","mask","width"]) (ρ0:=λ_=>[.un,.va (.int x),.va (.int (1 * 2 ^ W - 1)),.va (.int (W:Nat))]) (λt=>.un (.fr (by walk_at "at") (by walk_at "at") (by decide) rfl (.fr (by walk_at "at") (by walk_at "at") (by decide) rfl (.fr (by walk_at "at") (by walk_at "at") (by decide) rfl .nil)))) (Ht (Txt.range T) ?_))
 walk_at "ev"
 refine ⟨rfl,⟨⟨by decide,by decide⟩,⟨⟨by decide,by decide⟩,⟨by decide,?_⟩⟩⟩⟩
 refine ⟨(N6 6).map λ(i:Nat)=>some (.int (x / (2 ^ W) ^ (5 - i) % 2 ^ W)),rfl,?_,aU ?_⟩
 ·intro c' hc t i d o hd ho
  unfold Ak at hd
  simp only [NO,NQ] at hd ho
  obtain ⟨a,ha,rfl⟩:=hd
  obtain ⟨a',ha',rfl⟩:=ho
  have hi:i<6:=by simpa using (NJ.mp ha').1
  rw [RG hi] at ha'; cases ha'
  rw [show (6 - 1 - -1:Int).toNat=6 by decide,RG hi] at ha; cases ha
  refine dM (by walk_at "at") (uu (by walk_at "sset") ⟨.un (.same (.same (.same .nil))),?_⟩)
  simp only [lQ]
  refine ⟨λ_=>?_,λh=>by cases h⟩
  have e5:((W:Int) * (6 - 1 - (i:Int))).toNat=W * (5 - i):=by
   rw [show ((6:Int) - 1 - (i:Int))=((5 - i:Nat):Int) by lia,<- Int.natCast_mul,Oz]
  have e6:(0:Int)<=(W:Int) * (6 - 1 - (i:Int)):=R7 (by lia) (by lia)
  have hp:(0:Int)<(2 ^ W) ^ (5 - i):=Qh (two_pos W)
  walk_at "ev"
  ·exact qg (by lia)
  ·show some _=some (D.int _)
   rw [e5,Int.pow_mul,xo W (Int.ediv_nonneg hx (by lia))]
 ·refine ⟨_,rfl,?_⟩
  rw [gi (λ(i:Nat)=>D.int (x / (2 ^ W) ^ (5 - i) % 2 ^ W)) (N6 6),show ((N6 6).map λ(i:Nat)=>D.int (x / (2 ^ W) ^ (5 - i) % 2 ^ W))=((N6 6).map λ(i:Nat)=>x / (2 ^ W) ^ (5 - i) % 2 ^ W).map D.int by rw [Og]; rfl]
  walk_at "ev"
  exact ak (AZ (by simp)) rfl
end
noncomputable def rA (b:Int) (t:aL):D:=.tup [.int (pk b t.1),.int t.2]
noncomputable def nE:Fn:=λds r=>∃ (L:List aL) (W:Nat),W<=10/\L.length<=400000/\(∀ t∈L,Bd (2 ^ W) t.1)/\ds=[.lst (L.map aB),.int (W:Nat)]/\r=.ok (.ow (L.map (rA (2 ^ W))))
theorem tH {L:List aL} (h:W<=10) (h1:L.length<=400000) (h2:∀ t∈L,Bd (2 ^ W) t.1):nE [.lst (L.map aB),.int (W:Nat)] (.ok (.ow (L.map (rA (2 ^ W))))):=⟨L,W,h,h1,h2,rfl,rfl⟩
section
local macro_rules | `(tactic| walk_at "evCa")=> `(tactic| first | with_reducible refine aV (F:=Ea) (by assumption) (by decide) ?_)
theorem Ec (Fu:dh K "packed" "packed" (top 10) f fd) (T:Txt K mg) (h1:cu P w K mg base 1 "key_of" Ea):aY P w K mg base (cP P w) 2 f fd ["some","width"] (cZ K nE):=by
 refine bK Fu xE (by rintro ds r ⟨L,W,_,_,_,rfl,_⟩; rfl) (by rintro ds r ⟨L,W,_,_,_,_,rfl⟩; exact ⟨_,rfl⟩) λc hq ds sl hF=>?_
 obtain ⟨L,W,hW,hL,hb,rfl,e⟩:=hF
 injection e with e
 subst e
 show aG c _ [.va (.lst (L.map aB)),.va (.int (W:Nat))] _ _
 conv in (aj _)=>whnf
 refine aN (cj (eF hq (N':=["powers","number","width"]) (ρ0:=λ_=>[.un,.un,.va (.int (W:Nat))]) (λt=>.un (.un (.fr (by walk_at "at") (by walk_at "at") (by decide) rfl .nil))) (cX ?_)))
 walk_at "ev"
 ·exact vF (by rw [ND]; lia)
 refine ⟨L.map λt=>some (rA (2 ^ W) t),by simp,?_,by show Sl.ow _=Sl.ow _; rw [gi]⟩
 intro c' hc t i d o hd ho
 simp only [NO,NQ] at hd ho
 obtain ⟨x,hx,rfl⟩:=hd
 obtain ⟨x',hx',rfl⟩:=ho
 rw [hx] at hx'; cases hx'
 have hbx:=hb x (O1 hx)
 show pq c' _ (.tup [.tup (x.1.map .int),.int x.2]) _ _
 walk_at "ev"
 refine ⟨.un (.un (.same .nil)),?_⟩
 simp only [lQ]
 refine ⟨λ_=>?_,λh=>by cases h⟩
 walk_at "ev"
 refine ak (Kw hW hbx) ?_
 walk_at "ev"
 rfl
end
end
section
variable {P:Program} {w:World} {K:Nu} {mg:Str->Option Value} {base:Heap}
noncomputable def Bc:Ln:=λkvs ds Z=>∃ (ts A B:List aL) (W:Nat),W<=10/\ts.length+A.length * B.length<=400000/\A.length<=400000/\B.length<=400000/\(∀ t∈ts,Bd (2 ^ W) t.1)/\(∀ l∈A,∀ r∈B,Bd (2 ^ W) (cM l.1 r.1)/\EV.MulOk l.2 r.2) /\
 kvs=cL ((aP ts).map (fY (2 ^ W)))/\ds=[.lst (A.map (rA (2 ^ W))),.lst (B.map (rA (2 ^ W)))]/\Z=λkvs'=>kvs'=cL ((aP (ts++aF A B)).map (fY (2 ^ W)))
section
local macro_rules | `(tactic| walk_at "evS")=> `(tactic| first | ((with_reducible show fP _ (R3 (Pz (NS _ _) _ _) Se _ _) _ _ _); with_reducible refine uE (by walk_at "at") (by walk_at "at") ?_ (ho:=by walk_at "own")))
theorem HV (Fu:dh K "add_products" "add_products" (top 12) f fd) (T:Txt K mg):aY P w K mg base (cP P w) 1 f fd ["total","left","right"] (Hj K Bc):=by
 refine Kf Fu jO (by rintro kvs ds Z ⟨t0,A,B,W,_,_,_,_,_,_,_,rfl,_⟩; rfl) λc hq q kvs ds Z hF=>?_
 obtain ⟨t0,A,B,W,hW,hl,hA,hB,hb0,hp,rfl,rfl,rfl⟩:=hF
 have e00:t0=t0++aF (A.take 0) B:=by show t0=t0++[]; rw [OD]
 rw [show cL ((aP t0).map (fY (2 ^ W)))=cL ((aP (t0++aF (A.take 0) B)).map (fY (2 ^ W))) by rw [<- e00]]
 show aG c _ [.aK q (cL ((aP (t0++aF (A.take 0) B)).map (fY (2 ^ W)))),.va (.lst (A.map (rA (2 ^ W)))),.va (.lst (B.map (rA (2 ^ W)))),.un,.un,.un,.un,.un] _ _
 conv in (aj _)=>whnf
 walk_at "ev"
 with_reducible refine di hq (cX ?_)
 walk_at "ev"
 refine ⟨λi ρ'=>∃ s3 s4 s5 s6 s7:Sl,ρ'=[.aK q (cL ((aP (t0++aF (A.take i) B)).map (fY (2 ^ W)))),.va (.lst (A.map (rA (2 ^ W)))),.va (.lst (B.map (rA (2 ^ W)))),s3,s4,s5,s6,s7],⟨_,_,_,_,_,rfl⟩,?_,?_⟩
 ·rintro c' rN x8 x9 i d ρ' hd ⟨s3,s4,s5,s6,s7,rfl⟩
  simp only [NO,NQ] at hd
  obtain ⟨l,hlx,rfl⟩:=hd
  obtain ⟨hi,rfl⟩:=NJ.mp hlx
  have hq':c'.X.xe=λ_ _=>False:=by rw [rN]; exact hq
  show pq c' _ (.tup [.int (pk (2 ^ W) A[i].1),.int A[i].2]) _ _
  walk_at "ev"
  with_reducible refine di hq' (cX ?_)
  walk_at "ev"
  have hpi:=hp A[i] (Om hi)
  have e0:t0++aF (A.take (i+1)) B=(t0++aF (A.take i) B)++B.map (gF A[i]):=by
   rw [OY hi,xq,N7]
  have hprev:∀ t∈t0++aF (A.take i) B,Bd (2 ^ W) t.1:=λt ht=>by
   rcases N3.mp ht with z | z
   ·exact hb0 t z
   ·obtain ⟨l,hl,r,hr,rfl⟩:=fZ z
    exact (hp l (Qs hl) r hr).1
  have hlen:(t0++aF (A.take i) B).length+B.length<=400000:=by
   rw [N5,dR,Ow,QY (by lia),Nat.add_assoc,<- QD]
   exact NI (Nat.add_le_add_left (Nat.mul_le_mul_right _ (by lia)) _) hl
  generalize A[i]=l at hpi e0 |-
  generalize t0++aF (A.take i) B=ts at e0 hprev hlen |-
  refine ⟨λj ρ'=>∃ s5 s6 s7:Sl,ρ'=[.aK q (cL ((aP (ts++(B.take j).map (gF l))).map (fY (2 ^ W)))),.va (.lst (A.map (rA (2 ^ W)))),.va (.lst (B.map (rA (2 ^ W)))),.va (.int (pk (2 ^ W) l.1)),.va (.int l.2),s5,s6,s7],⟨s5,s6,s7,by simp⟩,?_,?_⟩
  ·rintro c2 hcX2 hcR2 hcM2 j d ρ' hd ⟨s5,s6,s7,rfl⟩
   simp only [NO,NQ] at hd
   obtain ⟨r,hrx,rfl⟩:=hd
   obtain ⟨hj,rfl⟩:=NJ.mp hrx
   obtain ⟨hb,hm⟩:=hpi B[j] (Om hj)
   have e1:ts++(B.take (j+1)).map (gF l)=(ts++(B.take j).map (gF l))++[gF l B[j]]:=by
    rw [OY hj,Oq,N7]; rfl
   have hprev2:∀ t∈ts++(B.take j).map (gF l),Bd (2 ^ W) t.1:=λt ht=>by
    rcases N3.mp ht with z | z
    ·exact hprev t z
    ·obtain ⟨r,hr,rfl⟩:=Of.mp z
     exact (hpi r (Qs hr)).1
   have hlen2:(ts++(B.take j).map (gF l)).length<400000:=by
    rw [N5,ND,Ow]; lia
   have key:=Hy (two_pos W) hprev2 (t:=gF l B[j]) hb
   rw [<- e1] at key
   generalize ts++(B.take j).map (gF l)=us at key hlen2 |-
   generalize B[j]=r at key hb hm |-
   show pq c2 _ (.tup [.int (pk (2 ^ W) r.1),.int r.2]) _ _
   have ek:pk (2 ^ W) (gF l r).1=pk (2 ^ W) l.1+pk (2 ^ W) r.1:=DF _ _ _
   rw [ek] at key
   have hC:(cL ((aP us).map (fY (2 ^ W)))).length<sizeLine:=gh (by
    have:=eE us
    simp only [cL,ND]; lia)
   generalize (aP us).map (fY (2 ^ W))=C at key hC |-
   walk_at "ev"
   refine EW (by walk_at "at") (by walk_at "at") ?_
   walk_at "ev"
   refine ⟨_,.k rfl rfl,?_⟩
   rw [iR]
   cases hv:bB C (pk (2 ^ W) l.1+pk (2 ^ W) r.1) with
   | some m =>
    rw [hv] at key
    show lP _ _ true
    walk_at "ev"
    refine ⟨m,by rw [<- show bB (cL C) (.inl (pk (2 ^ W) l.1+pk (2 ^ W) r.1))=some (D.int m) by rw [iR,hv]; rfl]; exact .k rfl rfl,?_⟩
    walk_at "ev"
    refine ⟨_,.k rfl rfl hC,?_⟩
    walk_at "ev"
    refine ⟨.va (.int (pk (2 ^ W) r.1)),.va (.int r.2),.va (.int (pk (2 ^ W) l.1+pk (2 ^ W) r.1)),?_⟩
    show [Sl.aK q (putD (cL C) (.inl (pk (2 ^ W) l.1+pk (2 ^ W) r.1)) (.int (m+l.2 * r.2))),_,_,_,_,_,_,_]=_
    rw [qS,show putD C (pk (2 ^ W) l.1+pk (2 ^ W) r.1) (m+l.2 * r.2)=_ from key]
   | none =>
    rw [hv] at key
    show lP _ _ false
    walk_at "ev"
    refine ⟨_,.k rfl rfl hC,?_⟩
    walk_at "ev"
    refine ⟨.va (.int (pk (2 ^ W) r.1)),.va (.int r.2),.va (.int (pk (2 ^ W) l.1+pk (2 ^ W) r.1)),?_⟩
    show [Sl.aK q (putD (cL C) (.inl (pk (2 ^ W) l.1+pk (2 ^ W) r.1)) (.int (l.2 * r.2))),_,_,_,_,_,_,_]=_
    rw [qS,<- Rf (l.2 * r.2),show putD C (pk (2 ^ W) l.1+pk (2 ^ W) r.1) (0+l.2 * r.2)=_ from key]
  ·rintro ρ' ⟨s5,s6,s7,rfl⟩
   rw [ND,OM,<- e0]
   walk_at "ev"
   exact ⟨_,_,_,_,_,rfl⟩
 ·rintro ρ' ⟨s3,s4,s5,s6,s7,rfl⟩
  rw [ND,OM]
  walk_at "ev"
  exact ⟨_,_,rfl,rfl⟩
end
noncomputable def IW (C:List (Int×Int)):D:=.fdK ((cL C).map (·.1)) ((cL C).map (·.2))
theorem Be (C):(cL C).map (·.1)=(C.map (·.1)).map NT:=by unfold cL; rw [Og,Og]; rfl
noncomputable def xH:Fn:=λds r=>∃ (ts:List aL) (W:Nat),W<=10/\ts.length<=400000/\(∀ t∈ts,Bd (2 ^ W) t.1)/\ds=[IW ((aP ts).map (fY (2 ^ W))),.int (W:Nat)]/\r=.ok (.ow ((aO ts).map aB))
theorem Fg (h:W<=10) (h1:ts.length<=400000) (h2:∀ t∈ts,Bd (2 ^ W) t.1):xH [IW ((aP ts).map (fY (2 ^ W))),.int (W:Nat)] (.ok (.ow ((aO ts).map aB))):=⟨ts,W,h,h1,h2,rfl,rfl⟩
theorem tK (h:gE ltI true L):L.Pairwise λx y=>y<x:=by
 unfold gE at h
 exact h.imp λ{x y} q=>by simpa using q
section
local macro_rules | `(tactic| walk_at "evIx")=> `(tactic| with_reducible refine HA ?_)
local macro_rules | `(tactic| walk_at "evCa")=> `(tactic| first | with_reducible refine aV (F:=vK) (by assumption) (by decide) ?_)
theorem HW (Fu:dh K "unpacked" "unpacked" (top 11) f fd) (T:Txt K mg) (h1:cu P w K mg base 2 "powers_of" vK):aY P w K mg base (cP P w) 3 f fd ["total","width"] (cZ K xH):=by
 refine bK Fu rg (by rintro ds r ⟨ts,W,_,_,_,rfl,_⟩; rfl) (by rintro ds r ⟨ts,W,_,_,_,_,rfl⟩; exact ⟨_,rfl⟩) λc hq ds sl hF=>?_
 obtain ⟨ts,W,hW,hl,hb,rfl,e⟩:=hF
 injection e with e
 subst e
 show aG c _ [.va (IW ((aP ts).map (fY (2 ^ W)))),.va (.int (W:Nat))] _ _
 conv in (aj _)=>whnf
 refine aN (cj (eF hq (N':=["key","total","width"]) (ρ0:=λ_=>[.un,.va (IW ((aP ts).map (fY (2 ^ W)))),.va (.int (W:Nat))]) (λt=>.un (.fr (by walk_at "at") (by walk_at "at") (by decide) rfl (.fr (by walk_at "at") (by walk_at "at") (by decide) rfl .nil))) (cX (e_x (sM (Txt.sorted T) ?_)))))
 walk_at "ev"
 have hk:=dP ts
 have hg:=oO hb
 have nd:(((aP ts).map (fY (2 ^ W))).map (·.1)).Nodup:=by
  rw [Og]
  unfold List.Nodup at hk |-
  rw [QT] at hk |-
  exact TM.imp_of_mem (λ{x y} hx hy q z=>q (sN (two_pos W) (hg x hx).1 (hg y hy).1 (hg x hx).2 (hg y hy).2 z)) hk
 refine ⟨((aP ts).map (fY (2 ^ W))).map (·.1),_,by rw [<- Be]; rfl,nd,λL' hp hs=>?_⟩
 have eL:=Ao (two_pos W) hb hp (tK hs)
 subst eL
 have hle:=eE ts
 have hpl:=(bQ (aP ts)).length_eq
 refine aU (GR rfl ⟨vF (by simp only [ND]; lia),(gW (aP ts)).map rQ,by simp,?_,?_⟩)
 ·intro c' hc t i d o hd ho
  simp only [NO,NQ] at hd ho
  obtain ⟨n,⟨x,hx,rfl⟩,rfl⟩:=hd
  obtain ⟨x',hx',rfl⟩:=ho
  rw [hx] at hx'; cases hx'
  have hm:x∈aP ts:=(bQ (aP ts)).subset (O1 hx)
  have hv:bB (cL ((aP ts).map (fY (2 ^ W)))) (.inl (pk (2 ^ W) x.1))=some (.int x.2):=by
   rw [iR,sO (two_pos W) hg (hg x hm).1 (hg x hm).2,vj hk hm]; rfl
  refine dM (by walk_at "at") (uu (by walk_at "sset") ⟨.un (.same (.same .nil)),?_⟩)
  simp only [lQ]
  have h0:=(Km (two_pos W) (hg x hm).1).1
  walk_at "ev"
  refine ⟨_,_,_,rfl,rfl,hv,?_⟩
  walk_at "ev"
  ·unfold rQ; rw [if_neg λh=>h (by assumption)]
  refine ak (HU hW h0) ?_
  rw [Hu (two_pos W) (hg x hm).1,(hg x hm).2]
  walk_at "ev"
  refine ⟨_,_,_,rfl,rfl,hv,?_⟩
  walk_at "ev"
  unfold rQ
  rw [if_pos (by assumption)]
 ·show Sl.ow _=Sl.ow _
  rw [iW,Aa (keys_nodup hk)]
  rfl
end
structure lH (A B:List aL):Prop where
 la:A.length<=400000
 lb:B.length<=400000
 lp:A.length * B.length<=400000
 pa:∀ t∈A,t.1.length<=6/\∀ x∈t.1,0<=x/\x<=500
 pb:∀ t∈B,t.1.length<=6/\∀ x∈t.1,0<=x/\x<=500
 mu:∀ l∈A,∀ r∈B,EV.MulOk l.2 r.2
theorem vL:∀ {L:List aL} (a:Int),a<=m->(∀ t∈L,b9 t.1 k<=m)->L.foldl (λa t=>if b9 t.1 k>a then b9 t.1 k else a) a<=m
 | [],_,h,_=>h
 | t::L,a,h,q=>by
  rw [OT]
  have:=q t NP
  exact vL _ (by split <;> lia) λu hu=>q u (NK _ hu)
theorem lI (h0:0<=m) (h:∀ t∈L,∀ x∈t.1,x<=m):pB (bF L)<=m:=by
 refine tG h0 λn hn=>?_
 unfold bF at hn
 obtain ⟨k,_,rfl⟩:=Of.mp hn
 refine vL 0 h0 λt ht=>?_
 by_cases z:k<t.1.length
 ·rw [c7 z]; exact h t ht _ (Om _)
 ·rw [cH (by lia)]; exact h0
theorem gj (ht:t∈L) (hl:t.1.length<=6) (hx:x∈t.1):x<=pB (bF L):=by
 obtain ⟨k,hk,rfl⟩:=List.getElem_of_mem hx
 refine N9 ?_ (Bb (show gk L k∈bF L from Of.mpr ⟨k,by simp; lia,rfl⟩))
 unfold gk
 rw [<- c7 hk]
 suffices H:∀ a:Int,b9 t.1 k<=L.foldl (λa t=>if b9 t.1 k>a then b9 t.1 k else a) a from H 0
 induction L with
 | nil=>cases ht
 | cons u L ih =>
  intro a
  rw [OT]
  rcases NU.mp ht with rfl | ht
  ·refine N9 ?_ (vI L k _)
   split <;> lia
  ·exact ih ht _
theorem vM (h:0<=x):x<2 ^ OH x:=by
 unfold OH
 by_cases z:x=0
 ·subst z; decide
 ·have e:(x == 0)=false:=by simpa using z
  rw [e,if_neg NH,gz]
  have:=Nat.lt_log2_self (n:=x.natAbs)
  lia
theorem bits_le (h:x.natAbs<1024):OH x<=10:=by
 unfold OH
 by_cases z:x=0
 ·subst z; decide
 ·have e:(x == 0)=false:=by simpa using z
  rw [e,if_neg NH]
  have:=(Nat.log2_lt (n:=x.natAbs) (k:=10) (by lia)).mpr h
  lia
theorem HX (h:lH A B):Ff A B<=10/\(∀ t∈A,Bd (2 ^ Ff A B) t.1)/\(∀ t∈B,Bd (2 ^ Ff A B) t.1)/\∀ l∈A,∀ r∈B,Bd (2 ^ Ff A B) (cM l.1 r.1):=by
 have a0:=vJ (bF A)
 have b0:=vJ (bF B)
 have a1:=lI (L:=A) (m:=500) (by decide) λt ht x hx=>((h.pa t ht).2 x hx).2
 have b1:=lI (L:=B) (m:=500) (by decide) λt ht x hx=>((h.pb t ht).2 x hx).2
 have lt:=vM (x:=pB (bF A)+pB (bF B)) (by lia)
 have le:=bits_le (x:=pB (bF A)+pB (bF B)) (by lia)
 unfold Ff
 refine ⟨le,λt ht=>⟨(h.pa t ht).1,λx hx=>⟨((h.pa t ht).2 x hx).1,?_⟩⟩,λt ht=>⟨(h.pb t ht).1,λx hx=>⟨((h.pb t ht).2 x hx).1,?_⟩⟩,λl hl r hr=>⟨?_,λx hx=>?_⟩⟩
 ·have:=gj ht (h.pa t ht).1 hx; lia
 ·have:=gj ht (h.pb t ht).1 hx; lia
 ·rw [iS]; have:=(h.pa l hl).1; have:=(h.pb r hr).1; lia
 ·unfold cM at hx
  obtain ⟨k,_,rfl⟩:=Of.mp hx
  have ga:0<=b9 l.1 k/\b9 l.1 k<=pB (bF A):=by
   by_cases z:k<l.1.length
   ·rw [c7 z]; exact ⟨((h.pa l hl).2 _ (Om _)).1,gj hl (h.pa l hl).1 (Om _)⟩
   ·rw [cH (by lia)]; lia
  have gb:0<=b9 r.1 k/\b9 r.1 k<=pB (bF B):=by
   by_cases z:k<r.1.length
   ·rw [c7 z]; exact ⟨((h.pb r hr).2 _ (Om _)).1,gj hr (h.pb r hr).1 (Om _)⟩
   ·rw [cH (by lia)]; lia
  lia
noncomputable def rB:Fn:=λds r=>∃ A B:List aL,lH A B/\ds=[.lst (A.map aB),.lst (B.map aB)]/\r=.ok (.ow ((aO (aF A B)).map aB))
theorem lJ (h:lH A B):rB [.lst (A.map aB),.lst (B.map aB)] (.ok (.ow ((aO (aF A B)).map aB))):=⟨A,B,h,rfl,rfl⟩
section
local macro_rules | `(tactic| walk_at "evX")=> `(tactic| first | ((with_reducible show cW _ (Expr.Dict _ _ _) _ _); with_reducible refine nX ?_))
local macro_rules | `(tactic| walk_at "evCa")=> `(tactic| first | with_reducible refine aV (F:=D0) (by assumption) (by decide) ?_ | with_reducible refine aV (F:=nE) (by assumption) (by decide) ?_)
local macro_rules | `(tactic| walk_at "evXp")=> `(tactic| with_reducible refine oJ (F:=Bc) (by assumption) (by decide) (by walk_at "at") (by walk_at "at") (by walk_at "own") ?_)
local macro_rules | `(tactic| walk_at "evXC")=> `(tactic| first | ((with_reducible show cW _ (Oi (NS "unpacked" _) _ _ _) _ _); refine kN 3 (by walk_at "at") rfl (by walk_at "sset") (x_call (F:=xH) (by assumption) (by decide) ?_)))
theorem HY (Fu:dh K "poly_times" "poly_times" (top 13) f fd) (T:Txt K mg) (h1:cu P w K mg base 2 "width_for" D0) (h2:cu P w K mg base 2 "packed" nE)
 (h3:Ae P w K mg base 1 "add_products" Bc) (h4:cu P w K mg base 3 "unpacked" xH):aY P w K mg base (cP P w) 4 f fd ["one","other"] (cZ K rB):=by
 refine bK Fu l5 (by rintro ds r ⟨A,B,_,rfl,_⟩; rfl) (by rintro ds r ⟨A,B,_,_,rfl⟩; exact ⟨_,rfl⟩) λc hq ds sl hF=>?_
 obtain ⟨A,B,h,rfl,e⟩:=hF
 injection e with e
 subst e
 show aG c _ [.va (.lst (A.map aB)),.va (.lst (B.map aB)),.un,.un] _ _
 conv in (aj _)=>whnf
 obtain ⟨w1,w2,w3,w4⟩:=HX h
 walk_at "ev"
 refine ak (Kv λt ht=>?_) ?_
 ·rcases N3.mp ht with z | z
  ·exact (h.pa t z).1
  ·exact (h.pb t z).1
 walk_at "ev"
 refine ak (tH w1 h.la w2) ?_
 walk_at "ev"
 refine ak (tH w1 h.lb w3) ?_
 walk_at "ev"
 refine ⟨_,⟨[],A,B,Ff A B,w1,by simpa using h.lp,h.la,h.lb,(λt ht=>by cases ht),λl hl r hr=>⟨w4 l hl r hr,h.mu l hl r hr⟩,rfl,rfl,rfl⟩,?_⟩
 rintro kvs' rfl
 rw [QZ]
 walk_at "ev"
 refine ak (Fg (ts:=aF A B) w1 (by rw [dR]; exact h.lp) λt ht=>?_) ⟨dG λx _=>jw x,rfl⟩
 obtain ⟨l,hl,r,hr,rfl⟩:=fZ ht
 exact w4 l hl r hr
end
end
section
variable {P:Program} {w:World} {K:Nu} {mg:Str->Option Value} {base:Heap}
noncomputable abbrev Part:=Int×List (List aL)
noncomputable def ah (A:List aL):D:=.lst (A.map aB)
noncomputable def gm (p:Part):D:=.tup (.int p.1::p.2.map ah)
noncomputable def gB (n:Int) (As:List (List aL)):List aL:=As.foldl aF (cT n)
noncomputable def ic (ps:List Part):List aL:=ps.flatMap λp=>gB p.1 p.2
noncomputable def cE (As:List (List aL)):Nat:=(As.map λA=>max A.length 1).foldr (· * ·) 1
noncomputable def lR (A:List aL):Int:=pB (bF A)
noncomputable def pC (As:List (List aL)):MP:=(As.map mp).foldr (· * ·) 1
theorem Bf (As):∀ L:List aL,mp (As.foldl aF L)=mp L * pC As:=by
 induction As with
 | nil=>intro L; show mp L=mp L * 1; grind
 | cons A As ih =>
  intro L
  rw [OT,ih,dU]
  show _=mp L * (mp A * pC As)
  grind
theorem ie (n) (As):mp (gB n As)=(n:MP) * pC As:=by unfold gB; rw [Bf,sU]
theorem Bg (h:As.Perm Bs):pC As=pC Bs:=by
 induction h with
 | nil=>rfl
 | cons x _ ih=>exact congrArg (mp x * ·) ih
 | swap x y l=>show mp y * (mp x * pC l)=mp x * (mp y * pC l); grind
 | trans _ _ a b=>rw [a,b]
theorem Bh (As) (A):pC (As++[A])=pC As * mp A:=by
 induction As with
 | nil=>show mp A * 1=1 * mp A; grind
 | cons B As ih=>show mp B * pC (As++[A])=mp B * pC As * mp A; rw [ih]; grind
theorem xJ (h:As.Perm Bs):cE As=cE Bs:=by
 unfold cE
 induction h with
 | nil=>rfl
 | cons x _ ih=>simp only [NF,Q5] at ih |-; rw [ih]
 | swap x y l=>simp only [NF,Q5]; rw [Nat.mul_left_comm]
 | trans _ _ a b=>rw [a,b]
theorem xK (As) (A):cE (As++[A])=cE As * max A.length 1:=by
 unfold cE
 induction As with
 | nil=>simp
 | cons B As ih=>simp only [Qa,NF,Q5] at ih |-; rw [ih,Nat.mul_assoc]
theorem Bj (As):1<=cE As:=by
 unfold cE
 induction As with
 | nil=>exact Ny _
 | cons B As ih=>simp only [NF,Q5]; exact Px (m₁:=1) (n₁:=1) (by lia) ih
theorem xM (As) (i):cE (As.take i)<=cE As:=by
 induction As generalizing i with
 | nil=>simp
 | cons B As ih =>
  cases i with
  | zero=>exact Bj _
  | succ i =>
   have:=ih i
   unfold cE at *
   simp only [List.take_succ_cons,NF,Q5]
   exact Nat.mul_le_mul_left _ this
def Ex (m:Int) (L:List aL):Prop:=∀ t∈L,t.1.length<=6/\∀ x∈t.1,0<=x/\x<=m
def Bn (m:Nat) (L:List aL):Prop:=∀ t∈L,t.2.natAbs<2 ^ m
theorem Ex.bd (h:Ex m L) (hm:m<2 ^ W):∀ t∈L,Bd (2 ^ W) t.1:=λt ht=>⟨(h t ht).1,λx hx=>⟨((h t ht).2 x hx).1,RL ((h t ht).2 x hx).2 hm⟩⟩
theorem Bk (h0:0<=m) (h:∀ x∈p,0<=x/\x<=m) (k):0<=b9 p k/\b9 p k<=m:=by
 by_cases z:k<p.length
 ·rw [c7 z]; exact h _ (Om _)
 ·rw [cH (by lia)]; lia
theorem Ed (h0:0<=m) (g0:0<=n) (hp:p.length<=6/\∀ x∈p,0<=x/\x<=m) (hq:q.length<=6/\∀ x∈q,0<=x/\x<=n):(cM p q).length<=6/\∀ x∈cM p q,0<=x/\x<=m+n:=by
 refine ⟨by rw [iS]; lia,λx hx=>?_⟩
 unfold cM at hx
 obtain ⟨k,_,rfl⟩:=Of.mp hx
 have:=Bk h0 hp.2 k
 have:=Bk g0 hq.2 k
 lia
theorem Ex.prod (h0:0<=m) (g0:0<=n) (h:Ex m A) (g:Ex n B):Ex (m+n) (aF A B):=λt ht=>by
 obtain ⟨l,hl,r,hr,rfl⟩:=fZ ht
 exact Ed h0 g0 (h l hl) (g r hr)
theorem Ex.sum (h:Ex m L):Ex m (aP L):=by
 unfold aP
 suffices H:∀ (ts A:List aL),Ex m A->Ex m ts->Ex m (ts.foldl fy A) from H L [] (λt ht=>by cases ht) h
 intro ts
 induction ts with
 | nil=>exact λA hA _=>hA
 | cons u ts ih =>
  refine λA hA hts=>ih _ (λt ht=>?_) λt ht=>hts t (NK _ ht)
  rcases qW ht with rfl | q
  ·have:=hts u NP
   exact ⟨NI (fV _) this.1,λx hx=>this.2 x (qR hx)⟩
  ·exact hA t q
theorem Ex.mono (h:Ex m L) (hn:m<=n):Ex n L:=λt ht=>⟨(h t ht).1,λx hx=>⟨((h t ht).2 x hx).1,N9 ((h t ht).2 x hx).2 hn⟩⟩
theorem Ex.app (h:Ex m A) (g:Ex m B):Ex m (A++B):=λt ht=>(N3.mp ht).elim (h t) (g t)
theorem Bn.mono (h:Bn m L) (hn:m<=n):Bn n L:=λt ht=>Ol (h t ht) (RC (by decide) hn)
theorem Bn.prod (h:Bn m A) (g:Bn n B):Bn (m+n) (aF A B):=λt ht=>by
 obtain ⟨l,hl,r,hr,rfl⟩:=fZ ht
 show (l.2 * r.2).natAbs<_
 rw [Int.natAbs_mul,Nat.pow_add]
 exact Nat.mul_lt_mul'' (h l hl) (g r hr)
theorem Bn.sum (h:Bn m L) (hl:L.length<2 ^ 20):Bn (m+20) (aP L):=λt ht=>by
 have:=HC (m:=2 ^ m) (λt ht=>PJ (h t ht)) t ht
 refine Pg this ?_
 rw [Nat.pow_add,Nat.mul_comm]
 exact Nat.mul_lt_mul_of_pos_left hl (Nat.two_pow_pos m)
theorem vN (h:a.natAbs<2 ^ m):OH a<=m+1:=by
 unfold OH
 by_cases z:a=0
 ·subst z; simp
 ·have e:(a == 0)=false:=by simpa using z
  rw [e,if_neg NH]
  have:=(Nat.log2_lt (n:=a.natAbs) (k:=m) (by lia)).mpr h
  lia
theorem tL (h:a.natAbs<2 ^ m) (g:b.natAbs<2 ^ n) (hm:m+n<=1000000):EV.MulOk a b:=by
 have h1:=vN h
 have h2:=vN g
 unfold EV.MulOk IntMulOk Builtin.Int.intTooBig bitsLine
 have e:decide (((OH a+OH b:Nat):Int)>((2 ^ 27:Nat):Int))=false:=by
  apply decide_eq_false
  rw [show (2:Nat) ^ 27=134217728 by decide]
  lia
 simp only [QX]
 rintro ⟨_,z⟩
 have z':=of_decide_eq_true z
 rw [show (2:Nat) ^ 27=134217728 by decide] at z'
 lia
structure dX (A:List aL):Prop where
 l:A.length<=400000
 e:Ex 120 A
 b:Bn 2000 A
structure gn (p:Part):Prop where
 n:p.1.natAbs<2 ^ 2000
 m:p.2.length<=8
 f:∀ A∈p.2,dX A
structure ay (ps:List Part):Prop where
 p:∀ p∈ps,gn p
 l:ps.length<=1000
 s:(ps.map λp=>cE p.2).sum<=400000
theorem Bl (A):0<=lR A:=vJ _
theorem dX.mx (h:dX A):lR A<=120:=lI (by decide) λt ht x hx=>((h.e t ht).2 x hx).2
theorem dX.ex (h:dX A):Ex (lR A) A:=λt ht=>⟨(h.e t ht).1,λx hx=>⟨((h.e t ht).2 x hx).1,gj ht (h.e t ht).1 hx⟩⟩
noncomputable def pD (p:Part):Int:=(p.2.map lR).sum
theorem vO (As:List (List aL)):0<=(As.map lR).sum:=by
 induction As with
 | nil=>exact OL _
 | cons A As ih=>rw [NF,Qd]; have:=Bl A; lia
theorem gn.sz (h:gn p):pD p<=960:=by
 have:∀ As:List (List aL),(∀ A∈As,dX A)->(As.map lR).sum<=120 * As.length:=λAs=>by
  induction As with
  | nil=>exact λ_=>by simp
  | cons A As ih =>
   intro hA
   have:=ih λB hB=>hA B (NK _ hB)
   have:=(hA A NP).mx
   rw [NF,Qd,Oe]; lia
 have h1:=this p.2 h.f
 have h2:=h.m
 unfold pD
 lia
noncomputable def gp (ps:List Part):Int:=ps.foldl (λm p=>if pD p>m then pD p else m) 0
theorem nF (ps:List Part):∀ m:Int,m<=ps.foldl (λm p=>if pD p>m then pD p else m) m:=by
 induction ps with
 | nil=>exact λm=>OL _
 | cons p ps ih=>intro m; rw [OT]; refine N9 ?_ (ih _); split <;> lia
theorem Ef (h:p∈ps):pD p<=gp ps:=by
 unfold gp
 suffices H:∀ m:Int,pD p<=ps.foldl (λm p=>if pD p>m then pD p else m) m from H 0
 induction ps with
 | nil=>cases h
 | cons q ps ih =>
  intro m
  rw [OT]
  rcases NU.mp h with rfl | h
  ·refine N9 ?_ (nF ps _)
   split <;> lia
  ·exact ih h _
theorem Eg (h:∀ p∈ps,gn p):gp ps<=960:=by
 unfold gp
 suffices H:∀ m:Int,m<=960->ps.foldl (λm p=>if pD p>m then pD p else m) m<=960 from H 0 (by decide)
 induction ps with
 | nil=>exact λm hm=>hm
 | cons q ps ih =>
  intro m hm
  rw [OT]
  refine ih (λp hp=>h p (NK _ hp)) _ ?_
  have:=(h q NP).sz
  split <;> lia
noncomputable def Bm (ps:List Part):Nat:=OH (gp ps)
theorem Eh (h:∀ p∈ps,gn p):Bm ps<=10/\∀ p∈ps,pD p<2 ^ Bm ps:=by
 have h0:0<=gp ps:=nF ps 0
 have h1:=Eg h
 exact ⟨bits_le (by lia),λp hp=>RL (Ef hp) (vM h0)⟩
theorem iY (x:α) (xs):EV.cutD (x::xs) (some 1) none=xs:=by
 unfold EV.cutD HT.bZ; simp
noncomputable def Ei:Fn:=λds r=>∃ ps:List Part,(∀ p∈ps,gn p)/\ds=[.lst (ps.map gm)]/\r=.ok (.va (.int (Bm ps:Nat)))
theorem Kx (h:∀ p∈ps,gn p):Ei [.lst (ps.map gm)] (.ok (.va (.int (Bm ps:Nat)))):=⟨ps,h,rfl,rfl⟩
section
local macro_rules | `(tactic| walk_at "evMt")=> `(tactic| with_reducible refine Ah ?_)
local macro_rules | `(tactic| walk_at "evCa")=> `(tactic| first
 | ((with_reducible show aI _ (Oi (NS "max" _) [_] _ _) _ _); with_reducible refine Ai (Txt.max (by assumption)) ?_)
 | ((with_reducible show aI _ (Oi (NS "max" _) [_,_] _ _) _ _); with_reducible refine Hi (Txt.max (by assumption)) ?_)
 | ((with_reducible show aI _ (Oi (NS "sum" _) _ _ _) _ _); with_reducible refine Ho (Txt.sum (by assumption)) ?_)
 | with_reducible refine aV (F:=jx) (by assumption) (by decide) ?_)
theorem HZ (Fu:dh K "width_of" "width_of" (top 15) f fd) (T:Txt K mg) (h1:cu P w K mg base 1 "greatest_powers" jx):aY P w K mg base (cP P w) 2 f fd ["parts"] (cZ K Ei):=by
 refine bK Fu ri (by rintro ds r ⟨ps,_,rfl,_⟩; rfl) (by rintro ds r ⟨ps,_,_,rfl⟩; exact ⟨_,rfl⟩) λc hq ds sl hF=>?_
 obtain ⟨ps,hp,rfl,e⟩:=hF
 injection e with e
 subst e
 show aG c _ [.va (.lst (ps.map gm)),.un,.un] _ _
 conv in (aj _)=>whnf
 walk_at "ev"
 with_reducible refine di hq (cX ?_)
 walk_at "ev"
 refine ⟨λi ρ'=>∃ s2:Sl,ρ'=[.va (.lst (ps.map gm)),.va (.int (gp (ps.take i))),s2],⟨_,rfl⟩,?_,?_⟩
 ·rintro c' rN x8 x9 i d ρ' hd ⟨s2,rfl⟩
  simp only [NO,NQ] at hd
  obtain ⟨p,hpx,rfl⟩:=hd
  obtain ⟨hi,rfl⟩:=NJ.mp hpx
  have hpo:=hp ps[i] (Om hi)
  have eg:gp (ps.take (i+1))=if pD ps[i]>gp (ps.take i) then pD ps[i] else gp (ps.take i):=by
   unfold gp; rw [OY hi,Tq]; rfl
  generalize ps[i]=p at hpo eg |-
  show pq c' _ (.tup (.int p.1::p.2.map ah)) _ _
  walk_at "ev"
  refine e_x (eF (show c'.X.xe=i8 by rw [rN]; exact hq) (N':=["some"]) (ρ0:=λ_=>[.un]) (λt=>.un .nil) (cX ?_))
  walk_at "ev"
  ·rw [iY,ND]; exact vF (by have:=hpo.m; lia)
  rw [iY]
  refine ⟨p.2.map λA=>some (.int (lR A)),by simp,?_,aU ?_⟩
  ·intro c2 hc2 t j d o hd ho
   simp only [NO,NQ] at hd ho
   obtain ⟨A,hA,rfl⟩:=hd
   obtain ⟨A',hA',rfl⟩:=ho
   rw [hA] at hA'; cases hA'
   have hf:=hpo.f A (O1 hA)
   refine dM (by walk_at "at") (uu (by walk_at "sset") ⟨.un .nil,?_⟩)
   simp only [lQ]
   refine ⟨λ_=>?_,λh=>by cases h⟩
   show aI c2 _ [.va (.lst (A.map aB))] _
   walk_at "ev"
   refine ak (o7 λt ht=>(hf.e t ht).1) (aU ⟨bF A,by simp [bF],rfl,λm ⟨m1,m2⟩=>?_⟩)
   rw [lG m1 m2]; rfl
  ·rw [gi]
   refine ⟨p.2.map lR,by rw [Og]; rfl,?_⟩
   walk_at "ev"
   refine ⟨.va (gm p),?_⟩
   rw [eg]; rfl
 ·rintro ρ' ⟨s2,rfl⟩
  rw [ND,OM]
  walk_at "ev"
  rfl
end
end
section
variable {P:Program} {w:World} {K:Nu} {mg:Str->Option Value} {base:Heap}
theorem Ej (x:α) (xs):jU (x::xs) 0=some x:=by rw [j3 (by decide) (by simp)]; rfl
theorem Ia (b):pk b []=0:=(iP (g:=λ_=>0) λi _=>cH (N1 _)).trans (iQ _)
theorem Fi (b n):(cT n).map (rA b)=[.tup [.int 0,.int n]]:=by show [D.tup [.int (pk b []),.int n]]=_; rw [Ia]
theorem Bo (xs:List α):EV.cutD xs none (some (-1))=xs.dropLast:=by
 unfold EV.cutD HT.bZ
 rw [SN]
 simp only [List.drop_zero]
 congr 1
 split <;> lia
theorem Ek (xs) (x:α):jU (xs++[x]) (-1)=some x:=by
 rw [uK (by decide) (by simp; lia),show (-1+((xs++[x]).length:Int)).toNat=xs.length by simp; lia]
 simp
noncomputable def Lp (b:Int) (A:List aL):D:=.lst (A.map (rA b))
theorem Bp {α β:Type} {f:α->β} {L:List α} {M:List β} (h:M.Perm (L.map f)):∃ L':List α,L'.Perm L/\M=L'.map f:=by
 have p:∀ L:List α,Paired (λa b=>b=f a) L (L.map f):=λL=>by
  induction L with
  | nil=>exact .nil
  | cons x L ih=>exact .cons rfl ih
 obtain ⟨L',h1,h2⟩:=SR.fT h (p L)
 refine ⟨L',h1,?_⟩
 clear h1 h p
 induction h2 with
 | nil=>rfl
 | cons r _ ih=>rw [r,ih]; rfl
theorem xN (C):(IW C).pairs=some (C.map λc=>D.tup [.int c.1,.int c.2]):=by
 show some _=some _
 congr 1
 unfold cL
 rw [Og,Og,List.zipWith_map,List.zipWith_self]
 rfl
theorem xO (b) (L:List aL):(IW (L.map (fY b))).pairs=some (L.map (rA b)):=by
 rw [xN,Og]; rfl
theorem Ib (b) (L:List aL):D.nZ (L.map (rA b)):=dG λx _=>n5 (by unfold D.nZ; exact ⟨je,by unfold D.nZ; exact ⟨je,by unfold D.nZ; trivial⟩⟩)
structure Way (n:Int) (As:List (List aL)) (L:List aL):Prop where
 m:mp L=(n:MP) * pC As
 l:L.length<=cE As
 e:Ex (As.map lR).sum L
 b:Bn (2000+2020 * As.length) L
theorem El {n:Int} (h:n.natAbs<2 ^ 2000):Way n [] (cT n) where
 m:=by rw [sU]; show _=_ * (1:MP); grind
 l:=Ny _
 e:=λt ht=>by
  have:t=([],n):=by simpa [cT] using ht
  subst this
  exact ⟨N1 _,λx hx=>by cases hx⟩
 b:=λt ht=>by
  have:t=([],n):=by simpa [cT] using ht
  subst this
  exact h
theorem tM:dX (cT 1) where
 l:=by show (1:Nat)<=_; lia
 e:=λt ht=>by
  have:t=([],1):=by simpa [cT] using ht
  subst this
  exact ⟨N1 _,λx hx=>by cases hx⟩
 b:=λt ht=>by
  have:t=([],1):=by simpa [cT] using ht
  subst this
  exact Nat.one_lt_two_pow (by decide)
theorem xP (As) (A):((As++[A]).map lR).sum=(As.map lR).sum+lR A:=by
 rw [Oq,QB]; simp
theorem lK (h:Way n As L) (f:dX A):mp (aF L A)=(n:MP) * pC (As++[A])/\(aF L A).length<=cE (As++[A])/\Ex ((As++[A]).map lR).sum (aF L A)/\Bn (2000+2020 * As.length+2000) (aF L A):=by
 refine ⟨?_,?_,?_,h.b.prod f.b⟩
 ·rw [dU,h.m,Bh]; grind
 ·rw [dR,xK]; exact Px h.l (by lia)
 ·rw [xP]; exact Ex.prod (vO _) (Bl _) h.e f.ex
theorem Bq (h:Way n As L) (f:dX A) (hl:cE (As++[A])<=400000):Way n (As++[A]) (aP (aF L A)):=by
 obtain ⟨h1,h2,h3,h4⟩:=lK h f
 refine ⟨by rw [HG,h1],NI (eE _) h2,h3.sum,(h4.sum (Pg (NI h2 hl) (by decide))).mono ?_⟩
 rw [N5,O7]; lia
theorem Br {As Bs:List (List aL)} (h:As.Perm Bs):(As.map lR).sum=(Bs.map lR).sum:=by
 induction h with
 | nil=>rfl
 | cons x _ ih=>rw [NF,Qd,NF,Qd,ih]
 | swap x y l=>simp only [NF,Qd]; lia
 | trans _ _ a b=>rw [a,b]
theorem Bt (As:List (List aL)) (i):((As.take i).map lR).sum<=(As.map lR).sum:=by
 have e:(As.map lR).sum=((As.take i).map lR).sum+((As.drop i).map lR).sum:=by rw [<- QB,<- Oq,Pd]
 have:=vO (As.drop i)
 lia
noncomputable def tN:Ln:=λkvs ds Z=>∃ (ts:List aL) (p:Part) (W:Nat),W<=10/\gn p/\pD p<2 ^ W/\ts.length+cE p.2<=400000/\(∀ t∈ts,Bd (2 ^ W) t.1)/\kvs=cL ((aP ts).map (fY (2 ^ W)))/\ds=[gm p,.int (W:Nat)] /\
 Z=λkvs'=>∃ X,mp X=mp (gB p.1 p.2)/\X.length<=cE p.2/\(∀ t∈X,Bd (2 ^ W) t.1)/\kvs'=cL ((aP (ts++X)).map (fY (2 ^ W)))
section
local macro_rules | `(tactic| walk_at "evX")=> `(tactic| first | ((with_reducible show cW _ (Expr.Dict _ _ _) _ _); with_reducible refine nX ?_))
local macro_rules | `(tactic| walk_at "evXC")=> `(tactic| first
 | ((with_reducible show cW _ (Oi (NS "sorted" _) _ _ _) _ _); with_reducible refine xx (Txt.sorted (by assumption)) (Txt.len (by assumption)) ?_)
 | ((with_reducible show cW _ (Oi (NS "list" _) [Oi _ _ _ _] _ _) _ _); refine kN 6 (by walk_at "at") rfl (by walk_at "sset") (qY (Txt.list (by assumption)) ?_)))
local macro_rules | `(tactic| walk_at "evXp")=> `(tactic| with_reducible refine oJ (F:=Bc) (by assumption) (by decide) (by walk_at "at") (by walk_at "at") (by walk_at "own") ?_)
theorem Bu (Fu:dh K "add_part" "add_part" (top 16) f fd) (T:Txt K mg) (h1:cu P w K mg base 2 "packed" nE) (h2:Ae P w K mg base 1 "add_products" Bc):aY P w K mg base (cP P w) 3 f fd ["whole","part","width"] (Hj K tN):=by
 refine Kf Fu rj (by rintro kvs ds Z ⟨ts,p,W,_,_,_,_,_,_,rfl,_⟩; rfl) λc hq q kvs ds Z hF=>?_
 obtain ⟨ts,p,W,hW,hp,hsz,hl,hb,rfl,rfl,rfl⟩:=hF
 show aG c _ [.aK q (cL ((aP ts).map (fY (2 ^ W)))),.va (.tup (.int p.1::p.2.map ah)),.va (.int (W:Nat)),.un,.un,.un,.un] _ _
 conv in (aj _)=>whnf
 walk_at "ev"
 refine e_x (eF hq (N':=["some","width"]) (ρ0:=λ_=>[.un,.va (.int (W:Nat))]) (λt=>.un (.fr (by walk_at "at") (by walk_at "at") (by decide) rfl .nil)) (cX ?_))
 walk_at "ev"
 ·rw [iY,ND]; exact vF (by have:=hp.m; lia)
 rw [iY]
 refine ⟨p.2.map λA=>some (Lp (2 ^ W) A),by simp,?_,aU ?_⟩
 ·intro c2 hc2 t j d o hd ho
  simp only [NO,NQ] at hd ho
  obtain ⟨A,hA,rfl⟩:=hd
  obtain ⟨A',hA',rfl⟩:=ho
  rw [hA] at hA'; cases hA'
  have hm:=O1 hA
  have hf:=hp.f A hm
  refine dM (by walk_at "at") (uu (by walk_at "sset") ⟨.un (.same .nil),?_⟩)
  simp only [lQ]
  refine ⟨λ_=>?_,λh=>by cases h⟩
  show aI c2 _ [.va (.lst (A.map aB)),_] _
  refine aV (F:=nE) h1 (by decide) ?_
  walk_at "ev"
  have hx:lR A<2 ^ W:=by
   refine RL ?_ hsz
   obtain ⟨l,r,e⟩:=List.append_of_mem hm
   unfold pD
   rw [e,Oq,NF,QB,Qd]
   have:=vO l
   have:=vO r
   lia
  exact ak (tH hW hf.l (hf.ex.bd hx)) (aU rfl)
 rw [gi]
 refine ⟨_,rfl,λx hx=>by obtain ⟨A,_,rfl⟩:=Of.mp hx; exact ⟨_,rfl⟩,λds' hp'=>?_⟩
 obtain ⟨As,hpm,rfl⟩:=Bp hp'
 have xX:∀ A∈As,dX A:=λA hA=>hp.f A (hpm.mem_iff.mp hA)
 have hpl:=xJ hpm
 have hps:=Br hpm
 have hlen:=hpm.length_eq
 refine uu (by walk_at "sset") ?_
 with_reducible refine kL 3 (by walk_at "at") rfl (by walk_at "sset") ?_
 walk_at "ev"
 refine mQ (Ej _ _) ?_
 walk_at "ev"
 with_reducible refine EY 4 (by walk_at "at") rfl (by walk_at "sset") ?_
 rw [<- Fi (2 ^ W) p.1]
 with_reducible refine di hq (cX ?_)
 walk_at "ev"
 rw [Bo]
 have hcap:∀ i,cE (As.take i)<=400000:=λi=>NI (xM As i) (by lia)
 have hm8:As.length<=8:=by rw [hlen]; exact hp.m
 have Lu:∀ (i:Nat) (L A:List aL),As[i]?=some A->Way p.1 (As.take i) L->dX A/\As.take (i+1)=As.take i++[A]/\mp (aF L A)=(p.1:MP) * pC (As.take (i+1))/\(aF L A).length<=cE (As.take (i+1))/\(∀ l∈L,∀ r∈A,Bd (2 ^ W) (cM l.1 r.1)/\EV.MulOk l.2 r.2)/\L.length<=400000:=λi L A hA hw=>by
  obtain ⟨hi,rfl⟩:=NJ.mp hA
  have hf:=xX As[i] (Om hi)
  have et:As.take (i+1)=As.take i++[As[i]]:=OY hi
  obtain ⟨q1,q2,q3,q4⟩:=lK hw hf
  rw [<- et] at q1 q2 q3
  refine ⟨hf,et,q1,q2,λl hl r hr=>⟨?_,?_⟩,NI hw.l (hcap i)⟩
  ·have hm:gF l r∈aF L As[i]:=Tw.mpr ⟨l,hl,Of.mpr ⟨r,hr,rfl⟩⟩
   have hx:=Bt As (i+1)
   exact q3.bd (by unfold pD at hsz; lia) _ hm
  ·refine tL (hw.b l hl) (hf.b r hr) ?_
   rw [Ow]; lia
 refine ⟨λi ρ'=>∃ (L:List aL) (s5 s6:Sl),Way p.1 (As.take i) L/\ρ'=[.aK q (cL ((aP ts).map (fY (2 ^ W)))),.va (.tup (.int p.1::p.2.map ah)),.va (.int (W:Nat)),.va (.lst (As.map (Lp (2 ^ W)))),.va (.lst (L.map (rA (2 ^ W)))),s5,s6],⟨_,_,_,El hp.n,rfl⟩,?_,?_⟩
 ·rintro c' rN x8 x9 i d ρ' hd ⟨L,s5,s6,hw,rfl⟩
  rw [<- List.map_dropLast] at hd
  simp only [NO,NQ] at hd
  obtain ⟨A,hA,rfl⟩:=hd
  rw [List.getElem?_dropLast] at hA
  replace hA:As[i]?=some A:=by
   split at hA
   ·exact hA
   ·cases hA
  obtain ⟨hf,et,q1,q2,q3,q4⟩:=Lu i L A hA hw
  have q5:=hcap (i+1)
  have q6:=Bq hw hf (by rw [<- et]; exact q5)
  rw [<- et] at q6
  show pq c' _ (.lst (A.map (rA (2 ^ W)))) _ _
  walk_at "ev"
  refine ⟨_,⟨[],L,A,W,hW,by rw [dR] at q2; show 0+_<=_; lia,q4,hf.l,(by intro t ht; cases ht),q3,rfl,rfl,rfl⟩,?_⟩
  rintro kvs' rfl
  walk_at "ev"
  refine ⟨_,xO _ _,Ib _ _,?_⟩
  repeat ((fail_if_success (with_reducible show aG _ [] _ _ _)); walk_at "ev1")
  with_reducible refine kL 4 (by walk_at "at") rfl (by walk_at "sset") ?_
  walk_at "ev"
  exact ⟨_,_,_,q6,rfl⟩
 ·rintro ρ' ⟨L,s5,s6,hw,rfl⟩
  rw [List.length_dropLast,ND] at hw
  walk_at "ev"
  ·have hne:As≠[]:=by rintro rfl; simp at *
   obtain ⟨i0,A,e0⟩:∃ i0 A,As=i0++[A]:=⟨As.dropLast,As.getLast hne,(List.dropLast_concat_getLast hne).symm⟩
   have ei:As.length - 1=i0.length:=by rw [e0]; simp
   have hA:As[As.length - 1]?=some A:=by rw [ei,e0]; simp
   have etl:As.take (As.length - 1+1)=As:=P1 (by lia)
   obtain ⟨hf,et,q1,q2,q3,q4⟩:=Lu _ L A hA hw
   rw [etl] at q1 q2
   refine p5 (show jU (As.map (Lp (2 ^ W))) (-1)=some (Lp (2 ^ W) A) by rw [e0,Oq]; exact Ek _ _) ?_
   walk_at "ev"
   refine ⟨_,⟨ts,L,A,W,hW,by rw [dR] at q2; lia,q4,hf.l,hb,q3,rfl,rfl,rfl⟩,?_⟩
   rintro kvs' rfl
   walk_at "ev"
   refine ⟨_,_,⟨aF L A,by rw [q1,ie,Bg hpm],by rw [<- hpl]; exact q2,λt ht=>?_,rfl⟩,rfl⟩
   obtain ⟨l,hl,r,hr,rfl⟩:=fZ ht
   exact (q3 l hl r hr).1
  ·have e0:As=[]:=by
    cases As with
    | nil=>rfl
    | cons A As=>simp at *
   have hw0:Way p.1 [] L:=by rw [e0] at hw; exact hw
   have p0:p.2=[]:=List.length_eq_zero_iff.mp (by rw [<- hlen,e0]; rfl)
   obtain ⟨q1,q2,q3,q4⟩:=lK hw0 tM
   have hL:L.length<=1:=hw0.l
   have q5:(aF L (cT 1)).length<=1:=q2
   have h0W:(0:Int)<2 ^ W:=two_pos W
   have hx:(([]++[cT 1]:List (List aL)).map lR).sum<2 ^ W:=h0W
   have hp1:cE p.2=1:=by rw [p0]; rfl
   rw [<- Fi (2 ^ W) 1]
   refine ⟨_,⟨ts,L,cT 1,W,hW,by rw [dR] at q5; lia,by lia,tM.l,hb,λl hl r hr=>⟨?_,?_⟩,rfl,rfl,rfl⟩,?_⟩
   ·exact q3.bd hx _ (Tw.mpr ⟨l,hl,Of.mpr ⟨r,hr,rfl⟩⟩)
   ·exact tL (hw0.b l hl) (tM.b r hr) (by show 2000+2020 * 0+2000<=_; lia)
   rintro kvs' rfl
   walk_at "ev"
   refine ⟨_,_,⟨aF L (cT 1),?_,by rw [hp1]; exact q5,q3.bd hx,rfl⟩,rfl⟩
   rw [q1,ie,p0]
   show _ * (mp (cT 1) * 1)=_ * (1:MP)
   rw [sU]
   show _ * ((1:MP) * 1)=_ * (1:MP)
   grind
end
end
section
variable {K:Nu}
theorem rC (ps) (p:Part):mp (ic (ps++[p]))=mp (ic ps)+mp (gB p.1 p.2):=by
 unfold ic
 rw [List.flatMap_append,f9]
 congr 1
 rw [QU,List.flatMap_nil,OD]
theorem rD (l:List Nat) (i):(l.take i).sum<=l.sum:=by
 rw [<- Pd i l,QB,Pd]; lia
noncomputable def jS:Fn:=λds r=>∃ ps:List Part,ay ps/\ds=[.lst (ps.map gm)]/\r=.ok (.ow ((aO (ic ps)).map aB))
theorem cA (h:ay ps):jS [.lst (ps.map gm)] (.ok (.ow ((aO (ic ps)).map aB))):=⟨ps,h,rfl,rfl⟩
section
local macro_rules | `(tactic| walk_at "evX")=> `(tactic| first | ((with_reducible show cW _ (Expr.Dict _ _ _) _ _); with_reducible refine nX ?_))
local macro_rules | `(tactic| walk_at "evCa")=> `(tactic| first | with_reducible refine aV (F:=Ei) (by assumption) (by decide) ?_)
local macro_rules | `(tactic| walk_at "evXp")=> `(tactic| with_reducible refine oJ (F:=tN) (by assumption) (by decide) (by walk_at "at") (by walk_at "at") (by walk_at "own") ?_)
local macro_rules | `(tactic| walk_at "evXC")=> `(tactic| first | ((with_reducible show cW _ (Oi (NS "unpacked" _) _ _ _) _ _); refine kN 2 (by walk_at "at") rfl (by walk_at "sset") (x_call (F:=xH) (by assumption) (by decide) ?_)))
theorem Ic (Fu:dh K "poly_total" "poly_total" (top 17) f fd) (T:Txt K mg) (h1:cu P w K mg base 2 "width_of" Ei) (h2:Ae P w K mg base 3 "add_part" tN) (h3:cu P w K mg base 3 "unpacked" xH):aY P w K mg base (cP P w) 4 f fd ["parts"] (cZ K jS):=by
 refine bK Fu l6 (by rintro ds r ⟨ps,_,rfl,_⟩; rfl) (by rintro ds r ⟨ps,_,_,rfl⟩; exact ⟨_,rfl⟩) λc hq ds sl hF=>?_
 obtain ⟨ps,h,rfl,e⟩:=hF
 injection e with e
 subst e
 show aG c _ [.va (.lst (ps.map gm)),.un,.un,.un] _ _
 conv in (aj _)=>whnf
 obtain ⟨hW,hsz⟩:=Eh h.p
 walk_at "ev"
 refine ak (Kx h.p) ?_
 walk_at "ev"
 generalize Bm ps=W at hW hsz |-
 with_reducible refine di hq (cX ?_)
 walk_at "ev"
 refine ⟨λi ρ'=>∃ (ts:List aL) (s3:Sl),mp ts=mp (ic (ps.take i))/\ts.length<=((ps.take i).map λp=>cE p.2).sum/\(∀ t∈ts,Bd (2 ^ W) t.1)/\ρ'=[.va (.lst (ps.map gm)),.va (.int (W:Nat)),.oK (cL ((aP ts).map (fY (2 ^ W)))),s3],⟨[],_,rfl,Ny _,(by intro t ht; cases ht),rfl⟩,?_,?_⟩
 ·rintro c' rN x8 x9 i d ρ' hd ⟨ts,s3,hm,hl,hb,rfl⟩
  simp only [NO,NQ] at hd
  obtain ⟨p,hpx,rfl⟩:=hd
  obtain ⟨hi,rfl⟩:=NJ.mp hpx
  have et:ps.take (i+1)=ps.take i++[ps[i]]:=OY hi
  have hmem:ps[i]∈ps:=Om hi
  have hcap:((ps.take (i+1)).map λp=>cE p.2).sum<=400000:=by rw [R8]; exact NI (rD _ _) h.s
  have ec:((ps.take (i+1)).map λp=>cE p.2).sum=((ps.take i).map λp=>cE p.2).sum+cE ps[i].2:=by rw [et,Oq,QB]; simp
  rw [ec] at hcap
  walk_at "ev"
  refine ⟨_,⟨ts,ps[i],W,hW,h.p _ hmem,hsz _ hmem,by lia,hb,rfl,rfl,rfl⟩,?_⟩
  rintro kvs' ⟨X,x1,x2,x3,rfl⟩
  walk_at "ev"
  refine ⟨ts++X,.va (gm ps[i]),?_,?_,λt ht=>(N3.mp ht).elim (hb t) (x3 t),rfl⟩
  ·rw [f9,hm,x1,et,rC]
  ·rw [ec,N5]; lia
 ·rintro ρ' ⟨ts,s3,hm,hl,hb,rfl⟩
  rw [ND,OM] at hm hl
  walk_at "ev"
  refine ak (Fg (ts:=ts) hW (by have:=h.s; lia) hb) ⟨dG λx _=>jw x,?_⟩
  show Sl.ow _=Sl.ow _
  rw [dW hm]
end
end
section
variable {K:Nu}
theorem Bv {lo hi:Option Int} (h:x∈EV.cutD xs lo hi):x∈xs:=List.mem_of_mem_drop (Qs h)
theorem Bw (xs:List α):(EV.cutD xs none (some 4)).length<=4:=by
 unfold EV.cutD
 have:HT.bZ xs.length xs.length (some 4)<=4:=by
  simp only [HT.bZ,show ¬ ((4:Int)<0) by decide,if_false]
  exact Nat.min_le_left _ _
 rw [Ow]; lia
noncomputable def ig (cs:List Int) (o:Int) (k:Int):List aL:=EV.cutD ((stp cs (some (3 * o+k)) none (some 9)).map xZ) none (some 4)++[([],k+1)]
theorem lM (cs) (o k):(ig cs o k).length<=5:=by
 unfold ig
 rw [N5]
 have:=Bw ((stp cs (some (3 * o+k)) none (some 9)).map xZ)
 simp only [O7]; lia
theorem j9 (cs) (o k) (hk:k.natAbs<5):∀ t∈ig cs o k,MY t:=by
 intro t ht
 unfold ig at ht
 rcases N3.mp ht with h | h
 ·obtain ⟨n,_,rfl⟩:=Of.mp (Bv h)
  exact HN n
 ·rw [NN] at h
  subst h
  exact ⟨N1 _,(by intro x hx; cases hx),by show (k+1).natAbs<2 ^ 31; lia⟩
noncomputable def Nm (cs:List Int) (o:Int):List (List aL):=(N6 3).map λ(k:Nat)=>aO (ig cs o k)
noncomputable def Em:Fn:=λds r=>∃ (cs:List Int) (o:Int),o.natAbs<10/\cs.length<=1000/\ds=[.lst (cs.map .int),.int o]/\r=.ok (.va (.tup ((Nm cs o).map ah)))
theorem Ky {i:Nat} (h:i<3):jU [D.int 1,D.int 2,D.int 3] (i:Int)=some (D.int ((i:Int)+1)):=by
 obtain rfl | rfl | rfl:i=0\/i=1\/i=2:=by lia
 all_goals rfl
section
local macro_rules | `(tactic| walk_at "side")=> `(tactic| exact jZ _)
local macro_rules | `(tactic| walk_at "evCa")=> `(tactic| first | with_reducible refine aV (F:=DV) (by assumption) (by decide) ?_)
local macro_rules | `(tactic| walk_at "evR")=> `(tactic| first | with_reducible refine ak (Ku _) ?_)
theorem Bx (Fu:dh K "_law_three" "_law_three" (top 43) f fd) (T:Txt K mg) (h1:cu P w K mg base 2 "_law_small_term" DV) (h2:cu P w K mg base 2 "_law_sum" rm):aY P w K mg base (cP P w) 3 f fd ["_law_cells","_law_offset"] (cZ K Em):=by
 refine bK Fu tD (by rintro ds r ⟨cs,o,_,_,rfl,_⟩; rfl) (by rintro ds r ⟨cs,o,_,_,_,rfl⟩; exact ⟨_,rfl⟩) λc hq ds sl hF=>?_
 obtain ⟨cs,o,ho,hl,rfl,e⟩:=hF
 injection e with e
 subst e
 show aG c _ [.va (.lst (cs.map .int)),.va (.int o),.un,.un,.un,.un] _ _
 conv in (aj _)=>whnf
 walk_at "ev"
 with_reducible refine di hq (eT (Txt.range (by assumption)) ?_)
 walk_at "ev"
 ·exact ⟨by decide,by decide⟩
 refine ⟨λi ρ'=>∃ s3 s4 s5:Sl,ρ'=[.va (.lst (cs.map .int)),.va (.int o),.ow (((N6 i).map λ(k:Nat)=>aO (ig cs o k)).map ah),s3,s4,s5],⟨_,_,_,rfl⟩,?_,?_⟩
 ·rintro c' rN x8 x9 i d ρ' hd ⟨s3,s4,s5,rfl⟩
  obtain ⟨hi,rfl⟩:=gw hd
  have hi':i<3:=hi
  walk_at "ev"
  refine di (by rw [rN]; exact hq) (cX (e_x (Ko ?_)))
  walk_at "ev"
  ·exact qg (by decide)
  refine ⟨_,9,rfl,rfl,by decide,?_⟩
  rw [DI]
  walk_at "ev"
  refine ⟨λj ρ''=>∃ s5:Sl,ρ''=[.va (.lst (cs.map .int)),.va (.int o),.ow (((N6 i).map λ(k:Nat)=>aO (ig cs o k)).map ah),.va (.int (i:Int)),.ow (((((stp cs (some (3 * o+i)) none (some 9)).take j).map xZ).map aB)),s5],⟨_,rfl⟩,?_,?_⟩
  ·rintro c'' hdX hdR hdM j d ρ'' hd ⟨s5,rfl⟩
   simp only [NO,NQ] at hd
   obtain ⟨n,hn,rfl⟩:=hd
   obtain ⟨hj,rfl⟩:=NJ.mp hn
   have hs:(stp cs (some (3 * o+(i:Int))) none (some 9)).length<=cs.length:=vB (by decide)
   walk_at "ev"
   ·exact gh (by rw [ND,ND,Ow]; lia)
   ·refine ⟨.va (.int (stp cs (some (3 * o+(i:Int))) none (some 9))[j]),?_⟩
    show [_,_,_,_,Sl.ow _,_]=_
    rw [OY hj,Oq,Oq]
    rfl
  ·rintro ρ'' ⟨s5,rfl⟩
   rw [ND,OM]
   walk_at "ev"
   refine e_x (EX 4 (by walk_at "at") rfl (by walk_at "sset") (x_call (F:=rm) (by assumption) (by decide) ?_))
   walk_at "ev"
   refine p5 (Ky hi') ?_
   walk_at "ev"
   ·have:=Bw (((stp cs (some (3 * o+(i:Int))) none (some 9)).map xZ).map aB)
    exact vF (by simp only [O7]; lia)
   have eL:ig cs o (i:Int)=EV.cutD ((stp cs (some (3 * o+(i:Int))) none (some 9)).map xZ) none (some 4)++[([],(i:Int)+1)]:=rfl
   have eM:(ig cs o (i:Int)).map aB=EV.cutD (((stp cs (some (3 * o+(i:Int))) none (some 9)).map xZ).map aB) none (some 4)++[.tup [.tup [],.int ((i:Int)+1)]]:=by rw [eL]; simp only [iI,Oq]; rfl
   refine ⟨_,⟨ig cs o i,NI (lM ..) (by decide),λt ht=>NI (j9 cs o i (by lia) t ht).1 (by decide),by rw [eM],rfl⟩,?_⟩
   refine ⟨dG λx _=>jw x,aU ?_⟩
   walk_at "ev"
   ·exact gh (by rw [ND,ND,List.length_range]; lia)
   ·show ∃ s3 s4 s5:Sl,[_,_,Sl.ow _,_,_,_]=[_,_,Sl.ow (((N6 (i+1)).map λ(k:Nat)=>aO (ig cs o k)).map ah),s3,s4,s5]
    simp only [List.range_succ,Oq,NF,Pb]
    exact ⟨_,_,_,rfl⟩
 ·rintro ρ' ⟨s3,s4,s5,rfl⟩
  rw [iX]
  walk_at "evSs"
  refine EY 2 (by walk_at "at") rfl (by walk_at "sset") ?_
  walk_at "ev"
  rfl
end
end
section
variable {K:Nu}
noncomputable def MB (ps:List Part):List D:=(aO (ic ps)).map aB
noncomputable def tt (ps:List Part):List aL:=aO (ic ps)
noncomputable abbrev T3:=List aL×List aL×List aL
noncomputable def D3 (s:T3):D:=.tup [ah s.1,ah s.2.1,ah s.2.2]
noncomputable def A1 {α:Type} (d:α->D) (a:α):List D:=[d a]
noncomputable def P2 (s:List aL×List aL):D:=.tup [ah s.1,ah s.2]
noncomputable def A2 {α β:Type} (d:α->D) (e:β->D) (a:α×β):List D:=[d a.1,e a.2]
noncomputable def Fr {α:Type} (dA:α->List D) (Ok:α->Prop) (R:α->Sl) (P:Program) (w:World) (K:Nu) (mg:Str->Option Value) (base:Heap):Fn:=λds r=>∃ (ad:Addr) (a:α),Ay P w K mg base 4 ad jS/\Ok a/\ds=.adr ad::dA a/\r=.ok (R a)
theorem xQ {ad:Addr} (hg:Ay P w K mg base 4 ad jS) (h:Ok a):Fr dA Ok R P w K mg base (.adr ad::dA a) (.ok (R a)):=⟨ad,a,hg,h,rfl,rfl⟩
noncomputable def Fw {α:Type} (dA:α->List D) (Ok:α->Prop) (R:α->Sl):Fn:=λds r=>∃ a:α,Ok a/\ds=dA a/\r=.ok (R a)
theorem Nn (h:Ok a):Fw dA Ok R (dA a) (.ok (R a)):=⟨a,h,rfl,rfl⟩
theorem fE (h:∀ a,(dA a).length=n):∀ ds r,Fr dA Ok R P w K mg base ds r->ds.length=n+1:=by
 rintro ds r ⟨ad,a,_,_,rfl,_⟩
 rw [Oe,h]
theorem iZ:∀ ds r,Fr dA Ok R P w K mg base ds r->∃ sl,r=.ok sl:=by
 rintro ds r ⟨ad,a,_,_,_,rfl⟩
 exact ⟨_,rfl⟩
theorem gq (h:∀ a,(dA a).length=n):∀ ds r,Fw dA Ok R ds r->ds.length=n:=by
 rintro ds r ⟨a,_,rfl,_⟩
 exact h a
theorem jI:∀ ds r,Fw dA Ok R ds r->∃ sl,r=.ok sl:=by
 rintro ds r ⟨a,_,_,rfl⟩
 exact ⟨_,rfl⟩
noncomputable def eY (X:List (List Part)):Sl:=.va (.tup (X.map λps=>ah (tt ps)))
noncomputable def MC (ps:List Part):Sl:=.ow (MB ps)
local macro_rules | `(tactic| walk_at "tv")=> `(tactic| (refine bz (e_x (vq (by assumption) (by decide) (by walk_at "at") (by walk_at "at") ?_)); walk_at "ev"))
noncomputable def By:T3×T3->List (List Part):=λ⟨⟨a,b,c⟩,⟨x,y,z⟩⟩=>[[(1,[b,z]),(-1,[c,y])],[(1,[c,x]),(-1,[a,z])],[(1,[a,y]),(-1,[b,x])]]
noncomputable abbrev Kz:=Fr (A2 D3 D3) (λu=>∀ ps∈By u,ay ps) (λu=>eY (By u))
theorem KA (Fu:dh K "crossed" "crossed" (top 21) ff fd):aY P w K mg base (cP P w) 5 ff fd ["total","one","other"] (cZ K (Kz P w K mg base)):=by
 refine bK Fu sZ (fE λ_=>rfl) iZ λk hq ds sl hF=>?_
 obtain ⟨fg,⟨⟨a,b,c⟩,⟨x,y,z⟩⟩,hg,hh,rfl,ee⟩:=hF
 injection ee with ee
 subst ee
 have h0:ay [(1,[b,z]),(-1,[c,y])]:=hh _ (by simp [By])
 have h1:ay [(1,[c,x]),(-1,[a,z])]:=hh _ (by simp [By])
 have h2:ay [(1,[a,y]),(-1,[b,x])]:=hh _ (by simp [By])
 show aG k _ [.va (.adr fg),.va (.tup [ah a,ah b,ah c]),.va (.tup [ah x,ah y,ah z])] _ _
 conv in (aj _)=>whnf
 walk_at "evSs"
 refine cj (uh (gI ?_))
 walk_at "tv"
 refine ak (cA h0) (aU ?_)
 walk_at "tv"
 refine ak (cA h1) (aU ?_)
 walk_at "tv"
 refine ak (cA h2) (aU ?_)
 walk_at "ev"
 rfl
noncomputable def x6:T3×T3->List (List Part):=λ⟨⟨a,b,c⟩,⟨x,y,z⟩⟩=>[[(1,[x,c]),(-1,[a,z])],[(1,[y,c]),(-1,[b,z])]]
noncomputable abbrev MD:=Fr (A2 D3 D3) (λu=>∀ ps∈x6 u,ay ps) (λu=>eY (x6 u))
theorem KC (Fu:dh K "way_between" "way_between" (top 22) ff fd):aY P w K mg base (cP P w) 5 ff fd ["total","i","j"] (cZ K (MD P w K mg base)):=by
 refine bK Fu lC (fE λ_=>rfl) iZ λk hq ds sl hF=>?_
 obtain ⟨fg,⟨⟨a,b,c⟩,⟨x,y,z⟩⟩,hg,hh,rfl,ee⟩:=hF
 injection ee with ee
 subst ee
 have h0:ay [(1,[x,c]),(-1,[a,z])]:=hh _ (by simp [x6])
 have h1:ay [(1,[y,c]),(-1,[b,z])]:=hh _ (by simp [x6])
 show aG k _ [.va (.adr fg),.va (.tup [ah a,ah b,ah c]),.va (.tup [ah x,ah y,ah z])] _ _
 conv in (aj _)=>whnf
 walk_at "evSs"
 refine cj (uh (gI ?_))
 walk_at "tv"
 refine ak (cA h0) (aU ?_)
 walk_at "tv"
 refine ak (cA h1) (aU ?_)
 walk_at "ev"
 rfl
noncomputable def BA:T3×T3->List (List Part):=λ⟨⟨x,y,z⟩,⟨p,q,r⟩⟩=>[[(1,[p,z])],[(1,[q,z])],[(-1,[p,x]),(-1,[q,y])]]
noncomputable abbrev ME:=Fr (A2 D3 D3) (λu=>∀ ps∈BA u,ay ps) (λu=>eY (BA u))
theorem KD (Fu:dh K "side_rule" "side_rule" (top 26) ff fd):aY P w K mg base (cP P w) 5 ff fd ["total","i","l"] (cZ K (ME P w K mg base)):=by
 refine bK Fu oX (fE λ_=>rfl) iZ λk hq ds sl hF=>?_
 obtain ⟨fg,⟨⟨x,y,z⟩,⟨p,q,r⟩⟩,hg,hh,rfl,ee⟩:=hF
 injection ee with ee
 subst ee
 have h0:ay [(1,[p,z])]:=hh _ (by simp [BA])
 have h1:ay [(1,[q,z])]:=hh _ (by simp [BA])
 have h2:ay [(-1,[p,x]),(-1,[q,y])]:=hh _ (by simp [BA])
 show aG k _ [.va (.adr fg),.va (.tup [ah x,ah y,ah z]),.va (.tup [ah p,ah q,ah r])] _ _
 conv in (aj _)=>whnf
 walk_at "evSs"
 refine cj (uh (gI ?_))
 walk_at "tv"
 refine ak (cA h0) (aU ?_)
 walk_at "tv"
 refine ak (cA h1) (aU ?_)
 walk_at "tv"
 refine ak (cA h2) (aU ?_)
 walk_at "ev"
 rfl
noncomputable def BB:T3×T3->List (List Part):=λ⟨⟨x,y,z⟩,⟨p,q,r⟩⟩=>[[(-1,[q,z])],[(1,[p,z])],[(1,[q,x]),(-1,[p,y])]]
noncomputable abbrev MF:=Fr (A2 D3 D3) (λu=>∀ ps∈BB u,ay ps) (λu=>eY (BB u))
theorem KG (Fu:dh K "square_rule" "square_rule" (top 27) ff fd):aY P w K mg base (cP P w) 5 ff fd ["total","i","l"] (cZ K (MF P w K mg base)):=by
 refine bK Fu lD (fE λ_=>rfl) iZ λk hq ds sl hF=>?_
 obtain ⟨fg,⟨⟨x,y,z⟩,⟨p,q,r⟩⟩,hg,hh,rfl,ee⟩:=hF
 injection ee with ee
 subst ee
 have h0:ay [(-1,[q,z])]:=hh _ (by simp [BB])
 have h1:ay [(1,[p,z])]:=hh _ (by simp [BB])
 have h2:ay [(1,[q,x]),(-1,[p,y])]:=hh _ (by simp [BB])
 show aG k _ [.va (.adr fg),.va (.tup [ah x,ah y,ah z]),.va (.tup [ah p,ah q,ah r])] _ _
 conv in (aj _)=>whnf
 walk_at "evSs"
 refine cj (uh (gI ?_))
 walk_at "tv"
 refine ak (cA h0) (aU ?_)
 walk_at "tv"
 refine ak (cA h1) (aU ?_)
 walk_at "tv"
 refine ak (cA h2) (aU ?_)
 walk_at "ev"
 rfl
noncomputable def dY:T3->List Part:=λ⟨p,q,r⟩=>[(1,[p,p]),(1,[q,q])]
noncomputable abbrev KH:=Fr (A1 D3) (λu=>ay (dY u)) (λu=>MC (dY u))
theorem KI (Fu:dh K "square_of_way" "square_of_way" (top 23) ff fd):aY P w K mg base (cP P w) 5 ff fd ["total","l"] (cZ K (KH P w K mg base)):=by
 refine bK Fu jr (fE λ_=>rfl) iZ λk hq ds sl hF=>?_
 obtain ⟨fg,⟨p,q,r⟩,hg,hh,rfl,ee⟩:=hF
 injection ee with ee
 subst ee
 show aG k _ [.va (.adr fg),.va (.tup [ah p,ah q,ah r])] _ _
 conv in (aj _)=>whnf
 walk_at "evSs"
 refine cj (vq hg (by decide) (by walk_at "at") (by walk_at "at") ?_)
 walk_at "ev"
 exact ak (cA hh) rfl
section
local macro_rules | `(tactic| walk_at "evCa")=> `(tactic| first | with_reducible refine aV (F:=KH _ _ _ _ _) (by assumption) (by decide) ?_)
local macro_rules | `(tactic| walk_at "evXC")=> `(tactic| first | with_reducible refine x_call (x:=Nr "square_of_way") (F:=KH _ _ _ _ _) (by assumption) (by decide) ?_)
noncomputable def Lq (x y z p q r S:List aL):List (List Part):=[[(1,[q,q,x]),(-1,[p,q,y]),(-1,[p,r,z])],[(1,[p,p,y]),(-1,[p,q,x]),(-1,[q,r,z])],[(1,[S,z])]]
noncomputable def pF:T3×T3->List (List Part):=λu=>Lq u.1.1 u.1.2.1 u.1.2.2 u.2.1 u.2.2.1 u.2.2.2 (tt (dY u.2))
noncomputable abbrev KJ:=Fr (A2 D3 D3) (λu=>ay (dY u.2)/\∀ ps∈pF u,ay ps) (λu=>eY (pF u))
theorem KL (Fu:dh K "foot_rule" "foot_rule" (top 28) ff fd) (h1:cu P w K mg base 5 "square_of_way" (KH P w K mg base)):aY P w K mg base (cP P w) 6 ff fd ["total","i","l"] (cZ K (KJ P w K mg base)):=by
 refine bK Fu oY (fE λ_=>rfl) iZ λk hq ds sl hF=>?_
 obtain ⟨fg,⟨⟨x,y,z⟩,⟨p,q,r⟩⟩,hg,⟨hs,hh⟩,rfl,ee⟩:=hF
 injection ee with ee
 subst ee
 have q1:ay [(1,[q,q,x]),(-1,[p,q,y]),(-1,[p,r,z])]:=hh _ (by simp [pF,Lq])
 have q2:ay [(1,[p,p,y]),(-1,[p,q,x]),(-1,[q,r,z])]:=hh _ (by simp [pF,Lq])
 have q3:ay [(1,[tt (dY (p,q,r)),z])]:=hh _ (by simp [pF,Lq])
 show aG k _ [.va (.adr fg),.va (.tup [ah x,ah y,ah z]),.va (.tup [ah p,ah q,ah r])] _ _
 conv in (aj _)=>whnf
 walk_at "evSs"
 refine cj (uh (gI ?_))
 walk_at "tv"
 refine ak (cA q1) (aU ?_)
 walk_at "tv"
 refine ak (cA q2) (aU ?_)
 walk_at "tv"
 refine ak (xQ (a:=((p,q,r):T3)) hg hs) (aU ?_)
 walk_at "ev"
 refine ak (cA q3) (aU ?_)
 walk_at "ev"
 rfl
local macro_rules | `(tactic| walk_at "evXC")=> `(tactic| first | with_reducible refine x_call (x:=Nr "foot_rule") (F:=KJ _ _ _ _ _) (by assumption) (by decide) ?_)
noncomputable def IX (x y z F G S:List aL):List (List Part):=[[(2,[F]),(-1,[S,x])],[(2,[G]),(-1,[S,y])],[(1,[S,z])]]
noncomputable def KN (u:T3×T3):List aL:=tt [(1,[u.2.2.1,u.2.2.1,u.1.1]),(-1,[u.2.1,u.2.2.1,u.1.2.1]),(-1,[u.2.1,u.2.2.2,u.1.2.2])]
noncomputable def KO (u:T3×T3):List aL:=tt [(1,[u.2.1,u.2.1,u.1.2.1]),(-1,[u.2.1,u.2.2.1,u.1.1]),(-1,[u.2.2.1,u.2.2.2,u.1.2.2])]
noncomputable def En:T3×T3->List (List Part):=λu=>IX u.1.1 u.1.2.1 u.1.2.2 (KN u) (KO u) (tt (dY u.2))
noncomputable abbrev MG:=Fr (A2 D3 D3) (λu=>ay (dY u.2)/\(∀ ps∈pF u,ay ps)/\∀ ps∈En u,ay ps) (λu=>eY (En u))
theorem KP (Fu:dh K "mirrored_rule" "mirrored_rule" (top 29) ff fd) (h1:cu P w K mg base 5 "square_of_way" (KH P w K mg base)) (h2:cu P w K mg base 6 "foot_rule" (KJ P w K mg base)):aY P w K mg base (cP P w) 7 ff fd ["total","i","l"] (cZ K (MG P w K mg base)):=by
 refine bK Fu ju (fE λ_=>rfl) iZ λk hq ds sl hF=>?_
 obtain ⟨fg,⟨⟨x,y,z⟩,⟨p,q,r⟩⟩,hg,⟨hs,hf,hh⟩,rfl,ee⟩:=hF
 injection ee with ee
 subst ee
 show aG k _ [.va (.adr fg),.va (.tup [ah x,ah y,ah z]),.va (.tup [ah p,ah q,ah r]),.un,.un] _ _
 conv in (aj _)=>whnf
 refine aN ?_
 generalize hG:(λρ'=>aG k _ ρ' _ _)=G
 walk_at "ev"
 refine ak (xQ (dA:=A2 D3 D3) (Ok:=λu=>ay (dY u.2)/\∀ ps∈pF u,ay ps) (R:=λu=>eY (pF u)) (a:=(((x,y,z),(p,q,r)):T3×T3)) hg (show ay _/\(∀ ps∈pF ((x,y,z),(p,q,r)),ay ps) from And.intro hs hf)) ?_
 walk_at "ev"
 subst hG
 refine aN ?_
 generalize hG:(λρ'=>aG k _ ρ' _ _)=G
 walk_at "ev"
 refine ak (xQ (a:=((p,q,r):T3)) hg hs) ?_
 walk_at "ev"
 subst hG
 refine kL 4 (d0:=ah (tt (dY (p,q,r)))) (by walk_at "at") rfl (by walk_at "sset") ?_
 have hh':∀ ps∈IX x y z (KN ((x,y,z),(p,q,r))) (KO ((x,y,z),(p,q,r))) (tt (dY (p,q,r))),ay ps:=hh
 show aG k _ [.va (.adr fg),.va (.tup [ah x,ah y,ah z]),.va (.tup [ah p,ah q,ah r]),.va (.tup [ah (KN ((x,y,z),(p,q,r))),ah (KO ((x,y,z),(p,q,r))),ah (tt [(1,[tt (dY (p,q,r)),z])])]),.va (ah (tt (dY (p,q,r))))] _ { rt:=λu=>u=eY (IX x y z (KN ((x,y,z),(p,q,r))) (KO ((x,y,z),(p,q,r))) (tt (dY (p,q,r)))) }
 clear hh hf
 generalize tt (dY (p,q,r))=S at *
 generalize KN ((x,y,z),(p,q,r))=F at *
 generalize KO ((x,y,z),(p,q,r))=H at *
 have q1:ay [(2,[F]),(-1,[S,x])]:=hh' _ (by simp [IX])
 have q2:ay [(2,[H]),(-1,[S,y])]:=hh' _ (by simp [IX])
 have q3:ay [(1,[S,z])]:=hh' _ (by simp [IX])
 walk_at "evSs"
 refine cj (uh (gI ?_))
 walk_at "tv"
 refine ak (cA q1) (aU ?_)
 walk_at "tv"
 refine ak (cA q2) (aU ?_)
 walk_at "tv"
 refine ak (cA q3) (aU ?_)
 walk_at "ev"
 rfl
end
noncomputable def Lr (u:Int×Int):D:=.tup [.int u.1,.int u.2]
noncomputable def Ie (u:Int×Int):List (List Part):=[[(u.1,[])],[(u.2,[])]]
noncomputable abbrev MH:=Fr (A1 Lr) (λu=>∀ ps∈Ie u,ay ps) (λu=>eY (Ie u))
theorem KQ (Fu:dh K "told_fraction" "told_fraction" (top 19) ff fd):aY P w K mg base (cP P w) 5 ff fd ["total","f"] (cZ K (MH P w K mg base)):=by
 refine bK Fu jq (fE λ_=>rfl) iZ λk hq ds sl hF=>?_
 obtain ⟨fg,⟨n,d⟩,hg,hh,rfl,ee⟩:=hF
 injection ee with ee
 subst ee
 have h0:ay [(n,[])]:=hh _ (by simp [Ie])
 have h1:ay [(d,[])]:=hh _ (by simp [Ie])
 show aG k _ [.va (.adr fg),.va (.tup [.int n,.int d])] _ _
 conv in (aj _)=>whnf
 walk_at "evSs"
 refine cj (uh (gI ?_))
 walk_at "tv"
 refine ak (cA h0) (aU ?_)
 walk_at "tv"
 refine ak (cA h1) (aU ?_)
 walk_at "ev"
 rfl
noncomputable def IY (a b c x y z p q U V:List aL):List (List Part):=[[(1,[q,a,z]),(1,[p,U])],[(1,[q,b,z]),(1,[p,V])],[(1,[q,c,z])]]
noncomputable abbrev TP:=T3×T3×(List aL×List aL)
noncomputable def AP (u:TP):List D:=[D3 u.1,D3 u.2.1,P2 u.2.2]
noncomputable def BY (u:T3×T3) (n:Nat):List aL:=tt ((x6 u).getD n [])
noncomputable def xR (u:TP):List (List Part):=IY u.1.1 u.1.2.1 u.1.2.2 u.2.1.1 u.2.1.2.1 u.2.1.2.2 u.2.2.1 u.2.2.2 (BY (u.1,u.2.1) 0) (BY (u.1,u.2.1) 1)
noncomputable abbrev KR:=Fr AP (λu=>(∀ ps∈x6 (u.1,u.2.1),ay ps)/\∀ ps∈xR u,ay ps) (λu=>eY (xR u))
theorem KS (Fu:dh K "part_rule" "part_rule" (top 25) ff fd) (h1:cu P w K mg base 5 "way_between" (MD P w K mg base)):aY P w K mg base (cP P w) 6 ff fd ["total","i","j","f"] (cZ K (KR P w K mg base)):=by
 refine bK Fu oW (fE λ_=>rfl) iZ λk hq ds sl hF=>?_
 obtain ⟨fg,⟨⟨a,b,c⟩,⟨x,y,z⟩,⟨p,q⟩⟩,hg,⟨hs,hh⟩,rfl,ee⟩:=hF
 injection ee with ee
 subst ee
 show aG k _ [.va (.adr fg),.va (.tup [ah a,ah b,ah c]),.va (.tup [ah x,ah y,ah z]),.va (.tup [ah p,ah q]),.un] _ _
 conv in (aj _)=>whnf
 refine aN (uv (by walk_at "at") (x_call (F:=MD P w K mg base) h1 (by decide) ?_))
 generalize hG:(λρ'=>aG k _ ρ' _ _)=G
 walk_at "ev"
 refine ak (xQ (a:=(((a,b,c),(x,y,z)):T3×T3)) hg hs) ?_
 refine uu (by walk_at "sset") ?_
 subst hG
 have hh':∀ ps∈IY a b c x y z p q (BY ((a,b,c),(x,y,z)) 0) (BY ((a,b,c),(x,y,z)) 1),ay ps:=hh
 show aG k _ [.va (.adr fg),.va (.tup [ah a,ah b,ah c]),.va (.tup [ah x,ah y,ah z]),.va (.tup [ah p,ah q]),.va (.tup [ah (BY ((a,b,c),(x,y,z)) 0),ah (BY ((a,b,c),(x,y,z)) 1)])] _ { rt:=λu=>u=eY (IY a b c x y z p q (BY ((a,b,c),(x,y,z)) 0) (BY ((a,b,c),(x,y,z)) 1)) }
 clear hh hs
 generalize BY ((a,b,c),(x,y,z)) 0=U at *
 generalize BY ((a,b,c),(x,y,z)) 1=V at *
 have q1:ay [(1,[q,a,z]),(1,[p,U])]:=hh' _ (by simp [IY])
 have q2:ay [(1,[q,b,z]),(1,[p,V])]:=hh' _ (by simp [IY])
 have q3:ay [(1,[q,c,z])]:=hh' _ (by simp [IY])
 walk_at "evSs"
 refine cj (uh (gI ?_))
 walk_at "tv"
 refine ak (cA q1) (aU ?_)
 walk_at "tv"
 refine ak (cA q2) (aU ?_)
 walk_at "tv"
 refine ak (cA q3) (aU ?_)
 walk_at "ev"
 rfl
noncomputable def BZ (k:Nat):List aL:=[(NY k 0++[1],1)]
noncomputable def vP:Fn:=λds r=>∃ k:Nat,k<=10/\ds=[.int k]/\r=.ok (.va (P2 (BZ k,cT 1)))
theorem Ig {k:Nat} (h:k<=10):vP [.int k] (.ok (.va (P2 (BZ k,cT 1)))):=⟨k,h,rfl,rfl⟩
section
local macro_rules | `(tactic| walk_at "evBo")=> `(tactic| first | ((with_reducible show aI _ (Expr.BinOp _ Operator.Mult _ _) _ _); with_reducible refine Mr (E7 ?_)))
theorem vQ (k):(NY k [D.int 0]).flatten=(NY k (0:Int)).map D.int:=by
 induction k with
 | zero=>rfl
 | succ n ih=>rw [O9,P8,ih,O9]; rfl
theorem Eo (Fu:dh K "free_poly" "free_poly" (top 18) f fd) (T:Txt K mg):aY P w K mg base (cP P w) 1 f fd ["k"] (cZ K vP):=by
 refine bK Fu oV (by rintro ds r ⟨k,_,rfl,_⟩; rfl) (by rintro ds r ⟨k,_,_,rfl⟩; exact ⟨_,rfl⟩) λc hq ds sl hF=>?_
 obtain ⟨k,hk,rfl,e⟩:=hF
 injection e with e
 subst e
 show aG c _ [.va (.int k)] _ _
 conv in (aj _)=>whnf
 walk_at "evSs"
 refine cj (uh (gI ?_))
 walk_at "ev"
 refine ⟨_,rfl,?_⟩
 walk_at "ev"
 ·exact ⟨⟨by lia,by lia⟩,by rw [Oz]; exact vF (by simp only [O7]; lia)⟩
 ·rw [Oz,vQ]; exact vF (by simp only [ND,SM,O7]; lia)
 show Sl.va _=Sl.va _
 rw [Oz,vQ]
 show _=Sl.va (.tup [.lst [.tup [.tup ((NY k (0:Int)++[1]).map D.int),.int 1]],_])
 rw [Oq]
 rfl
end
noncomputable abbrev rE:=Fw (A2 D3 D3) (λu=>∀ ps∈By u,ay ps) (λu=>eY (By u))
theorem Ih (Fu:dh K "through_line" "through_line" (top 31) ff fd) (h1:cu P w K mg base 4 "poly_total" jS) (h2:cu P w K mg base 5 "crossed" (Kz P w K mg base)):aY P w K mg base (cP P w) 6 ff fd ["i","j"] (cZ K rE):=by
 refine bK Fu jP (gq λ_=>rfl) jI λc hq ds sl hF=>?_
 obtain ⟨u,hh,rfl,ee⟩:=hF
 injection ee with ee
 subst ee
 obtain ⟨fg,hm,hg⟩:=h1.at_
 show aG c _ [.va (D3 u.1),.va (D3 u.2)] _ _
 conv in (aj _)=>whnf
 walk_at "evSs"
 refine cj (x_call (F:=Kz P w K mg base) h2 (by decide) ?_)
 refine bz (fC hm ?_)
 walk_at "ev"
 exact ak (xQ (a:=u) hg hh) rfl
theorem Ii (Fu:dh K "meet_point" "meet_point" (top 32) ff fd) (h1:cu P w K mg base 4 "poly_total" jS) (h2:cu P w K mg base 5 "crossed" (Kz P w K mg base)):aY P w K mg base (cP P w) 6 ff fd ["l","m"] (cZ K rE):=by
 refine bK Fu l7 (gq λ_=>rfl) jI λc hq ds sl hF=>?_
 obtain ⟨u,hh,rfl,ee⟩:=hF
 injection ee with ee
 subst ee
 obtain ⟨fg,hm,hg⟩:=h1.at_
 show aG c _ [.va (D3 u.1),.va (D3 u.2)] _ _
 conv in (aj _)=>whnf
 walk_at "evSs"
 refine cj (x_call (F:=Kz P w K mg base) h2 (by decide) ?_)
 refine bz (fC hm ?_)
 walk_at "ev"
 exact ak (xQ (a:=u) hg hh) rfl
noncomputable abbrev Ep:=Fw (A2 D3 D3) (λu=>∀ ps∈BA u,ay ps) (λu=>eY (BA u))
theorem Ij (Fu:dh K "side_line" "side_line" (top 33) ff fd) (h1:cu P w K mg base 4 "poly_total" jS) (h2:cu P w K mg base 5 "side_rule" (ME P w K mg base)):aY P w K mg base (cP P w) 6 ff fd ["i","l"] (cZ K Ep):=by
 refine bK Fu oZ (gq λ_=>rfl) jI λc hq ds sl hF=>?_
 obtain ⟨u,hh,rfl,ee⟩:=hF
 injection ee with ee
 subst ee
 obtain ⟨fg,hm,hg⟩:=h1.at_
 show aG c _ [.va (D3 u.1),.va (D3 u.2)] _ _
 conv in (aj _)=>whnf
 walk_at "evSs"
 refine cj (x_call (F:=ME P w K mg base) h2 (by decide) ?_)
 refine bz (fC hm ?_)
 walk_at "ev"
 exact ak (xQ (a:=u) hg hh) rfl
noncomputable abbrev xS:=Fw (A2 D3 D3) (λu=>∀ ps∈BB u,ay ps) (λu=>eY (BB u))
theorem Ik (Fu:dh K "square_line" "square_line" (top 34) ff fd) (h1:cu P w K mg base 4 "poly_total" jS) (h2:cu P w K mg base 5 "square_rule" (MF P w K mg base)):aY P w K mg base (cP P w) 6 ff fd ["i","l"] (cZ K xS):=by
 refine bK Fu lF (gq λ_=>rfl) jI λc hq ds sl hF=>?_
 obtain ⟨u,hh,rfl,ee⟩:=hF
 injection ee with ee
 subst ee
 obtain ⟨fg,hm,hg⟩:=h1.at_
 show aG c _ [.va (D3 u.1),.va (D3 u.2)] _ _
 conv in (aj _)=>whnf
 walk_at "evSs"
 refine cj (x_call (F:=MF P w K mg base) h2 (by decide) ?_)
 refine bz (fC hm ?_)
 walk_at "ev"
 exact ak (xQ (a:=u) hg hh) rfl
noncomputable abbrev Er:=Fw (A2 D3 D3) (λu=>ay (dY u.2)/\∀ ps∈pF u,ay ps) (λu=>eY (pF u))
theorem Il (Fu:dh K "foot_point" "foot_point" (top 35) ff fd) (h1:cu P w K mg base 4 "poly_total" jS) (h2:cu P w K mg base 6 "foot_rule" (KJ P w K mg base)):aY P w K mg base (cP P w) 7 ff fd ["i","l"] (cZ K Er):=by
 refine bK Fu l8 (gq λ_=>rfl) jI λc hq ds sl hF=>?_
 obtain ⟨u,hh,rfl,ee⟩:=hF
 injection ee with ee
 subst ee
 obtain ⟨fg,hm,hg⟩:=h1.at_
 show aG c _ [.va (D3 u.1),.va (D3 u.2)] _ _
 conv in (aj _)=>whnf
 walk_at "evSs"
 refine cj (x_call (F:=KJ P w K mg base) h2 (by decide) ?_)
 refine bz (fC hm ?_)
 walk_at "ev"
 exact ak (xQ (a:=u) hg hh) rfl
noncomputable abbrev BC:=Fw (A2 D3 D3) (λu=>ay (dY u.2)/\(∀ ps∈pF u,ay ps)/\∀ ps∈En u,ay ps) (λu=>eY (En u))
theorem Im (Fu:dh K "mirrored_point" "mirrored_point" (top 37) ff fd) (h1:cu P w K mg base 4 "poly_total" jS) (h2:cu P w K mg base 7 "mirrored_rule" (MG P w K mg base)):aY P w K mg base (cP P w) 8 ff fd ["i","l"] (cZ K BC):=by
 refine bK Fu iT (gq λ_=>rfl) jI λc hq ds sl hF=>?_
 obtain ⟨u,hh,rfl,ee⟩:=hF
 injection ee with ee
 subst ee
 obtain ⟨fg,hm,hg⟩:=h1.at_
 show aG c _ [.va (D3 u.1),.va (D3 u.2)] _ _
 conv in (aj _)=>whnf
 walk_at "evSs"
 refine cj (x_call (F:=MG P w K mg base) h2 (by decide) ?_)
 refine bz (fC hm ?_)
 walk_at "ev"
 exact ak (xQ (a:=u) hg hh) rfl
noncomputable def AS (u:T3×T3×Nat):List D:=[D3 u.1,D3 u.2.1,.int (u.2.2:Int)]
noncomputable abbrev Ls:=Fw AS (λu=>u.2.2<=10/\(∀ ps∈x6 (u.1,u.2.1),ay ps)/\∀ ps∈xR (u.1,u.2.1,(BZ u.2.2,cT 1)),ay ps) (λu=>eY (xR (u.1,u.2.1,(BZ u.2.2,cT 1))))
theorem KU (Fu:dh K "slide_point" "slide_point" (top 30) ff fd) (h1:cu P w K mg base 4 "poly_total" jS) (h2:cu P w K mg base 6 "part_rule" (KR P w K mg base)) (h3:cu P w K mg base 1 "free_poly" vP):aY P w K mg base (cP P w) 7 ff fd ["i","j","t"] (cZ K Ls):=by
 refine bK Fu lE (gq λ_=>rfl) jI λc hq ds sl hF=>?_
 obtain ⟨⟨i,j,n⟩,⟨hn,q1,q2⟩,rfl,ee⟩:=hF
 injection ee with ee
 subst ee
 obtain ⟨fg,hm,hg⟩:=h1.at_
 show aG c _ [.va (D3 i),.va (D3 j),.va (.int (n:Int))] _ _
 conv in (aj _)=>whnf
 walk_at "evSs"
 refine cj (x_call (F:=KR P w K mg base) h2 (by decide) ?_)
 refine bz (fC hm (bz (iz (by walk_at "at") (by walk_at "at") (bz (iz (by walk_at "at") (by walk_at "at") (bz (aV (F:=vP) h3 (by decide) ?_)))))))
 walk_at "ev"
 refine ak (Ig hn) (jD ?_)
 walk_at "ev"
 exact ak (xQ (dA:=AP) (a:=(i,j,(BZ n,cT 1))) hg ⟨q1,q2⟩) rfl
noncomputable def cN (n:Int):List aL:=tt [(n,[])]
noncomputable def AF (u:T3×T3×(Int×Int)):List D:=[D3 u.1,D3 u.2.1,Lr u.2.2]
noncomputable abbrev IZ:=Fw AF (λu=>(∀ ps∈Ie u.2.2,ay ps)/\(∀ ps∈x6 (u.1,u.2.1),ay ps)/\∀ ps∈xR (u.1,u.2.1,(cN u.2.2.1,cN u.2.2.2)),ay ps) (λu=>eY (xR (u.1,u.2.1,(cN u.2.2.1,cN u.2.2.2))))
theorem KW (Fu:dh K "part_point" "part_point" (top 36) ff fd) (h1:cu P w K mg base 4 "poly_total" jS) (h2:cu P w K mg base 6 "part_rule" (KR P w K mg base)) (h3:cu P w K mg base 5 "told_fraction" (MH P w K mg base)):aY P w K mg base (cP P w) 7 ff fd ["i","j","f"] (cZ K IZ):=by
 refine bK Fu l9 (gq λ_=>rfl) jI λc hq ds sl hF=>?_
 obtain ⟨⟨i,j,n⟩,⟨hn,q1,q2⟩,rfl,ee⟩:=hF
 injection ee with ee
 subst ee
 obtain ⟨fg,hm,hg⟩:=h1.at_
 show aG c _ [.va (D3 i),.va (D3 j),.va (Lr n)] _ _
 conv in (aj _)=>whnf
 walk_at "evSs"
 refine cj (x_call (F:=KR P w K mg base) h2 (by decide) ?_)
 refine bz (fC hm (bz (iz (by walk_at "at") (by walk_at "at") (bz (iz (by walk_at "at") (by walk_at "at") (bz (aV (F:=MH P w K mg base) h3 (by decide) ?_)))))))
 refine bz (fC hm ?_)
 walk_at "ev"
 refine ak (xQ (dA:=A1 Lr) (a:=n) hg hn) (jD ?_)
 walk_at "ev"
 exact ak (xQ (dA:=AP) (a:=(i,j,(cN n.1,cN n.2))) hg ⟨q1,q2⟩) rfl
end
section
variable {P:Program} {w:World} {K:Nu} {mg:Str->Option Value} {base:Heap}
theorem Ex.mh (h:Ex m L):Ex m (aO L):=λt ht=>Ex.sum h t (qL ht).1
theorem Bn.mh (h:Bn m L) (hl:L.length<2 ^ 20):Bn (m+20) (aO L):=λt ht=>Bn.sum h hl t (qL ht).1
structure Lm (l:Nat) (e:Int) (b:Nat) (A:List aL):Prop where
 l:A.length<=l
 e:Ex e A
 b:Bn b A
theorem Lm.mh (h:Lm la ea ba A) (hl:la<2 ^ 20:=by decide):Lm la ea (ba+20) (aO A):=⟨NI (fW _) h.l,h.e.mh,h.b.mh (Pg h.l hl)⟩
theorem Lm.mono (h:Lm la ea ba A) (h1:la<=lb:=by decide) (h2:ea<=eb:=by decide) (h3:ba<=bb:=by decide):Lm lb eb bb A:=⟨NI h.l h1,h.e.mono h2,h.b.mono h3⟩
theorem Lm.app (h:Lm la ea ba A) (g:Lm lb ea ba B):Lm (la+lb) ea ba (A++B):=⟨by rw [N5]; exact Nat.add_le_add h.l g.l,h.e.app g.e,λt ht=>(N3.mp ht).elim (h.b t) (g.b t)⟩
theorem Lm.prod (h:Lm la ea ba A) (g:Lm lb eb bb B) (h0:0<=ea:=by decide) (g0:0<=eb:=by decide):Lm (la * lb) (ea+eb) (ba+bb) (aF A B):=⟨by rw [dR]; exact Px h.l g.l,h.e.prod h0 g0 g.e,h.b.prod g.b⟩
theorem Lm.Lu (h:Lm la ea ba A) (h1:la<=400000:=by decide) (h2:ea<=120:=by decide) (h3:ba<=2000:=by decide):dX A:=⟨NI h.l h1,h.e.mono h2,h.b.mono h3⟩
theorem Lm.nil:Lm la ea ba []:=⟨N1 _,(λt ht=>by cases ht),λt ht=>by cases ht⟩
theorem Lm.con (hn:n.natAbs<2 ^ ba):Lm 1 0 ba (cT n):=⟨Ny _,(λt ht=>by cases NN.mp ht; exact ⟨N1 _,λx hx=>by cases hx⟩),λt ht=>by cases NN.mp ht; exact hn⟩
theorem MZ (h:A.length<=l) (h1:1<=l):cE [A]<=l:=by
 show max A.length 1 * 1<=l; omega
theorem M0 (h:A.length<=l) (h1:1<=l) (g:B.length<=m) (g1:1<=m):cE [A,B]<=l * m:=Px (show max A.length 1<=l by omega) (MZ g g1)
theorem Np (h:A.length<=l) (h1:1<=l) (g:B.length<=m) (g1:1<=m) (f:C.length<=n) (f1:1<=n):cE [A,B,C]<=l * (m * n):=Px (show max A.length 1<=l by omega) (M0 g g1 f f1)
theorem Io (h:∀ p∈ps,p.1.natAbs<1000/\p.2.length<=8/\∀ A∈p.2,dX A) (hl:ps.length<=1000) (hs:(ps.map λp=>cE p.2).sum<=400000):ay ps :=
 ⟨λp hp=>⟨Ol (h p hp).1 (NI (by decide:1000<=2 ^ 10) (RC (by decide) (by decide))),(h p hp).2.1,(h p hp).2.2⟩,hl,hs⟩
theorem cI (p:Part) (ps):mp (ic (p::ps))=(p.1:MP) * pC p.2+mp (ic ps):=by
 unfold ic
 rw [QU,f9,ie]
theorem cF:mp (ic [])=0:=by
 have h:mp ([]:List aL)=mp []+mp []:=f9 [] []
 show mp ([]:List aL)=0
 grind
theorem cV (A) (As):pC (A::As)=mp A * pC As:=rfl
theorem cJ:pC []=1:=rfl
abbrev Dm (l:Nat) (e:Int) (b:Nat):Prop:=1<=l/\l<=400000/\0<=e/\e<=120/\b<=2000
structure PB (l:Nat) (e:Int) (b:Nat) (p:Part):Prop where
 n:p.1.natAbs<1000
 c:p.2.length<=8
 f:∀ A∈p.2,dX A
 k:cE p.2<=l
 m:Lm l e b (gB p.1 p.2)
section
variable {n:Int}
theorem Lm.fa (h:Lm la ea ba A) (d:Dm la ea ba):dX A:=h.Lu d.2.1 d.2.2.2.1 d.2.2.2.2
theorem Lv (h:n.natAbs<1000):n.natAbs<2 ^ 20:=Ol h (by decide)
theorem M3 (hn:n.natAbs<1000) (hA:Lm la ea ba A) (dA:Dm la ea ba:=by decide):PB (1 * la) (0+ea) (20+ba) (n,[A]) :=
 ⟨hn,by show (1:Nat)<=8; decide,by simp [hA.fa dA],by have:=MZ hA.l dA.1; show cE [A]<=1 * la; lia,(Lm.con (ba:=20) (Lv hn)).prod hA (by decide) dA.2.2.1⟩
theorem vR (hn:n.natAbs<1000) (hA:Lm la ea ba A) (hB:Lm lb eb bb B) (dA:Dm la ea ba:=by decide) (dB:Dm lb eb bb:=by decide):PB (1 * la * lb) (0+ea+eb) (20+ba+bb) (n,[A,B]) :=
 ⟨hn,by show (2:Nat)<=8; decide,by simp [hA.fa dA,hB.fa dB],by rw [Nat.one_mul]; exact M0 hA.l dA.1 hB.l dB.1,((Lm.con (ba:=20) (Lv hn)).prod hA (by decide) dA.2.2.1).prod hB (by have:=dA.2.2.1; lia) dB.2.2.1⟩
theorem Lw (hn:n.natAbs<1000) (hA:Lm la ea ba A) (hB:Lm lb eb bb B) (hC:Lm lc ec bc C) (dA:Dm la ea ba:=by decide) (dB:Dm lb eb bb:=by decide) (dC:Dm lc ec bc:=by decide):PB (1 * la * lb * lc) (0+ea+eb+ec) (20+ba+bb+bc) (n,[A,B,C]) :=
 ⟨hn,by show (3:Nat)<=8; decide,by simp [hA.fa dA,hB.fa dB,hC.fa dC],by rw [Nat.one_mul,Nat.mul_assoc]; exact Np hA.l dA.1 hB.l dB.1 hC.l dC.1,(((Lm.con (ba:=20) (Lv hn)).prod hA (by decide) dA.2.2.1).prod hB (by have:=dA.2.2.1; lia) dB.2.2.1).prod hC (by have:=dA.2.2.1; have:=dB.2.2.1; lia) dC.2.2.1⟩
theorem PB.mono (h:PB la ea ba p) (h1:la<=lb:=by decide) (h2:ea<=eb:=by decide) (h3:ba<=bb:=by decide):PB lb eb bb p:=⟨h.n,h.c,h.f,NI h.k h1,h.m.mono h1 h2 h3⟩
theorem Ip (h:∀ p∈ps,PB la ea ba p) (hl:ps.length<=1000:=by decide) (hs:ps.length * la<=400000:=by decide):ay ps/\Lm (ps.length * la) ea (ba+20) (tt ps):=by
 have h1:∀ qs:List Part,(∀ p∈qs,p∈ps)->(qs.map λp=>cE p.2).sum<=qs.length * la/\Lm (qs.length * la) ea ba (ic qs):=λqs=>by
  induction qs with
  | nil=>exact λ_=>⟨N1 _,Lm.nil⟩
  | cons q qs ih =>
   intro hq
   have i:=ih λp hp=>hq p (NK _ hp)
   have g:=h q (hq q NP)
   have e:(q::qs).length * la=la+qs.length * la:=by rw [Oe,QD,Nat.add_comm]
   rw [e]
   refine ⟨?_,?_⟩
   ·rw [NF,Qd]; exact Nat.add_le_add g.k i.1
   ·unfold ic
    rw [QU]
    exact g.m.app i.2
 have h2:=h1 ps λ_ q=>q
 exact ⟨Io (λp hp=>⟨(h p hp).n,(h p hp).c,(h p hp).f⟩) hl (NI h2.1 hs),h2.2.mh (by lia)⟩
end
theorem aX (k) (h:∀ p∈ps,PB la ea ba p) (hk:(ps.length * la).ble k=true:=by rfl) (h1:ps.length.ble 1000=true:=by rfl) (h4:k<=400000:=by decide):ay ps/\Lm k ea (ba+20) (tt ps) :=
 have g:=Ip h (RA h1) (NI (RA hk) h4)
 ⟨g.1,g.2.mono (RA hk) (OL _) (Ny _)⟩
theorem d7 {α:Type} {Q:α->Prop}:∀ q∈([]:List α),Q q:=λq h=>by cases h
theorem bJ {α:Type} {Q:α->Prop} {p:α} {ps:List α} (h:Q p) (t:∀ q∈ps,Q q):∀ q∈p::ps,Q q:=List.forall_mem_cons.mpr ⟨h,t⟩
structure Q3 (l:Nat) (e:Int) (b:Nat) (s:T3):Prop where
 p:Lm l e b s.1
 q:Lm l e b s.2.1
 r:Lm l e b s.2.2
theorem Lm.I0 {la lb:Nat} {ea eb:Int} {ba bb:Nat} {A B:List aL} (h:Lm la ea ba A) (g:Lm lb eb bb B) (d:Dm la ea ba) (d':Dm lb eb bb) (hl:la * lb<=400000):lH A B where
 la:=NI h.l d.2.1
 lb:=NI g.l d'.2.1
 lp:=NI (Px h.l g.l) hl
 pa:=h.e.mono (by have:=d.2.2.2.1; lia)
 pb:=g.e.mono (by have:=d'.2.2.2.1; lia)
 mu:=λx hx y hy=>tL (h.b x hx) (g.b y hy) (by have:=d.2.2.2.2; have:=d'.2.2.2.2; lia)
theorem Q3.mono (h:Q3 la ea ba s) (h1:la<=lb:=by decide) (h2:ea<=eb:=by decide) (h3:ba<=bb:=by decide):Q3 lb eb bb s:=⟨h.p.mono h1 h2 h3,h.q.mono h1 h2 h3,h.r.mono h1 h2 h3⟩
noncomputable def Fj (X:List (List Part)):T3:=(tt (X.getD 0 []),tt (X.getD 1 []),tt (X.getD 2 []))
theorem MI (h:X.length=3):eY X=.va (D3 (Fj X)):=by
 match X,h with
 | [a,b,c],_=>rfl
theorem tO {X:α->List (List Part)} (h:Ok a) (hl:(X a).length=3):Fw dA Ok (λu=>eY (X u)) (dA a) (.ok (.va (D3 (Fj (X a))))):=by
 rw [<- MI hl]; exact Nn h
theorem cK (ps):mp (tt ps)=mp (ic ps):=c9 _
end
section
variable {P:Program} {w:World} {K:Nu} {mg:Str->Option Value} {base:Heap}
noncomputable def pj (s:T3) (k:Nat):List aL:=if k=0 then s.1 else if k=1 then s.2.1 else s.2.2
theorem M4 {s:T3} {k:Nat} {R:EV.D->Prop} (h:k<3) (t:R (ah (pj s k))):CG (D3 s) (.int (k:Int)) R:=by
 match k,h with
 | 0,_=>exact mQ (by rfl) t
 | 1,_=>exact mQ (by rfl) t
 | 2,_=>exact mQ (by rfl) t
noncomputable def Iq (i l:T3):Nat->List aL
 | 0=>[]
 | k+1=>aO (Iq i l k++aO (aF (pj i k) (pj l k)))
structure Ir (i l:T3):Prop where
 t:∀ k,k<3->lH (pj i k) (pj l k)
 s:∀ k,k<3->(Iq i l k).length+(aO (aF (pj i k) (pj l k))).length<=400000/\∀ t∈Iq i l k++aO (aF (pj i k) (pj l k)),t.1.length<=64
 z:Iq i l 3=[]
theorem Q3.at (h:Q3 m e b s) (k):Lm m e b (pj s k):=by
 unfold pj
 split
 ·exact h.p
 ·split
  ·exact h.q
  ·exact h.r
theorem BD:mp ([]:List aL)=0:=cF
theorem gr (hi:Q3 m eo bo i) (hl:Q3 n ei bi l) (z:mp i.1 * mp l.1+mp i.2.1 * mp l.2.1+mp i.2.2 * mp l.2.2=0) (dm:Dm m eo bo:=by decide) (dn:Dm n ei bi:=by decide) (h:3 * (m * n)<=400000:=by decide):Ir i l:=by
 have ht:∀ k,lH (pj i k) (pj l k):=λk=>(hi.at k).I0 (hl.at k) dm dn (by lia)
 have hp:∀ k,(aO (aF (pj i k) (pj l k))).length<=m * n/\Ex (eo+ei) (aO (aF (pj i k) (pj l k))):=λk =>
  have g:=(hi.at k).prod (hl.at k) dm.2.2.1 dn.2.2.1
  ⟨NI (fW _) g.l,g.e.mh⟩
 have ho:∀ k,(Iq i l k).length<=k * (m * n)/\Ex (eo+ei) (Iq i l k):=λk=>by
  induction k with
  | zero=>exact ⟨N1 _,λt ht=>by cases ht⟩
  | succ k ih =>
   refine ⟨NI (fW _) ?_,(ih.2.app (hp k).2).mh⟩
   rw [N5,QD]
   exact Nat.add_le_add ih.1 (hp k).1
 refine ⟨λk _=>ht k,λk hk=>⟨?_,λt h'=>?_⟩,?_⟩
 ·have h1:=(ho k).1
  have h2:=(hp k).1
  have h3:k * (m * n)<=2 * (m * n):=Nat.mul_le_mul_right _ (by lia)
  lia
 ·exact NI (((ho k).2.app (hp k).2) t h').1 (by decide)
 ·refine dW (B:=[]) ?_
  rw [BD,<- z]
  show mp (aO (aO ([]++aO (aF i.1 l.1))++aO (aF i.2.1 l.2.1))++aO (aF i.2.2 l.2.2))=_
  rw [f9,c9,f9,c9,QZ,c9,c9,c9,dU,dU,dU]
noncomputable def Fl:Fn:=λds r=>∃ i l:T3,Ir i l/\ds=[D3 i,D3 l]/\r=.ok (.va (.bl true))
theorem lN (h:Ir i l):Fl [D3 i,D3 l] (.ok (.va (.bl true))):=⟨i,l,h,rfl,rfl⟩
theorem o8 (t:T true):BS (.lst []) (.lst []) T:=qX (ds:=[]) (Ax _) t
section
local macro_rules | `(tactic| walk_at "evCa")=> `(tactic| first
 | with_reducible refine aV (F:=rB) (by assumption) (by decide) ?_)
local macro_rules | `(tactic| walk_at "evL")=> `(tactic| ((with_reducible show CG (D3 _) _ _); with_reducible refine M4 (by first | assumption | lia) ?_))
theorem KY (Fu:dh K "_law_on" "_law_on" (top 45) ff fd) (T:Txt K mg) (h1:cu P w K mg base 3 "poly_sum" nD) (h2:cu P w K mg base 4 "poly_times" rB):aY P w K mg base (cP P w) 5 ff fd ["_law_i","_law_l"] (cZ K Fl):=by
 refine bK Fu DO (by rintro ds r ⟨i,l,_,rfl,_⟩; rfl) (by rintro ds r ⟨i,l,_,_,rfl⟩; exact ⟨_,rfl⟩) λc hq ds sl hF=>?_
 obtain ⟨i,l,ok,rfl,ee⟩:=hF
 injection ee with ee
 subst ee
 show aG c _ [.va (D3 i),.va (D3 l),.un,.un] _ _
 conv in (aj _)=>whnf
 walk_at "ev"
 with_reducible refine di hq (eT (Txt.range (by assumption)) ?_)
 walk_at "ev"
 ·exact ⟨by decide,by decide⟩
 refine ⟨λk ρ'=>∃ s3:Sl,ρ'=[.va (D3 i),.va (D3 l),.ow ((Iq i l k).map aB),s3],⟨_,rfl⟩,?_,?_⟩
 ·rintro c' rN x8 x9 k d ρ' hd ⟨s3,rfl⟩
  obtain ⟨hk,rfl⟩:=gw hd
  have hk:k<3:=hk
  refine dM (by walk_at "at") (uu (by walk_at "sset") ?_)
  refine aN (uv (by walk_at "at") (EX 2 (by walk_at "at") rfl (by walk_at "sset") (x_call (F:=nD) h1 (by decide) ?_)))
  walk_at "ev"
  refine ak (lJ (ok.t k hk)) (aU ?_)
  walk_at "ev"
  refine ak (A4 (ok.s k hk).1 (ok.s k hk).2) ⟨dG λx _=>jw x,?_⟩
  refine uu (by walk_at "sset") ?_
  walk_at "ev"
  exact ⟨_,rfl⟩
 ·rintro ρ' ⟨s3,rfl⟩
  rw [iX]
  rw [show Int.toNat 3=3 from rfl,ok.z]
  refine kL 2 (d0:=.lst []) (by walk_at "at") rfl (by walk_at "sset") ?_
  walk_at "ev"
  refine o8 ?_
  rfl
end
structure Iu (s u:T3):Prop where
 t:∀ j k,lH (pj s j) (pj u k)
 e:∀ j k,mp (pj s j) * mp (pj u k)=mp (pj s k) * mp (pj u j)
noncomputable def Lx:Fn:=λds r=>∃ i l:T3,Iu i l/\ds=[D3 i,D3 l]/\r=.ok (.va (.bl true))
theorem MJ (h:Iu i l):Lx [D3 i,D3 l] (.ok (.va (.bl true))):=⟨i,l,h,rfl,rfl⟩
section
local macro_rules | `(tactic| walk_at "evCa")=> `(tactic| first
 | with_reducible refine aV (F:=rB) (by assumption) (by decide) ?_)
local macro_rules | `(tactic| walk_at "evL")=> `(tactic| ((with_reducible show CG (D3 _) _ _); with_reducible refine M4 (by first | assumption | lia) ?_))
theorem KZ (Fu:dh K "_law_alike" "_law_alike" (top 46) ff fd) (T:Txt K mg) (h2:cu P w K mg base 4 "poly_times" rB):aY P w K mg base (cP P w) 5 ff fd ["_law_one","_law_other"] (cZ K Lx):=by
 refine bK Fu tE (by rintro ds r ⟨i,l,_,rfl,_⟩; rfl) (by rintro ds r ⟨i,l,_,_,rfl⟩; exact ⟨_,rfl⟩) λc hq ds sl hF=>?_
 obtain ⟨i,l,ok,rfl,ee⟩:=hF
 injection ee with ee
 subst ee
 show aG c _ [.va (D3 i),.va (D3 l),.un,.un] _ _
 conv in (aj _)=>whnf
 walk_at "evSs"
 with_reducible refine di hq (eT (Txt.range (by assumption)) ?_)
 walk_at "ev"
 ·exact ⟨by decide,by decide⟩
 refine ⟨λ_ ρ'=>∃ s2 s3:Sl,ρ'=[.va (D3 i),.va (D3 l),s2,s3],⟨_,_,rfl⟩,?_,?_⟩
 ·rintro c' rN x8 x9 j d ρ' hd ⟨s2,s3,rfl⟩
  obtain ⟨hj,rfl⟩:=gw hd
  have hj:j<3:=hj
  refine dM (by walk_at "at") (uu (by walk_at "sset") ?_)
  walk_at "evSs"
  refine di (by rw [rN]; exact hq) (eT (Txt.range (by assumption)) ?_)
  walk_at "ev"
  ·exact ⟨by lia,by lia⟩
  refine ⟨λ_ ρ''=>∃ s3:Sl,ρ''=[.va (D3 i),.va (D3 l),.va (.int (j:Int)),s3],⟨_,rfl⟩,?_,?_⟩
  ·rintro c'' hdX hdR hdM k d ρ'' hd ⟨s3,rfl⟩
   obtain ⟨hk,rfl⟩:=gw hd
   have hk:k<3:=by lia
   refine dM (by walk_at "at") (uu (by walk_at "sset") ?_)
   walk_at "ev"
   refine ak (lJ (ok.t j k)) (aU ?_)
   walk_at "ev"
   refine ak (lJ (ok.t k j)) (aU ?_)
   rw [show aO (aF (pj i j) (pj l k))=aO (aF (pj i k) (pj l j)) from dW (by rw [dU,dU,ok.e])]
   refine qX (xu _ _) ?_
   walk_at "ev"
   exact ⟨_,rfl⟩
  ·rintro ρ'' ⟨s3,rfl⟩
   walk_at "ev"
   exact ⟨_,_,rfl⟩
 ·rintro ρ' ⟨s2,s3,rfl⟩
  walk_at "ev"
  rfl
end
end
noncomputable def B0 (s t:T3):T3:=Fj (By (s,t))
noncomputable def Es (s t:T3):T3:=Fj (BA (s,t))
noncomputable def B3 (s t:T3):T3:=Fj (BB (s,t))
noncomputable def vS (s t:T3):T3:=Fj (pF (s,t))
noncomputable def i6 (s t:T3):T3:=Fj (En (s,t))
noncomputable def Et (s t:T3) (f:List aL×List aL):T3:=Fj (xR (s,t,f))
theorem Nq (hn:n.natAbs<1000):PB 1 0 20 (n,[]):=⟨hn,N1 _,(λA h=>by cases h),Ny _,Lm.con (Lv hn)⟩
theorem nG (hn:n.natAbs<1000):ay [(n,[])]/\Lm 1 0 40 (cN n):=aX 1 (bJ (Nq hn) d7)
theorem K0 (h:k<=5):Lm 1 1 40 (BZ k):=by
 refine ⟨Ny _,λt ht=>?_,λt ht=>?_⟩
 ·cases NN.mp ht
  refine ⟨by rw [N5,SM,O7]; lia,λx hx=>?_⟩
  rcases N3.mp hx with q | q
  ·have:=(List.mem_replicate.mp q).2; lia
  ·have:=NN.mp q; lia
 ·cases NN.mp ht
  exact (by decide:(1:Int).natAbs<2 ^ 40)
theorem K1:Lm 1 1 40 (cT 1):=(Lm.con (ba:=40) (n:=1) (by decide)).mono
theorem Fo (hi:Q3 5 3 60 i) (hj:Q3 5 3 60 j):(∀ ps∈By (i,j),ay ps)/\Q3 50 6 160 (B0 i j):=by
 have g:∀ {n:Int} {A B:List aL},n.natAbs<1000->Lm 5 3 60 A->Lm 5 3 60 B->PB 25 6 140 (n,[A,B]):=λhn hA hB=>(vR hn hA hB).mono
 have e1:=aX 50 (bJ (g (n:=1) (by decide) hi.q hj.r) (bJ (g (n:= -1) (by decide) hi.r hj.q) d7))
 have e2:=aX 50 (bJ (g (n:=1) (by decide) hi.r hj.p) (bJ (g (n:= -1) (by decide) hi.p hj.r) d7))
 have e3:=aX 50 (bJ (g (n:=1) (by decide) hi.p hj.q) (bJ (g (n:= -1) (by decide) hi.q hj.p) d7))
 exact ⟨bJ e1.1 (bJ e2.1 (bJ e3.1 d7)),e1.2,e2.2,e3.2⟩
theorem K2 (hi:Q3 5 3 60 i) (hl:Q3 5 3 60 l):(∀ ps∈BA (i,l),ay ps)/\Q3 50 6 160 (Es i l):=by
 have g:∀ {n:Int} {A B:List aL},n.natAbs<1000->Lm 5 3 60 A->Lm 5 3 60 B->PB 25 6 140 (n,[A,B]):=λhn hA hB=>(vR hn hA hB).mono
 have e1:=aX 50 (bJ (g (n:=1) (by decide) hl.p hi.r) d7)
 have e2:=aX 50 (bJ (g (n:=1) (by decide) hl.q hi.r) d7)
 have e3:=aX 50 (bJ (g (n:= -1) (by decide) hl.p hi.p) (bJ (g (n:= -1) (by decide) hl.q hi.q) d7))
 exact ⟨bJ e1.1 (bJ e2.1 (bJ e3.1 d7)),e1.2,e2.2,e3.2⟩
theorem Fq (hi:Q3 5 3 60 i) (hl:Q3 5 3 60 l):(∀ ps∈BB (i,l),ay ps)/\Q3 50 6 160 (B3 i l):=by
 have g:∀ {n:Int} {A B:List aL},n.natAbs<1000->Lm 5 3 60 A->Lm 5 3 60 B->PB 25 6 140 (n,[A,B]):=λhn hA hB=>(vR hn hA hB).mono
 have e1:=aX 50 (bJ (g (n:= -1) (by decide) hl.q hi.r) d7)
 have e2:=aX 50 (bJ (g (n:=1) (by decide) hl.p hi.r) d7)
 have e3:=aX 50 (bJ (g (n:=1) (by decide) hl.q hi.p) (bJ (g (n:= -1) (by decide) hl.p hi.q) d7))
 exact ⟨bJ e1.1 (bJ e2.1 (bJ e3.1 d7)),e1.2,e2.2,e3.2⟩
theorem rF (hl:Q3 2 3 60 l):ay (dY l)/\Lm 8 6 160 (tt (dY l)):=by
 have g:∀ {A:List aL},Lm 2 3 60 A->PB 4 6 140 (1,[A,A]):=λhA=>(vR (by decide) hA hA).mono
 exact aX 8 (bJ (g hl.p) (bJ (g hl.q) d7))
theorem BE (hi:Q3 2 3 60 i) (hl:Q3 2 3 60 l):(∀ ps∈pF (i,l),ay ps)/\Q3 24 9 260 (vS i l):=by
 have hS:=(rF hl).2
 have g:∀ {n:Int} {A B C:List aL},n.natAbs<1000->Lm 2 3 60 A->Lm 2 3 60 B->Lm 2 3 60 C->PB 8 9 200 (n,[A,B,C]):=λhn hA hB hC=>(Lw hn hA hB hC).mono
 have e1:=aX 24 (bJ (g (n:=1) (by decide) hl.q hl.q hi.p) (bJ (g (n:= -1) (by decide) hl.p hl.q hi.q) (bJ (g (n:= -1) (by decide) hl.p hl.r hi.r) d7)))
 have e2:=aX 24 (bJ (g (n:=1) (by decide) hl.p hl.p hi.q) (bJ (g (n:= -1) (by decide) hl.p hl.q hi.p) (bJ (g (n:= -1) (by decide) hl.q hl.r hi.r) d7)))
 have e3:=aX 24 (bJ (PB.mono (lb:=16) (eb:=9) (bb:=240) (vR (n:=1) (by decide) hS hi.r)) d7)
 exact ⟨bJ e1.1 (bJ e2.1 (bJ e3.1 d7)),e1.2.mono,e2.2.mono,e3.2.mono⟩
theorem Iv (hi:Q3 2 3 60 i) (hl:Q3 2 3 60 l):(∀ ps∈En (i,l),ay ps)/\Q3 48 9 300 (i6 i l):=by
 have hS:=(rF hl).2
 have hf:=(BE hi hl).2
 have g:∀ {A:List aL},Lm 24 9 260 A->PB 24 9 280 (2,[A]):=λhA=>(M3 (by decide) hA).mono
 have g':∀ {n:Int} {B:List aL},n.natAbs<1000->Lm 2 3 60 B->PB 24 9 280 (n,[tt (dY l),B]):=λhn hB=>(vR hn hS hB).mono
 have e1:=aX 48 (bJ (g hf.p) (bJ (g' (n:= -1) (by decide) hi.p) d7))
 have e2:=aX 48 (bJ (g hf.q) (bJ (g' (n:= -1) (by decide) hi.q) d7))
 have e3:=aX 48 (bJ (g' (n:=1) (by decide) hi.r) d7)
 exact ⟨bJ e1.1 (bJ e2.1 (bJ e3.1 d7)),e1.2,e2.2,e3.2⟩
theorem BF (hi:Q3 48 9 300 i) (hl:Q3 2 3 60 l):(∀ ps∈pF (i,l),ay ps)/\Q3 576 15 500 (vS i l):=by
 have hS:=(rF hl).2
 have g:∀ {n:Int} {A B C:List aL},n.natAbs<1000->Lm 2 3 60 A->Lm 2 3 60 B->Lm 48 9 300 C->PB 192 15 440 (n,[A,B,C]):=λhn hA hB hC=>(Lw hn hA hB hC).mono
 have e1:=aX 576 (bJ (g (n:=1) (by decide) hl.q hl.q hi.p) (bJ (g (n:= -1) (by decide) hl.p hl.q hi.q) (bJ (g (n:= -1) (by decide) hl.p hl.r hi.r) d7)))
 have e2:=aX 576 (bJ (g (n:=1) (by decide) hl.p hl.p hi.q) (bJ (g (n:= -1) (by decide) hl.p hl.q hi.p) (bJ (g (n:= -1) (by decide) hl.q hl.r hi.r) d7)))
 have e3:=aX 576 (bJ (PB.mono (lb:=384) (eb:=15) (bb:=480) (vR (n:=1) (by decide) hS hi.r)) d7)
 exact ⟨bJ e1.1 (bJ e2.1 (bJ e3.1 d7)),e1.2.mono,e2.2.mono,e3.2.mono⟩
theorem Iw (hi:Q3 48 9 300 i) (hl:Q3 2 3 60 l):(∀ ps∈En (i,l),ay ps)/\Q3 1152 15 540 (i6 i l):=by
 have hS:=(rF hl).2
 have hf:=(BF hi hl).2
 have g:∀ {A:List aL},Lm 576 15 500 A->PB 576 15 520 (2,[A]):=λhA=>(M3 (by decide) hA).mono
 have g':∀ {n:Int} {B:List aL},n.natAbs<1000->Lm 48 9 300 B->PB 576 15 520 (n,[tt (dY l),B]):=λhn hB=>(vR hn hS hB).mono
 have e1:=aX 1152 (bJ (g hf.p) (bJ (g' (n:= -1) (by decide) hi.p) d7))
 have e2:=aX 1152 (bJ (g hf.q) (bJ (g' (n:= -1) (by decide) hi.q) d7))
 have e3:=aX 1152 (bJ (g' (n:=1) (by decide) hi.r) d7)
 exact ⟨bJ e1.1 (bJ e2.1 (bJ e3.1 d7)),e1.2,e2.2,e3.2⟩
theorem BG (hi:Q3 5 3 60 i) (hj:Q3 5 3 60 j) (hp:Lm 1 1 40 f.1) (hq:Lm 1 1 40 f.2):(∀ ps∈x6 (i,j),ay ps)/\(∀ ps∈xR (i,j,f),ay ps)/\Q3 100 7 240 (Et i j f):=by
 have g:∀ {n:Int} {A B:List aL},n.natAbs<1000->Lm 5 3 60 A->Lm 5 3 60 B->PB 25 6 140 (n,[A,B]):=λhn hA hB=>(vR hn hA hB).mono
 have g':∀ {n:Int} {A B:List aL},n.natAbs<1000->Lm 5 3 60 A->Lm 5 3 60 B->PB 25 6 140 (n,[B,A]):=λhn hA hB=>(vR hn hB hA).mono
 have w1:=aX 50 (bJ (g' (n:=1) (by decide) hi.r hj.p) (bJ (g (n:= -1) (by decide) hi.p hj.r) d7))
 have w2:=aX 50 (bJ (g' (n:=1) (by decide) hi.r hj.q) (bJ (g (n:= -1) (by decide) hi.q hj.r) d7))
 have k:∀ {A B C:List aL},Lm 1 1 40 A->Lm 5 3 60 B->Lm 5 3 60 C->PB 50 7 220 (1,[A,B,C]):=λhA hB hC=>(Lw (by decide) hA hB hC).mono
 have k':∀ {A B:List aL},Lm 1 1 40 A->Lm 50 6 160 B->PB 50 7 220 (1,[A,B]):=λhA hB=>(vR (by decide) hA hB).mono
 have e1:=aX 100 (bJ (k hq hi.p hj.r) (bJ (k' hp w1.2) d7))
 have e2:=aX 100 (bJ (k hq hi.q hj.r) (bJ (k' hp w2.2) d7))
 have e3:=aX 100 (bJ (k hq hi.r hj.r) d7)
 exact ⟨bJ w1.1 (bJ w2.1 d7),bJ e1.1 (bJ e2.1 (bJ e3.1 d7)),e1.2,e2.2,e3.2⟩
theorem Iz (hi:Q3 2 3 60 i) (hj:Q3 48 9 300 j) (hp:Lm 1 1 40 f.1) (hq:Lm 1 1 40 f.2):(∀ ps∈x6 (i,j),ay ps)/\(∀ ps∈xR (i,j,f),ay ps)/\Q3 384 13 480 (Et i j f):=by
 have g:∀ {n:Int} {A B:List aL},n.natAbs<1000->Lm 2 3 60 A->Lm 48 9 300 B->PB 96 12 380 (n,[A,B]):=λhn hA hB=>(vR hn hA hB).mono
 have g':∀ {n:Int} {A B:List aL},n.natAbs<1000->Lm 2 3 60 A->Lm 48 9 300 B->PB 96 12 380 (n,[B,A]):=λhn hA hB=>(vR hn hB hA).mono
 have w1:=aX 192 (bJ (g' (n:=1) (by decide) hi.r hj.p) (bJ (g (n:= -1) (by decide) hi.p hj.r) d7))
 have w2:=aX 192 (bJ (g' (n:=1) (by decide) hi.r hj.q) (bJ (g (n:= -1) (by decide) hi.q hj.r) d7))
 have k:∀ {A B C:List aL},Lm 1 1 40 A->Lm 2 3 60 B->Lm 48 9 300 C->PB 192 13 460 (1,[A,B,C]):=λhA hB hC=>(Lw (by decide) hA hB hC).mono
 have k':∀ {A B:List aL},Lm 1 1 40 A->Lm 192 12 400 B->PB 192 13 460 (1,[A,B]):=λhA hB=>(vR (by decide) hA hB).mono
 have e1:=aX 384 (bJ (k hq hi.p hj.r) (bJ (k' hp w1.2) d7))
 have e2:=aX 384 (bJ (k hq hi.q hj.r) (bJ (k' hp w2.2) d7))
 have e3:=aX 384 (bJ (k hq hi.r hj.r) d7)
 exact ⟨bJ w1.1 (bJ w2.1 d7),bJ e1.1 (bJ e2.1 (bJ e3.1 d7)),e1.2,e2.2,e3.2⟩
theorem Ft (n):mp (cN n)=(n:MP):=by
 unfold cN
 simp only [cI,cF,cJ,cK]; grind
section
variable (i j l:T3)
theorem rG:mp (B0 i j).1=mp i.2.1 * mp j.2.2 - mp i.2.2 * mp j.2.1/\mp (B0 i j).2.1=mp i.2.2 * mp j.1 - mp i.1 * mp j.2.2/\mp (B0 i j).2.2=mp i.1 * mp j.2.1 - mp i.2.1 * mp j.1:=by
 obtain ⟨a,b,c⟩:=i
 obtain ⟨x,y,z⟩:=j
 refine ⟨?_,?_,?_⟩
 ·show mp (tt [(1,[b,z]),(-1,[c,y])])=_
  simp only [cI,cF,cV,cJ,cK]; grind
 ·show mp (tt [(1,[c,x]),(-1,[a,z])])=_
  simp only [cI,cF,cV,cJ,cK]; grind
 ·show mp (tt [(1,[a,y]),(-1,[b,x])])=_
  simp only [cI,cF,cV,cJ,cK]; grind
theorem Fv:mp (Es i l).1=mp l.1 * mp i.2.2/\mp (Es i l).2.1=mp l.2.1 * mp i.2.2/\mp (Es i l).2.2= - (mp l.1 * mp i.1) - mp l.2.1 * mp i.2.1:=by
 obtain ⟨x,y,z⟩:=i
 obtain ⟨p,q,r⟩:=l
 refine ⟨?_,?_,?_⟩
 ·show mp (tt [(1,[p,z])])=_
  simp only [cI,cF,cV,cJ,cK]; grind
 ·show mp (tt [(1,[q,z])])=_
  simp only [cI,cF,cV,cJ,cK]; grind
 ·show mp (tt [(-1,[p,x]),(-1,[q,y])])=_
  simp only [cI,cF,cV,cJ,cK]; grind
theorem BH:mp (B3 i l).1= - (mp l.2.1 * mp i.2.2)/\mp (B3 i l).2.1=mp l.1 * mp i.2.2/\mp (B3 i l).2.2=mp l.2.1 * mp i.1 - mp l.1 * mp i.2.1:=by
 obtain ⟨x,y,z⟩:=i
 obtain ⟨p,q,r⟩:=l
 refine ⟨?_,?_,?_⟩
 ·show mp (tt [(-1,[q,z])])=_
  simp only [cI,cF,cV,cJ,cK]; grind
 ·show mp (tt [(1,[p,z])])=_
  simp only [cI,cF,cV,cJ,cK]; grind
 ·show mp (tt [(1,[q,x]),(-1,[p,y])])=_
  simp only [cI,cF,cV,cJ,cK]; grind
theorem rH:mp (tt (dY l))=mp l.1 * mp l.1+mp l.2.1 * mp l.2.1:=by
 obtain ⟨p,q,r⟩:=l
 show mp (tt [(1,[p,p]),(1,[q,q])])=_
 simp only [cI,cF,cV,cJ,cK]; grind
theorem BI:mp (vS i l).1=mp l.2.1 * mp l.2.1 * mp i.1 - mp l.1 * mp l.2.1 * mp i.2.1 - mp l.1 * mp l.2.2 * mp i.2.2/\mp (vS i l).2.1=mp l.1 * mp l.1 * mp i.2.1 - mp l.1 * mp l.2.1 * mp i.1 - mp l.2.1 * mp l.2.2 * mp i.2.2/\mp (vS i l).2.2=mp (tt (dY l)) * mp i.2.2:=by
 obtain ⟨x,y,z⟩:=i
 obtain ⟨p,q,r⟩:=l
 refine ⟨?_,?_,?_⟩
 ·show mp (tt [(1,[q,q,x]),(-1,[p,q,y]),(-1,[p,r,z])])=_
  simp only [cI,cF,cV,cJ,cK]; grind
 ·show mp (tt [(1,[p,p,y]),(-1,[p,q,x]),(-1,[q,r,z])])=_
  simp only [cI,cF,cV,cJ,cK]; grind
 ·show mp (tt [(1,[tt (dY (p,q,r)),z])])=_
  generalize tt (dY (p,q,r))=S
  simp only [cI,cF,cV,cJ,cK]; grind
theorem K3:mp (i6 i l).1=2 * mp (vS i l).1 - mp (tt (dY l)) * mp i.1/\mp (i6 i l).2.1=2 * mp (vS i l).2.1 - mp (tt (dY l)) * mp i.2.1/\mp (i6 i l).2.2=mp (tt (dY l)) * mp i.2.2:=by
 obtain ⟨x,y,z⟩:=i
 refine ⟨?_,?_,?_⟩
 ·show mp (tt [(2,[(vS (x,y,z) l).1]),(-1,[tt (dY l),x])])=_
  generalize tt (dY l)=S
  generalize (vS (x,y,z) l).1=F
  simp only [cI,cF,cV,cJ,cK]; grind
 ·show mp (tt [(2,[(vS (x,y,z) l).2.1]),(-1,[tt (dY l),y])])=_
  generalize tt (dY l)=S
  generalize (vS (x,y,z) l).2.1=F
  simp only [cI,cF,cV,cJ,cK]; grind
 ·show mp (tt [(1,[tt (dY l),z])])=_
  generalize tt (dY l)=S
  simp only [cI,cF,cV,cJ,cK]; grind
theorem Fx (p q):mp (Et i j (p,q)).1=mp q * (mp i.1 * mp j.2.2)+mp p * (mp j.1 * mp i.2.2 - mp i.1 * mp j.2.2)/\mp (Et i j (p,q)).2.1=mp q * (mp i.2.1 * mp j.2.2)+mp p * (mp j.2.1 * mp i.2.2 - mp i.2.1 * mp j.2.2)/\mp (Et i j (p,q)).2.2=mp q * (mp i.2.2 * mp j.2.2):=by
 obtain ⟨a,b,c⟩:=i
 obtain ⟨x,y,z⟩:=j
 refine ⟨?_,?_,?_⟩
 ·show mp (tt [(1,[q,a,z]),(1,[p,tt [(1,[x,c]),(-1,[a,z])]])])=_
  simp only [cI,cF,cV,cJ,cK]; grind
 ·show mp (tt [(1,[q,b,z]),(1,[p,tt [(1,[y,c]),(-1,[b,z])]])])=_
  simp only [cI,cF,cV,cJ,cK]; grind
 ·show mp (tt [(1,[q,c,z])])=_
  simp only [cI,cF,cV,cJ,cK]; grind
abbrev On:Prop:=mp i.1 * mp l.1+mp i.2.1 * mp l.2.1+mp i.2.2 * mp l.2.2=0
theorem IB:On i (B0 i j):=by
 have h:=rG i j
 unfold On
 rw [h.1,h.2.1,h.2.2]
 grind
theorem IC:On j (B0 i j):=by
 have h:=rG i j
 unfold On
 rw [h.1,h.2.1,h.2.2]
 grind
theorem ID:On (B0 i j) i:=by
 have h:=rG i j
 unfold On
 rw [h.1,h.2.1,h.2.2]
 grind
theorem IE:On (B0 i j) j:=by
 have h:=rG i j
 unfold On
 rw [h.1,h.2.1,h.2.2]
 grind
theorem Fy (f):On (Et i j f) (B0 i j):=by
 obtain ⟨p,q⟩:=f
 have h:=Fx i j p q
 have k:=rG i j
 unfold On
 rw [h.1,h.2.1,h.2.2,k.1,k.2.1,k.2.2]
 grind
theorem K4:On i (Es i l):=by
 have h:=Fv i l
 unfold On
 rw [h.1,h.2.1,h.2.2]
 grind
theorem K5:On i (B3 i l):=by
 have h:=BH i l
 unfold On
 rw [h.1,h.2.1,h.2.2]
 grind
theorem IF:mp (Es i l).1 * mp l.2.1=mp (Es i l).2.1 * mp l.1:=by
 have h:=Fv i l
 rw [h.1,h.2.1]
 grind
theorem IG:mp (B3 i l).1 * mp l.1+mp (B3 i l).2.1 * mp l.2.1=0:=by
 have h:=BH i l
 rw [h.1,h.2.1]
 grind
theorem K6:On (vS i l) l:=by
 have h:=BI i l
 unfold On
 rw [h.1,h.2.1,h.2.2,rH]
 grind
theorem II:On (vS i l) (B3 i l):=by
 have h:=BI i l
 have k:=BH i l
 unfold On
 rw [h.1,h.2.1,h.2.2,k.1,k.2.1,k.2.2,rH]
 grind
theorem o9:mp (i6 i l).1=mp (tt (dY l)) * mp i.1 - 2 * (mp l.1 * (mp l.1 * mp i.1+mp l.2.1 * mp i.2.1+mp l.2.2 * mp i.2.2))/\mp (i6 i l).2.1=mp (tt (dY l)) * mp i.2.1 - 2 * (mp l.2.1 * (mp l.1 * mp i.1+mp l.2.1 * mp i.2.1+mp l.2.2 * mp i.2.2))/\mp (i6 i l).2.2=mp (tt (dY l)) * mp i.2.2:=by
 have h:=K3 i l
 have k:=BI i l
 refine ⟨?_,?_,h.2.2⟩
 ·rw [h.1,k.1,rH]; grind
 ·rw [h.2.1,k.2.1,rH]; grind
theorem vU:mp l.1 * mp (i6 i l).1+mp l.2.1 * mp (i6 i l).2.1+mp l.2.2 * mp (i6 i l).2.2= - (mp (tt (dY l)) * (mp l.1 * mp i.1+mp l.2.1 * mp i.2.1+mp l.2.2 * mp i.2.2)):=by
 have h:=o9 i l
 rw [h.1,h.2.1,h.2.2,rH]
 generalize mp l.1=p
 generalize mp l.2.1=q
 generalize mp l.2.2=r
 generalize mp i.1=x
 generalize mp i.2.1=y
 generalize mp i.2.2=z
 grind
theorem xT (x y z p q r X Y S:MP) (h:p * X+q * Y+r * (S * z)= - (S * (p * x+q * y+r * z))):(2 * (x * (S * z))+1 * (X * z - x * (S * z))) * p+(2 * (y * (S * z))+1 * (Y * z - y * (S * z))) * q+2 * (z * (S * z)) * r=0:=by
 grind
theorem Eu:On (Et i (i6 i l) (cN 1,cN 2)) l:=by
 have h:=Fx i (i6 i l) (cN 1) (cN 2)
 have k:=vU i l
 have e:=(o9 i l).2.2
 unfold On
 rw [h.1,h.2.1,h.2.2,Ft,Ft]
 rw [e] at k |-
 exact xT _ _ _ _ _ _ _ _ _ k
theorem BJ:mp (i6 (i6 i l) l).1=mp (tt (dY l)) * mp (tt (dY l)) * mp i.1/\mp (i6 (i6 i l) l).2.1=mp (tt (dY l)) * mp (tt (dY l)) * mp i.2.1/\mp (i6 (i6 i l) l).2.2=mp (tt (dY l)) * mp (tt (dY l)) * mp i.2.2:=by
 have h:=o9 (i6 i l) l
 have k:=o9 i l
 have e:=vU i l
 refine ⟨?_,?_,?_⟩
 ·rw [h.1,e,k.1]; grind
 ·rw [h.2.1,e,k.2.1]; grind
 ·rw [h.2.2,k.2.2]; grind
theorem BK (a b):mp (pj (i6 (i6 i l) l) a) * mp (pj i b)=mp (pj (i6 (i6 i l) l) b) * mp (pj i a):=by
 have h:=BJ i l
 have g:∀ k,mp (pj (i6 (i6 i l) l) k)=mp (tt (dY l)) * mp (tt (dY l)) * mp (pj i k):=λk=>by
  unfold pj
  split
  ·exact h.1
  ·split
   ·exact h.2.1
   ·exact h.2.2
 rw [g,g]
 grind
end
section
variable {K:Nu}
theorem K7 (h:∀ ps∈By (s,t),ay ps):rE [D3 s,D3 t] (.ok (.va (D3 (B0 s t)))):=tO (X:=By) (a:=(s,t)) h rfl
theorem MK (h:∀ ps∈BA (s,t),ay ps):Ep [D3 s,D3 t] (.ok (.va (D3 (Es s t)))):=tO (X:=BA) (a:=(s,t)) h rfl
theorem K8 (h:∀ ps∈BB (s,t),ay ps):xS [D3 s,D3 t] (.ok (.va (D3 (B3 s t)))):=tO (X:=BB) (a:=(s,t)) h rfl
theorem ML (h1:ay (dY t)) (h:∀ ps∈pF (s,t),ay ps):Er [D3 s,D3 t] (.ok (.va (D3 (vS s t)))):=tO (X:=pF) (a:=(s,t)) ⟨h1,h⟩ rfl
theorem K9 (h1:ay (dY t)) (h2:∀ ps∈pF (s,t),ay ps) (h:∀ ps∈En (s,t),ay ps):BC [D3 s,D3 t] (.ok (.va (D3 (i6 s t)))):=tO (X:=En) (a:=(s,t)) ⟨h1,h2,h⟩ rfl
theorem MM (hk:k<=10) (h1:∀ ps∈x6 (s,t),ay ps) (h:∀ ps∈xR (s,t,(BZ k,cT 1)),ay ps):Ls [D3 s,D3 t,.int (k:Int)] (.ok (.va (D3 (Et s t (BZ k,cT 1))))):=tO (X:=λu:T3×T3×Nat=>xR (u.1,u.2.1,(BZ u.2.2,cT 1))) (a:=(s,t,k)) ⟨hk,h1,h⟩ rfl
theorem La (h0:∀ ps∈Ie (n,d),ay ps) (h1:∀ ps∈x6 (s,t),ay ps) (h:∀ ps∈xR (s,t,(cN n,cN d)),ay ps):IZ [D3 s,D3 t,.tup [.int n,.int d]] (.ok (.va (D3 (Et s t (cN n,cN d))))):=tO (X:=λu:T3×T3×(Int×Int)=>xR (u.1,u.2.1,(cN u.2.2.1,cN u.2.2.2))) (a:=(s,t,(n,d))) ⟨h0,h1,h⟩ rfl
theorem Fz (hn:n.natAbs<1000) (hd:d.natAbs<1000):∀ ps∈Ie (n,d),ay ps:=bJ (nG hn).1 (bJ (nG hd).1 d7)
noncomputable def Ly:Fn:=λds r=>∃ (i j:T3) (t:Nat) (n:Int),Q3 5 3 60 i/\Q3 5 3 60 j/\t<=5/\n.natAbs<1000/\ds=[D3 i,D3 j,.int (t:Int),.tup [.int n,.int 1]]/\r=.ok (.va (.bl true))
theorem MN {t:Nat} (hi:Q3 5 3 60 i) (hj:Q3 5 3 60 j) (ht:t<=5) (hn:n.natAbs<1000):Ly [D3 i,D3 j,.int (t:Int),.tup [.int n,.int 1]] (.ok (.va (.bl true))):=⟨i,j,t,n,hi,hj,ht,hn,rfl,rfl⟩
section
local macro_rules | `(tactic| walk_at "evCa")=> `(tactic| first
 | with_reducible refine aV (F:=Fl) (by assumption) (by decide) ?_
 | with_reducible refine aV (F:=rE) (by assumption) (by decide) ?_
 | with_reducible refine aV (F:=Ls) (by assumption) (by decide) ?_
 | with_reducible refine aV (F:=IZ) (by assumption) (by decide) ?_)
local macro_rules | `(tactic| walk_at "evXC")=> `(tactic| first
 | with_reducible refine x_call (x:=Nr "through_line") (F:=rE) (by assumption) (by decide) ?_)
theorem Lb (Fu:dh K "_law_points_good" "_law_points_good" (top 47) ff fd) (h1:cu P w K mg base 5 "_law_on" Fl) (h2:cu P w K mg base 6 "through_line" rE) (h3:cu P w K mg base 7 "slide_point" Ls) (h4:cu P w K mg base 7 "part_point" IZ):aY P w K mg base (cP P w) 8 ff fd ["_law_i","_law_j","_law_t","_law_f"] (cZ K Ly):=by
 refine bK Fu jv (by rintro ds r ⟨i,j,t,n,_,_,_,_,rfl,_⟩; rfl) (by rintro ds r ⟨i,j,t,n,_,_,_,_,_,rfl⟩; exact ⟨_,rfl⟩) λc hq ds sl hF=>?_
 obtain ⟨i,j,t,n,hi,hj,ht,hn,rfl,ee⟩:=hF
 injection ee with ee
 subst ee
 have a:=Fo hi hj
 have b:=BG (f:=(BZ t,cT 1)) hi hj (K0 ht) K1
 have d:=BG (f:=(cN n,cN 1)) hi hj (nG hn).2.mono (nG (by decide)).2.mono
 show aG c _ [.va (D3 i),.va (D3 j),.va (.int (t:Int)),.va (.tup [.int n,.int 1]),.un] _ _
 conv in (aj _)=>whnf
 refine aN ?_
 generalize hG:(λρ'=>aG c _ ρ' _ _)=G
 walk_at "ev"
 refine ak (K7 a.1) ?_
 walk_at "ev"
 subst hG
 refine aN ?_
 generalize hG:(λρ'=>aG c _ ρ' _ _)=G
 walk_at "ev"
 refine ak (lN (gr hi a.2 (IB i j))) ?_
 walk_at "ev"
 refine ak (lN (gr hj a.2 (IC i j))) ?_
 walk_at "ev"
 subst hG
 walk_at "ev"
 refine ak (MM (by lia) b.1 b.2.1) (jD ?_)
 walk_at "ev"
 refine ak (lN (gr b.2.2 a.2 (Fy i j _))) ?_
 walk_at "ev"
 refine ak (La (Fz hn (by decide)) d.1 d.2.1) (jD ?_)
 walk_at "ev"
 refine ak (lN (gr d.2.2 a.2 (Fy i j _))) ?_
 walk_at "ev"
 rfl
end
noncomputable def Lz:Fn:=λds r=>∃ i l m:T3,Q3 5 3 60 i/\Q3 5 3 60 l/\Q3 5 3 60 m/\ds=[D3 i,D3 l,D3 m]/\r=.ok (.va (.bl true))
theorem MO (hi:Q3 5 3 60 i) (hl:Q3 5 3 60 l) (hm:Q3 5 3 60 m):Lz [D3 i,D3 l,D3 m] (.ok (.va (.bl true))):=⟨i,l,m,hi,hl,hm,rfl,rfl⟩
theorem Lm.out (h:Lm la ea ba A) (g:Lm lb eb bb B) (d:Dm la ea ba:=by decide) (d':Dm lb eb bb:=by decide):(aO (aF A B)).length<=la * lb/\Ex (ea+eb) (aO (aF A B)) :=
 have t:=h.prod g d.2.2.1 d'.2.2.1
 ⟨NI (fW _) t.l,t.e.mh⟩
section
local macro_rules | `(tactic| walk_at "evCa")=> `(tactic| first
 | with_reducible refine aV (F:=Fl) (by assumption) (by decide) ?_
 | with_reducible refine aV (F:=rB) (by assumption) (by decide) ?_
 | with_reducible refine aV (F:=nD) (by assumption) (by decide) ?_
 | with_reducible refine aV (F:=o6) (by assumption) (by decide) ?_)
local macro_rules | `(tactic| walk_at "evXC")=> `(tactic| first
 | with_reducible refine x_call (x:=Nr "meet_point") (F:=rE) (by assumption) (by decide) ?_
 | with_reducible refine x_call (x:=Nr "side_line") (F:=Ep) (by assumption) (by decide) ?_
 | with_reducible refine x_call (x:=Nr "square_line") (F:=xS) (by assumption) (by decide) ?_)
theorem Lc (Fu:dh K "_law_lines_good" "_law_lines_good" (top 48) ff fd) (h1:cu P w K mg base 5 "_law_on" Fl) (h2:cu P w K mg base 6 "meet_point" rE) (h3:cu P w K mg base 6 "side_line" Ep) (h4:cu P w K mg base 6 "square_line" xS) (h5:cu P w K mg base 3 "poly_sum" nD) (h6:cu P w K mg base 3 "poly_less" o6) (h7:cu P w K mg base 4 "poly_times" rB):aY P w K mg base (cP P w) 8 ff fd ["_law_i","_law_l","_law_m"] (cZ K Lz):=by
 refine bK Fu jR (by rintro ds r ⟨i,j,t,_,_,_,rfl,_⟩; rfl) (by rintro ds r ⟨i,j,t,_,_,_,_,rfl⟩; exact ⟨_,rfl⟩) λc hq ds sl hF=>?_
 obtain ⟨i,l,m,hi,hl,hm,rfl,ee⟩:=hF
 injection ee with ee
 subst ee
 have a:=Fo hl hm
 have b:=K2 hi hl
 have d:=Fq hi hl
 have x1:=IF i l
 have x2:=IG i l
 have y1:=gr hi b.2 (K4 i l)
 have y2:=gr hi d.2 (K5 i l)
 show aG c _ [.va (D3 i),.va (D3 l),.va (D3 m),.un,.un,.un] _ _
 conv in (aj _)=>whnf
 refine aN ?_
 generalize hG:(λρ'=>aG c _ ρ' _ _)=G
 walk_at "ev"
 refine ak (K7 a.1) ?_
 walk_at "ev"
 subst hG
 refine aN ?_
 generalize hG:(λρ'=>aG c _ ρ' _ _)=G
 walk_at "ev"
 refine ak (lN (gr a.2 hl (ID l m))) ?_
 walk_at "ev"
 refine ak (lN (gr a.2 hm (IE l m))) ?_
 walk_at "ev"
 subst hG
 refine aN ?_
 generalize hG:(λρ'=>aG c _ ρ' _ _)=G
 walk_at "ev"
 refine ak (MK b.1) ?_
 walk_at "ev"
 subst hG
 refine aN ?_
 generalize hG:(λρ'=>aG c _ ρ' _ _)=G
 walk_at "ev"
 refine ak (K8 d.1) ?_
 walk_at "ev"
 subst hG
 refine aN ?_
 generalize hG:(λρ'=>aG c _ ρ' _ _)=G
 walk_at "ev"
 refine ak (lN y1) ?_
 walk_at "ev"
 refine ak (lN y2) ?_
 walk_at "ev"
 subst hG
 have b2:=b.2
 have d2:=d.2
 clear a b d y1 y2
 generalize Es i l=s at *
 generalize B3 i l=t at *
 obtain ⟨s0,s1,s2⟩:=s
 obtain ⟨t0,t1,t2⟩:=t
 obtain ⟨p,q,r⟩:=l
 have k1:=b2.p.out hl.q
 have k2:=b2.q.out hl.p
 have k3:=d2.p.out hl.p
 have k4:=d2.q.out hl.q
 show aG c _ [.va (D3 i),.va (.tup [ah p,ah q,ah r]),.va (D3 m),_,.va (.tup [ah s0,ah s1,ah s2]),.va (.tup [ah t0,ah t1,ah t2])] _ _
 refine aN ?_
 generalize hG:(λρ'=>aG c _ ρ' _ _)=G
 walk_at "ev"
 refine ak (lJ (b2.p.I0 hl.q (by decide) (by decide) (by decide))) (aU ?_)
 walk_at "ev"
 refine ak (lJ (b2.q.I0 hl.p (by decide) (by decide) (by decide))) (aU ?_)
 walk_at "ev"
 refine ak (DT (by have:=k1.1; have:=k2.1; lia) λz hz=>NI (((k1.2.app k2.2) z hz).1) (by decide)) (aU ?_)
 rw [show aO (aO (aF s0 q)++(aO (aF s1 p)).map jn)=[] from dW (B:=[]) (by
  have x1:mp s0 * mp q=mp s1 * mp p:=x1
  rw [f9,HD,c9,c9,dU,dU,x1,BD]; grind)]
 walk_at "ev"
 refine o8 ?_
 walk_at "ev"
 subst hG
 walk_at "ev"
 refine ak (lJ (d2.p.I0 hl.p (by decide) (by decide) (by decide))) (aU ?_)
 walk_at "ev"
 refine ak (lJ (d2.q.I0 hl.q (by decide) (by decide) (by decide))) (aU ?_)
 walk_at "ev"
 refine ak (A4 (by have:=k3.1; have:=k4.1; lia) λz hz=>NI (((k3.2.app k4.2) z hz).1) (by decide)) (aU ?_)
 rw [show aO (aO (aF t0 p)++aO (aF t1 q))=[] from dW (B:=[]) (by
  have x2:mp t0 * mp p+mp t1 * mp q=0:=x2
  rw [f9,c9,c9,dU,dU,x2,BD])]
 walk_at "ev"
 refine o8 ?_
 rfl
end
noncomputable def Ld:Fn:=λds r=>∃ i l:T3,Q3 2 3 60 i/\Q3 2 3 60 l/\ds=[D3 i,D3 l]/\r=.ok (.va (.bl true))
theorem MQ (hi:Q3 2 3 60 i) (hl:Q3 2 3 60 l):Ld [D3 i,D3 l] (.ok (.va (.bl true))):=⟨i,l,hi,hl,rfl,rfl⟩
section
local macro_rules | `(tactic| walk_at "evCa")=> `(tactic| first
 | with_reducible refine aV (F:=Fl) (by assumption) (by decide) ?_
 | with_reducible refine aV (F:=Lx) (by assumption) (by decide) ?_
 | with_reducible refine aV (F:=xS) (by assumption) (by decide) ?_
 | with_reducible refine aV (F:=BC) (by assumption) (by decide) ?_
 | with_reducible refine aV (F:=IZ) (by assumption) (by decide) ?_)
local macro_rules | `(tactic| walk_at "evXC")=> `(tactic| first
 | with_reducible refine x_call (x:=Nr "foot_point") (F:=Er) (by assumption) (by decide) ?_
 | with_reducible refine x_call (x:=Nr "mirrored_point") (F:=BC) (by assumption) (by decide) ?_)
theorem Le (Fu:dh K "_law_mirrors_good" "_law_mirrors_good" (top 49) ff fd) (h1:cu P w K mg base 5 "_law_on" Fl) (h2:cu P w K mg base 5 "_law_alike" Lx) (h3:cu P w K mg base 7 "foot_point" Er) (h4:cu P w K mg base 6 "square_line" xS) (h5:cu P w K mg base 8 "mirrored_point" BC) (h6:cu P w K mg base 7 "part_point" IZ):aY P w K mg base (cP P w) 9 ff fd ["_law_i","_law_l"] (cZ K Ld):=by
 refine bK Fu iU (by rintro ds r ⟨i,j,_,_,rfl,_⟩; rfl) (by rintro ds r ⟨i,j,_,_,_,rfl⟩; exact ⟨_,rfl⟩) λc hq ds sl hF=>?_
 obtain ⟨i,l,hi,hl,rfl,ee⟩:=hF
 injection ee with ee
 subst ee
 have s0:=rF hl
 have a:=BE hi hl
 have b:=Iv hi hl
 have a':=BF b.2 hl
 have b':=Iw b.2 hl
 have d:=Fq (hi.mono (lb:=5)) (hl.mono (lb:=5))
 have g:=Iz (f:=(cN 1,cN 2)) hi b.2 (nG (by decide)).2.mono (nG (by decide)).2.mono
 have y1:=gr a.2 hl (K6 i l)
 have y2:=gr a.2 d.2 (II i l)
 have y3:=gr g.2.2 hl (Eu i l)
 have y4:Iu (i6 (i6 i l) l) i:=⟨λj k=>(b'.2.at j).I0 (hi.at k) (by decide) (by decide) (by decide),BK i l⟩
 show aG c _ [.va (D3 i),.va (D3 l),.un,.un] _ _
 conv in (aj _)=>whnf
 refine aN ?_
 generalize hG:(λρ'=>aG c _ ρ' _ _)=G
 walk_at "ev"
 refine ak (ML s0.1 a.1) ?_
 walk_at "ev"
 subst hG
 refine aN ?_
 generalize hG:(λρ'=>aG c _ ρ' _ _)=G
 walk_at "ev"
 refine ak (K9 s0.1 a.1 b.1) ?_
 walk_at "ev"
 subst hG
 refine aN ?_
 generalize hG:(λρ'=>aG c _ ρ' _ _)=G
 walk_at "ev"
 refine ak (lN y1) ?_
 walk_at "ev"
 refine ak (K8 d.1) (jD ?_)
 walk_at "ev"
 refine ak (lN y2) ?_
 walk_at "ev"
 subst hG
 walk_at "ev"
 refine ak (La (Fz (by decide) (by decide)) g.1 g.2.1) (jD ?_)
 walk_at "ev"
 refine ak (lN y3) ?_
 walk_at "ev"
 refine ak (K9 s0.1 a'.1 b'.1) (jD ?_)
 walk_at "ev"
 refine ak (MJ y4) ?_
 walk_at "ev"
 rfl
end
end
section
variable {P:Program} {w:World} {K:Nu} {mg:Str->Option Value} {base:Heap}
noncomputable def nH (ns:List Int) (k:Nat):Int:=if k<ns.length then ns.getD k 0 % 2147483647 else 0
noncomputable def rJ:Fn:=λds r=>∃ (ns:List Int) (k:Nat),ds=[.lst (ns.map .int),.int (k:Int)]/\r=.ok (.va (.int (nH ns k)))
theorem IJ (ns) (k:Nat):rJ [.lst (ns.map .int),.int (k:Int)] (.ok (.va (.int (nH ns k)))):=⟨ns,k,rfl,rfl⟩
theorem BL {ns:List Int} (h:k<ns.length):jU (ns.map D.int) (k:Int)=some (D.int (ns.getD k 0)):=by
 rw [j3 (by lia) (by simp; lia),Oz,NO,NX h,OG,NX h]
 rfl
theorem Ew (ns):rJ [.lst (ns.map .int),.int 0] (.ok (.va (.int (nH ns 0)))):=IJ ns 0
theorem Ey (Fu:dh K "_law_cell" "_law_cell" (top 39) f fd) (T:Txt K mg):aY P w K mg base (cP P w) 1 f fd ["_law_script","_law_k"] (cZ K rJ):=by
 refine bK Fu xF (by rintro ds r ⟨ns,k,rfl,_⟩; rfl) (by rintro ds r ⟨ns,k,_,rfl⟩; exact ⟨_,rfl⟩) λc hq ds sl hF=>?_
 obtain ⟨ns,k,rfl,e⟩:=hF
 injection e with e
 subst e
 show aG c _ [.va (.lst (ns.map .int)),.va (.int (k:Int))] _ _
 conv in (aj _)=>whnf
 walk_at "ev"
 ·have hk:k<ns.length:=by simp only [ND] at *; lia
  refine p5 (BL hk) ?_
  walk_at "ev"
  show Sl.va _=Sl.va _
  unfold nH
  rw [if_pos hk]
 ·have hk:¬ k<ns.length:=by simp only [ND] at *; lia
  show Sl.va _=Sl.va _
  unfold nH
  rw [if_neg hk]
theorem tP (cs:List Int) (o:Int) {k:Int} (hk:k.natAbs<5):Lm 5 3 60 (aO (ig cs o k)) where
 l:=NI (fW _) (lM ..)
 e:=Ex.mh λt ht=>⟨NI (j9 cs o k hk t ht).1 (by decide),(j9 cs o k hk t ht).2.1⟩
 b:=λt ht=>Ol ((Bn.mh (m:=31) (λt ht=>(j9 cs o k hk t ht).2.2) (Pg (lM ..) (by decide))) t ht) (RC (by decide) (by decide))
noncomputable def Lf (cs:List Int) (o:Int):T3:=(aO (ig cs o 0),aO (ig cs o 1),aO (ig cs o 2))
theorem BN (cs) (o):Q3 5 3 60 (Lf cs o):=⟨tP cs o (by decide),tP cs o (by decide),tP cs o (by decide)⟩
theorem IK (ho:o.natAbs<10) (hl:cs.length<=1000):Em [.lst (cs.map .int),.int o] (.ok (.va (D3 (Lf cs o)))):=⟨cs,o,ho,hl,rfl,rfl⟩
theorem rK (xs:List α) (a b:Nat):(EV.cutD xs (some (a:Int)) (some (b:Int))).length<=b - a:=by
 unfold EV.cutD HT.bZ
 simp only [show ¬ ((a:Int)<0) by lia,show ¬ ((b:Int)<0) by lia,if_false,Ow,TF,Oz]
 lia
theorem rL (xs:List α) (k:Nat):EV.cutD xs none (some (k:Int))=xs.take k:=by
 unfold EV.cutD
 rw [HT.yp,HT.Cd,List.drop_zero,Nat.sub_zero]
 rcases Nat.le_total k xs.length with h | h
 ·rw [QY h]
 ·rw [Nat.min_eq_right h,P1 (Ny _),P1 h]
noncomputable def t2 (s:T3):T3:=(s.1.take 2,s.2.1.take 2,s.2.2.take 2)
theorem BO (h:Lm l e b A):Lm 2 e b (A.take 2):=⟨by rw [Ow]; exact Nat.min_le_left _ _,λt ht=>h.e t (Qs ht),λt ht=>h.b t (Qs ht)⟩
theorem Lg (h:Q3 5 3 60 s):Q3 2 3 60 (t2 s):=⟨BO h.p,BO h.q,BO h.r⟩
section
local macro_rules | `(tactic| walk_at "evR")=> `(tactic| first
 | with_reducible refine ak (IK (by decide) (by assumption)) ?_
 | with_reducible refine ak (Ew _) ?_)
local macro_rules | `(tactic| walk_at "evCa")=> `(tactic| first
 | with_reducible refine aV (F:=Em) (by assumption) (by decide) ?_
 | with_reducible refine aV (F:=rJ) (by assumption) (by decide) ?_
 | with_reducible refine aV (F:=Ly) (by assumption) (by decide) ?_
 | with_reducible refine aV (F:=Lz) (by assumption) (by decide) ?_
 | with_reducible refine aV (F:=Ld) (by assumption) (by decide) ?_)
theorem IL (Fu:dh K "law" "law" (top 50) f fd) (T:Txt K mg) (h1:cu P w K mg base 1 "_law_cell" rJ) (h2:cu P w K mg base 3 "_law_three" Em) (h3:cu P w K mg base 8 "_law_points_good" Ly) (h4:cu P w K mg base 8 "_law_lines_good" Lz) (h5:cu P w K mg base 9 "_law_mirrors_good" Ld):aY P w K mg base (cP P w) 10 f fd ["_law_script"] (cZ K zw):=by
 refine bK Fu HL (by rintro ds r ⟨ns,_,rfl,_⟩; rfl) (by rintro ds r ⟨ns,_,_,rfl⟩; exact ⟨_,rfl⟩) λc hq ds sl hF=>?_
 obtain ⟨ns,hl,rfl,e⟩:=hF
 injection e with e
 subst e
 show aG c _ [.va (.lst (ns.map D.int)),.un,.un,.un,.un,.un,.un,.un,.un] _ _
 conv in (aj _)=>whnf
 refine aN ?_
 generalize hG:(λρ'=>aG c _ ρ' _ _)=G
 walk_at "ev"
 ·have:(EV.cutD (ns.map D.int) (some 2) (some 63)).length<=61:=rK _ 2 63
  exact vF (by simp only [O7]; lia)
 subst hG
 show aG c _ [.va (.lst (ns.map D.int)),.ow (EV.cutD (ns.map D.int) (some 2) (some 63)++[.int 5]),.un,.un,.un,.un,.un,.un,.un] _ _
 have hcs:EV.cutD (ns.map D.int) (some 2) (some 63)++[D.int 5]=(EV.cutD ns (some 2) (some 63)++[5]).map .int:=by rw [iI,Oq]; rfl
 have hcl:(EV.cutD ns (some 2) (some 63)++[5]).length<=1000:=by
  have:(EV.cutD ns (some 2) (some 63)).length<=61:=rK _ 2 63
  rw [N5,O7]; lia
 rw [hcs]
 generalize EV.cutD ns (some 2) (some 63)++[5]=cs at hcl |-
 refine kL 1 (by walk_at "at") rfl (by walk_at "sset") ?_
 refine aN ?_
 generalize hG:(λρ'=>aG c _ ρ' _ _)=G
 walk_at "ev"
 subst hG
 refine aN ?_
 generalize hG:(λρ'=>aG c _ ρ' _ _)=G
 walk_at "ev"
 subst hG
 refine aN ?_
 generalize hG:(λρ'=>aG c _ ρ' _ _)=G
 walk_at "ev"
 subst hG
 have qi:=BN cs 0
 have qj:=BN cs 1
 have ql:=BN cs 2
 generalize Lf cs 0=i at *
 generalize Lf cs 1=j at *
 generalize Lf cs 2=l at *
 refine aN ?_
 generalize hG:(λρ'=>aG c _ ρ' _ _)=G
 walk_at "ev"
 subst hG
 generalize nH ns 0 % 8=kd
 refine aN (EZ (λρ'=>∃ j,Q3 5 3 60 j/\ρ'=[.va (.lst (ns.map D.int)),.va (.lst (cs.map D.int)),.va (D3 i),.va (D3 j),.va (D3 l),.va (.int kd),.un,.un,.un]) ?_ ?_)
 ·walk_at "ev"
  ·exact ⟨_,qi,rfl⟩
  ·exact ⟨_,qj,rfl⟩
 rintro ρ' ⟨j,qj,rfl⟩
 refine aN (EZ (λρ'=>∃ l,Q3 5 3 60 l/\ρ'=[.va (.lst (ns.map D.int)),.va (.lst (cs.map D.int)),.va (D3 i),.va (D3 j),.va (D3 l),.va (.int kd),.un,.un,.un]) ?_ ?_)
 ·obtain ⟨p,q,r⟩:=l
  show jA c _ [_,_,_,_,.va (.tup [ah p,ah q,ah r]),_,_,_,_] _
  walk_at "ev"
  ·exact ⟨(p,[],r),⟨ql.p,Lm.nil,ql.r⟩,rfl⟩
  ·exact ⟨_,ql,rfl⟩
 rintro ρ' ⟨l,ql,rfl⟩
 have hns:ns.map D.int++[.int 9,.int 4]=(ns++[9,4]).map D.int:=by rw [Oq]; rfl
 have hn2:2<=(ns++[9,4]).length:=by rw [N5]; show 2<=ns.length+2; lia
 have at1:jU ((ns++[9,4]).map D.int) 1=some (.int ((ns++[9,4]).getD 1 0)):=BL (k:=1) (by lia)
 have hnl:(ns.map D.int).length+[D.int 9,D.int 4].length<=sizeLine:=vF (by rw [ND]; show ns.length+2<=1000000; lia)
 generalize ns++[9,4]=ms at hns hn2 at1
 refine aN ?_
 generalize hG:(λρ'=>aG c _ ρ' _ _)=G
 walk_at "ev"
 rw [hns]
 refine p5 at1 ?_
 walk_at "ev"
 subst hG
 generalize ms.getD 1 0=oth
 refine aN ?_
 generalize hG:(λρ'=>aG c _ ρ' _ _)=G
 walk_at "ev"
 subst hG
 have hf:(oth / 6 % 19 - 9).natAbs<1000:=by lia
 obtain ⟨t,ht,et⟩:∃ t:Nat,t<=5/\oth % 6=t:=⟨(oth % 6).toNat,by lia,by lia⟩
 generalize oth / 6 % 19 - 9=n at hf |-
 refine aN ?_
 generalize hG:(λρ'=>aG c _ ρ' _ _)=G
 walk_at "ev"
 rw [et]
 refine ak (MN qi qj ht hf) ?_
 walk_at "ev"
 refine ak (MO qi ql qj) ?_
 walk_at "ev"
 subst hG
 obtain ⟨a,b,c'⟩:=i
 obtain ⟨p,q,r⟩:=l
 have m1:=MQ (Lg qi) (Lg ql)
 show aG c _ [_,_,.va (.tup [ah a,ah b,ah c']),_,.va (.tup [ah p,ah q,ah r]),_,_,_,_] _ _
 refine aN (uv (by walk_at "at") (uh (jY (Txt.tuple T) (e_x (eF hq (N':=["_law_terms"]) (ρ0:=λ_=>[.un]) (λt=>.un .nil) (cX ?_))))))
 generalize hG:(λρ'=>aG c _ ρ' _ _)=G
 walk_at "ev"
 refine ⟨[some (ah (a.take 2)),some (ah (b.take 2)),some (ah (c'.take 2))],rfl,?_,?_⟩
 ·intro c3 hc3 t' k d o hd ho
  obtain ⟨A,rfl,rfl⟩:∃ A:List aL,d=ah A/\o=some (ah (A.take 2)):=by
   match k,hd,ho with
   | 0,hd,ho=>cases hd; cases ho; exact ⟨_,rfl,rfl⟩
   | 1,hd,ho=>cases hd; cases ho; exact ⟨_,rfl,rfl⟩
   | 2,hd,ho=>cases hd; cases ho; exact ⟨_,rfl,rfl⟩
  refine dM (by walk_at "at") (uu (by walk_at "sset") ⟨.un .nil,?_⟩)
  simp only [lQ]
  refine ⟨λ_=>?_,λh=>by cases h⟩
  refine kG ?_
  walk_at "ev"
  show CJ (.lst (A.map aB)) none (some 2) _
  walk_at "ev"
  show some (D.lst ((A.take 2).map aB))=some (D.lst (EV.cutD (A.map aB) none (some 2)))
  rw [show EV.cutD (A.map aB) none (some 2)=_ from rL _ 2,R8]
 walk_at "ev"
 subst hG
 refine aN (cj (x_call (F:=Ld) h5 (by decide) (bz (iz (by walk_at "at") (by walk_at "at") ?_))))
 refine bz (jY (Txt.tuple T) (e_x (eF hq (N':=["_law_terms"]) (ρ0:=λ_=>[.un]) (λt=>.un .nil) (cX ?_))))
 walk_at "ev"
 refine ⟨[some (ah (p.take 2)),some (ah (q.take 2)),some (ah (r.take 2))],rfl,?_,?_⟩
 ·intro c3 hc3 t' k d o hd ho
  obtain ⟨A,rfl,rfl⟩:∃ A:List aL,d=ah A/\o=some (ah (A.take 2)):=by
   match k,hd,ho with
   | 0,hd,ho=>cases hd; cases ho; exact ⟨_,rfl,rfl⟩
   | 1,hd,ho=>cases hd; cases ho; exact ⟨_,rfl,rfl⟩
   | 2,hd,ho=>cases hd; cases ho; exact ⟨_,rfl,rfl⟩
  refine dM (by walk_at "at") (uu (by walk_at "sset") ⟨.un .nil,?_⟩)
  simp only [lQ]
  refine ⟨λ_=>?_,λh=>by cases h⟩
  refine kG ?_
  walk_at "ev"
  show CJ (.lst (A.map aB)) none (some 2) _
  walk_at "ev"
  show some (D.lst ((A.take 2).map aB))=some (D.lst (EV.cutD (A.map aB) none (some 2)))
  rw [show EV.cutD (A.map aB) none (some 2)=_ from rL _ 2,R8]
 walk_at "ev"
 refine ak m1 ?_
 rfl
end
end
section
variable {K:Nu}
theorem Ez (xX:mg "law"=some (.ref fa)) (T:Txt K mg) (xPLACES:∃ tk:Tok,mg "PLACES"=some (.int 6 tk))
 (D2:aq K mg "trimmed" (top 2))
 (D3:aq K mg "poly_of" (top 3))
 (D4:aq K mg "poly_sum" (top 4))
 (D5:aq K mg "poly_less" (top 5))
 (D6:aq K mg "greatest_powers" (top 6))
 (D7:aq K mg "width_for" (top 7))
 (D8:aq K mg "key_of" (top 8))
 (D9:aq K mg "powers_of" (top 9))
 (D10:aq K mg "packed" (top 10))
 (D11:aq K mg "unpacked" (top 11))
 (D12:aq K mg "add_products" (top 12))
 (D13:aq K mg "poly_times" (top 13))
 (D15:aq K mg "width_of" (top 15))
 (D16:aq K mg "add_part" (top 16))
 (D17:aq K mg "poly_total" (top 17))
 (D18:aq K mg "free_poly" (top 18))
 (D19:aq K mg "told_fraction" (top 19))
 (D21:aq K mg "crossed" (top 21))
 (D22:aq K mg "way_between" (top 22))
 (D23:aq K mg "square_of_way" (top 23))
 (D25:aq K mg "part_rule" (top 25))
 (D26:aq K mg "side_rule" (top 26))
 (D27:aq K mg "square_rule" (top 27))
 (D28:aq K mg "foot_rule" (top 28))
 (D29:aq K mg "mirrored_rule" (top 29))
 (D30:aq K mg "slide_point" (top 30))
 (D31:aq K mg "through_line" (top 31))
 (D32:aq K mg "meet_point" (top 32))
 (D33:aq K mg "side_line" (top 33))
 (D34:aq K mg "square_line" (top 34))
 (D35:aq K mg "foot_point" (top 35))
 (D36:aq K mg "part_point" (top 36))
 (D37:aq K mg "mirrored_point" (top 37))
 (D39:aq K mg "_law_cell" (top 39))
 (D40:aq K mg "_law_thing" (top 40))
 (D41:aq K mg "_law_trimmed" (top 41))
 (D42:aq K mg "_law_sum" (top 42))
 (D43:aq K mg "_law_three" (top 43))
 (D44:aq K mg "_law_small_term" (top 44))
 (D45:aq K mg "_law_on" (top 45))
 (D46:aq K mg "_law_alike" (top 46))
 (D47:aq K mg "_law_points_good" (top 47))
 (D48:aq K mg "_law_lines_good" (top 48))
 (D49:aq K mg "_law_mirrors_good" (top 49))
 (D50:aq K mg "law" (top 50))
 : ∃ fd:FuncData,(∀ (s:Shared) (u:Value),BindsTo s fd ⟨[u],[]⟩ [("_law_script",u)])/\∀ base:Heap,K.In base->base.Ns mainGlobals mg->aY P w K mg base (cP P w) 20 fa fd ["_law_script"] (cZ K zw):=by
 refine Classical.byContradiction λhG=>?_
 obtain ⟨f50,fd50,m50,Fu50⟩:=D50
 have e:=xX.symm.trans m50
 cases e
 refine hG ⟨fd50,?_,λbase _ _=>?_⟩
 ·obtain ⟨oc,od,kV,doc,pm,an,cdv,ct,osl,rfl,lk,hcd⟩:=Fu50.ex
  exact λs u=>.of_eq rfl
 have C2:=aJ P w base D2 λu=>DP u T
 have C3:=aJ P w base D3 λu=>DR u T C2
 have C4:=aJ P w base D4 λu=>DU u T C3
 have C5:=aJ P w base D5 λu=>A5 u T C3
 have C6:=aJ P w base D6 λu=>Ba u T xPLACES
 have C7:=aJ P w base D7 λu=>HQ u T C6
 have C8:=aJ P w base D8 λu=>HR u T xPLACES
 have C9:=aJ P w base D9 λu=>Eb u T xPLACES C2
 have C10:=aJ P w base D10 λu=>Ec u T C8
 have C11:=aJ P w base D11 λu=>HW u T C9
 have C12:=vp P w base D12 λu=>HV u T
 have C13:=aJ P w base D13 λu=>HY u T C7 C10 C12 C11
 have C15:=aJ P w base D15 λu=>HZ u T C6
 have C16:=vp P w base D16 λu=>Bu u T C10 C12
 have C17:=aJ P w base D17 λu=>Ic u T C15 C16 C11
 have C18:=aJ P w base D18 λu=>Eo u T
 have C19:=aJ P w base D19 λu=>KQ u
 have C21:=aJ P w base D21 λu=>KA u
 have C22:=aJ P w base D22 λu=>KC u
 have C23:=aJ P w base D23 λu=>KI u
 have C25:=aJ P w base D25 λu=>KS u C22
 have C26:=aJ P w base D26 λu=>KD u
 have C27:=aJ P w base D27 λu=>KG u
 have C28:=aJ P w base D28 λu=>KL u C23
 have C29:=aJ P w base D29 λu=>KP u C23 C28
 have C30:=aJ P w base D30 λu=>KU u C17 C25 C18
 have C31:=aJ P w base D31 λu=>Ih u C17 C21
 have C32:=aJ P w base D32 λu=>Ii u C17 C21
 have C33:=aJ P w base D33 λu=>Ij u C17 C26
 have C34:=aJ P w base D34 λu=>Ik u C17 C27
 have C35:=aJ P w base D35 λu=>Il u C17 C28
 have C36:=aJ P w base D36 λu=>KW u C17 C25 C19
 have C37:=aJ P w base D37 λu=>Im u C17 C29
 have C39:=aJ P w base D39 λu=>Ey u T
 have C40:=aJ P w base D40 λu=>A3 u T
 have C41:=aJ P w base D41 λu=>A7 u T
 have C42:=aJ P w base D42 λu=>DS u T C41
 have C44:=aJ P w base D44 λu=>HP u T C40
 have C43:=aJ P w base D43 λu=>Bx u T C44 C42
 have C45:=aJ P w base D45 λu=>KY u T C4 C13
 have C46:=aJ P w base D46 λu=>KZ u T C13
 have C47:=aJ P w base D47 λu=>Lb u C45 C31 C30 C36
 have C48:=aJ P w base D48 λu=>Lc u C45 C32 C33 C34 C4 C5 C13
 have C49:=aJ P w base D49 λu=>Le u C45 C46 C35 C34 C37 C36
 exact (IL Fu50 T C39 C43 C47 C48 C49).mono (by decide)
end
end My
open PySem PySem.W PyProof.Rows
local macro_rules | `(tactic| walk_at "dm")=> `(tactic| (dsimp only [L2.dJ]; refine' EV.GZ (by assumption) (by assumption) ?a ?l ?c ?k; (case a=>k_is); (case l=>k_is); (case c=>k_is); (case k=>k_is)))
set_option maxRecDepth 100000 in
set_option maxHeartbeats 0 in
theorem PySem.Challenge.cw_everydraw_k15_whole_what_lies_on_what_holds : PySem.Challenge.rw_everydraw_k15_whole_what_lies_on_what.Holds := by
 w_on; o_law; k_head; (case hw=>w_witness2)
 k_fill
 refine EV.walk (k:=20) (l:=PySem.Challenge.rw_everydraw_k15_whole_what_lies_on_what) (by decide) rfl rfl (λw h Y=>PySem.W.kIn_of Y) ?F
 case F =>
  intro w mg fa h KX G hmg
  have D2:EV.aq (L2.dJ KX) mg (Str.ofString "trimmed") (My.top 2):=by walk_at "dm"
  have D3:EV.aq (L2.dJ KX) mg (Str.ofString "poly_of") (My.top 3):=by walk_at "dm"
  have D4:EV.aq (L2.dJ KX) mg (Str.ofString "poly_sum") (My.top 4):=by walk_at "dm"
  have D5:EV.aq (L2.dJ KX) mg (Str.ofString "poly_less") (My.top 5):=by walk_at "dm"
  have D6:EV.aq (L2.dJ KX) mg (Str.ofString "greatest_powers") (My.top 6):=by walk_at "dm"
  have D7:EV.aq (L2.dJ KX) mg (Str.ofString "width_for") (My.top 7):=by walk_at "dm"
  have D8:EV.aq (L2.dJ KX) mg (Str.ofString "key_of") (My.top 8):=by walk_at "dm"
  have D9:EV.aq (L2.dJ KX) mg (Str.ofString "powers_of") (My.top 9):=by walk_at "dm"
  have D10:EV.aq (L2.dJ KX) mg (Str.ofString "packed") (My.top 10):=by walk_at "dm"
  have D11:EV.aq (L2.dJ KX) mg (Str.ofString "unpacked") (My.top 11):=by walk_at "dm"
  have D12:EV.aq (L2.dJ KX) mg (Str.ofString "add_products") (My.top 12):=by walk_at "dm"
  have D13:EV.aq (L2.dJ KX) mg (Str.ofString "poly_times") (My.top 13):=by walk_at "dm"
  have D15:EV.aq (L2.dJ KX) mg (Str.ofString "width_of") (My.top 15):=by walk_at "dm"
  have D16:EV.aq (L2.dJ KX) mg (Str.ofString "add_part") (My.top 16):=by walk_at "dm"
  have D17:EV.aq (L2.dJ KX) mg (Str.ofString "poly_total") (My.top 17):=by walk_at "dm"
  have D18:EV.aq (L2.dJ KX) mg (Str.ofString "free_poly") (My.top 18):=by walk_at "dm"
  have D19:EV.aq (L2.dJ KX) mg (Str.ofString "told_fraction") (My.top 19):=by walk_at "dm"
  have D21:EV.aq (L2.dJ KX) mg (Str.ofString "crossed") (My.top 21):=by walk_at "dm"
  have D22:EV.aq (L2.dJ KX) mg (Str.ofString "way_between") (My.top 22):=by walk_at "dm"
  have D23:EV.aq (L2.dJ KX) mg (Str.ofString "square_of_way") (My.top 23):=by walk_at "dm"
  have D25:EV.aq (L2.dJ KX) mg (Str.ofString "part_rule") (My.top 25):=by walk_at "dm"
  have D26:EV.aq (L2.dJ KX) mg (Str.ofString "side_rule") (My.top 26):=by walk_at "dm"
  have D27:EV.aq (L2.dJ KX) mg (Str.ofString "square_rule") (My.top 27):=by walk_at "dm"
  have D28:EV.aq (L2.dJ KX) mg (Str.ofString "foot_rule") (My.top 28):=by walk_at "dm"
  have D29:EV.aq (L2.dJ KX) mg (Str.ofString "mirrored_rule") (My.top 29):=by walk_at "dm"
  have D30:EV.aq (L2.dJ KX) mg (Str.ofString "slide_point") (My.top 30):=by walk_at "dm"
  have D31:EV.aq (L2.dJ KX) mg (Str.ofString "through_line") (My.top 31):=by walk_at "dm"
  have D32:EV.aq (L2.dJ KX) mg (Str.ofString "meet_point") (My.top 32):=by walk_at "dm"
  have D33:EV.aq (L2.dJ KX) mg (Str.ofString "side_line") (My.top 33):=by walk_at "dm"
  have D34:EV.aq (L2.dJ KX) mg (Str.ofString "square_line") (My.top 34):=by walk_at "dm"
  have D35:EV.aq (L2.dJ KX) mg (Str.ofString "foot_point") (My.top 35):=by walk_at "dm"
  have D36:EV.aq (L2.dJ KX) mg (Str.ofString "part_point") (My.top 36):=by walk_at "dm"
  have D37:EV.aq (L2.dJ KX) mg (Str.ofString "mirrored_point") (My.top 37):=by walk_at "dm"
  have D39:EV.aq (L2.dJ KX) mg (Str.ofString "_law_cell") (My.top 39):=by walk_at "dm"
  have D40:EV.aq (L2.dJ KX) mg (Str.ofString "_law_thing") (My.top 40):=by walk_at "dm"
  have D41:EV.aq (L2.dJ KX) mg (Str.ofString "_law_trimmed") (My.top 41):=by walk_at "dm"
  have D42:EV.aq (L2.dJ KX) mg (Str.ofString "_law_sum") (My.top 42):=by walk_at "dm"
  have D43:EV.aq (L2.dJ KX) mg (Str.ofString "_law_three") (My.top 43):=by walk_at "dm"
  have D44:EV.aq (L2.dJ KX) mg (Str.ofString "_law_small_term") (My.top 44):=by walk_at "dm"
  have D45:EV.aq (L2.dJ KX) mg (Str.ofString "_law_on") (My.top 45):=by walk_at "dm"
  have D46:EV.aq (L2.dJ KX) mg (Str.ofString "_law_alike") (My.top 46):=by walk_at "dm"
  have D47:EV.aq (L2.dJ KX) mg (Str.ofString "_law_points_good") (My.top 47):=by walk_at "dm"
  have D48:EV.aq (L2.dJ KX) mg (Str.ofString "_law_lines_good") (My.top 48):=by walk_at "dm"
  have D49:EV.aq (L2.dJ KX) mg (Str.ofString "_law_mirrors_good") (My.top 49):=by walk_at "dm"
  have D50:EV.aq (L2.dJ KX) mg (Str.ofString "law") (My.top 50):=by walk_at "dm"
  have T:EV.Txt (L2.dJ KX) mg:=by
   dsimp only [L2.dJ]
   refine' EV.G1 KX G ?z1 ?z2 ?z3 ?z4 ?z5 ?z6 ?z7 ?z8 ?z9 ?z10 ?z11 ?z12 ?z13 ?z14 ?z15 ?z16 ?z17 ?sib
   (case z1=>k_is)
   (case z2=>k_is)
   (case z3=>k_is)
   (case z4=>k_is)
   (case z5=>k_is)
   (case z6=>k_is)
   (case z7=>k_is)
   (case z8=>k_is)
   (case z9=>k_is)
   (case z10=>k_is)
   (case z11=>k_is)
   (case z12=>k_is)
   (case z13=>k_is)
   (case z14=>k_is)
   (case z15=>k_is)
   (case z16=>k_is)
   (case z17=>k_is)
   (case sib=>k_is)
  have xPLACES:∃ tk:Tok,mg (Str.ofString "PLACES")=some (.int 6 tk):=by
   refine' EV.int_mk KX G ?a
   (case a=>k_is)
  exact My.Ez hmg T xPLACES D2 D3 D4 D5 D6 D7 D8 D9 D10 D11 D12 D13 D15 D16 D17 D18 D19 D21 D22 D23 D25 D26 D27 D28 D29 D30 D31 D32 D33 D34 D35 D36 D37 D39 D40 D41 D42 D43 D44 D45 D46 D47 D48 D49 D50
