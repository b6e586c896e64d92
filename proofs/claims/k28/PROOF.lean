import PyProof.Rows.All
import Wide.All
import OpenK.AllK
import Wide.FinOn
import PySem.Challenge.RW_everydraw_k28_whole_curves_hold
namespace EV
theorem z2 {α β} {P:α->β->Prop} {G:Prop} (h:∃ a b,P a b) (k:∀ a b,P a b->G):G:=h.elim λa h=>h.elim (k a)
theorem z3 {α β γ} {P:α->β-> γ ->Prop} {G:Prop} (h:∃ a b c,P a b c) (k:∀ a b c,P a b c->G):G:=h.elim λa h=>z2 h (k a)
theorem z4 {α β γ δ} {P:α->β-> γ -> δ ->Prop} {G:Prop} (h:∃ a b c d,P a b c d) (k:∀ a b c d,P a b c d->G):G:=h.elim λa h=>z3 h (k a)
theorem z5 {α β γ δ ε} {P:α->β-> γ -> δ -> ε ->Prop} {G:Prop} (h:∃ a b c d e,P a b c d e) (k:∀ a b c d e,P a b c d e->G):G:=h.elim λa h=>z4 h (k a)
theorem w2 {a b G:Prop} (h:a/\b) (k:a->b->G):G:=k h.1 h.2
theorem w3 {a b c G:Prop} (h:a/\b/\c) (k:a->b->c->G):G:=w2 h.2 (k h.1)
theorem w4 {a b c d G:Prop} (h:a/\b/\c/\d) (k:a->b->c->d->G):G:=w3 h.2 (k h.1)
theorem w5 {a b c d e G:Prop} (h:a/\b/\c/\d/\e) (k:a->b->c->d->e->G):G:=w4 h.2 (k h.1)
theorem w6 {a b c d e f G:Prop} (h:a/\b/\c/\d/\e/\f) (k:a->b->c->d->e->f->G):G:=w5 h.2 (k h.1)
theorem w7 {a b c d e f g G:Prop} (h:a/\b/\c/\d/\e/\f/\g) (k:a->b->c->d->e->f->g->G):G:=w6 h.2 (k h.1)
theorem w8 {a b c d e f g i G:Prop} (h:a/\b/\c/\d/\e/\f/\g/\i) (k:a->b->c->d->e->f->g->i->G):G:=w7 h.2 (k h.1)
end EV
set_option genSizeOf false
set_option Elab.async false
set_option linter.all false
set_option maxRecDepth 100000
open PySem renaming wpAny_bind->Ol,wpAny_pure->Oq,Spec->O3,wpAny_field->Pb,wpAny_mono->Pe,wpAny_newObj_type->Pk,wpAny_rule->Pw,wpAny_call_entry->PK,wpAny_holding->PY,wpAny_setField_rec->P7,wpAny_callSpecial?_slot->Qf,wpAny_seqItems->Qt,wpAny_Call_Name_kw->Qw,Builtin->Qz,wpAny_attempt->QN,wpAny_typeOf->QO,wpAny_passesOwn->Rb,wpAny_setField->Rf,wpAny_letGo->Rk,wpAny_dictEntries->RJ,wpAny_dictEpoch->RL,typeIs_int->RT,call_meets->RU,mem_of_lookup->R4,wpAny_truthy_bool->R5,wpAny_isInstance->R7,wpAny_newList->Se,codeAny_mono->Sk,wpAny_typeNameOfWhole_itemiter->Sw,wpAny_typeNameOfWhole_keyiter->Sx,wpAny_typeNameOf_itemiter->SA,wpAny_typeNameOf_keyiter->SG,tupleKind_room_in1->S6,codeAny_builtin->Tq,wpAny_newTuple->Tw,wpAny_fieldsOf->Tz,wpAny_onRaise->TN,wpAny_handled->TQ,concat_meets->TV,wpAny_throw->T8,wpAny_of_eq->T9,wpAny_isOneOf_itemiter->Uo,wpAny_updateSeq_pair->Ux,wpAny_pyIter_tuple->UE,wpAny_sequenceKey->UL,wpAny_pyIter_slot->UM,wpAny_pyIter_list->UN,slot_list_getitem->UO,noFill_tuple_add->UX
open PySem.Str renaming ofString->Om
open PySem.W renaming Frag->Oo,nsIn->Pq,mg_none_of->Pz,keepIn->Qu,fnOf->QC,findIn->QM,codeIn->TJ,callWith_K->UH,specialIn->UP,methodObj->UQ
open Nat renaming le_refl->Ot,le_trans->OD,ne_of_lt->OU,zero_le->OV,lt_of_lt_of_le->Ph,lt_irrefl->Qj,le_add_right->Qs,lt_of_le_of_lt->Qx,le_of_lt->QD,zero_add->QS,ne_of_gt->QT,le_of_ble_eq_true->Q0,lt_succ_self->Q9,mul_le_mul->Rg,min_eq_left->RN,succ_mul->RP,le_sub_one_of_lt->SW,lt_succ_of_lt->Td,succ_le_succ->Ti,mul_comm->TZ,one_le_iff_ne_zero->Ur,pow_le_pow_right->Uy,add_sub_cancel'->UB
open PyProof.Rows renaming wpS_bind->Ou,wpS_pure->Ov,wpS_mono->O6,wpS_forRange->PF,listUpdate_at->Qc,wpS_get->Qd,wpS_modify->Qq,wpS_lift->QW,slot_tuple_getitem->Rq,callWith_type1->Rt,seqEpoch_at->RS,listItems_at->Sj,mirror_perm->Sn,slot_tupleiter_next->S0,get?_update_seq->Tp,wpAny_call_entry_kw->UA,assignInOrder_cons->UG,callWith_builtin1->Vc
open PySem.Heap renaming get?_push_of_some->Ow,lt_size->Oz,get?_push_size->OF,size_push->Qi,SameBut->Qn,ExtBut->QF,get?_update_ne->QJ,get?_update_other->SN,get?_update_self->Uw,get?_push_ne->UU,size_update->U3
open List renaming length_map->Ox,map_cons->OA,replicate->OB,getElem?_map->OE,mem_singleton->OG,getElem?_eq_some_iff->OH,mem_cons_self->OI,mem_cons_of_mem->OJ,mem_cons->OM,size_toArray->OP,map_map->OQ,getElem?_eq_getElem->OR,append_assoc->OY,mem_append->OZ,mem_map->O1,length_append->O7,getElem_mem->O9,length_cons->Pa,range->Pd,take_length->Pn,length_take->Pp,map_append->Pu,take_succ_eq_append_getElem->Px,mem_of_getElem?->Py,append_nil->PD,getD_eq_getElem?_getD->PJ,not_mem_nil->PX,getElem?_set_self->P4,getElem?_set_ne->P5,filterMap_cons->P6,foldl_cons->P8,replicate_succ->Qg,find?_cons->Qh,take_append_drop->Qk,mem_append_right->Ql,getElem?_eq_none->Qm,length_nil->Qp,map_congr_left->Qv,pairwise_map->Qy,sum_cons->QB,getElem?_append_left->QG,take_of_length_le->QI,flatten_cons->QK,nodup_cons->QL,filter_cons_of_pos->QY,perm_append_comm->Q4,getElem?_of_mem->Q5,cons_append->Ra,sum_append->Rc,map_nil->Rh,length->Rl,getElem?_append_right->Rv,pairwise_singleton->Ry,length_singleton->Rz,mem_of_mem_take->RB,length_zipWith->RD,getElem?_range->RE,pairwise_cons->RH,getElem?_drop->RI,flatMap_cons->RK,forIn_cons->RO,zipWith->RQ,foldl->RW,filter_cons_of_neg->R0,getElem?_append->R3,mem_filter->R9,foldr_cons->Sa,Nodup->Sq,getElem?_zipWith_eq_some->Sy,getElem?_take_of_lt->SH,eq_of_mem_replicate->SI,mem_append_left->SX,zip_cons_cons->S9,take_sublist->Te,take_add_one->Tf,reverse_perm->Tg,ext_getElem?->Th,mem_flatMap->Tj,ext_getElem->To,of_mem_zip->Tr,nil_append->Tt,mem_range->TL,drop_zero->TM,Pairwise->Ue,pairwise_iff_getElem->Uh,getElem?_replicate->Um,reverse_append->UC,length_reverse->UD,getElem_range->UI,filterMap_map->UJ,foldl_append->US,drop_sublist->UT,zipIdx_cons->UY,lookup_cons->UZ,getElem_map->U0,flatMap_nil->U1,drop_append_of_le_length->Vg
open Bool renaming false_ne_true->OC,false_eq_true->Pj,and_eq_true->R8,eq_iff_iff->Sb,not_true->Si
open Option renaming map_eq_some_iff->OL,isSome_map->Q8
open PySem.Expr renaming Name->ON,Call->O5,Subscript->Qa,BinOp->RY,Constant->Sg,Tuple->Ss
open Sum renaming inl->OO,inr->QX
open PySem.Value renaming ref->OS,none->Pc,type->PU
open Ne renaming symm->OT
open PySem.SeqAt renaming EqAt->OW,RcAt->Ro,RcNeAt->TX
open Array renaming getElem?_eq_getElem->OX,toList_push->O8,getElem?_toList->Pf,length_toList->Pg,toList_append->PN,ext'->QV,perm_iff_toList_perm->Rw,getElem?_eq_some_iff->Rx,toList_reverse->RC,getElem?_extract->SO,getElem?_eq_none->SQ,mem_toList_iff->Uz,getElem_mem->UW,toList_map->U5,toList_eraseIdxIfInBounds->Vb
open Int renaming toNat_natCast->O0,le_trans->O2,le_refl->PR,le_of_lt->QE,zero_mul->Rj,pow_pos->Rm,add_mul->Rn,mul_assoc->Sf,zero_add->Sm,toNat->Su,lt_of_le_of_lt->Tc,add_zero->T4,add_comm->T7,one_mul->Uc,mul_le_mul_of_nonneg_right->Vd
open PySem.Obj renaming mapSeq->O4,data_mapFields->RG,isFreed_of_fields->Uv,cls_mapFields->UR
open ForInStep renaming yield->Po,done->P9
open PySem.Env renaming kindOf->Pr
open False renaming elim->PM
open PySem.Builtin.Int renaming intBits->PV
open PySem.Paired renaming length->PZ,snoc->Ub
open PySem.Builtin.SmallTypes renaming nextOf->Qe,ownedTupleIsFree->Sv,ownedTupleHandOut->U7
open Option.some renaming inj->Qo
open PySem.NameKind renaming free->QA
open PySem.Builtin.List renaming listUpdate->QH,listLengthHint->Ru,listItems->R1,listExtendWith->Sz,listTooLong->Uk
open PyProof.Rows.SortSt renaming mk'->QU
open Lean renaming mkPrivateNameCore->QZ,mkIdent->Ri
open PySem.Heap.SameBut renaming update->Q7
open PySem.Data renaming cell->Rp,fields->So
open PySem.F renaming slot_dict_itemiterator_next->Rr,slot_dict_keyiterator_next->RZ,plain_extend_loop->SD,slot_zip_next->Tu,slot_int_rmul->Tv,args_tuple_add_2->Uj,entry_tuple_add->Ul,slot_tuple_add->Uq,slot_tuple_lt->Ut,slot_dict_get->Uu,slot_tuple_mul->U4,args_dict_itemiterator_next_1->Va,entry_dict_itemiterator_next->Ve,args_dict_keyiterator_next_1->Vf,slot_dict_itemiterator_iter->Vh,entry_dict_keyiterator_next->Vj
open List.Perm renaming append_left->RA
open True renaming intro->RV
open List.Pairwise renaming nil->R6
open PySem.Builtin.Slice renaming slicePlaces->SE,sliceAdjust->Ui
open PySem.Builtin.Tuple renaming tupleExact->SJ
open PySem.AutoSeq1 renaming wpAny_loadPart'->SK
open PySem.Builtin.Range renaming rangeSize->SM
open PySem.Builtin.Dict renaming showsAll->SS
open PySem.Around renaming under_plainId->SY
open PySem.Stmt renaming AugAssign->TF,Assign->Ua
open Quotient renaming sound->TH
open PySem.Operator renaming Mult->TR,Add->TY
open Function renaming comp->TU
open PySem.Builtin.Dict_items renaming pairFromOwner->Ud,ownsTuple->Ug,ownedTupleIsFree->U8,ownedTupleFields->U9
open PySem.Calls renaming callWith_builtin->Us,spliced_cons->UK
open PySem.Challenge renaming rw_everydraw_k28_whole_curves_hold->U6
namespace PySem.W.Fast
theorem tw11791074594985187243:True:=⟨⟩
theorem tw10203625857480768662:True:=⟨⟩
theorem tw17137927342543547686:True:=⟨⟩
theorem tw9523618031864076397:True:=⟨⟩
theorem tw5850944428127328433:True:=⟨⟩
theorem tw5057294973200302353:True:=⟨⟩
theorem tw10575256994290196980:True:=⟨⟩
theorem tw1238500392549343426:True:=⟨⟩
theorem tw1636664360513189637:True:=⟨⟩
theorem tw7467012709957624171:True:=⟨⟩
theorem tw18060408415370411433:True:=⟨⟩
theorem tw17183214698921104236:True:=⟨⟩
theorem tw4050194290107134639:True:=⟨⟩
theorem tw4470955111280308298:True:=⟨⟩
theorem tw7647388497033640423:True:=⟨⟩
theorem tw4644638257391513403:True:=⟨⟩
theorem tw9535778335839837843:True:=⟨⟩
theorem tw10299944240092169464:True:=⟨⟩
theorem tw10976935798508779327:True:=⟨⟩
theorem tw2347534045395273955:True:=⟨⟩
theorem tw4235943887917791313:True:=⟨⟩
theorem tw611234389373864224:True:=⟨⟩
theorem tw8129454707142685637:True:=⟨⟩
theorem tw1795707132280402823:True:=⟨⟩
theorem tw6992191704141072544:True:=⟨⟩
theorem tw1266389022358532293:True:=⟨⟩
theorem tw18100638592235726731:True:=⟨⟩
theorem tw16302990976748912573:True:=⟨⟩
theorem tw18419210284544100818:True:=⟨⟩
theorem tw3582019061850350533:True:=⟨⟩
theorem tw2543173875531698414:True:=⟨⟩
theorem tw9611204747050893775:True:=⟨⟩
theorem tw2121075452631190194:True:=⟨⟩
theorem tw4719824771834579663:True:=⟨⟩
theorem tw13419605624219437426:True:=⟨⟩
theorem tw10266447906818245256:True:=⟨⟩
theorem tw2820967001088999735:True:=⟨⟩
theorem tw1315956316526288817:True:=⟨⟩
theorem tw9606220726934751166:True:=⟨⟩
theorem tw8129422173684801271:True:=⟨⟩
theorem tw3275586444878005864:True:=⟨⟩
theorem tw9976106347272886831:True:=⟨⟩
theorem tw15202859102824384865:True:=⟨⟩
theorem tw5903501566137479779:True:=⟨⟩
theorem tw15511041393675210519:True:=⟨⟩
theorem tw8375700724993884812:True:=⟨⟩
theorem tw5801620651115620762:True:=⟨⟩
theorem tw15364804581403049462:True:=⟨⟩
theorem tw698894452497933815:True:=⟨⟩
theorem tw17763389733946316399:True:=⟨⟩
theorem tw17281682669086656438:True:=⟨⟩
theorem tw3176534541235800072:True:=⟨⟩
theorem tw6563127861868857316:True:=⟨⟩
theorem tw15233905921645776886:True:=⟨⟩
theorem tw8745031077741147629:True:=⟨⟩
theorem tw14464810030330440313:True:=⟨⟩
theorem tw14577085447761430026:True:=⟨⟩
theorem tw17027602462518708163:True:=⟨⟩
theorem tw672901881070905014:True:=⟨⟩
theorem tw1819202105641781224:True:=⟨⟩
theorem tw13235203696880407903:True:=⟨⟩
theorem tw14258087765019184176:True:=⟨⟩
theorem tw8613373594335363379:True:=⟨⟩
theorem tw17328096558715161503:True:=⟨⟩
theorem tw15940910530405321288:True:=⟨⟩
theorem tw6409632316664565372:True:=⟨⟩
theorem tw11258314417952284769:True:=⟨⟩
theorem tw10206702479837572886:True:=⟨⟩
theorem tw6173822287981808220:True:=⟨⟩
theorem tw263696660487638645:True:=⟨⟩
theorem tw576630457618586398:True:=⟨⟩
theorem tw17503319866909653084:True:=⟨⟩
theorem tw8972294503915741932:True:=⟨⟩
theorem tw12830223085076273983:True:=⟨⟩
theorem tw8709374085412861978:True:=⟨⟩
theorem tw16833956321688981054:True:=⟨⟩
theorem tw18303193165107806223:True:=⟨⟩
theorem tw11022520646559040941:True:=⟨⟩
theorem tw13842479548255643830:True:=⟨⟩
theorem tw3663728935960158475:True:=⟨⟩
theorem tw6996085259053636404:True:=⟨⟩
theorem tw467196673029069542:True:=⟨⟩
theorem tw11605109341628898439:True:=⟨⟩
theorem tw8024186047543539388:True:=⟨⟩
theorem tw16506073271403664964:True:=⟨⟩
theorem tw9391432400834704756:True:=⟨⟩
theorem tw10466218850576546972:True:=⟨⟩
theorem tw4506963197552254942:True:=⟨⟩
theorem tw17491570643357895394:True:=⟨⟩
theorem tw7355140470245674789:True:=⟨⟩
theorem tw2114281879586274627:True:=⟨⟩
theorem tw16085790214605365704:True:=⟨⟩
theorem tw14137408330070563207:True:=⟨⟩
theorem tw2452662697881787938:True:=⟨⟩
theorem tw3978533505271921573:True:=⟨⟩
theorem tw5853450815058029911:True:=⟨⟩
theorem tw2658311120982285426:True:=⟨⟩
theorem tw6761044686128505403:True:=⟨⟩
theorem tw9678709916518859236:True:=⟨⟩
theorem tw6159757541466014936:True:=⟨⟩
end PySem.W.Fast
local macro_rules | `(tactic| walk_at "u") => `(tactic| with_unfolding_all rfl)
namespace L2
open PySem PySem.Spec PyProof.Rows
noncomputable abbrev Key:=Sum Int Str
noncomputable def kg:Key->Value->Bool
 | .inl k,v=>Value.isInt k v
 | .inr x,v=>Value.isStrOf x v
noncomputable def Mf (w:World):Key->Int
 | .inl k=>hashInt k
 | .inr x=>hashStr w x
theorem bF:∀ {k:Key} {v:Value},kg k v=true->(∃ i t,k=OO i/\v=Value.int i t)\/(∃ x t,k=QX x/\v=Value.str x t)
 | .inl i,v,h=>by
  obtain ⟨t,e⟩:=Value.isInt_shape (k:=i) (v:=v) h
  exact .inl ⟨i,t,rfl,e⟩
 | .inr x,v,h=>by
  obtain ⟨t,e⟩:=Value.isStrOf_shape (x:=x) (v:=v) h
  exact .inr ⟨x,t,rfl,e⟩
theorem wz (i) (t:Tok):kg (.inl i) (.int i t)=true:=by simp [kg,Value.isInt]
theorem wA (x) (t:Tok):kg (.inr x) (.str x t)=true:=by simp [kg,Value.isStrOf]
theorem Ga (a b):decide ((OO a:Key)=OO b)=(a == b):=by
 by_cases e:a=b
 ·subst e; simp
 ·have h:¬ (OO a:Key)=OO b:=λq=>e (OO.inj q)
  rw [decide_eq_false h]
  exact (beq_eq_false_iff_ne.mpr e).symm
theorem Gb (a b):decide ((QX a:Key)=QX b)=decide (a=b):=by
 by_cases e:a=b
 ·subst e; simp
 ·have h:¬ (QX a:Key)=QX b:=λq=>e (QX.inj q)
  rw [decide_eq_false h,decide_eq_false e]
theorem Ge (a) (b):decide ((OO a:Key)=QX b)=false:=decide_eq_false (λq=>nomatch q)
theorem Gf (a) (b):decide ((QX a:Key)=OO b)=false:=decide_eq_false (λq=>nomatch q)
noncomputable def bV (prog:Program) (w:World):PySem.KeyKind prog w Key where
 is:=kg
 hash:=Mf w
 inj:=λv a b ha hb=>by
  rcases bF ha with ⟨i,t,rfl,rfl⟩ | ⟨x,t,rfl,rfl⟩
  ·rcases bF hb with ⟨j,u,rfl,e⟩ | ⟨y,u,rfl,e⟩
   ·injection e with e1 _; rw [e1]
   ·exact nomatch e
  ·rcases bF hb with ⟨j,u,rfl,e⟩ | ⟨y,u,rfl,e⟩
   ·exact nomatch e
   ·injection e with e1 _; rw [e1]
 byValue:=λk v h=>by
  rcases bF h with ⟨i,t,rfl,rfl⟩ | ⟨x,t,rfl,rfl⟩ <;> rfl
 pyHash:=λhv h=>by
  rcases bF hv with ⟨i,t,rfl,rfl⟩ | ⟨x,t,rfl,rfl⟩
  ·exact wpAny_pyHash_int h
  ·exact wpAny_pyHash_str h
 eqBool:=λhu hv h=>by
  rcases bF hu with ⟨i,t,rfl,rfl⟩ | ⟨x,t,rfl,rfl⟩
  ·rcases bF hv with ⟨j,u,rfl,rfl⟩ | ⟨y,u,rfl,rfl⟩
   ·rw [Ga] at h; exact wpAny_eqBool_int h
   ·rw [Ge] at h; exact OW.int_str i t y u _ _ _ _ h
  ·rcases bF hv with ⟨j,u,rfl,rfl⟩ | ⟨y,u,rfl,rfl⟩
   ·rw [Gf] at h; exact OW.str_int x t j u _ _ _ _ h
   ·rw [Gb] at h; exact wpAny_eqBool_str h
 «strs» :=λk x t v h=>by
  rcases bF h with ⟨i,u,rfl,e⟩ | ⟨y,u,rfl,e⟩
  ·exact nomatch e
  ·injection e with e1 _
   subst e1
   cases v <;> rfl
theorem pF (prog) (w) (i) (t:Tok):(bV prog w).is (.inl i) (.int i t)=true:=wz i t
theorem pG (prog) (w) (x) (t:Tok):(bV prog w).is (.inr x) (.str x t)=true:=wA x t
inductive V where
 | non | bl (b:Bool) | int (i:Int) | str (x:Str) | byt (b:Array UInt8) | flt (b:UInt64) | ref (a:Addr) | ty (n:String)
 deriving DecidableEq
noncomputable def RelV:V->Value->Prop
 | .non,u=>u=Pc
 | .bl b,u=>u=Value.bool b
 | .int i,u=>∃ t,u=Value.int i t
 | .str x,u=>∃ t,u=Value.str x t
 | .byt b,u=>∃ t,u=Value.bytes b t
 | .flt b,u=>∃ t,u=Value.float b t
 | .ref a,u=>u=OS a
 | .ty n,u=>u=PU n
noncomputable abbrev Vals:List V->List Value->Prop:=Paired RelV
theorem Vals.length (r:Vals xs us):xs.length=us.length:=PZ r
theorem Vals.get:∀ {xs:List V} {us:List Value} {i:Nat} {x:V},Vals xs us->xs[i]?=some x->∃ u,us[i]?=some u/\RelV x u
 | _,_,_,_,.nil,e=>by simp at e
 | _,_,0,_,.cons r _,e=>by simp at e; subst e; exact ⟨_,rfl,r⟩
 | _,_,i+1,x,.cons _ t,e=>by
  obtain ⟨u,h1,h2⟩:=Vals.get (i:=i) (x:=x) t (by simpa using e)
  exact ⟨u,by simpa using h1,h2⟩
theorem Vals.set (r:RelV x u):∀ {xs:List V} {us:List Value} (i:Nat),Vals xs us->Vals (xs.set i x) (us.set i u)
 | _,_,_,.nil=>.nil
 | _,_,0,.cons _ t=>.cons r t
 | _,_,i+1,.cons q t=>.cons q (Vals.set r i t)
theorem Vals.append:∀ {xs ys:List V} {us ws:List Value},Vals xs us->Vals ys ws->Vals (xs++ys) (us++ws)
 | _,_,_,_,.nil,s=>s
 | _,_,_,_,.cons r t,s=>.cons r (Vals.append t s)
theorem Vals.take:∀ {xs:List V} {us:List Value} (n:Nat),Vals xs us->Vals (xs.take n) (us.take n)
 | _,_,0,_=>.nil
 | _,_,_+1,.nil=>.nil
 | _,_,n+1,.cons r t=>.cons r (Vals.take n t)
theorem Vals.drop:∀ {xs:List V} {us:List Value} (n:Nat),Vals xs us->Vals (xs.drop n) (us.drop n)
 | _,_,0,r=>r
 | _,_,_+1,.nil=>.nil
 | _,_,n+1,.cons _ t=>Vals.drop n t
noncomputable def jO:Option V->Option Value->Prop
 | some v,some u=>RelV v u
 | none,none=>True
 | _,_=>False
noncomputable def KV {κ:Type}:List (κ×V)->List (κ×Value)->Prop:=Paired λ(p:κ×V) (q:κ×Value)=>p.1=q.1/\RelV p.2 q.2
noncomputable def kV:Key->V
 | .inl i=>.int i
 | .inr x=>.str x
inductive HO where
 | lst (xs:List V)
 | tup (xs:List V)
 | dK (kvs:List (Key×V)) | dT (kvs:List (List Key×Addr×V))
 | set (S:Int->Bool) (n:Nat)
 | ins (C dx:Addr) (fs:List (Str×V))
 | own (x:Addr)
 | xd (fs:List (Str×V))
 | met (f x:Addr)
 | rng (lo hi:Int)
 | frz (o:Obj) (u:HO)
 | tbl (ps:Array Value)
 | ext (φ :Heap->Prop)
noncomputable abbrev Hp:=Addr->Option HO
noncomputable def upd (H:Hp) (a:Addr) (o:HO):Hp:=λb=>if b=a then some o else H b
theorem ah:upd H a o a=some o:=by unfold upd; rw [if_pos rfl]
theorem aq (h:b≠a):upd H a o b=H b:=by unfold upd; rw [if_neg h]
theorem nL:upd (upd H a o) a u=upd H a u:=by
 funext b; unfold upd; split <;> rfl
theorem aD {H:Hp} (h:H a=some o) (h':H b=none):a≠b:=by
 intro e; subst e; rw [h] at h'; cases h'
section
variable (P:Program) (w:World)
noncomputable def bq (H:Hp) (h:Heap) (a:Addr):HO->Prop
 | .lst xs=>xs.length<=sizeLine/\∃ (its:List Value) (n:Nat),Vals xs its/\h.get? a=some { cls:=.type "list",data:=.seq its.toArray n }
 | .tup xs=>xs.length<=sizeLine/\∃ its:List Value,Vals xs its/\IsTup h a its.toArray
 | .dK kvs=>kvs.length<=sizeLine/\(a == sysModules)=false/\∃ vs,KV kvs vs/\h.DictOf (bV P w) a vs
 | .dT kvs=>kvs.length<=sizeLine/\(a == sysModules)=false/\∃ xs:List (List Key×Addr×Value),
  Paired (λ(p:List Key×Addr×V) (q:List Key×Addr×Value)=>p.1=q.1/\p.2.1=q.2.1/\RelV p.2.2 q.2.2) kvs xs /\
  ∃ o es ep,h.get? a=some o/\o.ExactDict/\o.data=.dict es ep/\es.toList=xs.map (entryOfKey (tupleKind (bV P w)))/\(xs.map (·.1)).Nodup
 | .set S n=>h.SetOf (intKind P w) a S n
 | .ins C dx fs=>H dx=some (.own a)/\fs.length<=1000/\dx≠a/\h.get? a=some (PySem.W.instObj C dx) /\
  ∃ mA,h.Ns1 dx mA/\(∀ f,jO (fs.lookup f) (mA f))/\PySem.Within mA (fs.map (·.1))
 | .own _=>∃ o,h.get? a=some o
 | .xd fs=>∃ mA,h.Ns1 a mA/\∀ f,jO (fs.lookup f) (mA f)
 | .rng lo hi=>∃ t u v,h.get? a=some { cls:=.type "range",data:=.fields #[.int lo t,.int hi u,.int 1 v] }
 | .frz o u=>h.get? a=some o/\bq H h a u
 | .tbl ps=>h.get? a=some { cls:=.none,data:=.fields ps }
 | .met f x=>h.get? a=some (UQ (.ref f) (.ref x))
 | .ext φ => φ h/\(∃ o,h.get? a=some o)/\∀ h1 h2:Heap,φ h1->(∀ o,h1.get? a=some o->h2.get? a=some o)-> φ h2
def jh (H:Hp) (h:Heap):Prop:=∀ a o,H a=some o->bq P w H h a o
end
theorem bq.lt (x:bq P w H h a o):a<h.objs.size:=by
 cases o with
 | lst xs=>obtain ⟨_,_,_,_,e⟩:=x; exact Oz e
 | tup xs=>obtain ⟨_,_,_,p⟩:=x; exact p.lt
 | dK kvs=>obtain ⟨_,_,_,_,o,_,_,e,_⟩:=x; exact Oz e
 | dT kvs=>obtain ⟨_,_,_,_,o,_,_,e,_⟩:=x; exact Oz e
 | set S n=>obtain ⟨o,_,_,_,e,_⟩:=x; exact Oz e
 | ins C dx fs=>obtain ⟨_,_,_,e,_⟩:=x; exact Oz e
 | own y=>obtain ⟨_,e⟩:=x; exact Oz e
 | xd fs=>obtain ⟨_,⟨_,_,_,e,_⟩,_⟩:=x; exact Oz e
 | rng lo hi=>obtain ⟨_,_,_,e⟩:=x; exact Oz e
 | frz ob u=>obtain ⟨e,_⟩:=x; exact Oz e
 | tbl ps=>exact Oz (show h.get? a=some _ from x)
 | met f y=>exact Oz (show h.get? a=some _ from x)
 | ext φ =>obtain ⟨_,⟨_,e⟩,_⟩:=x; exact Oz e
theorem Paired.Gg:∀ {l₁:List α} {l₂:List β},Paired F l₁ l₂->(∀ a b,F a b->G a b)->Paired G l₁ l₂
 | _,_,.nil,_=>.nil
 | _,_,.cons r t,f=>.cons (f _ _ r) (Paired.Gg t f)
theorem bq.stay (x:bq P w H h a o) (k:∀ b u,(b=a\/H b=some (.own a))->h.get? b=some u->h'.get? b=some u)
 (ho:∀ b,H b=some (.own a)->H' b=some (.own a)) (ht:∀ b xs,H b=some (.tup xs)->H' b=some (.tup xs)):bq P w H' h' a o:=by
 induction o with
 | lst xs=>obtain ⟨z,its,n,r,e⟩:=x; exact ⟨z,its,n,r,k _ _ (.inl rfl) e⟩
 | tup xs=>obtain ⟨z,its,r,ob,e,c⟩:=x; exact ⟨z,its,r,ob,k _ _ (.inl rfl) e,c⟩
 | dK kvs=>obtain ⟨z,y,vs,r,ob,es,ep,e,c⟩:=x; exact ⟨z,y,vs,r,ob,es,ep,k _ _ (.inl rfl) e,c⟩
 | dT kvs =>
  obtain ⟨z,y,xs,r,ob,es,ep,e,c⟩:=x
  exact ⟨z,y,xs,r,ob,es,ep,k _ _ (.inl rfl) e,c⟩
 | set S n=>obtain ⟨ob,es,ep,t,e,c⟩:=x; exact ⟨ob,es,ep,t,k _ _ (.inl rfl) e,c⟩
 | ins C dx fs =>
  obtain ⟨d,z,ne,e,mA,⟨od,es,ep,e2,c⟩,r⟩:=x
  exact ⟨ho _ d,z,ne,k _ _ (.inl rfl) e,mA,⟨od,es,ep,k _ _ (.inr d) e2,c⟩,r⟩
 | own y=>obtain ⟨ob,e⟩:=x; exact ⟨ob,k _ _ (.inl rfl) e⟩
 | xd fs=>obtain ⟨mA,⟨od,es,ep,e,c⟩,r⟩:=x; exact ⟨mA,⟨od,es,ep,k _ _ (.inl rfl) e,c⟩,r⟩
 | rng lo hi=>obtain ⟨t,u,v,e⟩:=x; exact ⟨t,u,v,k _ _ (.inl rfl) e⟩
 | frz ob u ih=>obtain ⟨e,q⟩:=x; exact ⟨k _ _ (.inl rfl) e,ih q⟩
 | tbl ps =>
  have e:h.get? a=some { cls:=.none,data:=.fields ps }:=x
  show h'.get? a=some { cls:=.none,data:=.fields ps }
  exact k a _ (.inl rfl) e
 | met f y =>
  have e:h.get? a=some (UQ (.ref f) (.ref y)):=x
  show h'.get? a=some (UQ (.ref f) (.ref y))
  exact k a _ (.inl rfl) e
 | ext φ =>obtain ⟨p,⟨o,e⟩,st⟩:=x; exact ⟨st _ _ p λo q=>k _ _ (.inl rfl) q,⟨o,k _ _ (.inl rfl) e⟩,st⟩
theorem jh.lt (x:jh P w H h) (e:H a=some o):a<h.objs.size:=(x a o e).lt
theorem jh.fresh (x:jh P w H h) (e:h.objs.size<=a):H a=none:=by
 cases q:H a with
 | none=>rfl
 | some u=>exact absurd (Ph (x.lt q) e) (Qj _)
theorem jh.kept (x:jh P w H h) (k:∀ b u,h.get? b=some u->h'.get? b=some u):jh P w H h':=λa o e =>
 (x a o e).stay (λb u _ q=>k b u q) (λ_ q=>q) λ_ _ q=>q
theorem jh.laid (x:jh P w H h) (k:∀ b u,h.get? b=some u->h'.get? b=some u) (hp:h.objs.size<=a) (new:bq P w (upd H a o) h' a o):jh P w (upd H a o) h':=λb u e=>by
 have hn:=x.fresh hp
 by_cases hb:b=a
 ·subst hb; rw [ah] at e; cases e; exact new
 ·rw [aq hb] at e
  exact (x b u e).stay (λc v _ q=>k c v q) (λc q=>by rw [aq (aD q hn)]; exact q) λc xs q=>by rw [aq (aD q hn)]; exact q
def Rd (H:Hp) (a:Addr) (u:HO):Prop:=H a=some u\/∃ o,H a=some (.frz o u)
theorem Rd.ok (r:Rd H a u) (x:jh P w H h):bq P w H h a u:=by
 rcases r with r | ⟨o,r⟩
 ·exact x a u r
 ·obtain ⟨_,q⟩:=x a _ r
  exact q
noncomputable def JD:Option HO->Prop
 | some (.lst _)=>True
 | some (.dK _)=>True
 | some (.dT _)=>True
 | some (.set _ _)=>True
 | some (.ins _ _ _)=>True
 | some (.ext _)=>True
 | _=>False
theorem jh.write (ok:jh P w H h) (mu:JD (H x)) (he:e=x\/H e=some (.own x)) (k:∀ b u,b≠e->h.get? b=some u->h'.get? b=some u) (heo:∃ u,h'.get? e=some u)
 (new:bq P w (upd H x o') h' x o'):jh P w (upd H x o') h':=λb u q=>by
 have nown:∀ c y,H c=some (.own y)->c≠x:=λc y r z=>by subst z; rw [r] at mu; exact mu
 have ntup:∀ c xs,H c=some (.tup xs)->c≠x:=λc xs r z=>by subst z; rw [r] at mu; exact mu
 by_cases hb:b=x
 ·subst hb; rw [ah] at q; cases q; exact new
 ·rw [aq hb] at q
  by_cases hbe:b=e
  ·have q':H b=some (.own x):=by
    rcases he with z | z
    ·exact absurd (hbe.trans z) hb
    ·rw [hbe]; exact z
   rw [q] at q'; cases q'
   obtain ⟨v,hv⟩:=heo
   exact ⟨v,by rw [hbe]; exact hv⟩
  ·refine (ok b u q).stay (λc v hc r=>k c v ?_ r) (λc r=>by rw [aq (nown c b r)]; exact r) λc xs r=>by rw [aq (ntup c xs r)]; exact r
   rcases hc with rfl | hc
   ·exact hbe
   ·rintro rfl
    rcases he with z | z
    ·exact nown c b hc z
    ·rw [hc] at z; cases z; exact hb rfl
structure Un (fs ex:List Addr) (H H':Hp) (h h':Heap):Prop where
 keep:∀ b o,h.get? b=some o->H b=none->b∉fs->b∉ex->h'.get? b=some o
 slot:∀ b o,h.get? b=some o->H b=none->b∈fs->b∉ex->∃ sl,h'.get? b=some { o with slots:=sl }
 free:∀ b o,h.get? b=some o->H b=none->b∉ex->H' b=none
 there:∀ b o,h.get? b=some o->b∉ex->∃ o',h'.get? b=some o'
 tups:∀ b xs,H b=some (.tup xs)->H' b=some (.tup xs)
 frzs:∀ b o u,H b=some (.frz o u)->H' b=some (.frz o u)
 tbls:∀ b ps,H b=some (.tbl ps)->∃ more,H' b=some (.tbl (ps++more))
section
variable {fs fs' ex ex':List Addr} {H H1 H2:Hp} {h h1 h2 h':Heap} {a x e:Addr} {o:HO}
theorem Un.any (u:Un fs ex H H1 h h1) (q:h.get? b=some ob) (n:H b=none) (hx:b∉ex):∃ sl,h1.get? b=some { ob with slots:=sl }:=by
 by_cases hb:b∈fs
 ·exact u.slot b ob q n hb hx
 ·exact ⟨ob.slots,u.keep b ob q n hb hx⟩
theorem Un.kept (k:∀ b u,h.get? b=some u->h'.get? b=some u):Un fs ex H H h h' :=
 ⟨λb ob q _ _ _=>k b ob q,λb ob q _ _ _=>⟨ob.slots,k b ob q⟩,λ_ _ _ n _=>n,λb ob q _=>⟨ob,k b ob q⟩,λ_ _ q=>q,λ_ _ _ q=>q,λ_ ps q=>⟨#[],by rw [q]; simp⟩⟩
theorem Un.refl:Un fs ex H H h h:=Un.kept λ_ _ q=>q
theorem Un.laid (k:∀ b u,h.get? b=some u->h'.get? b=some u) (hp:h.objs.size<=a) (hn:H a=none):Un fs ex H (upd H a o) h h' where
 keep:=λb u q _ _ _=>k b u q
 slot:=λb u q _ _ _=>⟨u.slots,k b u q⟩
 free:=λb u q n _=>by rw [aq (OU (Ph (Oz q) hp))]; exact n
 there:=λb u q _=>⟨u,k b u q⟩
 tups:=λb xs q=>by rw [aq (aD q hn)]; exact q
 frzs:=λb u xs q=>by rw [aq (aD q hn)]; exact q
 tbls:=λb ps q=>⟨#[],by rw [aq (aD q hn),q]; simp⟩
theorem Un.write (mu:JD (H x)) (he:e=x\/H e=some (.own x)) (k:∀ b u,b≠e->h.get? b=some u->h'.get? b=some u) (heo:∃ u,h'.get? e=some u):Un fs ex H (upd H x o) h h':=by
 have hx:∀ b,H b=none->b≠x:=λb n z=>by subst z; rw [n] at mu; exact mu
 have hb:∀ b,H b=none->b≠e:=λb n z=>by
  subst z
  rcases he with r | r
  ·exact hx b n r
  ·rw [n] at r; cases r
 have hm:∀ b u,H b=some u->¬ JD (some u)->b≠x:=λb u q nm z=>by subst z; rw [q] at mu; exact nm mu
 refine ⟨λb u q n _ _=>k b u (hb b n) q,λb u q n _ _=>⟨u.slots,k b u (hb b n) q⟩,λb u q n _=>by rw [aq (hx b n)]; exact n,λb u q _=>?_,
  λb xs q=>by rw [aq (hm b _ q λz=>z)]; exact q,λb u xs q=>by rw [aq (hm b _ q λz=>z)]; exact q,λb ps q=>⟨#[],by rw [aq (hm b _ q λz=>z),q]; simp⟩⟩
 by_cases hbe:b=e
 ·subst hbe; exact heo
 ·exact ⟨u,k b u hbe q⟩
end
noncomputable def LQ (h:Heap) (H:Hp):List Addr:=(Pd h.objs.size).filter λa=>(H a).isSome
noncomputable def nM (h:Heap) (H:Hp):Heap:=PySem.W.hideAll h (LQ h H)
theorem wB (h) (H):(nM h H).objs.size=h.objs.size:=PySem.W.hideAll_size _ _
theorem yw (e:h.get? b=some o) (n:H b=none):(nM h H).get? b=some o :=
 PySem.W.hideAll_get _ e λhm=>by
  have q:(H b).isSome=true:=(R9.mp hm).2
  rw [n] at q; simp at q
theorem Ct (e:(nM h H).get? b=some o):h.get? b=some o/\H b=none:=by
 have e':h.get? b=some o:=PySem.W.of_hideAll (LQ h H) e
 refine ⟨e',?_⟩
 cases q:H b with
 | none=>rfl
 | some x =>
  have hm:b∈LQ h H:=R9.mpr ⟨TL.mpr (Oz e'),by simp [q]⟩
  have z:(nM h H).get? b=none:=PySem.W.hideAll_none (LQ h H) hm
  rw [z] at e; cases e
structure Mod (K:Oo) (mg:Str->Option Value) (base:Heap):Prop where
 kin:K.In base
 glob:base.Ns mainGlobals mg
 blt:∃ mb,base.Ns builtinsNs mb/\∀ x:Str,x≠"__name__"->mb x=bootBuiltins x
 nolimit:base.NoLimit
structure Cx where
 prog:Program
 w:World
 K:Oo
 mg:Str->Option Value
 base:Heap
 A:Around
 N:List Str
 s₀:Shared
 H₀:Hp
 env:Env
 outer:List Env
 stack:List Env
 ex:List Addr
 fn:Str->Bool
 calm:Bool
 pn:List (Addr×Obj)
 xe:Value->Shared->Prop
noncomputable def frs (l:List Env):List Addr:=l.filterMap (·.frame)
noncomputable abbrev Cx.fs (X:Cx):List Addr:=frs X.outer
def Mg (sc:Scope) (x:Str):Prop:=sc.names.lookup x=some .local\/sc.names.lookup x=some .cell\/sc.names.lookup x=some .free
def Loc (sc:Scope) (x:Str):Prop:=sc.names.lookup x=some .local\/sc.names.lookup x=some .cell
def Look (env:Env) (h:Heap) (m:Str->Option Value) (x:Str) (u:Value):Prop :=
 (env.kindOf x=some .local/\m x=some u)\/((env.kindOf x=some .cell\/env.kindOf x=some .free)/\∃ c,env.cells.lookup x=some c/\h.IsCell c (some u))
structure Cx.Ok (X:Cx):Prop where
 mod:Mod X.K X.mg X.base
 kind:X.env.scope.kind=.function
 glob:X.env.globals=mainGlobals
 blt:X.env.builtins=builtinsNs
 above:X.s₀.heap.objs.size<=X.env.locals
 inj:∀ x y c,X.env.cells.lookup x=some c->X.env.cells.lookup y=some c->x=y
 has:∀ x,(X.env.kindOf x=some .cell\/X.env.kindOf x=some .free)->∃ c,X.env.cells.lookup x=some c
 cab:∀ x c,X.fn x=true->X.env.cells.lookup x=some c->X.s₀.heap.objs.size<=c
 hd:X.calm=true->X.A.handled=none
 frames:X.A.frames=some X.stack
 stk:X.stack=X.outer\/(X.stack=X.env::X.outer/\X.env.frame=some X.env.locals)
 exf:∀ b∈X.ex,b≠X.env.locals/\∀ x c,X.env.cells.lookup x=some c->c≠b
 bs:∀ b o,X.base.get? b=some o->X.s₀.heap.get? b=some o/\X.H₀ b=none
 bsz:X.base.objs.size<=X.s₀.heap.objs.size
 noex:∀ b o,X.base.get? b=some o->b∉X.ex
 exfs:∀ b∈X.ex,b∉X.fs
 jj:X.s₀.heap.FunFrames X.base X.outer
 frf:∀ b∈X.fs,X.H₀ b=none
structure Inv (X:Cx) (aa:List (Addr×Obj)) (σ:List (Option V)) (H:Hp) (s:Shared):Prop where
 ok:X.Ok
 os:s.os=X.s₀.os
 bare:AllBare s.gens
 base:Un X.fs X.ex X.H₀ H X.s₀.heap s.heap
 loc:∃ m,s.heap.Ns X.env.locals m/\∀ (i:Nat) (x:Str) (v:V),X.N[i]?=some x->σ[i]?=some (some v)->Mg X.env.scope x->∃ u,RelV v u/\Look X.env s.heap m x u
 cell:∀ x c,X.env.cells.lookup x=some c->∃ v,s.heap.IsCell c v
 free:H X.env.locals=none
 freeC:∀ x c,X.env.cells.lookup x=some c->H c=none
 pin:∀ p∈X.pn++aa,s.heap.get? p.1=some p.2/\H p.1=none/\p.1≠X.env.locals/\p.1∉X.fs/\∀ v,p.2.data≠.cell v
 hok:jh X.prog X.w H s.heap
 len:σ.length=X.N.length
section
variable {X:Cx}
theorem Cx.Ok.Mh (ok:X.Ok) (e:X.base.get? b=some o):b∉X.fs:=λhb=>by
 have:=(ok.jj.mem hb).1
 rw [e] at this; cases this
theorem Inv.bs (I:Inv X aa σ H s):∀ b o,X.base.get? b=some o->s.heap.get? b=some o/\H b=none:=λb o e =>
 ⟨I.base.keep b o (I.ok.bs b o e).1 (I.ok.bs b o e).2 (I.ok.Mh e) (I.ok.noex b o e),I.base.free b o (I.ok.bs b o e).1 (I.ok.bs b o e).2 (I.ok.noex b o e)⟩
theorem Inv.bk (I:Inv X aa σ H s):∀ b o,X.base.get? b=some o->s.heap.get? b=some o:=λb o e=>(I.bs b o e).1
theorem Inv.mod (I:Inv X aa σ H s):Mod X.K X.mg X.base:=I.ok.mod
theorem Inv.Ce (I:Inv X aa σ H s):X.K.In s.heap:=I.ok.mod.kin.keeps I.bk
theorem Inv.lt (I:Inv X aa σ H s):X.env.locals<s.heap.objs.size:=let ⟨_,hn,_⟩:=I.loc; hn.lt
theorem Inv.sz (I:Inv X aa σ H s):X.s₀.heap.objs.size<=s.heap.objs.size:=OD I.ok.above (QD I.lt)
theorem Inv.JE (I:Inv X aa σ H s) (h:s.heap.objs.size<=a):a∉X.fs:=λhb=>by
 obtain ⟨_,o,ho,_⟩:=I.ok.jj.mem hb
 exact absurd (Ph (Oz ho) (OD I.sz h)) (Qj _)
theorem Inv.Gh (I:Inv X aa σ H s):∀ x c,X.env.cells.lookup x=some c->c≠X.env.locals:=λx c e z=>by
 obtain ⟨v,o,ho,hd⟩:=I.cell x c e
 obtain ⟨m,⟨o',es,ep,ho',hd',_⟩,_⟩:=I.loc
 rw [z,ho'] at ho; cases ho; rw [hd'] at hd; cases hd
theorem Inv.jj (I:Inv X aa σ H s):s.heap.FunFrames X.base X.outer:=by
 have all:∀ (l:List Env),(∀ b∈frs l,b∈X.fs)->X.s₀.heap.FunFrames X.base l->s.heap.FunFrames X.base l:=by
  intro l
  induction l with
  | nil=>intro _ _; trivial
  | cons env r ih =>
   intro hs hl
   obtain ⟨hk,⟨L,o,hf,hn,ho,hd⟩,hr⟩:=hl
   have hL:L∈X.fs:=hs L (by unfold frs; rw [P6,hf]; exact OI)
   obtain ⟨sl,e⟩:=I.base.slot L o ho (I.ok.frf L hL) hL λz=>I.ok.exfs L z hL
   exact ⟨hk,⟨L,_,hf,hn,e,hd⟩,ih (λb hb=>hs b (by unfold frs; rw [P6,hf]; exact OJ _ hb)) hr⟩
 exact all X.outer (λ_ hb=>hb) I.ok.jj
theorem Inv.stack (I:Inv X aa σ H s):s.heap.FunFrames X.base X.stack:=by
 rcases I.ok.stk with e | ⟨e,hf⟩
 ·rw [e]; exact I.jj
 ·rw [e]
  obtain ⟨m,hn,_⟩:=I.loc
  refine .cons (by rw [I.ok.kind]; decide) hf hn ?_ I.jj
  exact Heap.get?_none_of_le (OD I.ok.bsz I.ok.above)
theorem Inv.rZ (I:Inv X aa σ H s):∀ b∈frs X.stack,b∈X.env.locals::X.fs:=λb hb=>by
 rcases I.ok.stk with e | ⟨e,hf⟩
 ·rw [e] at hb; exact OJ _ hb
 ·rw [e] at hb
  unfold frs at hb
  rw [P6,hf] at hb
  exact hb
theorem Inv.uo (I:Inv X aa σ H s):∀ b∈frs X.stack,H b=none:=λb hb=>by
 rcases OM.mp (I.rZ b hb) with e | hb
 ·rw [e]; exact I.free
 ·obtain ⟨_,o,ho,_⟩:=I.ok.jj.mem hb
  exact I.base.free b o ho (I.ok.frf b hb) λz=>I.ok.exfs b z hb
theorem Inv.step {ch:List Addr} (I:Inv X aa σ H s)
 (hch:∀ b∈ch,(b∈X.ex\/X.s₀.heap.objs.size<=b)/\b≠X.env.locals/\(∀ x c,X.env.cells.lookup x=some c->c≠b)/\∀ p∈X.pn++aa,p.1≠b)
 (keep:∀ b o,b≠X.env.locals->b∉X.fs->b∉ch->s.heap.get? b=some o->H b=none->h'.get? b=some o)
 (slot:∀ b o,b≠X.env.locals->b∈X.fs->b∉ch->s.heap.get? b=some o->H b=none->∃ sl,h'.get? b=some { o with slots:=sl }) (free:∀ b o,b∉ch->s.heap.get? b=some o->H b=none->H' b=none)
 (there:∀ b o,b∉ch->s.heap.get? b=some o->∃ o',h'.get? b=some o')
 (tups:∀ b xs,H b=some (.tup xs)->H' b=some (.tup xs)) (frzs:∀ b o u,H b=some (.frz o u)->H' b=some (.frz o u)) (tbls:∀ b ps,H b=some (.tbl ps)->∃ more,H' b=some (.tbl (ps++more)))
 (ns:∀ m,s.heap.Ns X.env.locals m->h'.Ns X.env.locals m) (hok:jh X.prog X.w H' h') (hg:AllBare g') :
 Inv X aa σ H' { s with heap:=h',gens:=g',drawn:=d',toks:=t' }:=by
 have neL:∀ b o,X.s₀.heap.get? b=some o->b≠X.env.locals:=λb o e=>OU (Ph (Oz e) I.ok.above)
 have neC:∀ b o,X.s₀.heap.get? b=some o->b∉X.ex->b∉ch:=λb o e hx hb=>by
  rcases (hch b hb).1 with z | z
  ·exact hx z
  ·exact absurd (Ph (Oz e) z) (Qj _)
 have cellK:∀ x c,X.env.cells.lookup x=some c->∀ v,s.heap.IsCell c v->h'.IsCell c v:=λx c e v ⟨o,ho,hd⟩=>by
  have nch:c∉ch:=λz=>(hch c z).2.2.1 x c e rfl
  by_cases hc:c∈X.fs
  ·obtain ⟨sl,q⟩:=slot c o (I.Gh x c e) hc nch ho (I.freeC x c e)
   exact ⟨_,q,hd⟩
  ·exact ⟨o,keep c o (I.Gh x c e) hc nch ho (I.freeC x c e),hd⟩
 refine ⟨I.ok,I.os,hg,⟨λb o e n hb hx=>?_,λb o e n hb hx=>?_,λb o e n hx=>?_,λb o e hx=>?_,λb xs e=>tups b xs (I.base.tups b xs e),λb o xs e=>frzs b o xs (I.base.frzs b o xs e),λb ps e=>?_⟩,?_,λx c e=>?_,?_,λx c e=>?_,λp hp=>?_,hok,I.len⟩
 ·exact keep b o (neL b o e) hb (neC b o e hx) (I.base.keep b o e n hb hx) (I.base.free b o e n hx)
 ·obtain ⟨sl,e1⟩:=I.base.slot b o e n hb hx
  obtain ⟨sl',e2⟩:=slot b _ (neL b o e) hb (neC b o e hx) e1 (I.base.free b o e n hx)
  exact ⟨sl',e2⟩
 ·obtain ⟨o',e1⟩:=I.base.there b o e hx
  exact free b o' (neC b o e hx) e1 (I.base.free b o e n hx)
 ·obtain ⟨o',e1⟩:=I.base.there b o e hx
  exact there b o' (neC b o e hx) e1
 ·obtain ⟨m1,e1⟩:=I.base.tbls b ps e
  obtain ⟨m2,e2⟩:=tbls b _ e1
  exact ⟨m1++m2,by rw [e2,Array.append_assoc]⟩
 ·obtain ⟨m,hn,hl⟩:=I.loc
  refine ⟨m,ns m hn,λi x v e1 e2 e3=>?_⟩
  obtain ⟨u,r,l⟩:=hl i x v e1 e2 e3
  refine ⟨u,r,?_⟩
  rcases l with l | ⟨k,c,e,z⟩
  ·exact .inl l
  ·exact .inr ⟨k,c,e,cellK x c e _ z⟩
 ·obtain ⟨v,z⟩:=I.cell x c e
  exact ⟨v,cellK x c e v z⟩
 ·obtain ⟨m,⟨o,_,_,ho,_⟩,_⟩:=I.loc
  exact free _ o (λz=>(hch _ z).2.1 rfl) ho I.free
 ·obtain ⟨v,o,ho,hd⟩:=I.cell x c e
  exact free c o (λz=>(hch c z).2.2.1 x c e rfl) ho (I.freeC x c e)
 ·obtain ⟨e,n,ne,nf,d⟩:=I.pin p hp
  have nch:p.1∉ch:=λz=>(hch p.1 z).2.2.2 p hp rfl
  exact ⟨keep p.1 p.2 ne nf nch e n,free p.1 p.2 nch e n,ne,nf,d⟩
theorem Inv.un (I:Inv X aa σ H s) (u:Un X.fs [] H H' s.heap h') (hok:jh X.prog X.w H' h'):Inv X aa σ H' { s with heap:=h',toks:=t' }:=by
 obtain ⟨m,⟨o,es,ep,ho,r⟩,_⟩:=id I.loc
 obtain ⟨sl,hL⟩:=u.any ho I.free (by simp)
 exact I.step (g':=s.gens) (d':=s.drawn) (ch:=[]) (λ_ z=>nomatch z) (λb o _ hb _ e n=>u.keep b o e n hb (by simp)) (λb o _ hb _ e n=>u.slot b o e n hb (by simp)) (λb o _ e n=>u.free b o e n (by simp)) (λb o _ e=>u.there b o e (by simp)) u.tups u.frzs u.tbls (λm' hm=>by
  obtain ⟨o',es',ep',ho',r'⟩:=hm
  rw [ho] at ho'; cases ho'
  exact ⟨_,es',ep',hL,r'⟩) hok I.bare
theorem Inv.call (I:Inv X aa σ H s) (u:Un (frs X.stack) ch H H' s.heap h') (hok:jh X.prog X.w H' h') (hg:AllBare g')
 (hch:∀ b∈ch,(b∈X.ex\/X.s₀.heap.objs.size<=b)/\b≠X.env.locals/\(∀ x c,X.env.cells.lookup x=some c->c≠b)/\∀ p∈X.pn++aa,p.1≠b) :
 Inv X aa σ H' { s with heap:=h',gens:=g',drawn:=d',toks:=t' }:=by
 obtain ⟨m,⟨o,es,ep,ho,r⟩,_⟩:=id I.loc
 obtain ⟨sl,hL⟩:=u.any ho I.free λz=>(hch _ z).2.1 rfl
 exact I.step (ch:=ch) hch (λb o hL hb hc e n=>u.keep b o e n (λz=>(OM.mp (I.rZ b z)).elim hL hb) hc) (λb o _ _ hc e n=>u.any e n hc) (λb o hc e n=>u.free b o e n hc) (λb o hc e=>u.there b o e hc) u.tups u.frzs u.tbls (λm' hm=>by
  obtain ⟨o',es',ep',ho',r'⟩:=hm
  rw [ho] at ho'; cases ho'
  exact ⟨_,es',ep',hL,r'⟩) hok hg
theorem Inv.turned (I:Inv X aa σ H s) (k:∀ b o,b≠it->s.heap.get? b=some o->h'.get? b=some o) (hn:H it=none) (hL:it≠X.env.locals)
 (h1:it∈X.ex\/X.s₀.heap.objs.size<=it) (h2:∀ x c,X.env.cells.lookup x=some c->c≠it) (h3:∀ p∈X.pn++aa,p.1≠it):Inv X aa σ H { s with heap:=h',toks:=t' }:=by
 have nit:∀ b u,H b=some u->b≠it:=λb u e z=>by rw [z,hn] at e; cases e
 refine I.step (g':=s.gens) (d':=s.drawn) (ch:=[it]) (λb hb=>?_) (λb o _ _ hc e _=>k b o (λz=>hc (by simp [z])) e) (λb o _ _ hc e _=>⟨o.slots,k b o (λz=>hc (by simp [z])) e⟩) (λ_ _ _ _ n=>n)
  (λb o hc e=>⟨o,k b o (λz=>hc (by simp [z])) e⟩) (λ_ _ e=>e) (λ_ _ _ e=>e) (λb ps e=>⟨#[],by rw [e]; simp⟩) (λm hm=>?_) (λb u e=>?_) I.bare
 ·have e:b=it:=by simpa using hb
  subst e
  exact ⟨h1,hL,h2,h3⟩
 ·obtain ⟨o,es,ep,ho,r⟩:=hm
  exact ⟨o,es,ep,k _ o (OT hL) ho,r⟩
 ·refine (I.hok b u e).stay (λc v hc q=>k c v ?_ q) (λ_ q=>q) λ_ _ q=>q
  rcases hc with z | z
  ·rw [z]; exact nit b u e
  ·exact nit c _ z
theorem Inv.tok (I:Inv X aa σ H s) (t):Inv X aa σ H { s with toks:=t }:=I.un (h':=s.heap) (t':=t) Un.refl I.hok
theorem Inv.kept (I:Inv X aa σ H s) (k:∀ b u,s.heap.get? b=some u->h'.get? b=some u):Inv X aa σ H { s with heap:=h',toks:=t' }:=I.un (Un.kept k) (I.hok.kept k)
theorem Inv.laid (I:Inv X aa σ H s) (k:∀ b u,s.heap.get? b=some u->h'.get? b=some u) (hp:s.heap.objs.size<=a) (new:bq X.prog X.w (upd H a o) h' a o) :
 Inv X aa σ (upd H a o) { s with heap:=h',toks:=t' }:=I.un (Un.laid k hp (I.hok.fresh hp)) (I.hok.laid k hp new)
theorem Inv.write (I:Inv X aa σ H s) (mu:JD (H x)) (he:e=x\/H e=some (.own x)) (k:∀ b u,b≠e->s.heap.get? b=some u->h'.get? b=some u) (heo:∃ u,h'.get? e=some u)
 (new:bq X.prog X.w (upd H x o) h' x o):Inv X aa σ (upd H x o) { s with heap:=h',toks:=t' }:=I.un (Un.write mu he k heo) (I.hok.write mu he k heo new)
theorem Inv.uq (I:Inv X aa σ H s) (h:∀ p∈pins',s.heap.get? p.1=some p.2/\H p.1=none/\p.1≠X.env.locals/\p.1∉X.fs/\∀ v,p.2.data≠.cell v):Inv X pins' σ H s :=
 ⟨I.ok,I.os,I.bare,I.base,I.loc,I.cell,I.free,I.freeC,λp hp=>(OZ.mp hp).elim (λz=>I.pin p (SX _ z)) (h p),I.hok,I.len⟩
theorem pH {N:List Str} (hN:N.Nodup) {i j:Nat} (a:N[i]?=some x) (b:N[j]?=some x):i=j:=by
 obtain ⟨h1,e1⟩:=OH.mp a
 obtain ⟨h2,e2⟩:=OH.mp b
 exact (List.getElem_inj hN).mp (e1.trans e2.symm)
theorem wC (I:Inv X aa σ H s) (hN:X.N.Nodup) (hi:X.N[i]?=some x) (hx:Loc X.env.scope x) (r:RelV v u)
 (h:∀ s',Inv X aa (σ.set i (some v)) H s'->(∃ a,Qn a s.heap s'.heap/\(a=X.env.locals\/X.env.cells.lookup x=some a))->Q () s') (hf:X.fn x=true\/X.env.scope.names.lookup x=some .local:=by first | exact .inl rfl | exact .inr rfl | assumption):wpAny M A (storeName X.env x u) Q E s:=by
 obtain ⟨m,hn,hl⟩:=id I.loc
 have hcls:(X.env.scope.kind == .class || (X.env.scope.kind == .module && X.env.locals != X.env.globals))=false:=by rw [I.ok.kind]; rfl
 have hiσ:i<σ.length:=by rw [I.len]; exact (OH.mp hi).1
 have Gh:=I.Gh
 have tracked:∀ {a:Addr} {h':Heap},(∃ o,s.heap.get? a=some o/\H a=none)->Qn a s.heap h'->jh X.prog X.w H h':=λ{a h'} ha hs b ob e=>by
  obtain ⟨_,_,hfree⟩:=ha
  refine (I.hok b ob e).stay (λc w' hc q=>(hs.2 c ?_).trans q) (λ_ q=>q) λ_ _ q=>q
  rintro rfl
  rcases hc with rfl | hc
  ·rw [hfree] at e; cases e
  ·rw [hfree] at hc; cases hc
 rcases hx with hk | hk
 ·refine wpAny_storeName_local hk hn (λh' hn' hs=>?_) hcls
  obtain ⟨oL,_,_,hoL,_⟩:=id hn
  refine h _ ⟨I.ok,I.os,I.bare,⟨λb o e n hb hx=>?_,λb o e n hb hx=>?_,I.base.free,λb o e hx=>?_,I.base.tups,I.base.frzs,I.base.tbls⟩,⟨_,hn',λj y v' e1 e2 e3=>?_⟩,λy c e=>?_,I.free,I.freeC,λp hp=>?_,tracked ⟨oL,hoL,I.free⟩ hs,by simpa using I.len⟩ ⟨_,hs,.inl rfl⟩
  ·exact (hs.2 b (OU (Ph (Oz e) I.ok.above))).trans (I.base.keep b o e n hb hx)
  ·obtain ⟨sl,e1⟩:=I.base.slot b o e n hb hx
   exact ⟨sl,(hs.2 b (OU (Ph (Oz e) I.ok.above))).trans e1⟩
  ·obtain ⟨o',e1⟩:=I.base.there b o e hx
   exact ⟨o',(hs.2 b (OU (Ph (Oz e) I.ok.above))).trans e1⟩
  ·by_cases hj:j=i
   ·subst hj
    rw [hi] at e1; cases e1
    rw [P4 hiσ] at e2
    cases e2
    exact ⟨u,r,.inl ⟨hk,by simp⟩⟩
   ·rw [P5 (OT hj)] at e2
    obtain ⟨u',r',q⟩:=hl j y v' e1 e2 e3
    refine ⟨u',r',?_⟩
    rcases q with ⟨k,e⟩ | ⟨k,c,e,z⟩
    ·refine .inl ⟨k,?_⟩
     have:y≠x:=λe=>hj (pH hN e1 (e ▸ hi))
     simp [this,e]
    ·exact .inr ⟨k,c,e,z.sameBut hs (Gh y c e)⟩
  ·obtain ⟨w',z⟩:=I.cell y c e
   exact ⟨w',z.sameBut hs (Gh y c e)⟩
  ·obtain ⟨e,n,ne,nf,d⟩:=I.pin p hp
   exact ⟨(hs.2 p.1 ne).trans e,n,ne,nf,d⟩
 ·have hfn:X.fn x=true:=by
   rcases hf with z | z
   ·exact z
   ·rw [z] at hk; cases hk
  obtain ⟨c,hc⟩:=I.ok.has x (.inl hk)
  obtain ⟨w',z⟩:=I.cell x c hc
  refine wpAny_storeName_cell I.ok.kind hk hc z (λh' hc' hs=>?_)
  obtain ⟨oc,hoc,hocd⟩:=id z
  refine h { s with heap:=h' } ⟨I.ok,I.os,I.bare,⟨λb o e n hb hx=>?_,λb o e n hb hx=>?_,I.base.free,λb o e hx=>?_,I.base.tups,I.base.frzs,I.base.tbls⟩,⟨m,hn.sameBut hs (OT (Gh x c hc)),λj y v' e1 e2 e3=>?_⟩,λy c' e=>?_,I.free,I.freeC,λp hp=>?_,tracked ⟨oc,hoc,I.freeC x c hc⟩ hs,by simpa using I.len⟩ ⟨c,hs,.inr hc⟩
  ·exact (hs.2 b (OU (Ph (Oz e) (I.ok.cab x c hfn hc)))).trans (I.base.keep b o e n hb hx)
  ·obtain ⟨sl,e1⟩:=I.base.slot b o e n hb hx
   exact ⟨sl,(hs.2 b (OU (Ph (Oz e) (I.ok.cab x c hfn hc)))).trans e1⟩
  ·obtain ⟨o',e1⟩:=I.base.there b o e hx
   exact ⟨o',(hs.2 b (OU (Ph (Oz e) (I.ok.cab x c hfn hc)))).trans e1⟩
  ·by_cases hj:j=i
   ·subst hj
    rw [hi] at e1; cases e1
    rw [P4 hiσ] at e2
    cases e2
    exact ⟨u,r,.inr ⟨.inl hk,c,hc,hc'⟩⟩
   ·rw [P5 (OT hj)] at e2
    obtain ⟨u',r',q⟩:=hl j y v' e1 e2 e3
    refine ⟨u',r',?_⟩
    rcases q with q | ⟨k,c',e,z'⟩
    ·exact .inl q
    ·refine .inr ⟨k,c',e,z'.sameBut hs ?_⟩
     rintro rfl
     exact hj (pH hN e1 (I.ok.inj _ _ _ e hc ▸ hi))
  ·by_cases hcc:c'=c
   ·subst hcc; exact ⟨_,hc'⟩
   ·obtain ⟨w2,z2⟩:=I.cell y c' e
    exact ⟨w2,z2.sameBut hs hcc⟩
  ·obtain ⟨e,n,ne,nf,d⟩:=I.pin p hp
   refine ⟨(hs.2 p.1 ?_).trans e,n,ne,nf,d⟩
   intro q
   rw [q,hoc] at e
   have q':oc=p.2:=Qo e
   exact d w' (by rw [<- q']; exact hocd)
theorem fU (I:Inv X aa σ H s) (hN:X.N.Nodup) (hi:X.N[i]?=some x) (hx:Loc X.env.scope x) (r:RelV v u)
 (h:∀ s',Inv X aa (σ.set i (some v)) H s'->Q () s') (hf:X.fn x=true\/X.env.scope.names.lookup x=some .local:=by first | exact .inl rfl | exact .inr rfl | assumption):wpAny M A (storeName X.env x u) Q E s :=
 wC I hN hi hx r (λs' I' _=>h s' I') hf
theorem Inv.JF (I:Inv X aa σ H s) (ho:s'.os=s.os) (u:Un (frs X.stack) ch H H' s.heap s'.heap) (hok:jh X.prog X.w H' s'.heap) (hg:AllBare s'.gens)
 (hch:∀ b∈ch,(b∈X.ex\/X.s₀.heap.objs.size<=b)/\b≠X.env.locals/\(∀ x c,X.env.cells.lookup x=some c->c≠b)/\∀ p∈X.pn++aa,p.1≠b):Inv X aa σ H' s':=by
 obtain ⟨h',g',d',t',o'⟩:=s'
 have e:o'=s.os:=ho
 subst e
 exact I.call (g':=g') (t':=t') (d':=d') u hok hg hch
end
noncomputable abbrev XK:=Value->Option Addr->Hp->Prop
noncomputable abbrev St:=List (Option V)
noncomputable abbrev VK:=V->Hp->Prop
noncomputable abbrev TE:=St->Hp->VK->Prop
noncomputable abbrev TT:=St->Hp->(Bool->Hp->Prop)->Prop
noncomputable abbrev TA:=St->Hp->(List V->Hp->Prop)->Prop
structure Ends where
 nx:St->Hp->Prop
 rt:VK
 bk:St->Hp->Prop:=λ_ _=>False
 ct:St->Hp->Prop:=λ_ _=>False
noncomputable abbrev TS:=Ends->St->Hp->Prop
def EP (X:Cx) (aa:List (Addr×Obj)) (σ:St) (Q:VK) (u:Value) (s':Shared):Prop:=∃ v H',Inv X aa σ H' s'/\RelV v u/\Q v H'
def TP (X:Cx) (aa:List (Addr×Obj)) (σ:St) (Q:Bool->Hp->Prop) (b:Bool) (s':Shared):Prop:=∃ H',Inv X aa σ H' s'/\Q b H'
def AP (X:Cx) (aa:List (Addr×Obj)) (σ:St) (Q:List V->Hp->Prop) (us:List Value) (s':Shared):Prop:=∃ vs H',Inv X aa σ H' s'/\Vals vs us/\Q vs H'
def SP (X:Cx) (aa:List (Addr×Obj)) (D:Ends) (f:Flow) (s':Shared):Prop :=
 match f with
 | .next=>∃ σ' H',Inv X aa σ' H' s'/\D.nx σ' H'
 | .brk=>∃ σ' H',Inv X aa σ' H' s'/\D.bk σ' H'
 | .cont=>∃ σ' H',Inv X aa σ' H' s'/\D.ct σ' H'
 | .ret u=>∃ v σ' H',Inv X aa σ' H' s'/\RelV v u/\D.rt v H'
def PE (X:Cx) (e:Expr) (t:TE):Prop :=
 ∀ (aa:List (Addr×Obj)) (s:Shared) (σ:St) (H:Hp) (Q:VK),Inv X aa σ H s->t σ H Q->wpAny (model X.prog X.w) X.A (eval e X.env) (EP X aa σ Q) X.xe s
def PT (X:Cx) (e:Expr) (t:TT):Prop :=
 ∀ (aa:List (Addr×Obj)) (s:Shared) (σ:St) (H:Hp) (Q:Bool->Hp->Prop),Inv X aa σ H s->t σ H Q->wpAny (model X.prog X.w) X.A (isTrue e X.env (eval e X.env)) (TP X aa σ Q) X.xe s
def PW (X:Cx) (e:Expr) (t:TT):Prop :=
 ∀ (whole:Sem Value) (aa:List (Addr×Obj)) (s:Shared) (σ:St) (H:Hp) (Q:Bool->Hp->Prop),Inv X aa σ H s->t σ H Q->wpAny (model X.prog X.w) X.A (isTrue e X.env whole) (TP X aa σ Q) X.xe s
def PA (X:Cx) (es:List Expr) (t:TA):Prop :=
 ∀ (pos:Pos) (aa:List (Addr×Obj)) (s:Shared) (σ:St) (H:Hp) (Q:List V->Hp->Prop),Inv X aa σ H s->t σ H Q->wpAny (model X.prog X.w) X.A (spliced (backTo pos (starEach es X.env))) (AP X aa σ Q) X.xe s
def PS (X:Cx) (st:Stmt) (t:TS):Prop :=
 ∀ (aa:List (Addr×Obj)) (s:Shared) (σ:St) (H:Hp) (D:Ends),Inv X aa σ H s->t D σ H->wpAny (model X.prog X.w) X.A (exec st X.env) (SP X aa D) X.xe s
def r6 (X:Cx) (st:List Stmt) (t:TS):Prop :=
 ∀ (aa:List (Addr×Obj)) (s:Shared) (σ:St) (H:Hp) (D:Ends),Inv X aa σ H s->t D σ H->wpAny (model X.prog X.w) X.A (execs st X.env) (SP X aa D) X.xe s
theorem bJ (h:wpAny M A t Q E s) (hQ:∀ a s,Q a s->Q' a s):wpAny M A t Q' E s:=Pe h hQ λ_ _ x=>x
section
noncomputable def JG (i:Nat):TE:=λσ H Q=>∃ v,σ[i]?=some (some v)/\Q v H
noncomputable def tC (v:V):TE:=λ_ H Q=>Q v H
theorem r8 (hN:X.N[i]?=some x) (hv:Mg X.env.scope x) (hd:(x == ("__debug__":Str))=false:=by decide) (hcd:(x == ("__classdict__":Str))=false:=by decide):PE X (.Name x pos) (JG i):=by
 intro aa s σ H Q I h
 obtain ⟨v,e,h⟩:=h
 obtain ⟨m,hn,hl⟩:=I.loc
 obtain ⟨u,r,l⟩:=hl i x v hN e hv
 have fin:EP X aa σ Q u s:=⟨v,H,I,r,h⟩
 rcases l with ⟨hk,hm⟩ | ⟨hk,c,hc,hcell⟩
 ·exact wpAny_Name (wpAny_loadName_local I.ok.kind hk hn hm fin) hd
 ·rcases hk with hk | hk
  ·exact wpAny_Name (wpAny_loadName_cell I.ok.kind hk hc hcell fin) hd
  ·exact wpAny_Name (wpAny_loadName_free I.ok.kind hk hc hcell fin hcd) hd
theorem yx {i j pos}:PE X (.Constant (.int i) j pos) (tC (.int i)):=λ_ _ _ H _ I h=>wpAny_Constant_int ⟨.int i,H,I.tok _,⟨_,rfl⟩,h⟩
theorem E7 {b j pos}:PE X (.Constant (.bool b) j pos) (tC (.bl b)):=λ_ _ _ H _ I h=>Constant_bool ⟨.bl b,H,I,rfl,h⟩
def Gl (X:Cx) (x:Str):Prop:=X.env.kindOf x=some .globalImplicit
theorem nN (I:Inv X aa σ H s) (hg:Gl X x) (hm:X.mg x=some u) (h:Q u s)
 (hd:(x == ("__debug__":Str))=false:=by decide):wpAny (model X.prog X.w) X.A (eval (.Name x pos) X.env) Q E s :=
 Calls.Name_function_global I.ok.kind hg (Calls.loadGlobal_global (by rw [I.ok.glob]; exact I.mod.glob.keeps I.bk) hm h) hd
theorem dW (I:Inv X aa σ H s) (hg:Gl X x) (hm:X.mg x=none) (hv:bootBuiltins x=some u) (h:Q u s)
 (hn:x≠"__name__":=by decide) (hd:(x == ("__debug__":Str))=false:=by decide):wpAny (model X.prog X.w) X.A (eval (.Name x pos) X.env) Q E s:=by
 obtain ⟨mb,h1,h2⟩:=I.mod.blt
 exact Calls.Name_function_global I.ok.kind hg (Calls.loadGlobal_builtin (by rw [I.ok.glob]; exact I.mod.glob.keeps I.bk) hm (by rw [I.ok.blt]; exact h1.keeps I.bk) ((h2 x hn).trans hv) h) hd
theorem uu (hg:Gl X x) (hm:X.mg x=some u) (r:RelV v u) (hd:(x == ("__debug__":Str))=false:=by decide):PE X (.Name x pos) (tC v) :=
 λ_ _ _ H _ I h=>nN I hg hm ⟨v,H,I,r,h⟩ hd
def PC (X:Cx) (op:CmpOp) (a b:Expr) (t:TE):Prop :=
 ∀ (aa:List (Addr×Obj)) (s:Shared) (σ:St) (H:Hp) (Q:VK),Inv X aa σ H s->t σ H Q ->
  wpAny (model X.prog X.w) X.A (eval a X.env) (λv s₁=>wpAny (model X.prog X.w) X.A (eval b X.env) (λu s₂=>wpAny (model X.prog X.w) X.A (compareOp op v u) (EP X aa σ Q) X.xe s₂) X.xe s₁) X.xe s
noncomputable def tB (t:TE):TT:=λσ H Q=>t σ H λx H1=>∃ c,x=.bl c/\Q c H1
theorem Gi (h:PC X op a b t) (h1:behindInMarks op b=false:=by first | exact nobehind _ (by decide) (by decide) | rfl):PT X (.Compare a [op] [b] pos) (tB t):=by
 intro aa s σ H Q I hw
 refine wpAny_isTrue_Compare1 (bJ (h aa s σ H _ I hw) λv s1 h1=>bJ h1 λu s2 h2=>bJ h2 λc s3 ⟨x,H1,I1,r1,q1⟩=>?_) h1
 obtain ⟨d,rfl,q⟩:=q1
 cases r1
 exact R5 ⟨H1,I1,q⟩
theorem Gj (h:PE X e t) (he:∀ whole,isTrue e X.env whole=(do let v <- whole; standAt e.pos; holding [v] (truthy v)):=by intro _; rfl):PT X e (tB t):=by
 intro aa s σ H Q I hw
 refine isTrue_plain (bJ (h aa s σ H _ I hw) λv s1 ⟨x,H1,I1,r1,q1⟩=>?_) (he _)
 obtain ⟨d,rfl,q⟩:=q1
 cases r1
 exact R5 ⟨H1,I1,q⟩
variable {rest:List Expr}
noncomputable def Mi (t u:TT):TT:=λσ H Q=>t σ H λc H1=>if c=true then u σ H1 Q else Q false H1
noncomputable def Mj (t:TT):TT:=λσ H Q=>t σ H λc H1=>Q (!c) H1
theorem pw_and1 (ha:PT X a tA):PW X (.BoolOp .And [a] pos) tA:=by
 intro wh aa s σ H Q I h
 refine isTrue_and (bJ (ha aa s σ H Q I h) λc s1 e=>?_)
 cases c with
 | true=>exact isTrue_and_nil e
 | false=>exact e
theorem pw_and (ha:PT X a tA) (hb:PW X (.BoolOp .And (b::rest) pos) tB'):PW X (.BoolOp .And (a::b::rest) pos) (Mi tA tB'):=by
 intro wh aa s σ H Q I h
 refine isTrue_and (bJ (ha aa s σ H _ I h) λc s1 ⟨H1,I1,q1⟩=>?_)
 cases c with
 | true=>exact hb wh aa s1 σ H1 Q I1 q1
 | false=>exact ⟨H1,I1,q1⟩
theorem Gk (ha:PT X a tA):PT X (.UnaryOp .Not a pos) (Mj tA):=by
 intro aa s σ H Q I h
 exact isTrue_not (ha aa s σ H (λc H1=>Q (!c) H1) I h)
noncomputable def JH (ta tb:TE):TE:=λσ H Q=>ta σ H λx H1=>∃ c,x=.bl c/\if c=true then tb σ H1 Q else Q (.bl false) H1
theorem Gm {op} (h:PE X a t):PE X (.BoolOp op [a] pos) t:=λaa s σ H Q I hw=>BoolOp_one (h aa s σ H Q I hw)
theorem Gn (ha:PE X a ta) (hb:PE X (.BoolOp .And (b::rest) pos) tb):PE X (.BoolOp .And (a::b::rest) pos) (JH ta tb):=by
 intro aa s σ H Q I h
 refine BoolOp_and (bJ (ha aa s σ H _ I h) λv s1 ⟨x,H1,I1,r1,q1⟩=>?_)
 obtain ⟨c,rfl,q1⟩:=q1
 cases r1
 refine R5 ?_
 cases c with
 | true=>exact hb aa s1 σ H1 Q I1 q1
 | false=>exact ⟨.bl false,H1,I1,rfl,q1⟩
noncomputable def N5 (t:TT) (ta tb:TE):TE:=λσ H Q=>t σ H λc H1=>if c=true then ta σ H1 Q else tb σ H1 Q
theorem yy (hc:PT X c tA) (ha:PE X a ta) (hb:PE X b tb):PE X (.IfExp c a b pos) (N5 tA ta tb):=by
 intro aa s σ H Q I h
 refine wpAny_IfExp (bJ (hc aa s σ H _ I h) λd s1 ⟨H1,I1,q1⟩=>?_)
 cases d with
 | true=>exact ha aa s1 σ H1 Q I1 q1
 | false=>exact hb aa s1 σ H1 Q I1 q1
end
def gC (K:Oo) (H:Hp) (a:Addr) (xs:List V):Prop :=
 Rd H a (.lst xs) \/
  ∃ (o:Obj) (its:Array Value) (n:Nat),K.lookup a=some o/\o.cls=.type "list"/\o.dict=none/\o.data=.seq its n/\its.size<=sizeLine/\Vals xs its.toList
def dh (K:Oo) (H:Hp) (a:Addr) (xs:List V):Prop :=
 Rd H a (.tup xs) \/
  ∃ (o:Obj) (its:Array Value) (n:Nat),K.lookup a=some o/\o.cls=.type "tuple"/\o.data=.seq its n/\its.size<=sizeLine/\Vals xs its.toList
noncomputable def Ml:Value->Option V
 | .none=>some .non
 | .bool b=>some (.bl b)
 | .int i _=>some (.int i)
 | .str x _=>some (.str x)
 | .bytes b _=>some (.byt b)
 | .float b _=>some (.flt b)
 | .ref a=>some (.ref a)
 | .type n=>some (.ty n)
 | _=>none
theorem RelV.abs (r:RelV x u):Ml u=some x:=by
 cases x with
 | non=>cases r; rfl
 | bl _=>cases r; rfl
 | int _=>obtain ⟨t,rfl⟩:=r; rfl
 | str _=>obtain ⟨t,rfl⟩:=r; rfl
 | byt _=>obtain ⟨t,rfl⟩:=r; rfl
 | flt _=>obtain ⟨t,rfl⟩:=r; rfl
 | ref _=>cases r; rfl
 | ty _=>cases r; rfl
theorem RelV.inj (r:RelV x u) (q:RelV y u):x=y:=Qo (r.abs.symm.trans q.abs)
theorem Vals.inj:∀ {xs ys:List V} {us:List Value},Vals xs us->Vals ys us->xs=ys
 | _,_,_,.nil,.nil=>rfl
 | _,_,_,.cons r t,.cons r' t'=>by rw [r.inj r',Vals.inj t t']
theorem Inv.list (I:Inv X aa σ H s) (h:gC X.K H a xs):∃ its:List Value,Vals xs its/\PlainL s.heap a its.toArray/\xs.length<=sizeLine:=by
 rcases h with h | ⟨o,its,n,hk,hc,hd,hs,hz,r⟩
 ·obtain ⟨z,its,n,r,e⟩:=h.ok I.hok
  exact ⟨its,r,⟨_,n,e,rfl,rfl,rfl⟩,z⟩
 ·refine ⟨its.toList,r,⟨o,n,I.Ce a o hk,hc,hd,by simpa using hs⟩,?_⟩
  have e:=r.length
  simp only [Pg] at e
  lia
theorem Inv.tuple (I:Inv X aa σ H s) (h:dh X.K H a xs):∃ its:List Value,Vals xs its/\IsTup s.heap a its.toArray/\xs.length<=sizeLine:=by
 rcases h with h | ⟨o,its,n,hk,hc,hs,hz,r⟩
 ·obtain ⟨z,its,r,p⟩:=h.ok I.hok
  exact ⟨its,r,p,z⟩
 ·refine ⟨its.toList,r,⟨o,I.Ce a o hk,hc,n,by simpa using hs⟩,?_⟩
  have e:=r.length
  simp only [Pg] at e
  lia
theorem Inv.pI (I:Inv X aa σ H s) (h:gC X.K H a xs) (h':gC X.K H a ys):xs=ys:=by
 obtain ⟨its,r,⟨o,n,e,_,_,d⟩,_⟩:=I.list h
 obtain ⟨its',r',⟨o',n',e',_,_,d'⟩,_⟩:=I.list h'
 rw [e] at e'; cases e'
 rw [d] at d'
 injection d' with d1 _
 have:its=its':=by simpa using congrArg Array.toList d1
 subst this
 exact r.inj r'
theorem Inv.gD (I:Inv X aa σ H s) (h:dh X.K H a xs) (h':dh X.K H a ys):xs=ys:=by
 obtain ⟨its,r,⟨o,e,_,n,d⟩,_⟩:=I.tuple h
 obtain ⟨its',r',⟨o',e',_,n',d'⟩,_⟩:=I.tuple h'
 rw [e] at e'; cases e'
 rw [d] at d'
 injection d' with d1 _
 have:its=its':=by simpa using congrArg Array.toList d1
 subst this
 exact r.inj r'
noncomputable abbrev Cx.lU (X:Cx) (E:Value->Shared->Prop):Cx:={ X with xe:=E }
noncomputable abbrev Cx.Jq (X:Cx):Cx:=X.lU λ_ _=>False
theorem Cx.Ok.lU {X:Cx} (ok:X.Ok) (E):(X.lU E).Ok :=
 ⟨ok.mod,ok.kind,ok.glob,ok.blt,ok.above,ok.inj,ok.has,ok.cab,ok.hd,ok.frames,ok.stk,ok.exf,ok.bs,ok.bsz,ok.noex,ok.exfs,ok.jj,ok.frf⟩
theorem Cx.Ok.fV {X:Cx} (ok:(X.lU E).Ok):X.Ok :=
 ⟨ok.mod,ok.kind,ok.glob,ok.blt,ok.above,ok.inj,ok.has,ok.cab,ok.hd,ok.frames,ok.stk,ok.exf,ok.bs,ok.bsz,ok.noex,ok.exfs,ok.jj,ok.frf⟩
theorem Inv.lU (I:Inv X aa σ H s) (E):Inv (X.lU E) aa σ H s:=⟨I.ok.lU E,I.os,I.bare,I.base,I.loc,I.cell,I.free,I.freeC,I.pin,I.hok,I.len⟩
theorem Inv.fV (I:Inv (X.lU E) aa σ H s):Inv X aa σ H s:=⟨I.ok.fV,I.os,I.bare,I.base,I.loc,I.cell,I.free,I.freeC,I.pin,I.hok,I.len⟩
theorem SP.fV (h:SP (X.lU E) aa D f s'):SP X aa D f s':=by
 cases f with
 | next=>obtain ⟨σ',H',I,q⟩:=h; exact ⟨σ',H',I.fV,q⟩
 | brk=>obtain ⟨σ',H',I,q⟩:=h; exact ⟨σ',H',I.fV,q⟩
 | cont=>obtain ⟨σ',H',I,q⟩:=h; exact ⟨σ',H',I.fV,q⟩
 | ret u=>obtain ⟨v,σ',H',I,r,q⟩:=h; exact ⟨v,σ',H',I.fV,r,q⟩
theorem r6.Jq {st:List Stmt} (h:r6 X.Jq st t):r6 X st t:=λaa s σ H D I hw =>
 Pe (h aa s σ H D (I.lU _) hw) (λ_ _ q=>q.fV) λ_ _ z=>PM z
section
variable {st:Stmt} {rest:List Stmt}
noncomputable def JI:TS:=λD σ H=>D.nx σ H
noncomputable def Mm (t u:TS):TS:=λD σ H=>t { D with nx:=u D } σ H
theorem Cu:r6 X [] JI:=λ_ _ σ H _ I h=>wpAny_execs_nil ⟨σ,H,I,h⟩
theorem yz (h1:PS X st t) (h2:r6 X rest u):r6 X (st::rest) (Mm t u):=by
 intro aa s σ H D I h
 refine wpAny_execs_cons (bJ (h1 aa s σ H { D with nx:=u D } I h) λf s1 q=>?_)
 cases f with
 | next =>
  obtain ⟨σ',H',I',q⟩:=q
  exact h2 aa s1 σ' H' D I' q
 | ret v=>exact q
 | brk=>exact q
 | cont=>exact q
theorem Inv.quiet (I:Inv X aa σ H s):interactive X.env=false:=by simp [interactive,I.ok.kind]
noncomputable def JJ (te:TE):TS:=λD σ H=>te σ H λ_ H1=>D.nx σ H1
theorem nO (he:PE X e te) (hs:swapsWith e none pos.line X.env=pure false:=by rfl):PS X (.Expr e pos) (JJ te):=by
 intro aa s σ H D I h
 exact wpAny_Expr_any (bJ (he aa s σ H _ I h) λv s1 ⟨x,H1,I1,r1,q1⟩=>⟨σ,H1,I1,q1⟩) I.quiet hs
noncomputable def Mn (te:TE):TS:=λD σ H=>te σ H D.rt
theorem yC (he:PE X e te):PS X (.Return (some e) pos) (Mn te):=by
 intro aa s σ H D I h
 exact wpAny_Return_some (bJ (he aa s σ H _ I h) λv s1 ⟨x,H1,I1,r1,q1⟩=>⟨x,σ,H1,I1,r1,q1⟩)
noncomputable def Mp (c:TT) (t u:TS):TS:=λD σ H=>c σ H λb H1=>if b=true then t D σ H1 else u D σ H1
theorem JK (hc:PT X c tc) (ha:r6 X a t) (hb:r6 X b u):PS X (.If c a b pos) (Mp tc t u):=by
 intro aa s σ H D I h
 refine wpAny_If (bJ (hc aa s σ H _ I h) λd s1 ⟨H1,I1,q1⟩=>?_)
 cases d with
 | true=>exact ha aa s1 σ H1 D I1 q1
 | false=>exact hb aa s1 σ H1 D I1 q1
end
noncomputable abbrev TG:=V->St->Hp->(St->Hp->Prop)->Prop
noncomputable abbrev JL:=List V->St->Hp->(St->Hp->Prop)->Prop
def PG (X:Cx) (target:Expr) (t:TG):Prop :=
 ∀ (aa:List (Addr×Obj)) (s:Shared) (σ:St) (H:Hp) (v:V) (u:Value) (Q:St->Hp->Prop),Inv X aa σ H s->RelV v u->t v σ H Q ->
  wpAny (model X.prog X.w) X.A (assign target X.env u) (λ_ s'=>∃ σ' H',Inv X aa σ' H' s'/\Q σ' H') X.xe s
def Jr (X:Cx) (ts:List Expr) (t:JL):Prop :=
 ∀ (aa:List (Addr×Obj)) (s:Shared) (σ:St) (H:Hp) (vs:List V) (us:List Value) (Q:St->Hp->Prop),Inv X aa σ H s->Vals vs us->t vs σ H Q ->
  wpAny (model X.prog X.w) X.A (assignInOrder ((assignEach ts X.env).map (·.2)) us) (λ_ s'=>∃ σ' H',Inv X aa σ' H' s'/\Q σ' H') X.xe s
noncomputable abbrev Gp:=V->V->V->Hp->(Hp->Prop)->Prop
def JM (X:Cx) (t:Gp):Prop :=
 ∀ (aa:List (Addr×Obj)) (s:Shared) (σ:St) (H:Hp) (o i v:V) (ov iv u:Value) (Q:Hp->Prop),Inv X aa σ H s->RelV o ov->RelV i iv->RelV v u->t o i v H Q ->
  wpAny (model X.prog X.w) X.A (setItem ov iv u) (λ_ s'=>∃ H',Inv X aa σ H' s'/\Q H') X.xe s
noncomputable abbrev NI:=V->V->Hp->VK->Prop
def NJ (X:Cx) (op:Operator) (t:NI):Prop :=
 ∀ (aa:List (Addr×Obj)) (s:Shared) (σ:St) (H:Hp) (x y:V) (v u:Value) (Q:VK),Inv X aa σ H s->RelV x v->RelV y u->t x y H Q ->
  wpAny (model X.prog X.w) X.A (inplaceOp op v u) (EP X aa σ Q) X.xe s
noncomputable def E8 (i:Nat):TG:=λv σ H Q=>Q (σ.set i (some v)) H
theorem uv (hN:X.N.Nodup) (hi:X.N[i]?=some x) (hx:Loc X.env.scope x) (hf:X.fn x=true\/X.env.scope.names.lookup x=some .local:=by first | exact .inl rfl | exact .inr rfl | assumption):PG X (.Name x pos) (E8 i):=by
 intro aa s σ H v u Q I r h
 exact wpAny_assign_Name (fU I hN hi hx r (λs' I'=>⟨_,H,I',h⟩) hf)
noncomputable def Mq:JL:=λvs σ H Q=>vs=[]/\Q σ H
noncomputable def JN (t:TG) (u:JL):JL:=λvs σ H Q=>∃ v r,vs=v::r/\t v σ H λσ' H'=>u r σ' H' Q
theorem Cv:Jr X [] Mq:=by
 intro aa s σ H vs us Q I r h
 obtain ⟨e,h⟩:=h
 subst e
 cases r
 exact assignInOrder_nil ⟨σ,H,I,h⟩
theorem yD (h1:PG X e t) (h2:Jr X es u)
 (hs:(assignEach (e::es) X.env).map (·.2)=assign e X.env::(assignEach es X.env).map (·.2):=by rfl):Jr X (e::es) (JN t u):=by
 intro aa s σ H vs us Q I r h
 obtain ⟨v,vr,e1,h⟩:=h
 subst e1
 cases r with
 | cons r rr =>
  rw [hs]
  refine UG (bJ (h1 aa s σ H _ _ _ I r h) λ_ s1 ⟨σ1,H1,I1,q1⟩=>?_)
  exact h2 aa s1 σ1 H1 _ _ Q I1 rr q1
noncomputable def Mr (K:Oo) (n:Nat) (t:JL):TG:=λv σ H Q=>∃ a xs,v=.ref a/\dh K H a xs/\xs.length=n/\t xs σ H Q
theorem Gq (hc:X.calm=true) (h:Jr X es t)
 (hn:(assignEach es X.env).length=n:=by rfl) (hst:(assignEach es X.env).findIdx? (·.1)=none:=by rfl):PG X (.Tuple es k pos) (Mr X.K n t):=by
 intro aa s σ H v u Q I r hw
 obtain ⟨a,xs,e1,hq,hl,hw⟩:=hw
 subst e1
 cases r
 obtain ⟨its,rv,ht,hz⟩:=I.tuple hq
 refine assign_Tuple_tuple (I.ok.hd hc) ht (by simp [hn,<- hl,rv.length]) hst λh' hx=>?_
 have I1:Inv X aa σ H { s with heap:=h' }:=I.kept (t':=s.toks) λb o e=>hx b o (OU (Oz e)) e
 exact h aa _ σ H xs _ Q I1 (by simpa using rv) hw
noncomputable def Ms (to ti:TE) (t:Gp):TG:=λv σ H Q=>to σ H λo H1=>ti σ H1 λi H2=>t o i v H2 λH3=>Q σ H3
theorem Gr (ho:PE X o to) (hi:PE X i ti) (hs:JM X t)
 (ha:∀ v,assign (.Subscript o i pos) X.env v=(do
   let ov <- holding [v] (eval o X.env)
   let iv <- holding [v,ov] (eval i X.env)
   standAt pos
   holding [v,ov,iv] (setItem ov iv v)
   release [v,ov,iv] []):=by intro _; rfl):PG X (.Subscript o i pos) (Ms to ti t):=by
 intro aa s σ H v u Q I r h
 rw [ha]
 refine Ol (PY (bJ (ho aa s σ H _ I h) λov s1 ⟨x,H1,I1,r1,q1⟩=>?_))
 refine Ol (PY (bJ (hi aa s1 σ H1 _ I1 q1) λiv s2 ⟨y,H2,I2,r2,q2⟩=>?_))
 refine Ol (wpAny_standAt (Ol (PY (bJ (hs aa s2 σ H2 x y v ov iv u _ I2 r1 r2 r q2) λ_ s3 ⟨H3,I3,q3⟩=>?_))))
 exact wpAny_release ⟨σ,H3,I3,q3⟩
noncomputable def JO (te:TE) (g:TG):TS:=λD σ H=>te σ H λx H1=>g x σ H1 D.nx
theorem yE (he:PE X e te) (hg:PG X tg g) (hs:swapsWithSole [tg] e pos.line X.env=pure false:=by rfl) (hw:swappedStores [tg] e X.env=pure none:=by rfl)
 (h1:(assignEach [tg] X.env).map (·.2)=[assign tg X.env]:=by rfl):PS X (.Assign [tg] e pos) (JO te g):=by
 intro aa s σ H D I h
 refine wpAny_Assign_stores (bJ (he aa s σ H _ I h) λv s1 ⟨x,H1,I1,r1,q1⟩=>?_) hs hw
 rw [h1]
 exact bJ (hg aa s1 σ H1 x v _ I1 r1 q1) λ_ s2 q=>q
theorem Gs (hN:X.N.Nodup) (hi:X.N[i]?=some x) (hx:Loc X.env.scope x) (he:PE X e te) (hs:swapsWith e (some (.Name x pos')) pos.line X.env=pure false:=by rfl) (hf:X.fn x=true\/X.env.scope.names.lookup x=some .local:=by first | exact .inl rfl | exact .inr rfl | assumption) :
 PS X (.Assign [.Name x pos'] e pos) (JO te (E8 i)):=by
 intro aa s σ H D I h
 refine wpAny_Assign_Name (bJ (he aa s σ H _ I h) λv s1 ⟨y,H1,I1,r1,q1⟩=>?_) hs
 exact fU I1 hN hi hx r1 (λs2 I2=>⟨_,H1,I2,q1⟩) hf
noncomputable def Mt (i j:Nat) (ta:TA):TS:=λD σ H=>ta σ H λvs H1=>∃ v w,vs=[v,w]/\D.nx ((σ.set i (some v)).set j (some w)) H1
theorem Gu {kt k2 pt2} (hc:X.calm=true) (hN:X.N.Nodup) (hi:X.N[i]?=some x) (hj:X.N[j]?=some y) (hij:i≠j)
 (hx:X.env.scope.names.lookup x=some .local) (hy:X.env.scope.names.lookup y=some .local) (ha:PA X [a,b] ta)
 (hw:swappedStores [.Tuple [.Name x px,.Name y py] kt pt] (.Tuple [a,b] k2 pt2) X.env=pure (some [x,y]))
 (hs:swapsWithSole [.Tuple [.Name x px,.Name y py] kt pt] (.Tuple [a,b] k2 pt2) pos.line X.env=pure false:=by rfl) :
 PS X (.Assign [.Tuple [.Name x px,.Name y py] kt pt] (.Tuple [a,b] k2 pt2) pos) (Mt i j ta):=by
 intro aa s σ H D I h
 rw [exec_Assign_arm]
 refine Ol (wpAny_standAt ?_)
 rw [hs]
 refine Ol (Oq ?_)
 rw [if_neg (by decide)]
 refine Ol (Tuple_ (bJ (ha _ aa s σ H _ I h) λus s1 ⟨vs,H1,I1,r1,q1⟩=>?_))
 obtain ⟨v,w,e1,q1⟩:=q1
 subst e1
 obtain ⟨u1,u2,rfl,rv,rw'⟩:∃ u1 u2,us=[u1,u2]/\RelV v u1/\RelV w u2:=by
  cases r1 with
  | cons p q =>
   cases q with
   | cons p' q' =>
    cases q'
    exact ⟨_,_,rfl,p,p'⟩
 refine Pk ?_ (by show 2<=sizeLine; decide)
 have I2:Inv X aa σ H1 { s1 with heap:=s1.heap.push { cls:=.type "tuple",data:=.seq [u1,u2].toArray } }:=I1.kept (t':=s1.toks) λb o e=>Ow _ e
 rw [hw]
 refine Ol (Oq ?_)
 show wpAny (model X.prog X.w) X.A (do rule "assign.swapped-stores"; let items <- unpackItems (.ref s1.heap.objs.size) 2 none; assignInOrder [λv=>bindName X.env y v,λv=>bindName X.env x v] items.reverse; pure Flow.next) _ _ _
 refine Ol (Pw (Ol (unpackItems_tuple (items:= #[u1,u2]) (I.ok.hd hc) (IsTup.new s1.heap _) λh' hx'=>?_)))
 have I3:=I2.kept (h':=h') (t':=s1.toks) λb o e=>hx' b o (OU (Oz e)) e
 show wpAny _ _ (assignInOrder [λv=>bindName X.env y v,λv=>bindName X.env x v] [u2,u1] >>= λ_=>pure Flow.next) _ _ _
 refine Ol (UG (wpAny_bindName (fU I3 hN hj (.inl hy) rw' (λs2 I4=>?_) (.inr hy))))
 refine UG (wpAny_bindName (fU I4 hN hi (.inl hx) rv (λs3 I5=>assignInOrder_nil (Oq ?_)) (.inr hx)))
 rw [List.set_comm _ _ (OT hij)] at I5
 exact ⟨_,H1,I5,q1⟩
noncomputable def Mu (i:Nat) (te:TE) (ti:NI):TS:=λD σ H=>∃ x,σ[i]?=some (some x)/\te σ H λy H1=>ti x y H1 λz H2=>D.nx (σ.set i (some z)) H2
theorem Gv (hN:X.N.Nodup) (hi:X.N[i]?=some x) (hx:Loc X.env.scope x) (he:PE X e te) (ho:NJ X op ti) (hf:X.fn x=true\/X.env.scope.names.lookup x=some .local:=by first | exact .inl rfl | exact .inr rfl | assumption) :
 PS X (.AugAssign (.Name x pos') op e pos) (Mu i te ti):=by
 intro aa s σ H D I h
 obtain ⟨v,e1,h⟩:=h
 obtain ⟨m,hn,hl⟩:=I.loc
 have vis:Mg X.env.scope x:=by rcases hx with k | k; exact .inl k; exact .inr (.inl k)
 obtain ⟨u,r,l⟩:=hl i x v hi e1 vis
 refine wpAny_AugAssign_Name ?_
 have go:wpAny (model X.prog X.w) X.A (eval e X.env) (λw s₂=>wpAny (model X.prog X.w) X.A (inplaceOp op u w) (λr s₃=>wpAny (model X.prog X.w) X.A (storeName X.env x r) (λ_=>SP X aa D .next) X.xe s₃) X.xe s₂) X.xe s:=by
  refine bJ (he aa s σ H _ I h) λw s1 ⟨y,H1,I1,r1,q1⟩=>?_
  refine bJ (ho aa s1 σ H1 v y u w _ I1 r r1 q1) λz s2 ⟨zv,H2,I2,r2,q2⟩=>?_
  exact fU I2 hN hi hx r2 (λs3 I3=>⟨_,H2,I3,q2⟩) hf
 rcases l with ⟨hk,hm⟩ | ⟨hk,c,hc,hcell⟩
 ·exact wpAny_loadName_local I.ok.kind hk hn hm go
 ·rcases hk with hk | hk
  ·exact wpAny_loadName_cell I.ok.kind hk hc hcell go
  ·rcases hx with k | k
   ·have:X.env.scope.names.lookup x=some .free:=hk
    rw [k] at this; cases this
   ·have:X.env.scope.names.lookup x=some .free:=hk
    rw [k] at this; cases this
noncomputable def Gw (c:TT) (tb:TS):TS:=λD σ H=>∃ W:Nat->St->Hp->Prop,(∃ m,W m σ H)/\∀ m σ H,W m σ H ->
 c σ H λb H1=>if b=true then ∃ N:St->Hp->Prop,(∀ σ' H',N σ' H'->∃ m',m'<m/\W m' σ' H')/\tb { D with nx:=N,ct:=N,bk:=D.nx } σ H1 else D.nx σ H1
theorem yF (hp:PassesOwn (model X.prog X.w) X.A X.env X.xe) (hc:PT X c tc) (hb:r6 X body tb):PS X (.While c body [] pos) (Gw tc tb):=by
 intro aa s σ H D I h
 obtain ⟨W,⟨m0,w0⟩,turn⟩:=h
 refine wpAny_While (codeAny_whileLoop (λn s'=>∃ σ' H',Inv X aa σ' H' s'/\W n σ' H') ?_ m0 ⟨σ,H,I,w0⟩)
 rintro n s1 ⟨σ1,H1,I1,w1⟩
 refine Rb hp (bJ (hc aa s1 σ1 H1 _ I1 (turn n σ1 H1 w1)) λb s2 ⟨H2,I2,q2⟩=>?_)
 cases b with
 | true =>
  obtain ⟨N,hN,q2⟩:=q2
  rw [if_pos rfl]
  refine Rb hp (bJ (hb aa s2 σ1 H2 _ I2 q2) λf s3 q3=>?_)
  cases f with
  | next =>
   obtain ⟨σ3,H3,I3,n3⟩:=q3
   obtain ⟨m',hm,w3⟩:=hN σ3 H3 n3
   exact ⟨m',hm,σ3,H3,I3,w3⟩
  | cont =>
   obtain ⟨σ3,H3,I3,n3⟩:=q3
   obtain ⟨m',hm,w3⟩:=hN σ3 H3 n3
   exact ⟨m',hm,σ3,H3,I3,w3⟩
  | brk=>exact q3
  | ret v=>exact q3
 | false =>
  rw [if_neg OC]
  exact wpAny_execs_nil ⟨σ1,H2,I2,q2⟩
structure It where
 go:Nat->Hp->Prop
 yld:Nat->Hp->V->Hp->Prop
 stop:Nat->Hp->Prop
def fH (X:Cx) (aa:List (Addr×Obj)) (H:Hp) (b:Addr):Prop :=
 H b=none/\b≠X.env.locals/\b∉X.fs/\(b∈X.ex\/X.s₀.heap.objs.size<=b)/\(∀ x c,X.env.cells.lookup x=some c->c≠b)/\∀ p∈X.pn++aa,p.1≠b
theorem Inv.kh (I:Inv X aa σ H s) (hb:s.heap.objs.size<=b) (hn:H' b=none):fH X aa H' b:=by
 refine ⟨hn,QT (Ph I.lt hb),I.JE hb,.inr (OD I.sz hb),λx c e z=>?_,λp hp z=>?_⟩
 ·obtain ⟨v,q⟩:=I.cell x c e
  exact absurd (Ph q.lt (by rw [z]; exact hb)) (Qj _)
 ·exact absurd (Ph (Oz (I.pin p hp).1) (by rw [z]; exact hb)) (Qj _)
structure Turn (P:Program) (w:World) (K:Oo) (tg:Expr) (J:It) (fp:List Addr) (it:Addr) (tn:Nat->Heap->Prop):Prop where
 mem:it∈fp
 obj:∀ i h,tn i h->∀ b∈fp,∃ o,h.get? b=some o/\∀ v,o.data≠.cell v
 keep:∀ i h h',tn i h->(∀ b∈fp,∀ o,h.get? b=some o->h'.get? b=some o)->tn i h'
 item:∀ (X:Cx),X.prog=P->X.w=w->X.K=K->X.calm=true->∀ (i:Nat) (aa:List (Addr×Obj)) (s:Shared) (σ:St) (H:Hp) (E:Value->Shared->Prop),Inv X aa σ H s->(∀ b∈fp,fH X aa H b)->tn i s.heap->J.go i H ->
  wpAny (model P w) X.A (pyNext (.ref it)) (λr s1=>∃ u,r=some u /\
   wpAny (model P w) X.A (letOwnedTupleGo tg (.ref it) u) (λ_ s2=>∃ x H',Inv X aa σ H' s2/\RelV x u/\J.yld i H x H'/\tn (i+1) s2.heap/\∀ b∈fp,H' b=none) E s1) E s
 done:∀ (X:Cx),X.prog=P->X.w=w->X.K=K->X.calm=true->∀ (i:Nat) (aa:List (Addr×Obj)) (s:Shared) (σ:St) (H:Hp) (E:Value->Shared->Prop),Inv X aa σ H s->(∀ b∈fp,fH X aa H b)->tn i s.heap->J.stop i H ->
  wpAny (model P w) X.A (pyNext (.ref it)) (λr s1=>r=none/\Inv X aa σ H s1) E s
 self:∀ (A:Around) (i:Nat) (s:Shared) (Q:Value->Shared->Prop) (E:Value->Shared->Prop),tn i s.heap->Q (.ref it) s->wpAny (model P w) A (pyIter (.ref it)) Q E s
noncomputable abbrev TI:=St->Hp->(It->Hp->Prop)->Prop
def Mw (X:Cx) (aa:List (Addr×Obj)) (σ:St) (tg:Expr) (R:It->Hp->Prop) (itv:Value) (s2:Shared):Prop :=
 ∃ (it:Addr) (fp:List Addr) (tn:Nat->Heap->Prop) (J:It) (H':Hp),itv=.ref it/\Inv X aa σ H' s2/\Turn X.prog X.w X.K tg J fp it tn/\tn 0 s2.heap/\(∀ b∈fp,fH X aa H' b)/\R J H'
def PI (X:Cx) (tg iter:Expr) (wi:TI):Prop :=
 ∀ (aa:List (Addr×Obj)) (s:Shared) (σ:St) (H:Hp) (R:It->Hp->Prop),Inv X aa σ H s->wi σ H R ->
  wpAny (model X.prog X.w) X.A (eval iter X.env) (λv s1=>wpAny (model X.prog X.w) X.A (pyIter v) (Mw X aa σ tg R) X.xe s1) X.xe s
theorem mz (ho:s.heap.get? it=some o) (hc:o.cls=.type n) (hd:o.data=.fields vs)
 (hn:["enumerate","zip","dict_itemiterator","dict_reverseitemiterator","odict_iterator","itertools.zip_longest","itertools.pairwise"].contains n=false) (hQ:Q () s):wpAny M A (letOwnedTupleGo tg (.ref it) u) Q E s:=by
 unfold letOwnedTupleGo
 cases tg <;> first
  | exact Oq hQ
  | (cases u <;> first
      | exact Oq hQ
      | (refine Ol (wpAny_load ho ?_)
         rw [hc,hd]
         show wpAny M A (if (["enumerate","zip","dict_itemiterator","dict_reverseitemiterator","odict_iterator","itertools.zip_longest","itertools.pairwise"].contains n && vs[0]? == some (rawInt _))=true then _ else _) Q E s
         rw [if_neg (by intro h; rw [hn,Bool.false_and] at h; cases h)]
         exact Oq hQ))
noncomputable def Mx (K:Oo) (a:Addr):It :=
 ⟨λi H=>∃ xs x,gC K H a xs/\xs[i]?=some x,λi H x H'=>H'=H/\∀ xs,gC K H a xs->xs[i]?=some x,λi H=>∃ xs,gC K H a xs/\xs.length<=i⟩
noncomputable def Mz (K:Oo) (a:Addr):It :=
 ⟨λi H=>∃ xs x,dh K H a xs/\xs[i]?=some x,λi H x H'=>H'=H/\∀ xs,dh K H a xs->xs[i]?=some x,λi H=>∃ xs,dh K H a xs/\xs.length<=i⟩
noncomputable def LR (lo:Int) (n:Nat):It:=⟨λi _=>i<n,λi H x H'=>H'=H/\x=.int (lo+i),λi _=>n<=i⟩
theorem wD {P:Program} {w:World} {K:Oo} {tg:Expr} (a it:Addr):Turn P w K tg (Mx K a) [it] it (λi h=>h.IsListIter it a i) where
 mem:=by simp
 obj:=λi h st b hb=>by
  have e:b=it:=by simpa using hb
  subst e
  obtain ⟨o,e,c,d⟩:=st
  exact ⟨o,e,λv z=>by rw [d] at z; cases z⟩
 keep:=λi h h' st k=>st.at λo e=>k it (by simp) o e
 item:=by
  intro X hP hw hK hc i aa s σ H E I hf st hg
  subst hP hw hK
  obtain ⟨xs,x,hq,hx⟩:=hg
  obtain ⟨its,rv,p,hz⟩:=I.list hq
  obtain ⟨u,hu,ru⟩:=rv.get hx
  obtain ⟨f0,f1,f2,f3,f4,f5⟩:=hf it (by simp)
  refine wpAny_pyNext_list_item st p.isList (x:=u) (by simpa using hu) λh' st' sb=>?_
  have I1:Inv X aa σ H { s with heap:=h' }:=I.turned (t':=s.toks) (λb o hb e=>(sb.2 b hb).trans e) f0 f1 f3 f4 f5
  obtain ⟨o,e,c,d⟩:=id st'
  exact ⟨u,rfl,mz (s:={ s with heap:=h' }) e c d (by decide) ⟨x,H,I1,ru,⟨rfl,λys hy=>by rw [I.pI hy hq]; exact hx⟩,st',λb hb=>(hf b hb).1⟩⟩
 done:=by
  intro X hP hw hK hc i aa s σ H E I hf st hg
  subst hP hw hK
  obtain ⟨xs,hq,hx⟩:=hg
  obtain ⟨its,rv,p,hz⟩:=I.list hq
  obtain ⟨f0,f1,f2,f3,f4,f5⟩:=hf it (by simp)
  have hl:=rv.length
  exact wpAny_pyNext_list_end (I.ok.hd hc) st p.isList (by simp; lia) λh' eb=>⟨rfl,I.turned (t':=s.toks) (λb o hb e=>eb b o hb e) f0 f1 f3 f4 f5⟩
 self:=λ_ _ _ _ _ st h=>wpAny_pyIter_listiter st h
theorem r9 {P:Program} {w:World} {K:Oo} {tg:Expr} (a it:Addr):Turn P w K tg (Mz K a) [it] it (λi h=>h.IsTupleIter it a i) where
 mem:=by simp
 obj:=λi h st b hb=>by
  have e:b=it:=by simpa using hb
  subst e
  obtain ⟨o,e,c,d⟩:=st
  exact ⟨o,e,λv z=>by rw [d] at z; cases z⟩
 keep:=λi h h' st k=>st.at λo e=>k it (by simp) o e
 item:=by
  intro X hP hw hK hc i aa s σ H E I hf st hg
  subst hP hw hK
  obtain ⟨xs,x,hq,hx⟩:=hg
  obtain ⟨its,rv,p,hz⟩:=I.tuple hq
  obtain ⟨u,hu,ru⟩:=rv.get hx
  obtain ⟨f0,f1,f2,f3,f4,f5⟩:=hf it (by simp)
  refine wpAny_pyNext_tuple_item st (show s.heap.IsTuple a its.toArray from p) (x:=u) (by simpa using hu) λh' st' sb=>?_
  have I1:Inv X aa σ H { s with heap:=h' }:=I.turned (t':=s.toks) (λb o hb e=>(sb.2 b hb).trans e) f0 f1 f3 f4 f5
  obtain ⟨o,e,c,d⟩:=id st'
  exact ⟨u,rfl,mz (s:={ s with heap:=h' }) e c d (by decide) ⟨x,H,I1,ru,⟨rfl,λys hy=>by rw [I.gD hy hq]; exact hx⟩,st',λb hb=>(hf b hb).1⟩⟩
 done:=by
  intro X hP hw hK hc i aa s σ H E I hf st hg
  subst hP hw hK
  obtain ⟨xs,hq,hx⟩:=hg
  obtain ⟨its,rv,p,hz⟩:=I.tuple hq
  obtain ⟨f0,f1,f2,f3,f4,f5⟩:=hf it (by simp)
  have hl:=rv.length
  exact wpAny_pyNext_tuple_end (I.ok.hd hc) st (show s.heap.IsTuple a its.toArray from p) (by simp; lia) λh' eb=>⟨rfl,I.turned (t':=s.toks) (λb o hb e=>eb b o hb e) f0 f1 f3 f4 f5⟩
 self:=λ_ _ _ _ _ st h=>wpAny_pyIter_tupleiter st h
theorem sd {P:Program} {w:World} {K:Oo} {tg:Expr} (it:Addr) (lo:Int) (n:Nat):Turn P w K tg (LR lo n) [it] it (λi h=>IsRangeIter h it (lo+(i:Nat) * 1) ((n:Int) - (i:Nat)) 1) where
 mem:=by simp
 obj:=λi h st b hb=>by
  have e:b=it:=by simpa using hb
  subst e
  exact ⟨_,st,λv z=>by
   have z':So _=Rp v:=z
   cases z'⟩
 keep:=λi h h' st k=>k it (by simp) _ st
 item:=by
  intro X hP hw hK hc i aa s σ H E I hf st hg
  subst hP hw hK
  obtain ⟨f0,f1,f2,f3,f4,f5⟩:=hf it (by simp)
  have W:=Walks.range (prog:=X.prog) (w:=X.w) (I.ok.hd hc) it lo 1 n
  refine W.item i s _ _ hg st λv h' tk hv st' kk=>?_
  obtain ⟨t,rfl⟩:=hv
  have I1:Inv X aa σ H { s with heap:=h',toks:=tk }:=I.turned (λb o hb e=>kk b o (by simpa using hb) e) f0 f1 f3 f4 f5
  refine ⟨_,rfl,mz (s:={ s with heap:=h',toks:=tk }) (n:="range_iterator") st' rfl rfl (by decide) ⟨.int (lo+i),H,I1,⟨t,?_⟩,⟨rfl,rfl⟩,st',λb hb=>(hf b hb).1⟩⟩
  rw [Int.mul_one]
 done:=by
  intro X hP hw hK hc i aa s σ H E I hf st hg
  subst hP hw hK
  obtain ⟨f0,f1,f2,f3,f4,f5⟩:=hf it (by simp)
  exact wpAny_pyNext_range_end (I.ok.hd hc) st (by have:n<=i:=hg; lia) λh' eb=>⟨rfl,I.turned (t':=s.toks) (λb o hb e=>eb b o hb e) f0 f1 f3 f4 f5⟩
 self:=λ_ _ _ _ _ st h=>wpAny_pyIter_rangeiter st h
theorem yG {lo hi:Int} (I:Inv X aa σ H s) (h1: -(2 ^ 62)<=lo) (h2:lo<2 ^ 62) (h3: -(2 ^ 62)<=hi) (h4:hi<2 ^ 62)
 (q:R (LR lo (hi - lo).toNat) H):wpAny (model X.prog X.w) X.A (pyIter (.ref s.heap.objs.size)) (Mw X aa σ tg R) E { s with heap:=s.heap.push { cls:=.type "range",data:=.fields #[.int lo t,.int hi u,.int 1 v] },toks:=tk }:=by
 refine wpAny_pyIter_range (IsRange.new ..) (small_one h1 h2 h3 h4) ?_
 have I1:Inv X aa σ H { s with heap:=s.heap.push { cls:=.type "range",data:=.fields #[.int lo t,.int hi u,.int 1 v] },toks:=tk }:=I.kept λb o e=>Ow _ e
 refine ⟨(s.heap.push { cls:=.type "range",data:=.fields #[.int lo t,.int hi u,.int 1 v] }).objs.size,[(s.heap.push { cls:=.type "range",data:=.fields #[.int lo t,.int hi u,.int 1 v] }).objs.size],_,_,H,rfl,
  I1.kept (t':=tk) λb o e=>Ow _ e,sd _ lo (hi - lo).toNat,?_,λb hb=>?_,q⟩
 ·have e1:lo+((0:Nat):Int) * 1=lo:=by simp
  have e2:(((hi - lo).toNat:Nat):Int) - ((0:Nat):Int)=SM lo hi 1:=by rw [rangeSize_one]; split <;> lia
  show IsRangeIter _ _ (lo+((0:Nat):Int) * 1) ((((hi - lo).toNat:Nat):Int) - ((0:Nat):Int)) 1
  rw [e1,e2]
  exact OF _ rfl
 ·have e:b=(s.heap.push { cls:=.type "range",data:=.fields #[.int lo t,.int hi u,.int 1 v] }).objs.size:=by simpa using hb
  subst e
  exact I1.kh (Ot _) (I1.hok.fresh (Ot _))
noncomputable def JP (ta:TA):TI:=λσ H R=>ta σ H λvs H1=>∃ j:Int,vs=[.int j]/\ -(2 ^ 62)<=j/\j<2 ^ 62/\R (LR 0 j.toNat) H1
theorem wF (hg:Gl X "range") (hm:X.mg "range"=none) (ha:PA X [a] ta) (hs:starEach [a] X.env=[(false,eval a X.env)]:=by rfl):PI X tg (.Call (.Name "range" p) [a] [] pos) (JP ta):=by
 intro aa s σ H R I h
 refine Call_ (dW I hg hm boot_range (Rt (bJ (ha pos aa s σ H _ I h) λus s1 ⟨vs,H1,I1,r1,q1⟩=>?_) hs rfl))
 obtain ⟨j,e,q1,q2,q⟩:=q1
 subst e
 cases r1 with
 | cons r rr =>
  cases rr
  obtain ⟨t,rfl⟩:=r
  exact call_range_1 (yG I1 (by lia) (by lia) q1 q2 (by simpa using q))
noncomputable def MA (wi:TI) (g:TG) (tb:TS):TS:=λD σ H=>wi σ H λJ H1=>∃ W:Nat->Nat->St->Hp->Prop,(∃ m,W 0 m σ H1)/\∀ i m σ H,W i m σ H ->
 (J.stop i H/\D.nx σ H)\/(J.go i H/\∃ N:St->Hp->Prop,(∀ σ' H',N σ' H'->∃ m',m'<m/\W (i+1) m' σ' H')/\∀ x H',J.yld i H x H'->g x σ H' λσ2 H2=>tb { D with nx:=N,ct:=N,bk:=D.nx } σ2 H2)
noncomputable def ki (fp:List Addr) (h:Heap):List (Addr×Obj):=fp.filterMap λb=>(h.get? b).map λo=>(b,o)
theorem fJ (hb:b∈fp) (e:h.get? b=some o):(b,o)∈ki fp h:=List.mem_filterMap.mpr ⟨b,hb,by rw [e]; rfl⟩
theorem wG (hp:p∈ki fp h):p.1∈fp/\h.get? p.1=some p.2:=by
 obtain ⟨b,hb,e⟩:=List.mem_filterMap.mp hp
 cases q:h.get? b with
 | none=>rw [q] at e; cases e
 | some o =>
  rw [q] at e
  have e':(b,o)=p:=Qo e
  subst e'
  exact ⟨hb,q⟩
theorem Inv.pinned (I:Inv X aa σ H s) (hf:∀ b∈fp,fH X aa H b) (ho:∀ b∈fp,∃ o,s.heap.get? b=some o/\∀ v,o.data≠.cell v):Inv X (aa++ki fp s.heap) σ H s :=
 I.uq λp hp=>(OZ.mp hp).elim (λz=>I.pin p (Ql _ z)) λz=>by
  obtain ⟨hb,e⟩:=wG z
  obtain ⟨f0,f1,f2,_⟩:=hf p.1 hb
  obtain ⟨o,e',d⟩:=ho p.1 hb
  rw [e] at e'; cases e'
  exact ⟨e,f0,f1,f2,d⟩
theorem Inv.fW (I:Inv X (aa++pl) σ H s):Inv X aa σ H s:=I.uq λp hp=>I.pin p (Ql _ (SX _ hp))
theorem Gx (hp:PassesOwn (model X.prog X.w) X.A X.env X.xe) (hc:X.calm=true) (hi:PI X tg iter wi) (hg:PG X tg g) (hb:r6 X body tb)
 (hs:∀ x,foldedSetIterable iter X.env x=pure x:=by intro _; rfl):PS X (.For tg iter body [] pos) (MA wi g tb):=by
 intro aa s σ H D I h
 refine wpAny_For (bJ (hi aa s σ H _ I h) λv s1 h1=>bJ h1 λitv s2 h2=>?_) hs
 obtain ⟨it,fp,tn,J,H2,e,I2,T,st2,f2,W,⟨m0,w0⟩,turn⟩:=h2
 subst e
 have stat:∀ {H':Hp},(∀ b∈fp,H' b=none)->∀ b∈fp,fH X aa H' b:=λhn b hb=>⟨hn b hb,(f2 b hb).2⟩
 refine codeAny_forLoop_any (λn s'=>∃ i σ' H',Inv X aa σ' H' s'/\tn i s'.heap/\(∀ b∈fp,H' b=none)/\W i n σ' H') ?_ m0 ⟨0,σ,H2,I2,st2,λb hb=>(f2 b hb).1,w0⟩
 rintro n s3 ⟨i,σ3,H3,I3,st3,fr3,w3⟩
 rcases turn i n σ3 H3 w3 with ⟨stop,qn⟩ | ⟨go,N,hN,step⟩
 ·refine Rb hp (bJ (T.done X rfl rfl rfl hc i aa s3 σ3 H3 X.xe I3 (stat fr3) st3 stop) λr s4 ⟨hr,I4⟩=>?_)
  subst hr
  exact wpAny_execs_nil ⟨σ3,H3,I4,qn⟩
 ·refine Rb hp (bJ (T.item X rfl rfl rfl hc i aa s3 σ3 H3 X.xe I3 (stat fr3) st3 go) λr s4 ⟨u,hr,h4⟩=>?_)
  subst hr
  refine Rb hp (bJ h4 λ_ s5 ⟨x,H5,I5,r5,y5,st5,fr5⟩=>?_)
  have I5':=I5.pinned (stat fr5) (T.obj _ _ st5)
  refine Rb hp (bJ (hg _ s5 σ3 H5 x u _ I5' r5 (step x H5 y5)) λ_ s6 ⟨σ6,H6,I6,q6⟩=>?_)
  refine Rb hp (bJ (hb _ s6 σ6 H6 _ I6 q6) λf s7 q7=>?_)
  have again:∀ {σ7:St} {H7:Hp},Inv X (aa++ki fp s5.heap) σ7 H7 s7->N σ7 H7->∃ m,m<n/\∃ i σ' H',Inv X aa σ' H' s7/\tn i s7.heap/\(∀ b∈fp,H' b=none)/\W i m σ' H':=λ{σ7 H7} I7 n7=>by
   obtain ⟨m',hm,w7⟩:=hN σ7 H7 n7
   refine ⟨m',hm,i+1,σ7,H7,I7.fW,T.keep _ _ _ st5 λb hb o e=>(I7.pin (b,o) (Ql _ (Ql _ (fJ hb e)))).1,λb hb=>?_,w7⟩
   obtain ⟨o,e,d⟩:=T.obj _ _ st5 b hb
   exact (I7.pin (b,o) (Ql _ (Ql _ (fJ hb e)))).2.1
  cases f with
  | next=>obtain ⟨σ7,H7,I7,n7⟩:=q7; exact again I7 n7
  | cont=>obtain ⟨σ7,H7,I7,n7⟩:=q7; exact again I7 n7
  | brk=>obtain ⟨σ7,H7,I7,q7⟩:=q7; exact ⟨σ7,H7,I7.fW,q7⟩
  | ret v=>obtain ⟨x7,σ7,H7,I7,r7,q7⟩:=q7; exact ⟨x7,σ7,H7,I7.fW,r7,q7⟩
noncomputable abbrev R2:=V->V->Hp->VK->Prop
def fG (X:Cx) (f:Value->Value->Sem Value) (r:R2):Prop :=
 ∀ (aa:List (Addr×Obj)) (s:Shared) (σ:St) (H:Hp) (x y:V) (v u:Value) (Q:VK),Inv X aa σ H s->RelV x v->RelV y u->r x y H Q ->
  wpAny (model X.prog X.w) X.A (f v u) (EP X aa σ Q) X.xe s
def MB (X:Cx) (f:Value->Sem Value) (r:V->Hp->VK->Prop):Prop :=
 ∀ (aa:List (Addr×Obj)) (s:Shared) (σ:St) (H:Hp) (x:V) (v:Value) (Q:VK),Inv X aa σ H s->RelV x v->r x H Q ->
  wpAny (model X.prog X.w) X.A (f v) (EP X aa σ Q) X.xe s
def fX (X:Cx) (f:Value) (r:List V->Hp->VK->Prop):Prop :=
 ∀ (aa:List (Addr×Obj)) (s:Shared) (σ:St) (H:Hp) (xs:List V) (us:List Value) (Q:VK),Inv X aa σ H s->Vals xs us->r xs H Q ->
  wpAny (model X.prog X.w) X.A (call f us) (EP X aa σ Q) X.xe s
noncomputable def LS (r:R2) (ta tb:TE):TE:=λσ H Q=>ta σ H λx H1=>tb σ H1 λy H2=>r x y H2 Q
noncomputable def N6 (r:V->Hp->VK->Prop) (ta:TE):TE:=λσ H Q=>ta σ H λx H1=>r x H1 Q
noncomputable def rI (C:Int->Int->Prop) (g:Int->Int->V):R2:=λx y H Q=>∃ i j,x=.int i/\y=.int j/\C i j/\Q (g i j) H
noncomputable def uw (g:Int->Int->V):R2:=λx y H Q=>∃ i j,x=.int i/\y=.int j/\Q (g i j) H
noncomputable def rU (g:Int->V):V->Hp->VK->Prop:=λx H Q=>∃ i,x=.int i/\Q (g i) H
theorem Gy (ha:PE X a ta) (hb:PE X b tb) {R:V->V->Hp->Prop} (I:Inv X aa σ H s)
 (h:ta σ H λx H1=>tb σ H1 λy H2=>R x y H2) {f:Value->Value->Sem Value}
 (hf:∀ v u s2 x y H2,Inv X aa σ H2 s2->RelV x v->RelV y u->R x y H2->wpAny (model X.prog X.w) X.A (f v u) Q X.xe s2) :
 wpAny (model X.prog X.w) X.A (eval a X.env) (λv s₁=>wpAny (model X.prog X.w) X.A (eval b X.env) (λu s₂=>wpAny (model X.prog X.w) X.A (f v u) Q X.xe s₂) X.xe s₁) X.xe s:=by
 refine bJ (ha aa s σ H _ I h) λv s1 ⟨x,H1,I1,r1,q1⟩=>?_
 refine bJ (hb aa s1 σ H1 _ I1 q1) λu s2 ⟨y,H2,I2,r2,q2⟩=>?_
 exact hf v u s2 x y H2 I2 r1 r2 q2
theorem yH (ho:fG X (binaryOp op) r) (ha:PE X a ta) (hb:PE X b tb):PE X (.BinOp a op b pos) (LS r ta tb):=by
 intro aa s σ H Q I h
 exact wpAny_BinOp (Gy ha hb I h λv u s2 x y H2 I2 rx ry q=>ho aa s2 σ H2 x y v u Q I2 rx ry q)
theorem JQ (ho:MB X (unaryOp op) r) (ha:PE X a ta):PE X (.UnaryOp op a pos) (N6 r ta):=by
 intro aa s σ H Q I h
 exact UnaryOp_ (bJ (ha aa s σ H _ I h) λv s1 ⟨x,H1,I1,r1,q1⟩=>ho aa s1 σ H1 x v Q I1 r1 q1)
theorem Js {g:Int->Int->Int}
 (rule:∀ (i j:Int) (t u:Tok) (s:Shared) (Q:Value->Shared->Prop) (E:Value->Shared->Prop),C i j->Q (.int (g i j) s.toks) { s with toks:=s.toks+1 }->wpAny (model X.prog X.w) X.A (f (.int i t) (.int j u)) Q E s) :
 fG X f (rI C λi j=>.int (g i j)):=by
 intro aa s σ H x y v u Q I rx ry h
 obtain ⟨i,j,rfl,rfl,hc,q⟩:=h
 obtain ⟨t,rfl⟩:=rx
 obtain ⟨t',rfl⟩:=ry
 exact rule i j t t' s _ _ hc ⟨.int (g i j),H,I.tok _,⟨_,rfl⟩,q⟩
theorem yI {g:Int->Int->Int}
 (rule:∀ (i j:Int) (t u:Tok) (s:Shared) (Q:Value->Shared->Prop) (E:Value->Shared->Prop),Q (.int (g i j) s.toks) { s with toks:=s.toks+1 }->wpAny (model X.prog X.w) X.A (f (.int i t) (.int j u)) Q E s) :
 fG X f (uw λi j=>.int (g i j)):=by
 intro aa s σ H x y v u Q I rx ry h
 obtain ⟨i,j,rfl,rfl,q⟩:=h
 obtain ⟨t,rfl⟩:=rx
 obtain ⟨t',rfl⟩:=ry
 exact rule i j t t' s _ _ ⟨.int (g i j),H,I.tok _,⟨_,rfl⟩,q⟩
theorem Gz {g:Int->Int->Bool}
 (rule:∀ (i j:Int) (t u:Tok) (s:Shared) (Q:Value->Shared->Prop) (E:Value->Shared->Prop),Q (.bool (g i j)) s->wpAny (model X.prog X.w) X.A (f (.int i t) (.int j u)) Q E s) :
 fG X f (uw λi j=>.bl (g i j)):=by
 intro aa s σ H x y v u Q I rx ry h
 obtain ⟨i,j,rfl,rfl,q⟩:=h
 obtain ⟨t,rfl⟩:=rx
 obtain ⟨t',rfl⟩:=ry
 exact rule i j t t' s _ _ ⟨.bl (g i j),H,I,rfl,q⟩
def se (i j:Int):Prop:=0<=j/\j<=1000000/\i.natAbs<2 ^ 64
theorem sj (k):(0:Int)<=2 ^ k:=by
 rw [two_pow_cast]
 exact Int.natCast_nonneg _
theorem GA:fG X (binaryOp .Add) (uw λi j=>.int (i+j)):=yI λ_ _ _ _ _ _ _ q=>add_int q
theorem GB:fG X (binaryOp .Sub) (uw λi j=>.int (i - j)):=yI λ_ _ _ _ _ _ _ q=>sub_int q
theorem GC:fG X (binaryOp .Mod) (rI (λ_ j=>0<j) λi j=>.int (i % j)):=Js λi j _ _ _ _ _ hc q=>by
 have h1:(0:Int)<j:=hc
 exact mod_int' (by lia) (by rw [Int.fmod_eq_emod_of_nonneg i (by lia)]; exact q)
theorem GD:fG X (binaryOp .Pow) (rI se λi j=>.int (i ^ j.toNat)):=Js λ_ _ _ _ _ _ _ hc q=>pow_int_small hc.1 hc.2.1 hc.2.2 q
theorem GF:fG X (binaryOp .LShift) (rI se λi j=>.int (i * 2 ^ j.toNat)):=Js λ_ _ _ _ _ _ _ hc q=>lshift_int_small hc.1 hc.2.1 hc.2.2 q
theorem GG:fG X (binaryOp .RShift) (rI (λ_ j=>0<=j) λi j=>.int (i / 2 ^ j.toNat)):=Js λi j _ _ _ _ _ hc q =>
 rshift_int hc (by rw [Int.fdiv_eq_ediv_of_nonneg i (sj _)]; exact q)
theorem GH:fG X (binaryOp .BitAnd) (uw λi j=>.int (Builtin.bitAnd i j)):=yI λ_ _ _ _ _ _ _ q=>and_int q
theorem Cw:fG X (inplaceOp .Add) (uw λi j=>.int (i+j)):=yI λ_ _ _ _ _ _ _ q=>iadd_int q
theorem Cy:fG X (inplaceOp .Sub) (uw λi j=>.int (i - j)):=yI λ_ _ _ _ _ _ _ q=>isub_int q
theorem N7 {g:Int->Int}
 (rule:∀ (i:Int) (t:Tok) (s:Shared) (Q:Value->Shared->Prop) (E:Value->Shared->Prop),Q (.int (g i) s.toks) { s with toks:=s.toks+1 }->wpAny (model X.prog X.w) X.A (f (.int i t)) Q E s) :
 MB X f (rU λi=>.int (g i)):=by
 intro aa s σ H x v Q I rx h
 obtain ⟨i,rfl,q⟩:=h
 obtain ⟨t,rfl⟩:=rx
 exact rule i t s _ _ ⟨.int (g i),H,I.tok _,⟨_,rfl⟩,q⟩
theorem GI:MB X (unaryOp .USub) (rU λi=>.int (-i)):=N7 λ_ _ _ _ _ q=>neg_int q
noncomputable def Cz:V->V->Bool
 | .non,.non=>true | .non,.int _=>true | .int _,.non=>true | .non,.bl _=>true | .bl _,.non=>true | .non,.str _=>true | .str _,.non=>true
 | .int _,.int _=>true | .bl _,.bl _=>true | .str _,.str _=>true | .byt _,.byt _=>true
 | .int _,.str _=>true | .str _,.int _=>true | .bl _,.str _=>true | .str _,.bl _=>true
 | _,_=>false
noncomputable def N8:R2:=λx y H Q=>Cz x y=true/\Q (.bl (decide (x=y))) H
noncomputable def N9:R2:=λx y H Q=>Cz x y=true/\Q (.bl (!decide (x=y))) H
theorem uz:decide (V.int i=V.int j)=(i == j):=by
 rw [Sb]
 simp
theorem yJ:decide (V.bl i=V.bl j)=(i == j):=by
 rw [Sb]
 simp
theorem uA:decide (V.str i=V.str j)=(i == j):=by
 rw [Sb]
 simp
theorem uB:decide (V.byt i=V.byt j)=(i.toList == j.toList):=by
 rw [Sb]
 cases i
 cases j
 simp
theorem aY (I:Inv X aa σ H s) (q:Q (.bl k) H) (e:k=k'):EP X aa σ Q (.bool k') s:=by
 subst e
 exact ⟨.bl k,H,I,rfl,q⟩
theorem JR:fG X (compareOp .Eq) N8:=by
 intro aa s σ H x y v u Q I rx ry h
 obtain ⟨hs,q⟩:=h
 cases x with
 | non =>
  cases rx
  cases y with
  | non=>cases ry; exact PySem.EqNone.eq_none_none (aY I q (by simp))
  | bl j=>cases ry; exact PySem.EqNone.eq_none_bool (aY I q (by simp))
  | int j=>obtain ⟨t',rfl⟩:=ry; exact PySem.EqNone.eq_none_int (aY I q (by simp))
  | str j=>obtain ⟨t',rfl⟩:=ry; exact PySem.EqNone.eq_none_str (aY I q (by simp))
  | _=>exact absurd (show false=true from hs) OC
 | bl i =>
  cases rx
  cases y with
  | non=>cases ry; exact PySem.EqNone.eq_bool_none (aY I q (by simp))
  | bl j=>cases ry; exact eq_bool (aY I q yJ)
  | str j=>obtain ⟨t',rfl⟩:=ry; exact PySem.EqMixed.eq_bool_str (aY I q (by simp))
  | _=>exact absurd (show false=true from hs) OC
 | int i =>
  obtain ⟨t,rfl⟩:=rx
  cases y with
  | non=>cases ry; exact PySem.EqNone.eq_int_none (aY I q (by simp))
  | int j=>obtain ⟨t',rfl⟩:=ry; exact eq_int (aY I q uz)
  | str j=>obtain ⟨t',rfl⟩:=ry; exact PySem.EqMixed.eq_int_str (aY I q (by simp))
  | _=>exact absurd (show false=true from hs) OC
 | str i =>
  obtain ⟨t,rfl⟩:=rx
  cases y with
  | non=>cases ry; exact PySem.EqNone.eq_str_none (aY I q (by simp))
  | bl j=>cases ry; exact PySem.EqMixed.eq_str_bool (aY I q (by simp))
  | int j=>obtain ⟨t',rfl⟩:=ry; exact PySem.EqMixed.eq_str_int (aY I q (by simp))
  | str j=>obtain ⟨t',rfl⟩:=ry; exact eq_str (aY I q uA)
  | _=>exact absurd (show false=true from hs) OC
 | byt i =>
  obtain ⟨t,rfl⟩:=rx
  cases y with
  | byt j=>obtain ⟨t',rfl⟩:=ry; exact PySem.W.eq_bytes (aY I q uB)
  | _=>exact absurd (show false=true from hs) OC
 | _=>cases y <;> exact absurd (show false=true from hs) OC
theorem JS:fG X (compareOp .NotEq) N9:=by
 intro aa s σ H x y v u Q I rx ry h
 obtain ⟨hs,q⟩:=h
 cases x with
 | non =>
  cases rx
  cases y with
  | non=>cases ry; exact PySem.EqNone.ne_none_none (aY I q (by simp))
  | bl j=>cases ry; exact PySem.EqNone.ne_none_bool (aY I q (by simp))
  | int j=>obtain ⟨t',rfl⟩:=ry; exact PySem.EqNone.ne_none_int (aY I q (by simp))
  | str j=>obtain ⟨t',rfl⟩:=ry; exact PySem.EqNone.ne_none_str (aY I q (by simp))
  | _=>exact absurd (show false=true from hs) OC
 | bl i =>
  cases rx
  cases y with
  | non=>cases ry; exact PySem.EqNone.ne_bool_none (aY I q (by simp))
  | bl j=>cases ry; exact ne_bool (aY I q (congrArg not yJ))
  | str j=>obtain ⟨t',rfl⟩:=ry; exact PySem.EqMixed.ne_bool_str (aY I q (by simp))
  | _=>exact absurd (show false=true from hs) OC
 | int i =>
  obtain ⟨t,rfl⟩:=rx
  cases y with
  | non=>cases ry; exact PySem.EqNone.ne_int_none (aY I q (by simp))
  | int j=>obtain ⟨t',rfl⟩:=ry; exact ne_int (aY I q (congrArg not uz))
  | str j=>obtain ⟨t',rfl⟩:=ry; exact PySem.EqMixed.ne_int_str (aY I q (by simp))
  | _=>exact absurd (show false=true from hs) OC
 | str i =>
  obtain ⟨t,rfl⟩:=rx
  cases y with
  | non=>cases ry; exact PySem.EqNone.ne_str_none (aY I q (by simp))
  | bl j=>cases ry; exact PySem.EqMixed.ne_str_bool (aY I q (by simp))
  | int j=>obtain ⟨t',rfl⟩:=ry; exact PySem.EqMixed.ne_str_int (aY I q (by simp))
  | str j=>obtain ⟨t',rfl⟩:=ry; exact ne_str (aY I q (congrArg not uA))
  | _=>exact absurd (show false=true from hs) OC
 | byt i =>
  obtain ⟨t,rfl⟩:=rx
  cases y with
  | byt j=>obtain ⟨t',rfl⟩:=ry; exact PySem.W.ne_bytes (aY I q (congrArg not uB))
  | _=>exact absurd (show false=true from hs) OC
 | _=>cases y <;> exact absurd (show false=true from hs) OC
theorem JT:fG X (compareOp .Lt) (uw λi j=>.bl (decide (i<j))):=Gz λ_ _ _ _ _ _ _ q=>lt_int q
theorem JU:fG X (compareOp .Gt) (uw λi j=>.bl (decide (j<i))):=Gz λ_ _ _ _ _ _ _ q=>gt_int q
theorem JV:fG X (compareOp .GtE) (uw λi j=>.bl (decide (j<=i))):=Gz λ_ _ _ _ _ _ _ q=>ge_int q
theorem fG.or (h:fG X f r) (h':fG X f r'):fG X f (λx y H Q=>r x y H Q\/r' x y H Q):=by
 intro aa s σ H x y v u Q I rx ry q
 rcases q with q | q
 ·exact h aa s σ H x y v u Q I rx ry q
 ·exact h' aa s σ H x y v u Q I rx ry q
theorem jk (b) (h:op≠.In:=by decide) (h2:op≠.NotIn:=by decide):behindInMarks op b=false:=by
 have e1:(op == CmpOp.In)=false:=by cases op <;> first | rfl | exact absurd rfl h
 have e2:(op == CmpOp.NotIn)=false:=by cases op <;> first | rfl | exact absurd rfl h2
 cases b <;> simp [behindInMarks,e1,e2]
theorem CA (ho:fG X (compareOp op) r) (ha:PE X a ta) (hb:PE X b tb) (hm:behindInMarks op b=false):PE X (.Compare a [op] [b] pos) (LS r ta tb):=by
 intro aa s σ H Q I h
 exact wpAny_Compare1 (Gy ha hb I h λv u s2 x y H2 I2 rx ry q=>ho aa s2 σ H2 x y v u Q I2 rx ry q) hm
noncomputable def JW (t:TE):TT:=λσ H Q=>t σ H λx H'=>∃ k,x=.bl k/\Q k H'
theorem CB (ho:fG X (compareOp op) r) (ha:PE X a ta) (hb:PE X b tb) (hm:behindInMarks op b=false):PT X (.Compare a [op] [b] pos) (JW (LS r ta tb)):=by
 intro aa s σ H Q I h
 refine wpAny_isTrue_Compare1 (bJ (ha aa s σ H _ I h) λv s1 ⟨x,H1,I1,r1,q1⟩=>bJ (hb aa s1 σ H1 _ I1 q1) λu s2 ⟨y,H2,I2,r2,q2⟩ =>
  bJ (ho aa s2 σ H2 x y v u _ I2 r1 r2 q2) λc s3 ⟨z,H3,I3,r3,k,e,q3⟩=>?_) hm
 subst e
 cases r3
 exact R5 ⟨H3,I3,q3⟩
theorem nP:(sizeLine:Nat)<2 ^ 63:=by rw [sizeLine_eq]; decide
theorem su:fG X (binaryOp .Add) (λx y H Q=>∃ i j,x=.str i/\y=.str j/\i.length+j.length<=sizeLine/\Q (.str (i++j)) H):=by
 intro aa s σ H x y v u Q I rx ry h
 obtain ⟨i,j,rfl,rfl,hz,q⟩:=h
 obtain ⟨t,rfl⟩:=rx
 obtain ⟨t',rfl⟩:=ry
 exact add_str (λt' tk=>⟨.str (i++j),H,I.tok _,⟨_,rfl⟩,q⟩) hz
theorem vals1 (r:Vals [x] us):∃ u,us=[u]/\RelV x u:=by
 cases r with
 | cons r1 r2=>cases r2; exact ⟨_,rfl,r1⟩
theorem vals2 (r:Vals [x,y] us):∃ u w',us=[u,w']/\RelV x u/\RelV y w':=by
 cases r with
 | cons r1 r2 =>
  cases r2 with
  | cons r3 r4=>cases r4; exact ⟨_,_,rfl,r1,r3⟩
theorem wH (hc:X.calm=true):fX X (.builtin "max") (λxs H Q=>∃ i j,xs=[.int i,.int j]/\Q (.int (if j>i then j else i)) H):=by
 intro aa s σ H xs us Q I r h
 obtain ⟨i,j,rfl,q⟩:=h
 obtain ⟨u,w',rfl,⟨t,rfl⟩,⟨t',rfl⟩⟩:=vals2 r
 refine max_two_ints (I.ok.hd hc) λh' tk k=>⟨_,H,I.kept k,?_,q⟩
 by_cases hj:j>i
 ·rw [if_pos hj,if_pos hj]; exact ⟨_,rfl⟩
 ·rw [if_neg hj,if_neg hj]; exact ⟨_,rfl⟩
structure Oa (h:Heap) (x dx C:Addr) (mA:Str->Option Value):Prop where
 obj:h.get? x=some (PySem.W.instObj C dx)
 ns:h.Ns1 dx mA
 ne:dx≠x
theorem jO.some_of (r:jO (some v) o):∃ u,o=some u/\RelV v u:=by
 cases o with
 | none=>exact (show False from r).elim
 | some u=>exact ⟨u,rfl,r⟩
structure Ob (K:Oo) (C:Addr):Prop where
 pg:PySem.W.plainGet K C Str.empty=true
 hd:PySem.W.hasDictIn K C=true
 po:PySem.W.plainOver K C=true
 sa:QM K (.ref C) "__setattr__"=some (some (.builtin "object.__setattr__"))
structure Con (K:Oo) (C:Addr) (f:Str) (v:V) (u:Value):Prop where
 at_:QM K (.ref C) f=some (some u)
 rel:RelV v u
 get:UP K u "__get__"=some none
 cp:PySem.W.copiedNames.contains f=false
structure Meth (K:Oo) (C:Addr) (m:Str) (f:Addr):Prop where
 at_:QM K (.ref C) m=some (some (.ref f))
 fn:PySem.W.isFn K (.ref f)=true
 kp:Qu K (.ref f)=true
def JX (X:Cx) (op:Operator) (rd:V->V->Hp->VK->Prop):Prop :=
 ∀ (aa:List (Addr×Obj)) (s:Shared) (σ:St) (H:Hp) (x y:V) (u v:Value) (Q:VK),Inv X aa σ H s->RelV x u->RelV y v->rd x y H Q->wpAny (model X.prog X.w) X.A (inplaceOp op u v) (EP X aa σ Q) X.xe s
section
variable {X:Cx} {aa:List (Addr×Obj)} {σ:St} {H:Hp} {s:Shared} {A:Around} {E:Value->Shared->Prop} {Q:Value->Shared->Prop} {c:Value} {b:Bool}
inductive kj (K:Oo) (H:Hp):V->Value->Prop where
 | non:kj K H .non (.type "NoneType")
 | bl (x:Bool):kj K H (.bl x) (.type "bool")
 | int (i:Int):kj K H (.int i) (.type "int")
 | str (x:Str):kj K H (.str x) (.type "str")
 | flt (x:UInt64):kj K H (.flt x) (.type "float")
 | lst {a:Addr} {xs:List V} (e:H a=some (.lst xs)):kj K H (.ref a) (.type "list")
 | frz {a:Addr} {o:Obj} {xs:List V} (e:H a=some (.frz o (.lst xs))):kj K H (.ref a) (.type "list")
 | tup {a:Addr} {xs:List V} (e:H a=some (.tup xs)):kj K H (.ref a) (.type "tuple")
 | dK {a:Addr} {kvs:List (Key×V)} (e:H a=some (.dK kvs)):kj K H (.ref a) (.type "dict")
 | dT {a:Addr} {kvs:List (List Key×Addr×V)} (e:H a=some (.dT kvs)):kj K H (.ref a) (.type "dict")
 | ins {a C dx:Addr} {fs:List (Str×V)} (e:H a=some (.ins C dx fs)) (cl:Ob K C) (ha:QM K (.ref C) "__class__"=some (some (.builtin "object.__class__")))
  (hn:UP K (.builtin "object.__class__") "__get__"=some (some (.builtin "getset_descriptor.__get__"))) (htk:PySem.W.takesIn K (.builtin "object.__class__")=some true)
  (hm:PySem.W.mroIn K C (.type "object")=some true):kj K H (.ref a) (.ref C)
end
structure gR (k:Nat) (A:Around):Prop where
 hd:A.handled=none
 dp:A.depth+3 * k+5<recursionLimit
 un:A.units+16 * k+200<cLine
theorem gR.mono (r:gR k A) (h:j<=k):gR j A:=⟨r.hd,by have:=r.dp; lia,by have:=r.un; lia⟩
theorem gR.deeper (r:gR (k+1) A) (env:Env):gR k (A.deeper env) :=
 ⟨r.hd,by have:=r.dp; show A.depth+1+3 * k+5<_; lia,by have:=r.un; show A.units+3+16 * k+200<_; lia⟩
theorem gR.depth (r:gR k A):A.depth<recursionLimit:=by have:=r.dp; lia
theorem gR.units (r:gR k A):A.units+64<cLine:=by have:=r.un; lia
noncomputable def MC:TA:=λ_ H Q=>Q [] H
noncomputable def JY (ta:TE) (tr:TA):TA:=λσ H Q=>ta σ H λx H1=>tr σ H1 λxs H2=>Q (x::xs) H2
theorem dI:PA X [] MC:=λ_ _ _ _ H Q I h=>Calls.spliced_nil ⟨[],H,I,.nil,h⟩
theorem bK (ha:PE X e te) (hr:PA X es t) (hs:starEach (e::es) X.env=(false,eval e X.env)::starEach es X.env:=by rfl):PA X (e::es) (JY te t):=by
 intro pos aa s σ H Q I h
 rw [hs]
 show wpAny _ _ (spliced ((false,eval e X.env)::backTo pos (starEach es X.env))) _ _ s
 refine UK (bJ (ha aa s σ H _ I h) λu s1 ⟨x,H1,I1,r1,q1⟩=>?_)
 exact bJ (hr pos aa s1 σ H1 _ I1 q1) λus s2 ⟨xs,H2,I2,r2,q2⟩=>⟨x::xs,H2,I2,.cons r1 r2,q2⟩
noncomputable def MD (t:TA):TE:=λσ H Q=>t σ H λxs H1=>xs.length<=sizeLine/\∀ p,H1 p=none->Q (.ref p) (upd H1 p (.tup xs))
noncomputable def ME (t:TA):TE:=λσ H Q=>t σ H λxs H1=>xs.length<=sizeLine/\∀ p,H1 p=none->Q (.ref p) (upd H1 p (.lst xs))
theorem GJ {x1} (h:PA X es t):PE X (.Tuple es x1 pos) (MD t):=by
 intro aa s σ H Q I hq
 refine wpAny_Tuple_spliced (bJ (h pos aa s σ H _ I hq) λus s1 ⟨xs,H1,I1,r,z,q⟩=>⟨by rw [<- r.length]; exact z,?_⟩)
 have hf:H1 s1.heap.objs.size=none:=I1.hok.fresh (Ot _)
 refine ⟨.ref s1.heap.objs.size,upd H1 s1.heap.objs.size (.tup xs),I1.laid (t':=s1.toks) (λb u e=>Ow _ e) (Ot _) ?_,rfl,q _ hf⟩
 exact ⟨z,us,r,⟨_,OF _ rfl,rfl,_,rfl⟩⟩
theorem GK (h:PA X es t):PE X (.List es pos) (ME t):=by
 intro aa s σ H Q I hq
 refine wpAny_List_spliced (bJ (h pos aa s σ H _ I hq) λus s1 ⟨xs,H1,I1,r,z,q⟩=>⟨by rw [<- r.length]; exact z,?_⟩)
 have hf:H1 s1.heap.objs.size=none:=I1.hok.fresh (Ot _)
 refine ⟨.ref s1.heap.objs.size,upd H1 s1.heap.objs.size (.lst xs),I1.laid (t':=s1.toks) (λb u e=>Ow _ e) (Ot _) ?_,rfl,q _ hf⟩
 exact ⟨z,us,0,r,OF _ rfl⟩
noncomputable abbrev Sp:=List V->Hp->VK->XK->Prop
noncomputable abbrev GL:=List Env->Hp->Shared->XK->Value->Shared->Prop
structure CC (P:Program) (w:World) (K:Oo) (mg:Str->Option Value) (base:Heap) (A:Around) (outer:List Env) (s:Shared) (H:Hp):Prop where
 frames:A.frames=some outer
 mod:Mod K mg base
 bs:∀ b o,base.get? b=some o->s.heap.get? b=some o/\H b=none
 bsz:base.objs.size<=s.heap.objs.size
 jj:s.heap.FunFrames base outer
 frf:∀ b∈frs outer,H b=none
 hok:jh P w H s.heap
 bare:AllBare s.gens
def CE (outer:List Env) (P:Program) (w:World) (H:Hp) (s:Shared) (Q:VK) (u:Value) (s':Shared):Prop :=
 ∃ v H',s'.os=s.os/\AllBare s'.gens/\Un (frs outer) [] H H' s.heap s'.heap/\jh P w H' s'.heap/\RelV v u/\Q v H'
def CR (CX:GL) (outer:List Env) (P:Program) (w:World) (H:Hp) (s:Shared) (Q:VK) (E:XK) (r:Result) (s':Shared):Prop :=
 match r with
 | .ok (.ret u)=>CE outer P w H s Q u s'
 | .ok _=>False
 | .error e=>CX outer H s E e s'
structure br (P:Program) (w:World) (K:Oo) (mg:Str->Option Value) (base:Heap) (CX:GL) (k:Nat) (f:Addr) (fd:FuncData) (ps:List Str) (sp:Sp):Prop where
 len:∀ vs H Q E,sp vs H Q E->vs.length=ps.length
 run:∀ (A:Around) (outer:List Env) (s:Shared) (H:Hp) (args:Args) (us:List Value) (vs:List V) (Q:VK) (E:XK),gR k A->CC P w K mg base A outer s H->BindsTo s fd args (ps.zip us)->Vals vs us->sp vs H Q E ->
  codeAny (model P w) A (.call (.ref f) args) (CR CX outer P w H s Q E) s
theorem br.mono {K:Oo} (F:br P w K mg base CX j f fd ps sp) (h:j<=k) :
 br P w K mg base CX k f fd ps sp:=⟨F.len,λA outer s H args us vs Q E hr=>F.run A outer s H args us vs Q E (hr.mono h)⟩
theorem Inv.GN (I:Inv X aa σ H s):CC X.prog X.w X.K X.mg X.base X.A X.stack s H :=
 ⟨I.ok.frames,I.ok.mod,I.bs,OD I.ok.bsz I.sz,I.stack,I.uo,I.hok,I.bare⟩
theorem Inv.after (I:Inv X aa σ H s) (h:CE X.stack X.prog X.w H s Q u s'):EP X aa σ Q u s':=by
 obtain ⟨v,H',os,bare,un,hok,r,q⟩:=h
 obtain ⟨hh,g,d,t,os'⟩:=s'
 obtain rfl:os'=s.os:=os
 exact ⟨v,H',I.call (h':=hh) (g':=g) (d':=d) (t':=t) (ch:=[]) un hok bare (λb z=>absurd z (by simp)),r,q⟩
def Binds (K:Oo) (fd:FuncData) (ps:List Str) (ds:List Value):Prop :=
 ∀ (s:Shared) (us:List Value),K.In s.heap->(us++ds).length=ps.length->BindsTo s fd ⟨us,[]⟩ (ps.zip (us++ds))
theorem Binds.all {K:Oo} (h:∀ us:List Value,us.length=ps.length->bindArgs fd ⟨us,[]⟩=pure (ps.zip us)):Binds K fd ps []:=λs us _ hl=>by
 rw [PD] at hl |-
 exact .of_eq (h us hl)
section
variable {X:Cx} {CX:GL} {k:Nat} {f C:Addr} {fd:FuncData} {ps:List Str} {sp:Sp} {dvs:List V} {ds:List Value} {E:XK} {x m:Str} {p pos apos:Pos} {e o:Expr} {es:List Expr} {ta:TE} {t:TA}
structure Mk (K:Oo) (C f:Addr):Prop where
 makes:PySem.W.makesIn K C=true
 init:QM K (.ref C) "__init__"=some (some (.ref f))
 fn:PySem.W.isFn K (.ref f)=true
 kp:Qu K (.ref C)=true
end
section
variable {X:Cx} {CX:GL} {k:Nat} {f C:Addr} {fd:FuncData} {ps ks:List Str} {sp:Sp} {E:XK} {x m:Str} {p pos apos kpos:Pos} {e o:Expr} {es:List Expr} {kws:List Keyword} {te ta:TE} {t tk:TA} {nm:Option Str}
structure MF (K:Oo) (fd:FuncData) (ps ks:List Str) (g:List Value->List Value->List Value) (gV:List V->List V->List V):Prop where
 to:∀ (s:Shared) (us ws:List Value),K.In s.heap->(g us ws).length=ps.length->BindsTo s fd ⟨us,ks.zip ws⟩ (ps.zip (g us ws))
 rel:∀ {vs:List V} {us:List Value} {zs:List V} {ws:List Value},Vals vs us->Vals zs ws->Vals (gV vs zs) (g us ws)
end
structure nQ (N P:List Str) (sc:Scope):Prop where
 kind:sc.kind=.function
 co:sc.isCoroutine=false
 gen:sc.isGenerator=false
 nd:N.Nodup
 pre:N.take P.length=P
 par:∀ x∈P,sc.names.lookup x=some .local\/sc.names.lookup x=some .cell
 nofree:∀ y∈sc.names,y.2≠.free
theorem mC {kindOf:Str->Option NameKind}:∀ {binds:List (Str×Value)} {m:Str->Option Value},(∀ v,(x,v)∉binds)->bindL kindOf binds m x=m x
 | [],_,_=>rfl
 | (n,v)::r,m,h=>by
  unfold bindL
  rw [mC λw hw=>h w (OJ _ hw)]
  split
  ·have:x≠n:=by rintro rfl; exact h v OI
   simp [this]
  ·rfl
theorem mD {kindOf:Str->Option NameKind}:∀ {binds:List (Str×Value)} {m:Str->Option Value},(∀ v,(x,v)∉binds)->bindC kindOf binds m x=m x
 | [],_,_=>rfl
 | (n,v)::r,m,h=>by
  unfold bindC
  rw [mD λw hw=>h w (OJ _ hw)]
  split
  ·rfl
  ·have:x≠n:=by rintro rfl; exact h v OI
   simp [this]
theorem mE {kindOf:Str->Option NameKind}:∀ {P:List Str} {vs:List Value} {i:Nat} {m:Str->Option Value},P.Nodup->P[i]?=some x->vs[i]?=some v->kindOf x=some .local ->
 bindL kindOf (P.zip vs) m x=some v
 | [],_,_,_,_,h,_,_=>by simp at h
 | _::_,[],_,_,_,_,h,_=>by simp at h
 | p::P,w::vs,0,m,nd,h1,h2,hk=>by
  simp at h1 h2; subst h1; subst h2
  show bindL kindOf ((p,w)::P.zip vs) m p=_
  unfold bindL
  rw [mC λv hv=>(QL.mp nd).1 (Tr hv).1,if_pos hk]
  simp
 | p::P,w::vs,i+1,m,nd,h1,h2,hk=>by
  show bindL kindOf ((p,w)::P.zip vs) m x=_
  unfold bindL
  exact mE (i:=i) (QL.mp nd).2 (by simpa using h1) (by simpa using h2) hk
theorem mF {kindOf:Str->Option NameKind}:∀ {P:List Str} {vs:List Value} {i:Nat} {m:Str->Option Value},P.Nodup->P[i]?=some x->vs[i]?=some v->kindOf x≠some .local ->
 bindC kindOf (P.zip vs) m x=some v
 | [],_,_,_,_,h,_,_=>by simp at h
 | _::_,[],_,_,_,_,h,_=>by simp at h
 | p::P,w::vs,0,m,nd,h1,h2,hk=>by
  simp at h1 h2; subst h1; subst h2
  show bindC kindOf ((p,w)::P.zip vs) m p=_
  unfold bindC
  rw [mD λv hv=>(QL.mp nd).1 (Tr hv).1,if_neg hk]
  simp
 | p::P,w::vs,i+1,m,nd,h1,h2,hk=>by
  show bindC kindOf ((p,w)::P.zip vs) m x=_
  unfold bindC
  exact mF (i:=i) (QL.mp nd).2 (by simpa using h1) (by simpa using h2) hk
noncomputable def start (N:List Str) (vs:List V):St:=vs.map some++OB (N.length - vs.length) none
noncomputable def sA (CX:GL) (P:Program) (w:World) (K:Oo) (mg:Str->Option Value) (base:Heap) (N:List Str) (qual:Str) (scope:Scope) (f:Addr) (cd:Value) (A:Around) (outer:List Env) (s:Shared) (H:Hp) (E:XK):Cx where
 prog:=P
 w:=w
 K:=K
 mg:=mg
 base:=base
 A:=A.deeper (envOfC qual scope s.heap.objs.size f cd)
 N:=N
 s₀:=s
 H₀:=H
 env:=envOfC qual scope s.heap.objs.size f cd
 outer:=outer
 stack:=envOfC qual scope s.heap.objs.size f cd::outer
 ex:=[]
 calm:=true
 fn:=λ_=>true
 pn:=[]
 xe:=λe s'=>wpAny (model P w) (A.deeper (envOfC qual scope s.heap.objs.size f cd)) (leaving (envOfC qual scope s.heap.objs.size f cd) e) (λ_ s''=>CX outer H s E e s'') (λe' s''=>CX outer H s E e' s'') s'
theorem pJ {sc:Scope} (h:sc.names.lookup x=some .cell):∃ c,(cellsFrom n sc.names []).lookup x=some c:=by
 have q:=PySem.W.cellsFrom_some sc.names n [] (.inl h)
 exact Option.isSome_iff_exists.mp q
theorem wI {K:Oo}
 (S:nQ N ps scope) (hd:A.handled=none) (e0:CC P w K mg base A outer s H) (hl:vs.length=ps.length) (r:Vals vs us)
 (x:InCallC s s.heap.objs.size (bindL (envOfC qual scope s.heap.objs.size f cd).kindOf (ps.zip us) λ_=>none) (cellsFrom (s.heap.objs.size+1) scope.names []) (bindC (envOfC qual scope s.heap.objs.size f cd).kindOf (ps.zip us) λ_=>none) s1) :
 Inv (sA CX P w K mg base N qual scope f cd A outer s H E) [] (start N vs) H s1:=by
 have hpl:ps.length<=N.length:=by have:=congrArg Rl S.pre; rw [Pp] at this; lia
 obtain ⟨h1,tk,rfl,hk⟩:=x.done
 have noA:∀ b:Addr,b∉(sA CX P w K mg base N qual scope f cd A outer s H E).ex:=λb z=>absurd (show b∈([]:List Addr) from z) (by simp)
 refine ⟨⟨e0.mod,S.kind,rfl,rfl,Ot _,λy z c h1 h2=>?_,λy hy=>?_,λy c _ h=>?_,λ_=>hd,Around.frames_deeper e0.frames,.inr ⟨rfl,rfl⟩,λb z=>absurd z (noA b),e0.bs,e0.bsz,λb _ _=>noA b,λb z=>absurd z (noA b),e0.jj,e0.frf⟩,
  rfl,e0.bare,Un.kept hk,⟨_,x.toInCall.ns,λi y v h1 h2 h3=>?_⟩,λy c h=>⟨_,x.cell y c h⟩,e0.hok.fresh (Ot _),λy c h=>?_,λp hp=>absurd (show p∈([]:List (Addr×Obj)) from hp) (by simp),e0.hok.kept hk,?_⟩
 ·exact name_of_addr x.apart (R4 h1) (R4 h2)
 ·have hy:scope.names.lookup y=some .cell\/scope.names.lookup y=some .free:=hy
  rcases hy with hy | hy
  ·exact pJ hy
  ·exact absurd rfl (S.nofree _ (R4 hy))
 ·exact QD (x.above y c (R4 h))
 ·have hi:i<vs.length:=by
   unfold start at h2
   by_cases hi:i<vs.length
   ·exact hi
   ·rw [Rv (by simpa using hi)] at h2
    rw [Um] at h2
    split at h2 <;> cases h2
  have ha:vs[i]?=some v:=by
   unfold start at h2
   rw [QG (by simpa using hi),OE] at h2
   cases e:vs[i]? with
   | none=>rw [e] at h2; cases h2
   | some a=>rw [e] at h2; cases h2; rfl
  obtain ⟨u,hu,rv⟩:=r.get ha
  have hp:ps[i]?=some y:=by
   rw [<- S.pre,SH (by lia)]; exact h1
  have ndP:ps.Nodup:=by rw [<- S.pre]; exact S.nd.sublist (Te _ _)
  refine ⟨u,rv,?_⟩
  rcases S.par y (Py hp) with k | k
  ·exact .inl ⟨k,mE ndP hp hu k⟩
  ·obtain ⟨c,e⟩:=pJ (n:=s.heap.objs.size+1) k
   refine .inr ⟨.inl k,c,e,?_⟩
   have q:=x.cell y c e
   rw [mF ndP hp hu (by show scope.names.lookup y≠_; rw [k]; decide)] at q
   exact q
 ·exact e0.hok.fresh (QD (x.above y c (R4 h)))
 ·unfold start
  show _=N.length
  rw [O7,Ox,List.length_replicate]
  lia
theorem E9 {K:Oo} {dV kV doc pm cdv ct oc:Value}
 (lk:K.lookup f=some ⟨oc,od,.func (QC name qual params body scope dV kV doc pm an cdv ct),osl⟩) (hcd:TJ K cdv qual=true) (S:nQ N ps scope)
  (len:∀ vs H Q E,sp vs H Q E->vs.length=ps.length)
  (hbody:∀ (A:Around) (outer:List Env) (s:Shared) (H:Hp) (vs:List V) (Q:VK) (E:XK),gR k (A.deeper (envOfC qual scope s.heap.objs.size f cdv))->sp vs H Q E ->
    ∃ t,r6 (sA CX P w K mg base N qual scope f cdv A outer s H E) body t/\t { nx:=λ_ H'=>Q .non H',rt:=Q } (start N vs) H) :
  br P w K mg base CX (k+1) f (QC name qual params body scope dV kV doc pm an cdv ct) ps sp:=by
  refine ⟨len,λA outer s H args us vs Q E hr e0 hb r uh=>?_⟩
  have hl:=len _ _ _ _ uh
  have KX:K.In s.heap:=e0.mod.kin.keeps λb o e=>(e0.bs b o e).1
  have lim:s.heap.NoLimit:=e0.mod.nolimit.keeps λb o e=>(e0.bs b o e).1
  have hkind:∀ y∈ps.zip us,scope.names.lookup y.1=some .local\/(scope.names.lookup y.1=some .cell/\((cellsFrom (s.heap.objs.size+1) scope.names []).lookup y.1).isSome=true):=λ⟨n,v⟩ hy=>by
   rcases S.par n (Tr hy).1 with q | q
   ·exact .inl q
   ·exact .inr ⟨q,PySem.W.cellsFrom_some _ _ _ (.inl q)⟩
  refine codeAny_call_function hr.depth (KX _ _ lk) rfl S.co S.gen rfl (PySem.W.codeRec_of KX hcd) (hb _ _ _ _ ?_)
  refine wpAny_newFunctionEnv_cells S.kind hkind λenv he s1 x=>?_
  subst he
  refine ⟨lim.keeps x.toInCall.keep,codeAny_func ?_⟩
  obtain ⟨t,ht,hq⟩:=hbody A outer s H vs Q E (hr.deeper _) uh
  have I:Inv (sA CX P w K mg base N qual scope f cdv A outer s H E) [] (start N vs) H s1:=wI S hr.hd e0 hl r x
  refine Pe (ht [] s1 (start N vs) H _ I hq) (λfl s' hs=>?_) λe s' hs=>hs
  have fin:∀ {σ':St} {H':Hp} {v:V} {u:Value},Inv (sA CX P w K mg base N qual scope f cdv A outer s H E) [] σ' H' s'->RelV v u->Q v H'->CE outer P w H s Q u s' :=
   λ{σ' H' v u} J rv q=>⟨v,H',J.os,J.bare,J.base,J.hok,rv,q⟩
  cases fl with
  | ret u =>
   obtain ⟨v,σ',H',J,rv,q⟩:=hs
   exact fin J rv q
  | next =>
   obtain ⟨σ',H',J,q⟩:=hs
   exact fin (v:=V.non) (u:=Pc) J rfl q
  | brk =>
   obtain ⟨_,_,_,q⟩:=hs
   exact PM q
  | cont =>
   obtain ⟨_,_,_,q⟩:=hs
   exact PM q
section
variable {id T:String}
noncomputable def NK (r:List V->Hp->VK->Prop) (t:TA):TE:=λσ H Q=>t σ H λvs H1=>r vs H1 Q
theorem yK (hc:fX X (.builtin id) r) (hg:Gl X x) (hm:X.mg x=none) (hv:bootBuiltins x=some (.builtin id)) (ha:PA X (e::es) t) (hn:x≠"__name__":=by decide) (hdb:(x == ("__debug__":Str))=false:=by decide)
 (he:starEach (e::es) X.env=(false,eval e X.env)::starEach es X.env:=by rfl) (hpl:(backTo pos (starEach es X.env)).any (·.1)=false:=by rfl):PE X (.Call (.Name x p) (e::es) [] pos) (NK r t):=by
 intro aa s σ H Q I h
 refine Qw (dW I hg hm hv ?_ hn hdb)
 exact Vc (bJ (ha pos aa s σ H _ I h) λus s1 ⟨vs,H1,I1,r1,q1⟩=>hc aa s1 σ H1 vs us Q I1 r1 q1) he hpl
theorem mG (hc:fX X (.type T) r) (hg:Gl X x) (hm:X.mg x=none) (hv:bootBuiltins x=some (.type T)) (ha:PA X (e::es) t) (hn:x≠"__name__":=by decide) (hdb:(x == ("__debug__":Str))=false:=by decide)
 (he:starEach (e::es) X.env=(false,eval e X.env)::starEach es X.env:=by rfl) (hpl:(backTo pos (starEach es X.env)).any (·.1)=false:=by rfl):PE X (.Call (.Name x p) (e::es) [] pos) (NK r t):=by
 intro aa s σ H Q I h
 refine Qw (dW I hg hm hv ?_ hn hdb)
 exact Rt (bJ (ha pos aa s σ H _ I h) λus s1 ⟨vs,H1,I1,r1,q1⟩=>hc aa s1 σ H1 vs us Q I1 r1 q1) he hpl
end
end L2
namespace HT
open PySem PyProof.Rows
noncomputable def lexLt:List Int->List Int->Bool
 | [],[]=>false
 | [],_::_=>true
 | _::_,[]=>false
 | x::xs,y::ys=>if x=y then lexLt xs ys else decide (x<y)
theorem cQ (x y) (xs ys):lexLt (x::xs) (y::ys)=if x=y then lexLt xs ys else decide (x<y):=rfl
theorem gU:lexLt [] []=false:=rfl
theorem fY (y) (ys):lexLt [] (y::ys)=true:=rfl
theorem fZ (x) (xs):lexLt (x::xs) []=false:=rfl
theorem yL (A:Around) (s) (a) (t:Tok) (c) (u:Tok):∃ e,OW A s (.int a t) (.int c u) e/\(e=true↔a=c) :=
 ⟨(a == c),OW.int_int a t c u,by simp⟩
theorem yM (A:Around) (s) (a) (t:Tok) (c) (u:Tok) (prog) (w) (E) (Q) (h:Q (.bool (decide (a<c))) s) :
 wpAny (model prog w) A (richCompare .Lt (.int a t) (.int c u)) Q E s :=
 (PyProof.Rows.lt_int h:wpAny (model prog w) A (compareOp .Lt (.int a t) (.int c u)) Q E s)
section
open PySem.SeqAt
open PySem.AutoSeq1 (wpAny_loadPart')
open PySem.MeetsSeq PySem.MeetsSeq2 PySem.MeetsSeq3
theorem gW (l b) (items items2) (n n2) (dd dd2) (sl sl2) (ns ms) (hi:IntsAre items.toList ns) (hj:IntsAre items2.toList ms) :
 Meets (Builtin.«tuple.__lt__» ⟨[.ref l,.ref b],[]⟩)
  (λ_ R s=>s.heap.get? l=some { cls:=.type "tuple",dict:=dd,data:=.seq items n,slots:=sl }/\s.heap.get? b=some { cls:=.type "tuple",dict:=dd2,data:=.seq items2 n2,slots:=sl2 } /\
    R (.ok (.ret (.bool (lexLt ns ms)))) s) :=
 .of_wp λprog w A R s h=>by
  obtain ⟨hp,g,d,tk,os⟩:=s; obtain ⟨hl,hb,h⟩:=h
  have f2:=AutoSeq1.sub_tuple_tuple
  have z1:items.size=ns.length:=by rw [<- hi.length]; simp
  have z2:items2.size=ms.length:=by rw [<- hj.length]; simp
  wp_walk using wpAny_loadPart' hl,wpAny_loadPart' hb,wpAny_forIn_list _ (λrest b s'=>b.1=none/\s'=⟨hp,g,d,tk,os⟩/\∃ (vs ws:List Value) (ns' ms':List Int),rest=vs.zip ws /\
   IntsAre vs ns'/\IntsAre ws ms'/\ns'.length+items2.size=ms'.length+items.size/\R (.ok (.ret (.bool (lexLt ns' ms')))) ⟨hp,g,d,tk,os⟩) _
  case turn =>
   rintro ⟨y,x⟩ rest b s' ⟨hb',rfl,vs,ws,ns',ms',hz,hvi,hwi,hlen,hR⟩
   cases hvi with
   | nil=>rw [List.zip_nil_left] at hz; cases hz
   | cons a t hvi' =>
    cases hwi with
    | nil=>rw [List.zip_nil_right] at hz; cases hz
    | cons c u hwi' =>
     rw [S9] at hz
     injection hz with hyx hrest
     injection hyx with hy hx
     subst hy hx
     rw [cQ] at hR
     simp only [Pa] at hlen
     obtain ⟨e,he,hiff⟩:=yL A.in1 ⟨hp,g,d,tk,os⟩ a t c u
     refine Ol (he prog w _ _ ?_)
     cases e with
     | true =>
      rw [if_pos (hiff.mp rfl)] at hR
      wp_walk
      exact ⟨rfl,rfl,_,_,_,_,hrest,hvi',hwi',by lia,hR⟩
     | false =>
      rw [if_neg (λq=>absurd (hiff.mpr q) OC)] at hR
      have hri:=yM A.in1 ⟨hp,g,d,tk,os⟩ a t c u prog w
      wp_walk using hri
      exact ⟨_,rfl,by simpa using hR⟩
  case fin =>
   rintro ⟨b1,b2⟩ s' ⟨hb',rfl,vs,ws,ns',ms',hz,hvi,hwi,hlen,hR⟩
   simp only at hb'
   subst hb'
   have hv:lexLt ns' ms'=decide (items.size<items2.size):=by
    cases hvi with
    | nil =>
     cases hwi with
     | nil =>
      simp only [Qp] at hlen
      rw [gU]
      exact (decide_eq_false (by lia)).symm
     | cons c u hw =>
      simp only [Qp,Pa] at hlen
      rw [fY]
      exact (decide_eq_true (by lia)).symm
    | cons a t hv =>
     cases hwi with
     | nil =>
      simp only [Qp,Pa] at hlen
      rw [fZ]
      exact (decide_eq_false (by lia)).symm
     | cons c u hw =>
      rw [S9] at hz
      cases hz
   rw [hv] at hR
   wp_walk
   exact ⟨_,rfl,by simpa [Builtin.Tuple.tupleCompareSizes] using hR⟩
  case h =>
   exact ⟨rfl,rfl,items.toList,items2.toList,ns,ms,rfl,hi,hj,by lia,h⟩
end
theorem sC (hl:IsTup s.heap l items) (hb:IsTup s.heap b items2) (hi:IntsAre items.toList ns) (hj:IntsAre items2.toList ms)
 (hu:A.units<cLine) (h:Q (.bool (lexLt ns ms)) s):wpAny (model prog w) A (compareOp .Lt (.ref l) (.ref b)) Q E s:=by
 obtain ⟨⟨cls,dd,data,sl⟩,ho,hc,n,hd⟩:=id hl
 obtain ⟨⟨cls2,dd2,data2,sl2⟩,ho2,hc2,n2,hd2⟩:=id hb
 simp only at hc hd hc2 hd2
 subst hc hd hc2 hd2
 exact richCompare_meets_room (op:=.Lt) ⟨_,ho,rfl⟩ ⟨_,ho2,rfl⟩ Ut PySem.F.entry_tuple_lt (PySem.F.args_tuple_lt_2 _ _) (gW l b items items2 n n2 dd dd2 sl sl2 ns ms hi hj)
  ⟨ho,ho2,show Value.bool (lexLt ns ms)≠Value.notImplemented/\Q (.bool (lexLt ns ms)) s from ⟨(λx=>nomatch x),h⟩⟩ hu
noncomputable def cy (n d:Nat):Option Int->Nat
 | none=>d
 | some v=>if v<0 then (v+(n:Int)).toNat else min v.toNat n
theorem yN (n d):cy n d none=d:=rfl
theorem CD (n d k:Nat):cy n d (some (k:Int))=min k n:=by
 show (if (k:Int)<0 then ((k:Int)+(n:Int)).toNat else min (k:Int).toNat n)=min k n
 rw [if_neg (by lia),O0]
theorem GO (n d) (hd:d<=n) (o):cy n d o<=n:=by
 cases o with
 | none=>exact hd
 | some v =>
  show (if v<0 then (v+(n:Int)).toNat else min v.toNat n)<=n
  by_cases hv:v<0
  ·rw [if_pos hv]; lia
  ·rw [if_neg hv]; exact Nat.min_le_right _ _
theorem uC (v) (n d:Nat):(if v<0 then max (v+(n:Int)) 0 else min v (n:Int))=((cy n d (some v):Nat):Int):=by
 show (if v<0 then max (v+(n:Int)) 0 else min v (n:Int))=(((if v<0 then (v+(n:Int)).toNat else min v.toNat n):Nat):Int)
 by_cases hv:v<0
 ·simp only [if_pos hv]; lia
 ·simp only [if_neg hv]; lia
theorem sD (lo hi) (n:Nat):Ui lo hi 1 (n:Int)=(((cy n 0 lo:Nat):Int),((cy n n hi:Nat):Int)):=by
 have h1:¬ ((1:Int)<0):=by lia
 unfold Ui
 simp only [h1,if_false]
 refine Prod.ext ?_ ?_
 ·cases lo with
  | none=>rfl
  | some v=>exact uC v n 0
 ·cases hi with
  | none=>rfl
  | some v=>exact uC v n n
theorem sE (i j:Nat):SE (i:Int) (j:Int) 1=j - i:=by
 unfold SE
 have h1:(1:Int)>0:=by lia
 simp only [h1,if_true,Int.ediv_one]
 split <;> lia
theorem ko (p:IsPart v o) (h:Q o s):wpAny (model prog w) A (Builtin.Slice.slicePartIndex v) Q E s:=by
 cases p with
 | none=>exact slicePart_none h
 | int i t=>exact slicePart_int h
theorem fj {sl:Addr} {vl vu:Value} {lo hi:Option Int} {n:Nat} {Q:Int×Int×Nat->Shared->Prop} (hs:s.heap.IsSliceOf sl vl vu .none) (pl:IsPart vl lo) (pu:IsPart vu hi)
 (h:Q (((cy n 0 lo:Nat):Int),1,cy n n hi - cy n 0 lo) s):wpAny (model prog w) A (Builtin.Slice.sliceApplied (.ref sl) (pure (n:Int))) Q E s:=by
 obtain ⟨os,hos,hcs,hds⟩:=id hs
 unfold Builtin.Slice.sliceApplied Builtin.Slice.sliceFields
 refine Ol (Ol (Pb hos hds (x:=vl) rfl (Ol (Pb hos hds (x:=vu) rfl (Ol (Pb hos hds (x:=.none) rfl (Oq ?_)))))))
 refine Ol (slicePart_none ?_)
 show wpAny _ _ (if ((1:Int) == 0)=true then _ else _) _ _ s
 rw [if_neg (by decide)]
 refine Ol (ko pl (Ol (ko pu (Ol (Oq ?_)))))
 show wpAny _ _ (match Ui lo hi 1 (n:Int) with | (lo,hi)=>pure (lo,(1:Int),SE lo hi 1)) _ _ s
 rw [sD lo hi n]
 show wpAny _ _ (pure (((cy n 0 lo:Nat):Int),(1:Int),SE ((cy n 0 lo:Nat):Int) ((cy n n hi:Nat):Int) 1)) _ _ s
 rw [sE]
 exact Oq h
theorem yO (xs:Array Value) (i k:Nat):((Pd k).filterMap λ(m:Nat)=>xs[((i:Int)+(m:Int) * 1).toNat]?).toArray=((xs.toList.drop i).take k).toArray:=by
 have e:(λ(m:Nat)=>xs[((i:Int)+(m:Int) * 1).toNat]?)=λm=>xs[i+m]?:=by
  funext m
  have:((i:Int)+(m:Int) * 1).toNat=i+m:=by lia
  rw [this]
 rw [e]
 have:=pick_run xs i k
 rw [UJ] at this
 have e2:((λx=>xs[x]?)∘λx=>i+x)=λm=>xs[i+m]?:=rfl
 rw [e2] at this
 rw [this]
theorem iI {lo hi:Option Int} (ht:IsTup s.heap t items) (hs:s.heap.IsSliceOf sl vl vu .none) (pl:IsPart vl lo) (pu:IsPart vu hi)
 (hw:¬ (cy items.size 0 lo=0/\cy items.size items.size hi=items.size))
 (h:Q (.ref s.heap.objs.size) { s with heap:=s.heap.push { cls:=.type "tuple",data:=.seq ((items.toList.drop (cy items.size 0 lo)).take (cy items.size items.size hi - cy items.size 0 lo)).toArray } })
 (hsz:items.size<=sizeLine):wpAny (model prog w) A (getItem (.ref t) (.ref sl)) Q E s:=by
 have htake:sizeOk (.seq ((items.toList.drop (cy items.size 0 lo)).take (cy items.size items.size hi - cy items.size 0 lo)).toArray):=by
  show ((items.toList.drop (cy items.size 0 lo)).take (cy items.size items.size hi - cy items.size 0 lo)).toArray.size<=sizeLine
  rw [OP,Pp,List.length_drop,Pg]
  lia
 have hj:cy items.size items.size hi<=items.size:=GO _ _ (Ot _) hi
 obtain ⟨os,hos,hcs,hds⟩:=id hs
 have hTs:s.TypeIs (.ref sl) "slice":=⟨os,hos,hcs⟩
 unfold getItem
 try with_reducible refine PY ?_
 first | refine Ol (Oq ?_) | skip
 refine Ol (UL ht.typeIs (by decide) ?_)
 refine Ol (Qf (name:=Om "__getitem__") ht.typeIs Rq
  (PK Rq ht.typeIs entry_tuple_getitem ?_ (args_tuple_getitem _ _)))
 show wpAny _ _ (Builtin.Tuple.tupleItemsOf (.ref t) >>= _) _ _ s
 refine Ol (tupleItemsOf_ ht ?_)
 refine Ol (QO hTs ?_)
 rw [if_pos (by decide)]
 refine Ol (fj hs pl pu ?_)
 have hno:¬ ((((cy items.size 0 lo:Nat):Int) == 0 && (1:Int) == 1 && (cy items.size items.size hi - cy items.size 0 lo) == items.size)=true):=by
  intro q
  rw [R8,R8] at q
  have q1:((cy items.size 0 lo:Nat):Int)=0:=eq_of_beq q.1.1
  have q2:cy items.size items.size hi - cy items.size 0 lo=items.size:=eq_of_beq q.2
  exact hw ⟨by lia,by lia⟩
 show wpAny _ _ (if (((cy items.size 0 lo:Nat):Int) == 0 && (1:Int) == 1 && (cy items.size items.size hi - cy items.size 0 lo) == items.size)=true then _ else _) _ _ s
 rw [if_neg hno,yO]
 first
  | exact Ol (m:=SJ _) (Pk (Oq ⟨_,rfl,Oq h⟩) htake)
  | exact Ol (m:=SJ _) (Pk (Ol (Oq (Oq ⟨_,rfl,Oq h⟩))) htake)
  | exact Ol (Ol (m:=SJ _) (Pk (Oq (Oq ⟨_,rfl,Oq h⟩)) htake))
  | exact Ol (Ol (m:=SJ _) (Pk (Oq ⟨_,rfl,Oq h⟩) htake))
end HT
namespace L2
open PySem PySem.Spec PyProof.Rows
noncomputable abbrev TO:=St->Hp->(Option Int->Hp->Prop)->Prop
def PO (X:Cx) (e:Option Expr) (t:TO):Prop :=
 ∀ (aa:List (Addr×Obj)) (s:Shared) (σ:St) (H:Hp) (Q:Option Int->Hp->Prop),Inv X aa σ H s->t σ H Q ->
  wpAny (model X.prog X.w) X.A (evalPart e X.env) (λu s'=>∃ o H',Inv X aa σ H' s'/\IsPart u o/\Q o H') X.xe s
noncomputable def CF:TO:=λ_ H Q=>Q none H
noncomputable def JZ (t:TE):TO:=λσ H Q=>t σ H λx H1=>∃ i,x=.int i/\Q (some i) H1
theorem intsAre_of:∀ {us:List Value},Vals (ns.map V.int) us->IntsAre us ns:=by
 induction ns with
 | nil=>intro us r; rw [Rh] at r; cases r; exact .nil
 | cons n ns ih =>
  intro us r
  rw [OA] at r
  cases r with
  | cons r1 r2 =>
   obtain ⟨t,e⟩:=r1
   subst e
   exact .cons n t (ih r2)
section
variable {lo hi:Option Expr}
theorem CG:PO X none CF:=by
 intro aa s σ H Q I h
 rw [evalPart_none]
 exact Oq ⟨none,H,I,.none,h⟩
theorem CH (h:PE X e te):PO X (some e) (JZ te):=by
 intro aa s σ H Q I hw
 rw [evalPart_some]
 refine bJ (h aa s σ H _ I hw) λu s1 ⟨x,H1,I1,r1,q1⟩=>?_
 obtain ⟨i,rfl,q⟩:=q1
 obtain ⟨t,rfl⟩:=r1
 exact ⟨some i,H1,I1,.int i t,q⟩
def Cf (X:Cx) (r:V->Option Int->Option Int->Hp->VK->Prop):Prop :=
 ∀ (aa:List (Addr×Obj)) (s:Shared) (σ:St) (H:Hp) (x:V) (v vl vu:Value) (lo hi:Option Int) (sl:Addr) (Q:VK),Inv X aa σ H s->RelV x v->s.heap.IsSliceOf sl vl vu .none->IsPart vl lo->IsPart vu hi->r x lo hi H Q ->
  ∃ T id,typeLookup (.type T) "__getitem__"=pure (some (.builtin id))/\s.TypeIs v T/\wpAny (model X.prog X.w) X.A (getItem v (.ref sl)) (EP X aa σ Q) X.xe s
theorem Cf.or (h:Cf X r) (h':Cf X r'):Cf X (λx lo hi H Q=>r x lo hi H Q\/r' x lo hi H Q):=by
 intro aa s σ H x v vl vu lo hi sl Q I rx hs pl pu q
 rcases q with q | q
 ·exact h aa s σ H x v vl vu lo hi sl Q I rx hs pl pu q
 ·exact h' aa s σ H x v vl vu lo hi sl Q I rx hs pl pu q
noncomputable def Oc (r:V->Option Int->Option Int->Hp->VK->Prop) (te:TE) (tl th:TO):TE:=λσ H Q=>te σ H λx H1=>tl σ H1 λl H2=>th σ H2 λu H3=>r x l u H3 Q
theorem yP (hr:Cf X r) (he:PE X e te) (hl:PO X lo tl) (hu:PO X hi th):PE X (.Subscript e (.Slice lo hi none p2) pos) (Oc r te tl th):=by
 intro aa s σ H Q I h
 refine Subscript_ (bJ (he aa s σ H _ I h) λv s1 ⟨x,H1,I1,r1,q1⟩=>?_)
 refine wpAny_Slice (bJ (hl aa s1 σ H1 _ I1 q1) λvl s2 ⟨l,H2,I2,pl,q2⟩=>bJ (hu aa s2 σ H2 _ I2 q2) λvu s3 ⟨u,H3,I3,pu,q3⟩=>?_)
 rw [evalPart_none]
 refine Oq ?_
 have I4:Inv X aa σ H3 { s3 with heap:=s3.heap.push { cls:=.type "slice",data:=.fields #[vl,vu,.none] } }:=I3.kept (t':=s3.toks) λb ob q=>Ow _ q
 obtain ⟨T,id,hT,ht,hg⟩:=hr aa { s3 with heap:=s3.heap.push { cls:=.type "slice",data:=.fields #[vl,vu,.none] } } σ H3 x v vl vu l u s3.heap.objs.size Q I4 r1 (Heap.IsSliceOf.new ..) pl pu q3
 show wpAny (model X.prog X.w) X.A (subscriptTail e (.Slice lo hi none p2) v (.ref s3.heap.objs.size)) (EP X aa σ Q) X.xe { s3 with heap:=s3.heap.push { cls:=.type "slice",data:=.fields #[vl,vu,.none] } }
 exact tail_any (ops:=[.ref s3.heap.objs.size,v]) ht hT hg (by walk_at "u")
noncomputable def nR (xs:List V) (lo hi:Option Int):List V:=(xs.drop (HT.cy xs.length 0 lo)).take (HT.cy xs.length xs.length hi - HT.cy xs.length 0 lo)
theorem jI (xs) (lo hi):(nR xs lo hi).length<=xs.length:=by
 unfold nR
 rw [Pp,List.length_drop]
 lia
noncomputable def MG (K:Oo):V->Option Int->Option Int->Hp->VK->Prop:=λx lo hi H Q=>∃ a xs,x=.ref a/\dh K H a xs /\
 ¬ (HT.cy xs.length 0 lo=0/\HT.cy xs.length xs.length hi=xs.length)/\∀ p,H p=none->Q (.ref p) (upd H p (.tup (nR xs lo hi)))
theorem GP:Cf X (MG X.K):=by
 intro aa s σ H x v vl vu lo hi sl Q I rx hs pl pu h
 obtain ⟨a,xs,rfl,hx,hw,q⟩:=h
 cases rx
 obtain ⟨its,r,ht,hz⟩:=I.tuple hx
 have hlen:its.toArray.size=xs.length:=by rw [OP]; exact r.length.symm
 refine ⟨"tuple",_,Rq.lookup,ht.typeIs,?_⟩
 refine HT.iI ht hs pl pu (by rw [hlen]; exact hw) ?_ (by rw [hlen]; exact hz)
 rw [hlen]
 refine ⟨.ref s.heap.objs.size,_,I.laid (t':=s.toks) (o:=.tup (nR xs lo hi)) (λb ob q=>Ow _ q) (Ot _) ?_,rfl,q _ (I.hok.fresh (Ot _))⟩
 exact ⟨OD (jI xs lo hi) hz,_,(r.drop (HT.cy xs.length 0 lo)).take (HT.cy xs.length xs.length hi - HT.cy xs.length 0 lo),IsTup.new _ _⟩
theorem Vals.uD (r:Vals xs us):us=[]↔xs=[]:=by
 cases r with
 | nil=>simp
 | cons _ _=>simp
end
noncomputable def Jt (n:Nat) (i:Int):Option Nat:=if 0<=i then (if i<n then some i.toNat else none) else if -(n:Int)<=i then some (i+n).toNat else none
noncomputable def kq {α:Type} (xs:List α) (i:Int):Option α:=(Jt xs.length i).bind λj=>xs[j]?
theorem CI (h:Jt n i=some j):seqIndex? i n=some j/\j<n/\ -(n:Int)<=i/\i<n:=by
 unfold Jt at h
 by_cases h0:0<=i
 ·rw [if_pos h0] at h
  by_cases h1:i<n
  ·rw [if_pos h1] at h
   have e:i.toNat=j:=Qo h
   exact ⟨by rw [seqIndex_of h0 h1,e],by lia,by lia,h1⟩
  ·rw [if_neg h1] at h; cases h
 ·rw [if_neg h0] at h
  by_cases h1: -(n:Int)<=i
  ·rw [if_pos h1] at h
   have e:(i+n).toNat=j:=Qo h
   exact ⟨by rw [seqIndex_neg (by lia) h1,e],by lia,h1,by lia⟩
  ·rw [if_neg h1] at h; cases h
theorem uE (h:kq xs i=some v):∃ j,seqIndex? i xs.length=some j/\xs[j]?=some v/\j<xs.length/\ -(xs.length:Int)<=i/\i<xs.length:=by
 unfold kq at h
 cases e:Jt xs.length i with
 | none=>rw [e] at h; cases h
 | some j =>
  rw [e] at h
  obtain ⟨h1,h2,h3,h4⟩:=CI e
  exact ⟨j,h1,h,h2,h3,h4⟩
def jX (b:Expr):Prop:=∀ o i,subscripted b false o i=operate [o,i] (getItem o i)
def Fb (X:Cx) (r:R2):Prop :=
 ∀ (value slice:Expr) (aa:List (Addr×Obj)) (s:Shared) (σ:St) (H:Hp) (x y:V) (v u:Value) (Q:VK),Inv X aa σ H s->RelV x v->RelV y u->r x y H Q ->
  subscripted slice false v u=operate [v,u] (getItem v u)->wpAny (model X.prog X.w) X.A (subscriptTail value slice v u) (EP X aa σ Q) X.xe s
def MH (X:Cx) (id:String) (r:V->List V->Hp->VK->Prop):Prop :=
 ∀ (aa:List (Addr×Obj)) (s:Shared) (σ:St) (H:Hp) (x:V) (xs:List V) (v:Value) (us:List Value) (Q:VK),Inv X aa σ H s->RelV x v->Vals xs us->r x xs H Q ->
  wpAny (model X.prog X.w) X.A (call (.builtin id) (v::us)) (EP X aa σ Q) X.xe s
section
theorem Fb.or (h:Fb X r) (h':Fb X r'):Fb X (λx y H Q=>r x y H Q\/r' x y H Q):=by
 intro value slice aa s σ H x y v u Q I rx ry q hs
 rcases q with q | q
 ·exact h value slice aa s σ H x y v u Q I rx ry q hs
 ·exact h' value slice aa s σ H x y v u Q I rx ry q hs
theorem J0 (hr:Fb X r) (ha:PE X a ta) (hb:PE X b tb) (hs:jX b):PE X (.Subscript a b pos) (LS r ta tb):=by
 intro aa s σ H Q I h
 exact Subscript_ (Gy ha hb I h λv u s2 x y H2 I2 rx ry q=>hr a b aa s2 σ H2 x y v u Q I2 rx ry q (hs _ _))
noncomputable def MI (K:Oo):R2:=λx y H Q=>∃ p xs i v,x=.ref p/\y=.int i/\gC K H p xs/\kq xs i=some v/\Q v H
noncomputable def MJ (K:Oo):R2:=λx y H Q=>∃ p xs i v,x=.ref p/\y=.int i/\dh K H p xs/\kq xs i=some v/\Q v H
theorem CJ:Fb X (MI X.K):=by
 intro value slice aa s σ H x y v u Q I rx ry h hs
 obtain ⟨p,xs,i,z,rfl,rfl,hq,he,q⟩:=h
 cases rx
 obtain ⟨t,rfl⟩:=ry
 obtain ⟨its,r,pl,hz⟩:=I.list hq
 obtain ⟨j,h1,h2,h3,h4,h5⟩:=uE he
 obtain ⟨w,ew,rw'⟩:=r.get h2
 have hl:=r.length
 have hn:=nP
 have fin:EP X aa σ Q w s:=⟨z,H,I,rw',q⟩
 by_cases h0:0<=i
 ·have hj:i.toNat=j:=by
   rw [seqIndex_of h0 h5] at h1
   exact Qo h1
  exact item_listR pl.isList h0 (by lia) (by rw [hj]; simpa using ew) fin hs
 ·have hj:(i+(its.toArray.size:Int)).toNat=j:=by
   rw [seqIndex_neg (by lia) h4] at h1
   rw [OP,<- hl]
   exact Qo h1
  exact subscriptTail_builtinR (x:=w) pl.isList.typeIs UO.lookup
   (wpAny_getItem_list_neg (Q:=λr s'=>r=w/\EP X aa σ Q r s') pl.isList (by lia) (by rw [OP] <;> lia) (by lia) (by rw [hj]; simpa using ew) ⟨rfl,fin⟩) hs
theorem GQ:Fb X (MJ X.K):=by
 intro value slice aa s σ H x y v u Q I rx ry h hs
 obtain ⟨p,xs,i,z,rfl,rfl,hq,he,q⟩:=h
 cases rx
 obtain ⟨t,rfl⟩:=ry
 obtain ⟨its,r,pl,hz⟩:=I.tuple hq
 obtain ⟨j,h1,h2,h3,h4,h5⟩:=uE he
 obtain ⟨w,ew,rw'⟩:=r.get h2
 have hl:=r.length
 have hn:=nP
 have fin:EP X aa σ Q w s:=⟨z,H,I,rw',q⟩
 exact subscriptTail_builtinR (x:=w) pl.typeIs slot_tuple_getitem.lookup
  (getItem_tuple (j:=j) (Q:=λr s'=>r=w/\EP X aa σ Q r s') pl (by lia) (by lia) (by rw [OP,<- hl]; exact h1) (by simpa using ew) ⟨rfl,fin⟩) hs
theorem nS (lo hi) (n):(sliceBounds lo hi none n).1=((HT.cy n 0 lo:Nat):Int)/\(sliceBounds lo hi none n).2.1=((HT.cy n n hi:Nat):Int)/\(sliceBounds lo hi none n).2.2=1:=by
 refine ⟨?_,?_,rfl⟩
 ·cases lo with
  | none=>simp [sliceBounds,HT.cy]
  | some i =>
   simp only [sliceBounds,HT.cy,Option.getD_none,show (1:Int)>0 by decide,if_true]
   by_cases h:i<0
   ·simp only [h,if_true] <;> lia
   ·simp only [h,if_false] <;> lia
 ·cases hi with
  | none=>simp [sliceBounds,HT.cy]
  | some i =>
   simp only [sliceBounds,HT.cy,Option.getD_none,show (1:Int)>0 by decide,if_true]
   by_cases h:i<0
   ·simp only [h,if_true] <;> lia
   ·simp only [h,if_false] <;> lia
theorem lV (its:List Value) (lo hi):slicePick its.toArray lo hi none=((its.drop (HT.cy its.length 0 lo)).take (HT.cy its.length its.length hi - HT.cy its.length 0 lo)).toArray:=by
 obtain ⟨h1,h2,h3⟩:=nS lo hi its.toArray.size
 unfold slicePick
 rw [h1,h2,h3]
 simp only [sliceRange_one,pick_run,OP] <;> rfl
noncomputable def MK (K:Oo):V->Option Int->Option Int->Hp->VK->Prop:=λx lo hi H Q=>∃ a xs,x=.ref a/\gC K H a xs/\∀ p,H p=none->Q (.ref p) (upd H p (.lst (nR xs lo hi)))
theorem CK:Cf X (MK X.K):=by
 intro aa s σ H x v vl vu lo hi sl Q I rx hs pl pu h
 obtain ⟨a,xs,rfl,hx,q⟩:=h
 cases rx
 obtain ⟨its,r,ht,hz⟩:=I.list hx
 have hlen:=r.length
 refine ⟨"list",_,UO.lookup,ht.isList.typeIs,?_⟩
 refine wpAny_getItem_list_slice ht.isList hs pl pu .none (by simp) ?_ (by rw [OP] <;> lia)
 rw [lV,<- hlen]
 refine ⟨.ref s.heap.objs.size,_,I.laid (t':=s.toks) (o:=.lst (nR xs lo hi)) (λb ob q=>Ow _ q) (Ot _) ?_,rfl,q _ (I.hok.fresh (Ot _))⟩
 exact ⟨OD (jI xs lo hi) hz,_,0,(r.drop (HT.cy xs.length 0 lo)).take (HT.cy xs.length xs.length hi - HT.cy xs.length 0 lo),OF _ rfl⟩
theorem nT:fX X (.builtin "len") (λxs H Q=>∃ p ys,xs=[.ref p]/\(gC X.K H p ys\/dh X.K H p ys)/\Q (.int ys.length) H):=by
 intro aa s σ H xs us Q I r h
 obtain ⟨p,ys,rfl,hq,q⟩:=h
 obtain ⟨u,rfl,rx⟩:=vals1 r
 cases rx
 have hn:=nP
 rcases hq with hq | hq
 ·obtain ⟨its,r',pl,hz⟩:=I.list hq
  have hlen:=r'.length
  exact Calls.call_len_list pl.isList (by simp only [OP] <;> lia) ⟨.int ys.length,H,I.tok _,⟨s.toks+1,by rw [OP,hlen]⟩,q⟩
 ·obtain ⟨its,r',pl,hz⟩:=I.tuple hq
  have hlen:=r'.length
  exact len_tuple pl (by simp only [OP] <;> lia) ⟨.int ys.length,H,I.tok _,⟨s.toks+1,by rw [OP,hlen]⟩,q⟩
theorem nU:fX X (.type "list") (λxs H Q=>∃ p ys,xs=[.ref p]/\(gC X.K H p ys\/dh X.K H p ys)/\∀ l,H l=none->Q (.ref l) (upd H l (.lst ys))):=by
 intro aa s σ H xs us Q I r h
 obtain ⟨p,ys,rfl,hq,q⟩:=h
 obtain ⟨u,rfl,rx⟩:=vals1 r
 cases rx
 have fin:∀ (its:List Value),Vals ys its->ys.length<=sizeLine->∀ (h':Heap) (c':Nat),(∀ b o',s.heap.get? b=some o'->h'.get? b=some o') ->
  h'.get? s.heap.objs.size=some { cls:=.type "list",dict:=none,data:=.seq its.toArray c',slots:= #[] }->EP X aa σ Q (.ref s.heap.objs.size) { s with heap:=h' }:=λits r' hz h' c' kp e =>
  ⟨.ref s.heap.objs.size,_,I.laid (t':=s.toks) kp (Ot _) (show bq X.prog X.w _ h' _ (.lst ys) from ⟨hz,its,c',r',e⟩),rfl,q _ (I.hok.fresh (Ot _))⟩
 rcases hq with hq | hq
 ·obtain ⟨its,r',pl,hz⟩:=I.list hq
  have hlen:=r'.length
  obtain ⟨o,ho,hc,n,hd⟩:=pl.isList
  exact call_list_seq p (.inl rfl) ho hc hd (λh' c' kp e=>fin its r' hz h' c' kp e) (by simp only [OP] <;> lia)
 ·obtain ⟨its,r',pl,hz⟩:=I.tuple hq
  have hlen:=r'.length
  obtain ⟨o,ho,hc,n,hd⟩:=pl
  exact call_list_seq p (.inr rfl) ho hc hd (λh' c' kp e=>fin its r' hz h' c' kp e) (by simp only [OP] <;> lia)
theorem lW:fX X (.type "tuple") (λxs H Q=>∃ p ys,xs=[.ref p]/\((gC X.K H p ys/\∀ l,H l=none->Q (.ref l) (upd H l (.tup ys)))\/(dh X.K H p ys/\Q (.ref p) H))):=by
 intro aa s σ H xs us Q I r h
 obtain ⟨p,ys,rfl,h⟩:=h
 obtain ⟨u,rfl,rx⟩:=vals1 r
 cases rx
 rcases h with ⟨hq,q⟩ | ⟨hq,q⟩
 ·obtain ⟨its,r',pl,hz⟩:=I.list hq
  have hlen:=r'.length
  refine call_tuple_list pl.isList (λh' kp=>?_) (by simp only [OP] <;> lia)
  have I1:Inv X aa σ H { s with heap:=h' }:=I.kept (t':=s.toks) kp
  have I2:Inv X aa σ (upd H h'.objs.size (.tup ys)) { s with heap:=h'.push { cls:=.type "tuple",data:=.seq its.toArray } } :=
   I1.laid (t':=s.toks) (λb o e=>Ow _ e) (Ot _) (show bq X.prog X.w _ _ _ (.tup ys) from ⟨hz,its,r',IsTup.new _ _⟩)
  exact ⟨.ref h'.objs.size,_,I2,rfl,q _ (I1.hok.fresh (Ot _))⟩
 ·obtain ⟨its,r',pl,hz⟩:=I.tuple hq
  exact call_tuple_same pl ⟨.ref p,H,I,rfl,q⟩
def ML (K:Oo) (T:String) (x:V) (H:Hp):Prop:=match x with
 | .str _=>T="str"
 | .int _=>T="int"
 | .ref p=>(T="list"/\∃ xs,gC K H p xs)\/(T="tuple"/\∃ o,K.lookup p=some o/\o.cls=.type "tuple"/\o.dict=none) \/
  (T="dict"/\((∃ kvs,H p=some (.dK kvs))\/∃ kvs,H p=some (.dT kvs)))\/(T="set"/\∃ S n,H p=some (.set S n))
 | _=>False
theorem yQ (I:Inv X aa σ H s) (r:RelV x v) (ty:ML X.K T x H) :
 s.TypeIs v T/\∀ a,v=.ref a->∃ ob,s.heap.get? a=some ob/\ob.dict=none:=by
 cases x with
 | str z =>
  obtain ⟨t,rfl⟩:=r
  cases (show T="str" from ty)
  exact ⟨typeIs_str s z t,λ_ e=>nomatch e⟩
 | int i =>
  obtain ⟨t,rfl⟩:=r
  cases (show T="int" from ty)
  exact ⟨RT s i t,λ_ e=>nomatch e⟩
 | ref p =>
  cases r
  rcases ty with ⟨rfl,xs,hq⟩ | ⟨rfl,o,hk,hc,hd⟩ | ⟨rfl,hk⟩ | ⟨rfl,S,n,hk⟩
  ·obtain ⟨its,_,pl,_⟩:=I.list hq
   refine ⟨pl.isList.typeIs,λa e=>?_⟩
   cases e
   obtain ⟨o,n,e,c,hd,_⟩:=pl
   exact ⟨o,e,hd⟩
  ·refine ⟨⟨o,I.Ce p o hk,hc⟩,λa e=>?_⟩
   cases e
   exact ⟨o,I.Ce _ o hk,hd⟩
  ·have z:∃ o,s.heap.get? p=some o/\o.ExactDict:=by
    rcases hk with ⟨kvs,hk⟩ | ⟨kvs,hk⟩
    ·obtain ⟨_,_,_,_,o,_,_,e,ex,_⟩:=I.hok p _ hk
     exact ⟨o,e,ex⟩
    ·obtain ⟨_,_,_,_,o,_,_,e,ex,_⟩:=I.hok p _ hk
     exact ⟨o,e,ex⟩
   obtain ⟨o,e,ex⟩:=z
   refine ⟨⟨o,e,ex.1⟩,λa e2=>?_⟩
   cases e2
   exact ⟨o,e,ex.2.1⟩
  ·obtain ⟨o,_,_,_,e,ex,_⟩:=I.hok p _ hk
   refine ⟨⟨o,e,ex.1⟩,λa e2=>?_⟩
   cases e2
   exact ⟨o,e,ex.2.1⟩
 | _=>exact PM ty
noncomputable def MM (K:Oo) (T:String) (r:V->List V->Hp->VK->Prop) (to:TE):TE:=λσ H Q=>to σ H λx H1=>ML K T x H1/\r x [] H1 Q
noncomputable def Od (K:Oo) (T:String) (r:V->List V->Hp->VK->Prop) (to:TE) (t:TA):TE:=λσ H Q=>to σ H λx H1=>ML K T x H1/\t σ H1 λxs H2=>r x xs H2 Q
variable {T id:String}
theorem GR (pa:PlainAttrs T) (slot:Slot T name id) (hty:typeOf (.builtin id)=pure (.type "method_descriptor")) (hm:MH X id r) (ho:PE X o to)
 (hbase:attributeBase o name X.env (eval o X.env)=eval o X.env:=by rfl) (hline:(apos.endLine == cpos.line)=true:=by rfl):PE X (.Call (.Attribute o name apos) [] [] cpos) (MM X.K T r to):=by
 intro aa s σ H Q I h
 refine wpAny_Call_method0_late hbase hline (bJ (ho aa s σ H _ I h) λv s1 ⟨x,H1,I1,r1,ty,q1⟩=>?_)
 obtain ⟨h1,h2⟩:=yQ I1 r1 ty
 exact ⟨T,id,pa,slot,hty,h1,h2,Us rfl (PySem.evalArgs_none (hm aa s1 σ H1 x [] v [] Q I1 r1 .nil q1))⟩
theorem Fc (pa:PlainAttrs T) (slot:Slot T name id) (hty:typeOf (.builtin id)=pure (.type "method_descriptor")) (hm:MH X id r) (ho:PE X o to) (ha:PA X (e::es) t)
 (hbase:attributeBase o name X.env (eval o X.env)=eval o X.env:=by rfl)
 (hfew:((backTo cpos (starEach (e::es) X.env)).all (λx=> !x.1) && (backToKw cpos (keywordEach [] X.env)).all (λx=>x.1.isSome)
   && decide ((e::es).length+([]:List Keyword).length+(if ([]:List Keyword).isEmpty then 0 else 1)<30))=true:=by rfl)
 (hline:(apos.endLine == cpos.line)=true:=by rfl) (hs:starEach (e::es) X.env=(false,eval e X.env)::starEach es X.env:=by rfl) (hplain:(backTo cpos (starEach es X.env)).any (·.1)=false:=by rfl) :
 PE X (.Call (.Attribute o name apos) (e::es) [] cpos) (Od X.K T r to t):=by
 intro aa s σ H Q I h
 refine wpAny_Call_method_late hbase hfew hline rfl (bJ (ho aa s σ H _ I h) λv s1 ⟨x,H1,I1,r1,ty,q1⟩=>?_)
 obtain ⟨h1,h2⟩:=yQ I1 r1 ty
 refine ⟨T,id,pa,slot,hty,h1,h2,?_⟩
 have hA:=ha cpos aa s1 σ H1 _ I1 q1
 rw [hs] at hA |-
 refine Us (by show (false || (backTo cpos (starEach es X.env)).any (·.1))=false; rw [hplain] <;> rfl) (Calls.evalArgs_plain ?_)
 exact bJ hA λus s2 ⟨vs,H2,I2,r2,q2⟩=>hm aa s2 σ H2 x vs v us Q I2 r1 r2 q2
end
def NL (X:Cx) (id:String) (r:V->List V->Hp->VK->Prop):Prop :=
 ∀ (aa:List (Addr×Obj)) (s:Shared) (σ:St) (H:Hp) (x:V) (xs:List V) (v:Value) (us:List Value) (Q:VK),Inv X aa σ H s->RelV x v->Vals xs us->r x xs H Q ->
  wpAny (model X.prog X.w) X.A (call (.builtin id) (v::us)) (EP X aa σ Q) X.xe s
theorem Vals.one:∀ {x:V} {us:List Value},Vals [x] us->∃ u,us=[u]/\RelV x u
 | _,_,.cons r .nil=>⟨_,rfl,r⟩
theorem Vals.rep (h:Vals xs us):∀ k:Nat,Vals (OB k xs).flatten (OB k us).flatten
 | 0=>.nil
 | k+1=>by
  rw [Qg,Qg,QK,QK]
  exact Vals.append h (Vals.rep h k)
theorem foldl_rep (its):∀ (k:Nat) (acc:List Value),
 RW (λx1 x2=>x1++x2) acc.toArray (OB k its.toArray)=(acc++(OB k its).flatten).toArray
 | 0,acc=>by simp
 | k+1,acc=>by
  have e:acc.toArray++its.toArray=(acc++its).toArray:=by simp
  have e2:(acc++its)++(OB k its).flatten=acc++(OB (k+1) its).flatten:=by
   rw [Qg,QK,OY]
  rw [<- e2,<- foldl_rep its k (acc++its),<- e,Qg,P8]
theorem Inv.sF {its its':List Value} (I:Inv X aa σ H s) (hH:H l=some (.lst xs))
 (e:s.heap.get? l=some { cls:=.type "list",data:=.seq its.toArray n }) (hf:f its.toArray=its'.toArray) (hv:Vals ys its') (hz:ys.length<=sizeLine) :
 Inv X aa σ (upd H l (.lst ys)) { s with heap:=s.heap.update l (O4 f),toks:=t' }:=by
 have q:=PySem.IsL.update e f
 rw [hf] at q
 refine I.write (x:=l) (e:=l) (by rw [hH]; exact trivial) (.inl rfl) (λb' u hb hu=>(SN s.heap (O4 f) (OT hb)).trans hu) ⟨_,q⟩ ?_
 exact ⟨hz,its',_,hv,q⟩
theorem Inv.CL (I:Inv X aa σ H s) (hv:Vals ys its) (hz:ys.length<=sizeLine) :
 Inv X aa σ (upd H s.heap.objs.size (.lst ys)) { s with heap:=s.heap.push { cls:=.type "list",data:=.seq its.toArray },toks:=t' } :=
 I.laid (λ_ _ q=>Ow _ q) (Ot _) ⟨hz,its,0,hv,OF _ rfl⟩
theorem Inv.fresh (I:Inv X aa σ H s):H s.heap.objs.size=none:=I.hok.fresh (Ot _)
theorem Inv.pK (I:Inv X aa σ H s) (hH:H l=some (.lst xs)):xs.length<=sizeLine/\∃ (its:List Value) (n:Nat),Vals xs its/\xs.length=its.length/\s.heap.get? l=some { cls:=.type "list",data:=.seq its.toArray n }:=by
 obtain ⟨z,its,n,r,e⟩:=I.hok l _ hH
 exact ⟨z,its,n,r,r.length,e⟩
theorem yR (h:n<=sizeLine):Uk n=false:=by
 unfold Uk
 exact decide_eq_false (by lia)
noncomputable def CM:V->List V->Hp->VK->Prop:=λx vs H Q=>∃ l xs y,x=.ref l/\vs=[y]/\H l=some (.lst xs)/\xs.length<sizeLine/\Q .non (upd H l (.lst (xs++[y])))
theorem mH:NL X "list.append" CM:=by
 intro aa s σ H x vs v us Q I rx rv h
 obtain ⟨l,xs,y,rfl,rfl,hH,hz,q⟩:=h
 cases rx
 obtain ⟨u,rfl,ru⟩:=rv.one
 obtain ⟨z,its,n,r,hl,e⟩:=I.pK hH
 refine RU F.slot_list_append ⟨_,e,rfl⟩ F.entry_list_append (F.args_list_append_2 _ _) (PySem.list_append l its.toArray n u (by rw [OP]; lia)) ⟨e,?_⟩
 refine ⟨.non,_,I.sF (its':=its++[u]) hH e (by simp) (r.append (.cons ru .nil)) ?_,rfl,q⟩
 rw [O7,Rz]
 lia
noncomputable def MN:R2:=λx y H Q=>∃ l k xs,x=.ref l/\y=.int k/\H l=some (.lst xs)/\ -(2 ^ 63)<=k/\k<2 ^ 63/\xs.length * k.toNat<=sizeLine /\
 ∀ p,H p=none->Q (.ref p) (upd H p (.lst (OB k.toNat xs).flatten))
theorem len_rep {α:Type} (xs:List α) (k):(OB k xs).flatten.length=k * xs.length:=by
 induction k with
 | zero=>simp
 | succ k ih=>rw [Qg,QK,O7,ih,RP,Nat.add_comm]
theorem GS:fG X (binaryOp .Mult) MN:=by
 intro aa s σ H x y v u Q I rx ry h
 obtain ⟨l,k,xs,rfl,rfl,hH,h1,h2,hz,q⟩:=h
 cases rx
 obtain ⟨t,rfl⟩:=ry
 obtain ⟨z,its,n,r,hl,e⟩:=I.pK hH
 have hlen:its.toArray.size * k.toNat<=sizeLine:=by rw [OP,<- hl]; exact hz
 have hcap:¬ its.toArray.size * k.toNat>(2 ^ 63 - 1) / 8:=by
  have:(sizeLine:Nat)<=(2 ^ 63 - 1) / 8:=by decide
  lia
 have hfit:¬ (!Builtin.List.listFitsIndex k)=true:=by
  rw [fitsIndex_both h1 h2]
  exact OC
 have hlong:¬ Uk (its.toArray.size * k.toNat)=true:=by
  rw [yR hlen]
  exact OC
 have hnew:RW (λx1 x2=>x1++x2) #[] (OB (if its.toArray.isEmpty=true then 0 else k.toNat) its.toArray)=(OB k.toNat its).flatten.toArray:=by
  have f0:∀ m:Nat,RW (λx1 x2=>x1++x2) #[] (OB m its.toArray)=(OB m its).flatten.toArray:=λm=>by
   have:=foldl_rep its m []
   rw [Tt] at this
   exact this
  rw [f0]
  cases its with
  | nil=>simp
  | cons a r'=>rw [if_neg (by simp)]
 refine wpAny_binaryOp_repeat_ref (T:="list") (U:="int") (by decide) ⟨_,e,rfl⟩ (λs'=>RT s' k t) noFill_list_mul F.fills_int_mul Tv repeat_list F.slot_int_index.lookup
  (RU Tv (RT s k t) F.entry_int_rmul (F.args_int_rmul_2 _ _) (int___rmul___int_list k t l its.toArray n)
    ⟨e,rfl,⟨_,e,rfl⟩,RU F.slot_list_mul ⟨_,e,rfl⟩ F.entry_list_mul (F.args_list_mul_2 _ _) (AutoListH.list___mul___list_int_3 l its.toArray n k t hfit hcap hlong) ⟨e,?_⟩⟩)
 rw [hnew]
 exact ⟨.ref _,_,I.CL (t':=s.toks) (r.rep k.toNat) (by rw [len_rep,TZ]; exact hz),rfl,q _ I.fresh⟩
section
variable {κ:Type} [DecidableEq κ]
noncomputable def kr (kvs:List (κ×V)) (k:κ):Option V:=(kvs.find? λkv=>decide (kv.1=k)).map (·.2)
noncomputable def putK (kvs:List (κ×V)) (k:κ) (v:V):List (κ×V) :=
 if (kvs.any λkv=>decide (kv.1=k))=true then kvs.map (λkv=>if kv.1=k then (kv.1,v) else kv) else kvs++[(k,v)]
theorem ku {p:κ×V} {r:List (κ×V)} {k:κ} (e:p.1=k):kr (p::r) k=some p.2:=by simp [kr,Qh,e]
theorem kB {p:κ×V} {r:List (κ×V)} {k:κ} (e:¬ p.1=k):kr (p::r) k=kr r k:=by simp [kr,Qh,e]
theorem pM (k:κ):∀ kvs:List (κ×V),(kvs.any λkv=>decide (kv.1=k))=(kr kvs k).isSome
 | []=>rfl
 | p::r=>by
  rw [List.any_cons]
  by_cases e:p.1=k
  ·simp only [ku e,decide_eq_true e,Bool.true_or,Option.isSome_some]
  ·rw [kB e,decide_eq_false e,Bool.false_or]; exact pM k r
theorem pN (kvs) (k:κ) (v):(putK kvs k v).length<=kvs.length+1:=by
 unfold putK
 split
 ·rw [Ox]; lia
 ·rw [O7,Pa,Qp]; lia
theorem jO.jm (r:jO o u):o.isSome=u.isSome:=by
 cases o with
 | none=>cases u with
  | none=>rfl
  | some _=>exact (show False from r).elim
 | some _=>cases u with
  | none=>exact (show False from r).elim
  | some _=>rfl
theorem jO.getD (r:jO o u) (rd:RelV d d'):RelV (o.getD d) (u.getD d'):=by
 cases o with
 | none=>cases u with
  | none=>exact rd
  | some _=>exact (show False from r).elim
 | some _=>cases u with
  | none=>exact (show False from r).elim
  | some _=>exact r
theorem KV.val (r:KV kvs vs) (k:κ):jO (kr kvs k) (valueAt vs k):=by
 unfold KV at r
 induction r with
 | nil=>exact RV
 | @cons p q ps qs h t ih =>
  obtain ⟨h1,h2⟩:=h
  by_cases e:p.1=k
  ·have e':q.1=k:=h1.symm.trans e
   have b:valueAt (q::qs) k=some q.2:=by simp [valueAt,Qh,e']
   rw [ku e,b]; exact h2
  ·have e':¬ q.1=k:=λz=>e (h1.trans z)
   have b:valueAt (q::qs) k=valueAt qs k:=by simp [valueAt,Qh,e']
   rw [kB e,b]; exact ih
theorem KV.any (r:KV kvs vs) (k:κ):(kvs.any λkv=>decide (kv.1=k))=vs.any λkv=>decide (kv.1=k):=by
 unfold KV at r
 induction r with
 | nil=>rfl
 | cons h t ih=>rw [List.any_cons,List.any_cons,ih,h.1]
theorem KV.repl (r:KV kvs vs) (k:κ) (ry:RelV y u) :
 KV (kvs.map λkv=>if kv.1=k then (kv.1,y) else kv) (vs.map λkv=>if kv.1=k then (kv.1,u) else kv):=by
 unfold KV at r |-
 induction r with
 | nil=>exact .nil
 | @cons p q ps qs h t ih =>
  rw [OA,OA]
  refine .cons ?_ ih
  obtain ⟨h1,h2⟩:=h
  by_cases e:p.1=k
  ·rw [if_pos e,if_pos (h1.symm.trans e)]; exact ⟨h1,ry⟩
  ·rw [if_neg e,if_neg (λz=>e (h1.trans z))]; exact ⟨h1,h2⟩
theorem KV.put (r:KV kvs vs) (k:κ) (ry:RelV y u):KV (putK kvs k y) (stored vs k u):=by
 unfold putK stored
 rw [r.any k]
 by_cases e:(vs.any λkv=>decide (kv.1=k))=true
 ·rw [if_pos e,if_pos e]; exact r.repl k ry
 ·rw [if_neg e,if_neg e]; exact Ub r ⟨rfl,ry⟩
theorem KV.length {kvs:List (κ×V)} {vs:List (κ×Value)} (r:KV kvs vs):kvs.length=vs.length:=PZ r
end
theorem pO (r:RelV (kV k) u):(bV P w).is k u=true:=by
 cases k with
 | inl i=>obtain ⟨t,e⟩:=(show ∃ t,u=Value.int i t from r); subst e; exact pF P w i t
 | inr x=>obtain ⟨t,e⟩:=(show ∃ t,u=Value.str x t from r); subst e; exact pG P w x t
theorem mJ:∀ {ks:List Key} {us:List Value},Vals (ks.map kV) us->ItemsAre (bV P w) ks us
 | [],_,r=>by rw [Rh] at r; cases r; exact .nil
 | k::ks,_,r=>by
  rw [OA] at r
  cases r with
  | cons h t=>exact .cons (pO h) (mJ t)
noncomputable abbrev KT:List (List Key×Addr×V)->List (List Key×Addr×Value)->Prop:=Paired λp q=>p.1=q.1/\p.2.1=q.2.1/\RelV p.2.2 q.2.2
noncomputable def atT (kvs:List (List Key×Addr×V)) (k:List Key):Option V:=(kvs.find? λkv=>decide (kv.1=k)).map (·.2.2)
noncomputable def nV (k:List Key) (v:V) (x:List Key×Addr×V):List Key×Addr×V:=if x.1=k then (x.1,x.2.1,v) else x
noncomputable def pP (kvs:List (List Key×Addr×V)) (k:List Key) (b:Addr) (v:V):List (List Key×Addr×V) :=
 if (atT kvs k).isSome=true then kvs.map (nV k v) else kvs++[(k,b,v)]
theorem pQ (kvs) (k) (b) (v):(pP kvs k b v).length<=kvs.length+1:=by
 unfold pP
 split
 ·rw [Ox]; lia
 ·rw [O7,Pa,Qp]; lia
theorem KT.val (r:KT kvs xs) (k):jO (atT kvs k) ((atKey xs k).map (·.2)):=by
 induction r with
 | nil=>exact RV
 | @cons p q ps qs h t ih =>
  obtain ⟨h1,_,h2⟩:=h
  by_cases e:p.1=k
  ·have e':q.1=k:=h1.symm.trans e
   have b:atKey (q::qs) k=some q.2:=by simp [atKey,Qh,e']
   have b2:atT (p::ps) k=some p.2.2:=by simp [atT,Qh,e]
   rw [b2,b]; exact h2
  ·have e':¬ q.1=k:=λz=>e (h1.trans z)
   have b:atKey (q::qs) k=atKey qs k:=by simp [atKey,Qh,e']
   have b2:atT (p::ps) k=atT ps k:=by simp [atT,Qh,e]
   rw [b2,b]; exact ih
theorem KT.repl (r:KT kvs xs) (k) (ry:RelV y u) :
 KT (kvs.map (nV k y)) (xs.map (putAt k u)):=by
 induction r with
 | nil=>exact .nil
 | @cons p q ps qs h t ih =>
  rw [OA,OA]
  refine .cons ?_ ih
  obtain ⟨h1,h2,h3⟩:=h
  unfold putAt nV
  by_cases e:p.1=k
  ·rw [if_pos e,if_pos (h1.symm.trans e)]; exact ⟨h1,h2,ry⟩
  ·rw [if_neg e,if_neg (λz=>e (h1.trans z))]; exact ⟨h1,h2,h3⟩
theorem KT.put (r:KT kvs xs) (k) (ry:RelV y u) :
 KT (pP kvs k b y) (storedH xs k b u):=by
 have e:(atT kvs k).isSome=(atKey xs k).isSome:=by
  rw [(r.val k).jm,Q8]
 unfold pP storedH
 rw [e]
 by_cases q:(atKey xs k).isSome=true
 ·rw [if_pos q,if_pos q]; exact r.repl k ry
 ·rw [if_neg q,if_neg q]; exact Ub r ⟨rfl,rfl,ry⟩
theorem yS (ok:jh P w H h) (e:Rd H a u):bq P w H h a u:=e.ok ok
theorem mK (ok:jh P w H h) (e:Rd H a (.dK kvs)):kvs.length<=sizeLine/\(a == sysModules)=false/\∃ vs,KV kvs vs/\h.DictOf (bV P w) a vs :=
 show bq P w H h a (.dK kvs) from yS ok e
theorem J1 (ok:jh P w H h) (e:H a=some (.dK kvs)):kvs.length<=sizeLine/\(a == sysModules)=false/\∃ vs,KV kvs vs/\h.DictOf (bV P w) a vs:=mK ok (.inl e)
theorem kC (I:Inv X aa σ H s) (e:dh X.K H a (ks.map kV)):(tupleKind (bV X.prog X.w)).is s.heap ks a:=by
 obtain ⟨its,r,⟨o,h1,h2,n,h3⟩,_⟩:=I.tuple e
 exact ⟨o,its.toArray,n,h1,h2,h3,by simpa using mJ r⟩
theorem pR (I:Inv X aa σ H s) (e:Rd H a (.dT kvs)) (hk:∀ x∈kvs,dh X.K H x.2.1 (x.1.map kV)):kvs.length<=sizeLine/\(a == sysModules)=false /\
 ∃ xs,KT kvs xs/\s.heap.DictOfH (tupleKind (bV X.prog X.w)) a xs:=by
 obtain ⟨z,y,xs,r,o,es,ep,h1,h2,h3,h4,h5⟩:=(show bq X.prog X.w H s.heap a (.dT kvs) from yS I.hok e)
 refine ⟨z,y,xs,r,o,es,ep,h1,h2,h3,h4,?_,h5⟩
 have all:∀ {l:List (List Key×Addr×V)} {m:List (List Key×Addr×Value)},KT l m->(∀ x∈l,dh X.K H x.2.1 (x.1.map kV))->∀ x∈m,(tupleKind (bV X.prog X.w)).is s.heap x.1 x.2.1:=by
  intro l m q
  induction q with
  | nil=>intro _ x hx; exact nomatch hx
  | @cons p q ps qs hq t ih =>
   intro hl x hx
   rcases OM.mp hx with e | hx
   ·subst e
    rw [<- hq.1,<- hq.2.1]
    exact kC I (hl p OI)
   ·exact ih (λy hy=>hl y (OJ _ hy)) x hx
 exact all r hk
def nW (K:Oo) (H:Hp) (a:Addr) (y:V) (r:Option V):Prop :=
 (∃ kvs k,Rd H a (.dK kvs)/\y=kV k/\r=kr kvs k)\/∃ kvs k b,Rd H a (.dT kvs)/\(∀ x∈kvs,dh K H x.2.1 (x.1.map kV))/\y=.ref b/\dh K H b (k.map kV)/\r=atT kvs k
def CN (K:Oo) (H:Hp) (a:Addr) (y v:V) (H':Hp):Prop :=
 (∃ kvs k,H a=some (.dK kvs)/\y=kV k/\kvs.length<sizeLine/\H'=upd H a (.dK (putK kvs k v))) \/
 ∃ kvs k b,H a=some (.dT kvs)/\(∀ x∈kvs,dh K H x.2.1 (x.1.map kV))/\y=.ref b/\dh K H b (k.map kV)/\kvs.length<sizeLine/\H'=upd H a (.dT (pP kvs k b v))
theorem Inv.big (I:Inv X aa σ H s):sysModules<s.heap.objs.size:=by
 have h:mainGlobals<s.heap.objs.size:=(I.mod.glob.keeps I.bk).lt
 exact Nat.lt_trans (by decide) h
theorem mO (hu:A.units+1<cLine) (I:Inv X aa σ H s) (g:nW X.K H a y (some v)) (ry:RelV y u) (h:∀ w' s',Inv X aa σ H s'->RelV v w'->Q w' s') :
 wpAny (model X.prog X.w) A (getItem (.ref a) u) Q E s:=by
 rcases g with ⟨kvs,k,e,ey,l⟩ | ⟨kvs,k,b,e,hk,ey,eb,l⟩
 ·subst ey
  obtain ⟨z,hd,vs,rel,dd⟩:=mK I.hok e
  obtain ⟨w',hw,rw'⟩:=jO.some_of (v:=v) (o:=valueAt vs k) (by rw [l]; exact rel.val k)
  exact wpAny_getItem_of (pO ry) dd.mapOf hw (h w' _ (I.tok _) rw')
 ·subst ey
  cases (show u=OS b from ry)
  obtain ⟨z,hd,xs,rel,dd⟩:=pR I e hk
  obtain ⟨w',hw,rw'⟩:=jO.some_of (v:=v) (o:=(atKey xs k).map (·.2)) (by rw [l]; exact rel.val k)
  obtain ⟨p,hp,hp2⟩:=OL.mp hw
  refine wpAny_getItem_heap (S6 hu) (kC I eb) dd hp ?_
  rw [hp2]
  exact h w' _ (I.tok _) rw'
theorem MO (hu:A.units+1<cLine) (I:Inv X aa σ H s) (g:nW X.K H a y o) (ry:RelV y u) (h:∀ s',Inv X aa σ H s'->Q (.bool o.isSome) s') :
 wpAny (model X.prog X.w) A (compareOp .In u (.ref a)) Q E s:=by
 rcases g with ⟨kvs,k,e,ey,l⟩ | ⟨kvs,k,b,e,hk,ey,eb,l⟩
 ·subst ey
  obtain ⟨z,hd,vs,rel,dd⟩:=mK I.hok e
  refine wpAny_in_of (pO ry) hd dd.mapOf ?_
  rw [<- (rel.val k).jm,<- l]
  exact h _ (I.tok _)
 ·subst ey
  cases (show u=OS b from ry)
  obtain ⟨z,hd,xs,rel,dd⟩:=pR I e hk
  refine wpAny_in_heap (S6 hu) (kC I eb) hd dd ?_
  have q:=(rel.val k).jm
  rw [Q8] at q
  rw [<- q,<- l]
  exact h _ (I.tok _)
theorem uF (I:Inv X aa σ H s) (mu:JD (H a)) (hs:Qn a s.heap h') (he:∃ q,h'.get? a=some q) (new:bq X.prog X.w (upd H a ob) h' a ob) :
 Inv X aa σ (upd H a ob) { s with heap:=h',toks:=t' } :=
 I.write (x:=a) (e:=a) mu (.inl rfl) (λb q hb z=>(hs.2 b hb).trans z) he new
theorem GU (z:kvs.length<=sizeLine) (hd:(a == sysModules)=false) (rel:KV kvs vs) (dd:h'.DictOf (bV P w) a vs) :
 bq P w H' h' a (.dK kvs):=⟨z,hd,vs,rel,dd⟩
theorem mP (hu:A.units+1<cLine) (I:Inv X aa σ H s) (g:CN X.K H a y v H') (ry:RelV y u) (rv:RelV v r) (h:∀ s',Inv X aa σ H' s'->Q () s') :
 wpAny (model X.prog X.w) A (setItem (.ref a) u r) Q E s:=by
 rcases g with ⟨kvs,k,e,ey,l,eH⟩ | ⟨kvs,k,b,e,hk,ey,eb,l,eH⟩
 ·subst ey eH
  obtain ⟨z,hd,vs,rel,dd⟩:=J1 I.hok e
  have hz:vs.length<=sizeLine:=by rw [<- rel.length]; exact z
  have hl:(putK kvs k v).length<=sizeLine:=by have:=pN kvs k v; lia
  refine wpAny_setItem_pairs (hsz:=hz) (pO ry) dd λh' dd' hs=>h _ ?_
  have he:∃ q,h'.get? a=some q:=let ⟨q,_,_,hq,_⟩:=dd'; ⟨q,hq⟩
  exact uF I (by rw [e]; exact RV) hs he (GU hl hd (rel.put k rv) dd')
 ·subst ey eH
  cases (show u=OS b from ry)
  obtain ⟨z,hd,xs,rel,dd⟩:=pR I (.inl e) hk
  have hz:xs.length<=sizeLine:=by rw [<- PZ rel]; exact z
  have hl:(pP kvs k b v).length<=sizeLine:=by have:=pQ kvs k b v; lia
  refine wpAny_setItem_heap (hsz:=hz) (S6 hu) (kC I eb) dd λh' dd' hs=>h _ ?_
  obtain ⟨q,es,ep,hq,h2,h3,h4,_,h5⟩:=dd'
  exact uF I (by rw [e]; exact RV) hs ⟨q,hq⟩ ⟨hl,hd,_,rel.put k rv,q,es,ep,hq,h2,h3,h4,h5⟩
def CO (i:Expr):Prop:=∀ ov iv,subscripted i false ov iv=operate [ov,iv] (getItem ov iv)
theorem CP {T id:String}
 (hl:typeLookup (.type T) "__getitem__"=pure (some (.builtin id))) (hs:CO slice)
 (h:wpAny (model prog w) A (eval value env) (λo s₁=>wpAny (model prog w) A (eval slice env) (λi s₂=>s₂.TypeIs o T/\wpAny (model prog w) A (getItem o i) Q E s₂) E s₁) E s) :
 wpAny (model prog w) A (eval (.Subscript value slice pos) env) Q E s:=by
 refine Subscript_ (Pe h (λo s₁ h₁=>Pe h₁ (λi s₂ h₂=>?_) λ_ _ x=>x) λ_ _ x=>x)
 obtain ⟨hT,h₂⟩:=h₂
 unfold subscriptTail
 refine Ol ?_
 rw [getitemInPython_of_ne hT.not_modules]
 refine Ol (wpAny_specialOf hT hl ?_)
 have fin:wpAny (model prog w) A (subscripted slice false o i) (λr s₃=>wpAny (model prog w) A (letTemporaryGo value o r >>= λ_=>pure r) Q E s₃) E s₂:=by
  rw [hs o i]
  exact wpAny_operating (Pe h₂ (λr s₃ h₃=>Ol (wpAny_letTemporaryGo (Oq h₃))) λ_ _ x=>x)
 first
  | exact Oq (Ol fin)
  | exact Ol (Oq (Ol fin))
  | exact Ol fin
theorem pS (I:Inv X aa σ H s) (g:nW X.K H a y o):s.TypeIs (.ref a) "dict":=by
 rcases g with ⟨kvs,k,e,_,_⟩ | ⟨kvs,k,b,e,hk,_,_,_⟩
 ·obtain ⟨_,_,vs,_,dd⟩:=mK I.hok e
  exact dd.typeIs
 ·obtain ⟨_,_,xs,_,dd⟩:=pR I e hk
  exact dd.typeIs
noncomputable def J2 (X:Cx) (td ty:TE):TE:=λσ H Q=>td σ H λx H1=>ty σ H1 λy H2=>∃ a v,x=.ref a/\nW X.K H2 a y (some v)/\Q v H2
noncomputable def MQ (X:Cx) (ty td:TE):TE:=λσ H Q=>ty σ H λy H1=>td σ H1 λx H2=>∃ a o,x=.ref a/\nW X.K H2 a y o/\Q (.bl o.isSome) H2
noncomputable def J3 (X:Cx) (td ty tv:TE):TS:=λD σ H=>tv σ H λv H1=>td σ H1 λx H2=>ty σ H2 λy H3=>∃ a H4,x=.ref a/\CN X.K H3 a y v H4/\D.nx σ H4
noncomputable def J4 (X:Cx) (td ty tv:TE) (rd:V->V->Hp->VK->Prop):TS:=λD σ H=>td σ H λx H1=>ty σ H1 λy H2=>∃ a v,x=.ref a/\nW X.K H2 a y (some v) /\
 tv σ H2 λy2 H3=>rd v y2 H3 λz H4=>∃ H5,CN X.K H4 a y z H5/\D.nx σ H5
theorem uG (hu:X.A.units+1<cLine) (ho:PE X o td) (hi:PE X i ty) (hs:CO i):PE X (.Subscript o i pos) (J2 X td ty):=by
 intro aa s σ H Q I h
 refine CP PySem.F.slot_dict_getitem.lookup hs (bJ (ho aa s σ H _ I h) λu s1 ⟨x,H1,I1,rx,q1⟩=>bJ (hi aa s1 σ H1 _ I1 q1) λiv s2 ⟨y,H2,I2,ry,a,v,ex,g,q2⟩=>?_)
 subst ex
 obtain rfl:u=OS a:=rx
 exact ⟨pS I2 g,mO hu I2 g ry λw' s3 I3 rw'=>⟨v,H2,I3,rw',q2⟩⟩
theorem GV (hu:X.A.units+1<cLine) (hi:PE X i ty) (ho:PE X o td):PC X .In i o (MQ X ty td):=by
 intro aa s σ H Q I h
 refine bJ (hi aa s σ H _ I h) λiv s1 ⟨y,H1,I1,ry,q1⟩=>bJ (ho aa s1 σ H1 _ I1 q1) λu s2 ⟨x,H2,I2,rx,a,ov,ex,g,q2⟩=>?_
 subst ex
 obtain rfl:u=OS a:=rx
 exact MO hu I2 g ry λs3 I3=>⟨.bl ov.isSome,H2,I3,rfl,q2⟩
theorem CQ (hu:X.A.units+1<cLine) (ho:PE X o td) (hi:PE X i ty) (hv:PE X value tv) (hs:swapsWith value (some (.Subscript o i pos')) pos.line X.env=pure false) :
 PS X (.Assign [.Subscript o i pos'] value pos) (J3 X td ty tv):=by
 intro aa s σ H D I h
 refine wpAny_Assign_Subscript (bJ (hv aa s σ H _ I h) λr s1 ⟨v,H1,I1,rv,q1⟩=>bJ (ho aa s1 σ H1 _ I1 q1) λu s2 ⟨x,H2,I2,rx,q2⟩=>bJ (hi aa s2 σ H2 _ I2 q2) λiv s3 ⟨y,H3,I3,ry,a,H4,ex,g,q3⟩=>?_) hs
 subst ex
 obtain rfl:u=OS a:=rx
 exact mP hu I3 g ry rv λs4 I4=>⟨σ,H4,I4,q3⟩
theorem CS (hu:X.A.units+1<cLine) (ho:PE X o td) (hi:PE X i ty) (hv:PE X value tv) (hop:JX X op rd)
 (ha:∀ ov iv new,augStore i ov iv new=(do holding [new,ov,iv] (setItem ov iv new); release [new,ov,iv] []; pure .next)):PS X (.AugAssign (.Subscript o i tpos) op value pos) (J4 X td ty tv rd):=by
 intro aa s σ H D I h
 refine wpAny_AugAssign_SubscriptAny (bJ (ho aa s σ H _ I h) λu s1 ⟨x,H1,I1,rx,q1⟩=>bJ (hi aa s1 σ H1 _ I1 q1) λiv s2 ⟨y,H2,I2,ry,a,v,ex,g,q2⟩=>?_) ha
 subst ex
 obtain rfl:u=OS a:=rx
 refine mO hu I2 g ry λw' s3 I3 rw'=>bJ (hv aa s3 σ H2 _ I3 q2) λw2 s4 ⟨y2,H3,I4,ry2,q3⟩=>bJ (hop aa s4 σ H3 v y2 w' w2 _ I4 rw' ry2 q3) λw3 s5 ⟨z,H4,I5,rz,H5,g5,q4⟩=>?_
 exact mP hu I5 g5 ry rz λs6 I6=>⟨σ,H5,I6,q4⟩
theorem yT (h:Heap) (hb:sysModules<h.objs.size):bq P w H (h.push { cls:=.type "dict",data:=.dict #[] }) h.objs.size (.dK []) :=
 ⟨OV _,beq_eq_false_iff_ne.mpr (OT (OU hb)),[],.nil,Heap.DictOf.new h⟩
theorem yU (h:Heap) (hb:sysModules<h.objs.size):bq P w H (h.push { cls:=.type "dict",data:=.dict #[] }) h.objs.size (.dT []) :=
 ⟨OV _,beq_eq_false_iff_ne.mpr (OT (OU hb)),[],.nil,_,#[],0,OF _ rfl,⟨rfl,rfl,rfl⟩,rfl,rfl,List.nodup_nil⟩
noncomputable def GW:TE:=λ_ H Q=>∀ p,H p=none->Q (.ref p) (upd H p (.dK []))
noncomputable def GX:TE:=λ_ H Q=>∀ p,H p=none->Q (.ref p) (upd H p (.dT []))
theorem yV:PE X (.Dict [] [] pos) GW:=λaa s σ H Q I h =>
 wpAny_Dict_empty ⟨.ref s.heap.objs.size,_,I.laid (a:=s.heap.objs.size) (o:=.dK []) (t':=s.toks) (λ_ _ q=>Ow _ q) (Ot _) (yT s.heap I.big),rfl,h _ (I.hok.fresh (Ot _))⟩
theorem yW:PE X (.Dict [] [] pos) GX:=λaa s σ H Q I h =>
 wpAny_Dict_empty ⟨.ref s.heap.objs.size,_,I.laid (a:=s.heap.objs.size) (o:=.dT []) (t':=s.toks) (λ_ _ q=>Ow _ q) (Ot _) (yU s.heap I.big),rfl,h _ (I.hok.fresh (Ot _))⟩
structure M1 (X:Cx) (o:Expr) (m:Str) (apos:Pos) (e:Expr) (cpos:Pos):Prop where
 base:attributeBase o m X.env (eval o X.env)=eval o X.env
 few:((backTo cpos (starEach [e] X.env)).all (λx=> !x.1) && (backToKw cpos (keywordEach [] X.env)).all (λx=>x.1.isSome)
  && decide (([e]:List Expr).length+([]:List Keyword).length+(if ([]:List Keyword).isEmpty then 0 else 1)<30))=true
 line:(apos.endLine == cpos.line)=true
 trees:backTo cpos (starEach [e] X.env)=[(false,eval e X.env)]
structure M2 (X:Cx) (o:Expr) (m:Str) (apos:Pos) (e f:Expr) (cpos:Pos):Prop where
 base:attributeBase o m X.env (eval o X.env)=eval o X.env
 few:((backTo cpos (starEach [e,f] X.env)).all (λx=> !x.1) && (backToKw cpos (keywordEach [] X.env)).all (λx=>x.1.isSome)
  && decide (([e,f]:List Expr).length+([]:List Keyword).length+(if ([]:List Keyword).isEmpty then 0 else 1)<30))=true
 line:(apos.endLine == cpos.line)=true
 trees:backTo cpos (starEach [e,f] X.env)=[(false,eval e X.env),(false,eval f X.env)]
def MR (H:Hp) (a:Addr):Prop:=(∃ kvs,Rd H a (.dK kvs))\/∃ kvs,Rd H a (.dT kvs)
theorem GY (I:Inv X aa σ H s) (d:MR H a) :
 s.TypeIs (.ref a) "dict"/\(∀ b,OS a=.ref b->∃ ob,s.heap.get? b=some ob/\ob.dict=none)/\(a == sysModules)=false:=by
 rcases d with ⟨kvs,e⟩ | ⟨kvs,e⟩
 ·obtain ⟨_,hd,vs,_,dd⟩:=mK I.hok e
  refine ⟨dd.typeIs,λb q=>?_,hd⟩
  cases q
  obtain ⟨ob,_,_,h1,h2,_⟩:=dd
  exact ⟨ob,h1,h2.2.1⟩
 ·obtain ⟨_,hd,xs,_,ob,es,ep,h1,h2,_⟩:=(show bq X.prog X.w H s.heap a (.dT kvs) from yS I.hok e)
  refine ⟨⟨ob,h1,h2.1⟩,λb q=>?_,hd⟩
  cases q
  exact ⟨ob,h1,h2.2.1⟩
theorem GZ (hu:A.units+1<cLine) (I:Inv X aa σ H s) (g:nW X.K H a y o) (ry:RelV y u) (rd:RelV d r) (h:∀ w' s',Inv X aa σ H s'->RelV (o.getD d) w'->Q w' s') :
 wpAny (model X.prog X.w) A (call (.builtin "dict.get") [.ref a,u,r]) Q E s:=by
 rcases g with ⟨kvs,k,e,ey,l⟩ | ⟨kvs,k,b,e,hk,ey,eb,l⟩
 ·subst ey
  obtain ⟨z,hd,vs,rel,dd⟩:=mK I.hok e
  refine call_meetsIn Uu dd.typeIs PySem.F.entry_dict_get (PySem.F.args_dict_get_3 _ _ _) (meets_dict_get_default (bV X.prog X.w) a (pO ry) hd r) ⟨_,dd.mapOf,h _ _ (I.tok _) ?_⟩
  rw [l]
  exact (rel.val k).getD rd
 ·subst ey
  cases (show u=OS b from ry)
  obtain ⟨z,hd,xs,rel,dd⟩:=pR I e hk
  refine call_meetsIn Uu dd.typeIs PySem.F.entry_dict_get (PySem.F.args_dict_get_3 _ _ _) (meetsH_dict_get_default (tupleKind (bV X.prog X.w)) a b hd r) ⟨S6 hu,k,xs,kC I eb,dd,h _ _ (I.tok _) ?_⟩
  rw [l]
  exact (rel.val k).getD rd
noncomputable def G0 (X:Cx) (td ty tx:TE):TE:=λσ H Q=>td σ H λx H1=>∃ a,x=.ref a/\MR H1 a/\ty σ H1 λy H2=>tx σ H2 λz H3=>∃ o,nW X.K H3 a y o/\Q (o.getD z) H3
theorem yX (hu:X.A.units+1<cLine) (ho:PE X o td) (he:PE X e ty) (hf:PE X f tx) (m:M2 X o "get" apos e f cpos):PE X (.Call (.Attribute o "get" apos) [e,f] [] cpos) (G0 X td ty tx):=by
 intro aa s σ H Q I h
 refine wpAny_Call_method m.base m.few m.line PySem.F.plainAttrs_dict Uu PySem.F.type_dict_get (bJ (ho aa s σ H _ I h) λu s1 ⟨x,H1,I1,rx,a,ex,d,q1⟩=>?_)
 subst ex
 obtain rfl:u=OS a:=rx
 obtain ⟨t1,t2,_⟩:=GY I1 d
 refine ⟨t1,t2,?_⟩
 rw [m.trees]
 refine Us rfl (Calls.evalArgs_plain (UK (bJ (he aa s1 σ H1 _ I1 q1) λiv s2 ⟨y,H2,I2,ry,q2⟩ =>
  UK (bJ (hf aa s2 σ H2 _ I2 q2) λfv s3 ⟨z,H3,I3,rz,ov,g,q3⟩=>Calls.spliced_nil ?_))))
 exact GZ hu I3 g ry rz λw' s4 I4 rw'=>⟨_,H3,I4,rw',q3⟩
end L2
namespace Att
open PySem PySem.W PySem.Calls PyProof.Rows
theorem jP:∀ (ns:List Int) (vs:List Value),WellAll P h vs (ns.map WData.int)->IntsAre vs ns:=by
 intro ns
 induction ns with
 | nil =>
  intro vs w
  rw [Rh] at w
  cases w
  exact .nil
 | cons n ns ih =>
  intro vs w
  rw [OA] at w
  cases w with
  | cons a b =>
   cases a
   exact .cons _ _ (ih _ b)
theorem wJ {l:OpenLaw} (hn:l.most=some n)
 (hpre:l.row.toRowW.claim.pre args=true) (hwl:WellAll P h vals args) :
 ∃ a vs ns,vals=[OS a]/\args=[WData.list (ns.map WData.int)]/\h.get? a=some { cls:=.type "list",data:=.seq vs.toArray }/\IntsAre vs ns/\ns.length<=n:=by
 have hsh:WShape.hasAll [] args [.list .int]=true:=(pre_splitW hpre).1
 have hc:l.pre.holds [] { args:=args }=true:=(pre_splitW hpre).2
 obtain ⟨d,r,rfl,h1,h2⟩:=hasAllW_cons hsh
 obtain rfl:=hasAllW_nil h2
 obtain ⟨xs,rfl,h3⟩:=hasW_list h1
 obtain ⟨ns,rfl⟩:=items_int h3
 have hlen:ns.length<=n:=by
  unfold OpenLaw.pre at hc
  have h4:(WTm.not (.lt (.lit (.int (n:Int))) (.len (.arg 0)))).holds [] { args:=[.list (ns.map .int)] }=true:=by
   have h4:=(holds_andW hc).1
   rw [hn] at h4
   exact h4
  have h5:=condW_of h4 (w_not (w_lt w_lit (w_len_list (w_arg rfl))))
  rw [Ox] at h5
  refine Nat.le_of_not_lt λq=>?_
  have q':(n:Int)<((ns.length:Nat):Int):=by lia
  first
   | (rw [decide_eq_true q'] at h5; exact absurd h5 (by decide))
   | (simp at h5; lia)
 cases hwl with
 | cons w1 w2 =>
  cases w2
  cases w1 with
  | list ho hall=>exact ⟨_,_,ns,rfl,rfl,ho,jP ns _ hall,hlen⟩
theorem wK (l:OpenLaw) (args):l.row.toRowW.claim.post args (.bool true) args=true :=
 postW_of (r:=l.row.toRowW) (X:=(true == true))
  (show WShape.has [] (.bool true) .bool=true by first | rfl | decide | simp [WShape.has,WShape.arms,WShape.armsAll])
  (show (WTm.eq .res (.lit (.bool true))).value [] { args:=args,res:=some (.bool true),after:=args }=some (.bool (true == true)) from w_eq_bool (w_res rfl) w_lit) rfl
theorem pU {l:OpenLaw}
 (hn:l.most=some n) (hdf:d.params.defaults=[])
 (call:∀ (w:World) (s₀ s₁:Shared) (mg mb:Str->Option Value) (fa:Addr) (o:Obj) (pm cd doc:Value) (a:Addr) (vs:List Value) (ns:List Int),
   Ground q loose [] XP w s₀ mg mb s₁.heap->YP w s₁.heap ->
   s₁.heap.get? fa=some o->o.data=.func (docDef d.name d.params d.body d.scope pm cd doc)->s₁.heap.CodeRec cd d.name->mg d.name=some (.ref fa) ->
   s₁.heap.get? a=some { cls:=.type "list",data:=.seq vs.toArray }->IntsAre vs ns->ns.length<=n->s₁.gens= #[] ->
   codeAny (model l.prog w) callerA (.call (.ref fa) ⟨[.ref a],[]⟩) (λr s'=>r=.ok (.ret (.bool true))/\OldK s₁.heap s'.heap/\s'.os=s₁.os/\AllBare s'.gens) s₁) :
 WalkO q loose XP YP l.row.toRowW d [] (λf vs=>PySem.call f vs):=by
 intro w s₀ s₁ mg mb G Y fa o pm cd doc dV kV ho hd hcd hD hmg hg args vals as hpre hlay hrd hwl hlo
 obtain rfl:dV=.none:=Dflts.none hD hdf
 obtain rfl:kV=.none:=Dflts.noKw hD
 obtain ⟨a,vs,ns,rfl,rfl,hobj,hints,hlen⟩:=wJ hn hpre hwl
 refine enter_call (Sk (call w s₀ s₁ mg mb fa o pm cd doc a vs ns G Y ho (fd_plain hd) hcd hmg hobj hints hlen hg) λr s' hq=>?_)
 obtain ⟨rfl,h2,h3,h4⟩:=hq
 exact ⟨.inl ⟨.bool true,.bool true,[],rfl,λ_=>rfl,.bool true,wK l _,λ_=>⟨R6,λ_ hm=>(nomatch hm)⟩⟩,h2,h3,h4⟩
end Att
namespace L2
open PySem PySem.Spec PyProof.Rows
theorem mQ:∀ {vs:List Value} {ns:List Int},IntsAre vs ns->Vals (ns.map V.int) vs
 | _,_,.nil=>.nil
 | _,_,.cons n t h=>.cons ⟨t,rfl⟩ (mQ h)
def G1 (H:Hp):Prop:=∀ b,H b=none\/∃ o xs,H b=some (.frz o (.lst xs))
theorem yY {K:Oo}
 (KX:K.In s₁.heap) (hns:s₁.heap.Ns mainGlobals mg) (hb:s₁.heap.Ns builtinsNs mb) (hbb:∀ x:Str,x≠"__name__"->mb x=bootBuiltins x) (hlim:s₁.heap.NoLimit) (hg:s₁.gens= #[])
 (ha:s₁.heap.get? a=some { cls:=.type "list",data:=.seq vs.toArray }) (hi:IntsAre vs ns) (hl:ns.length<=sizeLine) (hr:gR k callerA)
 (F:∀ base:Heap,K.In base->base.Ns mainGlobals mg->br P w K mg base CX k fa fd [x] sp) (hbind:∀ (s:Shared) (u:Value),BindsTo s fd ⟨[u],[]⟩ [(x,u)])
 (uh:∀ H:Hp,G1 H->gC K H a (ns.map V.int)->sp [.ref a] H (λv _=>v=.bl true) λ_ _ _=>False)
 (hCX:∀ H e s',CX [] H s₁ (λ_ _ _=>False) e s'->False) :
 codeAny (model P w) callerA (.call (.ref fa) ⟨[.ref a],[]⟩) (λr s'=>r=.ok (.ret (.bool true))/\OldK s₁.heap s'.heap/\s'.os=s₁.os/\AllBare s'.gens) s₁:=by
 have rv:=mQ hi
 have lenV:=hi.length
 have core:∀ H:Hp,G1 H->gC K H a (ns.map V.int)->jh P w H s₁.heap->(∀ b,H b≠none->b=a)->(H a≠none->K.lookup a=none) ->
  codeAny (model P w) callerA (.call (.ref fa) ⟨[.ref a],[]⟩) (λr s'=>r=.ok (.ret (.bool true))/\OldK s₁.heap s'.heap/\s'.os=s₁.os/\AllBare s'.gens) s₁:=by
  intro H hO hS hok hA hK
  have base_of:∀ {b:Addr} {o:Obj},s₁.heap.get? b=some o->H b=none->(nM s₁.heap H).get? b=some o:=λe n=>yw e n
  have noA:∀ {b:Addr} {o:Obj} {es:Array DictEntry} {ep:Nat},s₁.heap.get? b=some o->o.data=.dict es ep->H b=none:=λ{b o es ep} e d=>by
   cases q:H b with
   | none=>rfl
   | some u =>
    have e':b=a:=hA b (by rw [q]; simp)
    subst e'
    rw [ha] at e; cases e
    have d':Data.seq vs.toArray _=Data.dict es ep:=d
    cases d'
  have nsK:∀ {b:Addr} {m:Str->Option Value},s₁.heap.Ns b m->(nM s₁.heap H).Ns b m:=λ{b m} ⟨o,es,ep,e,d,r⟩=>⟨o,es,ep,base_of e (noA e d),d,r⟩
  have hKb:K.In (nM s₁.heap H):=λb o e=>base_of (KX b o e) (by
   cases q:H b with
   | none=>rfl
   | some u =>
    have e':b=a:=hA b (by rw [q]; simp)
    subst e'
    rw [hK (by rw [q]; simp)] at e; cases e)
  have hM:Mod K mg (nM s₁.heap H):=⟨hKb,nsK hns,⟨mb,nsK hb,hbb⟩,let ⟨mc,h1,h2⟩:=hlim; ⟨mc,nsK h1,h2⟩⟩
  have e0:CC P w K mg (nM s₁.heap H) callerA [] s₁ H:=⟨rfl,hM,λb o e=>Ct e,Nat.le_of_eq (wB _ _),trivial,λb hb=>absurd (show b∈([]:List Addr) from hb) (by simp),hok,.of_eq hg⟩
  refine Sk ((F _ hKb (nsK hns)).run callerA [] s₁ H ⟨[.ref a],[]⟩ [.ref a] [.ref a] _ _ hr e0 (hbind s₁ (.ref a)) (.cons rfl .nil) (uh H hO hS)) λr s' h=>?_
  cases r with
  | error e=>exact (hCX H e s' h).elim
  | ok fl =>
   cases fl with
   | next=>exact PM h
   | brk=>exact PM h
   | cont=>exact PM h
   | ret u =>
    obtain ⟨v,H',os,bare,un,hok',r',q⟩:=h
    have q':v=.bl true:=q
    subst q'
    obtain rfl:u=Value.bool true:=r'
    refine ⟨rfl,OldK.of_keep λb o e=>?_,os,bare⟩
    cases q:H b with
    | none=>exact un.keep b o e q (by intro z; exact absurd (show b∈([]:List Addr) from z) (by simp)) (by simp)
    | some u =>
     rcases hO b with z | ⟨ob,xs,z⟩
     ·rw [q] at z; cases z
     ·have z2:=un.frzs b ob _ z
      obtain ⟨e1,_⟩:=hok b _ z
      obtain ⟨e2,_⟩:=hok' b _ z2
      rw [e] at e1; cases e1
      exact e2
 cases hk:K.lookup a with
 | some o =>
  have e:=KX a o hk
  rw [ha] at e
  cases e
  refine core (λ_=>none) (λ_=>.inl rfl) (.inr ⟨_,vs.toArray,_,hk,rfl,rfl,rfl,by rw [OP,lenV]; exact hl,by simpa using rv⟩) (λb u z=>by have z':(none:Option HO)=some u:=z; cases z') (λb z=>absurd rfl z) λz=>absurd rfl z
 | none =>
  refine core (λb=>if b=a then some (.frz { cls:=.type "list",data:=.seq vs.toArray } (.lst (ns.map V.int))) else none) (λb=>?_) (.inl (.inr ⟨{ cls:=.type "list",data:=.seq vs.toArray },if_pos rfl⟩)) (λb u z=>?_) (λb z=>?_) λ_=>hk
  ·by_cases hb:b=a
   ·exact .inr ⟨_,_,if_pos hb⟩
   ·exact .inl (if_neg hb)
  ·by_cases hb:b=a
   ·have z':=(if_pos hb).symm.trans z
    cases z'
    subst hb
    exact ⟨ha,by rw [Ox]; exact hl,vs,_,rv,ha⟩
   ·have z':=(if_neg hb).symm.trans z
    cases z'
  ·by_cases hb:b=a
   ·exact hb
   ·exact absurd (if_neg hb) z
noncomputable abbrev fk {K:Oo} {h:Heap} (_:K.In h):Oo:=K
theorem CT {l:PySem.W.OpenLaw} {K:Params->Oo} {CX:World->GL} {sp:World->Sp}
 (hn:l.most=some n) (hn2:n<=sizeLine) (hdf:d.params.defaults=[]) (hr:gR k callerA)
 (hY:∀ (w:World) (h:Heap),YP w h->(K w.params).In h)
 (F:∀ (w:World) (mg:Str->Option Value) (fa:Addr) (h:Heap),(K w.params).In h->h.Ns mainGlobals mg->mg d.name=some (.ref fa) ->
   ∃ fd:FuncData,(∀ (s:Shared) (u:Value),BindsTo s fd ⟨[u],[]⟩ [(x,u)]) /\
    ∀ base:Heap,(K w.params).In base->base.Ns mainGlobals mg->br l.prog w (K w.params) mg base (CX w) k fa fd [x] (sp w))
 (uh:∀ (w:World) (H:Hp) (a:Addr) (ns:List Int),ns.length<=n->G1 H->gC (K w.params) H a (ns.map V.int)->sp w [.ref a] H (λv _=>v=.bl true) λ_ _ _=>False)
 (hCX:∀ (w:World) (H:Hp) (s:Shared) (e:Value) (s':Shared),CX w [] H s (λ_ _ _=>False) e s'->False) :
 PySem.W.WalkO q loose XP YP l.row.toRowW d [] (λf vs=>PySem.call f vs):=by
 refine Att.pU hn hdf λw s₀ s₁ mg mb fa o pm cd doc a vs ns G Y ho hd hcd hmg hobj hints hlen hg=>?_
 have KX:=hY w _ Y
 obtain ⟨fd,hb,hF⟩:=F w mg fa _ KX G.T.g hmg
 exact yY KX G.T.g G.T.b G.T.builtins G.T.nolimit hg hobj hints (OD hlen hn2) hr hF hb (λH hO hS=>uh w H a ns hlen hO hS) λH e s'=>hCX w H s₁ e s'
end L2
namespace L2
open PySem PySem.Spec PyProof.Rows
noncomputable def fK (s:Stmt):Arguments:=match s with
 | .FunctionDef _ a _ _ _ _ _ _ _ _=>a
 | _=>{ posonlyargs:=[],args:=[],vararg:=none,kwonlyargs:=[],kw_defaults:=[],kwarg:=none,defaults:=[] }
noncomputable def av (s:Stmt):List Stmt:=match s with
 | .FunctionDef _ _ b _ _ _ _ _ _ _=>b
 | _=>[]
noncomputable def aR (s:Stmt):Scope:=match s with
 | .FunctionDef _ _ _ _ _ _ sc _ _ _=>sc
 | _=>{ kind:=.function,names:=[],isGenerator:=false,isCoroutine:=false }
structure eG (K:Oo) (x qual:Str) (st:Stmt) (f:Addr) (fd:FuncData):Prop where
 ex:∃ (oc:Value) (od:Option Addr) (kV doc pm:Value) (an:Option Addr) (cdv ct:Value) (osl:Array (Option Value)),
  fd=QC x qual (fK st) (av st) (aR st) .none kV doc pm an cdv ct/\K.lookup f=some ⟨oc,od,.func fd,osl⟩/\TJ K cdv qual=true
 kp:Qu K (.ref f)=true
section
variable {K:Oo}
theorem eG.binds {st:Stmt} (F:eG K x qual st f fd)
 (h:∀ (kV doc pm:Value) (an:Option Addr) (cdv ct:Value) (us:List Value),us.length=ps.length->bindArgs (QC x qual (fK st) (av st) (aR st) .none kV doc pm an cdv ct) ⟨us,[]⟩=pure (ps.zip us)):Binds K fd ps []:=by
 obtain ⟨oc,od,kV,doc,pm,an,cdv,ct,osl,rfl,lk,hcd⟩:=F.ex
 exact .all (h kV doc pm an cdv ct)
theorem G2 {st:Stmt} {kV doc pm cdv ct:Value} (l:K.lookup f=some ⟨oc,od,.func (QC x qual (fK st) (av st) (aR st) .none kV doc pm an cdv ct),osl⟩)
 (c:TJ K cdv qual=true) (k:Qu K (.ref f)=true):eG K x qual st f (QC x qual (fK st) (av st) (aR st) .none kV doc pm an cdv ct):=⟨⟨oc,od,kV,doc,pm,an,cdv,ct,osl,rfl,l,c⟩,k⟩
end
theorem J5 (hr:gR k A):A.units+1<cLine:=Qx (Nat.add_le_add_left (by decide:1<=64) _) hr.units
theorem wL (h:n<=1000):n<sizeLine:=Qx h (by decide)
def aN (H H':Hp):Prop:=∀ b o,H b=some o->H' b=some o
theorem aN.refl (H):aN H H:=λ_ _ h=>h
theorem aN.trans (a:aN H H1) (b:aN H1 H2):aN H H2:=λc o h=>b c o (a c o h)
theorem aN.free (e:aN H H') (h:H' l=Option.none):H l=Option.none:=by
 cases q:H l with
 | none=>rfl
 | some o =>
  rw [e l o q] at h
  cases h
theorem aN.seq {K:Oo} (e:aN H H') (h:gC K H a xs):gC K H' a xs:=by
 rcases h with (h | ⟨o,h⟩) | h
 ·exact .inl (.inl (e _ _ h))
 ·exact .inl (.inr ⟨o,e _ _ h⟩)
 ·exact .inr h
section
variable {κ:Type} [DecidableEq κ]
end
end L2
namespace EV
open PySem PySem.Spec PyProof.Rows L2
inductive D where
 | non | bl (b:Bool) | int (i:Int) | str (x:Str) | tup (ds:List D) | lst (ds:List D) | exc (C:Addr)
 | fdK (ks:List Key) (ds:List D) | fdT (ks:List (List Key)) (ds:List D) | adr (a:Addr)
noncomputable def MS (a C:Addr):Heap->Prop:=λh=>∃ o,h.get? a=some o/\o.cls=.ref C/\∃ vs,o.data=.fields vs
mutual
def Rep (K:Oo) (H:Hp):D->V->Prop
 | .non,v=>v=.non
 | .bl b,v=>v=.bl b
 | .int i,v=>v=.int i
 | .str x,v=>v=.str x
 | .tup ds,v=>∃ a xs,v=.ref a/\dh K H a xs/\au K H ds xs
 | .lst ds,v=>∃ a xs,v=.ref a/\gC K H a xs/\au K H ds xs
 | .exc C,v=>∃ a,v=.ref a/\H a=some (.ext (MS a C))
 | .fdK ks ds,v=>∃ a ys o,v=.ref a/\H a=some (.frz o (.dK ys))/\ys.map (·.1)=ks/\au K H ds (ys.map (·.2))
 | .fdT ks ds,v=>∃ a ys o,v=.ref a/\H a=some (.frz o (.dT ys))/\ys.map (·.1)=ks/\(∀ y∈ys,dh K H y.2.1 (y.1.map kV))/\au K H ds (ys.map (·.2.2))
 | .adr a,v=>v=.ref a
def au (K:Oo) (H:Hp):List D->List V->Prop
 | [],xs=>xs=[]
 | d::ds,xs=>∃ x r,xs=x::r/\Rep K H d x/\au K H ds r
end
theorem az {K:Oo} (e:aN H H') (h:dh K H a xs):dh K H' a xs:=by
 rcases h with (h | ⟨o,h⟩) | h
 ·exact .inl (.inl (e _ _ h))
 ·exact .inl (.inr ⟨o,e _ _ h⟩)
 ·exact .inr h
mutual
theorem Rep.mono {K:Oo} {H H':Hp} (e:aN H H'):∀ (d:D) {v:V},Rep K H d v->Rep K H' d v
 | .non,_,h=>by simpa [Rep] using h
 | .bl b,_,h=>by simpa [Rep] using h
 | .int i,_,h=>by simpa [Rep] using h
 | .str x,_,h=>by simpa [Rep] using h
 | .tup ds,_,h=>by
  simp only [Rep] at h |-
  obtain ⟨a,xs,e1,h1,h2⟩:=h
  exact ⟨a,xs,e1,az e h1,au.mono e ds h2⟩
 | .lst ds,_,h=>by
  simp only [Rep] at h |-
  obtain ⟨a,xs,e1,h1,h2⟩:=h
  exact ⟨a,xs,e1,e.seq h1,au.mono e ds h2⟩
 | .exc C,_,h=>by
  simp only [Rep] at h |-
  obtain ⟨a,e1,h1⟩:=h
  exact ⟨a,e1,e _ _ h1⟩
 | .fdK ks ds,_,h=>by
  simp only [Rep] at h |-
  obtain ⟨a,ys,o,e1,h1,h2,h3⟩:=h
  exact ⟨a,ys,o,e1,e _ _ h1,h2,au.mono e ds h3⟩
 | .fdT ks ds,_,h=>by
  simp only [Rep] at h |-
  obtain ⟨a,ys,o,e1,h1,h2,h3,h4⟩:=h
  exact ⟨a,ys,o,e1,e _ _ h1,h2,λy hy=>az e (h3 y hy),au.mono e ds h4⟩
 | .adr a,_,h=>by simpa [Rep] using h
theorem au.mono {K:Oo} {H H':Hp} (e:aN H H'):∀ (ds:List D) {xs:List V},au K H ds xs->au K H' ds xs
 | [],_,h=>by simpa [au] using h
 | d::ds,_,h=>by
  simp only [au] at h |-
  obtain ⟨x,r,e1,h1,h2⟩:=h
  exact ⟨x,r,e1,Rep.mono e d h1,au.mono e ds h2⟩
end
section
variable {K:Oo}
theorem aB:Rep K H (.int i) v↔v=.int i:=by simp only [Rep]
theorem f6:Rep K H (.bl i) v↔v=.bl i:=by simp only [Rep]
theorem bX:Rep K H .non v↔v=.non:=by simp only [Rep]
theorem gE:Rep K H (.str i) v↔v=.str i:=by simp only [Rep]
theorem aI:Rep K H (.tup ds) v↔∃ a xs,v=.ref a/\dh K H a xs/\au K H ds xs:=by simp only [Rep]
theorem bu:Rep K H (.lst ds) v↔∃ a xs,v=.ref a/\gC K H a xs/\au K H ds xs:=by simp only [Rep]
theorem iJ:Rep K H (.fdK ks ds) v↔∃ a ys o,v=.ref a/\H a=some (.frz o (.dK ys))/\ys.map (·.1)=ks/\au K H ds (ys.map (·.2)):=by simp only [Rep]
theorem iK:Rep K H (.fdT ks ds) v↔∃ a ys o,v=.ref a/\H a=some (.frz o (.dT ys))/\ys.map (·.1)=ks/\(∀ y∈ys,dh K H y.2.1 (y.1.map kV))/\au K H ds (ys.map (·.2.2)):=by simp only [Rep]
theorem pV:Rep K H (.adr a) v↔v=.ref a:=by simp only [Rep]
theorem aC:au K H [] xs↔xs=[]:=by simp only [au]
theorem aE:au K H (d::ds) xs↔∃ x r,xs=x::r/\Rep K H d x/\au K H ds r:=by simp only [au]
theorem au.length:∀ {ds:List D} {xs:List V},au K H ds xs->ds.length=xs.length
 | [],_,h=>by rw [aC] at h; subst h; rfl
 | d::ds,_,h=>by
  rw [aE] at h
  obtain ⟨x,r,rfl,_,h2⟩:=h
  simp [au.length h2]
theorem au.get:∀ {ds:List D} {xs:List V} {i:Nat} {d:D},au K H ds xs->ds[i]?=some d->∃ x,xs[i]?=some x/\Rep K H d x
 | [],_,_,_,_,e=>by simp at e
 | d::ds,_,i,d',h,e=>by
  rw [aE] at h
  obtain ⟨x,r,rfl,h1,h2⟩:=h
  cases i with
  | zero=>simp at e; subst e; exact ⟨x,by simp,h1⟩
  | succ i =>
   obtain ⟨y,e2,h3⟩:=au.get (i:=i) (d:=d') h2 (by simpa using e)
   exact ⟨y,by simpa using e2,h3⟩
theorem au.get':∀ {ds:List D} {xs:List V} {i:Nat} {x:V},au K H ds xs->xs[i]?=some x->∃ d,ds[i]?=some d/\Rep K H d x:=λ{ds xs i x} h e=>by
 have hl:=h.length
 have hi:i<xs.length:=(OH.mp e).1
 obtain ⟨y,e2,h2⟩:=h.get (i:=i) (d:=ds[i]'(by lia)) (by simp)
 rw [e] at e2; cases e2
 exact ⟨_,by simp,h2⟩
theorem au.append:∀ {ds es:List D} {xs ys:List V},au K H ds xs->au K H es ys->au K H (ds++es) (xs++ys)
 | [],_,_,_,h,g=>by rw [aC] at h; subst h; exact g
 | d::ds,_,_,_,h,g=>by
  rw [aE] at h
  obtain ⟨x,r,rfl,h1,h2⟩:=h
  exact aE.mpr ⟨x,r++_,rfl,h1,au.append h2 g⟩
theorem au.drop:∀ (n:Nat) {ds:List D} {xs:List V},au K H ds xs->au K H (ds.drop n) (xs.drop n)
 | 0,_,_,h=>h
 | n+1,[],_,h=>by rw [aC] at h; subst h; exact aC.mpr rfl
 | n+1,d::ds,_,h=>by
  rw [aE] at h
  obtain ⟨x,r,rfl,h1,h2⟩:=h
  exact au.drop n h2
theorem au.take:∀ (n:Nat) {ds:List D} {xs:List V},au K H ds xs->au K H (ds.take n) (xs.take n)
 | 0,_,_,h=>aC.mpr rfl
 | n+1,[],_,h=>by rw [aC] at h; subst h; exact aC.mpr rfl
 | n+1,d::ds,_,h=>by
  rw [aE] at h
  obtain ⟨x,r,rfl,h1,h2⟩:=h
  exact aE.mpr ⟨x,r.take n,rfl,h1,au.take n h2⟩
theorem au.one (h:Rep K H d v):au K H [d] [v]:=aE.mpr ⟨v,[],rfl,h,aC.mpr rfl⟩
theorem au.cons (h:Rep K H d v) (t:au K H ds xs):au K H (d::ds) (v::xs):=aE.mpr ⟨v,xs,rfl,h,t⟩
theorem jn:∀ (ns:List Int),au K H (ns.map D.int) (ns.map V.int)
 | []=>aC.mpr rfl
 | n::ns=>.cons (aB.mpr rfl) (jn ns)
end
inductive Sh where
 | v (d:D) | l (ds:List D) | la (a:Addr) (ds:List D) | t (ss:List Sh) | ls (ss:List Sh)
noncomputable def pl (p:Addr) (xs:List V):HO:=.ext λh=>xs.length<=sizeLine/\∃ (its:List Value) (n:Nat),Vals xs its/\h.get? p=some { cls:=.type "list",data:=.seq its.toArray n }
mutual
def dJ (K:Oo) (H Hf:Hp):Sh->V->List (Addr×List V)->Prop
 | .v d,v,fp=>Rep K Hf d v/\fp=[]
 | .l ds,v,fp=>∃ p xs,v=.ref p/\H p=some (pl p xs)/\Hf p=none/\au K Hf ds xs/\fp=[(p,xs)]
 | .la p ds,v,fp=>∃ xs,v=.ref p/\H p=some (pl p xs)/\Hf p=none/\au K Hf ds xs/\fp=[(p,xs)]
 | .t ss,v,fp=>∃ a xs,v=.ref a/\dh K Hf a xs/\aZ K H Hf ss xs fp
 | .ls ss,v,fp=>∃ p xs fq,v=.ref p/\H p=some (pl p xs)/\Hf p=none/\aZ K H Hf ss xs fq/\fp=(p,xs)::fq
def aZ (K:Oo) (H Hf:Hp):List Sh->List V->List (Addr×List V)->Prop
 | [],xs,fp=>xs=[]/\fp=[]
 | s::ss,xs,fp=>∃ x r f1 f2,xs=x::r/\dJ K H Hf s x f1/\aZ K H Hf ss r f2/\fp=f1++f2
end
def yZ (H:Hp) (q:Addr):Prop:=∃ xs,H q=some (pl q xs)
mutual
theorem dJ.mv {K:Oo} {H Hf H' ak:Hp} (sf:aN Hf ak):∀ (s:Sh) {v:V} {fp:List (Addr×List V)},(∀ q∈fp,H q.1=some (pl q.1 q.2)->Hf q.1=none->H' q.1=some (pl q.1 q.2)/\ak q.1=none)->dJ K H Hf s v fp->dJ K H' ak s v fp
 | .v d,_,_,_,h=>by simp only [dJ] at h |-; exact ⟨h.1.mono sf d,h.2⟩
 | .l ds,_,_,hk,h=>by
  simp only [dJ] at h |-
  obtain ⟨p,xs,e,h1,h2,h3,rfl⟩:=h
  obtain ⟨q1,q2⟩:=hk _ OI h1 h2
  exact ⟨p,xs,e,q1,q2,h3.mono sf ds,rfl⟩
 | .la p ds,_,_,hk,h=>by
  simp only [dJ] at h |-
  obtain ⟨xs,e,h1,h2,h3,rfl⟩:=h
  obtain ⟨q1,q2⟩:=hk _ OI h1 h2
  exact ⟨xs,e,q1,q2,h3.mono sf ds,rfl⟩
 | .t ss,_,_,hk,h=>by
  simp only [dJ] at h |-
  obtain ⟨a,xs,e,h1,h2⟩:=h
  exact ⟨a,xs,e,az sf h1,aZ.mv sf ss hk h2⟩
 | .ls ss,_,_,hk,h=>by
  simp only [dJ] at h |-
  obtain ⟨p,xs,fq,e,h1,h2,h3,rfl⟩:=h
  obtain ⟨q1,q2⟩:=hk _ OI h1 h2
  exact ⟨p,xs,fq,e,q1,q2,aZ.mv sf ss (λq hq=>hk q (OJ _ hq)) h3,rfl⟩
theorem aZ.mv {K:Oo} {H Hf H' ak:Hp} (sf:aN Hf ak):∀ (ss:List Sh) {xs:List V} {fp:List (Addr×List V)},(∀ q∈fp,H q.1=some (pl q.1 q.2)->Hf q.1=none->H' q.1=some (pl q.1 q.2)/\ak q.1=none)->aZ K H Hf ss xs fp->aZ K H' ak ss xs fp
 | [],_,_,_,h=>by simpa only [aZ] using h
 | s::ss,_,_,hk,h=>by
  simp only [aZ] at h |-
  obtain ⟨x,r,f1,f2,e,h1,h2,rfl⟩:=h
  exact ⟨x,r,f1,f2,e,dJ.mv sf s (λq hq=>hk q (SX _ hq)) h1,aZ.mv sf ss (λq hq=>hk q (Ql _ hq)) h2,rfl⟩
end
inductive Sl where
 | un
 | va (d:D)
 | ow (ds:List D)
 | oT (kvs:List (List Key×D))
 | oK (kvs:List (Key×D))
 | aw (a:Addr) (ds:List D)
 | aT (a:Addr) (kvs:List (List Key×D))
 | aK (a:Addr) (kvs:List (Key×D))
 | fo (s:Sh)
noncomputable def lQ (K:Oo) (H:Hp) {κ:Type}:List (κ×D)->List (κ×V)->Prop:=Paired λa b=>a.1=b.1/\Rep K H a.2 b.2
theorem lQ.mono {K:Oo} (e:aN H H') (h:lQ K H ks xs):lQ K H' ks xs :=
 Paired.Gg h λa b z=>⟨z.1,Rep.mono e _ z.2⟩
noncomputable def kD (K:Oo) (H:Hp):List (List Key×D)->List (List Key×Addr×V)->Prop:=Paired λa b=>a.1=b.1/\dh K H b.2.1 (a.1.map kV)/\Rep K H a.2 b.2.2
theorem kD.mono {K:Oo} (e:aN H H') (h:kD K H ks xs):kD K H' ks xs :=
 Paired.Gg h λa b z=>⟨z.1,az e z.2.1,Rep.mono e _ z.2.2⟩
noncomputable def bh (K:Oo) (fr:Addr->Prop) (H Hf:Hp):Sl->V->Prop
 | .un,_=>False
 | .va d,v=>Rep K Hf d v
 | .ow ds,v=>∃ p xs,v=.ref p/\fr p/\H p=some (.lst xs)/\Hf p=none/\au K Hf ds xs
 | .oT kvs,v=>∃ p xs,v=.ref p/\fr p/\H p=some (.dT xs)/\Hf p=none/\kD K Hf kvs xs
 | .oK kvs,v=>∃ p xs,v=.ref p/\fr p/\H p=some (.dK xs)/\Hf p=none/\lQ K Hf kvs xs
 | .aw a ds,v=>∃ p xs,v=.ref p/\(fr p/\p=a)/\H p=some (.lst xs)/\Hf p=none/\au K Hf ds xs
 | .aT a kvs,v=>∃ p xs,v=.ref p/\(fr p/\p=a)/\H p=some (.dT xs)/\Hf p=none/\kD K Hf kvs xs
 | .aK a kvs,v=>∃ p xs,v=.ref p/\(fr p/\p=a)/\H p=some (.dK xs)/\Hf p=none/\lQ K Hf kvs xs
 | .fo s,v=>∃ fp,dJ K H Hf s v fp/\(fp.map (·.1)).Nodup/\∀ a∈fp,fr a.1
noncomputable def Sl.owned:Sl->Bool
 | .ow _=>true | .oT _=>true | .oK _=>true | .aw _ _=>true | .aT _ _=>true | .aK _ _=>true | _=>false
structure bB (H Hf H' ak:Hp):Prop where
 s:aN H H'
 f:aN Hf ak
 b:aN ak H'
 n:∀ b,Hf b=none->H b≠none->(∀ xs,H b≠some (.tup xs))->ak b=none
theorem bB.refl (b:aN Hf H):bB H Hf H Hf:=⟨.refl _,.refl _,b,λ_ h _ _=>h⟩
theorem bB.trans (a:bB H Hf H1 aQ) (b:bB H1 aQ H2 cP):bB H Hf H2 cP :=
 ⟨a.s.trans b.s,a.f.trans b.f,b.b,λc h1 h2 h3=>by
   cases q:H c with
   | none=>exact absurd q h2
   | some o =>
    have e:=a.s c o q
    exact b.n c (a.n c h1 h2 h3) (by rw [e]; simp) (by intro xs; rw [e,<- q]; exact h3 xs)⟩
theorem bB.new (b:aN Hf H) (hp:H p=none):bB H Hf (upd H p o) (upd Hf p o):=by
 have hf:Hf p=none:=b.free hp
 refine ⟨λc u h=>?_,λc u h=>?_,λc u h=>?_,λc h1 h2 _=>?_⟩
 ·rw [aq (aD h hp)]; exact h
 ·rw [aq (aD h hf)]; exact h
 ·by_cases e:c=p
  ·subst e; rw [ah] at h |-; exact h
  ·rw [aq e] at h |-; exact b c u h
 ·by_cases e:c=p
  ·subst e; exact absurd hp h2
  ·rw [aq e]; exact h1
theorem bB.f7 (b:aN Hf H) (hp:H p=none):bB H Hf (upd H p o) Hf :=
 ⟨(bB.new b hp (o:=o)).s,.refl _,λc u h=>(bB.new b hp (o:=o)).s c u (b c u h),λ_ h _ _=>h⟩
inductive At {α:Type}:List α->Nat->α->Prop where
 | z {x:α} {l:List α}:At (x::l) 0 x
 | s {x y:α} {l:List α} {i:Nat}:At l i x->At (y::l) (i+1) x
theorem At.get (h:At l i x):l[i]?=some x:=by
 induction h with
 | z=>rfl
 | s _ ih=>simpa using ih
theorem At.mem (h:At l i x):x∈l:=Py h.get
inductive SSet {α:Type}:List α->Nat->α->List α->Prop where
 | z {x r:α} {l:List α}:SSet (x::l) 0 r (r::l)
 | s {r y:α} {l l':List α} {i:Nat}:SSet l i r l'->SSet (y::l) (i+1) r (y::l')
theorem SSet.eq (h:SSet l i r l'):l'=l.set i r:=by
 induction h with
 | z=>rfl
 | s _ ih=>simp [ih]
structure fc (K:Oo) (H₀ fh:Hp) (σ:L2.St) (H Hf:Hp) (ρ:List Sl):Prop where
 bas:bB H₀ fh H Hf
 len:σ.length=ρ.length
 at_:∀ (i:Nat) (r:Sl),ρ[i]?=some r->r≠.un->∃ v,σ[i]?=some (some v)/\bh K (λp=>H₀ p=none) H Hf r v
 sep:∀ (i j:Nat) (r r':Sl) (p:Addr),i≠j->ρ[i]?=some r->ρ[j]?=some r'->r.owned=true->r'.owned=true->σ[i]?=some (some (.ref p))->σ[j]?≠some (some (.ref p))
structure J6 (P:Program) (w:World) (outer:List Env) (H:Hp) (s:Shared) (a C:Addr) (H':Hp) (s':Shared):Prop where
 os:s'.os=s.os
 bare:AllBare s'.gens
 un:Un (frs outer) [] H H' s.heap s'.heap
 hok:jh P w H' s'.heap
 new:s.heap.get? a=none
 free:H' a=none
 fly:∃ (t:Addr) (B:Heap),Heap.FlyingW B outer a (.ref C) (.ref t) s'.heap/\(∀ b o,s.heap.get? b=some o->b∉frs outer->∃ o',s'.heap.get? b=some o'/\B.get? b=some o') /\
  ∀ b o,H' b≠none->s'.heap.get? b=some o->B.get? b=some o
noncomputable def dD (P:Program) (w:World):GL:=λouter H s E e s'=>∃ a C H',e=.ref a/\J6 P w outer H s a C H' s'/\E (.ref C) (some a) H'
set_option genInjectivity false in
structure Ctx (P:Program) (w:World) (K:Oo) (mg:Str->Option Value) (base:Heap) (k:Nat) (N:List Str) (sc:Scope) (bk:Bool) where
 X:Cx
 eP:X.prog=P
 ew:X.w=w
 eK:X.K=K
 emg:X.mg=mg
 eb:X.base=base
 eN:X.N=N
 esc:X.env.scope=sc
 calm:X.calm=true
 top:bk=false->X.stack=X.env::X.outer/\X.env.frame=some X.env.locals/\X.ex=[]
 cb:bk=false->∀ (aa:List (Addr×Obj)) (σ:L2.St) (H:Hp) (s:Shared),Inv X aa σ H s->∀ (x:Str) (c:Addr),X.env.cells.lookup x=some c->X.s₀.heap.objs.size<=c
 fn:∀ x,bk=false\/sc.names.lookup x=some .local->X.fn x=true\/X.env.scope.names.lookup x=some .local
 room:gR k X.A
 nd:N.Nodup
 vis:∀ x∈N,Loc sc x
 Hf:Hp
 B:Hp
 RX:Addr->List Sl->Prop
 exc:∀ (C a:Addr) (aa:List (Addr×Obj)) (σ:L2.St) (H ak:Hp) (ρ:List Sl) (s:Shared) (H':Hp) (s':Shared),Inv X aa σ H s->fc X.K B Hf σ H ak ρ->RX C ρ->J6 X.prog X.w X.stack H s a C H' s'->aN H H'->X.xe (.ref a) s'
 RM:Addr->List Sl->Prop
 mde:∀ (C a:Addr) (aa:List (Addr×Obj)) (σ:L2.St) (H ak:Hp) (ρ:List Sl) (s:Shared) (h':Heap) (us:List Value),Inv X aa σ H s->fc X.K B Hf σ H ak ρ->RM C ρ->Heap.MadeExcOf s.heap h' a (.ref C) us->X.xe (.ref a) { s with heap:=h' }
noncomputable def Sl.NN:Sl->Bool | .fo _=>true | _=>false
abbrev pq {α:Type} (fr:Addr->Prop) (H Hf:Hp) (o:α->HO) (R:α->Prop) (v:V):Prop:=∃ (p:Addr) (xs:α),v=.ref p/\fr p/\H p=some (o xs)/\Hf p=none/\R xs
theorem pq.Ju (h:pq fr H Hf o R v) (hk:∀ p,v=.ref p->∀ u,(∀ ys,u≠.tup ys)->H p=some u->Hf p=none->H' p=some u/\ak p=none) (ho:∀ xs ys,o xs≠.tup ys) (hR:∀ xs,R xs->R' xs):pq fr H' ak o R' v:=by
 obtain ⟨p,xs,e,f,h1,h2,h3⟩:=h
 exact ⟨p,xs,e,f,(hk p e _ (ho xs) h1 h2).1,(hk p e _ (ho xs) h1 h2).2,hR xs h3⟩
theorem pq.Jv (h:pq fr H Hf o R v) (hf:∀ p,fr p->fr' p):pq fr' H Hf o R v :=
 let ⟨p,xs,e,f,h⟩:=h; ⟨p,xs,e,hf p f,h⟩
theorem bh.mv {K:Oo} {B:Addr->Prop} (sf:aN Hf ak) (hk:∀ q o,¬ B q->H q=some o->(∀ xs,o≠.tup xs)->Hf q=none->H' q=some o/\ak q=none):∀ {r:Sl} {v:V},
 (r.NN=true->∀ q,B q->¬ yZ H q)->(r.owned=true->∀ q,v=.ref q->¬ B q)->bh K fr H Hf r v->bh K fr H' ak r v
 | .un,_,_,_,h=>h
 | .va d,_,_,_,h=>Rep.mono sf d h
 | .ow ds,_,_,hv,h=>pq.Ju h (λp e o z ho hf=>hk p o (hv rfl p e) ho z hf) (λ_ _ z=>by cases z) λ_ h=>h.mono sf
 | .oT kvs,_,_,hv,h=>pq.Ju h (λp e o z ho hf=>hk p o (hv rfl p e) ho z hf) (λ_ _ z=>by cases z) λ_ h=>h.mono sf
 | .oK kvs,_,_,hv,h=>pq.Ju h (λp e o z ho hf=>hk p o (hv rfl p e) ho z hf) (λ_ _ z=>by cases z) λ_ h=>h.mono sf
 | .aw a ds,_,_,hv,h=>pq.Ju h (λp e o z ho hf=>hk p o (hv rfl p e) ho z hf) (λ_ _ z=>by cases z) λ_ h=>h.mono sf
 | .aT a kvs,_,_,hv,h=>pq.Ju h (λp e o z ho hf=>hk p o (hv rfl p e) ho z hf) (λ_ _ z=>by cases z) λ_ h=>h.mono sf
 | .aK a kvs,_,_,hv,h=>pq.Ju h (λp e o z ho hf=>hk p o (hv rfl p e) ho z hf) (λ_ _ z=>by cases z) λ_ h=>h.mono sf
 | .fo s,_,hB,_,⟨fp,h1,h2,h3⟩=>⟨fp,dJ.mv sf s (λq _ e1 e2=>hk q.1 _ (λb=>hB rfl q.1 b ⟨q.2,e1⟩) e1 (by intro ys z; cases z) e2) h1,h2,h3⟩
theorem bh.cI {K:Oo} (g:bB H Hf H' ak) (h:bh K fr H Hf r v):bh K fr H' ak r v :=
 bh.mv (B:=λ_=>False) g.f (λq o _ e1 e2 e3=>⟨g.s _ _ e1,g.n q e3 (by rw [e1]; simp) λxs z=>e2 xs (by rw [e1] at z; exact Qo z)⟩) (λ_ _ z=>z.elim) (λ_ _ _ z=>z) h
theorem bh.weak {K:Oo} (hf:∀ p,fr p->fr' p):∀ {r:Sl} {v:V},bh K fr H Hf r v->bh K fr' H Hf r v
 | .un,_,h=>h
 | .va d,_,h=>h
 | .ow ds,_,h=>pq.Jv h hf
 | .oT ds,_,h=>pq.Jv h hf
 | .oK ds,_,h=>pq.Jv h hf
 | .aw a ds,_,h=>pq.Jv h λp f=>⟨hf p f.1,f.2⟩
 | .aT a ds,_,h=>pq.Jv h λp f=>⟨hf p f.1,f.2⟩
 | .aK a ds,_,h=>pq.Jv h λp f=>⟨hf p f.1,f.2⟩
 | .fo s,_,⟨fp,h1,h2,h3⟩=>⟨fp,h1,h2,λa ha=>hf _ (h3 a ha)⟩
section
variable {K:Oo}
def Ctx.fr (c:Ctx P w K mg base k N sc bk) (p:Addr):Prop:=c.B p=none
abbrev bw (c:Ctx P w K mg base k N sc bk) (σ:L2.St) (H Hf:Hp) (ρ:List Sl):Prop:=fc c.X.K c.B c.Hf σ H Hf ρ
theorem fc.cI (S:fc K H₀ fh σ H Hf ρ) (g:bB H Hf H' ak):fc K H₀ fh σ H' ak ρ :=
 ⟨S.bas.trans g,S.len,λi r h hr=>let ⟨v,e,q⟩:=S.at_ i r h hr; ⟨v,e,q.cI g⟩,S.sep⟩
theorem fc.sb (S:fc K H₀ fh σ H Hf ρ):aN Hf H:=S.bas.b
theorem fc.va (S:fc K H₀ fh σ H Hf ρ) {i:Nat} (h:ρ[i]?=some (.va d)):∃ v,σ[i]?=some (some v)/\Rep K Hf d v:=S.at_ i _ h (by simp)
theorem fc.set (S:fc K H₀ fh σ H Hf ρ) (g:bB H Hf H1 aQ) (hr:bh K (λp=>H p=none) H1 aQ r v) :
 fc K H₀ fh (σ.set i (some v)) H1 aQ (ρ.set i r):=by
 have S1:=S.cI g
 have fr0:∀ p,H p=none->H₀ p=none:=λp h=>S.bas.s.free h
 have fresh:∀ p,r.owned=true->v=.ref p->H p=none:=λp ho e=>by
  subst e
  cases r with
  | un=>cases ho
  | va d=>cases ho
  | ow ds=>obtain ⟨p',xs,e,h,_⟩:=hr; cases e; exact h
  | oT ds=>obtain ⟨p',xs,e,h,_⟩:=hr; cases e; exact h
  | oK ds=>obtain ⟨p',xs,e,h,_⟩:=hr; cases e; exact h
  | aw a ds=>obtain ⟨p',xs,e,h,_⟩:=hr; cases e; exact h.1
  | aT a ds=>obtain ⟨p',xs,e,h,_⟩:=hr; cases e; exact h.1
  | aK a ds=>obtain ⟨p',xs,e,h,_⟩:=hr; cases e; exact h.1
  | fo s=>cases ho
 have old:∀ (j:Nat) (r':Sl) (p:Addr),ρ[j]?=some r'->r'.owned=true->σ[j]?=some (some (.ref p))->H p≠none:=λj r' p h ho hs=>by
  obtain ⟨v',e,q⟩:=S.at_ j r' h (by rintro rfl; cases ho)
  rw [hs] at e; cases e
  cases r' with
  | un=>cases ho
  | va d=>cases ho
  | ow ds=>obtain ⟨p',xs,e,_,h,_⟩:=q; cases e; rw [h]; simp
  | oT ds=>obtain ⟨p',xs,e,_,h,_⟩:=q; cases e; rw [h]; simp
  | oK ds=>obtain ⟨p',xs,e,_,h,_⟩:=q; cases e; rw [h]; simp
  | aw a ds=>obtain ⟨p',xs,e,_,h,_⟩:=q; cases e; rw [h]; simp
  | aT a ds=>obtain ⟨p',xs,e,_,h,_⟩:=q; cases e; rw [h]; simp
  | aK a ds=>obtain ⟨p',xs,e,_,h,_⟩:=q; cases e; rw [h]; simp
  | fo s=>cases ho
 refine ⟨S1.bas,by simp [S.len],λj r' hj hu=>?_,λj j' r1 r2 p hne h1 h2 o1 o2 e1 e2=>?_⟩
 ·by_cases q:j=i
  ·subst q
   have hi:j<ρ.length:=by
    have:=(OH.mp hj).1
    simpa using this
   rw [P4 hi] at hj; cases hj
   exact ⟨v,P4 (by rw [S.len]; exact hi),hr.weak fr0⟩
  ·rw [P5 (OT q)] at hj |-
   exact S1.at_ j r' hj hu
 ·have hlt:∀ {j:Nat} {r:Sl},(ρ.set i r)[j]?=some r->j<ρ.length:=λ{j r} h=>by
   have:=(OH.mp h).1
   simpa using this
  by_cases q1:j=i
  ·subst q1
   have hi:j<ρ.length:=by have:=(OH.mp h1).1; simpa using this
   rw [P4 hi] at h1; cases h1
   rw [P4 (by rw [S.len]; exact hi)] at e1
   rw [P5 hne] at h2 e2
   exact old j' r2 p h2 o2 e2 (fresh p o1 (by simpa using e1))
  ·by_cases q2:j'=i
   ·subst q2
    have hi:j'<ρ.length:=by have:=(OH.mp h2).1; simpa using this
    rw [P4 hi] at h2; cases h2
    rw [P4 (by rw [S.len]; exact hi)] at e2
    rw [P5 (OT hne)] at h1 e1
    exact old j r1 p h1 o1 e1 (fresh p o2 (by simpa using e2))
   ·rw [P5 (OT q1)] at h1 e1
    rw [P5 (OT q2)] at h2 e2
    exact S.sep j j' r1 r2 p hne h1 h2 o1 o2 e1 e2
theorem fc.weak (S:fc K H₀ fh σ H Hf ρ) (hl:ρ'.length=ρ.length) (h:∀ (i:Nat) (r:Sl),ρ'[i]?=some r->r≠.un->ρ[i]?=some r):fc K H₀ fh σ H Hf ρ' :=
 ⟨S.bas,by rw [S.len,hl],λi r e hu=>S.at_ i r (h i r e hu) hu,λi j r r' p hne h1 h2 o1 o2=>S.sep i j r r' p hne (h i r h1 (by rintro rfl; cases o1)) (h j r' h2 (by rintro rfl; cases o2)) o1 o2⟩
end
section
variable {P:Program} {w:World} {K:Oo} {mg:Str->Option Value} {base:Heap} {k:Nat} {N:List Str} {sc:Scope} {bk:Bool}
noncomputable def bE (X:Cx) (e:Expr):TE:=λσ H Q=>∀ aa s,Inv X aa σ H s->wpAny (model X.prog X.w) X.A (eval e X.env) (EP X aa σ Q) X.xe s
theorem c9:PE X e (bE X e):=λaa s σ H Q I h=>h aa s I
theorem bO (h:PE X e t) (q:t σ H Q):bE X e σ H Q:=λaa s I=>h aa s σ H Q I q
noncomputable def bT (X:Cx) (e:Expr):TT:=λσ H Q=>∀ aa s,Inv X aa σ H s->wpAny (model X.prog X.w) X.A (isTrue e X.env (eval e X.env)) (TP X aa σ Q) X.xe s
theorem Jw:PT X e (bT X e):=λaa s σ H Q I h=>h aa s I
theorem uH (h:PT X e t) (q:t σ H Q):bT X e σ H Q:=λaa s I=>h aa s σ H Q I q
noncomputable def bA (X:Cx) (es:List Expr):TA:=λσ H Q=>∀ pos aa s,Inv X aa σ H s->wpAny (model X.prog X.w) X.A (spliced (backTo pos (starEach es X.env))) (AP X aa σ Q) X.xe s
theorem G3:PA X es (bA X es):=λpos aa s σ H Q I h=>h pos aa s I
theorem y9 (h:PA X es t) (q:t σ H Q):bA X es σ H Q:=λpos aa s I=>h pos aa s σ H Q I q
noncomputable def bS (X:Cx) (st:Stmt):TS:=λD σ H=>∀ aa s,Inv X aa σ H s->wpAny (model X.prog X.w) X.A (exec st X.env) (SP X aa D) X.xe s
theorem Oe {st:Stmt}:PS X st (bS X st):=λaa s σ H D I h=>h aa s I
theorem dX {st:Stmt} (h:PS X st t) {D:Ends} (q:t D σ H):bS X st D σ H:=λaa s I=>h aa s σ H D I q
noncomputable def Jx (X:Cx) (st:List Stmt):TS:=λD σ H=>∀ aa s,Inv X aa σ H s->wpAny (model X.prog X.w) X.A (execs st X.env) (SP X aa D) X.xe s
theorem sG {st:List Stmt}:r6 X st (Jx X st):=λaa s σ H D I h=>h aa s I
theorem za {st:List Stmt} (h:r6 X st t) {D:Ends} (q:t D σ H):Jx X st D σ H:=λaa s I=>h aa s σ H D I q
noncomputable def bG (X:Cx) (tg:Expr):TG:=λv σ H Q=>∀ aa s u,Inv X aa σ H s->RelV v u->wpAny (model X.prog X.w) X.A (assign tg X.env u) (λ_ s'=>∃ σ' H',Inv X aa σ' H' s'/\Q σ' H') X.xe s
theorem NO:PG X tg (bG X tg):=λaa s σ H v u Q I r h=>h aa s u I r
theorem Fd (h:PG X tg t) (q:t v σ H Q):bG X tg v σ H Q:=λaa s u I r=>h aa s σ H v u Q I r q
variable (c:Ctx P w K mg base k N sc bk)
def dF (e:Expr) (ρ:List Sl) (R:Sl->Prop):Prop :=
 ∀ (σ:L2.St) (H Hf:Hp) (Q:VK),bw c σ H Hf ρ->(∀ r v H' ak,R r->bh c.X.K (λp=>H p=none) H' ak r v->bB H Hf H' ak->Q v H')->bE c.X e σ H Q
def aH (e:Expr) (ρ:List Sl) (R:D->Prop):Prop :=
 ∀ (σ:L2.St) (H Hf:Hp) (Q:VK),bw c σ H Hf ρ->(∀ d v H' ak,R d->Rep c.X.K ak d v->bB H Hf H' ak->Q v H')->bE c.X e σ H Q
def kE (e:Expr) (ρ:List Sl) (R:Bool->Prop):Prop :=
 ∀ (σ:L2.St) (H Hf:Hp) (Q:Bool->Hp->Prop),bw c σ H Hf ρ->(∀ b H' ak,R b->bB H Hf H' ak->Q b H')->bT c.X e σ H Q
def pW (es:List Expr) (ρ:List Sl) (R:List D->Prop):Prop :=
 ∀ (σ:L2.St) (H Hf:Hp) (Q:List V->Hp->Prop),bw c σ H Hf ρ->(∀ ds vs H' ak,R ds->au c.X.K ak ds vs->bB H Hf H' ak->Q vs H')->bA c.X es σ H Q
structure Pt where
 rt:Sl->Prop
 bk:List Sl->Prop:=λ_=>False
 ct:List Sl->Prop:=λ_=>False
structure zb (nx:List Sl->Prop) (p:Pt) (D:Ends):Prop where
 nx:∀ σ H Hf ρ,bw c σ H Hf ρ->nx ρ->D.nx σ H
 rt:∀ r v H Hf,bB c.B c.Hf H Hf->bh c.X.K c.fr H Hf r v->p.rt r->D.rt v H
 bk:∀ σ H Hf ρ,bw c σ H Hf ρ->p.bk ρ->D.bk σ H
 ct:∀ σ H Hf ρ,bw c σ H Hf ρ->p.ct ρ->D.ct σ H
def fS (st:Stmt) (ρ:List Sl) (nx:List Sl->Prop) (p:Pt):Prop :=
 ∀ (σ:L2.St) (H Hf:Hp) (D:Ends),bw c σ H Hf ρ->zb c nx p D->bS c.X st D σ H
def aG (st:List Stmt) (ρ:List Sl) (nx:List Sl->Prop) (p:Pt):Prop :=
 ∀ (σ:L2.St) (H Hf:Hp) (D:Ends),bw c σ H Hf ρ->zb c nx p D->Jx c.X st D σ H
def mR (tg:Expr) (d:D) (ρ:List Sl) (R:List Sl->Prop):Prop :=
 ∀ (σ:L2.St) (H Hf:Hp) (v:V) (Q:L2.St->Hp->Prop),bw c σ H Hf ρ->Rep c.X.K Hf d v->(∀ σ' H' ak ρ',bw c σ' H' ak ρ'->bB H Hf H' ak->R ρ'->Q σ' H')->bG c.X tg v σ H Q
variable {c}
noncomputable def Sl.fz:Sl->Option D
 | .va d=>some d
 | .ow ds=>some (.lst ds)
 | _=>none
def Fe (R:D->Prop) (r:Sl):Prop:=∃ d,r.fz=some d/\R d
theorem G4 (e:r.fz=some d) (h:bh K (λp=>H p=none) H' ak r v) (g:bB H Hf H' ak) :
 ∃ cP,Rep K cP d v/\bB H Hf H' cP:=by
 cases r with
 | un=>cases e
 | va d'=>cases e; exact ⟨ak,h,g⟩
 | oT _=>cases e
 | oK _=>cases e
 | aw _ _=>cases e
 | aT _ _=>cases e
 | aK _ _=>cases e
 | fo _=>cases e
 | ow ds =>
  cases e
  obtain ⟨p,xs,rfl,hp,h1,h2,h3⟩:=h
  have sf:aN ak (upd ak p (.lst xs)):=λb o e=>by rw [aq (aD e h2)]; exact e
  have sb:aN (upd ak p (.lst xs)) H':=λb o e=>by
   by_cases q:b=p
   ·subst q; rw [ah] at e; rw [h1]; exact e
   ·rw [aq q] at e; exact g.b b o e
  refine ⟨upd ak p (.lst xs),bu.mpr ⟨p,xs,rfl,.inl (.inl ah),h3.mono sf⟩,g.s,g.f.trans sf,sb,λb q1 q2 q3=>?_⟩
  have e:=g.n b q1 q2 q3
  by_cases q:b=p
  ·subst q; exact absurd hp q2
  ·rw [aq q]; exact e
theorem e_x (h:dF c e ρ (Fe R)):aH c e ρ R:=λσ H Hf Q S q =>
 h σ H Hf Q S λr v H' ak ⟨d,e1,rd⟩ rs g=>let ⟨cP,h1,g2⟩:=G4 e1 rs g; q d v H' cP rd h1 g2
theorem yu (h:aH c e ρ λd=>R (.va d)):dF c e ρ R:=λσ H Hf Q S q =>
 h σ H Hf Q S λd v H' ak rd h1 g=>q (.va d) v H' ak rd h1 g
theorem aH.imp (h:aH c e ρ R) (hi:∀ d,R d->R' d):aH c e ρ R':=λσ H Hf Q S q=>h σ H Hf Q S λd v H' ak rd=>q d v H' ak (hi d rd)
theorem dF.imp (h:dF c e ρ R) (hi:∀ d,R d->R' d):dF c e ρ R':=λσ H Hf Q S q=>h σ H Hf Q S λd v H' ak rd=>q d v H' ak (hi d rd)
theorem kE.imp (h:kE c e ρ R) (hi:∀ d,R d->R' d):kE c e ρ R':=λσ H Hf Q S q=>h σ H Hf Q S λd H' ak rd=>q d H' ak (hi d rd)
theorem mS (hN:At N i x) (hs:At ρ i (.va d)) (hR:R d)
 (hd:(x == ("__debug__":Str))=false:=by decide) (hcd:(x == ("__classdict__":Str))=false:=by decide) :
 aH c (.Name x pos) ρ R:=λσ H Hf Q S q=>by
 obtain ⟨v,e,r⟩:=S.va hs.get
 exact bO (r8 (X:=c.X) (i:=i) (by rw [c.eN]; exact hN.get) (by rw [c.esc]; rcases c.vis x hN.mem with h | h; exact .inl h; exact .inr (.inl h)) hd hcd) ⟨v,e,q d v H Hf hR r (.refl S.sb)⟩
theorem J7 (hR:R (.int i)):aH c (.Constant (.int i) j pos) ρ R:=λσ H Hf Q S q =>
 bO yx (q _ _ H Hf hR (aB.mpr rfl) (.refl S.sb))
theorem MT (hR:R (.bl i)):aH c (.Constant (.bool i) j pos) ρ R:=λσ H Hf Q S q =>
 bO E7 (q _ _ H Hf hR (f6.mpr rfl) (.refl S.sb))
theorem sH (hm:mg x=some (.int i t)) (hR:R (.int i)) (hg:sc.names.lookup x=some .globalImplicit:=by walk_at "u") (hd:(x == ("__debug__":Str))=false:=by decide) :
 aH c (.Name x pos) ρ R:=λσ H Hf Q S q =>
 bO (uu (X:=c.X) (v:=.int i) (u:=.int i t) (by unfold Gl Pr; rw [c.esc]; exact hg) (by rw [c.emg]; exact hm) ⟨t,rfl⟩ hd) (q _ _ H Hf hR (aB.mpr rfl) (.refl S.sb))
def LU (K:Oo) (r:R2) (p:D->D->(Sl->Prop)->Prop):Prop :=
 ∀ (x y:D) (v u:V) (H Hf:Hp) (Q:VK) (R:Sl->Prop),aN Hf H->Rep K Hf x v->Rep K Hf y u->p x y R ->
  (∀ z v' H' ak,R z->bh K (λp=>H p=none) H' ak z v'->bB H Hf H' ak->Q v' H')->r v u H Q
theorem nX (ho:fG c.X (binaryOp op) r) (hd:LU c.X.K r p)
 (h:aH c a ρ λx=>aH c b ρ λy=>p x y R):dF c (.BinOp a op b pos) ρ R:=λσ H Hf Q S q =>
 bO (yH ho c9 c9) (h σ H Hf _ S λx v1 H1 aQ h1 r1 g1=>h1 σ H1 aQ _ (S.cI g1) λy v2 H2 cP h2 r2 g2 =>
  hd x y v1 v2 H2 cP Q R g2.b (Rep.mono g2.f x r1) r2 h2 λz v' H' ak hz rz g3 =>
   q z v' H' ak hz (rz.weak λp hp=>(g1.trans g2).s.free hp) ((g1.trans g2).trans g3))
theorem mT {f:Int->Int->Int}:LU K (rI C λi j=>.int (f i j)) λx y R=>∃ i j,x=.int i/\y=.int j/\C i j/\R (.va (.int (f i j))):=by
 rintro x y v u H Hf Q R s rx ry ⟨i,j,rfl,rfl,hC,hR⟩ q
 rw [aB] at rx ry
 exact ⟨i,j,rx,ry,hC,q (.va (.int (f i j))) _ H Hf hR (show Rep K Hf (.int (f i j)) _ from aB.mpr rfl) (.refl s)⟩
theorem zc {f:Int->Int->Int}:LU K (uw λi j=>.int (f i j)) λx y R=>∃ i j,x=.int i/\y=.int j/\R (.va (.int (f i j))):=by
 rintro x y v u H Hf Q R s rx ry ⟨i,j,rfl,rfl,hR⟩ q
 rw [aB] at rx ry
 exact ⟨i,j,rx,ry,q (.va (.int (f i j))) _ H Hf hR (show Rep K Hf (.int (f i j)) _ from aB.mpr rfl) (.refl s)⟩
theorem iL (h:dF c e ρ λr=>∃ d,r=.va d/\R d):aH c e ρ R:=e_x (h.imp λr ⟨d,e,hr⟩=>⟨d,by subst e; rfl,hr⟩)
noncomputable def jJ:D->D->Bool
 | .non,.non=>true | .non,.int _=>true | .int _,.non=>true | .non,.bl _=>true | .bl _,.non=>true | .non,.str _=>true | .str _,.non=>true
 | .int _,.int _=>true | .bl _,.bl _=>true | .str _,.str _=>true | .int _,.str _=>true | .str _,.int _=>true | .bl _,.str _=>true | .str _,.bl _=>true
 | _,_=>false
noncomputable instance:DecidableEq D:=λ_ _=>Classical.propDecidable _
inductive lR:Nat->D->D->Prop where
 | sc {n:Nat} {x y:D} (h:jJ x y=true):lR n x y
 | tup {n:Nat} {ds es:List D} (h:∀ (i:Nat) (d e:D),ds[i]?=some d->es[i]?=some e->lR n d e):lR (n+1) (.tup ds) (.tup es)
 | lst {n:Nat} {ds es:List D} (h:∀ (i:Nat) (d e:D),ds[i]?=some d->es[i]?=some e->lR n d e):lR (n+1) (.lst ds) (.lst es)
 | ln {n:Nat} {ds:List D}:lR n (.lst ds) .non
 | nl {n:Nat} {ds:List D}:lR n .non (.lst ds)
 | tn {n:Nat} {ds:List D}:lR n (.tup ds) .non
 | nt {n:Nat} {ds:List D}:lR n .non (.tup ds)
def pX (ds es:List D):Prop:=∀ (i:Nat) (d e:D),ds[i]?=some d->es[i]?=some e->lR 40 d e
def J8 (x y:D):Prop:=jJ x y=true\/∃ ds es,((x=.tup ds/\y=.tup es)\/(x=.lst ds/\y=.lst es))/\pX ds es
section
variable {a b:Expr} {pos:Pos} {ρ:List Sl} {R:D->Prop}
structure Sd (A B:Prop):Prop where
 s:A
 r:B
structure mU (A B:Prop) (x:Bool):Prop where
 t:x=true->A
 f:x=false->B
theorem J9 (h1:A):mU A B true:=⟨λ_=>h1,λh=>by cases h⟩
theorem zd (h1:B):mU A B false:=⟨λh=>(by cases h),λ_=>h1⟩
theorem CU (h1:p->A) (h2:¬ p->B):mU A B (@decide p i):=⟨λh=>h1 (of_decide_eq_true h),λh=>h2 (of_decide_eq_false h)⟩
theorem CV (h:mU B A x):mU A B (!x):=⟨λe=>h.f (by simpa using e),λe=>h.t (by simpa using e)⟩
def ze (x y:D) (T:Bool->Prop):Prop:=J8 x y/\T (decide (x=y))
theorem CW (h:T (decide (i=j))):ze (.int i) (.int j) T:=⟨.inl rfl,by
 have e:decide (D.int i=D.int j)=decide (i=j):=by simp
 rw [e]; exact h⟩
theorem CY (h:Sd (pX ds es) (T (decide (ds=es)))):ze (.lst ds) (.lst es) T:=⟨.inr ⟨ds,es,.inr ⟨rfl,rfl⟩,h.s⟩,by
 have e:decide (D.lst ds=D.lst es)=decide (ds=es):=by simp
 rw [e]; exact h.r⟩
noncomputable def I2 (k:Int->Int->Prop):D->D->Prop:=λx y=>∃ i j,x=.int i/\y=.int j/\k i j
theorem i2 {k:Int->Int->Prop} (h:k i j):I2 k (.int i) (.int j):=⟨i,j,rfl,rfl,h⟩
noncomputable def I1 (k:Int->Prop):D->Prop:=λx=>∃ i,x=.int i/\k i
theorem i1 {k:Int->Prop} (h:k i):I1 k (.int i):=⟨i,rfl,h⟩
noncomputable def B1 (k:Bool->Prop):D->Prop:=λx=>∃ i,x=.bl i/\k i
theorem b1 {k:Bool->Prop} (h:k i):B1 k (.bl i):=⟨i,rfl,h⟩
theorem Ka (h:aH c a ρ λx=>aH c b ρ λy=>I2 (λi j=>R (.int (i - j))) x y):aH c (.BinOp a .Sub b pos) ρ R :=
 iL (nX GB zc (h.imp λx hx=>hx.imp λy ⟨i,j,e1,e2,r⟩=>⟨i,j,e1,e2,_,rfl,r⟩))
def MulOk (i j:Int):Prop:=IntMulOk i j
def zf (j:Int):Prop:=0<j/\j.natAbs.log2<9000
theorem CZ:fG c.X (binaryOp .Mult) (rI MulOk λi j=>.int (i * j)):=Js λ_ _ _ _ _ _ _ hc q=>mul_int q hc
theorem zg:fG c.X (binaryOp .FloorDiv) (rI (λ_ j=>zf j) λi j=>.int (i / j)):=Js λi j _ _ _ _ _ hc q=>by
 have h1:(0:Int)<j:=hc.1
 exact floordiv_int (by lia) (by rw [Int.fdiv_eq_ediv_of_nonneg i (by lia)]; exact q) (.inl (PyProof.noPylong_of_log2 hc.2))
theorem Kc (h:aH c a ρ λx=>aH c b ρ λy=>I2 (λi j=>Sd (MulOk i j) (R (.int (i * j)))) x y):aH c (.BinOp a .Mult b pos) ρ R :=
 iL (nX CZ mT (h.imp λx hx=>hx.imp λy ⟨i,j,e1,e2,⟨hc,r⟩⟩=>⟨i,j,e1,e2,hc,_,rfl,r⟩))
theorem G5 (h:aH c a ρ λx=>aH c b ρ λy=>I2 (λi j=>Sd (zf j) (R (.int (i / j)))) x y):aH c (.BinOp a .FloorDiv b pos) ρ R :=
 iL (nX zg mT (h.imp λx hx=>hx.imp λy ⟨i,j,e1,e2,⟨hc,r⟩⟩=>⟨i,j,e1,e2,hc,_,rfl,r⟩))
theorem Kd (h:aH c a ρ λx=>aH c b ρ λy=>I2 (λi j=>Sd (0<j) (R (.int (i % j)))) x y):aH c (.BinOp a .Mod b pos) ρ R :=
 iL (nX GC mT (h.imp λx hx=>hx.imp λy ⟨i,j,e1,e2,⟨hc,r⟩⟩=>⟨i,j,e1,e2,hc,_,rfl,r⟩))
theorem Ke (h:aH c a ρ λx=>aH c b ρ λy=>I2 (λi j=>Sd (se i j) (R (.int (i ^ j.toNat)))) x y):aH c (.BinOp a .Pow b pos) ρ R :=
 iL (nX GD mT (h.imp λx hx=>hx.imp λy ⟨i,j,e1,e2,⟨hc,r⟩⟩=>⟨i,j,e1,e2,hc,_,rfl,r⟩))
theorem Kf (h:aH c a ρ (I1 λi=>R (.int (-i)))):aH c (.UnaryOp .USub a pos) ρ R:=λσ H Hf Q S q =>
 bO (JQ GI c9) (h σ H Hf _ S λx v H' ak hx r g=>by
  obtain ⟨i,rfl,hR⟩:=hx
  rw [aB] at r
  exact ⟨i,r,q _ _ H' ak hR (aB.mpr rfl) g⟩)
def zh (K:Oo) (r:R2) (p:D->D->(Bool->Prop)->Prop):Prop :=
 ∀ (x y:D) (v u:V) (H Hf:Hp) (Q:VK) (R:Bool->Prop),aN Hf H->Rep K Hf x v->Rep K Hf y u->p x y R->(∀ b,R b->Q (.bl b) H)->r v u H Q
theorem Kg (ho:fG c.X (compareOp op) r) (hd:zh c.X.K r p) (h:aH c a ρ λx=>aH c b ρ λy=>p x y λz=>R (.bl z))
 (hm:behindInMarks op b=false):aH c (.Compare a [op] [b] pos) ρ R:=λσ H Hf Q S q =>
 bO (CA ho c9 c9 hm) (h σ H Hf _ S λx v1 H1 aQ h1 r1 g1=>h1 σ H1 aQ _ (S.cI g1) λy v2 H2 cP h2 r2 g2 =>
  hd x y v1 v2 H2 cP Q _ g2.b (Rep.mono g2.f x r1) r2 h2 λz hz=>q _ _ H2 cP hz (f6.mpr rfl) (g1.trans g2))
theorem pY (ho:fG c.X (compareOp op) r) (hd:zh c.X.K r p) (h:aH c a ρ λx=>aH c b ρ λy=>p x y T)
 (hm:behindInMarks op b=false):kE c (.Compare a [op] [b] pos) ρ T:=λσ H Hf Q S q =>
 uH (CB ho c9 c9 hm) (h σ H Hf _ S λx v1 H1 aQ h1 r1 g1=>h1 σ H1 aQ _ (S.cI g1) λy v2 H2 cP h2 r2 g2 =>
  hd x y v1 v2 H2 cP _ T g2.b (Rep.mono g2.f x r1) r2 h2 λz hz=>⟨z,rfl,q _ H2 cP hz (g1.trans g2)⟩)
theorem zj {f:Int->Int->Bool}:zh K (uw λi j=>.bl (f i j)) λx y R=>I2 (λi j=>R (f i j)) x y:=by
 rintro x y v u H Hf Q R s rx ry ⟨i,j,rfl,rfl,hR⟩ q
 rw [aB] at rx ry
 exact ⟨i,j,rx,ry,q _ hR⟩
theorem uI (h:jJ x y=true) (rx:Rep K H x v) (ry:Rep K H y u):Cz v u=true/\decide (v=u)=decide (x=y):=by
 cases x <;> cases y <;> simp [jJ] at h <;> simp only [aB,f6,bX,gE] at rx ry <;> subst rx <;> subst ry <;> simp [Cz]
theorem MU (h:aH c a ρ λx=>aH c b ρ λy=>I2 (λi j=>T (decide (i<j))) x y):kE c (.Compare a [.Lt] [b] pos) ρ T:=pY JT zj h (jk b)
theorem Kh (h:aH c a ρ λx=>aH c b ρ λy=>I2 (λi j=>T (decide (j<i))) x y):kE c (.Compare a [.Gt] [b] pos) ρ T:=pY JU zj h (jk b)
theorem MV (h:aH c a ρ λx=>aH c b ρ λy=>I2 (λi j=>T (decide (j<=i))) x y):kE c (.Compare a [.GtE] [b] pos) ρ T:=pY JV zj h (jk b)
end
end
section
variable {K:Oo} {c:Ctx P w K mg base k N sc bk}
variable {es rest:List Expr}
noncomputable def bW (X:Cx) (e:Expr):TT:=λσ H Q=>∀ whole aa s,Inv X aa σ H s->wpAny (model X.prog X.w) X.A (isTrue e X.env whole) (TP X aa σ Q) X.xe s
theorem Of:PW X e (bW X e):=λwhole aa s σ H Q I h=>h whole aa s I
theorem Ff (h:PW X e t) (q:t σ H Q):bW X e σ H Q:=λwhole aa s I=>h whole aa s σ H Q I q
def Kl (c:Ctx P w K mg base k N sc bk) (e:Expr) (ρ:List Sl) (R:Bool->Prop):Prop :=
 ∀ (σ:L2.St) (H Hf:Hp) (Q:Bool->Hp->Prop),bw c σ H Hf ρ->(∀ b H' ak,R b->bB H Hf H' ak->Q b H')->bW c.X e σ H Q
theorem NP (h:Kl c e ρ T):kE c e ρ T:=λσ H Hf Q S q aa s I=>h σ H Hf Q S q _ aa s I
theorem G6 (h:kE c a ρ T):Kl c (.BoolOp .And [a] pos) ρ T:=λσ H Hf Q S q=>Ff (pw_and1 Jw) (h σ H Hf Q S q)
theorem w_and (h:kE c a ρ (mU (Kl c (.BoolOp .And (b::rest) pos) ρ T) (T false))):Kl c (.BoolOp .And (a::b::rest) pos) ρ T:=λσ H Hf Q S q =>
 Ff (pw_and Jw Of) (h σ H Hf _ S λx H' ak hx g=>by
  cases x with
  | true=>exact hx.t rfl σ H' ak Q (S.cI g) λy H2 cP hy g2=>q y H2 cP hy (g.trans g2)
  | false=>exact q false H' ak (hx.f rfl) g)
theorem Km (h:kE c a ρ λx=>T (!x)):kE c (.UnaryOp .Not a pos) ρ T:=λσ H Hf Q S q =>
 uH (Gk Jw) (h σ H Hf _ S λx H' ak hx g=>q _ H' ak hx g)
theorem Kn (h:aH c a ρ R):aH c (.BoolOp op [a] pos) ρ R:=λσ H Hf Q S q=>bO (Gm c9) (h σ H Hf Q S q)
theorem Ko (h:aH c a ρ (B1 (mU (aH c (.BoolOp .And (b::rest) pos) ρ R) (R (.bl false))))):aH c (.BoolOp .And (a::b::rest) pos) ρ R:=λσ H Hf Q S q =>
 bO (Gn c9 c9) (h σ H Hf _ S λx v H' ak ⟨k,e,h1⟩ r g=>by
  subst e
  rw [f6] at r
  refine ⟨k,r,?_⟩
  cases k with
  | true=>rw [if_pos rfl]; exact h1.t rfl σ H' ak Q (S.cI g) λy v2 H2 cP hy r2 g2=>q y v2 H2 cP hy r2 (g.trans g2)
  | false=>rw [if_neg OC]; exact q _ _ H' ak (h1.f rfl) (f6.mpr rfl) g)
theorem C0 {R:Sl->Prop} (h:kE c t ρ (mU (dF c a ρ R) (dF c b ρ R))):dF c (.IfExp t a b pos) ρ R:=λσ H Hf Q S q =>
 bO (yy Jw c9 c9) (h σ H Hf _ S λx H' ak hx g=>by
  cases x with
  | true=>rw [if_pos rfl]; exact hx.t rfl σ H' ak Q (S.cI g) λy v2 H2 cP hy r2 g2=>q y v2 H2 cP hy (r2.weak λp hp=>g.s.free hp) (g.trans g2)
  | false=>rw [if_neg OC]; exact hx.f rfl σ H' ak Q (S.cI g) λy v2 H2 cP hy r2 g2=>q y v2 H2 cP hy (r2.weak λp hp=>g.s.free hp) (g.trans g2))
theorem C1 (h:kE c t ρ (mU (aH c a ρ R) (aH c b ρ R))):aH c (.IfExp t a b pos) ρ R :=
 iL (C0 (h.imp λx hx=>⟨λe=>yu ((hx.t e).imp λd h=>⟨d,rfl,h⟩),λe=>yu ((hx.f e).imp λd h=>⟨d,rfl,h⟩)⟩))
theorem Kp (h:aH c e ρ (B1 T)) (he:∀ (env:Env) whole,isTrue e env whole=(do let v <- whole; standAt e.pos; holding [v] (truthy v)):=by intro _ _; walk_at "u"):kE c e ρ T:=λσ H Hf Q S q =>
 uH (Gj c9 (he _)) (h σ H Hf _ S λx v H' ak ⟨k,e,h1⟩ r g=>by
  subst e; rw [f6] at r
  exact ⟨k,r,q k H' ak h1 g⟩)
theorem kF {R:List D->Prop} (h:R []):pW c [] ρ R:=λσ H Hf Q S q=>y9 dI (q [] [] H Hf h (aC.mpr rfl) (.refl S.sb))
theorem bx {R:List D->Prop} (h:aH c e ρ λd=>pW c es ρ λds=>R (d::ds)) (hs:∀ env,starEach (e::es) env=(false,eval e env)::starEach es env:=by intro _; walk_at "u"):pW c (e::es) ρ R:=λσ H Hf Q S q =>
 y9 (bK c9 G3 (hs _)) (h σ H Hf _ S λd v H1 aQ h1 r1 g1=>h1 σ H1 aQ _ (S.cI g1) λds vs H2 cP h2 r2 g2=>q _ _ H2 cP h2 (.cons (Rep.mono g2.f d r1) r2) (g1.trans g2))
theorem jK (h:pW c es ρ λds=>Sd (ds.length<=sizeLine) (R (.tup ds))):aH c (.Tuple es j pos) ρ R:=λσ H Hf Q S q =>
 bO (GJ G3) (h σ H Hf _ S λds vs H' ak ⟨hl,hR⟩ r g=>⟨by rw [<- r.length]; exact hl,λp hp=>by
  have g2:=bB.new g.b hp (o:=.tup vs)
  exact q _ _ _ _ hR (aI.mpr ⟨p,vs,rfl,.inl (.inl ah),r.mono g2.f⟩) (g.trans g2)⟩)
theorem Fg {R:Sl->Prop} (h:pW c es ρ λds=>Sd (ds.length<=sizeLine) (R (.ow ds))):dF c (.List es pos) ρ R:=λσ H Hf Q S q =>
 bO (GK G3) (h σ H Hf _ S λds vs H' ak ⟨hl,hR⟩ r g=>⟨by rw [<- r.length]; exact hl,λp hp=>by
  have g2:=bB.f7 g.b hp (o:=.lst vs)
  exact q _ _ _ _ hR ⟨p,vs,rfl,g.s.free hp,ah,g.b.free hp,r⟩ (g.trans g2)⟩)
variable {st:Stmt}
theorem G7 (h:nx ρ):aG c [] ρ nx p:=λσ H Hf D S o=>za Cu (o.nx σ H Hf ρ S h)
theorem ay (h:fS c st ρ (λρ'=>aG c sts ρ' nx p) p):aG c (st::sts) ρ nx p:=λσ H Hf D S o =>
 za (yz Oe sG) (h σ H Hf { D with nx:=Jx c.X sts D } S ⟨λσ' H' ak ρ' S' q=>q σ' H' ak D S' o,o.rt,o.bk,o.ct⟩)
theorem cC (h:dF c e ρ p.rt):fS c (.Return (some e) pos) ρ nx p:=λσ H Hf D S o =>
 dX (yC c9) (h σ H Hf _ S λr v H' ak hr rs g=>o.rt r v H' ak (S.bas.trans g) (rs.weak λp hp=>S.bas.s.free hp) hr)
theorem zk (hN:At N i x) (hi:At ρ i r) (hu:r.owned=true) (h:p.rt r)
 (hd:(x == ("__debug__":Str))=false:=by decide) (hcd:(x == ("__classdict__":Str))=false:=by decide) :
 fS c (.Return (some (.Name x pos2)) pos) ρ nx p:=λσ H Hf D S o=>by
 obtain ⟨v,e,rs⟩:=S.at_ i r hi.get (by rintro rfl; cases hu)
 exact dX (yC (r8 (X:=c.X) (i:=i) (by rw [c.eN]; exact hN.get) (by rw [c.esc]; rcases c.vis x hN.mem with h | h; exact .inl h; exact .inr (.inl h)) hd hcd)) ⟨v,e,o.rt r v H Hf S.bas rs h⟩
theorem Kq (h:kE c t ρ (mU (aG c A ρ nx p) (aG c B ρ nx p))):fS c (.If t A B pos) ρ nx p:=λσ H Hf D S o =>
 dX (JK Jw sG sG) (h σ H Hf _ S λx H' ak hx g=>by
  cases x with
  | true=>rw [if_pos rfl]; exact hx.t rfl σ H' ak D (S.cI g) o
  | false=>rw [if_neg OC]; exact hx.f rfl σ H' ak D (S.cI g) o)
def Nx (ρ:List Sl) (i:Nat) (R:List Sl->Prop) (r:Sl):Prop:=∃ ρ',SSet ρ i r ρ'/\R ρ'
theorem sI {R:List Sl->Prop} (h:SSet ρ i r ρ') (hr:R ρ'):Nx ρ i R r:=⟨ρ',h,hr⟩
theorem zm (hN:At N i x) (h:dF c e ρ (Nx ρ i nx))
 (hs:∀ env,swapsWith e (some (.Name x pos2)) pos.line env=pure false:=by intro _; walk_at "u") (hf:bk=false\/sc.names.lookup x=some .local:=by first | exact .inl rfl | exact .inr (by walk_at "u")):fS c (.Assign [.Name x pos2] e pos) ρ nx p:=λσ H Hf D S o =>
 dX (Gs (X:=c.X) (i:=i) (by rw [c.eN]; exact c.nd) (by rw [c.eN]; exact hN.get) (by rw [c.esc]; exact c.vis x hN.mem) c9 (hs _) (c.fn x hf)) (h σ H Hf _ S λr v H' ak ⟨ρ',hs,hx⟩ rs g=>o.nx _ H' ak _ (hs.eq ▸ S.set g rs) hx)
theorem cV {R:List Sl->Prop} (hN:At N i x) (h:Nx ρ i R (.va d)) (hf:bk=false\/sc.names.lookup x=some .local:=by first | exact .inl rfl | exact .inr (by walk_at "u")):mR c (.Name x pos) d ρ R:=λσ H Hf v Q S r q=>by
 obtain ⟨ρ',hs,h⟩:=h
 exact Fd (uv (X:=c.X) (i:=i) (by rw [c.eN]; exact c.nd) (by rw [c.eN]; exact hN.get) (by rw [c.esc]; exact c.vis x hN.mem) (c.fn x hf)) (q _ H Hf _ (hs.eq ▸ S.set (.refl S.sb) (r:=.va d) r) (.refl S.sb) h)
def wM (c:Ctx P w K mg base k N sc bk) (ts:List Expr) (ds:List D) (ρ:List Sl) (R:List Sl->Prop):Prop :=
 ∀ (σ:L2.St) (H Hf:Hp) (vs:List V) (Q:L2.St->Hp->Prop),bw c σ H Hf ρ->au c.X.K Hf ds vs->(∀ σ' H' ak ρ',bw c σ' H' ak ρ'->bB H Hf H' ak->R ρ'->Q σ' H') ->
  ∀ aa s us,Inv c.X aa σ H s->Vals vs us->wpAny (model c.X.prog c.X.w) c.X.A (assignInOrder ((assignEach ts c.X.env).map (·.2)) us) (λ_ s'=>∃ σ' H',Inv c.X aa σ' H' s'/\Q σ' H') c.X.xe s
theorem G8 {R:List Sl->Prop} (h:R ρ):wM c [] [] ρ R:=λσ H Hf vs Q S r q aa s us I rv=>by
 rw [aC] at r; subst r
 exact Cv aa s σ H [] us Q I rv ⟨rfl,q σ H Hf ρ S (.refl S.sb) h⟩
theorem C9 {R:List Sl->Prop} (hN:At N i x) (h:Nx ρ i (λρ'=>wM c ts ds ρ' R) (.va d))
 (hs:∀ env,(assignEach (.Name x pos::ts) env).map (·.2)=assign (.Name x pos) env::(assignEach ts env).map (·.2):=by intro _; walk_at "u") (hf:bk=false\/sc.names.lookup x=some .local:=by first | exact .inl rfl | exact .inr (by walk_at "u")):wM c (.Name x pos::ts) (d::ds) ρ R:=λσ H Hf vs Q S r q aa s us I rv=>by
 obtain ⟨ρ',hs',h⟩:=h
 rw [aE] at r
 obtain ⟨v,vr,rfl,r1,r2⟩:=r
 have hp:Jr c.X ts (λvs' σ' H' Q'=>∀ aa s us,Inv c.X aa σ' H' s->Vals vs' us->wpAny (model c.X.prog c.X.w) c.X.A (assignInOrder ((assignEach ts c.X.env).map (·.2)) us) (λ_ s'=>∃ σ'' H'',Inv c.X aa σ'' H'' s'/\Q' σ'' H'') c.X.xe s) :=
  λaa s σ H vs us Q I r h=>h aa s us I r
 refine yD (uv (X:=c.X) (i:=i) (by rw [c.eN]; exact c.nd) (by rw [c.eN]; exact hN.get) (by rw [c.esc]; exact c.vis x hN.mem) (c.fn x hf)) hp (hs _) aa s σ H _ us Q I rv ⟨v,vr,rfl,?_⟩
 have S1:=S.set (i:=i) (.refl S.sb) (r:=.va d) (v:=v) r1
 rw [<- hs'.eq] at S1
 exact h _ H Hf vr Q S1 r2 q
theorem uJ {R:List Sl->Prop} (he:d=.tup ds) (hl:ds.length=ts.length) (h:wM c ts ds ρ R)
 (hn:∀ env,(assignEach ts env).length=ts.length:=by intro _; walk_at "u") (hst:∀ env,(assignEach ts env).findIdx? (·.1)=none:=by intro _; walk_at "u"):mR c (.Tuple ts j pos) d ρ R:=λσ H Hf v Q S r q=>by
 subst he
 rw [aI] at r
 obtain ⟨a,xs,rfl,h1,h2⟩:=r
 have hp:Jr c.X ts (λvs' σ' H' Q'=>∀ aa s us,Inv c.X aa σ' H' s->Vals vs' us->wpAny (model c.X.prog c.X.w) c.X.A (assignInOrder ((assignEach ts c.X.env).map (·.2)) us) (λ_ s'=>∃ σ'' H'',Inv c.X aa σ'' H'' s'/\Q' σ'' H'') c.X.xe s) :=
  λaa s σ H vs us Q I r h=>h aa s us I r
 refine Fd (Gq (X:=c.X) (k:=j) (n:=ts.length) c.calm hp (hn _) (hst _)) ⟨a,xs,rfl,az S.sb h1,by rw [<- h2.length,hl],?_⟩
 exact h σ H Hf xs Q S h2 λσ' H' ak ρ' S' g' hR=>q σ' H' ak ρ' S' g' hR
theorem Kr (h:aH c e ρ λd=>mR c tg d ρ nx) (hs:∀ env,swapsWithSole [tg] e pos.line env=pure false:=by intro _; walk_at "u") (hw:∀ env,swappedStores [tg] e env=pure none:=by intro _; walk_at "u") (h1:∀ env,(assignEach [tg] env).map (·.2)=[assign tg env]:=by intro _; walk_at "u"):fS c (.Assign [tg] e pos) ρ nx p:=λσ H Hf D S o =>
 dX (yE c9 NO (hs _) (hw _) (h1 _)) (h σ H Hf _ S λd v H' ak hx r g=>hx σ H' ak v _ (S.cI g) r λσ' H2 cP ρ' S' _ hR=>o.nx σ' H2 cP ρ' S' hR)
theorem Ks (hNi:At N i x) (hNj:At N j y) (hij:i≠j) (h:aH c a ρ λd1=>aH c b ρ λd2=>Nx ρ i (λρ'=>Nx ρ' j nx (.va d2)) (.va d1))
 (hx:sc.names.lookup x=some .local:=by walk_at "u") (hy:sc.names.lookup y=some .local:=by walk_at "u")
 (hw:∀ env:Env,env.scope=sc->swappedStores [.Tuple [.Name x px,.Name y py] kt pt] (.Tuple [a,b] k2 pt2) env=pure (some [x,y]):=by (intro env he; cases env; cases he; walk_at "u"))
 (hs:∀ env,swapsWithSole [.Tuple [.Name x px,.Name y py] kt pt] (.Tuple [a,b] k2 pt2) pos.line env=pure false:=by intro _; walk_at "u")
 (hst:∀ env,starEach [a,b] env=(false,eval a env)::starEach [b] env:=by intro _; walk_at "u") (hst2:∀ env,starEach [b] env=[(false,eval b env)]:=by intro _; walk_at "u") :
 fS c (.Assign [.Tuple [.Name x px,.Name y py] kt pt] (.Tuple [a,b] k2 pt2) pos) ρ nx p:=λσ H Hf D S o =>
 dX (Gu (X:=c.X) (i:=i) (j:=j) c.calm (by rw [c.eN]; exact c.nd) (by rw [c.eN]; exact hNi.get) (by rw [c.eN]; exact hNj.get) hij (by rw [c.esc]; exact hx) (by rw [c.esc]; exact hy) (bK c9 (bK c9 dI (hst2 _)) (hst _)) (hw _ c.esc) (hs _))
  (h σ H Hf _ S λd1 v1 H1 aQ h1 r1 g1=>h1 σ H1 aQ _ (S.cI g1) λd2 v2 H2 cP ⟨ρ1,hs1,ρ2,hs2,h2⟩ r2 g2=>⟨v1,v2,rfl,by
    have S2:=(S.cI (g1.trans g2)).set (i:=i) (.refl g2.b) (r:=.va d1) (v:=v1) (Rep.mono g2.f d1 r1)
    rw [<- hs1.eq] at S2
    have S3:=S2.set (i:=j) (.refl g2.b) (r:=.va d2) (v:=v2) r2
    rw [<- hs2.eq] at S3
    exact o.nx _ H2 cP _ S3 h2⟩)
theorem Ku {f:Int->Int->Int} (ho:fG c.X (inplaceOp op) (rI C λi j=>.int (f i j))) (hN:At N i x) (hi:At ρ i (.va (.int m)))
 (h:aH c e ρ (I1 λj=>Sd (C m j) (Nx ρ i nx (.va (.int (f m j)))))) (hf:bk=false\/sc.names.lookup x=some .local:=by first | exact .inl rfl | exact .inr (by walk_at "u")):fS c (.AugAssign (.Name x pos2) op e pos) ρ nx p:=λσ H Hf D S o=>by
 obtain ⟨v,e1,r1⟩:=S.va hi.get
 rw [aB] at r1; subst r1
 have hip:NJ c.X op (rI C λi j=>.int (f i j)):=λaa s σ H x y v u Q I rx ry h=>ho aa s σ H x y v u Q I rx ry h
 refine dX (Gv (X:=c.X) (i:=i) (by rw [c.eN]; exact c.nd) (by rw [c.eN]; exact hN.get) (by rw [c.esc]; exact c.vis x hN.mem) c9 hip (c.fn x hf)) ⟨_,e1,h σ H Hf _ S λd v H' ak ⟨j,ed,⟨hC,ρ',hs,hn⟩⟩ r g=>?_⟩
 subst ed; rw [aB] at r
 have S2:=S.set g (i:=i) (r:=.va (.int (f m j))) (show Rep c.X.K ak (.int (f m j)) (.int (f m j)) from aB.mpr rfl)
 rw [<- hs.eq] at S2
 exact ⟨m,j,rfl,r,hC,o.nx _ H' ak _ S2 hn⟩
theorem G9 (hN:At N i x) (hi:At ρ i (.va (.int m))) (h:aH c e ρ (I1 λj=>Nx ρ i nx (.va (.int (m - j))))) (hf:bk=false\/sc.names.lookup x=some .local:=by first | exact .inl rfl | exact .inr (by walk_at "u")) :
 fS c (.AugAssign (.Name x pos2) .Sub e pos) ρ nx p :=
 Ku (C:=λ_ _=>True) (f:=λi j=>i - j) (λaa s σ H x y v u Q I rx ry ⟨i,j,e1,e2,_,q⟩=>Cy aa s σ H x y v u Q I rx ry ⟨i,j,e1,e2,q⟩) hN hi (h.imp λd ⟨j,e,q⟩=>⟨j,e,trivial,q⟩) hf
theorem uK (hq:c.X.xe=λ_ _=>False) (I:Nat->List Sl->Prop) (h0:I m₀ ρ)
 (h:∀ m ρ',I m ρ'->kE c t ρ' (mU (aG c body ρ' (λr=>∃ m',m'<m/\I m' r) { ct:=λr=>∃ m',m'<m/\I m' r,bk:=nx,rt:=p.rt }) (nx ρ'))) :
 fS c (.While t body [] pos) ρ nx p:=λσ H Hf D S o =>
 dX (yF (by rw [hq]; exact PassesOwn.never) Jw sG) ⟨λm σ H=>∃ Hf ρ',bw c σ H Hf ρ'/\I m ρ',⟨m₀,Hf,ρ,S,h0⟩,λm σ H ⟨Hf,ρ',S,hI⟩=>h m ρ' hI σ H Hf _ S λx H' ak hx g=>by
  cases x with
  | false=>rw [if_neg OC]; exact o.nx σ H' ak ρ' (S.cI g) (hx.f rfl)
  | true =>
   rw [if_pos rfl]
   refine ⟨λσ' H'=>∃ m',m'<m/\∃ Hf ρ',bw c σ' H' Hf ρ'/\I m' ρ',λσ' H' ⟨m',hl,hh⟩=>⟨m',hl,hh⟩,?_⟩
   exact hx.t rfl σ H' ak _ (S.cI g) ⟨λσ H Hf ρ S ⟨m',hl,hi⟩=>⟨m',hl,Hf,ρ,S,hi⟩,o.rt,λσ H Hf ρ S q=>o.nx σ H Hf ρ S q,λσ H Hf ρ S ⟨m',hl,hi⟩=>⟨m',hl,Hf,ρ,S,hi⟩⟩⟩
end
theorem iM (h:n<=1000):n<=sizeLine:=QD (wL h)
theorem zp (h:0<j) (h2:j.natAbs.log2<9000):zf j:=⟨h,h2⟩
inductive Res where
 | ok (r:Sl)
 | ex (C:Addr)
noncomputable abbrev Fn:=List D->Res->Prop
noncomputable def dS (K:Oo) (F:Fn):Sp:=λvs H Q E=>∃ Hf ds r,aN Hf H/\au K Hf ds vs/\F ds r/\match r with
 | .ok sl=>∀ v H' ak,bB H Hf H' ak->bh K (λp=>H p=none) H' ak sl v->Q v H'
 | .ex C=>∀ a H',aN H H'->E (.ref C) (some a) H'
structure cU (P:Program) (w:World) (K:Oo) (mg:Str->Option Value) (base:Heap) (k:Nat) (x:Str) (F:Fn):Prop where
 ex:∃ f fd ps,mg x=some (.ref f)/\Qu K (.ref f)=true/\Binds K fd ps []/\br P w K mg base (dD P w) k f fd ps (dS K F)
section
variable {K:Oo} {c:Ctx P w K mg base k N sc bk}
noncomputable def Hg (c:Ctx P w K mg base k N sc bk) (ρ:List Sl) (R:Sl->Prop):Res->Prop
 | .ok sl=>R sl
 | .ex C=>c.RX C ρ
theorem Dc (h:cU P w K mg base j x F) (hj:j<=k):∃ f,mg x=some (.ref f)/\Qu K (.ref f)=true /\
 ∀ (aa:List (Addr×Obj)) (σ:L2.St) (H Hf:Hp) (s:Shared) (us:List Value) (vs:List V) (ds:List D) (r:Res) (Q:VK),Inv c.X aa σ H s->bw c σ H Hf ρ->Vals vs us->au c.X.K Hf ds vs->F ds r ->
  (∀ sl v H' ak,r=.ok sl->bh c.X.K (λp=>H p=none) H' ak sl v->bB H Hf H' ak->Q v H')->(∀ C,r=.ex C->c.RX C ρ)->wpAny (model c.X.prog c.X.w) c.X.A (call (.ref f) us) (EP c.X aa σ Q) c.X.xe s:=by
 obtain ⟨f,fd,ps,hm,hk,hb,hF⟩:=h.ex
 refine ⟨f,hm,hk,λaa σ H Hf s us vs ds r Q I S rv rs hr q hx=>?_⟩
 have hF':br c.X.prog c.X.w c.X.K c.X.mg c.X.base (dD c.X.prog c.X.w) k f fd ps (dS c.X.K F):=by rw [c.eP,c.ew,c.eK,c.emg,c.eb]; exact hF.mono hj
 have uh:dS c.X.K F vs H Q (λcv ao H'=>∃ C,r=.ex C/\cv=.ref C/\aN H H'):=by
  refine ⟨Hf,ds,r,S.bas.b,rs,hr,?_⟩
  cases r with
  | ok sl=>exact λv H' ak g rs2=>q sl v H' ak rfl rs2 g
  | ex C=>exact λa H' s2=>⟨C,rfl,rfl,s2⟩
 have hl:us.length=ps.length:=by rw [<- rv.length]; exact hF'.len _ _ _ _ uh
 have hb':Binds c.X.K fd ps []:=by rw [c.eK]; exact hb
 have hb2:=hb' s us I.Ce (by simpa using hl)
 rw [PD] at hb2
 refine wpAny_call (Sk (hF'.run c.X.A c.X.stack s H ⟨us,[]⟩ us vs Q _ c.room I.GN hb2 rv uh) λr' s' hq=>?_)
 cases r' with
 | error e =>
  obtain ⟨a,C,H',rfl,hE,C',e1,e2,sm⟩:=hq
  cases e2
  exact c.exc C a aa σ H Hf ρ s H' s' I S (hx C e1) hE sm
 | ok fl =>
  cases fl with
  | ret u=>exact I.after hq
  | next=>exact PM hq
  | brk=>exact PM hq
  | cont=>exact PM hq
theorem x_call {R:Sl->Prop} (h:cU P w K mg base j x F) (hj:j<=k)
 (ha:pW c (e::es) ρ λds=>∃ r,F ds r/\Hg c ρ R r)
 (hg:sc.names.lookup x=some .globalImplicit:=by walk_at "u") (hdb:(x == ("__debug__":Str))=false:=by decide) (he:∀ env,starEach (e::es) env=(false,eval e env)::starEach es env:=by intro _; walk_at "u")
 (hpl:∀ env,(backTo pos (starEach es env)).any (·.1)=false:=by intro _; walk_at "u"):dF c (.Call (.Name x p) (e::es) [] pos) ρ R:=λσ H Hf Q S q aa s I=>by
 obtain ⟨f,hm,hk,run⟩:=Dc (c:=c) (ρ:=ρ) h hj
 refine Qw (nN I (by unfold Gl Pr; rw [c.esc]; exact hg) (by rw [c.emg]; exact hm) ?_ hdb)
 refine UH (h₀:=c.X.base) I.ok.mod.kin (by rw [c.eK]; exact hk) (bJ (ha σ H Hf (λvs H1=>∃ aQ ds,(∃ r,F ds r/\Hg c ρ R r)/\au c.X.K aQ ds vs/\bB H Hf H1 aQ) S (λds vs H1 aQ hr rs g=>⟨aQ,ds,hr,rs,g⟩) pos aa s I) λus s1 hh=>z2 hh λvs H1 hh=>w3 hh λI1 rv hh=>z2 hh λaQ ds hh=>w3 hh λhh rs g=>hh.elim λr hh=>w2 hh λhF hR=>⟨I1.Ce,?_⟩) (he _) (hpl _)
 refine run aa σ H1 aQ s1 us vs ds r Q I1 (S.cI g) rv rs hF (λsl v H' ak e1 rs2 g2=>?_) λC e1=>?_
 ·subst e1
  exact q sl v H' ak hR (rs2.weak λp hp=>g.s.free hp) (g.trans g2)
 ·subst e1
  exact hR
theorem aV (h:cU P w K mg base j x F) (hj:j<=k)
 (ha:pW c (e::es) ρ λds=>∃ r,F ds r/\Hg c ρ (Fe R) r)
 (hg:sc.names.lookup x=some .globalImplicit:=by walk_at "u") (hdb:(x == ("__debug__":Str))=false:=by decide) (he:∀ env,starEach (e::es) env=(false,eval e env)::starEach es env:=by intro _; walk_at "u")
 (hpl:∀ env,(backTo pos (starEach es env)).any (·.1)=false:=by intro _; walk_at "u"):aH c (.Call (.Name x p) (e::es) [] pos) ρ R:=e_x (x_call h hj ha hg hdb he hpl)
noncomputable def ie (N:List Str) (ds:List D):List Sl:=ds.map .va++OB (N.length - ds.length) .un
theorem zq (r:au K fh ds vs) (sb:aN fh H₀):fc K H₀ fh (L2.start N vs) H₀ fh (ie N ds):=by
 have hl:=r.length
 refine ⟨.refl sb,by simp [L2.start,ie,hl],λi r' h hu=>?_,λi j r1 r2 p hne h1 h2 o1 o2=>?_⟩
 ·by_cases q:i<ds.length
  ·have e:(ie N ds)[i]?=some (.va ds[i]):=by
    unfold ie
    rw [QG (by simpa using q)]; simp [q]
   rw [e] at h; cases h
   obtain ⟨x,e2,rx⟩:=r.get (i:=i) (d:=ds[i]) (by simp)
   refine ⟨x,?_,rx⟩
   unfold L2.start
   rw [QG (by simp; lia)]
   simp [e2]
  ·unfold ie at h
   rw [Rv (by simp; lia)] at h
   have:=Py h
   exact absurd (SI this) hu
 ·exfalso
  unfold ie at h1
  by_cases q:i<(ds.map Sl.va).length
  ·rw [QG q] at h1
   rw [OE] at h1
   cases z:ds[i]? with
   | none=>rw [z] at h1; cases h1
   | some d=>rw [z] at h1; cases h1; cases o1
  ·rw [Rv (by lia)] at h1
   have e3:=SI (Py h1)
   subst e3; cases o1
abbrev FS (N P:List Str) (st:Stmt):Prop:=(aR st).kind=.function/\(aR st).isCoroutine=false/\(aR st).isGenerator=false/\N.Nodup/\N.take P.length=P/\(∀ x∈P,(aR st).names.lookup x=some .local\/(aR st).names.lookup x=some .cell)/\(∀ y∈(aR st).names,y.2≠.free)/\∀ x∈N,(aR st).names.lookup x=some .local\/(aR st).names.lookup x=some .cell
theorem Fi {N P:List Str} {st:Stmt} (h:FS N P st):nQ N P (aR st)/\∀ x∈N,Loc (aR st) x:=⟨⟨h.1,h.2.1,h.2.2.1,h.2.2.2.1,h.2.2.2.2.1,h.2.2.2.2.2.1,h.2.2.2.2.2.2.1⟩,h.2.2.2.2.2.2.2⟩
theorem cB {st:Stmt} (Fu:eG K x qual st f fd) (SV:FS N ps st) (ar:∀ ds r,F ds r->ds.length=ps.length)
 (hok:∀ ds r,F ds r->∃ sl,r=.ok sl)
 (body:∀ (c:Ctx P w K mg base k N (aR st) false),c.X.xe=(λ_ _=>False)->∀ ds sl,F ds (.ok sl)->aG c (av st) (ie N ds) (λ_=>sl=.va .non) { rt:=λr=>r=sl }) :
 br P w K mg base (dD P w) (k+1) f fd ps (dS K F):=by
 obtain ⟨Sc,Vi⟩:=Fi SV
 obtain ⟨oc,od,kV,doc,pm,an,cdv,ct,osl,rfl,lk,hcd⟩:=Fu.ex
 refine E9 lk hcd Sc (λvs H Q E ⟨Hf,ds,r,_,rs,hF,_⟩=>by rw [<- rs.length]; exact ar _ _ hF) λA outer s H vs Q E hr ⟨Hf,ds,r,sb,rs,hF,hq⟩=>?_
 obtain ⟨sl,rfl⟩:=hok _ _ hF
 let X:Cx:=(sA (dD P w) P w K mg base N qual (aR st) f cdv A outer s H E).Jq
 let c:Ctx P w K mg base k N (aR st) false :=
  { X:=X,eP:=rfl,ew:=rfl,eK:=rfl,emg:=rfl,eb:=rfl,eN:=rfl,esc:=rfl,calm:=rfl,top:=λ_=>⟨rfl,rfl,rfl⟩,cb:=λ_ _ _ _ _ I x c h=>I.ok.cab x c rfl h,fn:=λ_ _=>.inl rfl,B:=H,room:=hr,nd:=Sc.nd,vis:=Vi,Hf:=Hf,RX:=λ_ _=>False,
    exc:=λ_ _ _ _ _ _ _ _ _ _ _ _ h _ _=>h.elim,RM:=λ_ _=>False,mde:=λ_ _ _ _ _ _ _ _ _ _ _ _ h _=>h.elim }
 refine ⟨_,r6.Jq (t:=Jx X (av st)) (sG (X:=X)),?_⟩
 refine body c rfl ds sl hF (L2.start N vs) H Hf _ (zq rs sb) ⟨λσ H' ak ρ S e=>?_,λr v H' ak g rv e=>?_,λ_ _ _ _ _ h=>h.elim,λ_ _ _ _ _ h=>h.elim⟩
 ·subst e
  exact hq .non H' ak S.bas (show Rep K ak .non .non from bX.mpr rfl)
 ·have e:r=sl:=e
  subst e
  exact hq v H' ak g rv
def MW (K:Oo) (r:List V->Hp->VK->Prop) (p:List D->(Sl->Prop)->Prop):Prop :=
 ∀ (ds:List D) (vs:List V) (H Hf:Hp) (Q:VK) (R:Sl->Prop),aN Hf H->au K Hf ds vs->p ds R->(∀ z v' H' ak,R z->bh K (λp=>H p=none) H' ak z v'->bB H Hf H' ak->Q v' H')->r vs H Q
theorem Kv {id:String} {R:Sl->Prop} (hc:fX c.X (.type id) r) (hd:MW c.X.K r q) (hm:mg x=none) (hv:bootBuiltins x=some (.type id))
 (ha:pW c (e::es) ρ λds=>q ds R) (hg:sc.names.lookup x=some .globalImplicit:=by walk_at "u") (hn:x≠"__name__":=by decide) (hdb:(x == ("__debug__":Str))=false:=by decide)
 (he:∀ env,starEach (e::es) env=(false,eval e env)::starEach es env:=by intro _; walk_at "u") (hpl:∀ env,(backTo pos (starEach es env)).any (·.1)=false:=by intro _; walk_at "u"):dF c (.Call (.Name x p) (e::es) [] pos) ρ R:=λσ H Hf Q S qq =>
 bO (mG hc (by unfold Gl Pr; rw [c.esc]; exact hg) (by rw [c.emg]; exact hm) hv G3 hn hdb (he _) (hpl _))
  (ha σ H Hf _ S λds vs H1 aQ h1 rs g=>hd ds vs H1 aQ Q R g.b rs h1 λz v' H' ak hz rz g2=>qq z v' H' ak hz (rz.weak λp hp=>g.s.free hp) (g.trans g2))
theorem pZ (h:au K H [d] vs):∃ v,vs=[v]/\Rep K H d v:=by
 rw [aE] at h
 obtain ⟨x,r,rfl,h1,h2⟩:=h
 rw [aC] at h2; subst h2
 exact ⟨x,rfl,h1⟩
def zu (K:Oo) (r:List V->Hp->VK->Prop) (p:List D->(D->Prop)->Prop):Prop :=
 ∀ (ds:List D) (vs:List V) (H Hf:Hp) (Q:VK) (R:D->Prop),aN Hf H->au K Hf ds vs->p ds R->(∀ d v H' ak,R d->Rep K ak d v->bB H Hf H' ak->Q v H')->r vs H Q
theorem uL {id:String} (hc:fX c.X (.builtin id) r) (hd:zu c.X.K r q) (hm:mg x=none) (hv:bootBuiltins x=some (.builtin id))
 (ha:pW c (e::es) ρ λds=>q ds R) (hg:sc.names.lookup x=some .globalImplicit) (hn:x≠"__name__") (hdb:(x == ("__debug__":Str))=false)
 (he:∀ env,starEach (e::es) env=(false,eval e env)::starEach es env) (hpl:∀ env,(backTo pos (starEach es env)).any (·.1)=false):aH c (.Call (.Name x p) (e::es) [] pos) ρ R:=λσ H Hf Q S qq =>
 bO (yK hc (by unfold Gl Pr; rw [c.esc]; exact hg) (by rw [c.emg]; exact hm) hv G3 hn hdb (he _) (hpl _))
  (ha σ H Hf _ S λds vs H1 aQ h1 rs g=>hd ds vs H1 aQ Q R g.b rs h1 λz v' H' ak hz rz g2=>qq z v' H' ak hz rz (g.trans g2))
theorem Kw {id:String} (hc:fX c.X (.type id) r) (hd:zu c.X.K r q) (hm:mg x=none) (hv:bootBuiltins x=some (.type id))
 (ha:pW c (e::es) ρ λds=>q ds R) (hg:sc.names.lookup x=some .globalImplicit) (hn:x≠"__name__") (hdb:(x == ("__debug__":Str))=false)
 (he:∀ env,starEach (e::es) env=(false,eval e env)::starEach es env) (hpl:∀ env,(backTo pos (starEach es env)).any (·.1)=false):aH c (.Call (.Name x p) (e::es) [] pos) ρ R:=λσ H Hf Q S qq =>
 bO (mG hc (by unfold Gl Pr; rw [c.esc]; exact hg) (by rw [c.emg]; exact hm) hv G3 hn hdb (he _) (hpl _))
  (ha σ H Hf _ S λds vs H1 aQ h1 rs g=>hd ds vs H1 aQ Q R g.b rs h1 λz v' H' ak hz rz g2=>qq z v' H' ak hz rz (g.trans g2))
end
end EV
namespace EV
open PySem PySem.Spec PySem.Calls PyProof.Rows L2
theorem Hh (x:bq P w H h a o):∃ u,h.get? a=some u:=by
 cases o with
 | lst xs=>obtain ⟨_,_,_,_,e⟩:=x; exact ⟨_,e⟩
 | tup xs=>obtain ⟨_,_,_,ob,e,_⟩:=x; exact ⟨_,e⟩
 | dK kvs=>obtain ⟨_,_,_,_,o,_,_,e,_⟩:=x; exact ⟨_,e⟩
 | dT kvs=>obtain ⟨_,_,_,_,o,_,_,e,_⟩:=x; exact ⟨_,e⟩
 | set S n=>obtain ⟨o,_,_,_,e,_⟩:=x; exact ⟨_,e⟩
 | ins C dx fs=>obtain ⟨_,_,_,e,_⟩:=x; exact ⟨_,e⟩
 | own y=>exact x
 | xd fs=>obtain ⟨_,⟨_,_,_,e,_⟩,_⟩:=x; exact ⟨_,e⟩
 | rng lo hi=>obtain ⟨_,_,_,e⟩:=x; exact ⟨_,e⟩
 | frz ob u=>obtain ⟨e,_⟩:=x; exact ⟨_,e⟩
 | tbl ps=>exact ⟨_,x⟩
 | met f y=>exact ⟨_,x⟩
 | ext φ =>exact x.2.1
section
variable {K:Oo}
end
open PySem.W Builtin Builtin.ObjectAttr Builtin.Getset_descriptor
structure Og (K:Oo) (C:Addr):Prop where
 ga:QM K (.ref C) "__getattribute__"=some (some (.builtin "BaseException.__getattribute__"))
 hk:QM K (.ref C) "__getattr__"=some none
 ca:QM K (.ref C) "__class__"=some (some (.builtin "object.__class__"))
 gt:UP K (.builtin "object.__class__") "__get__"=some (some (.builtin "getset_descriptor.__get__"))
 tk:PySem.W.takesIn K (.builtin "object.__class__")=some true
 mo:PySem.W.mroIn K C (.type "object")=some true
 mb:PySem.W.mroIn K C (.type "BaseException")=some true
inductive Fj (K:Oo):D->Value->Prop where
 | non:Fj K .non (.type "NoneType")
 | bl {x:Bool}:Fj K (.bl x) (.type "bool")
 | int {i:Int}:Fj K (.int i) (.type "int")
 | str {x:Str}:Fj K (.str x) (.type "str")
 | lst {ds:List EV.D}:Fj K (.lst ds) (.type "list")
 | tup {ds:List EV.D}:Fj K (.tup ds) (.type "tuple")
 | exc {C:Addr} (k:Og K C):Fj K (.exc C) (.ref C)
section
variable {K:Oo}
end
section
variable {X:Cx}
theorem nY (I:Inv X aa σ H s) (sb:aN Hf H):∀ (n:Nat) (d e:D) (v:V),lR n d e->Rep X.K Hf d v->Rep X.K Hf e v->d=e:=by
 intro n
 induction n with
 | zero =>
  intro d e v h r1 r2
  cases h with
  | sc h=>cases d <;> cases e <;> simp [jJ] at h <;> simp_all [Rep]
  | ln=>rw [bX] at r2; subst r2; rw [bu] at r1; obtain ⟨_,_,e,_⟩:=r1; cases e
  | nl=>rw [bX] at r1; subst r1; rw [bu] at r2; obtain ⟨_,_,e,_⟩:=r2; cases e
  | tn=>rw [bX] at r2; subst r2; rw [aI] at r1; obtain ⟨_,_,e,_⟩:=r1; cases e
  | nt=>rw [bX] at r1; subst r1; rw [aI] at r2; obtain ⟨_,_,e,_⟩:=r2; cases e
 | succ n ih =>
  have els:∀ (ds es:List D) (xs:List V),(∀ (i:Nat) (d e:D),ds[i]?=some d->es[i]?=some e->lR n d e)->au X.K Hf ds xs->au X.K Hf es xs->ds=es:=λds es xs h q1 q2=>by
   apply Th
   intro i
   cases a:ds[i]? with
   | none =>
    have:ds.length<=i:=by simpa using a
    symm
    rw [List.getElem?_eq_none_iff,q2.length,<- q1.length]; exact this
   | some d =>
    obtain ⟨x,ex,rx⟩:=q1.get a
    obtain ⟨e,ee,re⟩:=q2.get' ex
    rw [ee,ih d e x (h i d e a ee) rx re]
  intro d e v h r1 r2
  cases h with
  | sc h=>cases d <;> cases e <;> simp [jJ] at h <;> simp_all [Rep]
  | ln=>rw [bX] at r2; subst r2; rw [bu] at r1; obtain ⟨_,_,e,_⟩:=r1; cases e
  | nl=>rw [bX] at r1; subst r1; rw [bu] at r2; obtain ⟨_,_,e,_⟩:=r2; cases e
  | tn=>rw [bX] at r2; subst r2; rw [aI] at r1; obtain ⟨_,_,e,_⟩:=r1; cases e
  | nt=>rw [bX] at r1; subst r1; rw [aI] at r2; obtain ⟨_,_,e,_⟩:=r2; cases e
  | tup h =>
   rw [aI] at r1 r2
   obtain ⟨a,xs,rfl,p1,q1⟩:=r1
   obtain ⟨a',ys,e',p2,q2⟩:=r2
   cases e'
   have:=I.gD (az sb p1) (az sb p2)
   subst this
   rw [els _ _ _ h q1 q2]
  | lst h =>
   rw [bu] at r1 r2
   obtain ⟨a,xs,rfl,p1,q1⟩:=r1
   obtain ⟨a',ys,e',p2,q2⟩:=r2
   cases e'
   have:=I.pI (sb.seq p1) (sb.seq p2)
   subst this
   rw [els _ _ _ h q1 q2]
theorem nZ {α:Type} [BEq α] [LawfulBEq α] {a b:α} {i:Decidable (a=b)}:(a == b)=@decide (a=b) i:=by
 by_cases h:a=b
 ·subst h; simp
 ·simp [h]
theorem all_range {ds es:List D} (hn:ds.length=n) (hm:es.length=m) (h:n=m):((Pd n).all λj=>decide (ds[j]?=es[j]?))=decide (ds=es):=by
 rw [Sb,List.all_eq_true]
 simp only [TL,decide_eq_true_eq]
 constructor
 ·intro q
  apply Th
  intro i
  by_cases hi:i<n
  ·exact q i hi
  ·rw [Qm (by lia),Qm (by lia)]
 ·rintro rfl; intro _ _; rfl
theorem uM (h:jJ x y=true) (r1:Rep X.K Hf x v) (r2:Rep X.K Hf y v') (e1:RelV v u) (e2:RelV v' u'):OW A s u u' (decide (x=y)):=by
 cases x <;> cases y <;> simp [jJ] at h <;> simp only [aB,f6,bX,gE] at r1 r2 <;> subst r1 <;> subst r2
 case non.non=>cases e1; cases e2; simpa using OW.same _
 case non.bl b=>cases e1; cases e2; simpa using OW.none_bool (A:=A) (s:=s) b
 case non.int i=>cases e1; obtain ⟨t,rfl⟩:=e2; simpa using OW.none_int (A:=A) (s:=s) i t
 case non.str i=>cases e1; obtain ⟨t,rfl⟩:=e2; simpa using OW.none_str (A:=A) (s:=s) i t
 case bl.non b=>cases e1; cases e2; simpa using OW.bool_none (A:=A) (s:=s) b
 case bl.bl a b=>cases e1; cases e2; have q:=OW.bool_bool (A:=A) (s:=s) a b; rw [nZ (i:=inferInstance)] at q; simpa using q
 case bl.str a b=>cases e1; obtain ⟨t,rfl⟩:=e2; simpa using OW.bool_str (A:=A) (s:=s) a b t
 case int.non a=>obtain ⟨t,rfl⟩:=e1; cases e2; simpa using OW.int_none (A:=A) (s:=s) a t
 case int.int a b=>obtain ⟨t,rfl⟩:=e1; obtain ⟨t',rfl⟩:=e2; have q:=OW.int_int (A:=A) (s:=s) a t b t'; rw [nZ (i:=inferInstance)] at q; simpa using q
 case int.str a b=>obtain ⟨t,rfl⟩:=e1; obtain ⟨t',rfl⟩:=e2; simpa using OW.int_str (A:=A) (s:=s) a t b t'
 case str.non a=>obtain ⟨t,rfl⟩:=e1; cases e2; simpa using OW.str_none (A:=A) (s:=s) a t
 case str.bl a b=>obtain ⟨t,rfl⟩:=e1; cases e2; simpa using OW.str_bool (A:=A) (s:=s) a t b
 case str.int a b=>obtain ⟨t,rfl⟩:=e1; obtain ⟨t',rfl⟩:=e2; simpa using OW.str_int (A:=A) (s:=s) a t b t'
 case str.str a b=>obtain ⟨t,rfl⟩:=e1; obtain ⟨t',rfl⟩:=e2; have q:=OW.str_str (A:=A) (s:=s) a t b t'; rw [nZ (i:=inferInstance)] at q; simpa using q
theorem in1_units (A:Around):A.in1.units=A.units+1:=rfl
theorem uN:decide (D.tup ds=D.tup es)=decide (ds=es):=by simp
theorem jY:decide (D.lst ds=D.lst es)=decide (ds=es):=by simp
theorem n5 (I:Inv X aa σ H s) {A:Around} (h:∀ (i:Nat) (d e:D),ds[i]?=some d->es[i]?=some e->lR n d e)
 (ih:∀ (d e:D) (v v':V) (u u':Value) (A:Around),lR n d e->Rep X.K Hf d v->Rep X.K Hf e v'->RelV v u->RelV v' u'->A.units+n<cLine->OW A s u u' (decide (d=e)))
 (q1:au X.K Hf ds xs) (q2:au X.K Hf es ys) (r1:Vals xs us) (r2:Vals ys ws) (hu:A.in1.units+n<cLine) :
 ∀ j (h1:j<us.toArray.size) (h2:j<ws.toArray.size),OW A.in1 s us.toArray[j] ws.toArray[j] (decide (ds[j]?=es[j]?)):=λj h1 h2=>by
 have l1:=q1.length
 have l2:=q2.length
 have m1:=r1.length
 have m2:=r2.length
 simp only [OP] at h1 h2
 have hd:ds[j]?=some ds[j]:=OR (by lia)
 have he:es[j]?=some es[j]:=OR (by lia)
 obtain ⟨x,ex,rx⟩:=q1.get hd
 obtain ⟨y,ey,ry⟩:=q2.get he
 obtain ⟨u,eu,ru⟩:=r1.get ex
 obtain ⟨u',eu',ru'⟩:=r2.get ey
 have z1:us.toArray[j]=u:=by
  have:=OR h1
  rw [this] at eu
  simpa using eu
 have z2:ws.toArray[j]=u':=by
  have:=OR h2
  rw [this] at eu'
  simpa using eu'
 rw [z1,z2,hd,he]
 have q:=ih _ _ x y u u' A.in1 (h j _ _ hd he) rx ry ru ru' hu
 simpa using q
theorem wN (I:Inv X aa σ H s) (sb:aN Hf H):∀ (n:Nat) (d e:D) (v v':V) (u u':Value) (A:Around),lR n d e->Rep X.K Hf d v->Rep X.K Hf e v'->RelV v u->RelV v' u'->A.units+n<cLine->OW A s u u' (decide (d=e)):=by
 have non:∀ (n:Nat) (d e:D) (v v':V) (u u':Value) (A:Around),A.units<cLine->Rep X.K Hf d v->Rep X.K Hf e v'->RelV v u->RelV v' u' ->
  ((∃ ds,d=.lst ds/\e=.non)\/(∃ ds,d=.non/\e=.lst ds)\/(∃ ds,d=.tup ds/\e=.non)\/(∃ ds,d=.non/\e=.tup ds))->OW A s u u' (decide (d=e)):=by
  intro n d e v v' u u' A hu r1 r2 e1 e2 h
  rcases h with ⟨ds,rfl,rfl⟩ | ⟨ds,rfl,rfl⟩ | ⟨ds,rfl,rfl⟩ | ⟨ds,rfl,rfl⟩
  ·rw [bX] at r2; subst r2; rw [bu] at r1; obtain ⟨a,xs,rfl,p,_⟩:=r1; cases e1; cases e2
   obtain ⟨its,_,q,_⟩:=I.list (sb.seq p)
   simpa using OW.list_none (A:=A) q.isList hu
  ·rw [bX] at r1; subst r1; rw [bu] at r2; obtain ⟨a,xs,rfl,p,_⟩:=r2; cases e1; cases e2
   obtain ⟨its,_,q,_⟩:=I.list (sb.seq p)
   simpa using OW.none_list (A:=A) q.isList hu
  ·rw [bX] at r2; subst r2; rw [aI] at r1; obtain ⟨a,xs,rfl,p,_⟩:=r1; cases e1; cases e2
   obtain ⟨its,_,q,_⟩:=I.tuple (az sb p)
   simpa using OW.tuple_none (A:=A) (show s.heap.IsTuple a its.toArray from q) hu
  ·rw [bX] at r1; subst r1; rw [aI] at r2; obtain ⟨a,xs,rfl,p,_⟩:=r2; cases e1; cases e2
   obtain ⟨its,_,q,_⟩:=I.tuple (az sb p)
   simpa using OW.none_tuple (A:=A) (show s.heap.IsTuple a its.toArray from q) hu
 intro n
 induction n with
 | zero =>
  intro d e v v' u u' A h r1 r2 e1 e2 hu
  cases h with
  | sc h=>exact uM h r1 r2 e1 e2
  | ln=>exact non 0 _ _ _ _ _ _ A (by lia) r1 r2 e1 e2 (.inl ⟨_,rfl,rfl⟩)
  | nl=>exact non 0 _ _ _ _ _ _ A (by lia) r1 r2 e1 e2 (.inr (.inl ⟨_,rfl,rfl⟩))
  | tn=>exact non 0 _ _ _ _ _ _ A (by lia) r1 r2 e1 e2 (.inr (.inr (.inl ⟨_,rfl,rfl⟩)))
  | nt=>exact non 0 _ _ _ _ _ _ A (by lia) r1 r2 e1 e2 (.inr (.inr (.inr ⟨_,rfl,rfl⟩)))
 | succ n ih =>
  intro d e v v' u u' A h r1 r2 e1 e2 hu
  cases h with
  | sc h=>exact uM h r1 r2 e1 e2
  | ln=>exact non 0 _ _ _ _ _ _ A (by lia) r1 r2 e1 e2 (.inl ⟨_,rfl,rfl⟩)
  | nl=>exact non 0 _ _ _ _ _ _ A (by lia) r1 r2 e1 e2 (.inr (.inl ⟨_,rfl,rfl⟩))
  | tn=>exact non 0 _ _ _ _ _ _ A (by lia) r1 r2 e1 e2 (.inr (.inr (.inl ⟨_,rfl,rfl⟩)))
  | nt=>exact non 0 _ _ _ _ _ _ A (by lia) r1 r2 e1 e2 (.inr (.inr (.inr ⟨_,rfl,rfl⟩)))
  | @tup _ ds es h =>
   have hh:=lR.tup h
   have r1':=r1; have r2':=r2
   rw [aI] at r1 r2
   obtain ⟨a,xs,rfl,p1,q1⟩:=r1
   obtain ⟨b,ys,rfl,p2,q2⟩:=r2
   cases e1; cases e2
   by_cases hab:a=b
   ·subst hab
    have:=nY I sb _ _ _ _ hh r1' r2'
    rw [this]
    simpa using OW.same _
   ·obtain ⟨us,v1,t1,_⟩:=I.tuple (az sb p1)
    obtain ⟨ws,v2,t2,_⟩:=I.tuple (az sb p2)
    have key:=Ro.tuples (A:=A) (s:=s) (show s.heap.IsTuple a us.toArray from t1) (show s.heap.IsTuple b ws.toArray from t2) (by lia) (n5 I h ih q1 q2 v1 v2 (by rw [in1_units]; lia))
    have hl1:us.toArray.size=ds.length:=by simp [<- v1.length,q1.length]
    have hl2:ws.toArray.size=es.length:=by simp [<- v2.length,q2.length]
    have e:((Pd (min us.toArray.size ws.toArray.size)).all (λj=>decide (ds[j]?=es[j]?)) && us.toArray.size == ws.toArray.size)=decide (D.tup ds=D.tup es):=by
     rw [uN,hl1,hl2]
     by_cases hl:ds.length=es.length
     ·rw [hl,Nat.min_self]
      simp only [beq_self_eq_true,Bool.and_true]
      exact all_range hl rfl rfl
     ·have:¬ ds=es:=λz=>hl (by rw [z])
      simp [hl,this]
    rw [e] at key
    exact .of_refs hab key
  | @lst _ ds es h =>
   have hh:=lR.lst h
   have r1':=r1; have r2':=r2
   rw [bu] at r1 r2
   obtain ⟨a,xs,rfl,p1,q1⟩:=r1
   obtain ⟨b,ys,rfl,p2,q2⟩:=r2
   cases e1; cases e2
   by_cases hab:a=b
   ·subst hab
    have:=nY I sb _ _ _ _ hh r1' r2'
    rw [this]
    simpa using OW.same _
   ·obtain ⟨us,v1,t1,_⟩:=I.list (sb.seq p1)
    obtain ⟨ws,v2,t2,_⟩:=I.list (sb.seq p2)
    have hl1:us.toArray.size=ds.length:=by simp [<- v1.length,q1.length]
    have hl2:ws.toArray.size=es.length:=by simp [<- v2.length,q2.length]
    by_cases hl:ds.length=es.length
    ·have key:=Ro.lists (A:=A) (s:=s) t1.isList t2.isList (by rw [hl1,hl2,hl]) (by lia) (n5 I h ih q1 q2 v1 v2 (by rw [in1_units]; lia))
     rw [hl1,all_range rfl hl.symm rfl,<- jY] at key
     exact .of_refs hab key
    ·have key:=Ro.lists_lengths (A:=A) (s:=s) t1.isList t2.isList (by rw [hl1,hl2]; simpa using hl) (by lia)
     have e:decide (D.lst ds=D.lst es)=false:=by
      rw [jY]; exact decide_eq_false λz=>hl (by rw [z])
     rw [e]
     exact .of_refs hab key
theorem p6 (I:Inv X aa σ H s) (sb:aN Hf H) (hu:A.units+50<cLine) (hk:(d=.tup ds/\e=.tup es)\/(d=.lst ds/\e=.lst es)) (h:pX ds es)
 (r1:Rep X.K Hf d v) (r2:Rep X.K Hf e v') (e1:RelV v u) (e2:RelV v' u'):Ro A s u u' (decide (d=e))/\TX A s u u' (!decide (d=e)):=by
 have ih:=wN I sb 40
 rcases hk with ⟨rfl,rfl⟩ | ⟨rfl,rfl⟩
 ·rw [aI] at r1 r2
  obtain ⟨a,xs,rfl,p1,q1⟩:=r1
  obtain ⟨b,ys,rfl,p2,q2⟩:=r2
  cases e1; cases e2
  obtain ⟨us,v1,t1,_⟩:=I.tuple (az sb p1)
  obtain ⟨ws,v2,t2,_⟩:=I.tuple (az sb p2)
  have els:=n5 (A:=A) I h ih q1 q2 v1 v2 (by rw [in1_units]; lia)
  have key:=Ro.tuples (A:=A) (s:=s) (show s.heap.IsTuple a us.toArray from t1) (show s.heap.IsTuple b ws.toArray from t2) (by lia) els
  have key2:=TX.tuples (A:=A) (s:=s) (show s.heap.IsTuple a us.toArray from t1) (show s.heap.IsTuple b ws.toArray from t2) (by lia) els
  have hl1:us.toArray.size=ds.length:=by simp [<- v1.length,q1.length]
  have hl2:ws.toArray.size=es.length:=by simp [<- v2.length,q2.length]
  have e:((Pd (min us.toArray.size ws.toArray.size)).all (λj=>decide (ds[j]?=es[j]?)) && us.toArray.size == ws.toArray.size)=decide (D.tup ds=D.tup es):=by
   rw [uN,hl1,hl2]
   by_cases hl:ds.length=es.length
   ·rw [hl,Nat.min_self]
    simp only [beq_self_eq_true,Bool.and_true]
    exact all_range hl rfl rfl
   ·have:¬ ds=es:=λz=>hl (by rw [z])
    simp [hl,this]
  rw [e] at key key2
  exact ⟨key,key2⟩
 ·rw [bu] at r1 r2
  obtain ⟨a,xs,rfl,p1,q1⟩:=r1
  obtain ⟨b,ys,rfl,p2,q2⟩:=r2
  cases e1; cases e2
  obtain ⟨us,v1,t1,_⟩:=I.list (sb.seq p1)
  obtain ⟨ws,v2,t2,_⟩:=I.list (sb.seq p2)
  have hl1:us.toArray.size=ds.length:=by simp [<- v1.length,q1.length]
  have hl2:ws.toArray.size=es.length:=by simp [<- v2.length,q2.length]
  by_cases hl:ds.length=es.length
  ·have els:=n5 (A:=A) I h ih q1 q2 v1 v2 (by rw [in1_units]; lia)
   have key:=Ro.lists (A:=A) (s:=s) t1.isList t2.isList (by rw [hl1,hl2,hl]) (by lia) els
   have key2:=TX.lists (A:=A) (s:=s) t1.isList t2.isList (by rw [hl1,hl2,hl]) (by lia) els
   rw [hl1,all_range rfl hl.symm rfl,<- jY] at key key2
   exact ⟨key,key2⟩
  ·have key:=Ro.lists_lengths (A:=A) (s:=s) t1.isList t2.isList (by rw [hl1,hl2]; simpa using hl) (by lia)
   have key2:=TX.lists_lengths (A:=A) (s:=s) t1.isList t2.isList (by rw [hl1,hl2]; simpa using hl) (by lia)
   have e:decide (D.lst ds=D.lst es)=false:=by
    rw [jY]; exact decide_eq_false λz=>hl (by rw [z])
   rw [e]
   exact ⟨key,key2⟩
end
section
variable {K:Oo} {c:Ctx P w K mg base k N sc bk}
noncomputable def Dd (K:Oo) (neg:Bool):R2:=λv u H Q=>∃ x y Hf,aN Hf H/\Rep K Hf x v/\Rep K Hf y u/\J8 x y/\Q (.bl (if neg then !decide (x=y) else decide (x=y))) H
theorem zw:fG c.X (compareOp .Eq) (Dd c.X.K false):=λaa s σ H v u v' u' Q I rv ru ⟨x,y,Hf,sb,rx,ry,ok,q⟩=>by
 rcases ok with h | ⟨ds,es,hk,hi⟩
 ·obtain ⟨z1,z2⟩:=uI h rx ry
  exact JR aa s σ H v u v' u' Q I rv ru ⟨z1,by rw [z2]; exact q⟩
 ·exact (p6 I sb (by have:=c.room.un; lia) hk hi rx ry rv ru).1 _ _ _ _ ⟨.bl (decide (x=y)),H,I,rfl,q⟩
theorem Hi:fG c.X (compareOp .NotEq) (Dd c.X.K true):=λaa s σ H v u v' u' Q I rv ru ⟨x,y,Hf,sb,rx,ry,ok,q⟩=>by
 rcases ok with h | ⟨ds,es,hk,hi⟩
 ·obtain ⟨z1,z2⟩:=uI h rx ry
  exact JS aa s σ H v u v' u' Q I rv ru ⟨z1,by rw [z2]; exact q⟩
 ·exact (p6 I sb (by have:=c.room.un; lia) hk hi rx ry rv ru).2 _ _ _ _ ⟨.bl (!decide (x=y)),H,I,rfl,q⟩
theorem zz:zh K (Dd K false) λx y R=>ze x y R:=λx y v u H Hf Q R s rx ry ⟨h1,h2⟩ q=>⟨x,y,Hf,s,rx,ry,h1,q _ h2⟩
theorem Hj:zh K (Dd K true) λx y R=>ze x y λb=>R (!b):=λx y v u H Hf Q R s rx ry ⟨h1,h2⟩ q=>⟨x,y,Hf,s,rx,ry,h1,q _ h2⟩
theorem MX (h:aH c a ρ λx=>aH c b ρ λy=>ze x y T):kE c (.Compare a [.Eq] [b] pos) ρ T:=pY zw zz h (jk b)
theorem MY (h:aH c a ρ λx=>aH c b ρ λy=>ze x y λb=>T (!b)):kE c (.Compare a [.NotEq] [b] pos) ρ T:=pY Hi Hj h (jk b)
theorem MZ (h:aH c a ρ λx=>aH c b ρ λy=>ze x y λb=>R (.bl b)):aH c (.Compare a [.Eq] [b] pos) ρ R:=Kg zw zz h (jk b)
end
section
variable {P:Program} {w:World} {K:Oo} {mg:Str->Option Value} {base:Heap} {k:Nat} {N:List Str} {sc:Scope} {bk:Bool} {c:Ctx P w K mg base k N sc bk} {ρ:List Sl} {pos:Pos} {a b e:Expr} {es:List Expr} {R:D->Prop} {T:Bool->Prop}
noncomputable def D.row:D->Option (List D)
 | .lst ds=>some ds
 | .tup ds=>some ds
 | _=>none
theorem iN (e:d.row=some ds) (h:Rep K H d v):∃ p xs,v=.ref p/\au K H ds xs/\((d=.lst ds/\gC K H p xs)\/(d=.tup ds/\dh K H p xs)):=by
 cases d with
 | lst _=>cases e; rw [bu] at h; obtain ⟨p,xs,rfl,h1,h2⟩:=h; exact ⟨p,xs,rfl,h2,.inl ⟨rfl,h1⟩⟩
 | tup _=>cases e; rw [aI] at h; obtain ⟨p,xs,rfl,h1,h2⟩:=h; exact ⟨p,xs,rfl,h2,.inr ⟨rfl,h1⟩⟩
 | _=>cases e
def Jy (x y:D) (R:D->Prop):Prop:=∃ ds i d,x.row=some ds/\y=.int i/\kq ds i=some d/\R d
theorem zA (h:kq ds i=some d) (hR:R d):Jy (.lst ds) (.int i) R:=⟨ds,i,d,rfl,rfl,h,hR⟩
theorem mV (h:kq ds i=some d) (hR:R d):Jy (.tup ds) (.int i) R:=⟨ds,i,d,rfl,rfl,h,hR⟩
theorem zB (h:au K H ds xs) (e:kq ds i=some d):∃ x,kq xs i=some x/\Rep K H d x:=by
 unfold kq at e |-
 rw [<- h.length]
 obtain ⟨j,e1,e2⟩:=Option.bind_eq_some_iff.mp e
 obtain ⟨x,e3,rx⟩:=h.get e2
 exact ⟨x,by rw [e1]; exact e3,rx⟩
theorem Kx (h:aH c a ρ λx=>aH c b ρ λy=>Jy x y R) (hs:jX b:=by intro _ _; walk_at "u"):aH c (.Subscript a b pos) ρ R:=λσ H Hf Q S q =>
 bO (J0 (Fb.or CJ GQ) c9 c9 hs) (h σ H Hf _ S λx v H1 aQ h1 r1 g1=>h1 σ H1 aQ _ (S.cI g1) λy u H2 cP ⟨ds,i,d,e1,e2,e3,hR⟩ r2 g2=>by
  subst e2
  rw [aB] at r2; subst r2
  obtain ⟨p,xs,rfl,hr,hk⟩:=iN e1 (Rep.mono g2.f x r1)
  obtain ⟨z,ez,rz⟩:=zB hr e3
  have fin:=q d z H2 cP hR rz (g1.trans g2)
  rcases hk with ⟨_,hk⟩ | ⟨_,hk⟩
  ·exact .inl ⟨p,xs,i,z,rfl,rfl,g2.b.seq hk,ez,fin⟩
  ·exact .inr ⟨p,xs,i,z,rfl,rfl,az g2.b hk,ez,fin⟩)
theorem uO (sb:aN Hf H) {d:D} (h:(d=.lst ds/\gC K Hf p xs)\/(d=.tup ds/\dh K Hf p xs)):gC K H p xs\/dh K H p xs:=h.elim (λz=>.inl (sb.seq z.2)) λz=>.inr (az sb z.2)
theorem zC:zu K (λxs H Q=>∃ p ys,xs=[.ref p]/\(gC K H p ys\/dh K H p ys)/\Q (.int ys.length) H) (λds R=>∃ x,ds=[x]/\∃ ys,x.row=some ys/\R (.int ys.length)):=by
 rintro ds vs H Hf Q R s rs ⟨x,rfl,ys,e,hR⟩ q
 obtain ⟨v,rfl,rv⟩:=pZ rs
 obtain ⟨p,xs,rfl,hr,hk⟩:=iN e rv
 exact ⟨p,xs,rfl,uO s hk,q _ _ H Hf hR (by rw [hr.length]; exact aB.mpr rfl) (.refl s)⟩
theorem e_len (hm:mg "len"=none) (h:aH c e ρ λx=>∃ ys,x.row=some ys/\R (.int ys.length)) (hg:sc.names.lookup (Om "len")=some .globalImplicit:=by walk_at "u")
 (he:∀ env,starEach [e] env=(false,eval e env)::starEach [] env:=by intro _; walk_at "u"):aH c (.Call (.Name "len" p) [e] [] pos) ρ R :=
 uL nT zC hm PySem.boot_len (bx (h.imp λd hd=>kF ⟨d,rfl,hd⟩) he) hg (by decide) (by decide) he (by intro _; walk_at "u")
theorem zD {R:Sl->Prop} (hm:mg "list"=none) (h:aH c e ρ λx=>∃ ys,x.row=some ys/\R (.ow ys)) (hg:sc.names.lookup (Om "list")=some .globalImplicit:=by walk_at "u")
 (he:∀ env,starEach [e] env=(false,eval e env)::starEach [] env:=by intro _; walk_at "u"):dF c (.Call (.Name "list" p) [e] [] pos) ρ R :=
 Kv nU (q:=λds R=>∃ x ys,ds=[x]/\x.row=some ys/\R (.ow ys)) (λds vs H Hf Q R s rs ⟨x,ys,e1,e2,hR⟩ q=>by
  subst e1
  obtain ⟨v,rfl,rv⟩:=pZ rs
  obtain ⟨p,xs,rfl,hr,hk⟩:=iN e2 rv
  exact ⟨p,xs,rfl,uO s hk,λl hl=>by
   have g2:=bB.f7 s hl (o:=.lst xs)
   exact q _ _ _ _ hR ⟨l,xs,rfl,hl,ah,s.free hl,hr⟩ g2⟩) hm PyProof.Rows.boot_list (bx (h.imp λd ⟨ys,h1,h2⟩=>kF ⟨d,ys,rfl,h1,h2⟩) he) hg (by decide) (by decide) he (by intro _; walk_at "u")
theorem jZ (hm:mg "tuple"=none) (h:aH c e ρ λx=>∃ ys,x.row=some ys/\R (.tup ys)) (hg:sc.names.lookup (Om "tuple")=some .globalImplicit:=by walk_at "u")
 (he:∀ env,starEach [e] env=(false,eval e env)::starEach [] env:=by intro _; walk_at "u"):aH c (.Call (.Name "tuple" p) [e] [] pos) ρ R :=
 Kw lW (q:=λds R=>∃ x ys,ds=[x]/\x.row=some ys/\R (.tup ys)) (λds vs H Hf Q R s rs ⟨x,ys,e1,e2,hR⟩ q=>by
  subst e1
  obtain ⟨v,rfl,rv⟩:=pZ rs
  obtain ⟨p,xs,rfl,hr,hk⟩:=iN e2 rv
  rcases hk with ⟨_,hk⟩ | ⟨_,hk⟩
  ·exact ⟨p,xs,rfl,.inl ⟨s.seq hk,λl hl=>by
    have g2:=bB.new s hl (o:=.tup xs)
    exact q _ _ _ _ hR (aI.mpr ⟨l,xs,rfl,.inl (.inl ah),hr.mono g2.f⟩) g2⟩⟩
  ·exact ⟨p,xs,rfl,.inr ⟨az s hk,q _ _ H Hf hR (aI.mpr ⟨p,xs,rfl,hk,hr⟩) (.refl s)⟩⟩) hm PyProof.Rows.boot_tuple (bx (h.imp λd ⟨ys,h1,h2⟩=>kF ⟨d,ys,rfl,h1,h2⟩) he) hg (by decide) (by decide) he (by intro _; walk_at "u")
noncomputable def Fl (K:Oo):R2:=λx y H Q=>∃ l b xs zs,x=.ref l/\y=.ref b/\gC K H l xs/\gC K H b zs/\xs.length+zs.length<=sizeLine/\∀ p,H p=none->Q (.ref p) (upd H p (.lst (xs++zs)))
theorem De:fG X (binaryOp .Add) (Fl X.K):=by
 intro aa s σ H x y v u Q I rx ry h
 obtain ⟨l,b,xs,zs,rfl,rfl,hH,hB,hz,q⟩:=h
 cases rx
 cases ry
 obtain ⟨its,r,hl,z⟩:=I.list hH
 obtain ⟨its2,r2,hl2,z2⟩:=I.list hB
 have e1:=r.length
 have e2:=r2.length
 obtain ⟨⟨cls,dd,data,sl⟩,n,p1,p2,p3,p4⟩:=hl
 obtain ⟨⟨cls2,dd2,data2,sl2⟩,n',q1,q2,q3,q4⟩:=hl2
 simp only at p2 p3 p4 q2 q3 q4
 subst p2 p3 p4 q2 q3 q4
 have ea:its.toArray++its2.toArray=(its++its2).toArray:=by simp
 refine TV ⟨_,p1,rfl⟩ ⟨_,q1,rfl⟩ noFill_list_add seq_list_add PySem.F.slot_list_add PySem.F.entry_list_add (PySem.F.args_list_add_2 _ _) (list_addW l b its.toArray its2.toArray n n' none none sl sl2 (by simp; lia)) ⟨p1,q1,?_⟩
 rw [ea]
 exact ⟨.ref _,_,I.CL (t':=s.toks) (r.append r2) (by rw [O7]; lia),rfl,q _ I.fresh⟩
noncomputable def zE (K:Oo):R2:=λx y H Q=>∃ a b xs ys,x=.ref a/\y=.ref b/\dh K H a xs/\dh K H b ys/\xs.length+ys.length<=sizeLine /\
 (xs=[]->Q (.ref b) H)/\(ys=[]->Q (.ref a) H)/\∀ p,H p=none->Q (.ref p) (upd H p (.tup (xs++ys)))
theorem zF:fG X (binaryOp .Add) (zE X.K):=by
 intro aa s σ H x y v u Q I rx ry h
 obtain ⟨t,b,xs,ys,rfl,rfl,hH,hB,hz,c1,c2,q⟩:=h
 cases rx
 cases ry
 obtain ⟨vs,r,ht,z⟩:=I.tuple hH
 obtain ⟨ws,r2,hb,z2⟩:=I.tuple hB
 obtain ⟨⟨cls,dd,data,sl⟩,ho,hc,n,hd⟩:=id ht
 obtain ⟨⟨cls2,dd2,data2,sl2⟩,ho2,hc2,n2,hd2⟩:=id hb
 simp only at hc hd hc2 hd2
 subst hc hd hc2 hd2
 have e:vs.toArray++ws.toArray=(vs++ws).toArray:=by simp
 have e1:=r.length
 have e2:=r2.length
 by_cases hv:vs=[]
 ·exact TV ⟨_,ho,rfl⟩ ⟨_,ho2,rfl⟩ UX seq_tuple_add Uq Ul (Uj _ _)
   (tuple_addW0 t b vs.toArray ws.toArray n n2 dd dd2 sl sl2 (by simp [hv])) ⟨ho,ho2,⟨.ref b,H,I,rfl,c1 (by rw [Vals.uD r] at hv; exact hv)⟩⟩
 ·by_cases hw:ws=[]
  ·exact TV ⟨_,ho,rfl⟩ ⟨_,ho2,rfl⟩ UX seq_tuple_add Uq Ul (Uj _ _)
    (tuple_addW1 t b vs.toArray ws.toArray n n2 dd dd2 sl sl2 (by simpa using hv) (by simp [hw])) ⟨ho,ho2,⟨.ref t,H,I,rfl,c2 (by rw [Vals.uD r2] at hw; exact hw)⟩⟩
  ·refine TV ⟨_,ho,rfl⟩ ⟨_,ho2,rfl⟩ UX seq_tuple_add Uq Ul (Uj _ _)
    (tuple_addW2 t b vs.toArray ws.toArray n n2 dd dd2 sl sl2 (by simpa using hv) (by simpa using hw) (by rw [OP,OP]; lia)) ⟨ho,ho2,?_⟩
   rw [e]
   refine ⟨.ref s.heap.objs.size,_,I.laid (t':=s.toks) (o:=.tup (xs++ys)) (λb ob q=>Ow _ q) (Ot _) ?_,rfl,q _ (I.hok.fresh (Ot _))⟩
   exact ⟨by rw [O7]; exact hz,_,r.append r2,IsTup.new _ _⟩
inductive kG:D->D->(Sl->Prop)->Prop where
 | int {i j:Int} {R:Sl->Prop} (h:R (.va (.int (i+j)))):kG (.int i) (.int j) R
 | lst {ds es:List D} {R:Sl->Prop} (h:Sd (ds.length+es.length<=sizeLine) (R (.ow (ds++es)))):kG (.lst ds) (.lst es) R
 | tup {ds es:List D} {R:Sl->Prop} (h:Sd (ds.length+es.length<=sizeLine) (R (.va (.tup (ds++es))))):kG (.tup ds) (.tup es) R
 | str {x y:Str} {R:Sl->Prop} (h:Sd (x.length+y.length<=sizeLine) (R (.va (.str (x++y))))):kG (.str x) (.str y) R
theorem jL (h:au K H ds []):ds=[]:=by
 have:=h.length; cases ds with
 | nil=>rfl
 | cons _ _=>simp at this
theorem Df:LU K (λx y H Q=>(((uw λi j=>V.int (i+j)) x y H Q\/Fl K x y H Q)\/zE K x y H Q)\/∃ i j,x=.str i/\y=.str j/\i.length+j.length<=sizeLine/\Q (.str (i++j)) H) kG:=by
 rintro x y v u H Hf Q R s rx ry h q
 cases h with
 | @int i j _ h =>
  rw [aB] at rx ry
  exact .inl (.inl (.inl ⟨i,j,rx,ry,q (.va (.int (i+j))) _ H Hf h (show Rep K Hf (.int (i+j)) _ from aB.mpr rfl) (.refl s)⟩))
 | @lst ds es _ h =>
  rw [bu] at rx ry
  obtain ⟨a,xs,rfl,h1,h2⟩:=rx
  obtain ⟨b,ys,rfl,h3,h4⟩:=ry
  refine .inl (.inl (.inr ⟨a,b,xs,ys,rfl,rfl,s.seq h1,s.seq h3,by rw [<- h2.length,<- h4.length]; exact h.s,λp hp=>?_⟩))
  exact q (.ow (ds++es)) _ _ _ h.r ⟨p,xs++ys,rfl,hp,ah,s.free hp,h2.append h4⟩ (bB.f7 s hp)
 | @tup ds es _ h =>
  rw [aI] at rx ry
  obtain ⟨a,xs,rfl,h1,h2⟩:=rx
  obtain ⟨b,ys,rfl,h3,h4⟩:=ry
  refine .inl (.inr ⟨a,b,xs,ys,rfl,rfl,az s h1,az s h3,by rw [<- h2.length,<- h4.length]; exact h.s,λe=>?_,λe=>?_,λp hp=>?_⟩)
  ·subst e
   have:=jL h2
   subst this
   exact q (.va (.tup ([]++es))) _ H Hf h.r (show Rep K Hf (.tup ([]++es)) _ from aI.mpr ⟨b,ys,rfl,h3,h4⟩) (.refl s)
  ·subst e
   have:=jL h4
   subst this
   exact q (.va (.tup (ds++[]))) _ H Hf h.r (show Rep K Hf (.tup (ds++[])) _ from aI.mpr ⟨a,xs,rfl,h1,by rw [PD]; exact h2⟩) (.refl s)
  ·have g:=bB.new s hp (o:=.tup (xs++ys))
   exact q (.va (.tup (ds++es))) _ _ _ h.r (show Rep K _ (.tup (ds++es)) _ from aI.mpr ⟨p,xs++ys,rfl,.inl (.inl ah),(h2.append h4).mono g.f⟩) g
 | @str x y _ h =>
  rw [gE] at rx ry
  exact .inr ⟨x,y,rx,ry,h.s,q (.va (.str (x++y))) _ H Hf h.r (show Rep K Hf (.str (x++y)) _ from gE.mpr rfl) (.refl s)⟩
theorem zG {R:Sl->Prop} (h:aH c a ρ λx=>aH c b ρ λy=>kG x y R):dF c (.BinOp a .Add b pos) ρ R :=
 nX (fG.or (fG.or (fG.or GA De) zF) su) Df h
noncomputable def cutD {α:Type} (xs:List α) (lo hi:Option Int):List α:=(xs.drop (HT.cy xs.length 0 lo)).take (HT.cy xs.length xs.length hi - HT.cy xs.length 0 lo)
theorem p7 (h:au K H ds xs) (lo hi):au K H (cutD ds lo hi) (nR xs lo hi):=by
 unfold cutD nR
 rw [h.length]
 exact (h.drop _).take _
noncomputable def bP (X:Cx) (e:Option Expr):TO:=λσ H Q=>∀ aa s,Inv X aa σ H s->wpAny (model X.prog X.w) X.A (evalPart e X.env) (λu s'=>∃ o H',Inv X aa σ H' s'/\IsPart u o/\Q o H') X.xe s
theorem Ky {X:Cx} {e:Option Expr}:PO X e (bP X e):=λaa s σ H Q I h=>h aa s I
def Cg (c:Ctx P w K mg base k N sc bk) (e:Option Expr) (ρ:List Sl) (R:Option Int->Prop):Prop :=
 ∀ (σ:L2.St) (H Hf:Hp) (Q:Option Int->Hp->Prop),bw c σ H Hf ρ->(∀ o H' ak,R o->bB H Hf H' ak->Q o H')->bP c.X e σ H Q
theorem Hl {R:Option Int->Prop} (h:R none):Cg c none ρ R:=λσ H Hf Q S q aa s I=>CG aa s σ H Q I (q none H Hf h (.refl S.sb))
theorem Ho {R:Option Int->Prop} (h:aH c e ρ (I1 λi=>R (some i))):Cg c (some e) ρ R:=λσ H Hf Q S q aa s I =>
 CH c9 aa s σ H Q I (h σ H Hf _ S λd v H' ak ⟨i,e,hR⟩ r g=>by subst e; rw [aB] at r; exact ⟨i,r,q _ H' ak hR g⟩)
noncomputable def Kz (K:Oo):V->Option Int->Option Int->Hp->VK->Prop:=λx lo hi H Q=>∃ a xs,x=.ref a/\dh K H a xs /\
 (HT.cy xs.length 0 lo=0/\HT.cy xs.length xs.length hi=xs.length)/\Q (.ref a) H
theorem gS {lo hi:Option Int} (ht:IsTup s.heap t items) (hs:s.heap.IsSliceOf sl vl vu .none) (pl:IsPart vl lo) (pu:IsPart vu hi)
 (hw:HT.cy items.size 0 lo=0/\HT.cy items.size items.size hi=items.size) (h:Q (.ref t) s):wpAny (model prog w) A (getItem (.ref t) (.ref sl)) Q E s:=by
 obtain ⟨os,hos,hcs,hds⟩:=id hs
 have hTs:s.TypeIs (.ref sl) "slice":=⟨os,hos,hcs⟩
 unfold getItem
 try with_reducible refine PY ?_
 first | refine Ol (Oq ?_) | skip
 refine Ol (UL ht.typeIs (by decide) ?_)
 refine Ol (Qf (name:=Om "__getitem__") ht.typeIs Rq
  (PK Rq ht.typeIs entry_tuple_getitem ?_ (args_tuple_getitem _ _)))
 show wpAny _ _ (Builtin.Tuple.tupleItemsOf (.ref t) >>= _) _ _ s
 refine Ol (tupleItemsOf_ ht ?_)
 refine Ol (QO hTs ?_)
 rw [if_pos (by decide)]
 refine Ol (HT.fj hs pl pu ?_)
 have hyes:((((HT.cy items.size 0 lo:Nat):Int) == 0 && (1:Int) == 1 && (HT.cy items.size items.size hi - HT.cy items.size 0 lo) == items.size)=true):=by
  rw [hw.1,hw.2]; simp
 show wpAny _ _ (if (((HT.cy items.size 0 lo:Nat):Int) == 0 && (1:Int) == 1 && (HT.cy items.size items.size hi - HT.cy items.size 0 lo) == items.size)=true then _ else _) _ _ s
 rw [if_pos hyes]
 obtain ⟨⟨cls,dd,data,sl'⟩,ho,hc,n,hd⟩:=id ht
 simp only at hc hd
 subst hc hd
 unfold Builtin.Tuple.tupleIsExact
 wp_walk using SK ho
 exact ⟨_,rfl,Oq h⟩
theorem zH:Cf X (Kz X.K):=by
 intro aa s σ H x v vl vu lo hi sl Q I rx hs pl pu h
 obtain ⟨a,xs,rfl,hx,hw,q⟩:=h
 cases rx
 obtain ⟨its,r,ht,hz⟩:=I.tuple hx
 have hlen:its.toArray.size=xs.length:=by rw [OP]; exact r.length.symm
 refine ⟨"tuple",_,Rq.lookup,ht.typeIs,?_⟩
 exact gS ht hs pl pu (by rw [hlen]; exact hw) ⟨.ref a,H,I,rfl,q⟩
inductive Fo:D->Option Int->Option Int->(Sl->Prop)->Prop where
 | lst {ds:List D} {lo hi:Option Int} {R:Sl->Prop} (h:R (.ow (cutD ds lo hi))):Fo (.lst ds) lo hi R
 | tup {ds:List D} {lo hi:Option Int} {R:Sl->Prop} (h:R (.va (.tup (cutD ds lo hi)))):Fo (.tup ds) lo hi R
theorem wO {lo hi:Option Int} (h:HT.cy xs.length 0 lo=0/\HT.cy xs.length xs.length hi=xs.length):cutD xs lo hi=xs:=by
 unfold cutD; rw [h.1,h.2]; simp
theorem uP {lo hi:Option Expr} {R:Sl->Prop} (h:aH c e ρ λx=>Cg c lo ρ λl=>Cg c hi ρ λu=>Fo x l u R):dF c (.Subscript e (.Slice lo hi none p2) pos) ρ R:=λσ H Hf Q S q =>
 bO (yP (Cf.or (Cf.or CK GP) zH) c9 Ky Ky) (h σ H Hf _ S λx v H1 aQ h1 r1 g1=>h1 σ H1 aQ _ (S.cI g1) λl H2 cP h2 g2=>h2 σ H2 cP _ (S.cI (g1.trans g2)) λu H3 Hf3 h3 g3=>by
  have r3:=Rep.mono g3.f x (Rep.mono g2.f x r1)
  have g:=(g1.trans g2).trans g3
  cases h3 with
  | lst h =>
   rw [bu] at r3
   obtain ⟨a,xs,rfl,k1,k2⟩:=r3
   refine .inl (.inl ⟨a,xs,rfl,g3.b.seq k1,λp hp=>?_⟩)
   exact q _ _ _ _ h ⟨p,_,rfl,g.s.free hp,ah,g3.b.free hp,p7 k2 l u⟩ (g.trans (bB.f7 g3.b hp))
  | tup h =>
   rw [aI] at r3
   obtain ⟨a,xs,rfl,k1,k2⟩:=r3
   by_cases hw:HT.cy xs.length 0 l=0/\HT.cy xs.length xs.length u=xs.length
   ·refine .inr ⟨a,xs,rfl,az g3.b k1,hw,?_⟩
    refine q _ _ _ _ h (show Rep c.X.K Hf3 _ _ from aI.mpr ⟨a,xs,rfl,k1,?_⟩) g
    rw [wO (by rw [k2.length]; exact hw)]; exact k2
   ·refine .inl (.inr ⟨a,xs,rfl,az g3.b k1,hw,λp hp=>?_⟩)
    have g4:=bB.new g3.b hp (o:=.tup (nR xs l u))
    exact q _ _ _ _ h (show Rep c.X.K _ _ _ from aI.mpr ⟨p,_,rfl,.inl (.inl ah),(p7 k2 l u).mono g4.f⟩) (g.trans g4))
theorem zI (a:bB H₀ fh H1 aQ) (b:bB H₀ aQ H Hf):bB H₀ fh H Hf :=
 ⟨b.s,a.f.trans b.f,b.b,λc h1 h2 h3=>b.n c (a.n c h1 h2 h3) h2 h3⟩
theorem fc.re (a:bB H₀ fh H1 aQ) (S:fc K H₀ aQ σ H Hf ρ):fc K H₀ fh σ H Hf ρ:=⟨zI a S.bas,S.len,S.at_,S.sep⟩
theorem fc.anew (S:fc K H₀ fh σ H Hf ρ):fc K H₀ Hf σ H Hf ρ:=⟨⟨S.bas.s,.refl _,S.bas.b,λ_ h _ _=>h⟩,S.len,S.at_,S.sep⟩
noncomputable def Ctx.at_ (c:Ctx P w K mg base k N sc bk) {H1 aQ:Hp} (a:bB c.B c.Hf H1 aQ):Ctx P w K mg base k N sc bk :=
 { X:=c.X,eP:=c.eP,ew:=c.ew,eK:=c.eK,emg:=c.emg,eb:=c.eb,eN:=c.eN,esc:=c.esc,calm:=c.calm,top:=c.top,cb:=c.cb,fn:=c.fn,room:=c.room,nd:=c.nd,vis:=c.vis,B:=c.B,Hf:=aQ,RX:=c.RX,RM:=c.RM,
   exc:=λC x aa σ H ak ρ s H' s' I S h X sm=>c.exc C x aa σ H ak ρ s H' s' I (S.re a) h X sm,mde:=λC x aa σ H ak ρ s h' us I S h hx=>c.mde C x aa σ H ak ρ s h' us I (S.re a) h hx }
theorem zb.at_ {nx:List Sl->Prop} {p:Pt} {D:Ends} {H1 aQ:Hp} (a:bB c.B c.Hf H1 aQ) (o:zb c nx p D):zb (c.at_ a) nx p D :=
 ⟨λσ H Hf ρ S q=>o.nx σ H Hf ρ (fc.re a S) q,λr v H Hf g rv q=>o.rt r v H Hf (zI a g) rv q,λσ H Hf ρ S q=>o.bk σ H Hf ρ (fc.re a S) q,λσ H Hf ρ S q=>o.ct σ H Hf ρ (fc.re a S) q⟩
noncomputable def bI (X:Cx) (tg iter:Expr):TI:=λσ H R=>∀ aa s,Inv X aa σ H s->wpAny (model X.prog X.w) X.A (eval iter X.env) (λv s1=>wpAny (model X.prog X.w) X.A (pyIter v) (Mw X aa σ tg R) X.xe s1) X.xe s
theorem Oh {X:Cx} {tg iter:Expr}:PI X tg iter (bI X tg iter):=λaa s σ H R I h=>h aa s I
structure iO (K:Oo) (J:It) (ds:List D) (fh:Hp):Prop where
 go:∀ i d H Hf,aN fh Hf->aN Hf H->ds[i]?=some d->J.go i H/\∀ x H',J.yld i H x H'->∃ ak,bB H Hf H' ak/\Rep K ak d x
 stop:∀ i H Hf,aN fh Hf->aN Hf H->ds.length<=i->J.stop i H
def Ci (c:Ctx P w K mg base k N sc bk) (tg iter:Expr) (ρ:List Sl) (R:List D->Prop):Prop :=
 ∀ (σ:L2.St) (H Hf:Hp) (Q:It->Hp->Prop),bw c σ H Hf ρ->(∀ ds J H' ak,R ds->bB H Hf H' ak->iO c.X.K J ds ak->Q J H')->bI c.X tg iter σ H Q
theorem wQ {K:Oo} {ds:List D} {xs:List V} {p:Addr} {fh:Hp} (h:gC K fh p xs) (r:au K fh ds xs):iO K (Mx K p) ds fh where
 go:=λi d H Hf s1 s2 e=>by
  obtain ⟨x,ex,rx⟩:=r.get e
  refine ⟨⟨xs,x,(s1.trans s2).seq h,ex⟩,λy H' ⟨e1,e2⟩=>?_⟩
  subst e1
  have:=e2 xs ((s1.trans s2).seq h)
  rw [ex] at this; cases this
  exact ⟨Hf,.refl s2,Rep.mono s1 d rx⟩
 stop:=λi H Hf s1 s2 e=>⟨xs,(s1.trans s2).seq h,by rw [<- r.length]; exact e⟩
theorem zJ {K:Oo} {ds:List D} {xs:List V} {p:Addr} {fh:Hp} (h:dh K fh p xs) (r:au K fh ds xs):iO K (Mz K p) ds fh where
 go:=λi d H Hf s1 s2 e=>by
  obtain ⟨x,ex,rx⟩:=r.get e
  refine ⟨⟨xs,x,az (s1.trans s2) h,ex⟩,λy H' ⟨e1,e2⟩=>?_⟩
  subst e1
  have:=e2 xs (az (s1.trans s2) h)
  rw [ex] at this; cases this
  exact ⟨Hf,.refl s2,Rep.mono s1 d rx⟩
 stop:=λi H Hf s1 s2 e=>⟨xs,az (s1.trans s2) h,by rw [<- r.length]; exact e⟩
noncomputable def M0 (K:Oo) (tl:TE):TI:=λσ H R=>tl σ H λx H1=>∃ a,x=.ref a/\(((∃ xs,gC K H1 a xs)/\R (Mx K a) H1)\/((∃ xs,dh K H1 a xs)/\R (Mz K a) H1))
theorem Hq (hl:PE X l tl):PI X tg l (M0 X.K tl):=by
 intro aa s σ H R I h
 refine bJ (hl aa s σ H _ I h) λv s1 ⟨x,H1,I1,r1,q1⟩=>?_
 obtain ⟨a,e,h⟩:=q1
 subst e
 cases r1
 rcases h with ⟨⟨xs,hq⟩,q⟩ | ⟨⟨xs,hq⟩,q⟩
 ·obtain ⟨its,rv,p,hz⟩:=I1.list hq
  refine UN p.isList ?_
  refine ⟨s1.heap.objs.size,[s1.heap.objs.size],_,_,H1,rfl,I1.kept (t':=s1.toks) λb o e=>Ow _ e,wD a _,⟨_,OF _ rfl,rfl,rfl⟩,λb hb=>?_,q⟩
  have e:b=s1.heap.objs.size:=by simpa using hb
  subst e
  exact I1.kh (Ot _) (I1.hok.fresh (Ot _))
 ·obtain ⟨its,rv,p,hz⟩:=I1.tuple hq
  refine UE (show s1.heap.IsTuple a its.toArray from p) ?_
  refine ⟨s1.heap.objs.size,[s1.heap.objs.size],_,_,H1,rfl,I1.kept (t':=s1.toks) λb o e=>Ow _ e,r9 a _,⟨_,OF _ rfl,rfl,rfl⟩,λb hb=>?_,q⟩
  have e:b=s1.heap.objs.size:=by simpa using hb
  subst e
  exact I1.kh (Ot _) (I1.hok.fresh (Ot _))
theorem cM {R:List D->Prop} (h:aH c e ρ λd=>∃ ds,d.row=some ds/\R ds):Ci c tg e ρ R:=λσ H Hf Q S q aa s I =>
 Hq c9 aa s σ H Q I (h σ H Hf _ S λd v H' ak ⟨ds,er,hR⟩ r g=>by
  obtain ⟨p,xs,rfl,hr,hk⟩:=iN er r
  refine ⟨p,rfl,?_⟩
  rcases hk with ⟨_,hk⟩ | ⟨_,hk⟩
  ·exact .inl ⟨⟨xs,g.b.seq hk⟩,q ds _ H' ak hR g (wQ hk hr)⟩
  ·exact .inr ⟨⟨xs,az g.b hk⟩,q ds _ H' ak hR g (zJ hk hr)⟩)
noncomputable def p9 (lo:Int) (n:Nat):List D:=(Pd n).map λ(i:Nat)=>D.int (lo+(i:Int))
theorem zK {K:Oo} {lo:Int} {n:Nat} {fh:Hp}:iO K (LR lo n) (p9 lo n) fh where
 go:=λi d H Hf s1 s2 e=>by
  unfold p9 at e
  rw [OE] at e
  obtain ⟨j,e1,e2⟩:=OL.mp e
  have hi:i<n:=by
   have:=(OH.mp e1).1
   simpa using this
  have:j=i:=by
   rw [RE hi] at e1; cases e1; rfl
  subst this
  refine ⟨hi,λx H' ⟨e3,e4⟩=>?_⟩
  subst e3 e4 e2
  exact ⟨Hf,.refl s2,aB.mpr rfl⟩
 stop:=λi H Hf s1 s2 e=>by
  show n<=i
  simpa [p9] using e
def zL (i:Int):Prop:= -(2 ^ 62)<=i/\i<2 ^ 62
theorem iP {R:List D->Prop} (hm:mg "range"=none) (h:aH c e ρ (I1 λj=>Sd (zL j) (R (p9 0 j.toNat)))) (hg:sc.names.lookup (Om "range")=some .globalImplicit:=by walk_at "u")
 (hs:∀ env,starEach [e] env=(false,eval e env)::starEach [] env:=by intro _; walk_at "u"):Ci c tg (.Call (.Name "range" p) [e] [] pos) ρ R:=λσ H Hf Q S q aa s I =>
 wF (by unfold Gl Pr; rw [c.esc]; exact hg) (by rw [c.emg]; exact hm) (bK c9 dI (hs _)) (hs _) aa s σ H Q I (h σ H Hf _ S λd v H' ak ⟨j,ed,⟨hj,hR⟩⟩ r g=>by
  subst ed; rw [aB] at r; subst r
  exact ⟨j,rfl,hj.1,hj.2,q _ _ H' ak hR g zK⟩)
theorem dY {tg iter:Expr} {body:List Stmt} {nx:List Sl->Prop} {p:Pt} (hq:c.X.xe=λ_ _=>False)
 (h:Ci c tg iter ρ λds=>∃ I:Nat->List Sl->Prop,I 0 ρ /\
   (∀ c':Ctx P w K mg base k N sc bk,c'.X=c.X->c'.RX=c.RX->c'.RM=c.RM->∀ i d ρ',ds[i]?=some d->I i ρ'->mR c' tg d ρ' λρ''=>aG c' body ρ'' (I (i+1)) { rt:=p.rt,bk:=nx,ct:=I (i+1) })/\∀ ρ',I ds.length ρ'->nx ρ')
 (hs:∀ env x,foldedSetIterable iter env x=pure x:=by intro _ _; walk_at "u"):fS c (.For tg iter body [] pos) ρ nx p:=λσ H Hf D S o =>
 dX (Gx (by rw [hq]; exact PassesOwn.never) c.calm Oh NO sG (hs _)) (h σ H Hf _ S λds J H1 aQ ⟨I,h0,hb,he⟩ g io=>by
  have S1:=S.cI g
  have gb:bB c.B c.Hf H1 aQ:=S1.bas
  refine ⟨λi m σ H=>m=ds.length - i/\i<=ds.length/\∃ Hf ρ',bw (c.at_ gb) σ H Hf ρ'/\I i ρ',⟨_,rfl,OV _,aQ,ρ,S1.anew,h0⟩,?_⟩
  rintro i m σ H ⟨rfl,hi,Hf,ρ',S',hI⟩
  by_cases hlt:i<ds.length
  ·have ed:ds[i]?=some ds[i]:=OR hlt
   obtain ⟨hgo,hy⟩:=io.go i _ H Hf S'.bas.f S'.bas.b ed
   refine .inr ⟨hgo,λσ' H'=>∃ ak ρ'',bw (c.at_ gb) σ' H' ak ρ''/\I (i+1) ρ'',λσ' H' ⟨ak,ρ'',S'',hI'⟩=>⟨_,by omega,rfl,hlt,ak,ρ'',S'',hI'⟩,λx H' hx=>?_⟩
   obtain ⟨ak,g',rx⟩:=hy x H' hx
   refine hb (c.at_ gb) rfl rfl rfl i _ ρ' ed hI σ H' ak x _ (S'.cI g') rx λσ2 H2 cP ρ2 S2 _ hbody=>?_
   exact hbody σ2 H2 cP _ S2 ⟨λσ H Hf ρ S q=>⟨Hf,ρ,S,q⟩,(o.at_ gb).rt,λσ H Hf ρ S q=>(o.at_ gb).nx σ H Hf ρ S q,λσ H Hf ρ S q=>⟨Hf,ρ,S,q⟩⟩
  ·have e:i=ds.length:=by omega
   subst e
   exact .inl ⟨io.stop _ H Hf S'.bas.f S'.bas.b (Ot _),(o.at_ gb).nx σ H Hf ρ' S' (he ρ' hI)⟩)
end
section
variable {K:Oo}
end
section
variable {K:Oo}
theorem cz (h:R d):Fe R (.va d):=⟨d,rfl,h⟩
theorem aJ (h:R (.lst ds)):Fe R (.ow ds):=⟨.lst ds,rfl,h⟩
theorem Hr (h:aH c a ρ λx=>aH c b ρ λy=>kG x y (Fe R)):aH c (.BinOp a .Add b pos) ρ R:=e_x (zG h)
theorem pW.imp {R R':List D->Prop} (h:pW c es ρ R) (hi:∀ d,R d->R' d):pW c es ρ R':=λσ H Hf Q S q=>h σ H Hf Q S λd v H' ak rd=>q d v H' ak (hi d rd)
theorem Hs (h:pW c es ρ λds=>Sd (ds.length<=sizeLine) (R (.lst ds))):aH c (.List es pos) ρ R:=e_x (Fg (h.imp λds hd=>⟨hd.s,aJ hd.r⟩))
theorem qa {lo hi:Option Expr} (h:aH c e ρ λx=>Cg c lo ρ λl=>Cg c hi ρ λu=>Fo x l u (Fe R)):aH c (.Subscript e (.Slice lo hi none p2) pos) ρ R:=e_x (uP h)
theorem zM {R:Sl->Prop} (h:R (.va (.int (i+j)))):kG (.int i) (.int j) R:=.int h
theorem zN {ds es:List D} {R:Sl->Prop} (h:Sd (ds.length+es.length<=sizeLine) (R (.ow (ds++es)))):kG (.lst ds) (.lst es) R:=.lst h
theorem zO {ds es:List D} {R:Sl->Prop} (h:Sd (ds.length+es.length<=sizeLine) (R (.va (.tup (ds++es))))):kG (.tup ds) (.tup es) R:=.tup h
theorem qb (h:aH c a ρ λx=>aH c b ρ λy=>Jy x y R) (hs:jX b:=by with_unfolding_all exact λ_ _=>rfl):aH c (.Subscript a b pos) ρ R:=Kx h hs
theorem zP {x:D} {Q:List D->Prop} (e:x.row=some ds) (h:Q ds):∃ ys,x.row=some ys/\Q ys:=⟨ds,e,h⟩
theorem aj {F:Fn} {R:Sl->Prop} (h:F ds (.ok sl)) (r:R sl):∃ r,F ds r/\Hg c ρ R r:=⟨_,h,r⟩
end
section
variable {K:Oo}
end
noncomputable def del (H:Hp) (p:Addr):Hp:=λb=>if b=p then none else H b
theorem iQ:del H p p=none:=if_pos rfl
theorem cD (h:b≠p):del H p b=H b:=if_neg h
theorem zQ (h:H₀ p=none) (s:aN H₀ H):aN H₀ (del H p):=λb o e=>by
 rw [cD (aD e h)]; exact s b o e
theorem iR (h:del H p b=some o):b≠p/\H b=some o:=by
 by_cases e:b=p
 ·subst e; rw [iQ] at h; cases h
 ·rw [cD e] at h; exact ⟨e,h⟩
theorem gF (sb:aN Hf H) (hp:Hf p=none):bB (del H p) Hf (upd H p o) Hf :=
 ⟨λb u e=>by obtain ⟨h1,h2⟩:=iR e; rw [aq h1]; exact h2,.refl _,λb u e=>by rw [aq (aD e hp)]; exact sb b u e,λ_ h _ _=>h⟩
section
variable {K:Oo}
theorem bh.Fq (ho:r.owned=true) (h:bh K fr H Hf r v):∃ p o,v=.ref p/\fr p/\H p=some o/\Hf p=none/\¬ yZ H p:=by
 have nf:∀ {p:Addr} {u:HO},H p=some u->(∀ φ,u≠.ext φ)->¬ yZ H p:=λe k ⟨z,e2⟩=>by rw [e] at e2; exact k _ (Qo e2)
 cases r with
 | un=>cases ho
 | va d=>cases ho
 | fo s=>cases ho
 | ow ds=>obtain ⟨p,xs,rfl,f,h1,h2,_⟩:=h; exact ⟨p,_,rfl,f,h1,h2,nf h1 (by intro _ z; cases z)⟩
 | oT ds=>obtain ⟨p,xs,rfl,f,h1,h2,_⟩:=h; exact ⟨p,_,rfl,f,h1,h2,nf h1 (by intro _ z; cases z)⟩
 | oK ds=>obtain ⟨p,xs,rfl,f,h1,h2,_⟩:=h; exact ⟨p,_,rfl,f,h1,h2,nf h1 (by intro _ z; cases z)⟩
 | aw a ds=>obtain ⟨p,xs,rfl,f,h1,h2,_⟩:=h; exact ⟨p,_,rfl,f.1,h1,h2,nf h1 (by intro _ z; cases z)⟩
 | aT a ds=>obtain ⟨p,xs,rfl,f,h1,h2,_⟩:=h; exact ⟨p,_,rfl,f.1,h1,h2,nf h1 (by intro _ z; cases z)⟩
 | aK a ds=>obtain ⟨p,xs,rfl,f,h1,h2,_⟩:=h; exact ⟨p,_,rfl,f.1,h1,h2,nf h1 (by intro _ z; cases z)⟩
theorem bh.qe (ho:r.owned=true) (h:bh K fr H Hf r v):∃ p o,v=.ref p/\fr p/\H p=some o/\Hf p=none :=
 let ⟨p,o,a,b,c,d,_⟩:=h.Fq ho; ⟨p,o,a,b,c,d⟩
theorem bh.KA (nf:¬ yZ H p) (hv:r.owned=true->v≠.ref p) (h:bh K fr H Hf r v):bh K fr (del H p) Hf r v :=
 bh.mv (B:=λq=>q=p) (.refl _) (λq o hq e1 _ e3=>⟨by rw [cD hq]; exact e1,e3⟩) (λ_ q e=>by subst e; exact nf) (λho q z e=>by subst e; exact hv ho z) h
theorem fc.own (S:fc K H₀ fh σ H Hf ρ) {i:Nat} (hi:ρ[i]?=some r) (ho:r.owned=true):∃ p,σ[i]?=some (some (.ref p))/\bh K (λp=>H₀ p=none) H Hf r (.ref p):=by
 obtain ⟨v,e,q⟩:=S.at_ i r hi (by rintro rfl; cases ho)
 obtain ⟨p,o,rfl,_⟩:=q.qe ho
 exact ⟨p,e,q⟩
theorem fc.upd (S:fc K H₀ fh σ H Hf ρ) (hi:ρ[i]?=some r) (ho:r.owned=true) (hp:σ[i]?=some (some (.ref p))) (g:bB (del H p) Hf H1 aQ)
 (hr:bh K (λq=>q=p) H1 aQ r' (.ref p)) (ho':r'.owned=true):fc K H₀ fh σ H1 aQ (ρ.set i r'):=by
 obtain ⟨p',ep,q⟩:=S.own hi ho
 rw [hp] at ep; cases ep
 obtain ⟨_,o,e,fp,hHp,hfp,nfz⟩:=q.Fq ho
 cases e
 have hlt:i<ρ.length:=(OH.mp hi).1
 refine ⟨⟨(zQ fp S.bas.s).trans g.s,S.bas.f.trans g.f,g.b,λb h1 h2 h3=>?_⟩,by simp [S.len],λj r1 hj hu=>?_,λj j' r1 r2 q' hne h1 h2 o1 o2=>?_⟩
 ·have hb:b≠p:=λz=>by subst z; exact h2 fp
  cases z:H₀ b with
  | none=>exact absurd z h2
  | some o1 =>
   have e1:=S.bas.s b o1 z
   refine g.n b (S.bas.n b h1 h2 h3) (by rw [cD hb,e1]; simp) λxs=>?_
   rw [cD hb,e1,<- z]; exact h3 xs
 ·by_cases e:j=i
  ·subst e
   rw [P4 hlt] at hj; cases hj
   exact ⟨_,hp,hr.weak λq' z=>by subst z; exact fp⟩
  ·rw [P5 (OT e)] at hj
   obtain ⟨v,e1,e2⟩:=S.at_ j r1 hj hu
   exact ⟨v,e1,(e2.KA (p:=p) nfz λow z=>by subst z; exact S.sep i j _ _ p (OT e) hi hj ho ow hp e1).cI g⟩
 ·have out:∀ {j:Nat} {r1:Sl},(ρ.set i r')[j]?=some r1->r1.owned=true->∃ r2,ρ[j]?=some r2/\r2.owned=true:=λ{j r1} hj how=>by
   by_cases e:j=i
   ·subst e; exact ⟨r,hi,ho⟩
   ·rw [P5 (OT e)] at hj; exact ⟨r1,hj,how⟩
  obtain ⟨r3,a1,a2⟩:=out h1 o1
  obtain ⟨r4,b1,b2⟩:=out h2 o2
  exact S.sep j j' r3 r4 q' hne a1 b1 a2 b2
end
section
variable {K:Oo} {c:Ctx P w K mg base k N sc bk}
theorem Ctx.n6 (c:Ctx P w K mg base k N sc bk) (hN:At N i x) (hd:(x == ("__debug__":Str))=false) (hcd:(x == ("__classdict__":Str))=false):PE c.X (.Name x px) (JG i) :=
 r8 (X:=c.X) (i:=i) (by rw [c.eN]; exact hN.get) (by rw [c.esc]; rcases c.vis x hN.mem with h | h; exact .inl h; exact .inr (.inl h)) hd hcd
noncomputable def Sl.getL:Sl->Option (List D) | .ow ds=>some ds | .aw _ ds=>some ds | _=>none
noncomputable def Sl.putL:Sl->List D->Sl | .ow _,es=>.ow es | .aw a _,es=>.aw a es | s,_=>s
theorem di {r:Sl} (h:r.getL=some ds):r.owned=true:=by cases r <;> first | rfl | cases h
theorem ig {r:Sl} {ds es:List D} (h:r.getL=some ds):(r.putL es).owned=true:=by cases r <;> first | rfl | cases h
theorem Ht {p:Addr} (h:r.getL=some ds) (q:bh K fr H Hf r (.ref p)):∃ xs,H p=some (.lst xs)/\Hf p=none/\au K Hf ds xs:=by
 cases r with
 | ow es=>cases h; obtain ⟨_,xs,e,_,h1,h2,h3⟩:=q; cases e; exact ⟨xs,h1,h2,h3⟩
 | aw a es=>cases h; obtain ⟨_,xs,e,_,h1,h2,h3⟩:=q; cases e; exact ⟨xs,h1,h2,h3⟩
 | _=>cases h
theorem kH {ds es:List D} {p:Addr} (h:r.getL=some ds) (q:bh K fr H Hf r (.ref p)) (h1:H1 p=some (.lst ys)) (h2:aQ p=none) (h3:au K aQ es ys) :
 bh K (λq=>q=p) H1 aQ (r.putL es) (.ref p):=by
 cases r with
 | ow _=>exact ⟨p,ys,rfl,rfl,h1,h2,h3⟩
 | aw a _=>obtain ⟨_,xs,e,f,_⟩:=q; cases e; exact ⟨p,ys,rfl,⟨rfl,f.2⟩,h1,h2,h3⟩
 | _=>cases h
theorem sJ (hN:At N i x) (hi:At ρ i r) (hr:r.getL=some ds) (h:aH c e ρ λd=>Sd (ds.length<sizeLine) (Nx ρ i nx (r.putL (ds++[d]))))
 (hs:∀ env,swapsWith (.Call (.Attribute (.Name x px) "append" ap) [e] [] cp) none pos.line env=pure false:=by intro _; walk_at "u") (hd:(x == ("__debug__":Str))=false:=by decide) (hcd:(x == ("__classdict__":Str))=false:=by decide)
 (hbase:∀ env,attributeBase (.Name x px) "append" env (eval (.Name x px) env)=eval (.Name x px) env:=by intro _; walk_at "u")
 (hfew:∀ env,((backTo cp (starEach [e] env)).all (λx=> !x.1) && (backToKw cp (keywordEach [] env)).all (λx=>x.1.isSome)
   && decide (([e]:List Expr).length+([]:List Keyword).length+(if ([]:List Keyword).isEmpty then 0 else 1)<30))=true:=by intro _; walk_at "u")
 (hline:(ap.endLine == cp.line)=true:=by walk_at "u") (he:∀ env,starEach [e] env=(false,eval e env)::starEach [] env:=by intro _; walk_at "u") (hpl:∀ env,(backTo cp (starEach [] env)).any (·.1)=false:=by intro _; walk_at "u") :
 fS c (.Expr (.Call (.Attribute (.Name x px) "append" ap) [e] [] cp) pos) ρ nx p:=λσ H Hf D S o=>by
 obtain ⟨q,eq,rq⟩:=S.own hi.get (di hr)
 obtain ⟨xs,h1,h2,h3⟩:=Ht hr rq
 refine dX (nO (Fc PySem.F.plainAttrs_list PySem.F.slot_list_append PySem.F.type_list_append mH (c.n6 hN hd hcd) (bK c9 dI (he _)) (hbase _) (hfew _) hline (he _) (hpl _)) (hs _)) ⟨_,eq,.inl ⟨rfl,xs,.inl (.inl h1)⟩,?_⟩
 refine h σ H Hf _ S λd v H' ak ⟨hz,ρ',hs',hn⟩ rd g=>?_
 have S':=S.cI g
 have e1:H' q=some (.lst xs):=g.s _ _ h1
 have e2:ak q=none:=g.n q h2 (by rw [h1]; simp) (by intro ys; rw [h1]; simp)
 refine ⟨q,xs,v,rfl,rfl,e1,by rw [<- h3.length]; exact hz,?_⟩
 refine o.nx _ _ ak ρ' ?_ hn
 rw [hs'.eq]
 have rq':=rq.cI g
 exact S'.upd hi.get (di hr) eq (gF g.b e2) (kH hr rq' ah e2 ((h3.mono g.f).append (.one rd))) (ig hr)
end
section
variable {κ β:Type} [DecidableEq κ]
noncomputable def bC (kvs:List (κ×β)) (k:κ):Option β:=(kvs.find? λkv=>decide (kv.1=k)).map (·.2)
noncomputable def putD (kvs:List (κ×β)) (k:κ) (v:β):List (κ×β) :=
 if (bC kvs k).isSome=true then kvs.map (λkv=>if kv.1=k then (kv.1,v) else kv) else kvs++[(k,v)]
theorem bf {q:κ×β} {r:List (κ×β)} {k:κ} (e:q.1=k):bC (q::r) k=some q.2:=by simp [bC,Qh,e]
theorem aW {q:κ×β} {r:List (κ×β)} {k:κ} (e:¬ q.1=k):bC (q::r) k=bC r k:=by simp [bC,Qh,e]
end
noncomputable def D.wR:D->Option Key | .int i=>some (.inl i) | .str x=>some (.inr x) | _=>none
noncomputable def D.keys:List D->Option (List Key)
 | []=>some []
 | d::r=>match d.wR,D.keys r with | some k,some ks=>some (k::ks) | _,_=>none
theorem iS {K:Oo} (h:d.wR=some k) (r:Rep K H d v):v=kV k:=by
 cases d with
 | int i=>cases h; exact aB.mp r
 | str x=>cases h; exact gE.mp r
 | _=>cases h
theorem gG {K:Oo}:∀ {ds:List D} {ks:List Key} {xs:List V},D.keys ds=some ks->au K H ds xs->xs=ks.map kV
 | [],ks,xs,h,r=>by cases h; rw [aC.mp r]; rfl
 | d::ds,ks,xs,h,r=>by
  obtain ⟨x,t,rfl,r1,r2⟩:=aE.mp r
  unfold D.keys at h
  cases e1:d.wR with
  | none=>rw [e1] at h; cases h
  | some k =>
   cases e2:D.keys ds with
   | none=>rw [e1,e2] at h; cases h
   | some ks' =>
    rw [e1,e2] at h; cases h
    rw [iS e1 r1,gG e2 r2]; rfl
noncomputable def Sl.Ft:Sl->Bool | .oK _=>true | .aK _ _=>true | .oT _=>true | .aT _ _=>true | _=>false
theorem qg {r:Sl} (h:r.Ft=true):r.owned=true:=by cases r <;> first | rfl | cases h
noncomputable def Sl.sL:Sl->Option (List (Key×D)) | .oK kvs=>some kvs | .aK _ kvs=>some kvs | _=>none
noncomputable def Sl.qh:Sl->List (Key×D)->Sl | .oK _,es=>.oK es | .aK a _,es=>.aK a es | s,_=>s
noncomputable def Sl.wU:Sl->Option (List (List Key×D)) | .oT kvs=>some kvs | .aT _ kvs=>some kvs | _=>none
noncomputable def Sl.zR:Sl->List (List Key×D)->Sl | .oT _,es=>.oT es | .aT a _,es=>.aT a es | s,_=>s
theorem kI {r:Sl} (h:r.sL=some kvs):r.owned=true:=by cases r <;> first | rfl | cases h
theorem kJ {r:Sl} (h:r.sL=some kvs):(r.qh es).owned=true:=by cases r <;> first | rfl | cases h
theorem sM {r:Sl} (h:r.wU=some kvs):(r.zR es).owned=true:=by cases r <;> first | rfl | cases h
section
variable {K:Oo} {fr:Addr->Prop} {H Hf H1 aQ:Hp} {r:Sl} {p:Addr}
theorem wV (h:r.sL=some kvs) (q:bh K fr H Hf r (.ref p)):∃ xs,H p=some (.dK xs)/\Hf p=none/\lQ K Hf kvs xs:=by
 cases r with
 | oK es=>cases h; obtain ⟨_,xs,e,_,h1,h2,h3⟩:=q; cases e; exact ⟨xs,h1,h2,h3⟩
 | aK a es=>cases h; obtain ⟨_,xs,e,_,h1,h2,h3⟩:=q; cases e; exact ⟨xs,h1,h2,h3⟩
 | _=>cases h
theorem Dg (h:r.wU=some kvs) (q:bh K fr H Hf r (.ref p)):∃ xs,H p=some (.dT xs)/\Hf p=none/\kD K Hf kvs xs:=by
 cases r with
 | oT es=>cases h; obtain ⟨_,xs,e,_,h1,h2,h3⟩:=q; cases e; exact ⟨xs,h1,h2,h3⟩
 | aT a es=>cases h; obtain ⟨_,xs,e,_,h1,h2,h3⟩:=q; cases e; exact ⟨xs,h1,h2,h3⟩
 | _=>cases h
theorem qk (h:r.sL=some kvs) (q:bh K fr H Hf r (.ref p)) (h1:H1 p=some (.dK ys)) (h2:aQ p=none) (h3:lQ K aQ es ys):bh K (λq=>q=p) H1 aQ (r.qh es) (.ref p):=by
 cases r with
 | oK _=>exact ⟨p,ys,rfl,rfl,h1,h2,h3⟩
 | aK a _=>obtain ⟨_,xs,e,f,_⟩:=q; cases e; exact ⟨p,ys,rfl,⟨rfl,f.2⟩,h1,h2,h3⟩
 | _=>cases h
theorem zS (h:r.wU=some kvs) (q:bh K fr H Hf r (.ref p)) (h1:H1 p=some (.dT ys)) (h2:aQ p=none) (h3:kD K aQ es ys):bh K (λq=>q=p) H1 aQ (r.zR es) (.ref p):=by
 cases r with
 | oT _=>exact ⟨p,ys,rfl,rfl,h1,h2,h3⟩
 | aT a _=>obtain ⟨_,xs,e,f,_⟩:=q; cases e; exact ⟨p,ys,rfl,⟨rfl,f.2⟩,h1,h2,h3⟩
 | _=>cases h
noncomputable def zT (K:Oo) (Hf:Hp):Option D->Option V->Prop
 | none,none=>True
 | some d,some v=>Rep K Hf d v
 | _,_=>False
theorem lQ.val (h:lQ K Hf kvs xs) (k:Key):zT K Hf (bC kvs k) (kr xs k):=by
 unfold lQ at h
 induction h with
 | nil=>exact RV
 | @cons a b as bs h t ih =>
  by_cases e:a.1=k
  ·rw [bf e,ku (h.1.symm.trans e)]; exact h.2
  ·rw [aW e,kB (λz=>e (h.1.trans z))]; exact ih
theorem zT.isSome (h:zT K Hf o u):o.isSome=u.isSome:=by
 cases o <;> cases u <;> first | rfl | exact h.elim
theorem lQ.put (h:lQ K Hf kvs xs) (k:Key) (rd:Rep K Hf d v):lQ K Hf (putD kvs k d) (putK xs k v):=by
 have e:=(h.val k).isSome
 unfold putD putK
 rw [e,pM]
 by_cases q:(kr xs k).isSome=true
 ·rw [if_pos q,if_pos q]
  unfold lQ at h |-
  clear e q
  induction h with
  | nil=>exact .nil
  | @cons a b as bs h t ih =>
   rw [OA,OA]
   refine .cons ?_ ih
   by_cases e:a.1=k
   ·rw [if_pos e,if_pos (h.1.symm.trans e)]; exact ⟨h.1,rd⟩
   ·rw [if_neg e,if_neg (λz=>e (h.1.trans z))]; exact h
 ·rw [if_neg q,if_neg q]; exact Ub h ⟨rfl,rd⟩
theorem kD.val (h:kD K Hf kvs xs) (k):zT K Hf (bC kvs k) (atT xs k):=by
 unfold kD at h
 induction h with
 | nil=>exact RV
 | @cons a b as bs h t ih =>
  by_cases e:a.1=k
  ·have z:L2.atT (b::bs) k=some b.2.2:=by simp [L2.atT,Qh,h.1.symm.trans e]
   rw [bf e,z]; exact h.2.2
  ·have z:L2.atT (b::bs) k=L2.atT bs k:=by
    have:¬ b.1=k:=λz=>e (h.1.trans z)
    simp [L2.atT,Qh,this]
   rw [aW e,z]; exact ih
theorem kD.put (h:kD K Hf kvs xs) (k) (hb:dh K Hf b (k.map kV)) (rd:Rep K Hf d v):kD K Hf (putD kvs k d) (pP xs k b v):=by
 have e:=(h.val k).isSome
 unfold putD pP
 rw [e]
 by_cases q:(atT xs k).isSome=true
 ·rw [if_pos q,if_pos q]
  unfold kD at h |-
  clear e q
  induction h with
  | nil=>exact .nil
  | @cons a b' as bs h t ih =>
   rw [OA,OA]
   refine .cons ?_ ih
   unfold nV
   by_cases e:a.1=k
   ·rw [if_pos e,if_pos (h.1.symm.trans e)]; exact ⟨h.1,h.2.1,rd⟩
   ·rw [if_neg e,if_neg (λz=>e (h.1.trans z))]; exact h
 ·rw [if_neg q,if_neg q]; exact Ub h ⟨rfl,hb,rd⟩
theorem kD.zU (h:kD K Hf kvs xs):∀ x∈xs,dh K Hf x.2.1 (x.1.map kV):=by
 unfold kD at h
 induction h with
 | nil=>intro x hx; cases hx
 | @cons a b as bs h t ih =>
  intro x hx
  rcases OM.mp hx with e | hx
  ·subst e; rw [<- h.1]; exact h.2.1
  ·exact ih x hx
inductive Fv:Sl->D->Option D->Prop
 | k {r:Sl} {kvs:List (Key×D)} {d:D} {k:Key} (h:r.sL=some kvs) (hk:d.wR=some k):Fv r d (bC kvs k)
 | t {r:Sl} {kvs:List (List Key×D)} {ds:List D} {k:List Key} (h:r.wU=some kvs) (hk:D.keys ds=some k):Fv r (.tup ds) (bC kvs k)
inductive Dh:Sl->D->D->Sl->Prop
 | k {r:Sl} {kvs:List (Key×D)} {d e:D} {k:Key} (h:r.sL=some kvs) (hk:d.wR=some k) (hz:kvs.length<sizeLine):Dh r d e (r.qh (putD kvs k e))
 | t {r:Sl} {kvs:List (List Key×D)} {ds:List D} {e:D} {k:List Key} (h:r.wU=some kvs) (hk:D.keys ds=some k) (hz:kvs.length<sizeLine):Dh r (.tup ds) e (r.zR (putD kvs k e))
theorem Dh.owned' (h:Dh r d e r'):r'.owned=true:=by cases h with | k h _ _=>exact kJ h | t h _ _=>exact sM h
theorem Fv.get (h:Fv r d o) (q:bh K fr H Hf r (.ref p)) (rv:Rep K Hf d v) (sb:aN Hf H):∃ u,nW K H p v u/\zT K Hf o u:=by
 cases h with
 | k h hk =>
  obtain ⟨xs,h1,_,h3⟩:=wV h q
  rw [iS hk rv]
  exact ⟨_,.inl ⟨xs,_,.inl h1,rfl,rfl⟩,h3.val _⟩
 | t h hk =>
  obtain ⟨xs,h1,_,h3⟩:=Dg h q
  obtain ⟨a,ys,rfl,h4,h5⟩:=aI.mp rv
  have:=gG hk h5
  subst this
  exact ⟨_,.inr ⟨xs,_,a,.inl h1,λx hx=>az sb (h3.zU x hx),rfl,az sb h4,rfl⟩,h3.val _⟩
theorem lQ.length (h:lQ K Hf kvs xs):kvs.length=xs.length:=PZ h
theorem kD.length (h:kD K Hf kvs xs):kvs.length=xs.length:=PZ h
theorem Dh.put (h:Dh r d e r') (q:bh K fr H Hf r (.ref p)) (rv:Rep K Hf d v) (ry:Rep K Hf e y) (sb:aN Hf H) :
 ∃ o,CN K H p v y (upd H p o)/\bh K (λq=>q=p) (upd H p o) Hf r' (.ref p):=by
 cases h with
 | k h hk hz =>
  obtain ⟨xs,h1,h2,h3⟩:=wV h q
  rw [iS hk rv]
  exact ⟨_,.inl ⟨xs,_,h1,rfl,by rw [<- h3.length]; exact hz,rfl⟩,qk h q ah h2 (h3.put _ ry)⟩
 | t h hk hz =>
  obtain ⟨xs,h1,h2,h3⟩:=Dg h q
  obtain ⟨a,ys,rfl,h4,h5⟩:=aI.mp rv
  have:=gG hk h5
  subst this
  exact ⟨_,.inr ⟨xs,_,a,h1,λx hx=>az sb (h3.zU x hx),rfl,az sb h4,by rw [<- h3.length]; exact hz,rfl⟩,zS h q ah h2 (h3.put _ h4 ry)⟩
end
section
variable {K:Oo} {c:Ctx P w K mg base k N sc bk}
theorem Ctx.hu (c:Ctx P w K mg base k N sc bk):c.X.A.units+1<cLine:=J5 c.room
theorem uQ {R:Sl->Prop} (h:R (.oK [])):dF c (.Dict [] [] pos) ρ R:=λσ H Hf Q S q =>
 bO yV λp hp=>q (.oK []) (.ref p) _ Hf h ⟨p,[],rfl,hp,ah,S.sb.free hp,.nil⟩ (bB.f7 S.sb hp)
theorem Di {R:Sl->Prop} (h:R (.oT [])):dF c (.Dict [] [] pos) ρ R:=λσ H Hf Q S q =>
 bO yW λp hp=>q (.oT []) (.ref p) _ Hf h ⟨p,[],rfl,hp,ah,S.sb.free hp,.nil⟩ (bB.f7 S.sb hp)
theorem Hu (hN:At N i x) (hi:At ρ i r) (h:aH c e ρ λdk=>aH c f ρ λdf=>∃ o,Fv r dk o/\R (o.getD df)) (hd:(x == ("__debug__":Str))=false:=by decide) (hcd:(x == ("__classdict__":Str))=false:=by decide) (ho:r.Ft=true:=by rfl)
 (m1:∀ env,attributeBase (.Name x px) "get" env (eval (.Name x px) env)=eval (.Name x px) env:=by intro _; walk_at "u")
 (m2:∀ env,((backTo cp (starEach [e,f] env)).all (λx=> !x.1) && (backToKw cp (keywordEach [] env)).all (λx=>x.1.isSome)
   && decide (([e,f]:List Expr).length+([]:List Keyword).length+(if ([]:List Keyword).isEmpty then 0 else 1)<30))=true:=by intro _; walk_at "u")
 (m3:(ap.endLine == cp.line)=true:=by walk_at "u") (m4:∀ env,backTo cp (starEach [e,f] env)=[(false,eval e env),(false,eval f env)]:=by intro _; walk_at "u") :
 aH c (.Call (.Attribute (.Name x px) "get" ap) [e,f] [] cp) ρ R:=λσ H Hf Q S q=>by
 obtain ⟨p,ep,rp⟩:=S.own hi.get (qg ho)
 have isd:MR H p:=by
  cases r with
  | oK kvs=>obtain ⟨xs,h1,_⟩:=wV (r:=.oK kvs) rfl rp; exact .inl ⟨xs,.inl h1⟩
  | aK a kvs=>obtain ⟨xs,h1,_⟩:=wV (r:=.aK a kvs) rfl rp; exact .inl ⟨xs,.inl h1⟩
  | oT kvs=>obtain ⟨xs,h1,_⟩:=Dg (r:=.oT kvs) rfl rp; exact .inr ⟨xs,.inl h1⟩
  | aT a kvs=>obtain ⟨xs,h1,_⟩:=Dg (r:=.aT a kvs) rfl rp; exact .inr ⟨xs,.inl h1⟩
  | _=>cases ho
 refine bO (yX c.hu (c.n6 hN hd hcd) c9 c9 ⟨m1 _,m2 _,m3,m4 _⟩) ⟨_,ep,p,rfl,isd,h σ H Hf _ S λdk v H1 aQ h1 rv g1=>h1 σ H1 aQ _ (S.cI g1) λdf y H2 cP ⟨o,lk,hR⟩ ry g2=>?_⟩
 obtain ⟨u,dg,rel⟩:=lk.get (rp.cI (g1.trans g2)) (Rep.mono g2.f _ rv) g2.b
 refine ⟨u,dg,?_⟩
 cases o with
 | none=>cases u with
  | none=>exact q df y H2 cP hR ry (g1.trans g2)
  | some _=>exact rel.elim
 | some d=>cases u with
  | none=>exact rel.elim
  | some v'=>exact q d v' H2 cP hR rel (g1.trans g2)
theorem Hw (hN:At N i x) (hi:At ρ i r) (h:aH c e ρ λdv=>aH c b ρ λdk=>∃ r',Dh r dk dv r'/\Nx ρ i nx r') (ho:r.owned=true:=by rfl)
 (hs:∀ env,swapsWith e (some (.Subscript (.Name x px) b tp)) pos.line env=pure false:=by intro _; walk_at "u") (hd:(x == ("__debug__":Str))=false:=by decide) (hcd:(x == ("__classdict__":Str))=false:=by decide) :
 fS c (.Assign [.Subscript (.Name x px) b tp] e pos) ρ nx p:=λσ H Hf D S o=>by
 obtain ⟨p,ep,rp⟩:=S.own hi.get ho
 refine dX (CQ c.hu (c.n6 hN hd hcd) c9 c9 (hs _)) (h σ H Hf _ S λdv v H1 aQ h1 rv g1=>⟨_,ep,h1 σ H1 aQ _ (S.cI g1) λdk y H2 cP ⟨r',pt,ρ',hs',hn⟩ ry g2=>?_⟩)
 have g:=g1.trans g2
 obtain ⟨ob,dp,rp'⟩:=pt.put (rp.cI g) ry (Rep.mono g2.f _ rv) g.b
 refine ⟨p,_,rfl,dp,o.nx _ _ cP ρ' ?_ hn⟩
 rw [hs'.eq]
 obtain ⟨_,_,e0,_,_,hf⟩:=(rp.cI g).qe ho
 cases e0
 exact (S.cI g).upd hi.get ho ep (gF g.b hf) rp' pt.owned'
theorem uR (hN:At N i x) (hi:At ρ i r) (h:aH c b ρ λdk=>∃ m:Int,Fv r dk (some (.int m))/\aH c e ρ (I1 λj=>∃ r',Dh r dk (.int (m+j)) r'/\Nx ρ i nx r')) (ho:r.owned=true:=by rfl)
 (ha:∀ ov iv new,augStore b ov iv new=(do holding [new,ov,iv] (setItem ov iv new); release [new,ov,iv] []; pure .next):=by intro _ _ _; walk_at "u") (hd:(x == ("__debug__":Str))=false:=by decide) (hcd:(x == ("__classdict__":Str))=false:=by decide) :
 fS c (.AugAssign (.Subscript (.Name x px) b tp) .Add e pos) ρ nx p:=λσ H Hf D S o=>by
 obtain ⟨p,ep,rp⟩:=S.own hi.get ho
 have hop:JX c.X .Add (uw λi j=>.int (i+j)):=Cw
 refine dX (CS c.hu (c.n6 hN hd hcd) c9 c9 hop ha) ⟨_,ep,h σ H Hf _ S λdk y H1 aQ ⟨m,lk,h1⟩ ry g1=>?_⟩
 obtain ⟨u,dg,rel⟩:=lk.get (rp.cI g1) ry g1.b
 cases u with
 | none=>exact rel.elim
 | some u =>
  have eu:u=V.int m:=(aB (K:=c.X.K) (H:=aQ)).mp rel
  subst eu
  refine ⟨p,_,rfl,dg,h1 σ H1 aQ _ (S.cI g1) λdj y2 H2 cP ⟨j,ej,r',pt,ρ',hs',hn⟩ ry2 g2=>?_⟩
  subst ej
  rw [aB.mp ry2]
  have g:=g1.trans g2
  obtain ⟨ob,dp,rp'⟩:=pt.put (rp.cI g) (Rep.mono g2.f _ ry) (v:=y) (y:=.int (m+j)) (aB.mpr rfl) g.b
  refine ⟨m,j,rfl,rfl,_,dp,o.nx _ _ cP ρ' ?_ hn⟩
  rw [hs'.eq]
  obtain ⟨_,_,e0,_,_,hf⟩:=(rp.cI g).qe ho
  cases e0
  exact (S.cI g).upd hi.get ho ep (gF g.b hf) rp' pt.owned'
theorem Fx (hN:At N i x) (hi:At ρ i r) (h:aH c e ρ λdk=>∃ o,Fv r dk o/\T o.isSome) (ho:r.owned=true:=by rfl) (hm:behindInMarks CmpOp.In (.Name x px)=false:=by walk_at "u")
 (hd:(x == ("__debug__":Str))=false:=by decide) (hcd:(x == ("__classdict__":Str))=false:=by decide):kE c (.Compare e [.In] [.Name x px] pos) ρ T:=λσ H Hf Q S q=>by
 obtain ⟨p,ep,rp⟩:=S.own hi.get ho
 refine uH (Gi (GV c.hu c9 (c.n6 hN hd hcd)) hm) (h σ H Hf _ S λdk y H1 aQ ⟨o,lk,hT⟩ ry g=>⟨_,ep,?_⟩)
 obtain ⟨u,dg,rel⟩:=lk.get (rp.cI g) ry g.b
 refine ⟨p,u,rfl,dg,u.isSome,rfl,q _ H1 aQ ?_ g⟩
 rw [<- rel.isSome]; exact hT
end
noncomputable abbrev ji:Value->Shared->Prop:=λ_ _=>False
section
variable {prog:Program} {w:World} {A:Around} {R:Result->Shared->Prop} {s:Shared}
theorem n8 {elt target iter:Expr} {ifs:List Expr} {scope:Scope} {pos:Pos} {it acc:Value} {env:Env} (I:Nat->Shared->Prop)
 (turn:∀ n s,I n s->wpAny (model prog w) A (pyNext it) (λr s₁=>match r with
   | none=>R (.ok .next) s₁
   | some v=>wpAny (model prog w) A (letOwnedTupleGo target it v) (λ_ s₁'=>wpAny (model prog w) A (assign target env v) (λ_ s₂ =>
    wpAny (model prog w) A (forIn ifs true λc r=>if r=true then do let ok <- isTrue c env (eval c env); pure (Po ok) else pure (Po r)) (λok s₃ =>
     if ok=true then wpAny (model prog w) A (eval elt env) (λx s₄ =>
      wpAny (model prog w) A (call (.builtin "list.append") [acc,x]) (λ_ s₅=>∃ m,m<n/\I m s₅) ji s₄) ji s₃
     else ∃ m,m<n/\I m s₃) ji s₂) ji s₁') ji s₁) ji s)
 (n:Nat) (h:I n s) :
 codeAny (model prog w) A (.compLoop (.ListComp elt [⟨target,iter,ifs,0⟩] scope pos) 0 it acc env) R s:=by
 refine codeAny_loop rfl I (λn s hI=>?_) n h
 show wpAny _ A ((compTurn (.ListComp elt [⟨target,iter,ifs,0⟩] scope pos) 0 it acc env).onRaise (λx=>do noteFrame x env; theTreesLotGoes x)) _ _ s
 refine wpAny_noted ?_
 rw [compTurn_list]
 refine Ol (wpAny_standAt (Ol (Pe (turn n s hI) (λr s₁ h₁=>?_) λ_ _ f=>f.elim)))
 cases r with
 | none=>exact Oq h₁
 | some v =>
  refine Ol (Pe h₁ (λ_ s₁' h₁'=>?_) λ_ _ f=>f.elim)
  refine Ol (Pe h₁' (λ_ s₂ h₂=>Ol (Pe h₂ (λok s₃ h₃=>?_) λ_ _ f=>f.elim)) λ_ _ f=>f.elim)
  cases ok with
  | false=>exact Oq ⟨rfl,h₃⟩
  | true =>
   exact Ol (Ol (Pe h₃ (λx s₄ h₄=>Ol (Pe h₄ (λ_ s₅ h₅=>Oq (Oq ⟨rfl,h₅⟩)) λ_ _ f=>f.elim)) λ_ _ f=>f.elim))
theorem jM:∀ (ifs:List Expr),Q false s ->
 wpAny (model prog w) A (forIn ifs false λc r=>if r=true then do let ok <- isTrue c env (eval c env); pure (Po ok) else pure (Po r)) Q E s
 | [],h=>Oq h
 | t::ts,h=>by
  simp only [RO,Pj,if_false]
  exact Ol (Oq (jM ts h))
theorem sN
 (h:wpAny (model prog w) A (isTrue t env (eval t env)) (λb s'=>if b=true then wpAny (model prog w) A (forIn ts true λc r=>if r=true then do let ok <- isTrue c env (eval c env); pure (Po ok) else pure (Po r)) Q E s' else Q false s') E s) :
 wpAny (model prog w) A (forIn (t::ts) true λc r=>if r=true then do let ok <- isTrue c env (eval c env); pure (Po ok) else pure (Po r)) Q E s:=by
 simp only [RO,if_true]
 refine Ol (Ol (Pe h (λb s' hb=>Oq ?_) λ_ _ x=>x))
 cases b with
 | true=>exact hb
 | false=>exact jM ts hb
end
noncomputable def bY (scope sc:Scope):Scope:={ scope with names:=scope.names.map λ(n,k)=>if (k == .free && sc.kind == .function && sc.names.lookup n == some .cell) then (n,.cell) else (n,k) }
theorem qm (h:env.scope=sc):relabel scope env=bY scope sc:=by
 subst h; rfl
noncomputable def Sl.tag (a:Addr):Sl->Sl
 | .ow ds=>.aw a ds | .oT ds=>.aT a ds | .oK ds=>.aK a ds
 | .aw b ds=>.aw b ds | .aT b ds=>.aT b ds | .aK b ds=>.aK b ds | .fo s=>.fo s
 | .un=>.un | .va d=>.va d
inductive yv (t:Str->Addr) (nm:List (Str×NameKind)) (N:List Str) (ρ:List Sl):List Str->List Sl->Prop
 | nil:yv t nm N ρ [] []
 | un {y:Str} {M:List Str} {r:List Sl}:yv t nm N ρ M r->yv t nm N ρ (y::M) (.un::r)
 | fr {y:Str} {i:Nat} {s s':Sl} {M:List Str} {r:List Sl} (hN:At N i y) (hs:At ρ i s) (hy:(y,QA)∈nm) (ht:s.tag (t y)=s'):yv t nm N ρ M r->yv t nm N ρ (y::M) (s'::r)
theorem yv.len (h:yv t nm N ρ M r):M.length=r.length:=by
 induction h with
 | nil=>rfl
 | un t ih=>simp [ih]
 | fr hN hs hy ht t ih=>simp [ih]
inductive Cj:List Sl->List Sl->Prop
 | nil:Cj [] []
 | un {r:Sl} {a b:List Sl}:Cj a b->Cj (.un::a) (r::b)
 | same {r:Sl} {a b:List Sl}:Cj a b->Cj (r::a) (r::b)
theorem Cj.weak (h:Cj a b):a.length=b.length/\∀ (i:Nat) (r:Sl),a[i]?=some r->r≠.un->b[i]?=some r:=by
 induction h with
 | nil=>exact ⟨rfl,λi r e=>by simp at e⟩
 | un t ih=>exact ⟨by simp [ih.1],λi r e hu=>by cases i with | zero=>simp at e; exact absurd e.symm hu | succ i=>simpa using ih.2 i r (by simpa using e) hu⟩
 | same t ih=>exact ⟨by simp [ih.1],λi r e hu=>by cases i with | zero=>simpa using e | succ i=>simpa using ih.2 i r (by simpa using e) hu⟩
section
variable {K:Oo}
noncomputable def jo (c:Ctx P w K mg base k N sc bk):List Expr->List Sl->(Bool->Prop)->Prop
 | [],_,T=>T true
 | t::ts,ρ,T=>kE c t ρ (mU (jo c ts ρ T) (T false))
theorem mW (hq:c.X.xe=ji):∀ (ifs:List Expr) {H Hf:Hp} {s:Shared},bw c σ H Hf ρ->jo c ifs ρ T->(∀ b H' ak,T b->bB H Hf H' ak->Q b H')->Inv c.X aa σ H s ->
 wpAny (model c.X.prog c.X.w) c.X.A (forIn ifs true λt r=>if r=true then do let ok <- isTrue t c.X.env (eval t c.X.env); pure (Po ok) else pure (Po r)) (TP c.X aa σ Q) ji s
 | [],H,Hf,s,S,h,q,I=>wpAny_tests_nil ⟨H,I,q true H Hf h (.refl S.sb)⟩
 | t::ts,H,Hf,s,S,h,q,I=>by
  have h0:=h σ H Hf (λb H'=>∃ ak,mU (jo c ts ρ T) (T false) b/\bB H Hf H' ak) S (λb H' ak hb g=>⟨ak,hb,g⟩) aa s I
  rw [hq] at h0
  refine sN (bJ h0 λb s' ⟨H',I',ak,hb,g⟩=>?_)
  cases b with
  | true=>exact mW hq ts (S.cI g) (hb.t rfl) (λb H2 cP hT g2=>q b H2 cP hT (g.trans g2)) I'
  | false=>exact ⟨H',I',q false H' ak (hb.f rfl) g⟩
end
theorem kK:∀ (names:List (Str×NameKind)) (cs:List (Str×Addr)),(∀ x∈names,x.2=.free->∃ a,env.cells.lookup x.1=some a) ->
 ∃ cl,(forIn names cs (λ(x:Str×NameKind) (r:List (Str×Addr))=>(if (x.2 == QA)=true then do let a <- cellOf env x.1; pure (Po ((x.1,a)::r)) else pure (Po r):Sem (ForInStep (List (Str×Addr))))))=(pure cl:Sem (List (Str×Addr))) /\
  (∀ y a,cl.lookup y=some a->cs.lookup y=some a\/env.cells.lookup y=some a/\(y,QA)∈names)/\(∀ y a,(y,QA)∈names\/(∃ b,cs.lookup y=some b/\env.cells.lookup y=some b)->env.cells.lookup y=some a->cl.lookup y=some a)
 | [],cs,_=>⟨cs,rfl,λy a e=>.inl e,λy a h e=>by
  rcases h with h | ⟨b,h1,h2⟩
  ·cases h
  ·rw [e] at h2; cases h2; exact h1⟩
 | (n,kd)::r,cs,h=>by
  by_cases hk:kd=.free
  ·subst hk
   obtain ⟨a,ea⟩:=h (n,.free) OI rfl
   obtain ⟨cl,e1,e2,e3⟩:=kK r ((n,a)::cs) λx hx=>h x (OJ _ hx)
   refine ⟨cl,?_,λy b e=>?_,λy b hy e=>?_⟩
   ·rw [RO]
    simp only [beq_self_eq_true,if_true,cellOf,ea,pure_bind]
    exact e1
   ·rcases e2 y b e with z | ⟨z1,z2⟩
    ·rw [UZ] at z
     cases q:(y == n) with
     | true =>
      rw [q] at z; cases z
      have:y=n:=by simpa using q
      subst this
      exact .inr ⟨ea,OI⟩
     | false=>rw [q] at z; exact .inl z
    ·exact .inr ⟨z1,OJ _ z2⟩
   ·refine e3 y b ?_ e
    rcases hy with hy | ⟨b',h1,h2⟩
    ·rcases OM.mp hy with z | z
     ·cases z; exact .inr ⟨a,by simp,ea⟩
     ·exact .inl z
    ·refine .inr ⟨b',?_,h2⟩
     rw [UZ]
     cases q:(y == n) with
     | true =>
      have:y=n:=by simpa using q
      subst this
      rw [ea] at h2; exact h2
     | false=>exact h1
  ·have hb:(kd == QA)=false:=by simpa using hk
   obtain ⟨cl,e1,e2,e3⟩:=kK r cs λx hx=>h x (OJ _ hx)
   refine ⟨cl,?_,λy b e=>?_,λy b hy e=>?_⟩
   ·rw [RO]
    simp only [hb,Pj,if_false,pure_bind]
    exact e1
   ·rcases e2 y b e with z | ⟨z1,z2⟩
    ·exact .inl z
    ·exact .inr ⟨z1,OJ _ z2⟩
   ·refine e3 y b ?_ e
    rcases hy with hy | hy
    ·rcases OM.mp hy with z | z
     ·cases z; exact absurd rfl hk
     ·exact .inl z
    ·exact .inr hy
theorem Dj (h:∀ x∈scope.names,x.2=.free->∃ a,env.cells.lookup x.1=some a) :
 ∃ cl,closureFor scope env=pure cl/\(∀ y a,cl.lookup y=some a->env.cells.lookup y=some a/\(y,QA)∈scope.names)/\(∀ y a,(y,QA)∈scope.names->env.cells.lookup y=some a->cl.lookup y=some a):=by
 obtain ⟨cl,e1,e2,e3⟩:=kK scope.names [] h
 refine ⟨cl,?_,λy a e=>?_,λy a hy e=>e3 y a (.inl hy) e⟩
 ·unfold closureFor
  have e1':=congrArg (· >>= λcs=>(pure cs:Sem _)) e1
  simp only [pure_bind] at e1'
  exact e1'
 ·rcases e2 y a e with z | z
  ·simp at z
  ·exact z
section
variable {P:Program} {w:World} {K:Oo} {mg:Str->Option Value} {base:Heap} {k:Nat} {N:List Str} {sc:Scope} {bk:Bool} {c:Ctx P w K mg base k N sc bk} {ρ:List Sl} {pos:Pos}
def uS (c:Ctx P w K mg base k N sc bk) (tg:Expr) (ifs:List Expr) (elt:Expr) (ρ0:List Sl) (d:D) (o:Option D):Prop :=
 mR c tg d ρ0 λρ1=>Cj ρ0 ρ1/\jo c ifs ρ1 (mU (aH c elt ρ1 λe=>o=some e) (o=none))
theorem iT {nm:List (Str×NameKind)}:∀ {y:Str} {kd:NameKind},(nm.map λ(x:Str×NameKind)=>match x with | (n,k)=>(if (k == .free && sc.kind == .function && sc.names.lookup n == some .cell)=true then (n,NameKind.cell) else (n,k))).lookup y=some kd->∃ k0,(y,k0)∈nm/\(kd=k0\/kd=.cell/\k0=.free):=by
 induction nm with
 | nil=>intro y kd h; simp at h
 | cons x r ih =>
  obtain ⟨n,k0⟩:=x
  intro y kd h
  rw [OA,UZ] at h
  by_cases e:(k0 == .free && sc.kind == .function && sc.names.lookup n == some .cell)=true
  ·simp only [e,if_true] at h
   cases q:(y == n) with
   | true =>
    rw [q] at h; cases h
    have:y=n:=by simpa using q
    subst this
    have hf:k0=.free:=by simp only [R8,beq_iff_eq] at e; exact e.1.1
    exact ⟨k0,OI,.inr ⟨rfl,hf⟩⟩
   | false=>rw [q] at h; obtain ⟨k1,h1,h2⟩:=ih h; exact ⟨k1,OJ _ h1,h2⟩
  ·simp only [e,Pj,if_false] at h
   cases q:(y == n) with
   | true =>
    rw [q] at h; cases h
    have:y=n:=by simpa using q
    subst this
    exact ⟨k0,OI,.inl rfl⟩
   | false=>rw [q] at h; obtain ⟨k1,h1,h2⟩:=ih h; exact ⟨k1,OJ _ h1,h2⟩
theorem yv.start {σ:L2.St} (h:yv t nm N ρ M r) (hσ:∀ (i:Nat) (s:Sl),ρ[i]?=some s->s≠.un->∃ v,σ[i]?=some (some v)) :
 ∃ σ0:L2.St,σ0.length=r.length/\∀ (j:Nat) (s:Sl),r[j]?=some s->(s=.un/\σ0[j]?=some none)\/∃ (i:Nat) (y:Str) (v:V) (s0:Sl),M[j]?=some y/\(y,QA)∈nm/\N[i]?=some y/\ρ[i]?=some s0/\s=s0.tag (t y)/\s0≠.un/\σ[i]?=some (some v)/\σ0[j]?=some (some v):=by
 induction h with
 | nil=>exact ⟨[],rfl,λj s e=>by simp at e⟩
 | un t ih =>
  obtain ⟨σ0,hl,h0⟩:=ih
  refine ⟨none::σ0,by simp [hl],λj s e=>?_⟩
  cases j with
  | zero=>simp at e; exact .inl ⟨e.symm,by simp⟩
  | succ j =>
   rcases h0 j s (by simpa using e) with ⟨h1,h2⟩ | ⟨i,y,v,s0,h1,h2,h3,h4,h5,h6,h7,h8⟩
   ·exact .inl ⟨h1,by simpa using h2⟩
   ·exact .inr ⟨i,y,v,s0,by simpa using h1,h2,h3,h4,h5,h6,h7,by simpa using h8⟩
 | @fr y i s' s'' M r hN hs hy ht t ih =>
  obtain ⟨σ0,hl,h0⟩:=ih
  by_cases hu:s'=.un
  ·refine ⟨none::σ0,by simp [hl],λj s e=>?_⟩
   cases j with
   | zero=>simp at e; subst hu; exact .inl ⟨e.symm.trans ht.symm,by simp⟩
   | succ j =>
    rcases h0 j s (by simpa using e) with ⟨h1,h2⟩ | ⟨i,y,v,s0,h1,h2,h3,h4,h5,h6,h7,h8⟩
    ·exact .inl ⟨h1,by simpa using h2⟩
    ·exact .inr ⟨i,y,v,s0,by simpa using h1,h2,h3,h4,h5,h6,h7,by simpa using h8⟩
  ·obtain ⟨v,ev⟩:=hσ i s' hs.get hu
   refine ⟨some v::σ0,by simp [hl],λj s e=>?_⟩
   cases j with
   | zero=>simp at e; subst e; exact .inr ⟨i,y,v,s',by simp,hy,hN.get,hs.get,ht.symm,hu,ev,by simp⟩
   | succ j =>
    rcases h0 j s (by simpa using e) with ⟨h1,h2⟩ | ⟨i,y,v,s0,h1,h2,h3,h4,h5,h6,h7,h8⟩
    ·exact .inl ⟨h1,by simpa using h2⟩
    ·exact .inr ⟨i,y,v,s0,by simpa using h1,h2,h3,h4,h5,h6,h7,by simpa using h8⟩
noncomputable def Sl.adr:Sl->Option Addr | .aw a _=>some a | .aT a _=>some a | .aK a _=>some a | _=>none
theorem mX {s:Sl}:(s.tag a).owned=s.owned:=by cases s <;> rfl
theorem Dk {s:Sl} (h:s.owned=true):∃ b,(s.tag a).adr=some b:=by cases s <;> first | exact ⟨_,rfl⟩ | cases h
theorem uT (hv:s.owned=true->v=.ref a) (h:bh K fr H Hf s v):bh K fr H Hf (s.tag a) v:=by
 cases s with
 | ow ds=>obtain ⟨p,xs,e,f,r⟩:=h; exact ⟨p,xs,e,⟨f,by have:=hv rfl; rw [e] at this; cases this; rfl⟩,r⟩
 | oT ds=>obtain ⟨p,xs,e,f,r⟩:=h; exact ⟨p,xs,e,⟨f,by have:=hv rfl; rw [e] at this; cases this; rfl⟩,r⟩
 | oK ds=>obtain ⟨p,xs,e,f,r⟩:=h; exact ⟨p,xs,e,⟨f,by have:=hv rfl; rw [e] at this; cases this; rfl⟩,r⟩
 | _=>exact h
theorem uU (hb:s.adr=some b) (h:bh K fr H Hf s (.ref p)):p=b:=by
 cases s with
 | aw a ds=>cases hb; obtain ⟨q,xs,e,f,r⟩:=h; cases e; exact f.2
 | aT a ds=>cases hb; obtain ⟨q,xs,e,f,r⟩:=h; cases e; exact f.2
 | aK a ds=>cases hb; obtain ⟨q,xs,e,f,r⟩:=h; cases e; exact f.2
 | _=>cases hb
theorem fc.apart (S:fc K H₀ fh σ H Hf ρ) (h0:H₀ a=none) (hf:Hf a=none) (nf:¬ yZ H a) (ha:∀ (i:Nat) (r:Sl),ρ[i]?=some r->r.owned=true->σ[i]?≠some (some (.ref a))):fc K H₀ fh σ (L2.upd H a o) Hf ρ :=
 ⟨⟨λb u e=>by rw [L2.aq (aD e h0)]; exact S.bas.s b u e,S.bas.f,λb u e=>by rw [L2.aq (aD e hf)]; exact S.bas.b b u e,S.bas.n⟩,S.len,λi r hi hu=>by
   obtain ⟨v,e,q⟩:=S.at_ i r hi hu
   refine ⟨v,e,?_⟩
   have hg:bB (del H a) Hf (L2.upd H a o) Hf:=gF S.bas.b hf
   exact (q.KA (p:=a) nf λow z=>by subst z; exact ha i r hi ow e).cI hg,S.sep⟩
theorem uV (g:bB H1 aQ H' ak) (h1:H1 a=none) (hf:ak a=none):bB H1 aQ (upd H' a o) ak :=
 ⟨λb u e=>by rw [aq (aD e h1)]; exact g.s b u e,g.f,λb u e=>by rw [aq (aD e hf)]; exact g.b b u e,g.n⟩
section
variable {K:Oo} {H Hf H' ak:Hp}
noncomputable abbrev Fp:=List (Addr×List V)
mutual
theorem dJ.fz:∀ (s:Sh) {v:V} {fp:Fp},dJ K H Hf s v fp->∀ a∈fp,H a.1=some (pl a.1 a.2)/\Hf a.1=none
 | .v d,_,_,h=>by simp only [dJ] at h; obtain ⟨_,rfl⟩:=h; intro a ha; cases ha
 | .l ds,_,_,h=>by
  simp only [dJ] at h
  obtain ⟨p,xs,e,h1,h2,h3,rfl⟩:=h
  intro a ha
  obtain rfl:=OG.mp ha
  exact ⟨h1,h2⟩
 | .la p ds,_,_,h=>by
  simp only [dJ] at h
  obtain ⟨xs,e,h1,h2,h3,rfl⟩:=h
  intro a ha
  obtain rfl:=OG.mp ha
  exact ⟨h1,h2⟩
 | .t ss,_,_,h=>by
  simp only [dJ] at h
  obtain ⟨a,xs,e,h1,h2⟩:=h
  exact aZ.fz ss h2
 | .ls ss,_,_,h=>by
  simp only [dJ] at h
  obtain ⟨p,xs,fq,e,h1,h2,h3,rfl⟩:=h
  intro a ha
  rcases OM.mp ha with rfl | ha
  ·exact ⟨h1,h2⟩
  ·exact aZ.fz ss h3 a ha
theorem aZ.fz:∀ (ss:List Sh) {xs:List V} {fp:Fp},aZ K H Hf ss xs fp->∀ a∈fp,H a.1=some (pl a.1 a.2)/\Hf a.1=none
 | [],_,_,h=>by simp only [aZ] at h; obtain ⟨_,rfl⟩:=h; intro a ha; cases ha
 | s::ss,_,_,h=>by
  simp only [aZ] at h
  obtain ⟨x,r,f1,f2,e,h1,h2,rfl⟩:=h
  intro a ha
  rcases OZ.mp ha with ha | ha
  ·exact dJ.fz s h1 a ha
  ·exact aZ.fz ss h2 a ha
end
end
noncomputable def Sl.sh:Sl->Option Sh | .va d=>some (.v d) | .fo s=>some s | _=>none
theorem Hx {H H' ak:Hp} (e:r.sh=some s) (h:bh K (λp=>H p=none) H' ak r v):∃ fp,dJ K H' ak s v fp/\(fp.map (·.1)).Nodup/\∀ a∈fp,H a.1=none:=by
 cases r with
 | va d=>cases e; exact ⟨[],by simp only [dJ]; exact ⟨h,trivial⟩,by simp,by intro a ha; cases ha⟩
 | fo s=>cases e; exact h
 | _=>cases e
theorem aZ.snoc (h:dJ K H Hf s v fp):∀ {ss:List Sh} {vs:List V} {fq:Fp},aZ K H Hf ss vs fq->aZ K H Hf (ss++[s]) (vs++[v]) (fq++fp)
 | [],_,_,q=>by
  simp only [aZ] at q
  obtain ⟨rfl,rfl⟩:=q
  simp only [Tt,aZ]
  exact ⟨v,[],fp,[],rfl,h,⟨rfl,rfl⟩,(PD _).symm⟩
 | s'::ss,_,_,q=>by
  simp only [aZ] at q
  obtain ⟨x,r,f1,f2,rfl,h1,h2,rfl⟩:=q
  have:=aZ.snoc h h2
  simp only [Ra,aZ]
  exact ⟨x,r++[v],f1,f2++fp,rfl,h1,this,OY _ _ _⟩
def zV (c:Ctx P w K mg base k N sc bk) (tg:Expr) (ifs:List Expr) (elt:Expr) (ρ0:List Sl) (d:D) (o:Option Sh):Prop :=
 mR c tg d ρ0 λρ1=>Cj ρ0 ρ1/\jo c ifs ρ1 (mU (dF c elt ρ1 λr=>∃ z,o=some z/\r.sh=some z) (o=none))
abbrev M3 (scope sc:Scope) (N':List Str):Prop:=scope.kind=.function/\(∀ x∈scope.names,x.2≠.cell)/\(∀ x∈scope.names,x.2=.local->scope.names.lookup x.1=some .local)/\(∀ x∈scope.names,x.2=.free->sc.names.lookup x.1=some .cell)/\N'.Nodup/\(∀ x∈N',(bY scope sc).names.lookup x=some .local\/(bY scope sc).names.lookup x=some .cell)/\∀ x∈scope.names,x.2=.free->(bY scope sc).names.lookup x.1=some .cell
theorem Dl {elt tg iter:Expr} {ifs:List Expr} {scope:Scope} {N':List Str} {ρ0:(Str->Addr)->List Sl} {R:List Sh->Prop} (hq:c.X.xe=ji) (hfr:∀ t,yv t scope.names N ρ N' (ρ0 t))
 (h:Ci c tg iter ρ λds=>Sd (ds.length<=sizeLine) (∃ os:List (Option Sh),os.length=ds.length /\
   (∀ c':Ctx P w K mg base k N' (bY scope sc) true,c'.X.xe=ji->∀ (t:Str->Addr) (i:Nat) (d:D) (o:Option Sh),ds[i]?=some d->os[i]?=some o->zV c' tg ifs elt (ρ0 t) d o)/\R (os.filterMap id)))
 (hcp:M3 scope sc N':=by decide +kernel)
 (hs:∀ env v,foldedSetIterable iter env v=pure v:=by intro _ _; walk_at "u")
 {σ:L2.St} {H Hf:Hp} (S:bw c σ H Hf ρ) {aa:List (Addr×Obj)} {s:Shared} (I:Inv c.X aa σ H s) {use:Option (Value->Sem Unit)} {QQ:Value->Shared->Prop}
 (kont:∀ (s':Shared) (H' ak:Hp) (a C:Addr) (ss:List Sh) (vs:List V) (fq:Fp),R ss->(∃ m,s'.heap.Ns C m)->C∉c.X.fs->fH c.X aa H' C->H a=none->H' a=some (.lst vs)->ak a=none->aZ c.X.K H' ak ss vs fq->(fq.map (·.1)).Nodup->(∀ b∈fq,H b.1=none)->bB H Hf H' ak->(∀ h5,Qn C s'.heap h5->Inv c.X aa σ H' { s' with heap:=h5 })->compPost (model c.X.prog c.X.w) c.X.A ji use QQ (.ref a) C (.ok .next) s') :
 wpAny (model c.X.prog c.X.w) c.X.A (comprehension (.ListComp elt [⟨tg,iter,ifs,0⟩] scope pos) scope c.X.env (firstIterPos [⟨tg,iter,ifs,0⟩] pos) (newList []) (firstAsync [⟨tg,iter,ifs,0⟩]) (firstIter [⟨tg,iter,ifs,0⟩] c.X.env) use) QQ ji s:=by
 obtain ⟨hk,hnc,hnl,hfree,hnd,hv,hvf⟩:=hcp
 have hI:=h σ H Hf (λJ H1=>∃ ds aQ,Sd (ds.length<=sizeLine) (∃ os:List (Option Sh),os.length=ds.length /\
  (∀ c':Ctx P w K mg base k N' (bY scope sc) true,c'.X.xe=ji->∀ (t:Str->Addr) (i:Nat) (d:D) (o:Option Sh),ds[i]?=some d->os[i]?=some o->zV c' tg ifs elt (ρ0 t) d o)/\R (os.filterMap id))/\bB H Hf H1 aQ/\iO c.X.K J ds aQ) S (λds J H' ak hR g io=>⟨ds,ak,hR,g,io⟩) aa s I
 rw [hq] at hI
 have hcells:∀ x∈scope.names,x.2=.free->∃ a,c.X.env.cells.lookup x.1=some a:=λx hx hf=>I.ok.has x.1 (.inl (by unfold Pr; rw [c.esc]; exact hfree x hx hf))
 obtain ⟨cl,hclos,yq,hcl2⟩:=Dj hcells
 refine wpAny_comprehension_free (cl:=cl) (use:=use) rfl (hs _) hclos hk hnl ?_
 refine bJ (show wpAny _ _ (eval iter c.X.env) _ _ _ from hI) λv s1 h1=>bJ h1 λitv s2 hh=>z5 hh λit fp tn J H1 hh=>w6 hh λe0 I1 Tn t0 hfp hh=>z2 hh λds aQ hh=>w3 hh λhz g io=>?_
 obtain ⟨hz,os,hh⟩:=hz
 refine w3 hh λhol hb hR=>?_
 subst e0
 have hcell':∀ y∈scope.names,y.2≠.cell:=hnc
 refine Pk (wpAny_newFunctionEnv hcell' (by intro y hy; simp at hy) (λh4 hns hsb=>?_) hk)
 dsimp only at hns hsb |-
 generalize hDe:s2.heap.objs.size=Da at *
 have k3:∀ b u,s2.heap.get? b=some u->(s2.heap.push { cls:=.type "list",dict:=none,data:=.seq ([]:List Value).toArray }).get? b=some u:=λb u e=>Ow _ e
 generalize hH3:s2.heap.push { cls:=.type "list",dict:=none,data:=.seq ([]:List Value).toArray }=h3 at *
 have hCe:h3.objs.size=Da+1:=by rw [<- hH3,Qi,hDe]
 have hgD:h3.get? Da=some { cls:=.type "list",dict:=none,data:=.seq ([]:List Value).toArray }:=by rw [<- hH3,<- hDe]; exact OF _ rfl
 have um:H1 Da=none:=by rw [<- hDe]; exact I1.hok.fresh (Ot _)
 have I3:Inv c.X aa σ (upd H1 Da (.lst [])) { s2 with heap:=h3,toks:=s2.toks }:=I1.laid (a:=Da) (o:=.lst []) (t':=s2.toks) k3 (by rw [hDe]; exact Ot _) ⟨OV _,[],0,.nil,hgD⟩
 have fpne:∀ b∈fp,b≠Da:=λb hb z=>by
  obtain ⟨o,e,_⟩:=Tn.obj _ _ t0 b hb
  subst z
  exact absurd (Oz e) (by rw [hDe]; exact Qj _)
 have fplt:∀ b∈fp,b<h3.objs.size:=λb hb=>by
  obtain ⟨o,e,_⟩:=Tn.obj _ _ t0 b hb
  exact Oz (k3 b o e)
 let s3:Shared:={ s2 with heap:=h3,toks:=s2.toks }
 let H2:Hp:=upd H1 Da (.lst [])
 let X':Cx:={ prog:=c.X.prog,w:=c.X.w,K:=c.X.K,mg:=c.X.mg,base:=c.X.base,A:=c.X.A,N:=N',s₀:=s3,H₀:=H2,env:=compEnvC scope cl h3.objs.size c.X.env,outer:=c.X.stack,stack:=c.X.stack,ex:=fp,fn:=λ_=>false,calm:=true,pn:=[],xe:=ji }
 have S1:=S.cI g
 have S2:bw c σ H2 aQ ρ:=S1.cI (bB.f7 g.b um)
 obtain ⟨t,ht⟩:∃ t:Str->Addr,∀ (i:Nat) (y:Str) (p:Addr),N[i]?=some y->σ[i]?=some (some (.ref p))->t y=p:=by
  classical
  refine ⟨λy=>if h:∃ (i:Nat) (p:Addr),N[i]?=some y/\σ[i]?=some (some (.ref p)) then h.choose_spec.choose else 0,λi y p e1 e2=>?_⟩
  have h:∃ (i:Nat) (p:Addr),N[i]?=some y/\σ[i]?=some (some (.ref p)):=⟨i,p,e1,e2⟩
  show (if h:_ then _ else _)=p
  rw [dif_pos h]
  obtain ⟨e3,e4⟩:=h.choose_spec.choose_spec
  have hi:h.choose<N.length:=(OH.mp e3).1
  have e5:h.choose=i:=(List.getElem?_inj hi c.nd).mp (e3.trans e1.symm)
  have e6:=(congrArg (λz=>σ[z]?) e5).symm.trans e4
  rw [show σ[i]?=some (some (.ref p)) from e2] at e6
  have e4:=e6
  exact (V.ref.inj (Qo (Qo e4))).symm
 have hfr:=hfr t
 generalize hρ:ρ0 t=ρt at hfr
 obtain ⟨σ0,hσl,hσ0⟩:=hfr.start (σ:=σ) λi s e hu=>let ⟨v,e2,_⟩:=S2.at_ i s e hu; ⟨v,e2⟩
 have k4:∀ b u,h3.get? b=some u->h4.get? b=some u:=λb u e=>hsb.extBut b u (OU (Oz e)) (Ow _ e)
 have hsc:X'.env.scope=bY scope sc:=qm c.esc
 have okX:X'.Ok:={
  mod:=I3.ok.mod
  kind:=hk
  glob:=I3.ok.glob
  blt:=I3.ok.blt
  above:=Ot _
  inj:=λx y a e1 e2=>I3.ok.inj x y a (yq x a e1).1 (yq y a e2).1
  has:=λx hx=>by
   have key:(x,QA)∈scope.names:=by
    have hx':(bY scope sc).names.lookup x=some .cell\/(bY scope sc).names.lookup x=some .free:=by
     unfold Pr at hx; rw [hsc] at hx; exact hx
    rcases hx' with hx' | hx'
    ·obtain ⟨k0,h1,h2⟩:=iT hx'
     rcases h2 with h2 | ⟨_,h2⟩
     ·subst h2; exact absurd rfl (hnc _ h1)
     ·subst h2; exact h1
    ·obtain ⟨k0,h1,h2⟩:=iT hx'
     rcases h2 with h2 | ⟨h2,_⟩
     ·subst h2; exact h1
     ·cases h2
   obtain ⟨a,ea⟩:=hcells _ key rfl
   exact ⟨a,hcl2 x a key ea⟩
  cab:=λx a hf=>by cases hf
  hd:=λ_=>I3.ok.hd c.calm
  frames:=I3.ok.frames
  stk:=.inl rfl
  exf:=λb hb=>⟨OU (fplt b hb),λx a ea=>(hfp b hb).2.2.2.2.1 x a (yq x a ea).1⟩
  bs:=I3.bs
  bsz:=OD I3.ok.bsz I3.sz
  noex:=λb o e hb=>by
   rcases (hfp b hb).2.2.2.1 with z | z
   ·exact I3.ok.noex b o e z
   ·exact absurd (Ph (Oz e) (OD I3.ok.bsz z)) (Qj _)
  exfs:=λb hb m=>by
   rcases OM.mp (I3.rZ b m) with z | z
   ·exact (hfp b hb).2.1 z
   ·exact (hfp b hb).2.2.1 z
  jj:=I3.stack
  frf:=I3.uo }
 have I4:Inv X' [] σ0 H2 { s2 with heap:=h4,toks:=s2.toks+([]:List (Str×Value)).length }:={
  ok:=okX
  os:=rfl
  bare:=I3.bare
  base:=Un.kept k4
  loc:=⟨_,hns,λj y v hy hv' _=>by
   have hj:j<ρt.length:=by
    have:=(OH.mp hv').1
    rw [hσl] at this; exact this
   rcases hσ0 j ρt[j] (OR hj) with ⟨_,z⟩ | hh
   ·rw [z] at hv'; cases hv'
   ·refine z4 hh λi y' v' s0 hh=>w8 hh λh1 h2 h3' h4' hs5 hs6 h5 h6=>?_
    rw [h6] at hv'; cases hv'
    have hy':N'[j]?=some y:=hy
    rw [h1] at hy'; cases hy'
    obtain ⟨m0,hm0,hl⟩:=I3.loc
    have hkc:c.X.env.kindOf y=some .cell:=by unfold Pr; rw [c.esc]; exact hfree _ h2 rfl
    obtain ⟨u,r,lk⟩:=hl i y v (by rw [c.eN]; exact h3') h5 (.inr (.inl hkc))
    refine ⟨u,r,?_⟩
    rcases lk with ⟨q1,_⟩ | ⟨_,a,e1,e2⟩
    ·rw [hkc] at q1; cases q1
    ·refine .inr ⟨.inl ?_,a,hcl2 _ a h2 e1,?_⟩
     ·show List.lookup y X'.env.scope.names=_
      rw [hsc]; exact hvf _ h2 rfl
     ·obtain ⟨oc,e3,e4⟩:=e2
      exact ⟨oc,k4 _ _ e3,e4⟩⟩
  cell:=λx a ea=>by
   obtain ⟨v',oc,e3,e4⟩:=I3.cell x a (yq x a ea).1
   exact ⟨v',oc,k4 _ _ e3,e4⟩
  free:=I3.hok.fresh (Ot _)
  freeC:=λx a ea=>I3.freeC x a (yq x a ea).1
  pin:=λq hq'=>by simp at hq'; cases hq'
  hok:=I3.hok.kept k4
  len:=by rw [hσl]; exact hfr.len.symm }
 let c':Ctx P w K mg base k N' (bY scope sc) true :=
  { X:=X',eP:=c.eP,ew:=c.ew,eK:=c.eK,emg:=c.emg,eb:=c.eb,eN:=rfl,esc:=hsc,calm:=rfl,top:=λz=>(by cases z),cb:=λz=>(by cases z),fn:=λx hx=>.inr (by rw [hsc]; exact hx.resolve_left (λz=>by cases z)),room:=c.room,nd:=hnd,vis:=hv,
    Hf:=c.Hf,B:=c.B,RX:=λ_ _=>False,exc:=λ_ _ _ _ _ _ _ _ _ _ _ _ h _ _=>h.elim,RM:=λ_ _=>False,mde:=λ_ _ _ _ _ _ _ _ _ _ _ _ h _=>h.elim }
 have hN0:N'.length=ρt.length:=hfr.len
 have S4:bw c' σ0 H2 aQ ρt:=by
  refine ⟨S2.bas,hσl,λj r hj hu=>?_,λj j' r r' p hne e1 e2 o1 o2 f1 f2=>?_⟩
  ·rcases hσ0 j r hj with ⟨z,_⟩ | hh
   ·exact absurd z hu
   ·refine z4 hh λi y v s0 hh=>w8 hh λh1 h2 h3' h4' hs5 hs6 h5 h6=>?_
    obtain ⟨v',e3,q3⟩:=S2.at_ i s0 h4' hs6
    rw [h5] at e3; cases e3
    subst hs5
    exact ⟨v,h6,uT (λow=>by
     obtain ⟨p,_,rfl,_⟩:=q3.qe ow
     rw [ht i y p h3' h5]) q3⟩
  ·have u1:r≠.un:=by rintro rfl; cases o1
   have u2:r'≠.un:=by rintro rfl; cases o2
   rcases hσ0 j r e1 with ⟨z,_⟩ | hh
   ·exact u1 z
   rcases hσ0 j' r' e2 with ⟨z,_⟩ | hh'
   ·exact u2 z
   refine z4 hh λi y v s0 hh=>w8 hh λh1 h2 h3' h4' hs5 hs6 h5 h6=>z4 hh' λi' y' v' s0' hh'=>w8 hh' λh1' h2' h3'' h4'' hs5' hs6' h5' h6'=>?_
   rw [f1] at h6; cases h6
   rw [f2] at h6'; cases h6'
   have hii:i≠i':=λz=>by
    subst z
    rw [h3'] at h3''; cases h3''
    have a1:j<N'.length:=(OH.mp h1).1
    exact hne ((List.getElem?_inj a1 hnd).mp (h1.trans h1'.symm))
   subst hs5; subst hs5'
   rw [mX] at o1 o2
   exact S2.sep i i' s0 s0' p hii h4' h4'' o1 o2 h5 h5'
 have howA:∀ (j:Nat) (r:Sl),ρt[j]?=some r->r.owned=true->∃ b,r.adr=some b/\b≠Da:=λj r hj ho=>by
  rcases hσ0 j r hj with ⟨z,_⟩ | hh
  ·subst z; cases ho
  ·refine z4 hh λi y v s0 hh=>w8 hh λh1 h2 h3' h4' hs5 hs6 h5 h6=>?_
   subst hs5
   rw [mX] at ho
   obtain ⟨b,eb⟩:=Dk (a:=t y) ho
   refine ⟨b,eb,λz=>?_⟩
   obtain ⟨v',e3,q3⟩:=S1.at_ i s0 h4' hs6
   obtain ⟨p,o,e4,_,e5,_⟩:=q3.qe ho
   subst e4
   have q4:=uT (a:=t y) (λ_=>by rw [ht i y p h3' e3]) q3
   have:=uU eb q4
   rw [this,z,um] at e5; cases e5
 have hB0:c.B Da=none:=S1.bas.s.free um
 have fps:∀ {H':Hp},(∀ b∈fp,H' b=none)->∀ b∈fp,fH X' [] H' b:=λhn b hb =>
  ⟨hn b hb,OU (fplt b hb),okX.exfs b hb,.inl hb,λx a ea=>(hfp b hb).2.2.2.2.1 x a (yq x a ea).1,λp hp=>by cases hp⟩
 have fin:∀ (s':Shared) (σ':L2.St) (H' ak:Hp) (vs:List V) (fq:Fp),Inv X' [] σ' H' s'->bB H1 aQ H' ak->H' Da=some (.lst vs)->ak Da=none->aZ c.X.K H' ak (os.filterMap id) vs fq->(fq.map (·.1)).Nodup->(∀ b∈fq,H1 b.1=none) ->
  compPost (model c.X.prog c.X.w) c.X.A ji use QQ (.ref Da) h3.objs.size (.ok .next) s':=λs' σ' H' ak vs fq I' g' hD hfD hr hnd2 hfr2=>by
  obtain ⟨m,hm,_⟩:=I'.loc
  have hCX:h3.objs.size∉c.X.fs:=I3.JE (Ot _)
  have hCf:fH c.X aa H' h3.objs.size:=by
   refine ⟨I'.free,λz=>?_,hCX,.inr I3.sz,λx a ea z=>?_,λp hp z=>?_⟩
   ·obtain ⟨m0,hm0,_⟩:=I3.loc
    obtain ⟨o,_,_,e,_⟩:=hm0
    exact absurd (Oz e) (by rw [<- z]; exact Qj _)
   ·obtain ⟨v',oc,e,_⟩:=I3.cell x a ea
    exact absurd (Oz e) (by rw [z]; exact Qj _)
   ·exact absurd (Oz (I3.pin p hp).1) (by rw [z]; exact Qj _)
  refine kont s' H' ak Da h3.objs.size (os.filterMap id) vs fq hR ⟨m,hm⟩ hCX hCf (g.s.free um) hD hfD hr hnd2 (λb hb=>g.s.free (hfr2 b hb)) (g.trans g') λh5 yr=>?_
  have ub:Un (frs c.X.stack) fp H2 H' s3.heap h5:=by
   have u:=I'.base
   have ne:∀ b o,s3.heap.get? b=some o->b≠h3.objs.size:=λb o e=>OU (Oz e)
   refine ⟨λb o e n hf hx=>(yr.2 b (ne b o e)).trans (u.keep b o e n hf hx),λb o e n hf hx=>?_,u.free,λb o e hx=>?_,u.tups,u.frzs,u.tbls⟩
   ·obtain ⟨sl,e2⟩:=u.slot b o e n hf hx
    exact ⟨sl,(yr.2 b (ne b o e)).trans e2⟩
   ·obtain ⟨o',e2⟩:=u.there b o e hx
    exact ⟨o',(yr.2 b (ne b o e)).trans e2⟩
  have hokf:jh c.X.prog c.X.w H' h5:=λb u e=>(I'.hok b u e).stay (λa o ha e2=>by
   refine (yr.2 a ?_).trans e2
   intro z; subst z
   have hfree':H' h3.objs.size=none:=I'.free
   rcases ha with z | z
   ·subst z; rw [hfree'] at e; cases e
   ·rw [hfree'] at z; cases z) (λ_ z=>z) λ_ _ z=>z
  exact I3.JF (ch:=fp) I'.os ub hokf I'.bare λb hb=>⟨(hfp b hb).2.2.2.1,(hfp b hb).2.1,(hfp b hb).2.2.2.2.1,(hfp b hb).2.2.2.2.2⟩
 have loop:codeAny (model c.X.prog c.X.w) c.X.A (.compLoop (.ListComp elt [⟨tg,iter,ifs,0⟩] scope pos) 0 (.ref it) (.ref Da) X'.env) (compPost (model c.X.prog c.X.w) c.X.A ji use QQ (.ref Da) h3.objs.size) { s2 with heap:=h4,toks:=s2.toks+([]:List (Str×Value)).length }:=by
  refine n8 (λn s'=>∃ (i:Nat) (σ':L2.St) (H' ak:Hp) (vs:List V) (fq:Fp),n=ds.length - i/\i<=ds.length/\Inv X' [] σ' H' s'/\tn i s'.heap/\bw c' σ' H' ak ρt/\bB H1 aQ H' ak/\H' Da=some (.lst vs)/\ak Da=none/\aZ c.X.K H' ak ((os.take i).filterMap id) vs fq/\(fq.map (·.1)).Nodup/\(∀ b∈fq,H1 b.1=none)/\vs.length<=i/\∀ b∈fp,H' b=none) ?_ ds.length
   ⟨0,σ0,H2,aQ,[],[],by simp,OV _,I4,Tn.keep _ _ _ t0 λb hb o e=>k4 b o (k3 b o e),S4,bB.f7 g.b um,ah,g.b.free um,by simp [aZ],List.nodup_nil,(λb hb=>by cases hb),Ot _,λb hb=>by show upd H1 Da _ b=none; rw [aq (fpne b hb)]; exact (hfp b hb).1⟩
  refine λn s5 hh=>z5 hh λi σ5 H5 Hf5 vs hh=>hh.elim λfq hh=>w6 hh λen hi I5 t5 S5 hh=>w6 hh λg5 hD5 hfD5 hr5 hnd5 hh=>w3 hh λhfr5 hlv fr5=>?_
  subst en
  by_cases hlt:i<ds.length
  ·have ed:ds[i]?=some ds[i]:=OR hlt
   have eo:os[i]?=some (os[i]'(by rw [hol]; exact hlt)):=OR _
   generalize ds[i]=d at ed
   generalize os[i]'(by rw [hol]; exact hlt)=o at eo
   obtain ⟨hgo,hy⟩:=io.go i d H5 Hf5 g5.f g5.b ed
   refine bJ (Tn.item X' rfl rfl rfl rfl i [] s5 σ5 H5 ji I5 (fps fr5) t5 hgo) λr s6 hh=>hh.elim λu hh=>w2 hh λhr h6=>?_
   subst hr
   refine bJ h6 λ_ s7 hh=>z2 hh λx H7 hh=>w5 hh λI7 rx y7 t7 fr7=>?_
   obtain ⟨Hf7,g7,rx7⟩:=hy x H7 y7
   have I7':=I7.pinned (fps fr7) (Tn.obj _ _ t7)
   have S7:bw c' σ5 H7 Hf7 ρt:=S5.cI g7
   have hasg0:=hb c' rfl t i d o ed eo
   rw [hρ] at hasg0
   have hasg:=hasg0 σ5 H7 Hf7 x (λσ2 H2'=>∃ cP ρ1,bw c' σ2 H2' cP ρ1/\bB H7 Hf7 H2' cP/\Cj ρt ρ1/\jo c' ifs ρ1 (mU (dF c' elt ρ1 λr=>∃ z,o=some z/\r.sh=some z) (o=none))) S7 rx7 (λσ2 H2' cP ρ1 S' g' hw=>⟨cP,ρ1,S',g',hw⟩) _ s7 u I7' rx
   refine bJ (show wpAny _ _ _ _ ji _ from hasg) λ_ s8 hh=>z2 hh λσ8 H8 hh=>w2 hh λI8 hh=>z2 hh λHf8 ρ8 hh=>w4 hh λS8 g8 w8 hC8=>?_
   refine bJ (mW (c:=c') rfl ifs S8 hC8 (Q:=λb H'=>∃ ak,mU (dF c' elt ρ8 λr=>∃ z,o=some z/\r.sh=some z) (o=none) b/\bB H8 Hf8 H' ak) (λb H' ak hb' g'=>⟨ak,hb',g'⟩) I8) λb s9 hh=>hh.elim λH9 hh=>w2 hh λI9 hh=>hh.elim λHf9 hh=>w2 hh λhb9 g9=>?_
   have g79:=(g7.trans g8).trans g9
   have hD9:H9 Da=some (.lst vs):=g79.s _ _ hD5
   have hfD9:Hf9 Da=none:=g79.n Da hfD5 (by rw [hD5]; simp) (by intro ys; rw [hD5]; simp)
   have keepT:∀ {σ':L2.St} {H':Hp} {s':Shared},Inv X' ([]++ki fp s7.heap) σ' H' s'->tn (i+1) s'.heap/\∀ b∈fp,H' b=none:=λ{σ' H' s'} I' =>
    ⟨Tn.keep _ _ _ t7 λb hb' ob e=>(I'.pin (b,ob) (Ql _ (Ql _ (fJ hb' e)))).1,λb hb'=>by
      obtain ⟨ob,e,_⟩:=Tn.obj _ _ t7 b hb'
      exact (I'.pin (b,ob) (Ql _ (Ql _ (fJ hb' e)))).2.1⟩
   have wk:∀ {σ':L2.St} {H' ak:Hp},bw c' σ' H' ak ρ8->bw c' σ' H' ak ρt:=λS'=>fc.weak S' w8.weak.1 w8.weak.2
   have tk:(os.take (i+1)).filterMap id=(os.take i).filterMap id++o.toList:=by
    rw [Tf,eo,List.filterMap_append]
    cases o <;> rfl
   cases b with
   | false =>
    have eo':=hb9.f rfl
    subst eo'
    rw [if_neg OC]
    obtain ⟨t9,fr9⟩:=keepT I9
    have hr9:aZ c.X.K H9 Hf9 ((os.take i).filterMap id) vs fq:=aZ.mv g79.f _ (λa _ e1 e2=>⟨g79.s _ _ e1,g79.n a.1 e2 (by rw [e1]; simp) (by intro ys z; rw [e1] at z; cases z)⟩) hr5
    exact ⟨_,Nat.sub_lt_sub_left hlt (Q9 i),i+1,σ8,H9,Hf9,vs,fq,rfl,hlt,I9.fW,t9,wk (S8.cI g9),g5.trans g79,hD9,hfD9,by rw [tk]; simpa using hr9,hnd5,hfr5,Nat.le_succ_of_le hlv,fr9⟩
   | true =>
    rw [if_pos rfl]
    have hev:=hb9.t rfl σ8 H9 Hf9 (λv H'=>∃ ak r,(∃ z,o=some z/\r.sh=some z)/\bh c.X.K (λp=>H9 p=none) H' ak r v/\bB H9 Hf9 H' ak) (S8.cI g9) (λr v H' ak he r' g'=>⟨ak,r,he,r',g'⟩) _ s9 I9
    refine bJ (show wpAny _ _ _ _ ji _ from hev) λu2 s10 hh=>z2 hh λv2 H10 hh=>w3 hh λI10 r10 hh=>z2 hh λHf10 r hh=>w3 hh λeo0 re g10=>?_
    obtain ⟨z,rfl,eo'⟩:=eo0
    obtain ⟨f1,rf1,nd1,fr1⟩:=Hx eo' re
    have z1:=dJ.fz z rf1
    have z0:=aZ.fz _ hr5
    have g510:=g79.trans g10
    have hr10:aZ c.X.K H10 Hf10 ((os.take i).filterMap id) vs fq:=aZ.mv g510.f _ (λa _ e1 e2=>⟨g510.s _ _ e1,g510.n a.1 e2 (by rw [e1]; simp) (by intro ys z; rw [e1] at z; cases z)⟩) hr5
    have hD10:H10 Da=some (.lst vs):=g10.s _ _ hD9
    have hfD10:Hf10 Da=none:=g10.n Da hfD9 (by rw [hD9]; simp) (by intro ys; rw [hD9]; simp)
    have app:=mH (X:=X') _ s10 σ8 H10 (.ref Da) [v2] (.ref Da) [u2] (λ_ H'=>H'=upd H10 Da (.lst (vs++[v2]))) I10 rfl (.cons r10 .nil) ⟨Da,vs,v2,rfl,rfl,hD10,Ph (Qx hlv hlt) hz,rfl⟩
    refine bJ (show wpAny _ _ _ _ ji _ from app) λ_ s11 ⟨_,H11,I11,_,e11⟩=>?_
    subst e11
    obtain ⟨t11,fr11⟩:=keepT I11
    have S10:bw c' σ8 H10 Hf10 ρ8:=(S8.cI g9).cI g10
    have gA:bB H1 aQ (upd H10 Da (.lst (vs++[v2]))) Hf10:=uV ((g5.trans g79).trans g10) um hfD10
    refine ⟨_,Nat.sub_lt_sub_left hlt (Q9 i),i+1,σ8,_,Hf10,vs++[v2],fq++f1,rfl,hlt,I11.fW,t11,?_,gA,ah,hfD10,?_,?_,?_,by rw [O7]; exact Ti hlv,fr11⟩
    ·refine (wk S10).apart hB0 hfD10 (λ⟨_,z⟩=>by rw [hD10] at z; cases z) λj r hj ho=>λz=>?_
     obtain ⟨b,eb,nb⟩:=howA j r hj ho
     obtain ⟨v',e3,q3⟩:=(wk S10).at_ j r hj (by rintro rfl; cases ho)
     rw [z] at e3; cases e3
     exact nb (uU eb q3).symm
    ·rw [tk]
     refine aZ.mv (.refl _) _ (λa ha e1 e2=>⟨?_,e2⟩) (aZ.snoc rf1 hr10)
     rw [aq λz=>by rw [z,hD10] at e1; cases e1]; exact e1
    ·rw [Pu,List.nodup_append]
     refine ⟨hnd5,nd1,λa ha b hb z=>?_⟩
     subst z
     obtain ⟨p,hp,ep⟩:=O1.mp ha
     obtain ⟨q,hq',eq⟩:=O1.mp hb
     have e1:=g79.s _ _ (z0 p hp).1
     have e2:=fr1 q hq'
     rw [eq,<- ep,e1] at e2; cases e2
    ·intro b hb
     rcases OZ.mp hb with hb | hb
     ·exact hfr5 b hb
     ·exact (g5.trans g79).s.free (fr1 b hb)
  ·have e:i=ds.length:=Nat.le_antisymm hi (Nat.le_of_not_lt hlt)
   subst e
   refine bJ (Tn.done X' rfl rfl rfl rfl ds.length [] s5 σ5 H5 ji I5 (fps fr5) t5 (io.stop _ H5 Hf5 g5.f g5.b (Ot _))) λr s6 ⟨hr,I6⟩=>?_
   subst hr
   refine fin s6 σ5 H5 Hf5 vs fq I6 g5 hD5 hfD5 ?_ hnd5 hfr5
   rw [QI (by rw [hol]; exact Ot _)] at hr5
   exact hr5
 exact codeAny_compStart_list loop (Tn.self _ 0 _ _ _ (Tn.keep _ _ _ t0 λb hb o e=>k4 b o (k3 b o e)) loop)
theorem uW:∀ {ds:List D} {vs:List V} {fq:Fp},aZ K H Hf (ds.map .v) vs fq->au K Hf ds vs
 | [],_,_,h=>by simp only [Rh,aZ] at h; exact aC.mpr h.1
 | d::ds,_,_,h=>by
  simp only [OA,aZ,dJ] at h
  obtain ⟨x,r,f1,f2,rfl,h1,h2,-⟩:=h
  exact au.cons h1.1 (uW h2)
theorem Hy:∀ os:List (Option D),(os.map (Option.map Sh.v)).filterMap id=(os.filterMap id).map Sh.v
 | []=>rfl
 | none::os=>Hy os
 | some d::os=>congrArg (Sh.v d:: ·) (Hy os)
theorem jo.imp (h:∀ b,T b->T' b):∀ {ifs:List Expr} {ρ:List Sl},jo c ifs ρ T->jo c ifs ρ T'
 | [],_,q=>h _ q
 | _::_,_,q=>λσ H Hf Q S z=>q σ H Hf Q S λb H' ak hb g=>z b H' ak ⟨λe=>jo.imp h (hb.t e),λe=>h _ (hb.f e)⟩ g
theorem zW (h:uS c tg ifs elt ρ0 d o):zV c tg ifs elt ρ0 d (o.map .v):=λσ H Hf v Q S r q=>h σ H Hf v Q S r λσ' H' ak ρ' S' g hw=>q σ' H' ak ρ' S' g ⟨hw.1,jo.imp (λb hb=>⟨λe=>λσ2 H2 cP Q2 S2 q2=>hb.t e σ2 H2 cP Q2 S2 λd2 v2 H3 Hf3 ed rv g3=>q2 (.va d2) v2 H3 Hf3 ⟨.v d2,by rw [ed]; rfl,rfl⟩ rv g3,λe=>by rw [hb.f e]; rfl⟩) hw.2⟩
theorem Dn {elt tg iter:Expr} {ifs:List Expr} {scope:Scope} {N':List Str} {ρ0:(Str->Addr)->List Sl} {R:Sl->Prop} (hq:c.X.xe=ji) (hfr:∀ t,yv t scope.names N ρ N' (ρ0 t))
 (h:Ci c tg iter ρ λds=>Sd (ds.length<=sizeLine) (∃ os:List (Option D),os.length=ds.length /\
   (∀ c':Ctx P w K mg base k N' (bY scope sc) true,c'.X.xe=ji->∀ (t:Str->Addr) (i:Nat) (d:D) (o:Option D),ds[i]?=some d->os[i]?=some o->uS c' tg ifs elt (ρ0 t) d o)/\R (.ow (os.filterMap id))))
 (hcp:M3 scope sc N':=by decide +kernel)
 (hs:∀ env v,foldedSetIterable iter env v=pure v:=by intro _ _; walk_at "u")
 {σ:L2.St} {H Hf:Hp} (S:bw c σ H Hf ρ) {aa:List (Addr×Obj)} {s:Shared} (I:Inv c.X aa σ H s) {use:Option (Value->Sem Unit)} {QQ:Value->Shared->Prop}
 (kont:∀ (s':Shared) (H' ak:Hp) (a C:Addr) (r:Sl),R r->(∃ m,s'.heap.Ns C m)->C∉c.X.fs->fH c.X aa H' C->bh c.X.K (λp=>H p=none) H' ak r (.ref a)->bB H Hf H' ak->(∀ h5,Qn C s'.heap h5->Inv c.X aa σ H' { s' with heap:=h5 })->compPost (model c.X.prog c.X.w) c.X.A ji use QQ (.ref a) C (.ok .next) s') :
 wpAny (model c.X.prog c.X.w) c.X.A (comprehension (.ListComp elt [⟨tg,iter,ifs,0⟩] scope pos) scope c.X.env (firstIterPos [⟨tg,iter,ifs,0⟩] pos) (newList []) (firstAsync [⟨tg,iter,ifs,0⟩]) (firstIter [⟨tg,iter,ifs,0⟩] c.X.env) use) QQ ji s:=by
 refine Dl (R:=λss=>∃ os:List D,ss=os.map .v/\R (.ow os)) hq hfr (λσ' H' ak Q S' q=>h σ' H' ak Q S' λds J H1 aQ hd=>q ds J H1 aQ ⟨hd.1,hd.2.elim λos ho=>⟨os.map (Option.map .v),by rw [Ox]; exact ho.1,λc' hc t i d o e1 e2=>?_,os.filterMap id,?_,ho.2.2⟩⟩) hcp hs S I λs' H' ak a C ss vs fq hR hC1 hC2 yp ha h1 h2 r nd fr g hJ=>?_
 ·rw [OE,OL] at e2
  obtain ⟨o',e3,rfl⟩:=e2
  exact zW (ho.2.1 c' hc t i d o' e1 e3)
 ·exact Hy os
 ·obtain ⟨os,rfl,hR⟩:=hR
  exact kont s' H' ak a C (.ow os) hR hC1 hC2 yp ⟨a,vs,rfl,ha,h1,h2,uW r⟩ g hJ
theorem cW {elt tg iter:Expr} {ifs:List Expr} {scope:Scope} {N':List Str} {ρ0:(Str->Addr)->List Sl} {R:Sl->Prop} (hq:c.X.xe=ji) (hfr:∀ t,yv t scope.names N ρ N' (ρ0 t))
 (h:Ci c tg iter ρ λds=>Sd (ds.length<=sizeLine) (∃ os:List (Option D),os.length=ds.length /\
   (∀ c':Ctx P w K mg base k N' (bY scope sc) true,c'.X.xe=ji->∀ (t:Str->Addr) (i:Nat) (d:D) (o:Option D),ds[i]?=some d->os[i]?=some o->uS c' tg ifs elt (ρ0 t) d o)/\R (.ow (os.filterMap id))))
 (hcp:M3 scope sc N':=by decide +kernel)
 (hs:∀ env v,foldedSetIterable iter env v=pure v:=by intro _ _; walk_at "u"):dF c (.ListComp elt [⟨tg,iter,ifs,0⟩] scope pos) ρ R:=λσ H Hf Q S q aa s I=>by
 rw [hq]
 rw [show (eval (.ListComp elt [⟨tg,iter,ifs,0⟩] scope pos) c.X.env)=comprehension (.ListComp elt [⟨tg,iter,ifs,0⟩] scope pos) scope c.X.env (firstIterPos [⟨tg,iter,ifs,0⟩] pos) (newList []) (firstAsync [⟨tg,iter,ifs,0⟩]) (firstIter [⟨tg,iter,ifs,0⟩] c.X.env) from rfl]
 exact Dn hq hfr h hcp hs S I λs' H' ak a C r hr ⟨m,hm⟩ _ _ hrep g hJ=>⟨m,hm,λh5 yr=>⟨.ref a,H',hJ h5 yr,rfl,q r _ H' ak hr hrep g⟩⟩
end
mutual
def D.nl:D->Prop
 | .lst _=>False
 | .fdK _ _=>False
 | .fdT _ _=>False
 | .tup ds=>D.pA ds
 | _=>True
def D.pA:List D->Prop
 | []=>True
 | d::ds=>d.nl/\D.pA ds
end
theorem uX:∀ {ds:List D},D.pA ds↔∀ d∈ds,d.nl
 | []=>by simp [D.pA]
 | d::ds=>by simp [D.pA,uX (ds:=ds)]
theorem dP {α:Type} {f:α->D} {l:List α} (h:∀ x∈l,(f x).nl):D.pA (l.map f):=uX.mpr λd hd=>by
 obtain ⟨x,hx,rfl⟩:=O1.mp hd
 exact h x hx
theorem kL:(D.int i).nl:=by simp [D.nl]
theorem Dp (l:List Int):D.pA (l.map D.int):=dP λx _=>kL
theorem sO (h:D.pA ds):(D.tup ds).nl:=by simpa [D.nl] using h
noncomputable def HO.mt:HO->Prop | .lst _=>True | .dK _=>True | .dT _=>True | _=>False
theorem wW {K:Oo} (hp:Hf p=some o) (hm:HO.mt o) (h:dh K Hf a xs):dh K (del Hf p) a xs:=by
 rcases h with (h | ⟨o',h⟩) | h
 ·exact .inl (.inl (by rw [cD (by rintro rfl; rw [hp] at h; cases h; exact hm)]; exact h))
 ·exact .inl (.inr ⟨o',by rw [cD (by rintro rfl; rw [hp] at h; cases h; exact hm)]; exact h⟩)
 ·exact .inr h
mutual
theorem sP {K:Oo} {Hf:Hp} {p:Addr} {o:HO} (hp:Hf p=some o) (hm:HO.mt o):∀ (d:D) {v:V},d.nl->Rep K Hf d v->Rep K (del Hf p) d v
 | .non,_,_,h=>by simpa [Rep] using h
 | .bl _,_,_,h=>by simpa [Rep] using h
 | .int _,_,_,h=>by simpa [Rep] using h
 | .str _,_,_,h=>by simpa [Rep] using h
 | .adr _,_,_,h=>by simpa [Rep] using h
 | .tup ds,v,f,h=>by
  simp only [Rep] at h |-
  obtain ⟨a,xs,e,h1,h2⟩:=h
  exact ⟨a,xs,e,wW hp hm h1,n9 hp hm ds (by simpa [D.nl] using f) h2⟩
 | .lst _,_,f,_=>by simp [D.nl] at f
 | .fdK _ _,_,f,_=>by simp [D.nl] at f
 | .fdT _ _,_,f,_=>by simp [D.nl] at f
 | .exc C,_,_,h=>by
  simp only [Rep] at h |-
  obtain ⟨a,e,h⟩:=h
  exact ⟨a,e,by rw [cD (by rintro rfl; rw [hp] at h; cases h; exact hm)]; exact h⟩
theorem n9 {K:Oo} {Hf:Hp} {p:Addr} {o:HO} (hp:Hf p=some o) (hm:HO.mt o):∀ (ds:List D) {xs:List V},D.pA ds->au K Hf ds xs->au K (del Hf p) ds xs
 | [],_,_,h=>by simpa [au] using h
 | d::ds,xs,f,h=>by
  simp only [au] at h |-
  simp only [D.pA] at f
  obtain ⟨x,r,e,h1,h2⟩:=h
  exact ⟨x,r,e,sP hp hm d f.1 h1,n9 hp hm ds f.2 h2⟩
end
noncomputable def Sl.nl:Sl->Prop
 | .va d=>d.nl
 | .ow ds=>D.pA ds
 | _=>False
theorem bh.M4 {K:Oo} {H H' ak:Hp} (hp:ak p=some oz) (hm:HO.mt oz) (h0:H p=some o) (f:r.nl) (h:bh K (λp=>H p=none) H' ak r v):bh K (λp=>H p=none) H' (del ak p) r v:=by
 cases r with
 | va d=>exact sP hp hm d f h
 | ow ds =>
  obtain ⟨q,xs,rfl,fq,h1,h2,h3⟩:=h
  refine ⟨q,xs,rfl,fq,h1,?_,n9 hp hm ds f h3⟩
  rw [cD (by rintro rfl; rw [h0] at fq; cases fq)]; exact h2
 | _=>exact f.elim
section
variable {P:Program} {w:World} {K:Oo} {mg:Str->Option Value} {base:Heap} {k:Nat} {N:List Str} {sc:Scope} {bk:Bool} {c:Ctx P w K mg base k N sc bk} {ρ ρ':List Sl} {pos ap cp px tp:Pos} {a b e f:Expr} {es:List Expr} {R:D->Prop} {T:Bool->Prop} {nx:List Sl->Prop} {p:Pt} {x:Str} {i:Nat} {r:Sl} {ds:List D}
noncomputable def Sl.lX:Sl->Option D
 | .ow ds=>some (.lst ds) | .aw _ ds=>some (.lst ds)
 | _=>none
theorem kM (h:r.lX=some d):r.owned=true:=by cases r <;> first | rfl | cases h
theorem iU {κ:Type} {Hf:Hp} {kvs:List (κ×D)} {xs:List (κ×V)} (h:lQ K Hf kvs xs):xs.map (·.1)=kvs.map (·.1)/\au K Hf (kvs.map (·.2)) (xs.map (·.2)):=by
 unfold lQ at h
 induction h with
 | nil=>exact ⟨rfl,aC.mpr rfl⟩
 | cons h t ih=>exact ⟨by rw [OA,OA,ih.1,h.1],.cons h.2 ih.2⟩
theorem fm (h:kD K Hf kvs xs):xs.map (·.1)=kvs.map (·.1)/\(∀ y∈xs,dh K Hf y.2.1 (y.1.map kV))/\au K Hf (kvs.map (·.2)) (xs.map (·.2.2)):=by
 refine ⟨?_,h.zU,?_⟩
 ·unfold kD at h
  induction h with
  | nil=>rfl
  | cons h t ih=>rw [OA,OA,ih,h.1]
 ·unfold kD at h
  induction h with
  | nil=>exact aC.mpr rfl
  | cons h t ih=>exact .cons h.2.2 ih
theorem bh.lX (h:r.lX=some d) (q:bh K fr H Hf r v):∃ p o,v=.ref p/\fr p/\H p=some o/\Hf p=none/\HO.mt o/\Rep K (upd Hf p o) d v:=by
 have sf:∀ {p:Addr} {o:HO},Hf p=none->aN Hf (upd Hf p o):=λhp b u e=>by rw [aq (aD e hp)]; exact e
 cases r with
 | ow ds=>cases h; obtain ⟨p,xs,rfl,f,h1,h2,h3⟩:=q; exact ⟨p,_,rfl,f,h1,h2,trivial,bu.mpr ⟨p,xs,rfl,.inl (.inl ah),h3.mono (sf h2)⟩⟩
 | aw a ds=>cases h; obtain ⟨p,xs,rfl,f,h1,h2,h3⟩:=q; exact ⟨p,_,rfl,f.1,h1,h2,trivial,bu.mpr ⟨p,xs,rfl,.inl (.inl ah),h3.mono (sf h2)⟩⟩
 | _=>cases h
theorem fc.j0 (S:fc K H₀ fh σ H Hf ρ) (h:ρ[i]?=some r) (hr:r.lX=some d) :
 ∃ q o,H q=some o/\Hf q=none/\HO.mt o/\fc K H₀ fh σ H (L2.upd Hf q o) (ρ.set i (.va d)):=by
 obtain ⟨q,ev,rq⟩:=S.own h (kM hr)
 obtain ⟨_,o,e0,fq,hq,wu,hm,rd⟩:=rq.lX hr
 cases e0
 have hi:i<ρ.length:=(OH.mp h).1
 have hown:=kM hr
 have sf:aN Hf (L2.upd Hf q o):=λb u e=>by rw [L2.aq (aD e wu)]; exact e
 have sb:aN (L2.upd Hf q o) H:=λb u e=>by
  by_cases z:b=q
  ·subst z; rw [L2.ah] at e; rw [hq]; exact e
  ·rw [L2.aq z] at e; exact S.sb b u e
 refine ⟨q,o,hq,wu,hm,⟨S.bas.s,S.bas.f.trans sf,sb,λb h1 h2 h3=>?_⟩,by simp [S.len],λj r' hj hu=>?_,λj j' r1 r2 q' hne h1 h2 o1 o2=>?_⟩
 ·have e:=S.bas.n b h1 h2 h3
  by_cases z:b=q
  ·subst z; exact absurd fq h2
  ·rw [L2.aq z]; exact e
 ·by_cases z:j=i
  ·subst z
   rw [P4 hi] at hj
   cases hj
   exact ⟨_,ev,rd⟩
  ·rw [P5 (OT z)] at hj
   obtain ⟨v,e1,e2⟩:=S.at_ j r' hj hu
   refine ⟨v,e1,?_⟩
   have key:r'.owned=true->v≠.ref q:=λho z=>by
    subst z
    exact S.sep i j _ _ q (OT ‹_›) h hj hown ho ev e1
   exact bh.mv (B:=λz=>z=q) sf (λz u hz e1 _ e3=>⟨e1,by rw [L2.aq hz]; exact e3⟩) (by rintro _ z rfl ⟨ys,e9⟩; rw [hq] at e9; cases e9; exact hm) (λho z e=>by rintro rfl; exact key ho e) e2
 ·have out:∀ {j:Nat} {r:Sl},(ρ.set i (.va d))[j]?=some r->r.owned=true->ρ[j]?=some r:=λ{j r} hj ho=>by
   by_cases z:j=i
   ·subst z; rw [P4 hi] at hj; cases hj; cases ho
   ·rw [P5 (OT z)] at hj; exact hj
  exact S.sep j j' r1 r2 q' hne (out h1 o1) (out h2 o2) o1 o2
theorem qo (sb:aN Hf H) (hq:H q=some o) (wu:Hf q=none) (g:bB H (upd Hf q o) H' ak):bB H Hf H' (del ak q) :=
 ⟨g.s,λb o e=>by rw [cD (aD e wu)]; exact g.f b o (by rw [aq (aD e wu)]; exact e),λb o e=>by obtain ⟨_,e2⟩:=iR e; exact g.b b o e2,λb h1 h2 h3=>by
   by_cases z:b=q
   ·subst z; exact iQ
   ·rw [cD z]; exact g.n b (by rw [aq z]; exact h1) h2 h3⟩
theorem KC (i) (hi:At ρ i r) (hr:r.lX=some d0) (hs:SSet ρ i (.va d0) ρ') (h:aH c e ρ' λd=>Sd d.nl (R d)):aH c e ρ R:=λσ H Hf Q S q=>by
 obtain ⟨a,o,ha,yt,hm,S1⟩:=S.j0 hi.get hr
 rw [<- hs.eq] at S1
 exact h σ H _ Q S1 λd v H' ak ⟨fl,rd⟩ rv g=>q d v H' _ rd (sP (g.f a _ ah) hm d fl rv) (qo S.sb ha yt g)
theorem uY (i) {R:Sl->Prop} (hi:At ρ i r) (hr:r.lX=some d0) (hs:SSet ρ i (.va d0) ρ') (h:dF c e ρ' λd=>Sd d.nl (R d)):dF c e ρ R:=λσ H Hf Q S q=>by
 obtain ⟨a,o,ha,yt,hm,S1⟩:=S.j0 hi.get hr
 rw [<- hs.eq] at S1
 exact h σ H _ Q S1 λd v H' ak ⟨fl,rd⟩ rv g=>q d v H' _ rd (rv.M4 (g.f a _ ah) hm ha fl) (qo S.sb ha yt g)
theorem eX {st:List Stmt} (i) (hi:At ρ i r) (hr:r.lX=some d0) (hs:SSet ρ i (.va d0) ρ') (h:aG c st ρ' nx p):aG c st ρ nx p:=λσ H Hf D S o=>by
 obtain ⟨a,ob,ha,yt,hm,S1⟩:=S.j0 hi.get hr
 rw [<- hs.eq] at S1
 exact h σ H _ D S1 o
theorem KD {st:Stmt} (i) (hi:At ρ i r) (hr:r.lX=some d0) (hs:SSet ρ i (.va d0) ρ') (h:fS c st ρ' nx p):fS c st ρ nx p:=λσ H Hf D S o=>by
 obtain ⟨a,ob,ha,yt,hm,S1⟩:=S.j0 hi.get hr
 rw [<- hs.eq] at S1
 exact h σ H _ D S1 o
theorem KG (hN:At N i x) (hi:At ρ i r) (hr:r.lX=some (.lst ds)) (hs:SSet ρ i (.va (.lst ds)) ρ') (h:aH c b ρ' λy=>Sd y.nl (∃ j d,y=.int j/\kq ds j=some d/\Sd d.nl (R d))) (hx:At ρ' i (.va (.lst ds)))
 (hd:(x == ("__debug__":Str))=false:=by decide) (hcd:(x == ("__classdict__":Str))=false:=by decide) (hp:jX b:=by with_unfolding_all exact λ_ _=>rfl):aH c (.Subscript (.Name x p2) b pos) ρ R :=
 KC i hi hr hs (Kx (mS hN hx (h.imp λy ⟨_,j,d,e1,e2,e3⟩=>⟨ds,j,d,rfl,e1,e2,e3⟩) hd hcd) hp)
theorem M5 (h:dF c e ρ (Fe R)):aH c e ρ R:=e_x h
end
end EV
set_option maxHeartbeats 0
namespace EV
open PySem PySem.Spec PyProof.Rows L2
section
variable {P:Program} {w:World} {K:Oo} {mg:Str->Option Value} {base h:Heap}
def aA (K:Oo) (mg:Str->Option Value) (x:Str) (st:Stmt):Prop:=∃ f fd,mg x=some (.ref f)/\eG K x x st f fd
theorem Hz {st:Stmt} {kV doc pm cdv ct:Value} (KX:K.In h) (G:h.Ns mainGlobals mg) (a:Pq K mainGlobals x=some (some (.ref f)))
 (l:K.lookup f=some ⟨oc,od,.func (QC x x (fK st) (av st) (aR st) .none kV doc pm an cdv ct),osl⟩) (c:TJ K cdv x=true) (k:Qu K (.ref f)=true):aA K mg x st :=
 ⟨f,_,PySem.W.mg_of KX G a,G2 l c k⟩
theorem HA (e:(t == PU T)=false) (m:PySem.W.kitMeta T=true) (s:PySem.W.subIn K t (.type T)=some b):PySem.W.kitOne K t (.type T)=some b:=by
 unfold PySem.W.kitOne PySem.W.kitCls
 simp [e,m,s]
structure Txt (K:Oo) (mg:Str->Option Value):Prop where
 abs:mg "abs"=none
 len:mg "len"=none
 isin:mg "isinstance"=none
 range:mg "range"=none
 int:mg "int"=none
 bool:mg "bool"=none
 tuple:mg "tuple"=none
 list:mg "list"=none
 max:mg "max"=none
 min:mg "min"=none
 sum:mg "sum"=none
 sorted:mg "sorted"=none
 zip:mg "zip"=none
 enum:mg "enumerate"=none
 all:mg "all"=none
 any:mg "any"=none
 dict:mg "dict"=none
 ib:PySem.W.kitOne K (.type "int") (.type "bool")=some false
theorem HB (KX:K.In h) (G:h.Ns mainGlobals mg)
 (z1:Pq K mainGlobals "abs"=some none)
 (z2:Pq K mainGlobals "len"=some none)
 (z3:Pq K mainGlobals "isinstance"=some none)
 (z4:Pq K mainGlobals "range"=some none)
 (z5:Pq K mainGlobals "int"=some none)
 (z6:Pq K mainGlobals "bool"=some none)
 (z7:Pq K mainGlobals "tuple"=some none)
 (z8:Pq K mainGlobals "list"=some none)
 (z9:Pq K mainGlobals "max"=some none)
 (z10:Pq K mainGlobals "min"=some none)
 (z11:Pq K mainGlobals "sum"=some none)
 (z12:Pq K mainGlobals "sorted"=some none)
 (z13:Pq K mainGlobals "zip"=some none)
 (z14:Pq K mainGlobals "enumerate"=some none)
 (z15:Pq K mainGlobals "all"=some none)
 (z16:Pq K mainGlobals "any"=some none)
 (z17:Pq K mainGlobals "dict"=some none)
 (sib:PySem.W.subIn K (.type "int") (.type "bool")=some false):Txt K mg :=
 ⟨Pz KX G z1,Pz KX G z2,Pz KX G z3,Pz KX G z4,Pz KX G z5,Pz KX G z6,Pz KX G z7,Pz KX G z8,
  Pz KX G z9,Pz KX G z10,Pz KX G z11,Pz KX G z12,Pz KX G z13,Pz KX G z14,Pz KX G z15,Pz KX G z16,Pz KX G z17,
  HA (by decide) (by decide) sib⟩
theorem KH {α:Type} (us:List α) (h:us.length=1):∃ a,us=[a]:=by match us,h with | [a],_=>exact ⟨a,rfl⟩
theorem KI {α:Type} (us:List α) (h:us.length=2):∃ a b,us=[a,b]:=by match us,h with | [a,b],_=>exact ⟨a,b,rfl⟩
theorem KJ {α:Type} (us:List α) (h:us.length=3):∃ a b c,us=[a,b,c]:=by match us,h with | [a,b,c],_=>exact ⟨a,b,c,rfl⟩
theorem KL {α:Type} (us:List α) (h:us.length=4):∃ a b c d,us=[a,b,c,d]:=by match us,h with | [a,b,c,d],_=>exact ⟨a,b,c,d,rfl⟩
theorem KN {α:Type} (us:List α) (h:us.length=5):∃ a b c d e,us=[a,b,c,d,e]:=by match us,h with | [a,b,c,d,e],_=>exact ⟨a,b,c,d,e,rfl⟩
theorem KO {α:Type} (us:List α) (h:us.length=6):∃ a b c d e f,us=[a,b,c,d,e,f]:=by match us,h with | [a,b,c,d,e,f],_=>exact ⟨a,b,c,d,e,f,rfl⟩
theorem aS (P) (w) (base) {st:Stmt} (D:aA K mg x st) (ok:∀ {f:Addr} {fd:FuncData},eG K x x st f fd->br P w K mg base (dD P w) k f fd ps (dS K F))
 (hb:∀ (kV doc pm:Value) (an:Option Addr) (cdv ct:Value) (us:List Value),us.length=ps.length->bindArgs (QC x x (fK st) (av st) (aR st) .none kV doc pm an cdv ct) ⟨us,[]⟩=pure (ps.zip us):=by intro _ _ _ _ _ _ us hl; first | (obtain ⟨a,rfl⟩:=KH us hl; rfl) | (obtain ⟨a,b,rfl⟩:=KI us hl; rfl) | (obtain ⟨a,b,c,rfl⟩:=KJ us hl; rfl) | (obtain ⟨a,b,c,d,rfl⟩:=KL us hl; rfl) | (obtain ⟨a,b,c,d,e,rfl⟩:=KN us hl; rfl) | (obtain ⟨a,b,c,d,e,f,rfl⟩:=KO us hl; rfl) | (obtain rfl:=len0 us hl; rfl)):cU P w K mg base k x F :=
 let ⟨f,fd,m,Fu⟩:=D; ⟨f,fd,ps,m,Fu.kp,Fu.binds hb,ok Fu⟩
noncomputable def zX:Fn:=λds r=>∃ ns:List Int,ns.length<=63/\ds=[.lst (ns.map D.int)]/\r=.ok (.va (.bl true))
theorem HC (H) (a) (ns:List Int) (hl:ns.length<=63) (hS:gC K H a (ns.map V.int)):dS K zX [.ref a] H (λv _=>v=.bl true) λ_ _ _=>False :=
 ⟨H,[.lst (ns.map D.int)],.ok (.va (.bl true)),.refl H,.cons (bu.mpr ⟨a,_,rfl,hS,jn ns⟩) (aC.mpr rfl),⟨ns,hl,rfl,rfl⟩,λv H' ak _ r=>(f6 (K:=K) (H:=ak)).mp r⟩
theorem walk {l:PySem.W.OpenLaw} {K:Params->Oo} (hk:k<=20) (hn:l.most=some 63) (hdf:d.params.defaults=[])
 (hY:∀ (w:World) (h:Heap),YP w h->(K w.params).In h)
 (F:∀ (w:World) (mg:Str->Option Value) (fa:Addr) (h:Heap),(K w.params).In h->h.Ns mainGlobals mg->mg d.name=some (.ref fa) ->
   ∃ fd:FuncData,(∀ (s:Shared) (u:Value),BindsTo s fd ⟨[u],[]⟩ [("_law_script",u)])/\∀ base:Heap,(K w.params).In base->base.Ns mainGlobals mg->br l.prog w (K w.params) mg base (dD l.prog w) 20 fa fd ["_law_script"] (dS (K w.params) zX)) :
 PySem.W.WalkO q loose XP YP l.row.toRowW d [] (λf vs=>PySem.call f vs) :=
 L2.CT (n:=63) (k:=20) (x:="_law_script") (CX:=λw=>dD l.prog w) (sp:=λw=>dS (K w.params) zX) hn (by decide) hdf ⟨rfl,by decide,by decide⟩ hY F (λ_ H a ns hl _ hS=>HC H a ns hl hS) λ_ _ _ _ _ ⟨_,_,_,_,_,q⟩=>q
end
theorem qp (f:α->β) (xs) (lo hi):EV.cutD (xs.map f) lo hi=(EV.cutD xs lo hi).map f:=by
 unfold EV.cutD; simp only [Ox,List.map_take,List.map_drop]
theorem iV (h0:0<=j) (h1:j<xs.length):kq xs j=xs[j.toNat]?:=by
 unfold kq Jt
 rw [if_pos h0,if_pos h1]; rfl
theorem uZ {j:Int} (h0:j<0) (h1:0<=j+xs.length):kq xs j=xs[(j+xs.length).toNat]?:=by
 unfold kq Jt
 rw [if_neg (by lia)]
 rw [if_pos (by lia)]; rfl
theorem qw (h:a.natAbs<2 ^ 63):PV a<=64:=by
 unfold PV
 by_cases z:a=0
 ·subst z; decide
 ·have e:(a == 0)=false:=by simpa using z
  rw [e,if_neg OC]
  have:=(Nat.log2_lt (n:=a.natAbs) (k:=63) (by lia)).mpr h
  lia
theorem qx (h:a.natAbs<2 ^ 63):EV.MulOk a b:=IntMulOk.of_left (qw h)
theorem oh (h:(p9 0 n)[i]?=some d):i<n/\d=.int (i:Int):=by
 unfold p9 at h
 simp only [OE,OL] at h
 obtain ⟨j,h1,rfl⟩:=h
 obtain ⟨hj,rfl⟩:=OH.mp h1
 simp at hj
 exact ⟨hj,by simp⟩
section
variable {K:Oo}
end
end EV
namespace EV
open PySem PySem.Spec PySem.Calls PyProof.Rows L2
noncomputable def HO.dct:HO->Prop | .dK _=>True | .dT _=>True | _=>False
theorem zY (I:Inv X aa σ H s) (hu:H a=some u) (nu:∀ xs,u≠.tup xs) (nw:∀ y,u≠.own y) (nt:∀ ps,u≠.tbl ps) (nf:∀ o z,X.H₀ a≠some (.frz o z))
 (hv:bq X.prog X.w H s.heap a v):Inv X aa σ (upd H a v) s:=by
 have hne:∀ {b:Addr} {z:HO},H b=some z->z≠u->b≠a:=λe d q=>by subst q; rw [hu] at e; cases e; exact d rfl
 have hno:∀ {b:Addr},H b=none->b≠a:=λe q=>by subst q; rw [hu] at e; cases e
 have hst:∀ {b:Addr} {z:HO},bq X.prog X.w H s.heap b z->bq X.prog X.w (upd H a v) s.heap b z:=λq =>
  q.stay (λ_ _ _ e=>e) (λb e=>by rw [aq (hne e (OT (nw _)))]; exact e) λb xs e=>by rw [aq (hne e (OT (nu xs)))]; exact e
 have fr:=I.free
 exact {
  ok:=I.ok,os:=I.os,bare:=I.bare,loc:=I.loc,cell:=I.cell,len:=I.len
  base:=⟨I.base.keep,I.base.slot,λb o h1 h2 h3=>by have e:=I.base.free b o h1 h2 h3; rw [aq (hno e)]; exact e,I.base.there,
   λb xs e=>by have q:=I.base.tups b xs e; rw [aq (hne q (OT (nu xs)))]; exact q,
   λb o z e=>by
    have q:=I.base.frzs b o z e
    by_cases w:b=a
    ·subst w; exact absurd e (nf o z)
    ·rw [aq w]; exact q,
   λb ps e=>by obtain ⟨m,q⟩:=I.base.tbls b ps e; exact ⟨m,by rw [aq (hne q (OT (nt _)))]; exact q⟩⟩
  free:=by rw [aq (hno I.free)]; exact I.free
  freeC:=λx c e=>by have q:=I.freeC x c e; rw [aq (hno q)]; exact q
  pin:=λq hq=>by obtain ⟨h1,h2,h3⟩:=I.pin q hq; exact ⟨h1,by rw [aq (hno h2)]; exact h2,h3⟩
  hok:=λb z e=>by
   by_cases w:b=a
   ·subst w; rw [ah] at e; cases e; exact hst hv
   ·rw [aq w] at e; exact hst (I.hok b z e) }
theorem Dq (I:Inv X aa σ H s) (hu:H a=some u) (hd:HO.dct u) :
 ∃ o,Inv X aa σ (upd H a (.frz o u)) s/\∀ o z,X.H₀ a≠some (.frz o z):=by
 obtain ⟨o,ho⟩:=Hh (I.hok a u hu)
 have nf:∀ o z,X.H₀ a≠some (.frz o z):=λo z e=>by
  have q:=I.base.frzs a o z e
  rw [hu] at q; cases q; exact hd
 exact ⟨o,zY I hu (by rintro xs rfl; exact hd) (by rintro y rfl; exact hd) (by rintro ps rfl; exact hd) nf ⟨ho,I.hok a u hu⟩,nf⟩
theorem zZ (I:Inv X aa σ H s) (hu:H a=some (.frz o u)) (nf:∀ o z,X.H₀ a≠some (.frz o z)):Inv X aa σ (upd H a u) s :=
 zY I hu (by intro xs z; cases z) (by intro y z; cases z) (by intro ps z; cases z) nf (I.hok a _ hu).2
noncomputable def Sl.qy:Sl->Option D
 | .oK kvs=>some (.fdK (kvs.map (·.1)) (kvs.map (·.2))) | .aK _ kvs=>some (.fdK (kvs.map (·.1)) (kvs.map (·.2)))
 | .oT kvs=>some (.fdT (kvs.map (·.1)) (kvs.map (·.2))) | .aT _ kvs=>some (.fdT (kvs.map (·.1)) (kvs.map (·.2)))
 | _=>none
theorem kN {r:Sl} (h:r.qy=some d):r.owned=true:=by cases r <;> first | rfl | cases h
section
variable {K:Oo}
theorem bh.qy (h:r.qy=some d) (q:bh K fr H Hf r v):∃ p u,v=.ref p/\fr p/\H p=some u/\Hf p=none/\HO.dct u/\∀ o,Rep K (L2.upd Hf p (.frz o u)) d v:=by
 have sf:∀ {p:Addr} {o:HO},Hf p=none->aN Hf (L2.upd Hf p o):=λhp b u e=>by rw [aq (aD e hp)]; exact e
 cases r with
 | oK ds=>cases h; obtain ⟨p,xs,rfl,f,h1,h2,h3⟩:=q; exact ⟨p,_,rfl,f,h1,h2,trivial,λo=>iJ.mpr ⟨p,xs,o,rfl,ah,(iU h3).1,(iU h3).2.mono (sf h2)⟩⟩
 | aK a ds=>cases h; obtain ⟨p,xs,rfl,f,h1,h2,h3⟩:=q; exact ⟨p,_,rfl,f.1,h1,h2,trivial,λo=>iJ.mpr ⟨p,xs,o,rfl,ah,(iU h3).1,(iU h3).2.mono (sf h2)⟩⟩
 | oT ds=>cases h; obtain ⟨p,xs,rfl,f,h1,h2,h3⟩:=q; exact ⟨p,_,rfl,f,h1,h2,trivial,λo=>iK.mpr ⟨p,xs,o,rfl,ah,(fm h3).1,λy hy=>az (sf h2) ((fm h3).2.1 y hy),(fm h3).2.2.mono (sf h2)⟩⟩
 | aT a ds=>cases h; obtain ⟨p,xs,rfl,f,h1,h2,h3⟩:=q; exact ⟨p,_,rfl,f.1,h1,h2,trivial,λo=>iK.mpr ⟨p,xs,o,rfl,ah,(fm h3).1,λy hy=>az (sf h2) ((fm h3).2.1 y hy),(fm h3).2.2.mono (sf h2)⟩⟩
 | _=>cases h
theorem fc.Dr (S:fc K H₀ fh σ H Hf ρ) (h:ρ[i]?=some r) (hr:r.qy=some d) :
 ∃ q u,H q=some u/\Hf q=none/\HO.dct u/\∀ o,fc K H₀ fh σ (L2.upd H q (.frz o u)) (L2.upd Hf q (.frz o u)) (ρ.set i (.va d)):=by
 obtain ⟨q,ev,rq⟩:=S.own h (kN hr)
 obtain ⟨_,u,e0,fq,hq,wu,hd,rd⟩:=rq.qy hr
 cases e0
 have hi:i<ρ.length:=(OH.mp h).1
 have hown:=kN hr
 refine ⟨q,u,hq,wu,hd,λo=>⟨⟨λb z e=>?_,λb z e=>?_,λb z e=>?_,λb h1 h2 h3=>?_⟩,by simp [S.len],λj r' hj hu=>?_,λj j' r1 r2 q' hne h1 h2 o1 o2=>?_⟩⟩
 ·rw [L2.aq (aD e fq)]; exact S.bas.s b z e
 ·have e2:=S.bas.f b z e
  rw [L2.aq (aD e2 wu)]; exact e2
 ·by_cases w:b=q
  ·subst w; rw [L2.ah] at e |-; exact e
  ·rw [L2.aq w] at e |-; exact S.sb b z e
 ·have e:=S.bas.n b h1 h2 h3
  by_cases z:b=q
  ·subst z; exact absurd fq h2
  ·rw [L2.aq z]; exact e
 ·have sf:aN Hf (L2.upd Hf q (.frz o u)):=λb z e=>by rw [L2.aq (aD e wu)]; exact e
  by_cases z:j=i
  ·subst z
   rw [P4 hi] at hj
   cases hj
   exact ⟨_,ev,rd o⟩
  ·rw [P5 (OT z)] at hj
   obtain ⟨v,e1,e2⟩:=S.at_ j r' hj hu
   refine ⟨v,e1,?_⟩
   have key:r'.owned=true->v≠.ref q:=λho z=>by
    subst z
    exact S.sep i j _ _ q (OT ‹_›) h hj hown ho ev e1
   exact bh.mv (B:=λz=>z=q) sf (λz w hz e1 _ e3=>⟨by rw [L2.aq hz]; exact e1,by rw [L2.aq hz]; exact e3⟩) (by rintro _ z rfl ⟨ys,e9⟩; rw [hq] at e9; cases e9; exact hd) (λho z e=>by rintro rfl; exact key ho e) e2
 ·have out:∀ {j:Nat} {r:Sl},(ρ.set i (.va d))[j]?=some r->r.owned=true->ρ[j]?=some r:=λ{j r} hj ho=>by
   by_cases z:j=i
   ·subst z; rw [P4 hi] at hj; cases hj; cases ho
   ·rw [P5 (OT z)] at hj; exact hj
  exact S.sep j j' r1 r2 q' hne (out h1 o1) (out h2 o2) o1 o2
end
theorem wX (sb:aN Hf H) (hq:H q=some u) (wu:Hf q=none) (g:bB (upd H q (.frz o u)) (upd Hf q (.frz o u)) H' ak):bB H Hf (upd H' q u) (del ak q) :=
 ⟨λb z e=>by
   by_cases w:b=q
   ·subst w; rw [ah]; rw [hq] at e; exact e
   ·rw [aq w]; exact g.s b z (by rw [aq w]; exact e),
   λb z e=>by rw [cD (aD e wu)]; exact g.f b z (by rw [aq (aD e wu)]; exact e),
   λb z e=>by obtain ⟨w,e2⟩:=iR e; rw [aq w]; exact g.b b z e2,λb h1 h2 h3=>by
   by_cases w:b=q
   ·subst w; exact iQ
   ·rw [cD w]; exact g.n b (by rw [aq w]; exact h1) (by rw [aq w]; exact h2) λxs=>by rw [aq w]; exact h3 xs⟩
theorem Ds {K:Oo} (hp:Hf p=some (.frz o u)) (hd:HO.dct u) (h:dh K Hf a xs):dh K (del Hf p) a xs:=by
 rcases h with (h | ⟨o',h⟩) | h
 ·exact .inl (.inl (by rw [cD (by rintro rfl; rw [hp] at h; cases h)]; exact h))
 ·exact .inl (.inr ⟨o',by rw [cD (by rintro rfl; rw [hp] at h; cases h; exact hd)]; exact h⟩)
 ·exact .inr h
mutual
theorem Aa {K:Oo} {Hf:Hp} {p:Addr} {o:Obj} {u:HO} (hp:Hf p=some (.frz o u)) (hd:HO.dct u):∀ (d:D) {v:V},d.nl->Rep K Hf d v->Rep K (del Hf p) d v
 | .non,_,_,h=>by simpa [Rep] using h
 | .bl _,_,_,h=>by simpa [Rep] using h
 | .int _,_,_,h=>by simpa [Rep] using h
 | .str _,_,_,h=>by simpa [Rep] using h
 | .adr _,_,_,h=>by simpa [Rep] using h
 | .tup ds,v,f,h=>by
  simp only [Rep] at h |-
  obtain ⟨a,xs,e,h1,h2⟩:=h
  exact ⟨a,xs,e,Ds hp hd h1,oi hp hd ds (by simpa [D.nl] using f) h2⟩
 | .lst _,_,f,_=>by simp [D.nl] at f
 | .fdK _ _,_,f,_=>by simp [D.nl] at f
 | .fdT _ _,_,f,_=>by simp [D.nl] at f
 | .exc C,_,_,h=>by
  simp only [Rep] at h |-
  obtain ⟨a,e,h⟩:=h
  exact ⟨a,e,by rw [cD (by rintro rfl; rw [hp] at h; cases h)]; exact h⟩
theorem oi {K:Oo} {Hf:Hp} {p:Addr} {o:Obj} {u:HO} (hp:Hf p=some (.frz o u)) (hd:HO.dct u):∀ (ds:List D) {xs:List V},D.pA ds->au K Hf ds xs->au K (del Hf p) ds xs
 | [],_,_,h=>by simpa [au] using h
 | d::ds,xs,f,h=>by
  simp only [au] at h |-
  simp only [D.pA] at f
  obtain ⟨x,r,e,h1,h2⟩:=h
  exact ⟨x,r,e,Aa hp hd d f.1 h1,oi hp hd ds f.2 h2⟩
end
section
variable {K:Oo}
theorem Ab (S:bw c σ H Hf ρ) (hi:At ρ i r) (hr:r.qy=some d0) (hs:SSet ρ i (.va d0) ρ')
 (h:∀ q u o,H q=some u->Hf q=none->HO.dct u->bw c σ (upd H q (.frz o u)) (upd Hf q (.frz o u)) ρ'->bE c.X e σ (upd H q (.frz o u)) λv H'=>∃ ak,bB (upd H q (.frz o u)) (upd Hf q (.frz o u)) H' ak/\Q v (upd H' q u)):bE c.X e σ H Q:=by
 obtain ⟨q,u,hq,wu,hd,S1⟩:=S.Dr hi.get hr
 intro aa s I
 obtain ⟨o,I1,nf⟩:=Dq I hq hd
 have S2:=S1 o
 rw [<- hs.eq] at S2
 refine bJ (h q u o hq wu hd S2 aa s I1) λv s' ⟨x,H',I',rv,ak,g,hQ⟩=>⟨x,_,zZ I' (g.s q _ ah) nf,rv,hQ⟩
theorem sQ (i) {R:Sl->Prop} (hi:At ρ i r) (hr:r.qy=some d0) (hs:SSet ρ i (.va d0) ρ') (h:dF c e ρ' λd=>Sd d.nl (R d)):dF c e ρ R:=λσ H Hf Q S q=>by
 refine Ab S hi hr hs λa u o ha yt hd S1=>h σ _ _ _ S1 λr1 v H' ak ⟨fl,rd⟩ rv g=>⟨ak,g,?_⟩
 have hp:=g.f a _ ah
 refine q r1 v _ (del ak a) rd ?_ (wX S.sb ha yt g)
 have hH:H' a=some (.frz o u):=g.s a _ ah
 cases r1 with
 | va d=>exact Aa hp hd d fl rv
 | ow ds =>
  obtain ⟨b,xs,rfl,fb,h1,h2,h3⟩:=rv
  have nb:b≠a:=by rintro rfl; rw [show (upd H b (.frz o u)) b=_ from ah] at fb; cases fb
  exact ⟨b,xs,rfl,by rw [aq nb] at fb; exact fb,by rw [aq nb]; exact h1,by rw [cD nb]; exact h2,oi hp hd ds fl h3⟩
 | _=>exact fl.elim
end
def Ac (h:Heap) (it d:Addr) (i n ep:Nat):Prop :=
 ∃ (x:Value) (f:Bool) (k v:Value),h.get? it=some { cls:=.type "dict_itemiterator",dict:=none,data:=.fields #[x,.bool f,.ref d,.int i 0,.int n 0,.int ep 0,k,v],slots:= #[] }/\(x=.none\/∃ a:Addr,x=rawInt a)
section
variable {s:Shared} {i n ep:Nat}
theorem oj:Ug "dict_itemiterator"=true:=by decide
theorem qz (h:Q (s.heap.get? a) s):wpAny M A (loadIfAlive a) Q E s:=λΓ p z=>by
 show Sem.wp M Γ (Sem.loadIfAlive a Sem.pure) _ _ p s
 rw [Sem.wp_loadIfAlive,Sem.wp]
 exact h
theorem Ad (hs:s.heap=h) (hit:h.get? it=some { cls:=.type "dict_itemiterator",dict:=none,data:=.fields #[x,.bool f,.ref d,.int i 0,.int n 0,.int ep 0,k,v],slots:= #[] }) (hx:x=.none\/∃ a:Addr,x=rawInt a)
 (hQ:∀ h',Ac h' it d i n ep->h'.get? h.objs.size=some { cls:=.type "tuple",data:=.seq #[a,b] }->h'.objs.size=h.objs.size+1->(∀ c o,c≠it->h.get? c=some o->h'.get? c=some o)->Q (.ref h.objs.size) { s with heap:=h' }) :
 wpAny (model prog w) A (Ud (.ref it) 6 a b) Q E s:=by
 subst hs
 have lt:it<s.heap.objs.size:=Oz hit
 have ne:s.heap.objs.size≠it:=QT lt
 unfold Ud
 refine Ol (Tw ?_)
 have rY:=Ow ({ cls:=.type "tuple",data:=.seq [a,b].toArray }:Obj) hit
 have htu:(s.heap.push { cls:=.type "tuple",data:=.seq [a,b].toArray }).get? s.heap.objs.size=some { cls:=.type "tuple",data:=.seq #[a,b] }:=OF _ rfl
 have hsz:(s.heap.push { cls:=.type "tuple",data:=.seq [a,b].toArray }).objs.size=s.heap.objs.size+1:=Qi ..
 have hold:∀ c o,s.heap.get? c=some o->(s.heap.push { cls:=.type "tuple",data:=.seq [a,b].toArray }).get? c=some o:=λc o e=>Ow _ e
 generalize (s.heap.push { cls:=.type "tuple",data:=.seq [a,b].toArray })=h2 at rY htu hsz hold |-
 have free:wpAny (model prog w) A (do
  let old:=[<- field (.ref it) 6,<- field (.ref it) (6+1)]
  setField (.ref it) 6 a; setField (.ref it) (6+1) b
  setField (.ref it) 0 (rawInt s.heap.objs.size); setField (.ref it) 1 (.bool false)
  letGo old [.ref s.heap.objs.size]
  pure (OS s.heap.objs.size)) Q E { s with heap:=h2 }:=by
  refine Ol (Pb rY rfl (x:=k) rfl (Ol (Pb rY rfl (x:=v) rfl ?_)))
  refine Ol (P7 rY (by simp) λh3 e3 s3=>?_)
  refine Ol (P7 e3 (by simp) λh4 e4 s4=>?_)
  refine Ol (P7 e4 (by simp) λh5 e5 s5=>?_)
  refine Ol (P7 e5 (by simp) λh6 e6 s6=>?_)
  have keep:∀ c o,c≠it->h2.get? c=some o->h6.get? c=some o:=λc o hc e=>s6.extBut c o hc (s5.extBut c o hc (s4.extBut c o hc (s3.extBut c o hc e)))
  refine Ol (Rk (Oq (hQ h6 ⟨_,_,_,_,e6,.inr ⟨_,rfl⟩⟩ (keep _ _ ne htu) ?_ λc o hc e=>keep c o hc (hold c o e))))
  rw [s6.1,s5.1,s4.1,s3.1,hsz]
 have told:∀ (h3:Heap) (x:Value) (f:Bool),h3.get? it=some { cls:=.type "dict_itemiterator",dict:=none,data:=.fields #[x,.bool f,.ref d,.int i 0,.int n 0,.int ep 0,k,v],slots:= #[] }->(x=.none\/∃ a:Addr,x=rawInt a) ->
  Qn it h2 h3->Q (.ref s.heap.objs.size) { s with heap:=h3 }:=λh3 x f e hx' s3 =>
  hQ h3 ⟨x,f,k,v,e,hx'⟩ (s3.extBut _ _ ne htu) (by rw [s3.1,hsz]) λc o hc e=>s3.extBut c o hc (hold c o e)
 show wpAny _ _ (U8 (.ref it) >>= _) _ _ _
 unfold U8
 refine Ol (Ol (Pb rY rfl (x:=x) rfl ?_))
 rcases hx with rfl | ⟨a0,rfl⟩
 ·exact Oq free
 ·show wpAny _ _ (loadIfAlive (a0:Int).toNat >>= _) _ _ _
  refine Ol (qz ?_)
  split
  ·exact Oq free
  ·refine Ol ?_
   refine Pb rY rfl (x:=.bool f) rfl ?_
   cases f with
   | true =>
    dsimp only
    rw [if_neg (by decide)]
    exact Oq (Oq (told h2 _ _ rY (.inr ⟨a0,rfl⟩) (.refl ..)))
   | false =>
    dsimp only
    rw [if_pos (by decide)]
    refine Ol (P7 rY (by simp) λh3 e3 s3=>?_)
    exact Oq (Oq (told h3 _ true e3 (.inr ⟨a0,rfl⟩) s3))
theorem Ac.HD (h:Ac s.heap it d i n ep):s.TypeIs (.ref it) "dict_itemiterator":=let ⟨_,_,_,_,e,_⟩:=h; ⟨_,e,rfl⟩
theorem next_item (hit:Ac s.heap it d i es.size ep) (hod:s.heap.get? d=some od) (hdd:od.data=.dict es ep) (hx:es[i]?=some e)
 (hQ:∀ h',Ac h' it d (i+1) es.size ep->h'.get? s.heap.objs.size=some { cls:=.type "tuple",data:=.seq #[e.key,e.val] }->h'.objs.size=s.heap.objs.size+1->(∀ c o,c≠it->s.heap.get? c=some o->h'.get? c=some o)->Q (some (.ref s.heap.objs.size)) { s with heap:=h' }) :
 wpAny (model prog w) A (pyNext (.ref it)) Q E s:=by
 have hT:=hit.HD
 obtain ⟨x,f,k,v,hat,hxx⟩:=hit
 have hlt:i<es.size:=(Rx.mp hx).1
 unfold pyNext
 refine Ol (QN (Qf (name:=Om "__next__") hT Rr (PK Rr hT Ve ?_ (Va _))))
 refine Ol (Oq (Ol (Ol ?_)))
 first | refine Ol (Sw hT (Oq ?_)) | refine Ol (SA hT (Oq ?_))
 refine Ol (Tz hat rfl ?_)
 simp only [oj,if_true]
 show wpAny _ _ (if (OS d == Pc)=true then _ else _) _ _ _
 rw [if_neg (show ¬ (OS d == Pc)=true from OC)]
 refine Ol (Oq (Ol (RJ hod hdd ?_)))
 rw [if_neg (by simp)]
 refine Ol (Oq (Ol (RL hod hdd ?_)))
 rw [if_neg (by simp)]
 refine Oq ?_
 simp only [show ¬ ((i:Int)<0) from by lia,if_false,O0,hx]
 refine Ol ?_
 first | refine Ol (Sw hT (Oq ?_)) | refine Ol (SA hT (Oq ?_))
 refine Ol (Uo hT ?_)
 show wpAny _ _ (setField (.ref it) 3 (rawInt ((i:Int)+1)) >>= _) _ _ s
 refine Ol (P7 hat (by simp) λh1 e1 s1=>?_)
 have e1':h1.get? it=some { cls:=.type "dict_itemiterator",dict:=none,data:=.fields #[x,.bool f,.ref d,.int ((i+1:Nat):Int) 0,.int es.size 0,.int ep 0,k,v],slots:= #[] }:=by
  have q:((i+1:Nat):Int)=(i:Int)+1:=by lia
  rw [q]; simpa [rawInt] using e1
 have hT1:Shared.TypeIs { s with heap:=h1 } (.ref it) "dict_itemiterator":=⟨_,e1',rfl⟩
 refine Ol (PY ?_)
 refine Ol (Uo hT1 (Ol (Uo hT1 ?_)))
 show wpAny _ _ (Ud (.ref it) 6 e.key e.val) _ _ { s with heap:=h1 }
 have z1:h1.objs.size=s.heap.objs.size:=s1.1
 refine Ad (s:={ s with heap:=h1 }) rfl e1' hxx λh2 g2 t2 z2 k2=>?_
 rw [z1] at t2 z2 |-
 exact Oq ⟨_,rfl,Oq (hQ h2 g2 t2 z2 λc o hc q=>k2 c o hc (s1.extBut c o hc q))⟩
theorem next_end (hh:A.handled=none) (hit:Ac s.heap it d i es.size ep) (hod:s.heap.get? d=some od) (hdd:od.data=.dict es ep) (hx:es.size<=i)
 (hQ:∀ h',QF it s.heap h'->Q none { s with heap:=h' }):wpAny (model prog w) A (pyNext (.ref it)) Q E s:=by
 have hT:=hit.HD
 obtain ⟨x,f,k,v,hat,hxx⟩:=hit
 unfold pyNext
 refine Ol (QN (Qf (name:=Om "__next__") hT Rr (PK Rr hT Ve ?_ (Va _))))
 refine Ol (Oq (Ol (Ol ?_)))
 first | refine Ol (Sw hT (Oq ?_)) | refine Ol (SA hT (Oq ?_))
 refine Ol (Tz hat rfl ?_)
 simp only [oj,if_true]
 show wpAny _ _ (if (OS d == Pc)=true then _ else _) _ _ _
 rw [if_neg (show ¬ (OS d == Pc)=true from OC)]
 refine Ol (Oq (Ol (RJ hod hdd ?_)))
 rw [if_neg (by simp)]
 refine Ol (Oq (Ol (RL hod hdd ?_)))
 rw [if_neg (by simp)]
 refine Oq ?_
 simp only [show ¬ ((i:Int)<0) from by lia,if_false,O0,SQ hx]
 refine Ol ?_
 first | refine Ol (Sw hT (Oq ?_)) | refine Ol (SA hT (Oq ?_))
 show wpAny _ _ (setField (.ref it) 2 .none >>= _) _ _ s
 refine Ol (Rf hat rfl (by simp) (Ol ?_))
 simp only [newExc,newTuple]
 refine Ol (Pk ?_ (by size_fits))
 refine Ol (m:=firstArgMember _ _) (T9 (a:=Pc) (by first | rfl | (simp only [firstArgMember]; rfl)) ?_)
 refine Pk ?_ (by size_fits)
 simp only [raiseNew]
 refine Ol (TQ ?_)
 rw [show A.in1.handled=none from hh]
 refine Ol (Oq (T8 ?_))
 refine Ol (R7 (T:="StopIteration") (b:=true) ⟨_,OF _ rfl,rfl⟩ isSubtype_stop ?_)
 exact Oq (hQ _ (((Q7 ..).extBut.push _).push _))
theorem Dt (hit:Ac s.heap it d i n ep) (h:∀ h',Ac h' it d i n ep->Qn it s.heap h'->Q () { s with heap:=h' }):wpAny (model prog w) A (letOwnedTupleGo tg (.ref it) (.ref a)) Q E s:=by
 have stay:Q () s:=h s.heap hit (.refl ..)
 obtain ⟨x,f,k,v,hat,hxx⟩:=hit
 have part:wpAny (model prog w) A (do
  let o <- load it
  match o.cls,o.data with
  | .type n,.fields vs =>
   if (["enumerate","zip","dict_itemiterator","dict_reverseitemiterator","odict_iterator","itertools.zip_longest","itertools.pairwise"].contains n && vs[0]? == some (rawInt a))=true then do
    rule "for.unpacks-the-owned-tuple"
    updateField it 0 .none
   else pure ()
  | _,_=>pure ()) Q E s:=by
  refine Ol (wpAny_load hat ?_)
  dsimp only
  split
  ·refine Ol (Pw ?_)
   show wpAny _ _ (setField (.ref it) 0 .none) Q E s
   exact P7 hat (by simp) λh' e' s'=>h h' ⟨_,_,_,_,e',.inl rfl⟩ s'
  ·exact Oq stay
 unfold letOwnedTupleGo
 cases tg <;> first
  | exact Oq stay
  | exact part
end
noncomputable def bL:HO->List (V×V)
 | .dK ys=>ys.map λy=>(kV y.1,y.2)
 | .dT ys=>ys.map λy=>(.ref y.2.1,y.2.2)
 | _=>[]
theorem u0 (h:kg k v=true):RelV (kV k) v:=by
 rcases bF h with ⟨i,t,rfl,rfl⟩ | ⟨x,t,rfl,rfl⟩
 ·exact ⟨t,rfl⟩
 ·exact ⟨t,rfl⟩
theorem cR (ok:bq P w H h d u) (hd:HO.dct u) (ho:h.get? d=some o) :
 o.ExactDict/\∃ es ep,o.data=.dict es ep/\Paired (λ(a:V×V) (e:DictEntry)=>RelV a.1 e.key/\RelV a.2 e.val) (bL u) es.toList/\(d == sysModules)=false/\(bL u).length<=sizeLine:=by
 cases u with
 | dK ys =>
  obtain ⟨z,y,vs,kv,o',es,ep,h1,h2,h3,h4,h5,h6⟩:=ok
  rw [ho] at h1; cases h1
  refine ⟨h2,es,ep,h3,?_,y,by simpa [bL] using z⟩
  show Paired _ (ys.map _) _
  clear h3 h4 h6 z
  generalize es.toList=l at h5 |-
  unfold KV at kv
  induction kv generalizing l with
  | nil=>cases h5; exact .nil
  | @cons a b as bs q t ih =>
   cases h5 with
   | cons r t' t''=>exact .cons ⟨by show L2.RelV (kV a.1) _; rw [q.1]; exact u0 r,by rw [t']; exact q.2⟩ (ih hd _ t'')
 | dT ys =>
  obtain ⟨z,y,xs,kv,o',es,ep,h1,h2,h3,h4,h5⟩:=ok
  rw [ho] at h1; cases h1
  refine ⟨h2,es,ep,h3,?_,y,by simpa [bL] using z⟩
  rw [h4]
  show Paired _ (ys.map _) _
  clear h3 h4 h5 z
  induction kv with
  | nil=>exact .nil
  | @cons a b as bs q t ih =>
   rw [OA,OA]
   refine .cons ⟨?_,q.2.2⟩ (ih hd)
   show OS b.2.1=OS a.2.1
   rw [q.2.1]
 | _=>exact hd.elim
theorem dw:∀ {l:List α} {m:List β} {i:Nat} {a:α},Paired F l m->l[i]?=some a->∃ b,m[i]?=some b/\F a b
 | _,_,_,_,.nil,e=>by simp at e
 | _,_,0,_,.cons r _,e=>by simp at e; subst e; exact ⟨_,rfl,r⟩
 | _,_,i+1,a,.cons _ t,e=>by
  obtain ⟨b,h1,h2⟩:=dw (i:=i) t (by simpa using e)
  exact ⟨b,by simpa using h1,h2⟩
noncomputable def M6 (d:Addr) (o:Obj) (u:HO):It :=
 ⟨λi H=>H d=some (.frz o u)/\i<(bL u).length,λi H x H'=>∃ p kv,(bL u)[i]?=some kv/\x=.ref p/\H p=none/\H'=upd H p (.tup [kv.1,kv.2]),λi H=>H d=some (.frz o u)/\(bL u).length<=i⟩
theorem wY:entryFor table "dict_itemiterator.__iter__"=some Builtin.«dict_keyiterator.__iter__» :=entryFor_alias (id':="dict_keyiterator.__iter__") (by kernel_rfl) rfl (by decide +kernel) (by kernel_rfl)
theorem sR {P:Program} {w:World} {K:Oo} {tg:Expr} {d it:Addr} {o:Obj} {u:HO} {es:Array DictEntry} {ep:Nat} (hd:HO.dct u) (hod:o.data=.dict es ep) (hne:it≠d) (hes:es.size=(bL u).length) :
 Turn P w K tg (M6 d o u) [it] it (λi h=>Ac h it d i es.size ep) where
 mem:=by simp
 obj:=λi h st b hb=>by
  have e:b=it:=by simpa using hb
  subst e
  obtain ⟨x,f,k,v,e,_⟩:=st
  exact ⟨_,e,λv z=>by
   have z':So _=Rp v:=z
   cases z'⟩
 keep:=λi h h' st k=>by
  obtain ⟨x,f,kk,v,e,hx⟩:=st
  exact ⟨x,f,kk,v,k it (by simp) _ e,hx⟩
 item:=by
  intro X hP hw hK hc i aa s σ H E I hf st hg
  subst hP hw hK
  obtain ⟨hH,hi⟩:=hg
  obtain ⟨f0,f1,f2,f3,f4,f5⟩:=hf it (by simp)
  obtain ⟨ho,ok⟩:=(show bq X.prog X.w H s.heap d (.frz o u) from I.hok d _ hH)
  obtain ⟨_,es',ep',e1,e2,_⟩:=cR ok hd ho
  rw [hod] at e1; cases e1
  obtain ⟨e,he,re⟩:=dw e2 (OR hi)
  have he':es[i]?=some e:=by simpa using he
  refine next_item st ho hod he' λh1 g1 t1 z1 k1=>?_
  have hil:it<s.heap.objs.size:=by
   obtain ⟨_,_,_,_,q,_⟩:=st
   exact Oz q
  have Hp:H s.heap.objs.size=none:=I.hok.fresh (Ot _)
  have hit0:it≠s.heap.objs.size:=OU hil
  generalize hkv:(bL u)[i]=kv at re
  have IA:Inv X aa σ (upd H s.heap.objs.size (.tup [kv.1,kv.2])) { s with heap:=s.heap.push { cls:=.type "tuple",data:=.seq #[e.key,e.val] },toks:=s.toks } :=
   I.laid (a:=s.heap.objs.size) (o:=.tup [kv.1,kv.2]) (λ_ _ q=>Ow _ q) (Ot _) ⟨by show 2<=sizeLine; decide,[e.key,e.val],.cons re.1 (.cons re.2 .nil),_,OF _ rfl,rfl,0,rfl⟩
  have g0:upd H s.heap.objs.size (.tup [kv.1,kv.2]) it=none:=by rw [aq hit0]; exact f0
  have I1:Inv X aa σ (upd H s.heap.objs.size (.tup [kv.1,kv.2])) { s with heap:=h1,toks:=s.toks }:=IA.turned (λb o hb q=>by
   by_cases z:b=s.heap.objs.size
   ·subst z
    rw [OF _ rfl] at q; cases q; exact t1
   ·have lt:b<s.heap.objs.size:=by
     have:=Oz q
     rw [Qi] at this
     exact Nat.lt_of_le_of_ne (Nat.le_of_lt_succ this) z
    refine k1 b o hb ?_
    rw [UU _ _ _ z] at q; exact q) g0 f1 f3 f4 f5
  refine ⟨_,rfl,Dt (s:={ s with heap:=h1 }) g1 λh2 g2 s2=>?_⟩
  refine ⟨.ref s.heap.objs.size,_,I1.turned (t':=s.toks) (λb o hb q=>(s2.2 b hb).trans q) g0 f1 f3 f4 f5,rfl,⟨_,kv,by rw [OR hi,hkv],rfl,Hp,rfl⟩,g2,λb hb=>?_⟩
  have e:b=it:=by simpa using hb
  rw [e]; exact g0
 done:=by
  intro X hP hw hK hc i aa s σ H E I hf st hg
  subst hP hw hK
  obtain ⟨hH,hi⟩:=hg
  obtain ⟨f0,f1,f2,f3,f4,f5⟩:=hf it (by simp)
  obtain ⟨ho,ok⟩:=(show bq X.prog X.w H s.heap d (.frz o u) from I.hok d _ hH)
  exact next_end (I.ok.hd hc) st ho hod (by lia) λh' eb=>⟨rfl,I.turned (t':=s.toks) (λb o hb e=>eb b o hb e) f0 f1 f3 f4 f5⟩
 self:=by
  intro A i s Q E st h
  have hT:=st.HD
  refine UM hT Vh (PK Vh hT wY ?_ (F.args_dict_itemiterator_iter_1 _))
  show wpAny _ _ (ret (.ref it)) _ _ s
  exact Oq ⟨_,rfl,"dict_itemiterator",_,hT,Rr.lookup,h⟩
theorem qA (d) (hd:(d == sysModules)=false) :
 MeetsIn prog w (Builtin.«dict.items» ⟨[.ref d],[]⟩) (λ_ R s=>s.TypeIs (.ref d) "dict"/\R (.ok (.ret (.ref s.heap.objs.size))) { s with heap:=s.heap.push { cls:=.type "dict_items",data:=.fields #[.ref d] } }) :=
 .of_wp λA R s ⟨hT,h⟩=>by
  unfold Builtin.«dict.items»
  refine Ol ?_
  unfold Builtin.Dict.noArgs
  refine Ol (wpAny_notOrdered_dict hT (show wpAny _ _ (pure d) _ _ s from Oq ?_))
  show wpAny _ _ (SS d >>= _) _ _ s
  unfold SS
  rw [if_neg (by rw [hd]; exact OC)]
  exact Ol (Oq (Ol (Pk (Oq ⟨_,rfl,h⟩))))
theorem wZ (hv:s.heap.IsItemsView v d) (hod:s.heap.get? d=some od) (hdd:od.data=.dict es ep)
 (hQ:Q (.ref s.heap.objs.size) { s with heap:=s.heap.push { cls:=.type "dict_itemiterator",data:=.fields #[.none,.bool false,.ref d,.int 0 0,.int es.size 0,.int ep 0,.none,.none] } }) :
 wpAny (model prog w) A (pyIter (.ref v)) Q E s:=by
 obtain ⟨ov,hov,hcv,hdv⟩:=id hv
 refine UM hv.typeIs F.slot_dict_items_iter (PK F.slot_dict_items_iter hv.typeIs F.entry_dict_items_iter ?_ (F.args_dict_items_iter_1 _))
 unfold Builtin.«dict_items.__iter__»
 refine Ol (Oq (Ol ?_))
 unfold Builtin.Dict_items.dictOf
 refine Ol (Pb hov hdv (x:=.ref d) rfl (Oq (Ol ?_)))
 unfold Builtin.Dict_items.newIterator
 refine Ol (RJ hod hdd (Ol (RL hod hdd ?_)))
 simp only [oj,if_true]
 refine Pk (Oq ⟨_,rfl,"dict_itemiterator",_,⟨_,OF _ rfl,rfl⟩,Rr.lookup,?_⟩)
  (by simp only [sizeOk,U9,OP,O7,Pa,Qp,sizeLine_eq]; lia)
 simpa [rawInt,U9] using hQ
noncomputable def w9:Key->D | .inl i=>.int i | .inr x=>.str x
noncomputable def D.pairs:D->Option (List D)
 | .fdK ks ds=>some (RQ (λk d=>D.tup [w9 k,d]) ks ds)
 | .fdT ks ds=>some (RQ (λk d=>D.tup [.tup (k.map w9),d]) ks ds)
 | _=>none
section
variable {K:Oo} {Hf:Hp}
theorem qB:Rep K Hf (w9 k) (kV k):=by
 cases k with
 | inl i=>exact aB.mpr rfl
 | inr x=>exact gE.mpr rfl
theorem mY:∀ {ks:List Key},au K Hf (ks.map w9) (ks.map kV)
 | []=>aC.mpr rfl
 | k::ks=>.cons qB mY
def mZ (K:Oo) (Hf:Hp) (d:D) (kv:V×V):Prop:=∃ k e,d=.tup [k,e]/\Rep K Hf k kv.1/\Rep K Hf e kv.2
theorem u5:∀ {ys:List (Key×V)} {vs:List D},au K Hf vs (ys.map (·.2))->Paired (mZ K Hf) (RQ (λk d=>D.tup [w9 k,d]) (ys.map (·.1)) vs) (ys.map λy=>(kV y.1,y.2))
 | [],vs,h=>by
  cases vs with
  | nil=>exact .nil
  | cons d ds=>obtain ⟨x,r,e,_⟩:=aE.mp h; cases e
 | y::ys,vs,h=>by
  cases vs with
  | nil=>rw [aC] at h; cases h
  | cons d ds =>
   obtain ⟨x,r,e,h1,h2⟩:=aE.mp h
   cases e
   exact .cons ⟨_,_,rfl,qB,h1⟩ (u5 h2)
theorem u6:∀ {ys:List (List Key×Addr×V)} {vs:List D},(∀ y∈ys,dh K Hf y.2.1 (y.1.map kV))->au K Hf vs (ys.map (·.2.2))->Paired (mZ K Hf) (RQ (λk d=>D.tup [.tup (k.map w9),d]) (ys.map (·.1)) vs) (ys.map λy=>(.ref y.2.1,y.2.2))
 | [],vs,_,h=>by
  cases vs with
  | nil=>exact .nil
  | cons d ds=>obtain ⟨x,r,e,_⟩:=aE.mp h; cases e
 | y::ys,vs,hk,h=>by
  cases vs with
  | nil=>rw [aC] at h; cases h
  | cons d ds =>
   obtain ⟨x,r,e,h1,h2⟩:=aE.mp h
   cases e
   exact .cons ⟨_,_,rfl,aI.mpr ⟨_,_,rfl,hk y OI,mY⟩,h1⟩ (u6 (λz hz=>hk z (OJ _ hz)) h2)
theorem xg (hp:d.pairs=some ds) (h:Rep K Hf d v):∃ a o u,v=.ref a/\Hf a=some (.frz o u)/\HO.dct u/\Paired (mZ K Hf) ds (bL u):=by
 cases d with
 | fdK ks vs =>
  cases hp
  obtain ⟨a,ys,o,rfl,h1,h2,h3⟩:=iJ.mp h
  subst h2
  exact ⟨a,o,_,rfl,h1,trivial,u5 h3⟩
 | fdT ks vs =>
  cases hp
  obtain ⟨a,ys,o,rfl,h1,h2,h3,h4⟩:=iK.mp h
  subst h2
  exact ⟨a,o,_,rfl,h1,trivial,u6 h3 h4⟩
 | _=>cases hp
theorem sS {ds:List D} {a:Addr} {o:Obj} {u:HO} (h:Hf a=some (.frz o u)) (hp:Paired (mZ K Hf) ds (bL u)):iO K (M6 a o u) ds Hf where
 go:=λi d H aQ s1 s2 e=>by
  obtain ⟨kv,ekv,k,dd,rfl,r1,r2⟩:=dw hp e
  refine ⟨⟨s2 _ _ (s1 _ _ h),(OH.mp ekv).1⟩,λx H' ⟨p,kv',e1,e2,e3,e4⟩=>?_⟩
  rw [ekv] at e1; cases e1
  subst e2 e4
  have g:=bB.new s2 e3 (o:=.tup [kv.1,kv.2])
  exact ⟨upd aQ p (.tup [kv.1,kv.2]),g,aI.mpr ⟨p,_,rfl,.inl (.inl ah),.cons (Rep.mono (s1.trans g.f) _ r1) (.cons (Rep.mono (s1.trans g.f) _ r2) (aC.mpr rfl))⟩⟩
 stop:=λi H aQ s1 s2 e=>⟨s2 _ _ (s1 _ _ h),by rw [<- PZ hp]; exact e⟩
end
section
variable {K:Oo}
end
end EV
namespace SR
open PySem PyProof.Rows
noncomputable def cX:Bool->Keyed->Array Keyed->Nat->Nat->Nat->StateT SortSt Sem (Option Nat):=sortPriv% PySem.Builtin.gallop
noncomputable def cN:Nat->StateT SortSt Sem Unit:=sortPriv% PySem.Builtin.setMinGallop
noncomputable def dQ (left:Bool) (key:Keyed) (arr:Array Keyed) (base i:Nat):StateT SortSt Sem (Option Bool):=do
 let x <- elem' arr (base+i)
 if left then lt' x key else return (<- lt' key x).map (!·)
noncomputable abbrev qC:=Option (Option Nat)×Nat×Nat
noncomputable def kO (bey:Nat->StateT SortSt Sem (Option Bool)) (n lo hi:Nat):StateT SortSt Sem (Option Nat):=do
 let __s <- forIn [0:n] ((none,lo,hi):qC) λ_ __s =>
  if __s.snd.fst>=__s.snd.snd then pure (P9 (none,__s.snd.fst,__s.snd.snd))
  else do
   let __x <- bey (__s.snd.fst+(__s.snd.snd - __s.snd.fst) / 2)
   match __x with
   | some more=>if more=true then pure (Po (none,__s.snd.fst+(__s.snd.snd - __s.snd.fst) / 2+1,__s.snd.snd)) else pure (Po (none,__s.snd.fst,__s.snd.fst+(__s.snd.snd - __s.snd.fst) / 2))
   | _=>pure (P9 (some none,__s.snd.fst,__s.snd.snd))
 match __s.fst with
 | some r=>pure r
 | none=>pure (some __s.snd.snd)
noncomputable def Ae (bey:Nat->StateT SortSt Sem (Option Bool)) (n hint maxofs:Nat):StateT SortSt Sem qC :=
 forIn [0:n] ((none,0,1):qC) λ_ __s =>
  if __s.snd.snd>=maxofs then pure (P9 (none,__s.snd.fst,__s.snd.snd))
  else do
   let __x <- bey (hint+__s.snd.snd)
   match __x with
   | some more=>if (!more)=true then pure (P9 (none,__s.snd.fst,__s.snd.snd)) else pure (Po (none,__s.snd.snd,2 * __s.snd.snd+1))
   | _=>pure (P9 (some none,__s.snd.fst,__s.snd.snd))
noncomputable def Af (bey:Nat->StateT SortSt Sem (Option Bool)) (n hint maxofs:Nat):StateT SortSt Sem qC :=
 forIn [0:n] ((none,0,1):qC) λ_ __s =>
  if __s.snd.snd>=maxofs then pure (P9 (none,__s.snd.fst,__s.snd.snd))
  else do
   let __x <- bey (hint - __s.snd.snd)
   match __x with
   | some found=>if found=true then pure (P9 (none,__s.snd.fst,__s.snd.snd)) else pure (Po (none,__s.snd.snd,2 * __s.snd.snd+1))
   | _=>pure (P9 (some none,__s.snd.fst,__s.snd.snd))
local macro_rules | `(tactic| walk_at "dl gallop")=>do
 let i:=Ri (QZ `PySem.Builtin.List.W1All `PySem.Builtin.gallop)
 `(tactic| delta $i)
theorem sU (left) (key) (arr) (base n hint):cX left key arr base n hint=(do
 let __x <- dQ left key arr base hint
 match __x with
 | some right =>
  if right=true then do
   let __s <- Ae (dQ left key arr base) n hint (n - hint)
   match __s.fst with
   | some r=>pure r
   | none=>kO (dQ left key arr base) n (hint+__s.snd.fst+1) (hint+min __s.snd.snd (n - hint))
  else do
   let __s <- Af (dQ left key arr base) n hint (hint+1)
   match __s.fst with
   | some r=>pure r
   | none=>kO (dQ left key arr base) n (hint+1 - min __s.snd.snd (hint+1)) (hint - __s.snd.fst)
 | _=>pure none):=by
 unfold cX
 walk_at "dl gallop"
 unfold Ae Af kO dQ
 dsimp only
 congr 1
 funext x
 cases x with
 | none=>rfl
 | some right =>
  dsimp only
  cases right with
  | true =>
   rw [if_pos rfl,if_pos rfl]
   congr 1
   funext c
   obtain ⟨r,l,o⟩:=c
   cases r with
   | some r=>rfl
   | none =>
    dsimp only
    congr 1
    funext c
    obtain ⟨r,l,o⟩:=c
    cases r <;> rfl
  | false =>
   rw [if_neg OC,if_neg OC]
   congr 1
   funext c
   obtain ⟨r,l,o⟩:=c
   cases r with
   | some r=>rfl
   | none =>
    dsimp only
    congr 1
    funext c
    obtain ⟨r,l,o⟩:=c
    cases r <;> rfl
def iH (prog:Program) (w:World) (A:Around) (s:Shared) (κ:SortKind) (rk:Keyed->Int) (L:List Keyed):Prop :=
 ∀ x∈L,∀ y∈L,∀ (E:Value->Shared->Prop) (Q:Bool->Shared->Prop),Q (decide (rk x<rk y)) s->wpAny (model prog w) A (keyLt' κ x.1 y.1) Q E s
noncomputable def R (rk:Keyed->Int) (xs:Array Keyed) (i:Nat):Int:=match xs[i]? with | some p=>rk p | none=>0
theorem dR (h:xs[i]?=some p):R rk xs i=rk p:=by unfold R; rw [h]
theorem cA (h:xs[i]?=ys[j]?):R rk xs i=R rk ys j:=by unfold R; rw [h]
theorem kP {st:SortSt} (hC:iH prog w A s κ rk L) (hk:kindOf st=κ) (hx:x∈L) (hy:y∈L) (h:Q (some (decide (rk x<rk y))) st):wpS (model prog w) A E s (lt' x y) Q st:=by
 rw [lt'_eq]
 refine Ou (Qd ?_)
 rw [hk]
 refine Ou (QW (QN (hC x hx y hy _ _ ⟨rfl,?_⟩)))
 exact Ov h
theorem aU {st:SortSt} (hi:arr[i]?=some p) (h:Q p st):wpS (model prog w) A E s (elem' arr i) Q st:=by
 rw [elem'_eq,hi]; exact Ov h
theorem xh {st:SortSt} (hC:iH prog w A s κ rk L) (hk:kindOf st=κ) (hi:(arrOf st)[i]?=some p) (hj:(arrOf st)[j]?=some q) (hp:p∈L) (hq:q∈L)
 (h:Q (some (decide (R rk (arrOf st) i<R rk (arrOf st) j))) st):wpS (model prog w) A E s (ltAt' i j) Q st:=by
 rw [ltAt'_eq]
 refine Ou (Qd ?_)
 show wpS _ _ _ _ (do let x <- elem' (arrOf st) i; let y <- elem' (arrOf st) j; lt' x y) Q st
 refine Ou (aU hi (Ou (aU hj (kP hC hk hp hq ?_))))
 rw [dR hi,dR hj] at h
 exact h
theorem sV {st:SortSt} (hC:iH prog w A s κ rk L) (hk:kindOf st=κ) (hkey:key∈L) (hi:arr[base+i]?=some p) (hp:p∈L)
 (hb:(if left=true then rk p<rk key else rk p<=rk key)↔i<k) (h:Q (some (decide (i<k))) st):wpS (model prog w) A E s (dQ left key arr base i) Q st:=by
 unfold dQ
 refine Ou (aU hi ?_)
 cases left with
 | true =>
  simp only [if_true] at hb |-
  refine kP hC hk hp hkey ?_
  rw [decide_eq_decide.mpr hb]; exact h
 | false =>
  simp only [Pj,if_false] at hb |-
  refine Ou (kP hC hk hkey hp (Ov ?_))
  have e:(!decide (rk key<rk p))=decide (i<k):=by
   rw [<- decide_not]; exact decide_eq_decide.mpr (by rw [<- hb]; omega)
  rw [Option.map_some,e]; exact h
theorem kQ {st:SortSt} {n lo hi k:Nat} (hb:∀ i,i<n->∀ (Q:Option Bool->SortSt->Prop),Q (some (decide (i<k))) st->wpS (model prog w) A E s (bey i) Q st)
 (h1:lo<=k) (h2:k<=hi) (h3:hi<=n) (h:Q (some k) st):wpS (model prog w) A E s (kO bey n lo hi) Q st:=by
 unfold kO
 refine Ou (O6 (PF (I:=λx c st'=>st'=st/\∃ l r,c=(none,l,r)/\l<=k/\k<=r/\r<=n/\r - l<=n - x) (Q:=λc st'=>st'=st/\∃ l,c=(none,l,k)) ?step ?fin ⟨rfl,lo,hi,rfl,h1,h2,h3,by omega⟩) ?post)
 case fin =>
  rintro c st' ⟨rfl,l,r,rfl,a1,a2,a3,a4⟩
  have:r=k:=by omega
  subst this
  exact ⟨rfl,l,rfl⟩
 case step =>
  rintro x c st' _ hx ⟨rfl,l,r,rfl,a1,a2,a3,a4⟩
  dsimp only
  by_cases hge:l>=r
  ·rw [if_pos hge]
   have:r=k:=by omega
   subst this
   exact Ov ⟨rfl,l,rfl⟩
  ·rw [if_neg hge]
   refine Ou (hb _ (by omega) _ ?_)
   dsimp only
   by_cases hm:l+(r - l) / 2<k
   ·rw [decide_eq_true hm,if_pos rfl]
    exact Ov ⟨rfl,_,_,rfl,by omega,by omega,by omega,by omega⟩
   ·rw [decide_eq_false hm,if_neg OC]
    exact Ov ⟨rfl,_,_,rfl,by omega,by omega,by omega,by omega⟩
 case post =>
  rintro c st' ⟨rfl,l,rfl⟩
  exact Ov h
theorem fL {st:SortSt} (hC:iH prog w A s κ rk L) (hk:kindOf st=κ) (hkey:key∈L) (harr:∀ i,i<n->∃ p,arr[base+i]?=some p/\p∈L)
 (hb:∀ i,i<n->((if left=true then R rk arr (base+i)<rk key else R rk arr (base+i)<=rk key)↔i<k)) (hkn:k<=n) (hh:hint<n) (h:Q (some k) st):wpS (model prog w) A E s (cX left key arr base n hint) Q st:=by
 have bey:∀ i,i<n->∀ (Q:Option Bool->SortSt->Prop),Q (some (decide (i<k))) st->wpS (model prog w) A E s (dQ left key arr base i) Q st:=λi hi Q hQ=>by
  obtain ⟨p,e,hp⟩:=harr i hi
  refine sV hC hk hkey e hp ?_ hQ
  have:=hb i hi
  rw [dR e] at this
  exact this
 rw [sU]
 refine Ou (bey hint hh _ ?_)
 dsimp only
 by_cases hr:hint<k
 ·rw [decide_eq_true hr,if_pos rfl]
  unfold Ae
  refine Ou (O6 (PF (I:=λx c st'=>st'=st/\∃ l o,c=(none,l,o)/\hint+l<k/\x<o) (Q:=λc st'=>st'=st/\∃ l o,c=(none,l,o)/\hint+l<k/\(k<=hint+o\/n - hint<=o)) ?step ?fin ⟨rfl,0,1,rfl,hr,by omega⟩) ?post)
  case fin =>
   rintro c st' ⟨rfl,l,o,rfl,a1,a2⟩
   exact ⟨rfl,l,o,rfl,a1,.inr (by omega)⟩
  case step =>
   rintro x c st' _ hx ⟨rfl,l,o,rfl,a1,a2⟩
   dsimp only
   by_cases hge:o>=n - hint
   ·rw [if_pos hge]; exact Ov ⟨rfl,l,o,rfl,a1,.inr hge⟩
   ·rw [if_neg hge]
    refine Ou (bey _ (by omega) _ ?_)
    dsimp only
    by_cases hm:hint+o<k
    ·rw [decide_eq_true hm]; simp only [Si,Pj,if_false]
     exact Ov ⟨rfl,o,2 * o+1,rfl,hm,by omega⟩
    ·rw [decide_eq_false hm]; simp only [Bool.not_false,if_true]
     exact Ov ⟨rfl,l,o,rfl,a1,.inl (by omega)⟩
  case post =>
   rintro c st' ⟨rfl,l,o,rfl,a1,a2⟩
   dsimp only
   exact kQ bey (by omega) (by omega) (by omega) h
 ·rw [decide_eq_false hr,if_neg OC]
  unfold Af
  refine Ou (O6 (PF (I:=λx c st'=>st'=st/\∃ l o,c=(none,l,o)/\l<=hint/\k<=hint - l/\x<o) (Q:=λc st'=>st'=st/\∃ l o,c=(none,l,o)/\l<=hint/\k<=hint - l/\(hint+1<=k+o\/hint+1<=o)) ?step ?fin ⟨rfl,0,1,rfl,by omega,by omega,by omega⟩) ?post)
  case fin =>
   rintro c st' ⟨rfl,l,o,rfl,a1,a2,a3⟩
   exact ⟨rfl,l,o,rfl,a1,a2,.inr (by omega)⟩
  case step =>
   rintro x c st' _ hx ⟨rfl,l,o,rfl,a1,a2,a3⟩
   dsimp only
   by_cases hge:o>=hint+1
   ·rw [if_pos hge]; exact Ov ⟨rfl,l,o,rfl,a1,a2,.inr hge⟩
   ·rw [if_neg hge]
    refine Ou (bey _ (by omega) _ ?_)
    dsimp only
    by_cases hm:hint - o<k
    ·rw [decide_eq_true hm,if_pos rfl]
     exact Ov ⟨rfl,l,o,rfl,a1,a2,.inl (by omega)⟩
    ·rw [decide_eq_false hm,if_neg OC]
     exact Ov ⟨rfl,o,2 * o+1,rfl,by omega,by omega,by omega⟩
  case post =>
   rintro c st' ⟨rfl,l,o,rfl,a1,a2,a3⟩
   dsimp only
   exact kQ bey (by omega) (by omega) (by omega) h
noncomputable def kR:Array Keyed->Array Keyed->StateT SortSt Sem (Array Keyed):=sortPriv% PySem.Builtin.mergeLo
theorem fM {st:SortSt} (h:Q () (QU (kindOf st) (arrOf st) (pendingOf st) g (failedOf st))):wpS M A E s (cN g) Q st :=
 Qq (f:=λst=>QU (kindOf st) (arrOf st) (pendingOf st) g (failedOf st)) h
section
variable {rk:Keyed->Int} {a b:Array Keyed}
def Ag (rk:Keyed->Int) (xs:List Keyed):Prop:=xs.Pairwise λp q=>rk p<=rk q
theorem u7 (h:xs.length<=1):Ag rk xs:=by
 cases xs with
 | nil=>exact R6
 | cons x xs =>
  cases xs with
  | nil=>exact Ry _ _
  | cons y ys=>simp at h
def Res (rk:Keyed->Int) (a b r:Array Keyed):Prop:=r.toList.Perm (a.toList++b.toList)/\Ag rk r.toList
structure WL (rk:Keyed->Int) (a b:Array Keyed) (out:Array Keyed) (ia ib:Nat):Prop where
 pa:ia<=a.size
 pb:ib<=b.size
 pm:out.toList.Perm (a.toList.take ia++b.toList.take ib)
 sr:Ag rk out.toList
 ha:∀ p∈out.toList,∀ (j:Nat) (q:Keyed),ia<=j->a[j]?=some q->rk p<=rk q
 hb:∀ p∈out.toList,∀ (j:Nat) (q:Keyed),ib<=j->b[j]?=some q->rk p<=rk q
def Up (rk:Keyed->Int) (a:Array Keyed):Prop:=∀ (i j:Nat) (p q:Keyed),i<=j->a[i]?=some p->a[j]?=some q->rk p<=rk q
theorem jq (h:Up rk a):Ag rk a.toList:=by
 unfold Ag
 rw [Uh]
 intro i j hi hj hij
 exact h i j _ _ (QD hij) (by simp at hi |-) (by simp at hj |-)
theorem HE (h:Ag rk a.toList):Up rk a:=λi j p q hij e1 e2=>by
 rw [<- Pf] at e1 e2
 obtain ⟨h1,r1⟩:=OH.mp e1
 obtain ⟨h2,r2⟩:=OH.mp e2
 subst r1 r2
 rcases Nat.lt_or_eq_of_le hij with z | z
 ·exact (Uh.mp h) i j h1 h2 z
 ·subst z; exact PR _
theorem bM (h1:Ag rk xs) (h2:Ag rk ys) (h3:∀ p∈xs,∀ q∈ys,rk p<=rk q):Ag rk (xs++ys):=List.pairwise_append.mpr ⟨h1,h2,h3⟩
theorem dZ (xs:Array Keyed) (i j):(xs.extract i j).toList=(xs.toList.take j).drop i:=by
 rw [List.drop_take]; simp [List.extract_eq_take_drop]
theorem gH (xs:Array Keyed) (i):(xs.extract i xs.size).toList=xs.toList.drop i:=by
 rw [dZ,QI (by simp)]
theorem iW (xs:Array Keyed) (i):(xs.extract i i).toList=[]:=by
 rw [dZ,List.drop_take]; simp
theorem u9 {xs:Array Keyed} (h:q∈(xs.extract i j).toList):∃ k,i<=k/\k<j/\xs[k]?=some q:=by
 obtain ⟨n,hn⟩:=Q5 h
 rw [Pf,SO] at hn
 split at hn
 ·rename_i z
  exact ⟨i+n,by lia,by lia,hn⟩
 ·cases hn
theorem WL.jr (h:WL rk a b out ia ib) (ua:Up rk a) (e:ib=b.size):Res rk a b (out++a.extract ia a.size++b.extract ib b.size):=by
 subst e
 have e0:(out++a.extract ia a.size++b.extract b.size b.size).toList=out.toList++a.toList.drop ia:=by
  rw [PN,PN,gH,gH,List.drop_of_length_le (show b.toList.length<=b.size by simp),PD]
 refine ⟨?_,?_⟩
 ·rw [e0]
  have hp:=h.pm
  rw [QI (show b.toList.length<=b.size by simp)] at hp
  refine (hp.append_right _).trans ?_
  have:(a.toList.take ia++b.toList++a.toList.drop ia).Perm (a.toList.take ia++a.toList.drop ia++b.toList):=by
   rw [OY,OY]
   exact RA _ Q4
  rw [Qk] at this
  exact this
 ·rw [e0]
  refine bM h.sr ((jq ua).sublist (UT _ _)) λp hp q hq=>?_
  obtain ⟨n,hn⟩:=Q5 hq
  rw [RI] at hn
  exact h.ha p hp (ia+n) q (by lia) (by rw [<- Pf]; exact hn)
theorem WL.ju (h:WL rk a b out ia ib) (ub:Up rk b) (e:ia=a.size):Res rk a b (out++a.extract ia a.size++b.extract ib b.size):=by
 subst e
 have e0:(out++a.extract a.size a.size++b.extract ib b.size).toList=out.toList++b.toList.drop ib:=by
  rw [PN,PN,gH,gH,List.drop_of_length_le (show a.toList.length<=a.size by simp),PD]
 refine ⟨?_,?_⟩
 ·rw [e0]
  have hp:=h.pm
  rw [QI (show a.toList.length<=a.size by simp)] at hp
  refine (hp.append_right _).trans ?_
  rw [OY,Qk]
 ·rw [e0]
  refine bM h.sr ((jq ub).sublist (UT _ _)) λp hp q hq=>?_
  obtain ⟨n,hn⟩:=Q5 hq
  rw [RI] at hn
  exact h.hb p hp (ib+n) q (by lia) (by rw [<- Pf]; exact hn)
theorem WL.last (h:WL rk a b out ia ib) (ub:Up rk b) (e:ia+1=a.size) (hl:∀ (j:Nat) (p q:Keyed),a[ia]?=some p->b[j]?=some q->rk q<=rk p) :
 Res rk a b (out++b.extract ib b.size++a.extract ia a.size):=by
 have e0:(out++b.extract ib b.size++a.extract ia a.size).toList=out.toList++(b.toList.drop ib++a.toList.drop ia):=by
  rw [PN,PN,gH,gH,OY]
 refine ⟨?_,?_⟩
 ·rw [e0]
  refine (h.pm.append_right _).trans ?_
  have:(a.toList.take ia++b.toList.take ib++(b.toList.drop ib++a.toList.drop ia)).Perm (a.toList.take ia++a.toList.drop ia++(b.toList.take ib++b.toList.drop ib)):=by
   rw [OY,OY]
   refine RA _ ?_
   rw [<- OY]
   exact Q4
  rw [Qk,Qk] at this
  exact this
 ·rw [e0]
  have ml:∀ q∈b.toList.drop ib,∃ j,ib<=j/\b[j]?=some q:=λq hq=>by
   obtain ⟨n,hn⟩:=Q5 hq
   rw [RI] at hn
   exact ⟨ib+n,by lia,by rw [<- Pf]; exact hn⟩
  have ml2:∀ q∈a.toList.drop ia,a[ia]?=some q:=λq hq=>by
   obtain ⟨n,hn⟩:=Q5 hq
   rw [RI] at hn
   have:=(OH.mp hn).1
   have hn0:n=0:=by simp at this; lia
   subst hn0
   rw [<- Pf]; exact hn
  refine bM h.sr (bM ((jq ub).sublist (UT _ _)) ?_ λp hp q hq=>?_) λp hp q hq=>?_
  ·exact u7 (by simp; lia)
  ·obtain ⟨j,_,e1⟩:=ml p hp
   exact hl j q p (ml2 q hq) e1
  ·rcases OZ.mp hq with z | z
   ·obtain ⟨j,h1,e1⟩:=ml q z
    exact h.hb p hp j q h1 e1
   ·exact h.ha p hp ia q (Ot _) (ml2 q z)
theorem cY {xs:Array Keyed} (h:xs[i]?=some p):xs.toList.take (i+1)=xs.toList.take i++[p]:=by
 rw [Tf,Pf,h]; rfl
theorem WL.f9 {out:Array Keyed} {ia ib:Nat} {p:Keyed} (h:WL rk a b out ia ib) (ub:Up rk b) (e:b[ib]?=some p) (hl:∀ (j:Nat) (q:Keyed),ia<=j->a[j]?=some q->rk p<=rk q):WL rk a b (out.push p) ia (ib+1) where
 pa:=h.pa
 pb:=(Rx.mp e).1
 pm:=by
  rw [O8,cY e,<- OY]
  exact h.pm.append_right _
 sr:=by
  rw [O8]
  exact bM h.sr (Ry _ _) λq hq r hr=>by
   rw [OG.mp hr]; exact h.hb q hq ib p (Ot _) e
 ha:=λq hq j r hj er=>by
  rw [O8] at hq
  rcases OZ.mp hq with z | z
  ·exact h.ha q z j r hj er
  ·rw [OG.mp z]; exact hl j r hj er
 hb:=λq hq j r hj er=>by
  rw [O8] at hq
  rcases OZ.mp hq with z | z
  ·exact h.hb q z j r (by lia) er
  ·rw [OG.mp z]; exact ub ib j p r (by lia) e er
theorem WL.gc {out:Array Keyed} {ia ib:Nat} {p:Keyed} (h:WL rk a b out ia ib) (ua:Up rk a) (e:a[ia]?=some p) (hl:∀ (j:Nat) (q:Keyed),ib<=j->b[j]?=some q->rk p<=rk q):WL rk a b (out.push p) (ia+1) ib where
 pa:=(Rx.mp e).1
 pb:=h.pb
 pm:=by
  rw [O8,cY e]
  refine (h.pm.append_right _).trans ?_
  rw [OY,OY]
  exact RA _ Q4
 sr:=by
  rw [O8]
  exact bM h.sr (Ry _ _) λq hq r hr=>by
   rw [OG.mp hr]; exact h.ha q hq ia p (Ot _) e
 hb:=λq hq j r hj er=>by
  rw [O8] at hq
  rcases OZ.mp hq with z | z
  ·exact h.hb q z j r hj er
  ·rw [OG.mp z]; exact hl j r hj er
 ha:=λq hq j r hj er=>by
  rw [O8] at hq
  rcases OZ.mp hq with z | z
  ·exact h.ha q z j r (by lia) er
  ·rw [OG.mp z]; exact ua ia j p r (by lia) e er
theorem WL.qD (h:WL rk a b out ia ib) (ua:Up rk a):∀ (k:Nat),ia+k<=a.size->(∀ (i j:Nat) (p q:Keyed),ia<=i->i<ia+k->ib<=j->a[i]?=some p->b[j]?=some q->rk p<=rk q)->WL rk a b (out++a.extract ia (ia+k)) (ia+k) ib
 | 0,_,_=>by
  have:out++a.extract ia (ia+0)=out:=by
   apply QV
   rw [PN,Nat.add_zero,iW,PD]
  rw [this]; exact h
 | k+1,hk,hl=>by
  have ih:=h.qD ua k (by lia) λi j p q h1 h2=>hl i j p q h1 (by lia)
  have e:a[ia+k]?=some (a[ia+k]'(by lia)):=OX _
  have z:=ih.gc ua e λj q hj eq=>hl _ j _ q (by lia) (by lia) hj e eq
  have:out++a.extract ia (ia+(k+1))=(out++a.extract ia (ia+k)).push (a[ia+k]'(by lia)):=by
   apply QV
   simp only [PN,O8,dZ]
   rw [show ia+(k+1)=(ia+k)+1 by lia,cY e,Vg (by simp; lia),OY]
  rw [this]; exact z
theorem WL.qE (h:WL rk a b out ia ib) (ub:Up rk b):∀ (k:Nat),ib+k<=b.size->(∀ (i j:Nat) (p q:Keyed),ib<=i->i<ib+k->ia<=j->b[i]?=some p->a[j]?=some q->rk p<=rk q)->WL rk a b (out++b.extract ib (ib+k)) ia (ib+k)
 | 0,_,_=>by
  have:out++b.extract ib (ib+0)=out:=by
   apply QV
   rw [PN,Nat.add_zero,iW,PD]
  rw [this]; exact h
 | k+1,hk,hl=>by
  have ih:=h.qE ub k (by lia) λi j p q h1 h2=>hl i j p q h1 (by lia)
  have e:b[ib+k]?=some (b[ib+k]'(by lia)):=OX _
  have z:=ih.f9 ub e λj q hj eq=>hl _ j _ q (by lia) (by lia) hj e eq
  have:out++b.extract ib (ib+(k+1))=(out++b.extract ib (ib+k)).push (b[ib+k]'(by lia)):=by
   apply QV
   simp only [PN,O8,dZ]
   rw [show ib+(k+1)=(ib+k)+1 by lia,cY e,Vg (by simp; lia),OY]
  rw [this]; exact z
end
section
variable {prog:Program} {w:World} {A:Around} {E:Value->Shared->Prop} {s:Shared} {L:List Keyed} {κ:SortKind} {rk:Keyed->Int} {a b:Array Keyed}
theorem kT (f:Nat->Int) (c):∀ n,(∀ i j,i<=j->j<n->f i<=f j)->∃ k,k<=n/\∀ i,i<n->(f i<=c↔i<k)
 | 0,_=>⟨0,Ot _,λi hi=>by lia⟩
 | n+1,hm=>by
  obtain ⟨k,h1,h2⟩:=kT f c n λi j hij hj=>hm i j hij (by lia)
  by_cases hc:f n<=c
  ·refine ⟨n+1,Ot _,λi hi=>⟨λ_=>hi,λ_=>?_⟩⟩
   exact O2 (hm i n (by lia) (by lia)) hc
  ·refine ⟨k,by lia,λi hi=>?_⟩
   by_cases hin:i<n
   ·exact h2 i hin
   ·have:i=n:=by lia
    subst this
    exact ⟨λz=>absurd z hc,λz=>by lia⟩
theorem kU (f:Nat->Int) (c):∀ n,(∀ i j,i<=j->j<n->f i<=f j)->∃ k,k<=n/\∀ i,i<n->(f i<c↔i<k)
 | 0,_=>⟨0,Ot _,λi hi=>by lia⟩
 | n+1,hm=>by
  obtain ⟨k,h1,h2⟩:=kU f c n λi j hij hj=>hm i j hij (by lia)
  by_cases hc:f n<c
  ·refine ⟨n+1,Ot _,λi hi=>⟨λ_=>hi,λ_=>?_⟩⟩
   exact Tc (hm i n (by lia) (by lia)) hc
  ·refine ⟨k,by lia,λi hi=>?_⟩
   by_cases hin:i<n
   ·exact h2 i hin
   ·have:i=n:=by lia
    subst this
    exact ⟨λz=>absurd z hc,λz=>by lia⟩
theorem KP (h:Up rk a) (hij:i<=j) (hj:j<a.size):R rk a i<=R rk a j:=by
 have e1:a[i]?=some (a[i]'(by lia)):=OX _
 have e2:a[j]?=some a[j]:=OX _
 rw [dR e1,dR e2]
 exact h i j _ _ hij e1 e2
structure cZ (st st':SortSt):Prop where
 k:kindOf st'=kindOf st
 a:arrOf st'=arrOf st
 p:pendingOf st'=pendingOf st
 f:failedOf st'=failedOf st
theorem cZ.refl (st:SortSt):cZ st st:=⟨rfl,rfl,rfl,rfl⟩
theorem cZ.min {st st':SortSt} (h:cZ st st') (g):cZ st (QU (kindOf st') (arrOf st') (pendingOf st') g (failedOf st')):=⟨h.k,h.a,h.p,h.f⟩
theorem cZ.trans (h:cZ s1 s2) (g:cZ s2 s3):cZ s1 s3:=⟨g.k.trans h.k,g.a.trans h.a,g.p.trans h.p,g.f.trans h.f⟩
theorem qG {st:SortSt} (hC:iH prog w A s κ rk L) (hk:kindOf st=κ) (hkey:key∈L) (mx:∀ (i:Nat) (p:Keyed),xs[i]?=some p->p∈L) (ux:Up rk xs) (n) (hn:base+n<=xs.size) (hh:hint<n)
 (h:∀ k,k<=n->(∀ (i:Nat) (p:Keyed),i<k->xs[base+i]?=some p->rk p<=rk key)->(∀ (i:Nat) (p:Keyed),k<=i->base+i<base+n->xs[base+i]?=some p->rk key<rk p)->Q (some k) st) :
 wpS (model prog w) A E s (cX false key xs base n hint) Q st:=by
 obtain ⟨k,h1,h2⟩:=kT (λi=>R rk xs (base+i)) (rk key) n λi j hij hj=>KP ux (by lia) (by lia)
 refine fL hC hk hkey (λi hi=>⟨xs[base+i]'(by lia),OX _,mx _ _ (OX _)⟩) (λi hi=>by simp only [Pj,if_false]; exact h2 i hi) h1 hh (h k h1 (λi p hi e=>?_) λi p hi hb e=>?_)
 ·have:=(h2 i (by lia)).mpr hi
  rw [dR e] at this; exact this
 ·have:=mt (h2 i (by lia)).mp (by lia)
  rw [dR e] at this; lia
theorem qH {st:SortSt} (hC:iH prog w A s κ rk L) (hk:kindOf st=κ) (hkey:key∈L) (mx:∀ (i:Nat) (p:Keyed),xs[i]?=some p->p∈L) (ux:Up rk xs) (n) (hn:base+n<=xs.size) (hh:hint<n)
 (h:∀ k,k<=n->(∀ (i:Nat) (p:Keyed),i<k->xs[base+i]?=some p->rk p<rk key)->(∀ (i:Nat) (p:Keyed),k<=i->base+i<base+n->xs[base+i]?=some p->rk key<=rk p)->Q (some k) st) :
 wpS (model prog w) A E s (cX true key xs base n hint) Q st:=by
 obtain ⟨k,h1,h2⟩:=kU (λi=>R rk xs (base+i)) (rk key) n λi j hij hj=>KP ux (by lia) (by lia)
 refine fL hC hk hkey (λi hi=>⟨xs[base+i]'(by lia),OX _,mx _ _ (OX _)⟩) (λi hi=>by simp only [if_true]; exact h2 i hi) h1 hh (h k h1 (λi p hi e=>?_) λi p hi hb e=>?_)
 ·have:=(h2 i (by lia)).mpr hi
  rw [dR e] at this; exact this
 ·have:=mt (h2 i (by lia)).mp (by lia)
  rw [dR e] at this; lia
structure lY (rk:Keyed->Int) (a b out:Array Keyed) (ia ib:Nat):Prop where
 w:WL rk a b out ia ib
 la:ia+1<a.size
 lb:ib<b.size
end
section
local macro_rules | `(tactic| walk_at "dl mergeLo")=>do
 let i:=Ri (QZ `PySem.Builtin.List.W1All `PySem.Builtin.mergeLo)
 `(tactic| delta $i)
noncomputable abbrev Ah:=Option (Array Keyed)×Array Keyed×Nat×Nat×Nat×Nat×Nat
noncomputable def Fy (a b out:Array Keyed) (ia ib:Nat):Array Keyed:=out++a.extract ia a.size++b.extract ib b.size
noncomputable def Ck (a b out:Array Keyed) (ia ib:Nat):Array Keyed:=out++b.extract ib b.size++a.extract ia a.size
noncomputable def vc (a b:Array Keyed) (mg ac bc ia ib:Nat) (out:Array Keyed):StateT SortSt Sem (ForInStep Ah):=do
 let p <- elem' a ia
 if (ia+1+1 == a.size)=true then pure (.done (some (Ck a b (out.push p) (ia+1) ib),out.push p,ia+1,ib,mg,ac,bc))
 else if (decide (ac<7) && decide (bc<7))=true then pure (.done (none,out.push p,ia+1,ib,mg,ac,bc))
 else pure (.yield (none,out.push p,ia+1,ib,mg,ac,bc))
noncomputable def vd (a b:Array Keyed) (mg ac bc ia ib:Nat) (out:Array Keyed):StateT SortSt Sem (ForInStep Ah):=do
 let q <- elem' b ib
 if (ib+1 == b.size)=true then pure (.done (some (Fy a b (out.push q) ia (ib+1)),out.push q,ia,ib+1,mg,ac,bc))
 else do
  let p <- elem' a ia
  let x <- cX true p b (ib+1) (b.size - (ib+1)) 0
  match x with
  | some k=>(if k>0 then
   (if (ib+1+k == b.size)=true then pure (.done (some (Fy a b (out.push q++b.extract (ib+1) (ib+1+k)) ia (ib+1+k)),out.push q++b.extract (ib+1) (ib+1+k),ia,ib+1+k,mg,ac,k))
    else vc a b mg ac k ia (ib+1+k) (out.push q++b.extract (ib+1) (ib+1+k)))
   else vc a b mg ac k ia (ib+1) (out.push q))
  | _=>pure (.done (some (Fy a b (out.push q) ia (ib+1)),out.push q,ia,ib+1,mg,ac,bc))
noncomputable def ve (a b:Array Keyed) (mg ac bc ia ib:Nat) (out:Array Keyed):StateT SortSt Sem (ForInStep Ah):=do
 cN mg
 let q <- elem' b ib
 let x <- cX false q a ia (a.size - ia) 0
 match x with
 | some k=>(if k>0 then
  (if (ia+k+1 == a.size)=true then pure (.done (some (Ck a b (out++a.extract ia (ia+k)) (ia+k) ib),out++a.extract ia (ia+k),ia+k,ib,mg,k,bc))
   else if (ia+k == a.size)=true then pure (.done (some (Fy a b (out++a.extract ia (ia+k)) (ia+k) ib),out++a.extract ia (ia+k),ia+k,ib,mg,k,bc))
   else vd a b mg k bc (ia+k) ib (out++a.extract ia (ia+k)))
  else vd a b mg k bc ia ib out)
 | _=>pure (.done (some (Fy a b out ia ib),out,ia,ib,mg,ac,bc))
noncomputable def Ai (a b:Array Keyed) (c:Ah):StateT SortSt Sem (ForInStep Ah) :=
 if c.2.2.2.2.1>1 then ve a b (c.2.2.2.2.1 - 1) c.2.2.2.2.2.1 c.2.2.2.2.2.2 c.2.2.1 c.2.2.2.1 c.2.1 else ve a b c.2.2.2.2.1 c.2.2.2.2.2.1 c.2.2.2.2.2.2 c.2.2.1 c.2.2.2.1 c.2.1
noncomputable abbrev HF:=Option (Array Keyed)×Array Keyed×Nat×Nat×Nat×Nat
noncomputable def Aj (a b:Array Keyed) (mg:Nat) (c:HF):StateT SortSt Sem (ForInStep HF):=do
 let q <- elem' b c.2.2.2.1
 let p <- elem' a c.2.2.1
 let x <- lt' q p
 match x with
 | some y=>(if y=true then (do
  let q <- elem' b c.2.2.2.1
  if (c.2.2.2.1+1 == b.size)=true then pure (.done (some (Fy a b (c.2.1.push q) c.2.2.1 (c.2.2.2.1+1)),c.2.1.push q,c.2.2.1,c.2.2.2.1+1,0,c.2.2.2.2.2+1))
  else if c.2.2.2.2.2+1>=mg then pure (.done (none,c.2.1.push q,c.2.2.1,c.2.2.2.1+1,0,c.2.2.2.2.2+1))
  else pure (.yield (none,c.2.1.push q,c.2.2.1,c.2.2.2.1+1,0,c.2.2.2.2.2+1)))
  else (do
   let p <- elem' a c.2.2.1
   if (c.2.2.1+1+1 == a.size)=true then pure (.done (some (Ck a b (c.2.1.push p) (c.2.2.1+1) c.2.2.2.1),c.2.1.push p,c.2.2.1+1,c.2.2.2.1,c.2.2.2.2.1+1,0))
   else if c.2.2.2.2.1+1>=mg then pure (.done (none,c.2.1.push p,c.2.2.1+1,c.2.2.2.1,c.2.2.2.2.1+1,0))
   else pure (.yield (none,c.2.1.push p,c.2.2.1+1,c.2.2.2.1,c.2.2.2.2.1+1,0))))
 | _=>pure (.done (some (Fy a b c.2.1 c.2.2.1 c.2.2.2.1),c.2.1,c.2.2.1,c.2.2.2.1,c.2.2.2.2.1,c.2.2.2.2.2))
noncomputable abbrev Du:=Option (Array Keyed)×Array Keyed×Nat×Nat×Nat
noncomputable def om (a b:Array Keyed) (c:Du):StateT SortSt Sem (ForInStep Du):=do
 let s <- forIn [:a.size+b.size] ((none,c.2.1,c.2.2.1,c.2.2.2.1,0,0):HF) λ_ s=>Aj a b c.2.2.2.2 s
 match s.1 with
 | some r=>pure (.done (some r,s.2.1,s.2.2.1,s.2.2.2.1,c.2.2.2.2))
 | none=>do
  liftM (rule "list.sort.gallop")
  let t <- forIn [:a.size+b.size] ((none,s.2.1,s.2.2.1,s.2.2.2.1,c.2.2.2.2+1,s.2.2.2.2.1,s.2.2.2.2.2):Ah) λ_ t=>Ai a b t
  match t.1 with
  | some r=>pure (.done (some r,t.2.1,t.2.2.1,t.2.2.2.1,t.2.2.2.2.1))
  | none=>do
   cN (t.2.2.2.2.1+1)
   pure (.yield (none,t.2.1,t.2.2.1,t.2.2.2.1,t.2.2.2.2.1+1))
theorem qI (a b):kR a b=(do
 liftM (rule "list.sort.merge-lo")
 let p <- elem' b 0
 if (1 == b.size)=true then pure (Fy a b #[p] 0 1)
 else if (0+1 == a.size)=true then pure (Ck a b #[p] 0 1)
 else do
  let st <- get
  let s <- forIn [:a.size+b.size] ((none,#[p],0,1,gallopOf st):Du) λ_ c=>om a b c
  match s.1 with
  | some r=>pure r
  | none=>liftM (unsupported (α:=Array Keyed) "internal:list.sort.merge-bound")):=by
 unfold kR
 walk_at "dl mergeLo"
 dsimp only
 refine congrArg _ (funext λ_=>?_)
 refine congrArg _ (funext λp=>?_)
 refine congrArg _ (congrArg _ ?_)
 refine congrArg _ (funext λst=>?_)
 have e:∀ (f g:Nat->Du->StateT SortSt Sem (ForInStep Du)) (c:Du) (k:Du->StateT SortSt Sem (Array Keyed)),f=g->(forIn [:a.size+b.size] c f >>= k)=(forIn [:a.size+b.size] c g >>= k):=λ_ _ _ _ h=>by rw [h]
 refine (e _ _ _ _ (funext λ_=>funext λc=>?_)).trans (congrArg _ (funext λs=>?_))
 ·obtain ⟨o,out,ia,ib,mg⟩:=c
  unfold om
  dsimp only
  have e2:∀ (f g:Nat->HF->StateT SortSt Sem (ForInStep HF)) (c:HF) (k l:HF->StateT SortSt Sem (ForInStep Du)),f=g->k=l->(forIn [:a.size+b.size] c f >>= k)=(forIn [:a.size+b.size] c g >>= l):=λ_ _ _ _ _ h h2=>by rw [h,h2]
  refine e2 _ _ _ _ _ (funext λ_=>funext λc=>?_) (funext λs=>?_)
  ·rfl
  ·obtain ⟨o,out,ia,ib,ac,bc⟩:=s
   cases o with
   | some r=>rfl
   | none =>
    dsimp only
    refine congrArg _ (funext λ_=>?_)
    have e3:∀ (f g:Nat->Ah->StateT SortSt Sem (ForInStep Ah)) (c:Ah) (k l:Ah->StateT SortSt Sem (ForInStep Du)),f=g->k=l->(forIn [:a.size+b.size] c f >>= k)=(forIn [:a.size+b.size] c g >>= l):=λ_ _ _ _ _ h h2=>by rw [h,h2]
    refine e3 _ _ _ _ _ (funext λ_=>funext λc=>?_) (funext λs=>?_)
    ·rfl
    ·obtain ⟨o,s⟩:=s
     cases o <;> rfl
 ·obtain ⟨o,s⟩:=s
  cases o <;> rfl
end
theorem some_at {xs:Array Keyed} (h:i<xs.size):∃ p,xs[i]?=some p:=⟨xs[i],OX h⟩
def Dv (rk:Keyed->Int) (a b:Array Keyed) (n:Nat) (o:Option (Array Keyed)) (ia ib:Nat) (out:Array Keyed):Prop:=(∃ r,o=some r/\Res rk a b r)\/(o=none/\lY rk a b out ia ib/\n<=ia+ib)
noncomputable def Dw (rk:Keyed->Int) (a b:Array Keyed) (n:Nat):ForInStep Ah->Prop
 | .done c=>Dv rk a b n c.1 c.2.2.1 c.2.2.2.1 c.2.1
 | .yield c=>c.1=none/\lY rk a b c.2.1 c.2.2.1 c.2.2.2.1/\n<=c.2.2.1+c.2.2.2.1
theorem m7 {st:SortSt} (lA:∀ {out:Array Keyed} {ia ib:Nat},WL rk a b out ia ib->ia+1=a.size->Res rk a b (Ck a b out ia ib)) (W:WL rk a b out ia ib) (ua:Up rk a) (la:ia+1<a.size) (lb:ib<b.size) (ep:a[ia]?=some p)
 (hl:∀ (j:Nat) (r:Keyed),ib<=j->b[j]?=some r->rk p<=rk r) (hn:n<=ia+1+ib) (hQ:∀ x,Dw rk a b n x->Q x st):wpS (model prog w) A E s (vc a b mg ac bc ia ib out) Q st:=by
 unfold vc
 have W4:=W.gc ua ep hl
 refine Ou (aU ep ?_)
 by_cases e9:ia+1+1=a.size
 ·rw [if_pos (by simpa using e9)]
  exact Ov (hQ _ (.inl ⟨_,rfl,lA W4 e9⟩))
 rw [if_neg (by simpa using e9)]
 have hL:lY rk a b (out.push p) (ia+1) ib:=⟨W4,Nat.lt_of_le_of_ne la e9,lb⟩
 split
 ·exact Ov (hQ _ (.inr ⟨rfl,hL,hn⟩))
 ·exact Ov (hQ _ ⟨rfl,hL,hn⟩)
theorem oq {xs:Array Keyed} {i j:Nat} (h:i<=j) (e:xs[j]?=some p):xs[i+(j - i)]?=some p:=by rw [UB h]; exact e
theorem m8 {st:SortSt} (hC:iH prog w A s κ rk L) (hk:kindOf st=κ) (ma:∀ (i:Nat) (p:Keyed),a[i]?=some p->p∈L) (mb:∀ (i:Nat) (p:Keyed),b[i]?=some p->p∈L)
 (lA:∀ {out:Array Keyed} {ia ib:Nat},WL rk a b out ia ib->ia+1=a.size->Res rk a b (Ck a b out ia ib)) (W:WL rk a b out ia ib) (ua:Up rk a) (ub:Up rk b) (la:ia+1<a.size) (lb:ib<b.size) (eq:b[ib]?=some q)
 (hl:∀ (j:Nat) (r:Keyed),ia<=j->a[j]?=some r->rk q<=rk r) (hn:n<=ia+ib+2) (hQ:∀ x,Dw rk a b n x->Q x st):wpS (model prog w) A E s (vd a b mg ac bc ia ib out) Q st:=by
 unfold vd
 have W2:=W.f9 ub eq hl
 refine Ou (aU eq ?_)
 by_cases e5:ib+1=b.size
 ·rw [if_pos (by simpa using e5)]
  exact Ov (hQ _ (.inl ⟨_,rfl,W2.jr ua e5⟩))
 rw [if_neg (by simpa using e5)]
 obtain ⟨p,ep⟩:=some_at (xs:=a) (i:=ia) (by lia)
 refine Ou (aU ep ?_)
 refine Ou (qH hC hk (ma _ _ ep) mb ub _ (by lia) (by lia) λk hj1 hj2 hj3=>?_)
 dsimp only
 have W3:=W2.qE ub k (by lia) λi j r p' z1 z2 z3 e6 e7=>O2 (QE (hj2 (i - (ib+1)) r (by lia) (oq z1 e6))) (ua ia j p p' z3 ep e7)
 have bwd:∀ (j:Nat) (r:Keyed),ib+1+k<=j->b[j]?=some r->rk p<=rk r:=λj r hj e6=>hj3 (j - (ib+1)) r (by lia) (by have:=(Rx.mp e6).1; lia) (oq (OD (Qs _ _) hj) e6)
 by_cases hj0:k>0
 ·rw [if_pos hj0]
  by_cases e8:ib+1+k=b.size
  ·rw [if_pos (by simpa using e8)]
   exact Ov (hQ _ (.inl ⟨_,rfl,W3.jr ua e8⟩))
  rw [if_neg (by simpa using e8)]
  exact m7 lA W3 ua la (by lia) ep bwd (by lia) hQ
 ·rw [if_neg hj0]
  exact m7 lA W2 ua la (by lia) ep (λj r hj e6=>bwd j r (by lia) e6) (by lia) hQ
theorem m9 {st:SortSt} (hC:iH prog w A s κ rk L) (hk:kindOf st=κ) (ma:∀ (i:Nat) (p:Keyed),a[i]?=some p->p∈L) (mb:∀ (i:Nat) (p:Keyed),b[i]?=some p->p∈L)
 (lA:∀ {out:Array Keyed} {ia ib:Nat},WL rk a b out ia ib->ia+1=a.size->Res rk a b (Ck a b out ia ib)) (ua:Up rk a) (ub:Up rk b) (hL:lY rk a b out ia ib) (hn:n<=ia+ib) (hQ:∀ x st',cZ st st'->Dw rk a b n x->Q x st') :
 wpS (model prog w) A E s (ve a b mg ac bc ia ib out) Q st:=by
 unfold ve
 have W:=hL.w
 have la:=hL.la
 have lb:=hL.lb
 obtain ⟨q,eq⟩:=some_at (xs:=b) lb
 refine Ou (fM ?_)
 have F9:=λx=>hQ x _ ((cZ.refl st).min mg)
 refine Ou (aU eq ?_)
 refine Ou (qG hC (by exact hk) (mb _ _ eq) ma ua _ (by lia) (by lia) λk hk1 hk2 hk3=>?_)
 dsimp only
 have Wk:=W.qD ua k (by lia) λi j p r z1 z2 z3 e3 e4=>O2 (hk2 (i - ia) p (by lia) (oq z1 e3)) (ub ib j q r z3 eq e4)
 have fwd:∀ (j:Nat) (r:Keyed),ia+k<=j->a[j]?=some r->rk q<=rk r:=λj r hj e3=>QE (hk3 (j - ia) r (by lia) (by have:=(Rx.mp e3).1; lia) (oq (OD (Qs _ _) hj) e3))
 by_cases hk0:k>0
 ·rw [if_pos hk0]
  by_cases e3:ia+k+1=a.size
  ·rw [if_pos (by simpa using e3)]
   exact Ov (F9 _ (.inl ⟨_,rfl,lA Wk e3⟩))
  rw [if_neg (by simpa using e3)]
  by_cases e4:ia+k=a.size
  ·rw [if_pos (by simpa using e4)]
   exact Ov (F9 _ (.inl ⟨_,rfl,Wk.ju ub e4⟩))
  rw [if_neg (by simpa using e4)]
  exact m8 hC (by exact hk) ma mb lA Wk ua ub (by lia) lb eq fwd (by lia) F9
 ·rw [if_neg hk0]
  exact m8 hC (by exact hk) ma mb lA W ua ub la lb eq (λj r hj e3=>fwd j r (by lia) e3) (by lia) F9
theorem xj {st:SortSt} (hC:iH prog w A s κ rk L) (hk:kindOf st=κ) (ma:∀ (i:Nat) (p:Keyed),a[i]?=some p->p∈L) (mb:∀ (i:Nat) (p:Keyed),b[i]?=some p->p∈L)
 (lA:∀ {out:Array Keyed} {ia ib:Nat},WL rk a b out ia ib->ia+1=a.size->Res rk a b (Ck a b out ia ib)) (ua:Up rk a) (ub:Up rk b) (hL:lY rk a b c.2.1 c.2.2.1 c.2.2.2.1) (hn:n<=c.2.2.1+c.2.2.2.1+1)
 (hQ:∀ o ia ib out z y,Dv rk a b n o ia ib out->Q (.done (o,out,ia,ib,z)) st/\(o=none->Q (.yield (none,out,ia,ib,y)) st)):wpS (model prog w) A E s (Aj a b mg c) Q st:=by
 obtain ⟨_,out,ia,ib,ac,bc⟩:=c
 unfold Aj
 dsimp only at hL hn |-
 have W:=hL.w
 have la:=hL.la
 have lb:=hL.lb
 obtain ⟨q,eq⟩:=some_at (xs:=b) lb
 obtain ⟨p,ep⟩:=some_at (xs:=a) (Nat.lt_of_succ_lt la)
 refine Ou (aU eq (Ou (aU ep (Ou (kP hC hk (mb _ _ eq) (ma _ _ ep) ?_)))))
 dsimp only
 by_cases hw:rk q<rk p
 ·rw [decide_eq_true hw,if_pos rfl]
  have W1:=W.f9 ub eq λj r hj e=>O2 (QE hw) (ua ia j p r hj ep e)
  refine Ou (aU eq ?_)
  by_cases e3:ib+1=b.size
  ·rw [if_pos (by simpa using e3)]
   exact Ov (hQ _ _ _ _ _ (0,0) (.inl ⟨_,rfl,W1.jr ua e3⟩)).1
  rw [if_neg (by simpa using e3)]
  have z:=hQ none ia (ib+1) (out.push q) (0,bc+1) (0,bc+1) (.inr ⟨rfl,⟨W1,la,by lia⟩,by lia⟩)
  split
  ·exact Ov z.1
  ·exact Ov (z.2 rfl)
 ·rw [decide_eq_false hw,if_neg OC]
  have W1:=W.gc ua ep λj r hj e=>O2 (Int.not_lt.mp hw) (ub ib j q r hj eq e)
  refine Ou (aU ep ?_)
  by_cases e3:ia+1+1=a.size
  ·rw [if_pos (by simpa using e3)]
   exact Ov (hQ _ _ _ _ _ (0,0) (.inl ⟨_,rfl,lA W1 e3⟩)).1
  rw [if_neg (by simpa using e3)]
  have z:=hQ none (ia+1) ib (out.push p) (ac+1,0) (ac+1,0) (.inr ⟨rfl,⟨W1,by lia,lb⟩,by lia⟩)
  split
  ·exact Ov z.1
  ·exact Ov (z.2 rfl)
theorem sW {st:SortSt} (hC:iH prog w A s κ rk L) (hk:kindOf st=κ) (ma:∀ (i:Nat) (p:Keyed),a[i]?=some p->p∈L) (mb:∀ (i:Nat) (p:Keyed),b[i]?=some p->p∈L)
 (lA:∀ {out:Array Keyed} {ia ib:Nat},WL rk a b out ia ib->ia+1=a.size->Res rk a b (Ck a b out ia ib)) (ua:Up rk a) (ub:Up rk b) (hL:lY rk a b c.2.1 c.2.2.1 c.2.2.2.1) (hn:n<=c.2.2.1+c.2.2.2.1+1)
 (h1:∀ r z st',cZ st st'->Res rk a b r->Q (.done (some r,z)) st') (h2:∀ ia ib out g st',cZ st st'->lY rk a b out ia ib->n<=ia+ib->Q (.yield (none,out,ia,ib,g)) st'):wpS (model prog w) A E s (om a b c) Q st:=by
 unfold om
 refine Ou (O6 (PF (I:=λy c st'=>st'=st/\c.1=none/\lY rk a b c.2.1 c.2.2.1 c.2.2.2.1/\n+y<=c.2.2.1+c.2.2.2.1+1) (Q:=λc st'=>st'=st/\Dv rk a b n c.1 c.2.2.1 c.2.2.2.1 c.2.1) ?step ?fin ⟨rfl,rfl,hL,hn⟩) ?post)
 case fin =>
  rintro c st' ⟨rfl,hc,hL',hx⟩
  exact ⟨rfl,.inr ⟨hc,hL',by have:=hL'.la; have:=hL'.lb; lia⟩⟩
 case step =>
  rintro y c st' _ hy ⟨rfl,_,hL',hx⟩
  refine xj (n:=n+y) hC hk ma mb lA ua ub hL' hx λo ia ib out z y hR=>⟨?_,?_⟩
  ·refine ⟨rfl,?_⟩
   rcases hR with hR | ⟨q1,q2,q3⟩
   ·exact .inl hR
   ·exact .inr ⟨q1,q2,OD (Qs _ _) q3⟩
  ·rintro rfl
   rcases hR with ⟨_,q,_⟩ | ⟨q1,q2,q3⟩
   ·cases q
   ·exact ⟨rfl,rfl,q2,Ti q3⟩
 case post =>
  rintro ⟨o,out,ia,ib,ac,bc⟩ st' ⟨rfl,hR⟩
  dsimp only at hR |-
  rcases hR with ⟨r,rfl,hr⟩ | ⟨rfl,hL2,hn2⟩
  ·exact Ov (h1 r _ _ (.refl _) hr)
  refine Ou (QW (Pw ⟨rfl,?_⟩))
  refine Ou (O6 (PF (I:=λy c st''=>cZ st' st''/\c.1=none/\lY rk a b c.2.1 c.2.2.1 c.2.2.2.1/\n<=c.2.2.1+c.2.2.2.1) (Q:=λc st''=>cZ st' st''/\Dv rk a b n c.1 c.2.2.1 c.2.2.2.1 c.2.1) ?gstep ?gfin ⟨.refl _,rfl,hL2,hn2⟩) ?gpost)
  case gfin=>exact λc st'' ⟨q1,q2,q3,q4⟩=>⟨q1,.inr ⟨q2,q3,q4⟩⟩
  case gstep =>
   rintro y c st'' _ _ ⟨q1,q2,q3,q4⟩
   have key:wpS (model prog w) A E s (Ai a b c) (λx st3=>cZ st'' st3/\Dw rk a b n x) st'':=by
    unfold Ai
    split
    ·exact m9 hC (q1.k.trans hk) ma mb lA ua ub q3 q4 λx st3 k h=>⟨k,h⟩
    ·exact m9 hC (q1.k.trans hk) ma mb lA ua ub q3 q4 λx st3 k h=>⟨k,h⟩
   refine O6 key λx st3 ⟨k,h⟩=>?_
   cases x with
   | done c=>exact ⟨q1.trans k,h⟩
   | yield c=>exact ⟨q1.trans k,h⟩
  case gpost =>
   rintro ⟨o,out,ia,ib,g,ac,bc⟩ st'' ⟨q1,hR⟩
   dsimp only at hR |-
   rcases hR with ⟨r,rfl,hr⟩ | ⟨rfl,hL3,hn3⟩
   ·exact Ov (h1 r _ _ q1 hr)
   ·exact Ou (fM (Ov (h2 _ _ _ _ _ (q1.min _) hL3 hn3)))
theorem qJ {st:SortSt} (hC:iH prog w A s κ rk L) (hk:kindOf st=κ) (ma:∀ (i:Nat) (p:Keyed),a[i]?=some p->p∈L) (mb:∀ (i:Nat) (p:Keyed),b[i]?=some p->p∈L) (ua:Up rk a) (ub:Up rk b) (na:1<=a.size) (nb:1<=b.size)
 (h0:∀ p q,a[0]?=some p->b[0]?=some q->rk q<=rk p) (hl:∀ (j:Nat) (p q:Keyed),a[a.size - 1]?=some p->b[j]?=some q->rk q<=rk p) (h:∀ r st',Res rk a b r->cZ st st'->Q r st'):wpS (model prog w) A E s (kR a b) Q st:=by
 have lastA:∀ {out:Array Keyed} {ia ib:Nat},WL rk a b out ia ib->ia+1=a.size->Res rk a b (Ck a b out ia ib):=λhw e=>hw.last ub e λj p q e1 e2=>hl j p q (by rw [<- e]; exact e1) e2
 obtain ⟨q0,eq0⟩:=some_at (xs:=b) (i:=0) nb
 obtain ⟨p0,ep0⟩:=some_at (xs:=a) (i:=0) na
 have W0:WL rk a b #[q0] 0 1:=by
  have z:WL rk a b #[] 0 0:=⟨OV _,OV _,by simp,R6,by simp,by simp⟩
  exact z.f9 ub eq0 λj q _ e=>O2 (h0 p0 q0 ep0 eq0) (ua 0 j p0 q (OV _) ep0 e)
 rw [qI]
 refine Ou (QW (Pw ⟨rfl,?_⟩))
 refine Ou (aU eq0 ?_)
 by_cases e1:1=b.size
 ·rw [if_pos (by simpa using e1)]
  exact Ov (h _ _ (W0.jr ua e1) (.refl _))
 rw [if_neg (by simpa using e1)]
 by_cases e2:0+1=a.size
 ·rw [if_pos (by simpa using e2)]
  exact Ov (h _ _ (lastA W0 e2) (.refl _))
 rw [if_neg (by simpa using e2)]
 refine Ou (Qd ?_)
 refine Ou (O6 (PF (I:=λx c st'=>cZ st st'/\c.1=none/\lY rk a b c.2.1 c.2.2.1 c.2.2.2.1/\x+1<=c.2.2.1+c.2.2.2.1) (Q:=λc st'=>cZ st st'/\∃ r,c.1=some r/\Res rk a b r) ?step ?fin ⟨.refl _,rfl,⟨W0,by dsimp only; lia,by dsimp only; lia⟩,by dsimp only; lia⟩) ?post)
 case fin =>
  rintro c st' ⟨hK,hc,hL,hx⟩
  have h1:=hL.la
  have h2:=hL.lb
  lia
 case post =>
  rintro c st' ⟨hK,r,hc,hr⟩
  rw [hc]
  exact Ov (h r st' hr hK)
 case step =>
  rintro x c st1 _ hx ⟨hK,_,hL,hn⟩
  exact sW (n:=x+2) hC (hK.k.trans hk) ma mb lastA ua ub hL (Ti hn) (λr z st' k hr=>⟨hK.trans k,r,rfl,hr⟩) λia ib out g st' k q1 q2=>⟨hK.trans k,rfl,q1,q2⟩
noncomputable def kW:Array Keyed->Array Keyed->StateT SortSt Sem (Array Keyed):=sortPriv% PySem.Builtin.mergeHi
local macro_rules | `(tactic| walk_at "dl mergeHi")=>do
 let i:=Ri (QZ `PySem.Builtin.List.W1All `PySem.Builtin.mergeHi)
 `(tactic| delta $i)
section
variable {rk:Keyed->Int} {a b:Array Keyed}
structure WH (rk:Keyed->Int) (a b:Array Keyed) (out:Array Keyed) (na nb:Nat):Prop where
 pa:na<=a.size
 pb:nb<=b.size
 pm:out.toList.Perm (a.toList.drop na++b.toList.drop nb)
 sr:Ag rk out.toList.reverse
 ha:∀ p∈out.toList,∀ (j:Nat) (q:Keyed),j<na->a[j]?=some q->rk q<=rk p
 hb:∀ p∈out.toList,∀ (j:Nat) (q:Keyed),j<nb->b[j]?=some q->rk q<=rk p
theorem dG (xs:Array Keyed) (i):(xs.extract 0 i).toList=xs.toList.take i:=by rw [dZ,TM]
theorem iX {xs:Array Keyed} (h:q∈xs.toList.take i):∃ j,j<i/\xs[j]?=some q:=by
 obtain ⟨n,hn⟩:=Q5 h
 have hl:=(OH.mp hn).1
 rw [Pp] at hl
 rw [SH (by lia)] at hn
 exact ⟨n,by lia,by rw [<- Pf]; exact hn⟩
theorem WH.res (h:WH rk a b out na nb) (x) (hx:x.toList.Perm (a.toList.take na++b.toList.take nb)) (hs:Ag rk x.toList):Res rk a b (x++out.reverse):=by
 have e0:(x++out.reverse).toList=x.toList++out.toList.reverse:=by simp
 refine ⟨?_,?_⟩
 ·rw [e0]
  refine (hx.append ((Tg _).trans h.pm)).trans ?_
  have:(a.toList.take na++b.toList.take nb++(a.toList.drop na++b.toList.drop nb)).Perm (a.toList.take na++a.toList.drop na++(b.toList.take nb++b.toList.drop nb)):=by
   rw [OY,OY]
   refine RA _ ?_
   rw [<- OY,<- OY]
   exact List.Perm.append_right _ Q4
  rw [Qk,Qk] at this
  exact this
 ·rw [e0]
  refine bM hs h.sr λp hp q hq=>?_
  have hq':q∈out.toList:=by simpa using hq
  rcases OZ.mp (hx.mem_iff.mp hp) with z | z
  ·obtain ⟨j,h1,e⟩:=iX z
   exact h.ha q hq' j p h1 e
  ·obtain ⟨j,h1,e⟩:=iX z
   exact h.hb q hq' j p h1 e
theorem WH.ju (h:WH rk a b out na nb) (ub:Up rk b) (e:na=0):Res rk a b (a.extract 0 na++b.extract 0 nb++out.reverse):=by
 subst e
 refine h.res _ ?_ ?_
 ·simp [dG]
 ·have:(a.extract 0 0++b.extract 0 nb).toList=b.toList.take nb:=by rw [PN,dG,dG]; simp
  rw [this]; exact (jq ub).sublist (Te _ _)
theorem WH.jr (h:WH rk a b out na nb) (ua:Up rk a) (e:nb=0):Res rk a b (a.extract 0 na++b.extract 0 nb++out.reverse):=by
 subst e
 refine h.res _ ?_ ?_
 ·simp [dG]
 ·have:(a.extract 0 na++b.extract 0 0).toList=a.toList.take na:=by rw [PN,dG,dG]; simp
  rw [this]; exact (jq ua).sublist (Te _ _)
theorem WH.first (h:WH rk a b out na nb) (ua:Up rk a) (e:nb=1) (hf:∀ (j:Nat) (p q:Keyed),a[j]?=some p->b[0]?=some q->rk q<=rk p) :
 Res rk a b (b.extract 0 nb++a.extract 0 na++out.reverse):=by
 subst e
 have e1:(b.extract 0 1++a.extract 0 na).toList=b.toList.take 1++a.toList.take na:=by rw [PN,dG,dG]
 refine h.res _ ?_ ?_
 ·rw [e1]; exact Q4
 ·rw [e1]
  refine bM ?_ ((jq ua).sublist (Te _ _)) λp hp q hq=>?_
  ·exact u7 (by simp; lia)
  ·obtain ⟨j,h1,e2⟩:=iX hp
   obtain ⟨j2,h2,e3⟩:=iX hq
   have:j=0:=by lia
   subst this
   exact hf j2 q p e3 e2
theorem nc {xs:Array Keyed} (hi:1<=i) (h:xs[i - 1]?=some p):xs.toList.drop (i - 1)=p::xs.toList.drop i:=by
 rw [<- Pf] at h
 obtain ⟨h1,h2⟩:=OH.mp h
 rw [List.drop_eq_getElem_cons h1,h2,show i - 1+1=i by lia]
theorem WH.gc {out:Array Keyed} {na nb:Nat} {p:Keyed} (h:WH rk a b out na nb) (ua:Up rk a) (hn:1<=na) (e:a[na - 1]?=some p) (hl:∀ (j:Nat) (q:Keyed),j<nb->b[j]?=some q->rk q<=rk p):WH rk a b (out.push p) (na - 1) nb where
 pa:=by have:=h.pa; lia
 pb:=h.pb
 pm:=by
  rw [O8,nc hn e]
  refine (h.pm.append_right _).trans ?_
  rw [Ra]
  exact Q4
 sr:=by
  rw [O8,UC]
  exact bM (Ry _ _) h.sr λr hr q hq=>by
   have hr':r=p:=by simpa using hr
   rw [hr']
   exact h.ha q (by simpa using hq) (na - 1) p (by lia) e
 ha:=λq hq j r hj er=>by
  rw [O8] at hq
  rcases OZ.mp hq with z | z
  ·exact h.ha q z j r (by lia) er
  ·rw [OG.mp z]; exact ua j (na - 1) r p (by lia) er e
 hb:=λq hq j r hj er=>by
  rw [O8] at hq
  rcases OZ.mp hq with z | z
  ·exact h.hb q z j r hj er
  ·rw [OG.mp z]; exact hl j r hj er
theorem WH.f9 {out:Array Keyed} {na nb:Nat} {p:Keyed} (h:WH rk a b out na nb) (ub:Up rk b) (hn:1<=nb) (e:b[nb - 1]?=some p) (hl:∀ (j:Nat) (q:Keyed),j<na->a[j]?=some q->rk q<=rk p):WH rk a b (out.push p) na (nb - 1) where
 pa:=h.pa
 pb:=by have:=h.pb; lia
 pm:=by
  rw [O8,nc hn e]
  refine (h.pm.append_right _).trans ?_
  rw [OY]
  exact RA _ Q4
 sr:=by
  rw [O8,UC]
  exact bM (Ry _ _) h.sr λr hr q hq=>by
   have hr':r=p:=by simpa using hr
   rw [hr']
   exact h.hb q (by simpa using hq) (nb - 1) p (by lia) e
 hb:=λq hq j r hj er=>by
  rw [O8] at hq
  rcases OZ.mp hq with z | z
  ·exact h.hb q z j r (by lia) er
  ·rw [OG.mp z]; exact ub j (nb - 1) r p (by lia) er e
 ha:=λq hq j r hj er=>by
  rw [O8] at hq
  rcases OZ.mp hq with z | z
  ·exact h.ha q z j r hj er
  ·rw [OG.mp z]; exact hl j r hj er
theorem vf {xs:Array Keyed} (h:m<n) (e:xs[m]?=some p):(xs.extract m n).reverse=(xs.extract (m+1) n).reverse.push p:=by
 apply QV
 rw [O8,RC,RC,dZ,dZ]
 rw [<- Pf] at e
 obtain ⟨h1,h2⟩:=OH.mp e
 have h3:m<(xs.toList.take n).length:=by rw [Pp]; lia
 rw [List.drop_eq_getElem_cons h3,List.reverse_cons,List.getElem_take,h2]
theorem qK (xs ys:Array Keyed) (p):xs++ys.push p=(xs++ys).push p:=by
 apply QV; simp
theorem WH.qD (h:WH rk a b out na nb) (ua:Up rk a):∀ (k m:Nat),m+k=na->(∀ (i j:Nat) (p q:Keyed),m<=i->i<na->j<nb->a[i]?=some p->b[j]?=some q->rk q<=rk p)->WH rk a b (out++(a.extract m na).reverse) m nb
 | 0,m,hm,_=>by
  have e:m=na:=by lia
  subst e
  have:out++(a.extract m m).reverse=out:=by
   apply QV
   rw [PN,RC,iW,List.reverse_nil,PD]
  rw [this]; exact h
 | k+1,m,hm,hl=>by
  have hp:=h.pa
  have ih:=h.qD ua k (m+1) (by lia) λi j p q h1 h2=>hl i j p q (by lia) h2
  have e:a[m+1 - 1]?=some (a[m]'(by lia)):=OX (show m<a.size by lia)
  have z:=ih.gc ua (by lia) e λj q hj eq=>hl m j _ q (Ot _) (by lia) hj (OX (show m<a.size by lia)) eq
  rw [vf (show m<na by lia) (OX (show m<a.size by lia)),qK]
  exact z
theorem WH.qE (h:WH rk a b out na nb) (ub:Up rk b):∀ (k m:Nat),m+k=nb->(∀ (i j:Nat) (p q:Keyed),m<=i->i<nb->j<na->b[i]?=some p->a[j]?=some q->rk q<=rk p)->WH rk a b (out++(b.extract m nb).reverse) na m
 | 0,m,hm,_=>by
  have e:m=nb:=by lia
  subst e
  have:out++(b.extract m m).reverse=out:=by
   apply QV
   rw [PN,RC,iW,List.reverse_nil,PD]
  rw [this]; exact h
 | k+1,m,hm,hl=>by
  have hp:=h.pb
  have ih:=h.qE ub k (m+1) (by lia) λi j p q h1 h2=>hl i j p q (by lia) h2
  have e:b[m+1 - 1]?=some (b[m]'(by lia)):=OX (show m<b.size by lia)
  have z:=ih.f9 ub (by lia) e λj q hj eq=>hl m j _ q (Ot _) (by lia) hj (OX (show m<b.size by lia)) eq
  rw [vf (show m<nb by lia) (OX (show m<b.size by lia)),qK]
  exact z
structure gX (rk:Keyed->Int) (a b out:Array Keyed) (na nb:Nat):Prop where
 w:WH rk a b out na nb
 la:1<=na
 lb:2<=nb
end
noncomputable abbrev Ak:=Option (Array Keyed)×Nat×Nat×Array Keyed×Nat×Nat×Nat
noncomputable def Fz (a b out:Array Keyed) (na nb:Nat):Array Keyed:=a.extract 0 na++b.extract 0 nb++out.reverse
noncomputable def Dy (a b out:Array Keyed) (na nb:Nat):Array Keyed:=b.extract 0 nb++a.extract 0 na++out.reverse
noncomputable def vg (a b:Array Keyed) (mg ac bc na nb:Nat) (out:Array Keyed):StateT SortSt Sem (ForInStep Ak):=do
 let p <- elem' a (na - 1)
 if (na - 1 == 0)=true then pure (.done (some (Fz a b (out.push p) (na - 1) nb),na - 1,nb,out.push p,mg,ac,bc))
 else if (decide (ac<7) && decide (bc<7))=true then pure (.done (none,na - 1,nb,out.push p,mg,ac,bc))
 else pure (.yield (none,na - 1,nb,out.push p,mg,ac,bc))
noncomputable def vh (a b:Array Keyed) (mg ac bc na nb:Nat) (out:Array Keyed):StateT SortSt Sem (ForInStep Ak):=do
 let q <- elem' b (nb - 1)
 if (nb - 1 == 1)=true then pure (.done (some (Dy a b (out.push q) na (nb - 1)),na,nb - 1,out.push q,mg,ac,bc))
 else do
  let p <- elem' a (na - 1)
  let x <- cX true p b 0 (nb - 1) (nb - 1 - 1)
  match x with
  | some k=>(if nb - 1 - k>0 then
   (if (k == 1)=true then pure (.done (some (Dy a b (out.push q++(b.extract k (nb - 1)).reverse) na k),na,k,out.push q++(b.extract k (nb - 1)).reverse,mg,ac,nb - 1 - k))
    else if (k == 0)=true then pure (.done (some (Fz a b (out.push q++(b.extract k (nb - 1)).reverse) na k),na,k,out.push q++(b.extract k (nb - 1)).reverse,mg,ac,nb - 1 - k))
    else vg a b mg ac (nb - 1 - k) na k (out.push q++(b.extract k (nb - 1)).reverse))
   else vg a b mg ac (nb - 1 - k) na (nb - 1) (out.push q))
  | _=>pure (.done (some (Fz a b (out.push q) na (nb - 1)),na,nb - 1,out.push q,mg,ac,bc))
noncomputable def vj (a b:Array Keyed) (mg ac bc na nb:Nat) (out:Array Keyed):StateT SortSt Sem (ForInStep Ak):=do
 cN mg
 let q <- elem' b (nb - 1)
 let x <- cX false q a 0 na (na - 1)
 match x with
 | some k=>(if na - k>0 then
  (if (k == 0)=true then pure (.done (some (Fz a b (out++(a.extract k na).reverse) k nb),k,nb,out++(a.extract k na).reverse,mg,na - k,bc))
   else vh a b mg (na - k) bc k nb (out++(a.extract k na).reverse))
  else vh a b mg (na - k) bc na nb out)
 | _=>pure (.done (some (Fz a b out na nb),na,nb,out,mg,ac,bc))
noncomputable def Al (a b:Array Keyed) (c:Ak):StateT SortSt Sem (ForInStep Ak) :=
 if c.2.2.2.2.1>1 then vj a b (c.2.2.2.2.1 - 1) c.2.2.2.2.2.1 c.2.2.2.2.2.2 c.2.1 c.2.2.1 c.2.2.2.1 else vj a b c.2.2.2.2.1 c.2.2.2.2.2.1 c.2.2.2.2.2.2 c.2.1 c.2.2.1 c.2.2.2.1
noncomputable abbrev HG:=Option (Array Keyed)×Nat×Nat×Array Keyed×Nat×Nat
noncomputable def Am (a b:Array Keyed) (mg:Nat) (c:HG):StateT SortSt Sem (ForInStep HG):=do
 let q <- elem' b (c.2.2.1 - 1)
 let p <- elem' a (c.2.1 - 1)
 let x <- lt' q p
 match x with
 | some y=>(if y=true then (do
  let p <- elem' a (c.2.1 - 1)
  if (c.2.1 - 1 == 0)=true then pure (.done (some (Fz a b (c.2.2.2.1.push p) (c.2.1 - 1) c.2.2.1),c.2.1 - 1,c.2.2.1,c.2.2.2.1.push p,c.2.2.2.2.1+1,0))
  else if c.2.2.2.2.1+1>=mg then pure (.done (none,c.2.1 - 1,c.2.2.1,c.2.2.2.1.push p,c.2.2.2.2.1+1,0))
  else pure (.yield (none,c.2.1 - 1,c.2.2.1,c.2.2.2.1.push p,c.2.2.2.2.1+1,0)))
  else (do
   let q <- elem' b (c.2.2.1 - 1)
   if (c.2.2.1 - 1 == 1)=true then pure (.done (some (Dy a b (c.2.2.2.1.push q) c.2.1 (c.2.2.1 - 1)),c.2.1,c.2.2.1 - 1,c.2.2.2.1.push q,0,c.2.2.2.2.2+1))
   else if c.2.2.2.2.2+1>=mg then pure (.done (none,c.2.1,c.2.2.1 - 1,c.2.2.2.1.push q,0,c.2.2.2.2.2+1))
   else pure (.yield (none,c.2.1,c.2.2.1 - 1,c.2.2.2.1.push q,0,c.2.2.2.2.2+1))))
 | _=>pure (.done (some (Fz a b c.2.2.2.1 c.2.1 c.2.2.1),c.2.1,c.2.2.1,c.2.2.2.1,c.2.2.2.2.1,c.2.2.2.2.2))
noncomputable abbrev Cm:=Option (Array Keyed)×Nat×Nat×Array Keyed×Nat
noncomputable def jv (a b:Array Keyed) (c:Cm):StateT SortSt Sem (ForInStep Cm):=do
 let s <- forIn [:a.size+b.size] ((none,c.2.1,c.2.2.1,c.2.2.2.1,0,0):HG) λ_ s=>Am a b c.2.2.2.2 s
 match s.1 with
 | some r=>pure (.done (some r,s.2.1,s.2.2.1,s.2.2.2.1,c.2.2.2.2))
 | none=>do
  liftM (rule "list.sort.gallop")
  let t <- forIn [:a.size+b.size] ((none,s.2.1,s.2.2.1,s.2.2.2.1,c.2.2.2.2+1,s.2.2.2.2.1,s.2.2.2.2.2):Ak) λ_ t=>Al a b t
  match t.1 with
  | some r=>pure (.done (some r,t.2.1,t.2.2.1,t.2.2.2.1,t.2.2.2.2.1))
  | none=>do
   cN (t.2.2.2.2.1+1)
   pure (.yield (none,t.2.1,t.2.2.1,t.2.2.2.1,t.2.2.2.2.1+1))
theorem qL (a b):kW a b=(do
 liftM (rule "list.sort.merge-hi")
 let p <- elem' a (a.size - 1)
 if (a.size - 1 == 0)=true then pure (Fz a b #[p] (a.size - 1) b.size)
 else if (b.size == 1)=true then pure (Dy a b #[p] (a.size - 1) b.size)
 else do
  let st <- get
  let s <- forIn [:a.size+b.size] ((none,a.size - 1,b.size,#[p],gallopOf st):Cm) λ_ c=>jv a b c
  match s.1 with
  | some r=>pure r
  | none=>liftM (unsupported (α:=Array Keyed) "internal:list.sort.merge-bound")):=by
 unfold kW
 walk_at "dl mergeHi"
 dsimp only
 refine congrArg _ (funext λ_=>?_)
 refine congrArg _ (funext λp=>?_)
 refine congrArg _ (congrArg _ ?_)
 refine congrArg _ (funext λst=>?_)
 have h1:∀ (c:Cm),jv a b c=jv a b c:=λ_=>rfl
 have e:∀ (f g:Nat->Cm->StateT SortSt Sem (ForInStep Cm)) (c:Cm) (k:Cm->StateT SortSt Sem (Array Keyed)),f=g->(forIn [:a.size+b.size] c f >>= k)=(forIn [:a.size+b.size] c g >>= k):=λ_ _ _ _ h=>by rw [h]
 refine (e _ _ _ _ (funext λ_=>funext λc=>?_)).trans (congrArg _ (funext λs=>?_))
 ·obtain ⟨o,na,nb,out,mg⟩:=c
  unfold jv
  dsimp only
  have e2:∀ (f g:Nat->HG->StateT SortSt Sem (ForInStep HG)) (c:HG) (k l:HG->StateT SortSt Sem (ForInStep Cm)),f=g->k=l->(forIn [:a.size+b.size] c f >>= k)=(forIn [:a.size+b.size] c g >>= l):=λ_ _ _ _ _ h h2=>by rw [h,h2]
  refine e2 _ _ _ _ _ (funext λ_=>funext λc=>?_) (funext λs=>?_)
  ·rfl
  ·obtain ⟨o,na,nb,out,ac,bc⟩:=s
   cases o with
   | some r=>rfl
   | none =>
    dsimp only
    refine congrArg _ (funext λ_=>?_)
    have e3:∀ (f g:Nat->Ak->StateT SortSt Sem (ForInStep Ak)) (c:Ak) (k l:Ak->StateT SortSt Sem (ForInStep Cm)),f=g->k=l->(forIn [:a.size+b.size] c f >>= k)=(forIn [:a.size+b.size] c g >>= l):=λ_ _ _ _ _ h h2=>by rw [h,h2]
    refine e3 _ _ _ _ _ (funext λ_=>funext λc=>?_) (funext λs=>?_)
    ·rfl
    ·obtain ⟨o,s⟩:=s
     cases o <;> rfl
 ·obtain ⟨o,s⟩:=s
  cases o <;> rfl
def Dz (rk:Keyed->Int) (a b:Array Keyed) (n:Nat) (o:Option (Array Keyed)) (na nb:Nat) (out:Array Keyed):Prop:=(∃ r,o=some r/\Res rk a b r)\/(o=none/\gX rk a b out na nb/\na+nb<=n)
noncomputable def DA (rk:Keyed->Int) (a b:Array Keyed) (n:Nat):ForInStep Ak->Prop
 | .done c=>Dz rk a b n c.1 c.2.1 c.2.2.1 c.2.2.2.1
 | .yield c=>c.1=none/\gX rk a b c.2.2.2.1 c.2.1 c.2.2.1/\c.2.1+c.2.2.1<=n
theorem ng {st:SortSt} (W:WH rk a b out na nb) (ua:Up rk a) (ub:Up rk b) (la:1<=na) (lb:2<=nb) (ep:a[na - 1]?=some p)
 (hl:∀ (j:Nat) (r:Keyed),j<nb->b[j]?=some r->rk r<=rk p) (hn:na - 1+nb<=n) (hQ:∀ x,DA rk a b n x->Q x st):wpS (model prog w) A E s (vg a b mg ac bc na nb out) Q st:=by
 unfold vg
 have W4:=W.gc ua la ep hl
 refine Ou (aU ep ?_)
 by_cases e9:na - 1=0
 ·rw [if_pos (by simpa using e9)]
  exact Ov (hQ _ (.inl ⟨_,rfl,W4.ju ub e9⟩))
 rw [if_neg (by simpa using e9)]
 have hL:gX rk a b (out.push p) (na - 1) nb:=⟨W4,Ur.mpr e9,lb⟩
 split
 ·exact Ov (hQ _ (.inr ⟨rfl,hL,hn⟩))
 ·exact Ov (hQ _ ⟨rfl,hL,hn⟩)
theorem nh {st:SortSt} (hC:iH prog w A s κ rk L) (hk:kindOf st=κ) (ma:∀ (i:Nat) (p:Keyed),a[i]?=some p->p∈L) (mb:∀ (i:Nat) (p:Keyed),b[i]?=some p->p∈L)
 (fB:∀ {out:Array Keyed} {na nb:Nat},WH rk a b out na nb->nb=1->Res rk a b (Dy a b out na nb)) (W:WH rk a b out na nb) (ua:Up rk a) (ub:Up rk b) (la:1<=na) (lb:2<=nb) (eq:b[nb - 1]?=some q)
 (hl:∀ (j:Nat) (r:Keyed),j<na->a[j]?=some r->rk r<=rk q) (hn:na+nb<=n+2) (hQ:∀ x,DA rk a b n x->Q x st):wpS (model prog w) A E s (vh a b mg ac bc na nb out) Q st:=by
 unfold vh
 have W2:=W.f9 ub (Nat.le_of_succ_le lb) eq hl
 have hpa:=W.pa
 have hpb:=W.pb
 refine Ou (aU eq ?_)
 by_cases e5:nb - 1=1
 ·rw [if_pos (by simpa using e5)]
  exact Ov (hQ _ (.inl ⟨_,rfl,fB W2 e5⟩))
 rw [if_neg (by simpa using e5)]
 have lb1:2<=nb - 1:=by lia
 obtain ⟨p,ep⟩:=some_at (xs:=a) (i:=na - 1) (by lia)
 refine Ou (aU ep ?_)
 refine Ou (qH hC hk (ma _ _ ep) mb ub _ (by lia) (by lia) λk hj1 hj2 hj3=>?_)
 dsimp only
 have dn2:∀ (i:Nat) (r:Keyed),i<k->b[i]?=some r->rk r<rk p:=λi r z1 e6=>hj2 i r z1 (by rw [QS]; exact e6)
 by_cases hj0:nb - 1 - k>0
 ·rw [if_pos hj0]
  have W3:=W2.qE ub (nb - 1 - k) k (UB hj1) λi j r p' z1 z2 z3 e6 e7=>O2 (ua j (na - 1) p' p (SW z3) e7 ep) (hj3 i r z1 (Nat.add_lt_add_left z2 0) (by rw [QS]; exact e6))
  by_cases e8:k=1
  ·rw [if_pos (by simpa using e8)]
   exact Ov (hQ _ (.inl ⟨_,rfl,fB W3 e8⟩))
  rw [if_neg (by simpa using e8)]
  by_cases e10:k=0
  ·rw [if_pos (by simpa using e10)]
   exact Ov (hQ _ (.inl ⟨_,rfl,W3.jr ua e10⟩))
  rw [if_neg (by simpa using e10)]
  exact ng W3 ua ub la (by lia) ep (λj r hj e6=>QE (dn2 j r hj e6)) (by lia) hQ
 ·rw [if_neg hj0]
  exact ng W2 ua ub la lb1 ep (λj r hj e6=>QE (dn2 j r (by lia) e6)) (by lia) hQ
theorem ni {st:SortSt} (hC:iH prog w A s κ rk L) (hk:kindOf st=κ) (ma:∀ (i:Nat) (p:Keyed),a[i]?=some p->p∈L) (mb:∀ (i:Nat) (p:Keyed),b[i]?=some p->p∈L)
 (fB:∀ {out:Array Keyed} {na nb:Nat},WH rk a b out na nb->nb=1->Res rk a b (Dy a b out na nb)) (ua:Up rk a) (ub:Up rk b) (hL:gX rk a b out na nb) (hn:na+nb<=n) (hQ:∀ x st',cZ st st'->DA rk a b n x->Q x st') :
 wpS (model prog w) A E s (vj a b mg ac bc na nb out) Q st:=by
 unfold vj
 have W:=hL.w
 have la:=hL.la
 have lb:=hL.lb
 have hpa:=W.pa
 have hpb:=W.pb
 obtain ⟨q,eq⟩:=some_at (xs:=b) (i:=nb - 1) (by lia)
 refine Ou (fM ?_)
 have F9:=λx=>hQ x _ ((cZ.refl st).min mg)
 refine Ou (aU eq ?_)
 refine Ou (qG hC (by exact hk) (mb _ _ eq) ma ua _ (by lia) (by lia) λk hk1 hk2 hk3=>?_)
 dsimp only
 have dn1:∀ (i:Nat) (p:Keyed),i<k->a[i]?=some p->rk p<=rk q:=λi p z1 e3=>hk2 i p z1 (by rw [QS]; exact e3)
 by_cases hk0:na - k>0
 ·rw [if_pos hk0]
  have Wk:=W.qD ua (na - k) k (UB hk1) λi j p r z1 z2 z3 e3 e4=>O2 (ub j (nb - 1) r q (SW z3) e4 eq) (QE (hk3 i p z1 (Nat.add_lt_add_left z2 0) (by rw [QS]; exact e3)))
  by_cases e4:k=0
  ·rw [if_pos (by simpa using e4)]
   exact Ov (F9 _ (.inl ⟨_,rfl,Wk.ju ub e4⟩))
  rw [if_neg (by simpa using e4)]
  exact nh hC (by exact hk) ma mb fB Wk ua ub (Ur.mpr e4) lb eq dn1 (by lia) F9
 ·rw [if_neg hk0]
  exact nh hC (by exact hk) ma mb fB W ua ub la lb eq (λj r hj e3=>dn1 j r (by lia) e3) (by lia) F9
theorem xm {st:SortSt} (hC:iH prog w A s κ rk L) (hk:kindOf st=κ) (ma:∀ (i:Nat) (p:Keyed),a[i]?=some p->p∈L) (mb:∀ (i:Nat) (p:Keyed),b[i]?=some p->p∈L)
 (fB:∀ {out:Array Keyed} {na nb:Nat},WH rk a b out na nb->nb=1->Res rk a b (Dy a b out na nb)) (ua:Up rk a) (ub:Up rk b) (hL:gX rk a b c.2.2.2.1 c.2.1 c.2.2.1) (hn:c.2.1+c.2.2.1<=n+1)
 (hQ:∀ o na nb out z y,Dz rk a b n o na nb out->Q (.done (o,na,nb,out,z)) st/\(o=none->Q (.yield (none,na,nb,out,y)) st)):wpS (model prog w) A E s (Am a b mg c) Q st:=by
 obtain ⟨_,na,nb,out,ac,bc⟩:=c
 unfold Am
 dsimp only at hL hn |-
 have W:=hL.w
 have la:=hL.la
 have lb:=hL.lb
 have hpa:=W.pa
 have hpb:=W.pb
 obtain ⟨q,eq⟩:=some_at (xs:=b) (i:=nb - 1) (by lia)
 obtain ⟨p,ep⟩:=some_at (xs:=a) (i:=na - 1) (by lia)
 refine Ou (aU eq (Ou (aU ep (Ou (kP hC hk (mb _ _ eq) (ma _ _ ep) ?_)))))
 dsimp only
 by_cases hw:rk q<rk p
 ·rw [decide_eq_true hw,if_pos rfl]
  have W1:=W.gc ua la ep λj r hj e=>O2 (ub j (nb - 1) r q (SW hj) e eq) (QE hw)
  refine Ou (aU ep ?_)
  by_cases e3:na - 1=0
  ·rw [if_pos (by simpa using e3)]
   exact Ov (hQ _ _ _ _ _ (0,0) (.inl ⟨_,rfl,W1.ju ub e3⟩)).1
  rw [if_neg (by simpa using e3)]
  have z:=hQ none (na - 1) nb (out.push p) (ac+1,0) (ac+1,0) (.inr ⟨rfl,⟨W1,Ur.mpr e3,lb⟩,by lia⟩)
  split
  ·exact Ov z.1
  ·exact Ov (z.2 rfl)
 ·rw [decide_eq_false hw,if_neg OC]
  have W1:=W.f9 ub (Nat.le_of_succ_le lb) eq λj r hj e=>O2 (ua j (na - 1) r p (SW hj) e ep) (Int.not_lt.mp hw)
  refine Ou (aU eq ?_)
  by_cases e3:nb - 1=1
  ·rw [if_pos (by simpa using e3)]
   exact Ov (hQ _ _ _ _ _ (0,0) (.inl ⟨_,rfl,fB W1 e3⟩)).1
  rw [if_neg (by simpa using e3)]
  have z:=hQ none na (nb - 1) (out.push q) (0,bc+1) (0,bc+1) (.inr ⟨rfl,⟨W1,la,by lia⟩,by lia⟩)
  split
  ·exact Ov z.1
  ·exact Ov (z.2 rfl)
theorem sX {st:SortSt} (hC:iH prog w A s κ rk L) (hk:kindOf st=κ) (ma:∀ (i:Nat) (p:Keyed),a[i]?=some p->p∈L) (mb:∀ (i:Nat) (p:Keyed),b[i]?=some p->p∈L)
 (fB:∀ {out:Array Keyed} {na nb:Nat},WH rk a b out na nb->nb=1->Res rk a b (Dy a b out na nb)) (ua:Up rk a) (ub:Up rk b) (hL:gX rk a b c.2.2.2.1 c.2.1 c.2.2.1) (hn:c.2.1+c.2.2.1<=n+1) (hm:n+1<=a.size+b.size)
 (h1:∀ r z st',cZ st st'->Res rk a b r->Q (.done (some r,z)) st') (h2:∀ na nb out g st',cZ st st'->gX rk a b out na nb->na+nb<=n->Q (.yield (none,na,nb,out,g)) st'):wpS (model prog w) A E s (jv a b c) Q st:=by
 unfold jv
 refine Ou (O6 (PF (I:=λy c st'=>st'=st/\c.1=none/\gX rk a b c.2.2.2.1 c.2.1 c.2.2.1/\y+c.2.1+c.2.2.1<=n+1) (Q:=λc st'=>st'=st/\Dz rk a b n c.1 c.2.1 c.2.2.1 c.2.2.2.1) ?step ?fin ⟨rfl,rfl,hL,by dsimp only; lia⟩) ?post)
 case fin =>
  rintro c st' ⟨rfl,hc,hL',hx⟩
  exact ⟨rfl,.inr ⟨hc,hL',by lia⟩⟩
 case step =>
  rintro y c st' _ hy ⟨rfl,_,hL',hx⟩
  refine xm (n:=n - y) hC hk ma mb fB ua ub hL' (by have:=hL'.la; have:=hL'.lb; lia) λo na nb out z y hR=>⟨?_,?_⟩
  ·refine ⟨rfl,?_⟩
   rcases hR with hR | ⟨q1,q2,q3⟩
   ·exact .inl hR
   ·exact .inr ⟨q1,q2,by dsimp only; lia⟩
  ·rintro rfl
   rcases hR with ⟨_,q,_⟩ | ⟨q1,q2,q3⟩
   ·cases q
   ·exact ⟨rfl,rfl,q2,by have:=q2.la; have:=q2.lb; dsimp only; lia⟩
 case post =>
  rintro ⟨o,na,nb,out,ac,bc⟩ st' ⟨rfl,hR⟩
  dsimp only at hR |-
  rcases hR with ⟨r,rfl,hr⟩ | ⟨rfl,hL2,hn2⟩
  ·exact Ov (h1 r _ _ (.refl _) hr)
  refine Ou (QW (Pw ⟨rfl,?_⟩))
  refine Ou (O6 (PF (I:=λy c st''=>cZ st' st''/\c.1=none/\gX rk a b c.2.2.2.1 c.2.1 c.2.2.1/\c.2.1+c.2.2.1<=n) (Q:=λc st''=>cZ st' st''/\Dz rk a b n c.1 c.2.1 c.2.2.1 c.2.2.2.1) ?gstep ?gfin ⟨.refl _,rfl,hL2,hn2⟩) ?gpost)
  case gfin=>exact λc st'' ⟨q1,q2,q3,q4⟩=>⟨q1,.inr ⟨q2,q3,q4⟩⟩
  case gstep =>
   rintro y c st'' _ _ ⟨q1,q2,q3,q4⟩
   have key:wpS (model prog w) A E s (Al a b c) (λx st3=>cZ st'' st3/\DA rk a b n x) st'':=by
    unfold Al
    split
    ·exact ni hC (q1.k.trans hk) ma mb fB ua ub q3 q4 λx st3 k h=>⟨k,h⟩
    ·exact ni hC (q1.k.trans hk) ma mb fB ua ub q3 q4 λx st3 k h=>⟨k,h⟩
   refine O6 key λx st3 ⟨k,h⟩=>?_
   cases x with
   | done c=>exact ⟨q1.trans k,h⟩
   | yield c=>exact ⟨q1.trans k,h⟩
  case gpost =>
   rintro ⟨o,na,nb,out,g,ac,bc⟩ st'' ⟨q1,hR⟩
   dsimp only at hR |-
   rcases hR with ⟨r,rfl,hr⟩ | ⟨rfl,hL3,hn3⟩
   ·exact Ov (h1 r _ _ q1 hr)
   ·exact Ou (fM (Ov (h2 _ _ _ _ _ (q1.min _) hL3 hn3)))
theorem qM {st:SortSt} (hC:iH prog w A s κ rk L) (hk:kindOf st=κ) (ma:∀ (i:Nat) (p:Keyed),a[i]?=some p->p∈L) (mb:∀ (i:Nat) (p:Keyed),b[i]?=some p->p∈L) (ua:Up rk a) (ub:Up rk b) (na1:1<=a.size) (nb1:1<=b.size)
 (h0:∀ p q,a[0]?=some p->b[0]?=some q->rk q<=rk p) (hl:∀ (j:Nat) (p q:Keyed),a[a.size - 1]?=some p->b[j]?=some q->rk q<=rk p) (h:∀ r st',Res rk a b r->cZ st st'->Q r st'):wpS (model prog w) A E s (kW a b) Q st:=by
 obtain ⟨p0,ep0⟩:=some_at (xs:=a) (i:=0) na1
 have firstB:∀ {out:Array Keyed} {na nb:Nat},WH rk a b out na nb->nb=1->Res rk a b (Dy a b out na nb):=λhw e=>hw.first ua e λj p q e1 e2=>O2 (h0 p0 q ep0 e2) (ua 0 j p0 p (OV _) ep0 e1)
 obtain ⟨pl,epl⟩:=some_at (xs:=a) (i:=a.size - 1) (by lia)
 have W0:WH rk a b #[pl] (a.size - 1) b.size:=by
  have z:WH rk a b #[] a.size b.size:=⟨Ot _,Ot _,by simp,R6,by simp,by simp⟩
  exact z.gc ua na1 epl λj q _ e=>hl j pl q epl e
 rw [qL]
 refine Ou (QW (Pw ⟨rfl,?_⟩))
 refine Ou (aU epl ?_)
 by_cases e1:a.size - 1=0
 ·rw [if_pos (by simpa using e1)]
  exact Ov (h _ _ (W0.ju ub e1) (.refl _))
 rw [if_neg (by simpa using e1)]
 by_cases e2:b.size=1
 ·rw [if_pos (by simpa using e2)]
  exact Ov (h _ _ (firstB W0 e2) (.refl _))
 rw [if_neg (by simpa using e2)]
 refine Ou (Qd ?_)
 refine Ou (O6 (PF (I:=λx c st'=>cZ st st'/\c.1=none/\gX rk a b c.2.2.2.1 c.2.1 c.2.2.1/\x+c.2.1+c.2.2.1<a.size+b.size) (Q:=λc st'=>cZ st st'/\∃ r,c.1=some r/\Res rk a b r) ?step ?fin ⟨.refl _,rfl,⟨W0,by dsimp only; lia,by dsimp only; lia⟩,by dsimp only; lia⟩) ?post)
 case fin =>
  rintro c st' ⟨hK,hc,hL,hx⟩
  have h1:=hL.la
  lia
 case post =>
  rintro c st' ⟨hK,r,hc,hr⟩
  rw [hc]
  exact Ov (h r st' hr hK)
 case step =>
  rintro x c st1 _ hx ⟨hK,_,hL,hn⟩
  have l1:=hL.la
  have l2:=hL.lb
  exact sX (n:=a.size+b.size - x - 2) hC (hK.k.trans hk) ma mb firstB ua ub hL (by lia) (by lia) (λr z st' k hr=>⟨hK.trans k,r,rfl,hr⟩) λna nb out g st' k q1 q2=>⟨hK.trans k,rfl,q1,by have:=q1.la; dsimp only; lia⟩
def Seg (rk:Keyed->Int) (xs:Array Keyed) (lo hi:Nat):Prop:=∀ i j,lo<=i->i<=j->j<hi->R rk xs i<=R rk xs j
def FA (rk:Keyed->Int) (xs:Array Keyed) (lo hi:Nat):Prop:=∀ i j,lo<=i->i<=j->j<hi->R rk xs j<=R rk xs i
structure Bs (κ:SortKind) (L:List Keyed) (st:SortSt):Prop where
 perm:(arrOf st).toList.Perm L
 kind:kindOf st=κ
 failed:failedOf st=none
structure Mv (st st':SortSt) (lo hi:Nat):Prop where
 out:∀ i,i<lo\/hi<=i->(arrOf st')[i]?=(arrOf st)[i]?
 pend:pendingOf st'=pendingOf st
section
variable {st st' st'':SortSt} {lo hi:Nat}
theorem Bs.size (h:Bs κ L st):(arrOf st).size=L.length:=by simpa using h.perm.length_eq
theorem Bs.at (h:Bs κ L st) (hi:i<L.length):∃ p,(arrOf st)[i]?=some p/\p∈L:=by
 have hs:=h.size
 refine ⟨(arrOf st)[i]'(by lia),OX _,h.perm.mem_iff.mp ?_⟩
 rw [Uz]; exact UW _
theorem Bs.arr (h:Bs κ L st) (hp:xs.toList.Perm (arrOf st).toList):Bs κ L (setArr st xs):=⟨hp.trans h.perm,h.kind,h.failed⟩
theorem Mv.refl:Mv st st lo hi:=⟨λ_ _=>rfl,rfl⟩
theorem Mv.trans (a:Mv st st' lo hi) (b:Mv st' st'' lo hi):Mv st st'' lo hi:=⟨λi h=>(b.out i h).trans (a.out i h),b.pend.trans a.pend⟩
theorem An (hj:j<=xs.size) (k):R rk (mirror xs i j ((j - i) / 2)) k=if i<=k/\k<j then R rk xs (i+j - 1 - k) else R rk xs k:=by
 have e:=getElem?_mirror_all (i:=i) hj k
 by_cases h:i<=k/\k<j
 ·rw [if_pos h] at e |-; exact cA e
 ·rw [if_neg h] at e |-; exact cA e
theorem kX (hj:j<=(arrOf st).size) (h1:lo<=i) (h2:j<=hi):Mv st (setArr st (mirror (arrOf st) i j ((j - i) / 2))) lo hi :=
 ⟨λk hk=>by
   have e:=getElem?_mirror_all (i:=i) hj k
   rw [if_neg (by lia)] at e; exact e,rfl⟩
theorem DB (i) (xs):Seg rk xs i (i+1):=λa b h1 h2 h3=>by
 have:a=b:=by lia
 subst this; exact PR _
theorem Ao (h:Seg rk xs lo (lo+n)) (hn:1<=n) (hl:¬ R rk xs (lo+n)<R rk xs (lo+n - 1)):Seg rk xs lo (lo+(n+1)):=λa b h1 h2 h3=>by
 by_cases hb:b<lo+n
 ·exact h a b h1 h2 hb
 ·have e:b=lo+n:=by lia
  subst e
  by_cases ha:a=lo+n
  ·subst ha; exact PR _
  ·exact O2 (h a (lo+n - 1) h1 (by lia) (by lia)) (Int.not_lt.mp hl)
theorem gh (h:FA rk xs lo (lo+n)) (hn:1<=n) (hl:R rk xs (lo+n)<=R rk xs (lo+n - 1)):FA rk xs lo (lo+(n+1)):=λa b h1 h2 h3=>by
 by_cases hb:b<lo+n
 ·exact h a b h1 h2 hb
 ·have e:b=lo+n:=by lia
  subst e
  by_cases ha:a=lo+n
  ·subst ha; exact PR _
  ·exact O2 hl (h a (lo+n - 1) h1 (by lia) (by lia))
end
section
variable {st:SortSt} {lo nrem:Nat}
theorem kY (hC:iH prog w A s κ rk L) (hB:Bs κ L st) (hi:i<L.length) (hj:j<L.length) (h:Q (some (decide (R rk (arrOf st) i<R rk (arrOf st) j))) st):wpS (model prog w) A E s (ltAt' i j) Q st:=by
 obtain ⟨p,ep,hp⟩:=hB.at hi
 obtain ⟨q,eq,hq⟩:=hB.at hj
 exact xh hC hB.kind ep eq hp hq h
theorem eU (h:Q () (setArr st (mirror (arrOf st) i j ((j - i) / 2)))):wpS (model prog w) A E s (reverseSlice' i j) Q st :=
 Qq (f:=λs=>setArr s (mirror (arrOf s) i j ((j - i) / 2))) h
noncomputable abbrev KQ:=Option (Option Nat)×Nat
noncomputable def asc (lo a nrem:Nat):StateT SortSt Sem KQ :=
 forIn [a:nrem] ((none,a):KQ) λ_ c=>ltAt' (lo+c.2) (lo+c.2 - 1) >>= λx=>match x with
  | some smaller=>if smaller=true then pure (P9 (none,c.2)) else pure (Po (none,c.2+1))
  | _=>pure (P9 (some none,c.2))
theorem vm (hC:iH prog w A s κ rk L) (hB:Bs κ L st) (hn:lo+nrem<=L.length) (h1:1<=a) (h2:a<=nrem) (hs:Seg rk (arrOf st) lo (lo+a))
 (h:∀ n,a<=n->n<=nrem->Seg rk (arrOf st) lo (lo+n)->(n=nrem\/R rk (arrOf st) (lo+n)<R rk (arrOf st) (lo+n - 1))->Q (none,n) st):wpS (model prog w) A E s (asc lo a nrem) Q st:=by
 unfold asc
 refine PF (I:=λx c st'=>st'=st/\c=(none,x)/\Seg rk (arrOf st) lo (lo+x)) ?step ?fin ⟨rfl,rfl,hs⟩
 case fin =>
  rintro c st' ⟨rfl,rfl,hs'⟩
  rw [show max a nrem=nrem by lia] at hs' |-
  exact h nrem h2 (Ot _) hs' (.inl rfl)
 case step =>
  rintro x c st' hax hxn ⟨rfl,rfl,hs'⟩
  refine Ou (kY hC hB (by dsimp only; lia) (by dsimp only; lia) ?_)
  dsimp only
  by_cases hl:R rk (arrOf st') (lo+x)<R rk (arrOf st') (lo+x - 1)
  ·rw [decide_eq_true hl,if_pos rfl]
   exact Ov (h x hax (by lia) hs' (.inr hl))
  ·rw [decide_eq_false hl,if_neg OC]
   exact Ov ⟨rfl,rfl,Ao hs' (by lia) hl⟩
noncomputable abbrev KR:=Option (Option Nat)×Nat×Nat
noncomputable def KS (lo n nrem:Nat):StateT SortSt Sem KR :=
 forIn [n:nrem] ((none,n,0):KR) λ_ c=>ltAt' (lo+c.2.1) (lo+c.2.1 - 1) >>= λx=>match x with
  | some smaller=>if smaller=true then
   (if c.2.2>0 then reverseSlice' (lo+c.2.1 - (c.2.2+1)) (lo+c.2.1) >>= λ_=>pure (Po (none,c.2.1+1,0)) else pure (Po (none,c.2.1+1,0)))
   else ltAt' (lo+c.2.1 - 1) (lo+c.2.1) >>= λy=>match y with
    | some larger=>if larger=true then pure (P9 (none,c.2.1,c.2.2)) else pure (Po (none,c.2.1+1,c.2.2+1))
    | _=>pure (P9 (some none,c.2.1,c.2.2))
  | _=>pure (P9 (some none,c.2.1,c.2.2))
theorem iY (hj:j<=xs.size) (he:∀ k,i<=k->k<j->R rk xs k=R rk xs (j - 1)) (k):R rk (mirror xs i j ((j - i) / 2)) k=R rk xs k:=by
 rw [An hj]
 split
 ·rw [he _ (by lia) (by lia),he k (by lia) (by lia)]
 ·rfl
theorem DC (hC:iH prog w A s κ rk L) (hB:Bs κ L st) (hn:lo+nrem<=L.length) (h1:1<=n) (h2:n<=nrem) (hs:FA rk (arrOf st) lo (lo+n))
 (h:∀ m neq st',Bs κ L st'->Mv st st' lo (lo+nrem)->n<=m->m<=nrem->FA rk (arrOf st') lo (lo+m)->neq+1<=m->(∀ i,lo+m - (neq+1)<=i->i<lo+m->R rk (arrOf st') i=R rk (arrOf st') (lo+m - 1))->Q (none,m,neq) st') :
 wpS (model prog w) A E s (KS lo n nrem) Q st:=by
 unfold KS
 refine PF (I:=λx c st'=>∃ neq,c=(none,x,neq)/\Bs κ L st'/\Mv st st' lo (lo+nrem)/\FA rk (arrOf st') lo (lo+x)/\neq+1<=x/\(∀ i,lo+x - (neq+1)<=i->i<lo+x->R rk (arrOf st') i=R rk (arrOf st') (lo+x - 1))) ?step ?fin
  ⟨0,rfl,hB,.refl,hs,h1,λi a1 a2=>by congr 1; lia⟩
 case fin =>
  rintro c st' ⟨neq,rfl,jH,hM',hs',hq,he⟩
  rw [show max n nrem=nrem by lia] at hs' hq he |-
  exact h nrem neq st' jH hM' h2 (Ot _) hs' hq he
 case step =>
  rintro x c st' hax hxn ⟨neq,rfl,jH,hM',hs',hq,he⟩
  have hsz:=jH.size
  refine Ou (kY hC jH (by dsimp only; lia) (by dsimp only; lia) ?_)
  dsimp only
  by_cases hl:R rk (arrOf st') (lo+x)<R rk (arrOf st') (lo+x - 1)
  ·rw [decide_eq_true hl,if_pos rfl]
   by_cases hq0:neq>0
   ·rw [if_pos hq0]
    have key:=iY (rk:=rk) (xs:=arrOf st') (i:=lo+x - (neq+1)) (j:=lo+x) (by lia) he
    refine Ou (eU (Ov ⟨0,rfl,jH.arr (Rw.mp (Sn _ _ _ _)),hM'.trans (kX (by lia) (by lia) (by lia)),?_,by lia,λi a1 a2=>by congr 1; lia⟩))
    refine gh (λa b z1 z2 z3=>?_) (by lia) ?_
    ·show R rk (mirror _ _ _ _) b<=R rk (mirror _ _ _ _) a
     rw [key,key]; exact hs' a b z1 z2 z3
    ·show R rk (mirror _ _ _ _) _<=R rk (mirror _ _ _ _) _
     rw [key,key]; lia
   ·rw [if_neg hq0]
    exact Ov ⟨0,rfl,jH,hM',gh hs' (by lia) (by lia),by lia,λi a1 a2=>by congr 1; lia⟩
  ·rw [decide_eq_false hl,if_neg OC]
   refine Ou (kY hC jH (by lia) (by lia) ?_)
   dsimp only
   by_cases hg:R rk (arrOf st') (lo+x - 1)<R rk (arrOf st') (lo+x)
   ·rw [decide_eq_true hg,if_pos rfl]
    exact Ov (h x neq st' jH hM' hax (by lia) hs' hq he)
   ·rw [decide_eq_false hg,if_neg OC]
    have heq:R rk (arrOf st') (lo+x)=R rk (arrOf st') (lo+x - 1):=by lia
    refine Ov ⟨neq+1,rfl,jH,hM',gh hs' (by lia) (by lia),by lia,λi a1 a2=>?_⟩
    rw [show lo+(x+1) - 1=lo+x by lia]
    by_cases hi:i=lo+x
    ·rw [hi]
    ·rw [heq]; exact he i (by lia) (by lia)
noncomputable def countRun':Nat->Nat->StateT SortSt Sem (Option Nat):=sortPriv% PySem.Builtin.countRun
theorem iZ {Q:Option Nat->SortSt->Prop} (hC:iH prog w A s κ rk L) (hB:Bs κ L st) (hn:lo+nrem<=L.length) (h1:1<=n) (h2:n<=nrem) (hs:FA rk (arrOf st) lo (lo+n))
 (h:∀ m st',Bs κ L st'->Mv st st' lo (lo+nrem)->1<=m->m<=nrem->Seg rk (arrOf st') lo (lo+m)->Q (some m) st') :
 wpS (model prog w) A E s (asc lo n nrem) (λc st'=>c.1=none/\Q (some c.2) st') (setArr st (mirror (arrOf st) lo (lo+n) ((lo+n - lo) / 2))):=by
 have hsz:=hB.size
 have jH:=hB.arr (Rw.mp (Sn (arrOf st) lo (lo+n) ((lo+n - lo) / 2)))
 refine vm hC jH hn h1 h2 (λa b z1 z2 z3=>?_) λm m1 m2 ms _=>⟨rfl,h m _ jH (kX (by lia) (Ot _) (by lia)) (by lia) m2 ms⟩
 show R rk (mirror _ _ _ _) a<=R rk (mirror _ _ _ _) b
 rw [An (by lia),An (by lia),if_pos (by lia),if_pos (by lia)]
 exact hs _ _ (by lia) (by lia) (by lia)
local macro_rules | `(tactic| walk_at "dl countRun")=>do
 let i:=Ri (QZ `PySem.Builtin.List.W1All `PySem.Builtin.countRun)
 `(tactic| delta $i)
theorem wpS_countRun (hC:iH prog w A s κ rk L) (hB:Bs κ L st) (hn:lo+nrem<=L.length) (h1:1<=nrem)
 (h:∀ m st',Bs κ L st'->Mv st st' lo (lo+nrem)->1<=m->m<=nrem->Seg rk (arrOf st') lo (lo+m)->Q (some m) st'):wpS (model prog w) A E s (countRun' lo nrem) Q st:=by
 unfold countRun'
 walk_at "dl countRun"
 dsimp only
 have hsz:=hB.size
 refine Ou (show wpS _ _ _ _ (asc lo 1 nrem) _ _ from vm hC hB hn (Ot _) h1 (DB lo _) λn n1 n2 ns nor=>?_)
 dsimp only
 by_cases hnn:n=nrem
 ·rw [if_pos (by simpa using hnn)]
  exact Ov (h n st hB .refl n1 n2 ns)
 rw [if_neg (by simpa using hnn)]
 have hlt:=nor.resolve_left hnn
 have rest:∀ (st1:SortSt),Bs κ L st1->Mv st st1 lo (lo+nrem)->FA rk (arrOf st1) lo (lo+(n+1))->wpS (model prog w) A E s (KS lo (n+1) nrem) (λc st2=>Bs κ L st2/\Mv st st2 lo (lo+nrem)/\c.1=none/\n+1<=c.2.1/\c.2.1<=nrem/\FA rk (arrOf st2) lo (lo+c.2.1)/\c.2.2+1<=c.2.1/\(∀ i,lo+c.2.1 - (c.2.2+1)<=i->i<lo+c.2.1->R rk (arrOf st2) i=R rk (arrOf st2) (lo+c.2.1 - 1))) st1 :=
  λst1 hB1 hM1 hs1=>DC hC hB1 hn (by lia) (by lia) hs1 λm neq st2 a1 a2 a3 a4 a5 a6 a7=>⟨a1,hM1.trans a2,rfl,a3,a4,a5,a6,a7⟩
 by_cases hgt:n>1
 ·rw [if_pos hgt]
  refine Ou (kY hC hB (by lia) (by lia) ?_)
  dsimp only
  by_cases hrose:R rk (arrOf st) lo<R rk (arrOf st) (lo+n - 1)
  ·rw [decide_eq_true hrose,if_pos rfl]
   exact Ov (h n st hB .refl n1 n2 ns)
  ·rw [decide_eq_false hrose,if_neg OC]
   have hall:∀ k,lo<=k->k<lo+n->R rk (arrOf st) k=R rk (arrOf st) (lo+n - 1):=λk z1 z2=>by
    have a1:=ns lo k (Ot _) z1 z2
    have a2:=ns k (lo+n - 1) z1 (by lia) (by lia)
    lia
   have key:=iY (rk:=rk) (xs:=arrOf st) (i:=lo) (j:=lo+n) (by lia) hall
   refine Ou (eU ?_)
   refine Ou (QW (Pw ⟨rfl,?_⟩))
   refine Ou (O6 (show wpS _ _ _ _ (KS lo (n+1) nrem) _ _ from rest _ (hB.arr (Rw.mp (Sn _ _ _ _))) (kX (by lia) (Ot _) (by lia)) (gh (λa b z1 z2 z3=>?_) (by lia) ?_)) λc st2 hc=>?_)
   ·show R rk (mirror _ _ _ _) b<=R rk (mirror _ _ _ _) a
    rw [key,key,hall b (by lia) z3,hall a z1 (by lia)]; exact PR _
   ·show R rk (mirror _ _ _ _) _<=R rk (mirror _ _ _ _) _
    rw [key,key]; lia
   ·obtain ⟨r,m,neq⟩:=c
    obtain ⟨b1,b2,b3,b4,b5,b6,b7,b8⟩:=hc
    dsimp only at b3 b4 b5 b6 b7 b8 |-
    rw [b3]
    dsimp only
    by_cases hq0:neq>0
    ·rw [if_pos hq0]
     have hsz2:=b1.size
     have key2:=iY (rk:=rk) (xs:=arrOf st2) (i:=lo+m - (neq+1)) (j:=lo+m) (by lia) b8
     refine Ou (eU (Ou (eU (Ou (O6 (show wpS _ _ _ _ (asc lo m nrem) _ _ from iZ (Q:=Q) hC (b1.arr (Rw.mp (Sn _ _ _ _))) hn (by lia) b5 (λa b z1 z2 z3=>?_) λk st3 c1 c2 c3 c4 c5=>h k st3 c1 ((b2.trans (kX (by lia) (by lia) (by lia))).trans c2) c3 c4 c5) λc st4 hc=>?_)))))
     ·show R rk (mirror _ _ _ _) b<=R rk (mirror _ _ _ _) a
      rw [key2,key2]; exact b6 a b z1 z2 z3
     ·obtain ⟨r,k⟩:=c
      obtain ⟨e,hQ⟩:=hc
      dsimp only at e hQ |-
      rw [e]
      exact Ov hQ
    ·rw [if_neg hq0]
     refine Ou (eU (Ou (O6 (show wpS _ _ _ _ (asc lo m nrem) _ _ from iZ (Q:=Q) hC b1 hn (by lia) b5 b6 λk st3 c1 c2 c3 c4 c5=>h k st3 c1 (b2.trans c2) c3 c4 c5) λc st4 hc=>?_)))
     obtain ⟨r,k⟩:=c
     obtain ⟨e,hQ⟩:=hc
     dsimp only at e hQ |-
     rw [e]
     exact Ov hQ
 ·rw [if_neg hgt]
  have e1:n=1:=by lia
  subst e1
  refine Ou (QW (Pw ⟨rfl,?_⟩))
  refine Ou (O6 (show wpS _ _ _ _ (KS lo (1+1) nrem) _ _ from rest st hB .refl (gh (λa b z1 z2 z3=>?_) (Ot _) (QE hlt))) λc st2 hc=>?_)
  ·have:a=b:=by lia
   subst this; exact PR _
  ·obtain ⟨r,m,neq⟩:=c
   obtain ⟨b1,b2,b3,b4,b5,b6,b7,b8⟩:=hc
   dsimp only at b3 b4 b5 b6 b7 b8 |-
   rw [b3]
   dsimp only
   by_cases hq0:neq>0
   ·rw [if_pos hq0]
    have hsz2:=b1.size
    have key2:=iY (rk:=rk) (xs:=arrOf st2) (i:=lo+m - (neq+1)) (j:=lo+m) (by lia) b8
    refine Ou (eU (Ou (eU (Ou (O6 (show wpS _ _ _ _ (asc lo m nrem) _ _ from iZ (Q:=Q) hC (b1.arr (Rw.mp (Sn _ _ _ _))) hn (by lia) b5 (λa b z1 z2 z3=>?_) λk st3 c1 c2 c3 c4 c5=>h k st3 c1 ((b2.trans (kX (by lia) (by lia) (by lia))).trans c2) c3 c4 c5) λc st4 hc=>?_)))))
    ·show R rk (mirror _ _ _ _) b<=R rk (mirror _ _ _ _) a
     rw [key2,key2]; exact b6 a b z1 z2 z3
    ·obtain ⟨r,k⟩:=c
     obtain ⟨e,hQ⟩:=hc
     dsimp only at e hQ |-
     rw [e]
     exact Ov hQ
   ·rw [if_neg hq0]
    refine Ou (eU (Ou (O6 (show wpS _ _ _ _ (asc lo m nrem) _ _ from iZ (Q:=Q) hC b1 hn (by lia) b5 b6 λk st3 c1 c2 c3 c4 c5=>h k st3 c1 (b2.trans c2) c3 c4 c5) λc st4 hc=>?_)))
    obtain ⟨r,k⟩:=c
    obtain ⟨e,hQ⟩:=hc
    dsimp only at e hQ |-
    rw [e]
    exact Ov hQ
end
section
variable {st:SortSt} {lo:Nat}
theorem FD (hs:src<xs.size) (hd:d<=src) (k):R rk (bubble xs src d) k=if k=src - d then R rk xs src else if src - d<k/\k<=src then R rk xs (k - 1) else R rk xs k:=by
 have e:=getElem?_bubble hs d hd k
 by_cases h1:k=src - d
 ·rw [if_pos h1] at e |-; exact cA e
 ·rw [if_neg h1] at e |-
  by_cases h2:src - d<k/\k<=src
  ·rw [if_pos h2] at e |-; exact cA e
  ·rw [if_neg h2] at e |-; exact cA e
theorem Aq (h:Q () (setArr st (bubble (arrOf st) i (i - j)))):wpS (model prog w) A E s (moveDown' i j) Q st :=
 Qq (f:=λs=>setArr s (bubble (arrOf s) i (i - j))) h
noncomputable def binarySort':Nat->Nat->Nat->StateT SortSt Sem Bool:=sortPriv% PySem.Builtin.binarySort
local macro_rules | `(tactic| walk_at "dl binarySort")=>do
 let i:=Ri (QZ `PySem.Builtin.List.W1All `PySem.Builtin.binarySort)
 `(tactic| delta $i)
theorem wpS_binarySort (hC:iH prog w A s κ rk L) (hB:Bs κ L st) (hn:lo+n<=L.length) (hok:ok<=n) (hs:Seg rk (arrOf st) lo (lo+ok))
 (h:∀ st',Bs κ L st'->Mv st st' lo (lo+n)->Seg rk (arrOf st') lo (lo+n)->Q true st'):wpS (model prog w) A E s (binarySort' lo n ok) Q st:=by
 unfold binarySort'
 walk_at "dl binarySort"
 dsimp only
 refine Ou (O6 (PF (I:=λk c st'=>c.1=none/\Bs κ L st'/\Mv st st' lo (lo+n)/\Seg rk (arrOf st') lo (lo+min k n)) (Q:=λc st'=>c.1=none/\Bs κ L st'/\Mv st st' lo (lo+n)/\Seg rk (arrOf st') lo (lo+n)) ?step ?fin ?init) ?post)
 case post =>
  rintro ⟨c,u⟩ st' ⟨hc,jH,hM',hs'⟩
  dsimp only at hc |-
  rw [hc]
  exact Ov (h st' jH hM' hs')
 case init =>
  refine ⟨rfl,hB,.refl,λa b z1 z2 z3=>?_⟩
  by_cases h1:ok=0
  ·have:a=b:=by lia
   subst this; exact PR _
  ·exact hs a b z1 z2 (by lia)
 case fin =>
  rintro c st' ⟨hc,jH,hM',hs'⟩
  rw [show min (max (max ok 1) n) n=n by lia] at hs'
  exact ⟨hc,jH,hM',hs'⟩
 case step =>
  rintro k ⟨c,u⟩ st' hak hkn ⟨rfl,jH,hM',hs'⟩
  rw [show min k n=k by lia] at hs'
  have hsz:=jH.size
  refine Ou (O6 (PF (I:=λx c st2=>st2=st'/\∃ l r,c=(none,l,r)/\l<=r/\r<=k/\r - l<=k - x/\(∀ i,i<l->R rk (arrOf st') (lo+i)<=R rk (arrOf st') (lo+k))/\(∀ i,r<=i->i<k->R rk (arrOf st') (lo+k)<R rk (arrOf st') (lo+i)))
   (Q:=λc st2=>st2=st'/\∃ l r,c=(none,l,r)/\l<=k/\(∀ i,i<l->R rk (arrOf st') (lo+i)<=R rk (arrOf st') (lo+k))/\(∀ i,l<=i->i<k->R rk (arrOf st') (lo+k)<R rk (arrOf st') (lo+i))) ?istep ?ifin ⟨rfl,0,k,rfl,by lia,by lia,by lia,λi hi=>by lia,λi h1 h2=>by lia⟩) ?ipost)
  case ifin =>
   rintro c st2 ⟨rfl,l,r,rfl,a1,a2,a3,a4,a5⟩
   have:l=r:=by lia
   subst this
   exact ⟨rfl,l,l,rfl,a2,a4,a5⟩
  case istep =>
   rintro x c st2 _ hx ⟨rfl,l,r,rfl,a1,a2,a3,a4,a5⟩
   dsimp only
   by_cases hge:l>=r
   ·rw [if_pos hge]
    have:l=r:=by lia
    subst this
    exact Ov ⟨rfl,l,l,rfl,a2,a4,a5⟩
   ·rw [if_neg hge]
    refine Ou (kY hC jH (by lia) (by lia) ?_)
    dsimp only
    by_cases hl:R rk (arrOf st2) (lo+k)<R rk (arrOf st2) (lo+(l+r) / 2)
    ·rw [decide_eq_true hl,if_pos rfl]
     refine Ov ⟨rfl,l,(l+r) / 2,rfl,by lia,by lia,by lia,a4,λi h1 h2=>?_⟩
     exact Int.lt_of_lt_of_le hl (hs' _ _ (by lia) (by lia) (by lia))
    ·rw [decide_eq_false hl,if_neg OC]
     refine Ov ⟨rfl,(l+r) / 2+1,r,rfl,by lia,by lia,by lia,λi h1=>?_,a5⟩
     exact O2 (hs' (lo+i) (lo+(l+r) / 2) (by lia) (by lia) (by lia)) (Int.not_lt.mp hl)
  case ipost =>
   rintro c st2 ⟨rfl,l,r,rfl,hlk,a4,a5⟩
   dsimp only
   have e1:lo+k - (lo+l)=k - l:=by lia
   refine Ou (Aq (Ov ⟨rfl,jH.arr (Rw.mp (bubble_perm _ _ _)),?_,?_⟩))
   ·refine hM'.trans ⟨λi hi=>?_,rfl⟩
    have e:=getElem?_bubble (xs:=arrOf st2) (src:=lo+k) (by lia) (lo+k - (lo+l)) (by lia) i
    rw [if_neg (by lia),if_neg (by lia)] at e
    exact e
   ·rw [show min (k+1) n=k+1 by lia]
    intro i j hi hij hj
    show R rk (bubble (arrOf st2) (lo+k) (lo+k - (lo+l))) i<=R rk (bubble (arrOf st2) (lo+k) (lo+k - (lo+l))) j
    rw [FD (by lia) (by lia),FD (by lia) (by lia),e1]
    have sub:∀ i,lo<=i->lo+(i - lo)=i:=λi hi=>by lia
    have f4:∀ i,lo<=i->i<lo+l->R rk (arrOf st2) i<=R rk (arrOf st2) (lo+k):=λi h1 h2=>by have:=a4 (i - lo) (by lia); rwa [sub i h1] at this
    have f5:∀ i,lo+l<=i->i<lo+k->R rk (arrOf st2) (lo+k)<R rk (arrOf st2) i:=λi h1 h2=>by have:=a5 (i - lo) (by lia) (by lia); rwa [sub i (by lia)] at this
    repeat' split
    all_goals first
     | (exfalso; lia)
     | exact PR _
     | exact f4 _ (by lia) (by lia)
     | exact QE (f5 _ (by lia) (by lia))
     | exact hs' _ _ (by lia) (by lia) (by lia)
theorem nj:∀ (l:List Keyed) (k sa:Nat) (A:Array Keyed),sa+k+l.length<=A.size->((l.zipIdx k).foldl (λa (x:Keyed×Nat)=>a.setIfInBounds (sa+x.2) x.1) A).size=A.size /\
 ∀ i:Nat,((l.zipIdx k).foldl (λa (x:Keyed×Nat)=>a.setIfInBounds (sa+x.2) x.1) A)[i]?=if sa+k<=i/\i<sa+k+l.length then l[i - (sa+k)]? else A[i]?
 | [],k,sa,A,h=>⟨rfl,λi=>by rw [if_neg (by simp only [Qp]; lia)]; rfl⟩
 | x::l,k,sa,A,h=>by
  rw [Pa] at h
  obtain ⟨h1,h2⟩:=nj l (k+1) sa (A.setIfInBounds (sa+k) x) (by rw [Array.size_setIfInBounds]; lia)
  rw [UY,P8]
  refine ⟨by rw [h1,Array.size_setIfInBounds],λi=>?_⟩
  rw [h2 i,Pa]
  by_cases c1:sa+(k+1)<=i/\i<sa+(k+1)+l.length
  ·rw [if_pos c1,if_pos (by lia),show i - (sa+k)=i - (sa+(k+1))+1 by lia,List.getElem?_cons_succ]
  ·rw [if_neg c1]
   by_cases c2:i=sa+k
   ·subst c2
    rw [if_pos (by lia),Nat.sub_self,List.getElem?_cons_zero,Array.getElem?_setIfInBounds_self_of_lt (by lia)]
   ·rw [if_neg (by lia),Array.getElem?_setIfInBounds_ne (by lia)]
end
noncomputable def ir:Nat->StateT SortSt Sem Bool:=sortPriv% PySem.Builtin.mergeAt
local macro_rules | `(tactic| walk_at "dl mergeAt")=>do
 let i:=Ri (QZ `PySem.Builtin.List.W1All `PySem.Builtin.mergeAt)
 `(tactic| delta $i)
section
variable {st:SortSt}
theorem DE (h:Q ⟨⟩ st1):wpS M A E s (set st1:StateT SortSt Sem PUnit) Q st:=by
 unfold wpS; rw [StateT.run_set]; exact Oq ⟨rfl,h⟩
theorem xo (hC:iH prog w A s κ rk L) (hk:kindOf st=κ) (hkey:key∈L) (mx:∀ (i:Nat) (p:Keyed),xs[i]?=some p->p∈L) (hn:base+n<=xs.size) (us:Seg rk xs base (base+n)) (hh:hint<n)
 (h:∀ k,k<=n->(∀ i,base<=i->i<base+k->R rk xs i<=rk key)->(∀ i,base+k<=i->i<base+n->rk key<R rk xs i)->Q (some k) st):wpS (model prog w) A E s (cX false key xs base n hint) Q st:=by
 obtain ⟨k,h1,h2⟩:=kT (λi=>R rk xs (base+i)) (rk key) n λi j hij hj=>us _ _ (by lia) (by lia) (by lia)
 refine fL hC hk hkey (λi hi=>⟨xs[base+i]'(by lia),OX _,mx _ _ (OX _)⟩) (λi hi=>by simp only [Pj,if_false]; exact h2 i hi) h1 hh (h k h1 (λi hi hk=>?_) λi hi hk=>?_)
 ·have:=(h2 (i - base) (by lia)).mpr (by lia)
  rwa [show base+(i - base)=i by lia] at this
 ·have:=mt (h2 (i - base) (by lia)).mp (by lia)
  rw [show base+(i - base)=i by lia] at this
  lia
theorem xq (hC:iH prog w A s κ rk L) (hk:kindOf st=κ) (hkey:key∈L) (mx:∀ (i:Nat) (p:Keyed),xs[i]?=some p->p∈L) (hn:base+n<=xs.size) (us:Seg rk xs base (base+n)) (hh:hint<n)
 (h:∀ k,k<=n->(∀ i,base<=i->i<base+k->R rk xs i<rk key)->(∀ i,base+k<=i->i<base+n->rk key<=R rk xs i)->Q (some k) st):wpS (model prog w) A E s (cX true key xs base n hint) Q st:=by
 obtain ⟨k,h1,h2⟩:=kU (λi=>R rk xs (base+i)) (rk key) n λi j hij hj=>us _ _ (by lia) (by lia) (by lia)
 refine fL hC hk hkey (λi hi=>⟨xs[base+i]'(by lia),OX _,mx _ _ (OX _)⟩) (λi hi=>by simp only [if_true]; exact h2 i hi) h1 hh (h k h1 (λi hi hk=>?_) λi hi hk=>?_)
 ·have:=(h2 (i - base) (by lia)).mpr (by lia)
  rwa [show base+(i - base)=i by lia] at this
 ·have:=mt (h2 (i - base) (by lia)).mp (by lia)
  rw [show base+(i - base)=i by lia] at this
  lia
theorem eV {xs:Array Keyed} (h:(xs.extract i j)[m]?=some p):xs[i+m]?=some p/\i+m<j:=by
 rw [SO] at h
 split at h
 ·exact ⟨h,by lia⟩
 ·cases h
theorem vn {lo hi i j:Nat} (h:Seg rk xs lo hi) (h1:lo<=i) (h2:j<=hi):Up rk (xs.extract i j):=λa b p q hab e1 e2=>by
 obtain ⟨f1,g1⟩:=eV e1
 obtain ⟨f2,g2⟩:=eV e2
 have:=h (i+a) (i+b) (by lia) (by lia) (by lia)
 rwa [dR f1,dR f2] at this
theorem qN (hC:iH prog w A s κ rk L) (hB:Bs κ L st) (p1:(pendingOf st)[i]?=some (sa,na,pw)) (p2:(pendingOf st)[i+1]?=some (sa+na,nb,pw2)) (h1:1<=na) (h2:1<=nb) (hz:sa+na+nb<=L.length)
 (s1:Seg rk (arrOf st) sa (sa+na)) (s2:Seg rk (arrOf st) (sa+na) (sa+na+nb))
 (h:∀ st',Bs κ L st'->(∀ j,j<sa\/sa+na+nb<=j->(arrOf st')[j]?=(arrOf st)[j]?)->pendingOf st'=((pendingOf st).setIfInBounds i (sa,na+nb,pw)).eraseIdxIfInBounds (i+1)->Seg rk (arrOf st') sa (sa+na+nb)->Q true st') :
 wpS (model prog w) A E s (ir i) Q st:=by
 unfold ir
 walk_at "dl mergeAt"
 dsimp only
 refine Ou (Qd ?_)
 rw [p1,p2]
 dsimp only
 have hsz:=hB.size
 have mL:∀ (i:Nat) (p:Keyed),(arrOf st)[i]?=some p->p∈L:=λi p e=>hB.perm.mem_iff.mp (by
  obtain ⟨h1,h2⟩:=Rx.mp e
  rw [<- h2,Uz]; exact UW _)
 refine Ou (DE ?_)
 obtain ⟨key,ek,hkL⟩:=hB.at (i:=sa+na) (by lia)
 refine Ou (aU ek ?_)
 have rkey:R rk (arrOf st) (sa+na)=rk key:=dR ek
 refine Ou (xo hC hB.kind hkL mL (by show _<=(arrOf st).size; lia) s1 (by lia) λk k1 k2 k3=>?_)
 dsimp only
 by_cases e0:na - k=0
 ·rw [if_pos (by simpa using e0)]
  refine Ov (h _ ⟨hB.perm,hB.kind,hB.failed⟩ (λ_ _=>rfl) rfl λa b z1 z2 z3=>?_)
  by_cases hb:b<sa+na
  ·exact s1 a b z1 z2 hb
  ·by_cases ha:sa+na<=a
   ·exact s2 a b ha z2 z3
   ·refine O2 (k2 a z1 (by lia)) ?_
    rw [<- rkey]; exact s2 (sa+na) b (Ot _) (by lia) z3
 rw [if_neg (by simpa using e0)]
 obtain ⟨key2,ek2,hk2L⟩:=hB.at (i:=sa+k+(na - k) - 1) (by lia)
 have rkey2:R rk (arrOf st) (sa+na - 1)=rk key2:=by rw [<- dR (rk:=rk) ek2]; congr 1; lia
 refine Ou (aU ek2 ?_)
 refine Ou (xq hC (by exact hB.kind) hk2L mL (by show _<=(arrOf st).size; lia) s2 (by lia) λm m1 m2 m3=>?_)
 dsimp only
 by_cases e1:m=0
 ·exfalso
  have a1:=m3 (sa+na) (by lia) (by lia)
  have a2:=k3 (sa+na - 1) (by lia) (by lia)
  rw [rkey2] at a2; rw [rkey] at a1; lia
 rw [if_neg (by simpa using e1)]
 have mx:∀ (i:Nat) (p:Keyed),((arrOf st).extract (sa+k) (sa+na))[i]?=some p->p∈L:=λi p e=>mL _ p (eV e).1
 have my:∀ (i:Nat) (p:Keyed),((arrOf st).extract (sa+na) (sa+na+m))[i]?=some p->p∈L:=λi p e=>mL _ p (eV e).1
 have ux:Up rk ((arrOf st).extract (sa+k) (sa+na)):=vn s1 (by lia) (Ot _)
 have uy:Up rk ((arrOf st).extract (sa+na) (sa+na+m)):=vn s2 (Ot _) (by lia)
 have zx:((arrOf st).extract (sa+k) (sa+na)).size=na - k:=by rw [Array.size_extract]; lia
 have zy:((arrOf st).extract (sa+na) (sa+na+m)).size=m:=by rw [Array.size_extract]; lia
 have h0:∀ p q,((arrOf st).extract (sa+k) (sa+na))[0]?=some p->((arrOf st).extract (sa+na) (sa+na+m))[0]?=some q->rk q<=rk p:=λp q e2 e3=>by
  obtain ⟨f1,g1⟩:=eV e2
  obtain ⟨f2,g2⟩:=eV e3
  have a1:=k3 (sa+k+0) (by lia) (by lia)
  rw [dR f1] at a1
  have a2:rk q=rk key:=by rw [<- rkey,<- dR (rk:=rk) f2]; rfl
  lia
 have hl:∀ (j:Nat) (p q:Keyed),((arrOf st).extract (sa+k) (sa+na))[((arrOf st).extract (sa+k) (sa+na)).size - 1]?=some p->((arrOf st).extract (sa+na) (sa+na+m))[j]?=some q->rk q<=rk p:=λj p q e2 e3=>by
  rw [zx] at e2
  obtain ⟨f1,g1⟩:=eV e2
  obtain ⟨f2,g2⟩:=eV e3
  have a1:=m2 (sa+na+j) (by lia) (by lia)
  rw [dR f2] at a1
  have a2:rk p=rk key2:=by rw [<- rkey2,<- dR (rk:=rk) f1]; congr 1; lia
  lia
 have fin:∀ (r:Array Keyed) (st2:SortSt),Res rk ((arrOf st).extract (sa+k) (sa+na)) ((arrOf st).extract (sa+na) (sa+na+m)) r->kindOf st2=kindOf st->arrOf st2=arrOf st->pendingOf st2=((pendingOf st).setIfInBounds i (sa,na+nb,pw)).eraseIdxIfInBounds (i+1)->failedOf st2=failedOf st ->
  Q true (setArr st2 (RW (λa (x:Keyed×Nat)=>a.setIfInBounds (sa+k+x.2) x.1) (arrOf st2) r.toList.zipIdx)):=λr st2 hr e2 e3 e4 e5=>by
  have hlen:r.toList.length=na - k+m:=by
   have:=hr.1.length_eq
   simp only [O7,Pg,zx,zy] at this |-
   exact this
  obtain ⟨w1,w2⟩:=nj r.toList 0 (sa+k) (arrOf st) (by lia)
  generalize hW:RW (λa (x:Keyed×Nat)=>a.setIfInBounds (sa+k+x.2) x.1) (arrOf st) r.toList.zipIdx=W at w1 w2
  rw [e3,hW]
  have rW:∀ i,sa+k<=i->i<sa+na+m->R rk W i=R rk r (i - (sa+k)):=λi z1 z2=>by
   refine cA ?_
   rw [w2,if_pos (by lia),Pf]; rfl
  have rO:∀ i,(i<sa+k\/sa+na+m<=i)->R rk W i=R rk (arrOf st) i:=λi z=>by
   refine cA ?_
   rw [w2,if_neg (by lia)]
  have elt:∀ i,sa+k<=i->i<sa+na+m->∃ t,sa+k<=t/\t<sa+na+m/\R rk W i=R rk (arrOf st) t:=λi z1 z2=>by
   have hi:i - (sa+k)<r.size:=by rw [<- Pg]; lia
   have e6:r[i - (sa+k)]?=some r[i - (sa+k)]:=OX hi
   have hm:r[i - (sa+k)]∈r.toList:=by rw [Uz]; exact UW _
   rw [rW i z1 z2,dR e6]
   rcases OZ.mp (hr.1.mem_iff.mp hm) with z | z
   ·obtain ⟨t,t1,t2,t3⟩:=u9 z
    exact ⟨t,t1,by lia,(dR t3).symm⟩
   ·obtain ⟨t,t1,t2,t3⟩:=u9 z
    exact ⟨t,by lia,by lia,(dR t3).symm⟩
  have ur:=HE hr.2
  refine h _ ⟨?_,e2.trans hB.kind,e5.trans hB.failed⟩ (λj hj=>?_) e4 λa b z1 z2 z3=>?_
  ·
   refine List.Perm.trans ?_ hB.perm
   have eW:W.toList=(arrOf st).toList.take (sa+k)++r.toList++(arrOf st).toList.drop (sa+na+m):=by
    apply Th
    intro j
    rw [Pf,w2,OY,R3,R3,Pp,RI,RN (by rw [Pg]; lia)]
    by_cases c1:j<sa+k
    ·rw [if_neg (by lia),if_pos c1,SH c1,Pf]
    ·rw [if_neg c1]
     by_cases c2:j - (sa+k)<r.toList.length
     ·rw [if_pos (by lia),if_pos c2]; rfl
     ·rw [if_neg (by lia),if_neg c2,Pf]; congr 1; lia
   have eA:(arrOf st).toList=(arrOf st).toList.take (sa+k)++(((arrOf st).extract (sa+k) (sa+na)).toList++((arrOf st).extract (sa+na) (sa+na+m)).toList)++(arrOf st).toList.drop (sa+na+m):=by
    apply Th
    intro j
    rw [OY,OY,R3,R3,R3,Pp,Pg,Pg,Pg,zx,zy,RI,RN (by lia)]
    by_cases c1:j<sa+k
    ·rw [if_pos c1,SH c1]
    ·rw [if_neg c1]
     by_cases c2:j - (sa+k)<na - k
     ·rw [if_pos c2,Pf,Pf,SO,if_pos (by lia)]; congr 1; lia
     ·rw [if_neg c2]
      by_cases c3:j - (sa+k) - (na - k)<m
      ·rw [if_pos c3,Pf,Pf,SO,if_pos (by lia)]; congr 1; lia
      ·rw [if_neg c3]; congr 1; lia
   show W.toList.Perm _
   rw [eW]
   conv=>rhs; rw [eA]
   exact (RA _ hr.1).append_right _
  ·show W[j]?=_
   rw [w2,if_neg (by lia)]
  ·show R rk W a<=R rk W b
   have kk:∀ t,sa+na<=t->t<sa+na+nb->rk key<=R rk (arrOf st) t:=λt t1 t2=>by rw [<- rkey]; exact s2 _ t (Ot _) t1 t2
   have kk2:∀ t,sa<=t->t<sa+na->R rk (arrOf st) t<=rk key2:=λt t1 t2=>by rw [<- rkey2]; exact s1 t _ t1 (by lia) (by lia)
   by_cases c1:a<sa+k
   ·rw [rO a (.inl c1)]
    have la:=k2 a z1 c1
    by_cases d1:b<sa+k
    ·rw [rO b (.inl d1)]; exact s1 a b z1 z2 (by lia)
    ·by_cases d2:b<sa+na+m
     ·obtain ⟨t,t1,t2,t3⟩:=elt b (by lia) d2
      rw [t3]
      by_cases d3:t<sa+na
      ·exact s1 a t z1 (by lia) d3
      ·exact O2 la (kk t (by lia) (by lia))
     ·rw [rO b (.inr (by lia))]
      exact O2 la (kk b (by lia) z3)
   ·by_cases c2:a<sa+na+m
    ·by_cases d2:b<sa+na+m
     ·rw [rW a (by lia) c2,rW b (by lia) d2]
      have f1:r[a - (sa+k)]?=some (r[a - (sa+k)]'(by rw [<- Pg]; lia)):=OX _
      have f2:r[b - (sa+k)]?=some (r[b - (sa+k)]'(by rw [<- Pg]; lia)):=OX _
      rw [dR f1,dR f2]
      exact ur _ _ _ _ (by lia) f1 f2
     ·obtain ⟨t,t1,t2,t3⟩:=elt a (by lia) c2
      rw [t3,rO b (.inr (by lia))]
      by_cases d3:t<sa+na
      ·exact O2 (kk2 t (by lia) d3) (m3 b (by lia) z3)
      ·exact s2 t b (by lia) (by lia) z3
    ·rw [rO a (.inr (by lia)),rO b (.inr (by lia))]
     exact s2 a b (by lia) z2 z3
 have post:∀ (r:Array Keyed) (st2:SortSt),failedOf st2=failedOf st->(failedOf st2).isNone=true:=λr st2 e=>by rw [e,hB.failed]; rfl
 by_cases hle:na - k<=m
 ·rw [if_pos hle]
  refine Ou (qJ hC (by exact hB.kind) mx my ux uy (by show 1<=((arrOf st).extract (sa+k) (sa+na)).size; lia) (by show 1<=((arrOf st).extract (sa+na) (sa+na+m)).size; lia) h0 hl λr st2 hr hK=>?_)
  refine Ou (Qq (Ou (Qd ?_)))
  have e9:failedOf st2=none:=hK.f.trans hB.failed
  have z:=fin r st2 hr hK.k hK.a hK.p hK.f
  refine Ov ?_
  show Q (failedOf st2).isNone _
  rw [e9]; exact z
 ·rw [if_neg hle]
  refine Ou (qM hC (by exact hB.kind) mx my ux uy (by show 1<=((arrOf st).extract (sa+k) (sa+na)).size; lia) (by show 1<=((arrOf st).extract (sa+na) (sa+na+m)).size; lia) h0 hl λr st2 hr hK=>?_)
  refine Ou (Qq (Ou (Qd ?_)))
  have e9:failedOf st2=none:=hK.f.trans hB.failed
  have z:=fin r st2 hr hK.k hK.a hK.p hK.f
  refine Ov ?_
  show Q (failedOf st2).isNone _
  rw [e9]; exact z
end
noncomputable abbrev KU:Nat->Nat->Nat->Nat:=sortPriv% PySem.Builtin.minRun
noncomputable def qO:StateT SortSt Sem Unit:=sortPriv% PySem.Builtin.sortRuns
local macro_rules | `(tactic| walk_at "dl sortRuns")=>do
 let i:=Ri (QZ `PySem.Builtin.List.W1All `PySem.Builtin.sortRuns)
 `(tactic| delta $i)
noncomputable def fu (rk:Keyed->Int) (xs:Array Keyed):Nat->List (Nat×Nat×Nat)->Nat->Prop
 | a,[],b=>a=b
 | a,p::r,b=>p.1=a/\1<=p.2.1/\Seg rk xs a (a+p.2.1)/\fu rk xs (a+p.2.1) r b
theorem fu.le:∀ {ps:List (Nat×Nat×Nat)} {a b:Nat},fu rk xs a ps b->a+ps.length<=b
 | [],a,b,h=>by have:a=b:=h; simp; lia
 | p::r,a,b,h=>by
  obtain ⟨_,h1,_,h2⟩:=h
  have:=h2.le
  rw [Pa]; lia
theorem fu.app:∀ {ps qs:List (Nat×Nat×Nat)} {a b:Nat},fu rk xs a (ps++qs) b↔∃ m,fu rk xs a ps m/\fu rk xs m qs b
 | [],qs,a,b=>⟨λh=>⟨a,rfl,h⟩,λ⟨m,h1,h2⟩=>by have:a=m:=h1; subst this; exact h2⟩
 | p::r,qs,a,b=>by
  constructor
  ·rintro ⟨h1,h2,h3,h4⟩
   obtain ⟨m,h5,h6⟩:=fu.app.mp h4
   exact ⟨m,⟨h1,h2,h3,h5⟩,h6⟩
  ·rintro ⟨m,⟨h1,h2,h3,h5⟩,h6⟩
   exact ⟨h1,h2,h3,fu.app.mpr ⟨m,h5,h6⟩⟩
theorem fu.congr:∀ {ps:List (Nat×Nat×Nat)} {a b:Nat},fu rk xs a ps b->(∀ i,a<=i->i<b->R rk ys i=R rk xs i)->fu rk ys a ps b
 | [],a,b,h,_=>h
 | p::r,a,b,h,e=>by
  obtain ⟨h1,h2,h3,h4⟩:=h
  have hl:=h4.le
  refine ⟨h1,h2,λi j z1 z2 z3=>?_,h4.congr λi z1 z2=>e i (by lia) z2⟩
  rw [e i z1 (by lia),e j (by lia) (by lia)]
  exact h3 i j z1 z2 z3
theorem fu.mod (f) (hf:∀ p,(f p).1=p.1/\(f p).2.1=p.2.1):∀ {ps:List (Nat×Nat×Nat)} {a b:Nat} (i:Nat),fu rk xs a ps b->fu rk xs a (ps.modify i f) b
 | [],a,b,i,h=>by simpa using h
 | p::r,a,b,0,h=>by
  obtain ⟨h1,h2,h3,h4⟩:=h
  rw [List.modify_zero_cons]
  refine ⟨(hf p).1.trans h1,by rw [(hf p).2]; exact h2,by rw [(hf p).2]; exact h3,by rw [(hf p).2]; exact h4⟩
 | p::r,a,b,i+1,h=>by
  obtain ⟨h1,h2,h3,h4⟩:=h
  rw [List.modify_succ_cons]
  exact ⟨h1,h2,h3,h4.mod f hf i⟩
theorem fu.two:∀ {ps:List (Nat×Nat×Nat)} {a b:Nat} (i:Nat),fu rk xs a ps b->i+1<ps.length->∃ s n pw m pw2,ps[i]?=some (s,n,pw)/\ps[i+1]?=some (s+n,m,pw2)/\1<=n/\1<=m/\a<=s/\s+n+m<=b/\Seg rk xs s (s+n)/\Seg rk xs (s+n) (s+n+m) /\
 ∀ ys:Array Keyed,(∀ j,j<s\/s+n+m<=j->R rk ys j=R rk xs j)->Seg rk ys s (s+n+m)->fu rk ys a ((ps.set i (s,n+m,pw)).eraseIdx (i+1)) b
 | [],a,b,i,h,hi=>by simp at hi
 | [p],a,b,i,h,hi=>by simp at hi
 | p::q::r,a,b,0,h,hi=>by
  obtain ⟨h1,h2,h3,h4,h5,h6,h7⟩:=h
  obtain ⟨s,n,pw⟩:=p
  obtain ⟨s',m,pw2⟩:=q
  dsimp only at h1 h2 h3 h4 h5 h6 h7
  subst h1; subst h4
  have hl:=h7.le
  refine ⟨s,n,pw,m,pw2,rfl,rfl,h2,h5,Ot _,by lia,h3,h6,λys e hs=>?_⟩
  refine ⟨rfl,by dsimp only; lia,by dsimp only; rw [<- Nat.add_assoc]; exact hs,?_⟩
  dsimp only
  rw [<- Nat.add_assoc]
  exact h7.congr λi z1 z2=>e i (.inr z1)
 | p::q::r,a,b,i+1,h,hi=>by
  obtain ⟨h1,h2,h3,h4⟩:=h
  obtain ⟨s,n,pw,m,pw2,e1,e2,a1,a2,a3,a4,a5,a6,a7⟩:=h4.two i (by simpa using hi)
  refine ⟨s,n,pw,m,pw2,by simpa using e1,by simpa using e2,a1,a2,by lia,a4,a5,a6,λys e hs=>?_⟩
  rw [List.set_cons_succ,List.eraseIdx_cons_succ]
  refine ⟨h1,h2,λj j' z1 z2 z3=>?_,a7 ys e hs⟩
  rw [e j (.inl (by lia)),e j' (.inl (by lia))]
  exact h3 j j' z1 z2 z3
section
variable {st:SortSt}
theorem iu (hC:iH prog w A s κ rk L) (hB:Bs κ L st) (hc:fu rk (arrOf st) 0 (pendingOf st).toList b) (hb:b<=L.length) (hi:i+1<(pendingOf st).size)
 (h:∀ st',Bs κ L st'->fu rk (arrOf st') 0 (pendingOf st').toList b->(∀ j,b<=j->(arrOf st')[j]?=(arrOf st)[j]?)->(pendingOf st').size+1=(pendingOf st).size->Q true st'):wpS (model prog w) A E s (ir i) Q st:=by
 obtain ⟨sa,n,pw,m,pw2,e1,e2,a1,a2,a3,a4,a5,a6,a7⟩:=hc.two i (by rw [Pg]; exact hi)
 rw [Pf] at e1 e2
 refine qN hC hB e1 e2 a1 a2 (by lia) a5 a6 λst' b1 b2 b3 b4=>h st' b1 ?_ (λj hj=>b2 j (.inr (by lia))) ?_
 ·rw [b3,Vb,Array.toList_setIfInBounds]
  exact a7 _ (λj hj=>cA (b2 j hj)) b4
 ·rw [b3,<- Pg,Vb,Array.toList_setIfInBounds,List.length_eraseIdx,List.length_set,Pg,if_pos hi]; lia
theorem wpS_sortRuns (hC:iH prog w A s κ rk L) (hB:Bs κ L st) (hp:pendingOf st= #[]) (h:∀ st',Bs κ L st'->Seg rk (arrOf st') 0 L.length->Q () st'):wpS (model prog w) A E s qO Q st:=by
 unfold qO
 walk_at "dl sortRuns"
 dsimp only
 refine Ou (Qd ?_)
 have hsz:=hB.size
 rw [hsz]
 obtain ⟨mr,hmr⟩:∃ mr,KU L.length L.length 0=mr:=⟨_,rfl⟩
 delta KU at hmr
 rw [hmr]
 refine Ou (O6 (PF (I:=λx c st'=>c.1=none/\Bs κ L st'/\fu rk (arrOf st') 0 (pendingOf st').toList c.2/\c.2<=L.length/\(x<=c.2\/L.length<=c.2)) (Q:=λc st'=>c.1=none/\Bs κ L st'/\fu rk (arrOf st') 0 (pendingOf st').toList L.length) ?step ?fin ?init) ?post)
 case init=>exact ⟨rfl,hB,by rw [hp]; rfl,OV _,.inl (Ot _)⟩
 case fin =>
  rintro ⟨c,lo⟩ st' ⟨rfl,jH,hC',h1,h2⟩
  dsimp only at hC' h1 h2 |-
  have e:lo=L.length:=by
   rcases h2 with z | z
   ·lia
   ·lia
  subst e
  exact ⟨rfl,jH,hC'⟩
 case step =>
  rintro x ⟨c,lo⟩ st' _ hx ⟨rfl,jH,hC',h1,h2⟩
  dsimp only at hC' h1 h2 |-
  by_cases hge:lo>=L.length
  ·rw [if_pos hge]
   have e:lo=L.length:=by lia
   subst e
   exact Ov ⟨rfl,jH,hC'⟩
  rw [if_neg hge]
  refine Ou (show wpS _ _ _ _ (countRun' lo (L.length - lo)) _ _ from wpS_countRun hC jH (by lia) (by lia) λm st1 hB1 hM1 m1 m2 ms=>?_)
  have hC1:fu rk (arrOf st1) 0 (pendingOf st1).toList lo:=by
   rw [hM1.pend]; exact hC'.congr λi _ z=>cA (hM1.out i (.inl z))
  dsimp only
  by_cases hmin:m<mr
  ·rw [if_pos (show m<_ from hmin)]
   refine Ou (QW (Pw ⟨rfl,?_⟩))
   have hf1:m<=min (L.length - lo) mr:=by lia
   have hf2:lo+min (L.length - lo) mr<=L.length:=by lia
   refine Ou (show wpS _ _ _ _ (binarySort' lo (min (L.length - lo) mr) m) _ _ from wpS_binarySort hC hB1 hf2 hf1 ms λst2 hB2 hM2 hS2=>?_)
   have hC2:fu rk (arrOf st2) 0 (pendingOf st2).toList lo:=by
    rw [hM2.pend]; exact hC1.congr λi _ z=>cA (hM2.out i (.inl z))
   simp only [Si,Pj,if_false]
   generalize hF:min (L.length - lo) mr=F at hf1 hf2 hS2
   have hF':=hF
   clear hM2 hM1
   refine Ou (Qd ?_)
   rcases hbk:(pendingOf st2).back? with _ | ⟨q1,q2,q3⟩
   ·dsimp only
    refine Ou (Qq (Ov ⟨rfl,⟨hB2.perm,hB2.kind,hB2.failed⟩,?_,by dsimp only; lia,by dsimp only; lia⟩))
    show fu rk (arrOf st2) 0 ((pendingOf st2).push (lo,F,0)).toList (lo+(F))
    rw [O8]
    exact fu.app.mpr ⟨lo,hC2,rfl,by dsimp only; lia,hS2,rfl⟩
   ·dsimp only
    refine Ou (O6 (PF (I:=λy c st'=>c.1=none/\Bs κ L st'/\fu rk (arrOf st') 0 (pendingOf st').toList lo/\Seg rk (arrOf st') lo (lo+(F))) (Q:=λc st'=>c.1=none/\Bs κ L st'/\fu rk (arrOf st') 0 (pendingOf st').toList lo/\Seg rk (arrOf st') lo (lo+(F))) ?_ (λ_ _ z=>z) ⟨rfl,hB2,hC2,hS2⟩) ?_)
    ·rintro y ⟨c,u⟩ st3 _ hy ⟨rfl,ug,yp,Cd⟩
     refine Ou (Qd ?_)
     by_cases hs1:(pendingOf st3).size>1
     ·rw [if_pos hs1]
      obtain ⟨⟨r1,r2,r3⟩,er⟩:∃ t,(pendingOf st3)[(pendingOf st3).size - 2]?=some t:=⟨_,OX (show (pendingOf st3).size - 2<(pendingOf st3).size by lia)⟩
      rw [er]
      dsimp only
      split
      ·exact Ov ⟨rfl,ug,yp,Cd⟩
      ·refine Ou (show wpS _ _ _ _ (ir ((pendingOf st3).size - 2)) _ _ from iu hC ug yp (by lia) (by lia) λst4 hB4 hC4 ho4 hz4=>?_)
       simp only [Si,Pj,if_false]
       exact Ov ⟨rfl,hB4,hC4,λa b z1 z2 z3=>by rw [cA (ho4 a z1),cA (ho4 b (by lia))]; exact Cd a b z1 z2 z3⟩
     ·rw [if_neg hs1]
      exact Ov ⟨rfl,ug,yp,Cd⟩
    ·rintro ⟨c,u⟩ st3 ⟨hc,ug,yp,Cd⟩
     dsimp only at hc |-
     rw [hc]
     dsimp only
     refine Ou (Qq (Ou (Qq (Ov ⟨rfl,⟨ug.perm,ug.kind,ug.failed⟩,?_,by dsimp only; lia,by dsimp only; lia⟩))))
     show fu rk (arrOf st3) 0 (((pendingOf st3).modify ((pendingOf st3).size - 1) _).push (lo,F,0)).toList (lo+(F))
     rw [O8,Array.toList_modify]
     refine fu.app.mpr ⟨lo,?_,rfl,by dsimp only; lia,Cd,rfl⟩
     refine fu.mod _ (λp=>?_) _ yp
     exact ⟨rfl,rfl⟩
  ·rw [if_neg (show ¬ m<_ from hmin)]
   refine Ou (Qd ?_)
   rcases hbk:(pendingOf st1).back? with _ | ⟨q1,q2,q3⟩
   ·dsimp only
    refine Ou (Qq (Ov ⟨rfl,⟨hB1.perm,hB1.kind,hB1.failed⟩,?_,by dsimp only; lia,by dsimp only; lia⟩))
    show fu rk (arrOf st1) 0 ((pendingOf st1).push (lo,m,0)).toList (lo+(m))
    rw [O8]
    exact fu.app.mpr ⟨lo,hC1,rfl,by dsimp only; lia,ms,rfl⟩
   ·dsimp only
    refine Ou (O6 (PF (I:=λy c st'=>c.1=none/\Bs κ L st'/\fu rk (arrOf st') 0 (pendingOf st').toList lo/\Seg rk (arrOf st') lo (lo+(m))) (Q:=λc st'=>c.1=none/\Bs κ L st'/\fu rk (arrOf st') 0 (pendingOf st').toList lo/\Seg rk (arrOf st') lo (lo+(m))) ?_ (λ_ _ z=>z) ⟨rfl,hB1,hC1,ms⟩) ?_)
    ·rintro y ⟨c,u⟩ st3 _ hy ⟨rfl,ug,yp,Cd⟩
     refine Ou (Qd ?_)
     by_cases hs1:(pendingOf st3).size>1
     ·rw [if_pos hs1]
      obtain ⟨⟨r1,r2,r3⟩,er⟩:∃ t,(pendingOf st3)[(pendingOf st3).size - 2]?=some t:=⟨_,OX (show (pendingOf st3).size - 2<(pendingOf st3).size by lia)⟩
      rw [er]
      dsimp only
      split
      ·exact Ov ⟨rfl,ug,yp,Cd⟩
      ·refine Ou (show wpS _ _ _ _ (ir ((pendingOf st3).size - 2)) _ _ from iu hC ug yp (by lia) (by lia) λst4 hB4 hC4 ho4 hz4=>?_)
       simp only [Si,Pj,if_false]
       exact Ov ⟨rfl,hB4,hC4,λa b z1 z2 z3=>by rw [cA (ho4 a z1),cA (ho4 b (by lia))]; exact Cd a b z1 z2 z3⟩
     ·rw [if_neg hs1]
      exact Ov ⟨rfl,ug,yp,Cd⟩
    ·rintro ⟨c,u⟩ st3 ⟨hc,ug,yp,Cd⟩
     dsimp only at hc |-
     rw [hc]
     dsimp only
     refine Ou (Qq (Ou (Qq (Ov ⟨rfl,⟨ug.perm,ug.kind,ug.failed⟩,?_,by dsimp only; lia,by dsimp only; lia⟩))))
     show fu rk (arrOf st3) 0 (((pendingOf st3).modify ((pendingOf st3).size - 1) _).push (lo,m,0)).toList (lo+(m))
     rw [O8,Array.toList_modify]
     refine fu.app.mpr ⟨lo,?_,rfl,by dsimp only; lia,Cd,rfl⟩
     refine fu.mod _ (λp=>?_) _ yp
     exact ⟨rfl,rfl⟩
 case post =>
  rintro ⟨c,lo⟩ st' ⟨hc,jH,hC'⟩
  dsimp only at hc |-
  rw [hc]
  dsimp only
  have hl0:=hC'.le
  rw [Pg] at hl0
  refine Ou (O6 (PF (I:=λx c st2=>c.1=none/\Bs κ L st2/\fu rk (arrOf st2) 0 (pendingOf st2).toList L.length/\((pendingOf st2).size<=1\/(pendingOf st2).size+x<=L.length)) (Q:=λc st2=>c.1=none/\Bs κ L st2/\fu rk (arrOf st2) 0 (pendingOf st2).toList L.length/\(pendingOf st2).size<=1) ?mstep ?mfin ⟨rfl,jH,hC',.inr (by lia)⟩) ?mpost)
  case mfin =>
   rintro c2 st2 ⟨a1,a2,a3,a4⟩
   exact ⟨a1,a2,a3,by lia⟩
  case mpost =>
   rintro ⟨c2,u⟩ st2 ⟨a1,a2,a3,a4⟩
   dsimp only at a1 |-
   rw [a1]
   refine Ov (h st2 a2 ?_)
   rw [<- Pg] at a4
   match e:(pendingOf st2).toList,a4 with
   | [],_ =>
    rw [e] at a3
    have z:0=L.length:=a3
    intro i j _ _ hj; lia
   | [p],_ =>
    rw [e] at a3
    obtain ⟨b1,b2,b3,b4⟩:=a3
    have z:0+p.2.1=L.length:=b4
    rw [<- z]; exact b3
  case mstep =>
   rintro x ⟨c2,u⟩ st2 _ hx ⟨a1,a2,a3,a4⟩
   refine Ou (Qd ?_)
   by_cases hs1:(pendingOf st2).size<=1
   ·rw [if_pos hs1]
    exact Ov ⟨rfl,a2,a3,hs1⟩
   ·rw [if_neg hs1]
    have key:∀ i,i+1<(pendingOf st2).size->wpS (model prog w) A E s (ir i) (λr st3=>r=true/\Bs κ L st3/\fu rk (arrOf st3) 0 (pendingOf st3).toList L.length/\(pendingOf st3).size+1=(pendingOf st2).size) st2:=λi hi =>
     iu hC a2 a3 (Ot _) hi λst3 b1 b2 _ b3=>⟨rfl,b1,b2,b3⟩
    refine Ou (O6 (show wpS _ _ _ _ (ir _) _ _ from key _ ?_) λr st3 hr=>?_)
    ·unfold pendingOf at hs1 |-
     repeat' split
     all_goals lia
    ·obtain ⟨rfl,b1,b2,b3⟩:=hr
     simp only [Si,Pj,if_false]
     exact Ov ⟨rfl,b1,b2,.inr (by lia)⟩
end
end SR
namespace SR
open PySem PyProof.Rows
noncomputable def dup (vs:List Value):List Keyed:=vs.map λv=>(v,v)
theorem vo (vs):(vs.toArray.zip vs.toArray).toList=dup vs:=by
 unfold dup
 rw [Array.toList_zip]
 induction vs with
 | nil=>rfl
 | cons v vs ih=>simpa using ih
def Ord (rk:Keyed->Int) (b:Bool) (out:List Value):Prop:=out.Pairwise λx y=>if b then rk (y,y)<=rk (x,x) else rk (x,x)<=rk (y,y)
theorem qP {xs:Array Keyed} (h:xs.toList.Perm (dup vs)):(xs.toList.map (·.2)).Perm vs/\∀ p∈xs.toList,p=(p.2,p.2):=by
 refine ⟨?_,λp hp=>?_⟩
 ·have q:=h.map (·.2)
  have e:(dup vs).map (·.2)=vs:=by
   unfold dup
   rw [OQ]
   exact List.map_id' vs
  rwa [e] at q
 ·have:=h.mem_iff.mp hp
  simp only [dup,O1] at this
  obtain ⟨v,_,rfl⟩:=this
  rfl
theorem DF {st:SortSt} (hp:(arrOf st).toList.Perm (dup vs)) (hs:Seg rk (arrOf st) 0 (dup vs).length) (b) :
 ((if b=true then ((arrOf st).map (·.2)).reverse else (arrOf st).map (·.2)).toList).Perm vs/\Ord rk b (if b=true then ((arrOf st).map (·.2)).reverse else (arrOf st).map (·.2)).toList:=by
 obtain ⟨h1,h2⟩:=qP hp
 have up:((arrOf st).toList.map (·.2)).Pairwise λx y=>rk (x,x)<=rk (y,y):=by
  rw [Qy]
  refine Uh.mpr λi j hi hj hij=>?_
  have l:=hp.length_eq
  simp only [Pg] at hi hj l
  have z:=hs i j (OV _) (QD hij) (by lia)
  have ei:(arrOf st)[i]?=some ((arrOf st).toList[i]'(by simpa using hi)):=by simp [hi]
  have ej:(arrOf st)[j]?=some ((arrOf st).toList[j]'(by simpa using hj)):=by simp [hj]
  rw [dR ei,dR ej] at z
  have e1:=h2 _ (O9 (show i<(arrOf st).toList.length by simpa using hi))
  have e2:=h2 _ (O9 (show j<(arrOf st).toList.length by simpa using hj))
  rw [e1,e2] at z
  exact z
 cases b with
 | false=>simp only [Pj,if_false,U5]; exact ⟨h1,up.imp λh=>by simpa using h⟩
 | true =>
  simp only [if_true,RC,U5]
  refine ⟨(Tg _).trans h1,?_⟩
  unfold Ord
  rw [List.pairwise_reverse]
  exact up.imp λh=>by simpa using h
def M7 (prog:Program) (w:World) (A:Around) (s:Shared) (a:Addr) (vs:List Value) (κ:SortKind) (rk:Keyed->Int):Prop :=
 ∀ h':Heap,(∀ c o,c≠a->s.heap.get? c=some o->h'.get? c=some o) ->
  (∀ (Q:SortKind->Shared->Prop) (E:Value->Shared->Prop),2<=vs.length->Q κ { s with heap:=h' }->wpAny (model prog w) A (keyKind' vs.toArray) Q E { s with heap:=h' })/\iH prog w A { s with heap:=h' } κ rk (dup vs)
theorem nk (ho:s.heap.get? a=some (seqObj "list" vs.toArray n)) (hk:M7 prog w A s a vs κ rk) (hz:vs.length<=sizeLine)
 (h:∀ out:Array Value,out.toList.Perm vs->Ord rk b out.toList->P (.done (.ret .none)) { s with heap:=sortedHeap s.heap a vs out }) :
 wpAny (model prog w) A (Builtin.«list.sort» ⟨[.ref a],[(Om "reverse",.bool b)]⟩) P E s:=by
 rw [list_sort_rev]
 have lta:a<s.heap.objs.size:=Oz ho
 refine Ol (Sj ho rfl (Ol (Qc ho rfl ?_ (by simpa using hz))))
 obtain ⟨e1,ho1⟩:∃ e1,(s.heap.update a (O4 λ_=> #[])).get? a=some (seqObj "list" #[] e1):=⟨_,Tp ho (λ_=> #[])⟩
 have oth:∀ c o,c≠a->s.heap.get? c=some o->(s.heap.update a (O4 λ_=> #[])).get? c=some o:=λc o hc q=>by rw [QJ _ _ _ _ hc]; exact q
 have sz1:(s.heap.update a (O4 λ_=> #[])).objs.size=s.heap.objs.size:=U3 ..
 refine Ol (RS ho1 rfl (Ol (Tw ?_ (by simpa using hz))))
 refine Ol (Se (PY ?_))
 show wpAny (model prog w) A _ P E { s with heap:=((s.heap.update a (O4 λ_=> #[])).push (seqObj "tuple" vs.toArray 0)).push (seqObj "list" #[] 0) }
 have ho6:(((s.heap.update a (O4 λ_=> #[])).push (seqObj "tuple" vs.toArray 0)).push (seqObj "list" #[] 0)).get? a=some (seqObj "list" #[] e1):=Ow _ (Ow _ ho1)
 obtain ⟨hkk,hC⟩:=hk (((s.heap.update a (O4 λ_=> #[])).push (seqObj "tuple" vs.toArray 0)).push (seqObj "list" #[] 0)) λc o hc q=>Ow _ (Ow _ (oth c o hc q))
 have fin:∀ st':SortSt,(arrOf st').toList.Perm (dup vs)->Seg rk (arrOf st') 0 (dup vs).length ->
  P (.done (.ret .none)) { s with heap:=sortedHeap s.heap a vs (if b then ((arrOf st').map (·.2)).reverse else (arrOf st').map (·.2)) }:=λst' hp hs =>
  let ⟨q1,q2⟩:=DF hp hs b; h _ q1 q2
 have hstart:(if b=true then (vs.toArray.zip vs.toArray).reverse else vs.toArray.zip vs.toArray).toList.Perm (dup vs):=by
  cases b with
  | false=>rw [if_neg OC,vo]
  | true=>rw [if_pos rfl,RC,vo]; exact Tg _
 dsimp only
 have told:∀ t:Sem Fin,wpAny (model prog w) A t P E { s with heap:=((s.heap.update a (O4 λ_=> #[])).push (seqObj "tuple" vs.toArray 0)).push (seqObj "list" #[] 0) } ->
  wpAny (model prog w) A (if b=true then (do let _ <- rule "list.sort.reverse"; t) else t) P E { s with heap:=((s.heap.update a (O4 λ_=> #[])).push (seqObj "tuple" vs.toArray 0)).push (seqObj "list" #[] 0) }:=λt ht=>by
  split
  ·exact Ol (Pw ht)
  ·exact ht
 refine told _ ?_
 have hlen:∀ {xs:Array Keyed},xs.toList.Perm (dup vs)->(if b=true then (Array.map (λx=>x.snd) xs).reverse else Array.map (λx=>x.snd) xs).size<=sizeLine+1:=λ{xs} hp=>by
  have l:=hp.length_eq
  simp only [Pg,dup,Ox] at l
  split
  ·rw [Array.size_reverse,Array.size_map]; lia
  ·rw [Array.size_map]; lia
 by_cases h2:vs.toArray.size<2
 ·rw [if_pos h2,if_pos h2]
  refine Ol (Oq ?_)
  rw [StateT.run_pure]
  refine Ol (Oq ?_)
  dsimp only
  refine Ol (RS ho6 rfl (Ol (Qc ho6 rfl ?_ (hsz2:=hlen hstart))))
  simp only [bne_self_eq_false,Pj,if_false]
  refine Oq (fin (QU general' (if b=true then (vs.toArray.zip vs.toArray).reverse else vs.toArray.zip vs.toArray) #[] 7 none) hstart ?_)
  intro i j _ hij hj
  have hl:(dup vs).length<2:=by simpa [dup] using h2
  have:i=j:=by lia
  subst this; exact PR _
 ·rw [if_neg h2,if_neg h2]
  refine Ol (hkk _ _ (by simpa using h2) ?_)
  refine Ol (Pe (wpS_sortRuns (κ:=κ) (rk:=rk) (L:=dup vs) (st:=QU κ (if b=true then (vs.toArray.zip vs.toArray).reverse else vs.toArray.zip vs.toArray) #[] 7 none)
   (Q:=λ_ st'=>(arrOf st').toList.Perm (dup vs)/\failedOf st'=none/\Seg rk (arrOf st') 0 (dup vs).length) hC ⟨hstart,rfl,rfl⟩ rfl λst' a1 a2=>⟨a1.perm,a1.failed,a2⟩) ?_ λ_ _ e=>e)
  rintro ⟨⟨⟩,st'⟩ s' ⟨rfl,hp,hf,hs⟩
  dsimp only
  refine Ol (RS ho6 rfl (Ol (Qc ho6 rfl ?_ (hsz2:=hlen hp))))
  rw [hf]
  simp only [bne_self_eq_false,Pj,if_false]
  exact Oq (fin st' hp hs)
section
variable {α:Type} {lt:α->α->Bool} {L:List α}
theorem filter_le:∀ {l:List α},(∀ z∈l,p z=true->q z=true)->(l.filter p).length<=(l.filter q).length
 | [],_=>Ot _
 | x::l,h=>by
  have ih:=filter_le (l:=l) λz hz=>h z (OJ _ hz)
  have hx:=h x OI
  cases e:p x with
  | false =>
   rw [R0 (by simp [e])]
   by_cases e2:q x=true
   ·rw [QY e2]; exact Nat.le_succ_of_le ih
   ·rw [R0 e2]; exact ih
  | true =>
   rw [QY e,QY (hx e)]
   exact Ti ih
theorem filter_lt:∀ {l:List α},(∀ z∈l,p z=true->q z=true)->(∃ z∈l,q z=true/\p z=false)->(l.filter p).length<(l.filter q).length
 | [],_,h=>by obtain ⟨z,h,_⟩:=h; cases h
 | x::l,h,g=>by
  have h':∀ z∈l,p z=true->q z=true:=λz hz=>h z (OJ _ hz)
  have hx:=h x OI
  by_cases e:p x=true
  ·rw [QY e,QY (hx e)]
   obtain ⟨z,hz,z1,z2⟩:=g
   rcases OM.mp hz with rfl | hz
   ·rw [e] at z2; cases z2
   ·exact Nat.succ_lt_succ (filter_lt h' ⟨z,hz,z1,z2⟩)
  ·rw [R0 e]
   by_cases e2:q x=true
   ·rw [QY e2]; exact Nat.lt_succ_of_le (filter_le h')
   ·rw [R0 e2]
    obtain ⟨z,hz,z1,z2⟩:=g
    rcases OM.mp hz with rfl | hz
    ·exact absurd z1 e2
    ·exact filter_lt h' ⟨z,hz,z1,z2⟩
structure FE (lt:α->α->Bool) (L:List α):Prop where
 irr:∀ x∈L,lt x x=false
 tr:∀ x∈L,∀ y∈L,∀ z∈L,lt x y=true->lt y z=true->lt x z=true
 tot:∀ x∈L,∀ y∈L,x≠y->lt x y=true\/lt y x=true
noncomputable def rank (lt:α->α->Bool) (L:List α) (x:α):Int:=((L.filter λz=>lt z x).length:Int)
theorem j3 (h:FE lt L) (hx:x∈L) (hy:y∈L) (e:lt x y=true):rank lt L x<rank lt L y:=by
 have q:=filter_lt (l:=L) (p:=λz=>lt z x) (q:=λz=>lt z y) (λz hz hzx=>h.tr z hz x hx y hy hzx e) ⟨x,hx,e,h.irr x hx⟩
 unfold rank; lia
theorem DG (h:FE lt L) (hx:x∈L) (hy:y∈L):decide (rank lt L x<rank lt L y)=lt x y:=by
 classical
 cases e:lt x y with
 | true=>exact decide_eq_true (j3 h hx hy e)
 | false =>
  refine decide_eq_false λz=>?_
  by_cases w:x=y
  ·subst w; exact absurd z (Int.lt_irrefl _)
  ·rcases h.tot x hx y hy w with q | q
   ·rw [e] at q; cases q
   ·have:=j3 h hy hx q; lia
theorem gi (hp:n.Perm m):∀ {l:List α},Paired S l m->∃ l',l'.Perm l/\Paired S l' n:=by
 induction hp with
 | nil=>intro l h; exact ⟨l,.refl _,h⟩
 | cons x _ ih =>
  intro l h
  cases h with
  | cons r t=>obtain ⟨l',h1,h2⟩:=ih t; exact ⟨_::l',h1.cons _,.cons r h2⟩
 | swap x y l' =>
  intro l h
  cases h with
  | cons r t=>cases t with | cons r2 t2=>exact ⟨_,.swap _ _ _,.cons r2 (.cons r t2)⟩
 | trans _ _ ih1 ih2 =>
  intro l h
  obtain ⟨l1,h1,h2⟩:=ih2 h
  obtain ⟨l2,h3,h4⟩:=ih1 h2
  exact ⟨l2,h3.trans h1,h4⟩
theorem iw (h:Paired S l m):∀ u∈m,∃ x∈l,S x u:=by
 induction h with
 | nil=>intro u hu; cases hu
 | cons r t ih =>
  intro u hu
  rcases OM.mp hu with rfl | hu
  ·exact ⟨_,OI,r⟩
  ·obtain ⟨x,h1,h2⟩:=ih u hu; exact ⟨x,OJ _ h1,h2⟩
open Classical in
noncomputable def xr {β:Type} (S:α->Value->Prop) (lt:α->α->Bool) (L:List α) (p:Value×β):Int:=if h:∃ x,x∈L/\S x p.1 then rank lt L h.choose else 0
theorem j4 (inj:∀ x y u,S x u->S y u->x=y) (hx:x∈L) (h:S x p.1):xr S lt L p=rank lt L x:=by
 have e:∃ x,x∈L/\S x p.1:=⟨x,hx,h⟩
 unfold xr
 rw [dif_pos e,inj _ _ _ e.choose_spec.2 h]
theorem qQ (inj:∀ x y u,S x u->S y u->x=y) (h:FE lt L) (nd:L.Nodup) (hL:Paired S L us) (hp:out.Perm us) (ho:Ord (xr S lt L) b out) :
 ∃ L',L'.Perm L/\L'.Pairwise (λx y=>if b then lt y x=true else lt x y=true)/\Paired S L' out:=by
 obtain ⟨L',h1,h2⟩:=gi hp hL
 refine ⟨L',h1,?_,h2⟩
 have hm:∀ x∈L',x∈L:=λx hx=>h1.mem_iff.mp hx
 have nd':L'.Nodup:=h1.nodup_iff.mpr nd
 clear h1 hp hL nd
 unfold Ord at ho
 induction h2 with
 | nil=>exact .nil
 | @cons x u xs us r t ih =>
  obtain ⟨q1,q2⟩:=RH.mp ho
  obtain ⟨n1,n2⟩:=QL.mp nd'
  refine .cons (λy hy=>?_) (ih q2 (λz hz=>hm z (OJ _ hz)) n2)
  have hx:=hm x OI
  have hyL:=hm y (OJ _ hy)
  obtain ⟨v,hv,sv⟩:∃ v∈us,S y v:=by
   clear ih ho q1 q2 n1 n2 hm nd'
   induction t with
   | nil=>cases hy
   | cons r t ih2 =>
    rcases OM.mp hy with rfl | hy
    ·exact ⟨_,OI,r⟩
    ·obtain ⟨v,h1,h2⟩:=ih2 hy; exact ⟨v,OJ _ h1,h2⟩
  have q:=q1 v hv
  rw [j4 inj hx (p:=(u,u)) r,j4 inj hyL (p:=(v,v)) sv] at q
  have ne:x≠y:=λz=>n1 (z ▸ hy)
  cases b with
  | true =>
   simp only [if_true] at q |-
   rcases h.tot x hx y hyL ne with w | w
   ·have:=j3 h hx hyL w; lia
   ·exact w
  | false =>
   simp only [Pj,if_false] at q |-
   rcases h.tot x hx y hyL ne with w | w
   ·exact w
   ·have:=j3 h hyL hx w; lia
end
theorem Ar (inj:∀ x y u,S x u->S y u->x=y) (h:FE lt L) (hL:Paired S L us)
 (hk:∀ x∈L,∀ y∈L,∀ u v,S x u->S y v->∀ (E:Value->Shared->Prop) (Q:Bool->Shared->Prop),Q (lt x y) s->wpAny (model prog w) A (keyLt' κ u v) Q E s):iH prog w A s κ (xr S lt L) (dup us):=by
 intro p hp q hq E Q hQ
 simp only [dup,O1] at hp hq
 obtain ⟨u,hu,rfl⟩:=hp
 obtain ⟨v,hv,rfl⟩:=hq
 obtain ⟨x,hx,sx⟩:=iw hL u hu
 obtain ⟨y,hy,sy⟩:=iw hL v hv
 refine hk x hx y hy u v sx sy E Q ?_
 rw [j4 inj hx (p:=(u,u)) sx,j4 inj hy (p:=(v,v)) sy,DG h hx hy] at hQ
 exact hQ
end SR
namespace SR
open PySem PySem.Calls PyProof.Rows L2 EV
theorem lZ (a):Builtin.«list.sort» ⟨[.ref a],[(Om "key",.builtin "len")]⟩=(do
 let items <- R1 (.ref a)
 QH (.ref a) λ_=> #[]
 let before <- seqEpoch a
 let held <- newTuple items.toList
 let keyStore <- newList []
 holding [held,keyStore] do
  rule "list.sort.key"
  for x in items do
   match <- (call (.builtin "len") [x]).attempt with
   | .ok k=>QH keyStore (·.push k)
   | .error e =>
    rule "list.sort.key-raised"
    let made <- R1 keyStore
    QH keyStore λ_=> #[]
    letGo made.toList.reverse [e]
    QH (.ref a) λ_=>items; throw e
  let keys <- R1 keyStore
  let kind <- if items.size<2 then pure general' else keyKind' keys
  let ((),s) <- (if items.size<2 then pure () else sortRuns').run (QU kind (keys.zip items) #[] 7 none)
  QH keyStore λ_=> #[]
  letGo ((arrOf s).map (·.1)).toList (failedOf s).toList
  let touched:=(<- seqEpoch a) != before
  QH (.ref a) λ_=>(arrOf s).map (·.2)
  if let some e:=failedOf s then rule "list.sort.comparison-raised"; throw e
  if touched then rule "list.sort.modified"; raiseError "ValueError" "list modified during sort"
  ret .none):=by
 rfl
theorem iy (a v):argsOk "list.sort" ⟨[a],[(Om "key",v)]⟩:=by unfold argsOk; kernel_rfl
theorem jQ (a v):argsOk "sorted" ⟨[a],[(Om "key",v)]⟩:=by unfold argsOk; kernel_rfl
noncomputable def intOf (p:Keyed):Int:=match p.1 with | .int m _=>m | _=>0
theorem vp:∀ {ks vs:List Value},ks.length=vs.length->(ks.zip vs).map (·.2)=vs
 | [],[],_=>rfl
 | k::ks,v::vs,h=>by rw [S9,OA,vp (by simpa using h)]
 | [],_::_,h=>by simp at h
 | _::_,[],h=>by simp at h
theorem vq {ks vs:List Value} {ms:List Int} (h:IntsAre ks ms) {p:Keyed} (hp:p∈ks.zip vs):∃ m t,p.1=.int m t:=by
 obtain ⟨k,v⟩:=p
 exact h.all k (Tr hp).1
theorem Au (ho:s.heap.get? a=some (seqObj "list" vs.toArray n)) (hz:vs.length<=sizeLine)
 (hv:∀ v∈vs,∃ (l:Addr) (items:Array Value),v=.ref l/\l≠a/\s.heap.IsList l items/\items.size<=sizeLine)
 (h:∀ (out:Array Value) (h':Heap) (tk e:Nat),out.toList.Perm vs->h'.get? a=some (seqObj "list" out e)->(∀ c o,c≠a->s.heap.get? c=some o->h'.get? c=some o)->P (.done (.ret .none)) { s with heap:=h',toks:=tk }) :
 wpAny (model prog w) A (Builtin.«list.sort» ⟨[.ref a],[(Om "key",.builtin "len")]⟩) P E s:=by
 rw [lZ]
 have lta:a<s.heap.objs.size:=Oz ho
 refine Ol (Sj ho rfl (Ol (Qc ho rfl ?_ (by simpa using hz))))
 obtain ⟨e1,ho1⟩:∃ e1,(s.heap.update a (O4 λ_=> #[])).get? a=some (seqObj "list" #[] e1):=⟨_,Tp ho (λ_=> #[])⟩
 have oth:∀ c o,c≠a->s.heap.get? c=some o->(s.heap.update a (O4 λ_=> #[])).get? c=some o:=λc o hc q=>by rw [QJ _ _ _ _ hc]; exact q
 refine Ol (RS ho1 rfl (Ol (Tw ?_ (by simpa using hz))))
 refine Ol (Se (PY ?_))
 generalize hkS:((s.heap.update a (O4 λ_=> #[])).push (seqObj "tuple" vs.toArray 0)).objs.size=kS
 have hks:(((s.heap.update a (O4 λ_=> #[])).push (seqObj "tuple" vs.toArray 0)).push (seqObj "list" #[] 0)).get? kS=some (seqObj "list" #[] 0):=by rw [<- hkS]; exact OF _ rfl
 have kne:∀ c,c<s.heap.objs.size->c≠kS:=λc hc e=>by
  rw [<- hkS,size_push',U3] at e; lia
 have k1:∀ c o,c≠a->s.heap.get? c=some o->(((s.heap.update a (O4 λ_=> #[])).push (seqObj "tuple" vs.toArray 0)).push (seqObj "list" #[] 0)).get? c=some o:=λc o hc q=>Ow _ (Ow _ (oth c o hc q))
 have ho6:(((s.heap.update a (O4 λ_=> #[])).push (seqObj "tuple" vs.toArray 0)).push (seqObj "list" #[] 0)).get? a=some (seqObj "list" #[] e1):=Ow _ (Ow _ ho1)
 dsimp only
 generalize (((s.heap.update a (O4 λ_=> #[])).push (seqObj "tuple" vs.toArray 0)).push (seqObj "list" #[] 0))=h1 at hks k1 ho6 |-
 have hak:a≠kS:=kne a lta
 refine Ol (Pw ?_)
 refine Ol (Pe (wpAny_forIn_array' _ (λrest _ s'=>∃ (dn:List Value) (ks:List Value) (ms:List Int) (hh:Heap) (tk e:Nat),vs=dn++rest/\s'={ s with heap:=hh,toks:=tk }/\IntsAre ks ms/\ks.length=dn.length/\hh.get? kS=some (seqObj "list" ks.toArray e)/\∀ c o,c≠kS->h1.get? c=some o->hh.get? c=some o)
  (λ_ s'=>∃ (ks:List Value) (ms:List Int) (hh:Heap) (tk e:Nat),s'={ s with heap:=hh,toks:=tk }/\IntsAre ks ms/\ks.length=vs.length/\hh.get? kS=some (seqObj "list" ks.toArray e)/\∀ c o,c≠kS->h1.get? c=some o->hh.get? c=some o) ?turn ?fin _ _ ?beg) ?rest λ_ _ e=>e)
 case beg=>exact ⟨[],[],[],h1,_,0,rfl,rfl,.nil,rfl,hks,λ_ _ _ q=>q⟩
 case fin =>
  rintro _ s' ⟨dn,ks,ms,hh,tk,e,e1,e2,e3,e4,e5,e6⟩
  rw [PD] at e1
  exact ⟨ks,ms,hh,tk,e,e2,e3,by rw [e4,e1],e5,e6⟩
 case turn =>
  rintro v rest _ s' ⟨dn,ks,ms,hh,tk,e,ev,rfl,e3,e4,e5,e6⟩
  obtain ⟨l,items,rfl,hla,hli,hsz⟩:=hv v (by rw [ev]; simp)
  obtain ⟨o,q1,q2,q3⟩:=hli
  have hl':hh.IsList l items:=⟨o,e6 l o (kne l (Oz q1)) (k1 l o hla q1),q2,q3⟩
  refine Ol (QN (call_len_list hl' (by have:=nP; lia) ?_))
  dsimp only
  have hkl:ks.length<=sizeLine:=by rw [e4]; have:=congrArg Rl ev; simp at this; lia
  refine Ol (Qc e5 rfl ?_ (by simpa using hkl) (by simp; lia))
  refine Oq ⟨dn++[.ref l],ks++[.int items.size (tk+1)],ms++[(items.size:Int)],_,_,e+1,by rw [ev]; simp,rfl,e3.append (.cons _ _ .nil),by simp [e4],?_,λc o hc q=>?_⟩
  ·have:=Tp e5 (λa=>a.push (.int items.size (tk+1)))
   simpa using this
  ·rw [QJ _ _ _ _ hc]; exact e6 c o hc q
 case rest =>
  rintro _ s' ⟨ks,ms,hh,tk,e,rfl,e3,e4,e5,e6⟩
  refine Ol (Sj e5 rfl ?_)
  have zl:(ks.toArray.zip vs.toArray).toList=ks.zip vs:=by rw [Array.toList_zip]
  have hoa:=e6 a _ hak ho6
  have pl:∀ {st':SortSt},(arrOf st').toList.Perm (ks.zip vs)->((arrOf st').map (·.2)).toList.Perm vs:=λ{st'} hp=>by
   rw [U5]
   have:=hp.map (·.2)
   rwa [vp e4] at this
  have ho7:(hh.update kS (O4 λ_=>(#[]:Array Value))).get? a=some (seqObj "list" #[] e1):=by rw [QJ _ _ _ _ hak]; exact hoa
  have fin:∀ (out:Array Value),out.toList.Perm vs->P (.done (.ret .none)) { s with heap:=(hh.update kS (O4 λ_=>(#[]:Array Value))).update a (O4 λ_=>out),toks:=tk }:=λout hp =>
   h out _ _ _ hp (Tp ho7 (λ_=>out)) λc o hc q=>by
    have lc:=Oz q
    rw [QJ _ _ _ _ hc,QJ _ _ _ _ (kne c lc)]
    exact e6 c o (kne c lc) (k1 c o hc q)
  have hkz:(ks.toArray:Array Value).size<=sizeLine:=by rw [OP,e4]; exact hz
  have oz:∀ {out:Array Value},out.toList.Perm vs->out.size<=sizeLine+1:=λ{out} hp=>by
   have l:=hp.length_eq
   rw [Pg] at l; lia
  by_cases h2:vs.toArray.size<2
  ·rw [if_pos h2,if_pos h2]
   refine Ol (Oq ?_)
   rw [StateT.run_pure]
   refine Ol (Oq ?_)
   dsimp only
   have p0:=pl (st':=QU general' (ks.toArray.zip vs.toArray) #[] 7 none) (by show (ks.toArray.zip vs.toArray).toList.Perm _; rw [zl])
   refine Ol (Qc e5 rfl ?_ hkz)
   refine Ol (Rk ?_)
   refine Ol (RS ho7 rfl (Ol (Qc ho7 rfl ?_ (hsz2:=oz p0))))
   simp only [bne_self_eq_false,Pj,if_false]
   exact Oq (fin _ p0)
  ·rw [if_neg h2,if_neg h2]
   rw [ksk_kind (kz:=ms) e3 (by rw [OP,e4]; simpa using h2)]
   refine Ol (Oq ?_)
   have hC:iH prog w A { s with heap:=hh,toks:=tk } oneType' intOf (ks.zip vs):=λx hx y hy E Q hQ=>by
    obtain ⟨m,t,ex⟩:=vq e3 hx
    obtain ⟨m',t',ey⟩:=vq e3 hy
    unfold intOf at hQ
    rw [ex,ey] at hQ |-
    rw [keyLt'_oneType]
    exact oneLt_int hQ
   refine Ol (Pe (wpS_sortRuns (κ:=oneType') (rk:=intOf) (L:=ks.zip vs) (st:=QU oneType' (ks.toArray.zip vs.toArray) #[] 7 none)
    (Q:=λ_ st'=>(arrOf st').toList.Perm (ks.zip vs)/\failedOf st'=none) hC ⟨(by show (ks.toArray.zip vs.toArray).toList.Perm _; rw [zl]),rfl,rfl⟩ rfl λst' a1 a2=>⟨a1.perm,a1.failed⟩) ?_ λ_ _ e=>e)
   rintro ⟨⟨⟩,st'⟩ s' ⟨rfl,hp,hf⟩
   dsimp only
   refine Ol (Qc e5 rfl ?_ hkz)
   refine Ol (Rk ?_)
   refine Ol (RS ho7 rfl (Ol (Qc ho7 rfl ?_ (hsz2:=oz (pl hp)))))
   rw [hf]
   simp only [bne_self_eq_false,Pj,if_false]
   exact Oq (fin _ (pl hp))
end SR
namespace EV
open PySem PySem.Spec PySem.Calls PyProof.Rows L2
theorem j5:∀ l:List Int,HT.lexLt l l=false
 | []=>rfl
 | x::l=>by rw [HT.cQ,if_pos rfl]; exact j5 l
theorem sY:∀ {a b c:List Int},HT.lexLt a b=true->HT.lexLt b c=true->HT.lexLt a c=true
 | [],[],_,h,_=>by cases h
 | [],_::_,[],_,h=>by cases h
 | [],_::_,_::_,_,_=>rfl
 | _::_,[],_,h,_=>by cases h
 | _::_,_::_,[],_,h=>by cases h
 | x::a,y::b,z::c,h,g=>by
  rw [HT.cQ] at h g |-
  by_cases e:x=y
  ·subst e
   rw [if_pos rfl] at h
   by_cases f:x=z
   ·subst f; rw [if_pos rfl] at g |-; exact sY h g
   ·rw [if_neg f] at g |-; exact g
  ·rw [if_neg e] at h
   have h:=of_decide_eq_true h
   by_cases f:y=z
   ·subst f; rw [if_neg e]; exact decide_eq_true h
   ·rw [if_neg f] at g
    have g:=of_decide_eq_true g
    rw [if_neg (by lia)]; exact decide_eq_true (by lia)
theorem j6:∀ {a b:List Int},a≠b->HT.lexLt a b=true\/HT.lexLt b a=true
 | [],[],h=>absurd rfl h
 | [],_::_,_=>.inl rfl
 | _::_,[],_=>.inr rfl
 | x::a,y::b,h=>by
  rw [HT.cQ,HT.cQ]
  by_cases e:x=y
  ·subst e
   rw [if_pos rfl,if_pos rfl]
   exact j6 λz=>h (by rw [z])
  ·rw [if_neg e,if_neg (OT e)]
   rcases Int.lt_or_gt_of_ne e with z | z
   ·exact .inl (decide_eq_true z)
   ·exact .inr (decide_eq_true z)
noncomputable abbrev aF:=List Int×Int
noncomputable def c6 (x y:aF):Bool:=if x.1=y.1 then decide (x.2<y.2) else HT.lexLt x.1 y.1
theorem ou (L:List aF):SR.FE c6 L where
 irr:=λx _=>by unfold c6; rw [if_pos rfl]; exact decide_eq_false (Int.lt_irrefl _)
 tr:=λx _ y _ z _ h g=>by
  unfold c6 at *
  by_cases e:x.1=y.1
  ·rw [if_pos e] at h
   by_cases f:y.1=z.1
   ·rw [if_pos f] at g; rw [if_pos (e.trans f)]
    exact decide_eq_true (Int.lt_trans (of_decide_eq_true h) (of_decide_eq_true g))
   ·rw [if_neg f] at g; rw [if_neg (λw=>f (e.symm.trans w)),e]; exact g
  ·rw [if_neg e] at h
   by_cases f:y.1=z.1
   ·rw [if_neg (λw=>e (w.trans f.symm)),<- f]; exact h
   ·rw [if_neg f] at g
    have q:=sY h g
    rw [if_neg λw=>by rw [w,j5] at q; cases q]; exact q
 tot:=λx _ y _ h=>by
  unfold c6
  by_cases e:x.1=y.1
  ·rw [if_pos e,if_pos e.symm]
   have:x.2≠y.2:=λz=>h (Prod.ext e z)
   rcases Int.lt_or_gt_of_ne this with z | z
   ·exact .inl (decide_eq_true z)
   ·exact .inr (decide_eq_true z)
  ·rw [if_neg e,if_neg (OT e)]
   exact j6 e
noncomputable abbrev aO (t:aF):D:=.tup [.tup (t.1.map .int),.int t.2]
section
variable {X:Cx}
def jR (K:Oo) (Hf:Hp) (d:D) (u:Value):Prop:=∃ v,RelV v u/\Rep K Hf d v
theorem Av (l m:List Int):lR 1 (.tup (l.map .int)) (.tup (m.map .int)):=.tup λi d e h1 h2=>by
 simp only [OE,OL] at h1 h2
 obtain ⟨x,_,rfl⟩:=h1
 obtain ⟨y,_,rfl⟩:=h2
 exact .sc rfl
theorem i6:∀ {l:List Int} {ys:List V},au X.K Hf (l.map D.int) ys->ys=l.map V.int
 | [],ys,h=>aC.mp h
 | n::l,ys,h=>by
  obtain ⟨y,r,rfl,z1,z2⟩:=aE.mp h
  rw [aB] at z1; subst z1
  rw [i6 z2]; rfl
theorem iz:∀ (l:List α) (r:List β) {Q:List β->Shared->Prop},Paired (λa b=>∀ (Q:β->Shared->Prop),Q b s->wpAny M A (f a) Q E s) l r->Q r s->wpAny M A (l.mapM f) Q E s
 | _,_,Q,.nil,h=>by rw [List.mapM_nil]; exact Oq h
 | _,_,Q,.cons q t,h=>by
  rw [List.mapM_cons]
  exact Ol (q _ (Ol (iz _ _ t (Oq h))))
end
noncomputable abbrev DH (X:Cx) (A:Around):Cx:={ X with A:=A }
theorem KW (ok:X.Ok) (h1:X.calm=true->A.handled=none) (h2:A.frames=some X.stack):(DH X A).Ok :=
 ⟨ok.mod,ok.kind,ok.glob,ok.blt,ok.above,ok.inj,ok.has,ok.cab,h1,h2,ok.stk,ok.exf,ok.bs,ok.bsz,ok.noex,ok.exfs,ok.jj,ok.frf⟩
theorem jw (I:Inv X aa σ H s) (h1:X.calm=true->A.handled=none) (h2:A.frames=some X.stack):Inv (DH X A) aa σ H s :=
 ⟨KW I.ok h1 h2,I.os,I.bare,I.base,I.loc,I.cell,I.free,I.freeC,I.pin,I.hok,I.len⟩
theorem gj (ok:X.Ok) (I:Inv (DH X A) aa σ H s):Inv X aa σ H s :=
 ⟨ok,I.os,I.bare,I.base,I.loc,I.cell,I.free,I.freeC,I.pin,I.hok,I.len⟩
theorem DI {fp:List Addr} (h:∀ b∈fp,fH X aa H b) (n:∀ b∈fp,H' b=none):∀ b∈fp,fH X aa H' b:=λb hb=>⟨n b hb,(h b hb).2⟩
theorem Aw (hc:X.calm=true) (Tn:Turn X.prog X.w X.K (.Name nm np) J fp it tn) (io:iO X.K J ds Cq)
 (hS0:Hb S=none) (hSf:S∉fp) (hn:ds.length<=sizeLine) (okX:X.Ok) (h1:X.A.in1.handled=none) (h2:X.A.in1.frames=some X.stack)
 (fin:∀ (s':Shared) (H' ak:Hp) (xs:List V),Inv X aa σ H' s'->H' S=some (.lst xs)->ak S=none->au X.K ak ds xs->bB Hb Cq H' ak->R (.ok (.ret res)) s') :
 ∀ (k i:Nat) (s:Shared) (H Hf:Hp) (xs:List V),ds.length - i=k->i<=ds.length->Inv X aa σ H s->tn i s.heap->(∀ b∈fp,fH X aa H b)->H S=some (.lst xs)->Hf S=none->au X.K Hf (ds.take i) xs->bB Hb Cq H Hf ->
  codeAny (model X.prog X.w) X.A (.builtin "list.extend.loop" ⟨[.ref S,.ref it,res],[]⟩) R s:=by
 intro k
 induction k with
 | zero =>
  intro i s H Hf xs hk hi I t hf hS hfS hr g
  have e:i=ds.length:=by omega
  subst e
  rw [Pn] at hr
  refine Tq PySem.F.entry_extend_loop ?_
  rw [SY SD _]
  show wpAny _ X.A.in1 (pyNext (.ref it) >>= _) _ _ s
  refine Ol (Pe (Tn.done (DH X X.A.in1) rfl rfl rfl hc _ aa s σ H _ (jw I (λ_=>h1) h2) hf t (io.stop _ H Hf g.f g.b (Ot _))) (λr s' ⟨e,I'⟩=>?_) λ_ _ x=>x)
  subst e
  exact Oq (fin s' H Hf xs (gj okX I') hS hfS hr g)
 | succ k ih =>
  intro i s H Hf xs hk hi I t hf hS hfS hr g
  have lt:i<ds.length:=by omega
  have ed:ds[i]?=some ds[i]:=OR lt
  obtain ⟨hgo,hy⟩:=io.go i ds[i] H Hf g.f g.b ed
  refine Tq PySem.F.entry_extend_loop ?_
  rw [SY SD _]
  show wpAny _ X.A.in1 (pyNext (.ref it) >>= _) _ _ s
  refine Ol (Pe (Tn.item (DH X X.A.in1) rfl rfl rfl hc i aa s σ H _ (jw I (λ_=>h1) h2) hf t hgo) (λr s1 ⟨u,e,hu⟩=>?_) λ_ _ x=>x)
  subst e
  show wpAny _ X.A.in1 (letOwnedTupleGo (.Name nm np) (.ref it) u >>= λ_=>(QH (.ref S) (·.push u) >>= λ_=>again (.builtin "list.extend.loop" ⟨[.ref S,.ref it,res],[]⟩))) _ _ s1
  refine Ol (Pe hu (λ_ s2 ⟨x,H',I2,rx,y,t2,n2⟩=>?_) λ_ _ x=>x)
  have I2:=gj okX I2
  obtain ⟨ak,g',rd⟩:=hy x H' y
  have hS':H' S=some (.lst xs):=g'.s _ _ hS
  have hfS':ak S=none:=g'.n S hfS (by rw [hS]; simp) (by intro ys; rw [hS]; simp)
  obtain ⟨z,its,n,rv,el,eo⟩:=I2.pK hS'
  have hx:xs.length=i:=by rw [<- hr.length,Pp]; omega
  have hz:(xs++[x]).length<=sizeLine:=by simp only [O7,Pa,Qp]; omega
  refine Ol (Qc eo rfl ?_ (by simp; omega) (by simp; omega))
  have ef:(λa:Array Value=>a.push u) its.toArray=(its++[u]).toArray:=by simp
  have I3:=I2.sF (f:=λa=>a.push u) (t':=s2.toks) hS' eo ef (rv.append (.cons rx .nil)) hz
  refine Oq ⟨plainId_quiet SD _,ih (i+1) _ (upd H' S (.lst (xs++[x]))) ak (xs++[x]) (by omega) lt I3 (Tn.keep _ _ _ t2 λb hb o e=>?_) (DI hf λb hb=>?_) ah hfS' ?_ (uV (g.trans g') hS0 hfS')⟩
  ·exact (SN _ _ (λw:S=b=>hSf (w ▸ hb))).trans e
  ·rw [aq (λw:b=S=>hSf (w ▸ hb))]; exact n2 b hb
  ·rw [Tf,ed]
   exact (hr.mono g'.f).append (au.one rd)
theorem xu (hT:s.TypeIs (.ref v) "dict_items") (hQ:Q false s):wpAny (model prog w) A (Ru (.ref v)) Q E s:=by
 unfold Ru
 refine Ol (wpAny_specialOf hT PySem.F.slot_dict_items_len.lookup ?_)
 have e:splitId "dict_items.__len__"=some ("dict_items","__len__"):=by decide +kernel
 dsimp only
 rw [e]
 dsimp only
 refine Ol (R7 (b:=true) hT (by rw [isSubtype_type]; kernel_rfl) ?_)
 rw [if_neg (by decide)]
 exact Ol (QO hT (Oq hQ))
theorem DJ (I:Inv X aa σ H s) (hv:s.heap.IsItemsView v d) (hH:H d=some (.frz o u)) (hd:HO.dct u) :
 wpAny (model X.prog X.w) A (pyIter (.ref v)) (λitv s2=>∃ (it:Addr) (es:Array DictEntry) (ep:Nat),itv=.ref it/\s.heap.objs.size<=it/\Inv X aa σ H s2/\Turn X.prog X.w X.K tg (M6 d o u) [it] it (λi h=>Ac h it d i es.size ep)/\Ac s2.heap it d 0 es.size ep/\(∀ b∈[it],fH X aa H b) /\
  (∀ b o,s.heap.get? b=some o->s2.heap.get? b=some o)) E s:=by
 obtain ⟨ho,ok⟩:=(show bq X.prog X.w H s.heap d (.frz o u) from I.hok d _ hH)
 obtain ⟨hx,es,ep,hod,hp,hs,hz⟩:=cR ok hd ho
 refine wZ hv ho hod ?_
 have hsz:es.size=(bL u).length:=by rw [PZ hp]; simp
 refine ⟨_,es,ep,rfl,Ot _,I.kept (t':=s.toks) λb o e=>Ow _ e,sR (o:=o) (u:=u) (es:=es) (ep:=ep) hd hod (λz=>?_) hsz,⟨.none,false,.none,.none,OF _ rfl,.inl rfl⟩,λb hb=>?_,λb o e=>Ow _ e⟩
 ·have lt:=Oz ho
  rw [<- z] at lt
  exact absurd lt (Qj _)
 ·have e:b=s.heap.objs.size:=by simpa using hb
  subst e
  exact I.kh (Ot _) (I.hok.fresh (Ot _))
theorem nq (hc:X.calm=true) (h1:X.A.in1.handled=none) (h2:X.A.in1.frames=some X.stack) (I1:Inv X aa σ (upd H S (.lst [])) s) (sb:aN Hf H) (HS:H S=none) (hvS:S≠src) (hltS:S<s.heap.objs.size) (hn:ds.length<=sizeLine)
 (hT:(false || PU T == PU "list" || PU T == PU "tuple")=false) (ty:∀ s':Shared,(∀ b o,s.heap.get? b=some o->s'.heap.get? b=some o)->s'.TypeIs (.ref src) T)
 (hint:∀ (A:Around) (s':Shared) (Q:Bool->Shared->Prop) (E:Value->Shared->Prop),s'.TypeIs (.ref src) T->Q false s'->wpAny (model X.prog X.w) A (Ru (.ref src)) Q E s')
 (iter:wpAny (model X.prog X.w) X.A.in1 (pyIter (.ref src)) (λitv s2=>∃ (it:Addr) (tn:Nat->Heap->Prop) (J:It),itv=.ref it /\
   s.heap.objs.size<=it/\Inv X aa σ (upd H S (.lst [])) s2/\Turn X.prog X.w X.K (.Name "x" ⟨0,0,0,0⟩) J [it] it tn/\tn 0 s2.heap/\(∀ b∈[it],fH X aa (upd H S (.lst [])) b)/\(∀ b o,s.heap.get? b=some o->s2.heap.get? b=some o)/\iO X.K J ds Hf) E s)
 (hR:∀ (s':Shared) (H' ak:Hp) (xs:List V),Inv X aa σ H' s'->H' S=some (.lst xs)->ak S=none->au X.K ak ds xs->bB H Hf H' ak->R (.ok (.ret res)) s') :
 wpAny (model X.prog X.w) X.A.in1 (Sz (.ref S) (.ref src) res) (λfin s'=>match fin with | .done f=>R (.ok f) s' | .again c=>c.quiet=true/\codeAny (model X.prog X.w) X.A c R s') E s:=by
 unfold Sz
 have ne:Builtin.List.listSameRef (.ref S) (.ref src)=false:=by simp [Builtin.List.listSameRef,hvS]
 refine Ol (QO (ty s λ_ _ e=>e) ?_)
 rw [if_neg (by rw [ne,hT]; decide)]
 refine Ol (Pe iter (λitv s2 hh=>z3 hh λit tn J hh=>w8 hh λe hit I2 Tn t0 hf k2 io=>?_) λ_ _ x=>x)
 subst e
 refine Ol (PY (hint _ s2 _ _ (ty s2 k2) ?_))
 have hSne:it≠S:=QT (Ph hltS hit)
 have g0:bB H Hf (upd H S (.lst [])) Hf:=bB.f7 sb HS
 have fin:∀ s3:Shared,Inv X aa σ (upd H S (.lst [])) s3->tn 0 s3.heap->wpAny (model X.prog X.w) X.A.in1 (again (.builtin "list.extend.loop" ⟨[.ref S,.ref it,res],[]⟩)) (λfin s'=>match fin with | .done f=>R (.ok f) s' | .again c=>c.quiet=true/\codeAny (model X.prog X.w) X.A c R s') E s3:=λs3 I3 t3 =>
  Oq ⟨plainId_quiet SD _,Aw (X:=X) (Hb:=H) (Cq:=Hf) hc Tn io HS (λm=>hSne (OG.mp m).symm) hn I1.ok h1 h2 hR ds.length 0 s3 _ Hf [] (by simp) (OV _) I3 t3 hf ah (sb.free HS) (aC.mpr rfl) g0⟩
 obtain ⟨_,its,n,rv,el,eo⟩:=I2.pK (l:=S) (xs:=[]) ah
 cases rv
 split
 ·refine Ol (Pw ?_)
  unfold Builtin.List.listTouch
  refine Ol (Ol (Qc eo rfl ?_))
  have I3:=I2.sF (f:=λa=>a.push .none) (its':=[.none]) (ys:=[.non]) (t':=s2.toks) ah eo (by simp) (.cons rfl .nil) (by show 1<=sizeLine; decide)
  obtain ⟨_,its3,n3,rv3,el3,eo3⟩:=I3.pK (l:=S) (xs:=[.non]) ah
  cases rv3 with
  | cons r3 t3 =>
   cases t3
   cases r3
   refine Qc eo3 rfl ?_
   have I4:=I3.sF (f:=λa=>a.pop) (its':=[]) (ys:=[]) (t':=s2.toks) ah eo3 (by simp) .nil (OV _)
   rw [nL,nL] at I4
   refine fin _ I4 (Tn.keep 0 _ _ t0 λb hb o e=>?_)
   have hbS:S≠b:=λw=>hSne (by rw [OG.mp hb] at w; exact w.symm)
   exact (SN _ _ hbS).trans ((SN _ _ hbS).trans e)
 ·exact fin s2 I2 t0
theorem kZ (hc:X.calm=true) (h1:X.A.in1.handled=none) (h2:X.A.in1.frames=some X.stack) (I:Inv X aa σ H s) (sb:aN Hf H) (hlt:src<s.heap.objs.size) (hn:ds.length<=sizeLine) (hT:(false || PU T == PU "list" || PU T == PU "tuple")=false)
 (ty:∀ s':Shared,(∀ b o,s.heap.get? b=some o->s'.heap.get? b=some o)->s'.TypeIs (.ref src) T)
 (hint:∀ (A:Around) (s':Shared) (Q:Bool->Shared->Prop) (E:Value->Shared->Prop),s'.TypeIs (.ref src) T->Q false s'->wpAny (model X.prog X.w) A (Ru (.ref src)) Q E s')
 (iter:∀ (A:Around) (s1:Shared) (H1:Hp) (E:Value->Shared->Prop),Inv X aa σ H1 s1->aN Hf H1->(∀ b o,s.heap.get? b=some o->s1.heap.get? b=some o)->wpAny (model X.prog X.w) A (pyIter (.ref src)) (λitv s2=>∃ (it:Addr) (tn:Nat->Heap->Prop) (J:It),itv=.ref it /\
   s1.heap.objs.size<=it/\Inv X aa σ H1 s2/\Turn X.prog X.w X.K (.Name "x" ⟨0,0,0,0⟩) J [it] it tn/\tn 0 s2.heap/\(∀ b∈[it],fH X aa H1 b)/\(∀ b o,s1.heap.get? b=some o->s2.heap.get? b=some o)/\iO X.K J ds Hf) E s1)
 (hQ:∀ (us:List Value) (s':Shared) (H' ak:Hp) (xs:List V),Inv X aa σ H' s'->Vals xs us->au X.K ak ds xs->bB H Hf H' ak->ds.length<=sizeLine->Q us s'):wpAny (model X.prog X.w) X.A (collect (.ref src)) Q E s:=by
 unfold collect
 refine Ol (wpAny_runValue (Tq PySem.F.entry_proto_collect ?_))
 rw [SY PySem.F.plain_proto_collect _]
 show wpAny _ X.A.in1 (newList [] >>= λl=>again (.builtin "list.__iadd__" ⟨[l,.ref src],[]⟩)) _ _ s
 have HS:H s.heap.objs.size=none:=I.hok.fresh (Ot _)
 have hvS:s.heap.objs.size≠src:=QT hlt
 refine Ol (Pk (Oq ⟨plainId_quiet PySem.F.plain_list_iadd _,Tq PySem.F.entry_list_iadd ?_⟩))
 rw [SY PySem.F.plain_list_iadd _]
 generalize hS:s.heap.objs.size=S at *
 have I1:Inv X aa σ (upd H S (.lst [])) { s with heap:=s.heap.push { cls:=.type "list",data:=.seq ([]:List Value).toArray },toks:=s.toks }:=by
  have:=I.CL (t':=s.toks) (ys:=[]) (its:=[]) .nil (OV _)
  rw [hS] at this
  exact this
 show wpAny _ X.A.in1 (Sz (.ref S) (.ref src) (.ref S)) _ _ { s with heap:=s.heap.push { cls:=.type "list",data:=.seq ([]:List Value).toArray } }
 have k1:∀ b o,s.heap.get? b=some o->(s.heap.push { cls:=.type "list",data:=.seq ([]:List Value).toArray }).get? b=some o:=λb o e=>Ow _ e
 generalize hs1:({ s with heap:=s.heap.push { cls:=.type "list",data:=.seq ([]:List Value).toArray } }:Shared)=s1
 replace I1:Inv X aa σ (upd H S (.lst [])) s1:=by rw [<- hs1]; exact I1
 replace k1:∀ b o,s.heap.get? b=some o->s1.heap.get? b=some o:=by rw [<- hs1]; exact k1
 have hltS:S<s1.heap.objs.size:=by rw [<- hs1,<- hS]; show _<(Heap.push _ _).objs.size; rw [Qi]; exact Q9 _
 refine nq (R:=λr s'=>match r with
  | .ok (.ret v)=>wpAny (model X.prog X.w) X.A (do
   let .ref a:=v | unsupported "internal:collect"
   let o <- load a
   match o.data with
   | .seq xs _=>pure xs.toList
   | _=>unsupported "internal:collect") Q E s'
  | .ok _=>False
  | .error e=>E e s') hc h1 h2 I1 sb HS hvS hltS hn hT (λs' k=>ty s' λb o e=>k b o (k1 b o e)) hint (iter _ s1 _ _ I1 (bB.f7 sb HS (o:=.lst [])).b k1) λs' H' ak xs I' hS' _ hr g=>?_
 obtain ⟨_,its,n,rv,el,eo⟩:=I'.pK hS'
 exact Ol (wpAny_load eo (Oq (hQ its s' H' ak xs I' rv hr g hn)))
noncomputable def HH (te:TE):TE:=λσ H Q=>te σ H λx H1=>∃ d o u,x=.ref d/\H1 d=some (.frz o u)/\HO.dct u/\∀ v,H1 v=none->Q (.ref v) (upd H1 v (.ext λh=>h.IsItemsView v d))
theorem Ax (he:PE X e te) (hbase:attributeBase e "items" X.env (eval e X.env)=eval e X.env) (hline:(ap.endLine == cp.line)=true):PE X (.Call (.Attribute e "items" ap) [] [] cp) (HH te):=by
 intro aa s σ H Q I h
 refine wpAny_Call_method (T:="dict") (id:="dict.items") hbase rfl hline F.plainAttrs_dict F.slot_dict_items F.type_dict_items (bJ (he aa s σ H _ I h) λv s1 ⟨x,H1,I1,r1,d,o,u,ex,hH,hd,q⟩=>?_)
 subst ex
 cases r1
 obtain ⟨ho,ok⟩:=(show bq X.prog X.w H1 s1.heap d (.frz o u) from I1.hok d _ hH)
 obtain ⟨hx,es,ep,hod,hp,hs,hz⟩:=cR ok hd ho
 have hT:s1.TypeIs (.ref d) "dict":=⟨o,ho,hx.1⟩
 refine ⟨hT,λb z=>by cases z; exact ⟨o,ho,hx.2.1⟩,?_⟩
 show wpAny _ _ (callWith cp (.builtin "dict.items") [.ref d] [] []) _ _ s1
 refine method_meetsIn F.slot_dict_items F.entry_dict_items rfl (PySem.evalArgs_none ⟨rfl,hT,F.args_dict_items_1 _,_,qA d hs,hT,?_⟩)
 have Hv:H1 s1.heap.objs.size=none:=I1.hok.fresh (Ot _)
 have hve:(s1.heap.push { cls:=.type "dict_items",data:=.fields #[.ref d] }).IsItemsView s1.heap.objs.size d:=⟨_,OF _ rfl,rfl,rfl⟩
 have I2:Inv X aa σ (upd H1 s1.heap.objs.size (.ext λh=>h.IsItemsView s1.heap.objs.size d)) { s1 with heap:=s1.heap.push { cls:=.type "dict_items",data:=.fields #[.ref d] },toks:=s1.toks } :=
  I1.laid (a:=s1.heap.objs.size) (λ_ _ q=>Ow _ q) (Ot _) ⟨hve,⟨_,OF _ rfl⟩,λh1 h2 ⟨o,e,r⟩ k=>⟨o,k o e,r⟩⟩
 exact ⟨.ref s1.heap.objs.size,_,I2,rfl,q _ Hv⟩
section
variable {X:Cx} {aa:List (Addr×Obj)} {σ:L2.St} {H Hf:Hp} {s:Shared} {E:Value->Shared->Prop} {α:Type} {enc:α->D} {lt:α->α->Bool} {κ:SortKind}
theorem k9 {K:Oo}:∀ {L:List α} {xs:List V} {us:List Value},au K Hf (L.map enc) xs->Vals xs us->Paired (λx u=>jR K Hf (enc x) u) L us
 | [],xs,us,h,v=>by rw [Rh,aC] at h; subst h; cases v; exact .nil
 | t::L,xs,us,h,v=>by
  rw [OA] at h
  obtain ⟨x,r,rfl,h1,h2⟩:=aE.mp h
  cases v with
  | cons r1 r2=>exact .cons ⟨x,r1,h1⟩ (k9 h2 r2)
theorem lg {K:Oo}:∀ {L:List α} {us:List Value},Paired (λx u=>jR K Hf (enc x) u) L us->∃ xs,au K Hf (L.map enc) xs/\Vals xs us
 | _,_,.nil=>⟨[],aC.mpr rfl,.nil⟩
 | _,_,.cons ⟨x,r1,h1⟩ t=>by
  obtain ⟨xs,h2,h3⟩:=lg t
  exact ⟨x::xs,.cons h1 h2,.cons r1 h3⟩
structure KY (X:Cx) (enc:α->D) (lt:α->α->Bool) (κ:SortKind):Prop where
 lin:∀ L:List α,SR.FE lt L
 inj:∀ (aa:List (Addr×Obj)) (σ:L2.St) (H Hf:Hp) (s:Shared),Inv X aa σ H s->aN Hf H->∀ x y u,jR X.K Hf (enc x) u->jR X.K Hf (enc y) u->x=y
 kind:∀ (aa:List (Addr×Obj)) (σ:L2.St) (H Hf:Hp) (s:Shared) (A:Around) (E:Value->Shared->Prop),Inv X aa σ H s->aN Hf H->∀ (L:List α) (us:List Value),Paired (λx u=>jR X.K Hf (enc x) u) L us->2<=us.length->∀ Q:SortKind->Shared->Prop,Q κ s->wpAny (model X.prog X.w) A (keyKind' us.toArray) Q E s
 cmp:∀ (aa:List (Addr×Obj)) (σ:L2.St) (H Hf:Hp) (s:Shared) (A:Around) (E:Value->Shared->Prop),Inv X aa σ H s->aN Hf H->A.units+10<cLine->∀ (x y:α) (u v:Value),jR X.K Hf (enc x) u->jR X.K Hf (enc y) v->∀ Q:Bool->Shared->Prop,Q (lt x y) s->wpAny (model X.prog X.w) A (keyLt' κ u v) Q E s
def fN (lt:α->α->Bool) (b:Bool) (L:List α):Prop:=L.Pairwise λx y=>if b then lt y x=true else lt x y=true
abbrev i7 (b:Bool) (L:List aF):Prop:=fN c6 b L
theorem Ay {Q:Value->Shared->Prop} (hs:KY X enc lt κ) (I:Inv X aa σ H s) (sb:aN Hf H) (hA:A.units+20<cLine) (hr:au X.K Hf (L.map enc) xs) (hv:Vals xs us) (hz:us.length<=sizeLine) (nd:L.Nodup)
 (hQ:∀ (L':List α) (xs':List V) (s':Shared),L'.Perm L->fN lt b L'->au X.K Hf (L'.map enc) xs'->xs'.length<=sizeLine->Inv X aa σ (upd H s.heap.objs.size (.lst xs')) s'->Q (.ref s.heap.objs.size) s') :
 wpAny (model X.prog X.w) A (newList us >>= λl=>(holding [l] (call (.builtin "list.sort") [l] [(Om "reverse",.bool b)]) >>= λ_=>ret l)) (λfin s'=>∃ v,fin=.done (.ret v)/\Q v s') E s:=by
 refine Ol (Se ?_ hz)
 have ha:(s.heap.push (seqObj "list" us.toArray 0)).get? s.heap.objs.size=some (seqObj "list" us.toArray 0):=OF _ rfl
 have I1:Inv X aa σ H { s with heap:=s.heap.push (seqObj "list" us.toArray 0),toks:=s.toks }:=I.kept λb o e=>Ow _ e
 have Ha:H s.heap.objs.size=none:=I.hok.fresh (Ot _)
 obtain ⟨f0,f1,f2,f3,f4,f5⟩:=I.kh (H':=H) (Ot _) Ha
 have pL:=k9 hr hv
 refine Ol (PY (UA slot_list_sort ⟨_,ha,rfl⟩ entry_list_sort (SR.nk (κ:=κ) (rk:=SR.xr (λx u=>jR X.K Hf (enc x) u) lt L) (b:=b) ha ?_ hz λout hp ho=>⟨_,rfl,?_⟩) (args_list_sort_rev _ _)))
 ·intro h' k
  have I2:=I1.turned (h':=h') (t':=s.toks) (it:=s.heap.objs.size) (λb o hb e=>k b o hb e) f0 f1 f3 f4 f5
  refine ⟨λQ E h2 hQ=>hs.kind _ _ _ _ _ _ _ I2 sb _ _ pL h2 _ hQ,SR.Ar (λx y u h1 h2=>hs.inj _ _ _ _ _ I2 sb x y u h1 h2) (hs.lin L) pL λx _ y _ u v hx hy E Q hQ=>hs.cmp _ _ _ _ _ _ _ I2 sb ?_ _ _ _ _ hx hy _ hQ⟩
  show A.units+1+10<cLine
  lia
 ·obtain ⟨L',p1,p2,p3⟩:=SR.qQ (S:=λx u=>jR X.K Hf (enc x) u) (λx y u h1 h2=>hs.inj _ _ _ _ _ I sb x y u h1 h2) (hs.lin L) nd pL hp ho
  obtain ⟨xs',r',v'⟩:=lg p3
  obtain ⟨e,he⟩:=sortedHeap_at (vs:=us) (out:=out) ha
  have hl:out.toList.length=us.length:=hp.length_eq
  refine Oq ⟨_,rfl,hQ L' xs' _ p1 p2 r' ?_ ?_⟩
  ·have:=v'.length; lia
  ·refine I.laid (t':=s.toks) (λb o q=>?_) (Ot _) ⟨by have:=v'.length; lia,out.toList,e,v',by simpa using he⟩
   have lt:=Oz q
   rw [sortedHeap_old (OU lt) (by rw [size_push']; exact Td lt)]
   exact Ow _ q
end
section
variable {K:Oo}
end
section
variable {K:Oo}
end
end EV
namespace EV
open PySem PySem.Spec PyProof.Rows L2
noncomputable def trim (l:List Int):List Int:=(l.reverse.dropWhile λx=>x == 0).reverse
theorem gI (l):trim (l++[0])=trim l:=by simp [trim]
theorem nv (l) (h:x≠0):trim (l++[x])=l++[x]:=by simp [trim,List.dropWhile_cons,h]
theorem jx {l:List Int} (h:m<l.length):l.take (m+1)=l.take m++[l.getD m 0]:=by
 rw [Px h]; simp [PJ,h]
theorem ny (h:m<l.length) (z:l.getD m 0=0) (e:trim (l.take (m+1))=trim l):trim (l.take m)=trim l:=by
 rw [jx h,z,gI] at e; exact e
theorem jy (h:m<l.length) (z:l.getD m 0≠0) (e:trim (l.take (m+1))=trim l):l.take (m+1)=trim l:=by
 rw [<- e,jx h,nv _ z]
theorem gm (l):(trim l).length<=l.length:=by
 unfold trim
 rw [UD]
 exact OD (List.dropWhile_sublist _).length_le (by simp)
theorem cG (l):trim (trim l)=trim l:=by
 unfold trim
 rw [List.reverse_reverse]
 congr 1
 generalize l.reverse=r
 induction r with
 | nil=>rfl
 | cons x r ih=>by_cases h:x == 0 <;> simp [List.dropWhile_cons,h,ih]
theorem Az (l:List α) (h:m<=l.length):EV.cutD l none (some (m:Int))=l.take m:=by
 unfold EV.cutD HT.cy
 have e:¬ (m:Int)<0:=by lia
 simp only [e,if_false,O0]
 simp [RN h]
section
variable {K:Oo}
end
noncomputable def encA (A:List aF):List (List Key×D):=A.map λt=>(t.1.map OO,.int t.2)
theorem oA:∀ {l m:List Int},(l.map (OO:Int->Key))=m.map OO->l=m
 | [],[],_=>rfl
 | x::l,y::m,h=>by
  simp only [OA,List.cons.injEq,OO.injEq] at h
  rw [h.1,oA h.2]
 | [],_::_,h=>by simp at h
 | _::_,[],h=>by simp at h
theorem oB (A) (l):bC (encA A) (l.map OO)=(bC A l).map D.int:=by
 induction A with
 | nil=>rfl
 | cons t A ih =>
  by_cases e:t.1=l
  ·rw [bf e]
   show bC ((t.1.map OO,D.int t.2)::encA A) _=_
   rw [bf (by rw [e])]; rfl
  ·rw [aW e,<- ih]
   show bC ((t.1.map OO,D.int t.2)::encA A) _=_
   rw [aW λz=>e (oA z)]
theorem DK (A) (l) (n):putD (encA A) (l.map OO) (.int n)=encA (putD A l n):=by
 unfold putD
 rw [oB]
 by_cases h:(bC A l).isSome=true
 ·rw [if_pos h,if_pos (by rw [Q8]; exact h)]
  unfold encA
  rw [OQ,OQ]
  refine Qv λt _=>?_
  simp only [TU]
  by_cases e:t.1=l
  ·rw [if_pos e,if_pos (by rw [e])]
  ·rw [if_neg e,if_neg λz=>e (oA z)]
 ·rw [if_neg h,if_neg (by rw [Q8]; exact h)]
  unfold encA
  simp
theorem fy:∀ l:List Int,D.keys (l.map D.int)=some (l.map OO)
 | []=>rfl
 | x::l=>by
  simp only [OA]
  unfold D.keys
  rw [fy l]; rfl
theorem DL (A:List aF) (l:List Int) (n:Int):(putD A l n).length<=A.length+1:=by
 unfold putD; split <;> simp
theorem DM (A):(encA A).length=A.length:=by simp [encA]
theorem qR (l:List Int) (n:Int) (h:(A.map (·.1)).Nodup):((putD A l n).map (·.1)).Nodup:=by
 unfold putD
 split
 ·rw [OQ]
  have e:(A.map ((·.1)∘λkv:aF=>if kv.1=l then (kv.1,n) else kv))=A.map (·.1):=Qv λt _=>by
   simp only [TU]; split <;> rfl
  rw [e]; exact h
 ·rename_i q
  rw [Pu,List.nodup_append]
  refine ⟨h,by simp,?_⟩
  intro a ha b hb
  simp at hb
  subst hb
  intro z
  subst z
  apply q
  obtain ⟨t,ht,e⟩:=O1.mp ha
  unfold bC
  rw [Q8,List.find?_isSome]
  exact ⟨t,ht,decide_eq_true e⟩
theorem keys_nodup {A:List aF} (h:(A.map (·.1)).Nodup):A.Nodup:=by
 unfold Sq at *
 rw [Qy] at h
 exact h.imp λq z=>q (by rw [z])
noncomputable def fC (A:List aF) (t:aF):List aF:=putD A (trim t.1) ((bC A (trim t.1)).getD 0+t.2)
noncomputable def aL (ts:List aF):List aF:=ts.foldl fC []
theorem qS (ts) (t):aL (ts++[t])=fC (aL ts) t:=by simp [aL]
theorem oE (ts:List aF) (A):(ts.foldl fC A).length<=A.length+ts.length:=by
 induction ts generalizing A with
 | nil=>simp
 | cons t ts ih =>
  have h1:=ih (fC A t)
  have h2:=DL A (trim t.1) ((bC A (trim t.1)).getD 0+t.2)
  simp only [P8,Pa]
  unfold fC at *
  lia
theorem gJ (ts):(aL ts).length<=ts.length:=by
 have:=oE ts []
 simpa [aL] using this
theorem d7 (ts):((aL ts).map (·.1)).Nodup:=by
 unfold aL
 have:∀ A:List aF,(A.map (·.1)).Nodup->((ts.foldl fC A).map (·.1)).Nodup:=by
  induction ts with
  | nil=>exact λA h=>h
  | cons t ts ih=>exact λA h=>ih _ (qR _ _ h)
 exact this [] (by simp)
theorem DN (x):c6 x x=false:=(ou [x]).irr x (by simp)
theorem AA (h:c6 x y=true) (g:c6 y z=true):c6 x z=true:=(ou [x,y,z]).tr x (by simp) y (by simp) z (by simp) h g
theorem lu:∀ {L M:List aF},L.Perm M->i7 true L->i7 true M->L=M
 | [],M,h,_,_=>by rw [List.nil_perm] at h; exact h.symm
 | x::L,[],h,_,_=>by simp at h
 | x::L,y::M,h,h1,h2=>by
  unfold i7 fN at h1 h2
  rw [RH] at h1 h2
  by_cases e:x=y
  ·subst e
   rw [lu ((List.perm_cons _).mp h) h1.2 h2.2]
  ·exfalso
   have hx:x∈M:=by
    have:=h.subset (OI)
    rcases OM.mp this with z | z
    ·exact absurd z e
    ·exact z
   have hy:y∈L:=by
    have:=h.symm.subset (OI)
    rcases OM.mp this with z | z
    ·exact absurd z.symm e
    ·exact z
   have a:=h1.1 y hy
   have b:=h2.1 x hx
   simp only [if_true] at a b
   have:=AA a b
   rw [DN] at this; cases this
noncomputable def xw (t:aF):List aF->List aF
 | []=>[t]
 | x::r=>if c6 x t=true then t::x::r else x::xw t r
noncomputable def eY (L:List aF):List aF:=L.foldr xw []
theorem ly (t):∀ L:List aF,(xw t L).Perm (t::L)
 | []=>.refl _
 | x::r=>by
  unfold xw
  split
  ·exact .refl _
  ·exact ((ly t r).cons x).trans (.swap _ _ _)
theorem bz:∀ L:List aF,(eY L).Perm L
 | []=>.refl _
 | t::L=>(ly t (eY L)).trans ((bz L).cons t)
theorem DO (h:x≠y):c6 x y=true\/c6 y x=true:=(ou [x,y]).tot x (by simp) y (by simp) h
theorem vv (t):∀ L:List aF,t∉L->i7 true L->i7 true (xw t L)
 | [],_,_=>Ry _ _
 | x::r,hn,h=>by
  have h':=h
  unfold i7 fN at h'
  rw [RH] at h'
  unfold xw
  by_cases e:c6 x t=true
  ·rw [if_pos e]
   unfold i7 fN
   rw [RH]
   refine ⟨λy hy=>?_,h⟩
   simp only [if_true]
   rcases OM.mp hy with rfl | z
   ·exact e
   ·have:=h'.1 y z
    simp only [if_true] at this
    exact AA this e
  ·rw [if_neg e]
   unfold i7 fN
   rw [RH]
   refine ⟨λy hy=>?_,vv t r (λz=>hn (OJ _ z)) h'.2⟩
   rcases OM.mp ((ly t r).subset hy) with rfl | z
   ·simp only [if_true]
    rcases DO (x:=x) (y:=y) (λz=>hn (by rw [z]; exact OI)) with q | q
    ·exact absurd q e
    ·exact q
   ·exact h'.1 y z
theorem gK:∀ {L:List aF},L.Nodup->i7 true (eY L)
 | [],_=>R6
 | t::L,h=>by
  rw [QL] at h
  exact vv t _ (λz=>h.1 ((bz L).subset z)) (gK h.2)
theorem AB (hn:L.Nodup) (hp:L'.Perm L) (hs:i7 true L'):L'=eY L:=lu (hp.trans (bz L).symm) hs (gK hn)
noncomputable def nz (L:List aF):List aF:=L.filter λt=>t.2 != 0
theorem AD (hn:L.Nodup):nz (eY L)=eY (nz L) :=
 AB (Ue.filter _ hn) ((bz L).filter _) ((gK hn).filter _)
theorem encK (A):(Sl.oT (encA A)).qy=some (.fdT (A.map λt=>t.1.map OO) (A.map λt=>.int t.2)):=by
 show some _=some _
 unfold encA
 rw [OQ,OQ]; rfl
theorem AE (h:r.wU=some (encA A)) (l):Fv r (.tup (l.map .int)) ((bC A l).map D.int):=by
 rw [<- oB]; exact .t h (fy l)
theorem AF (hz:A.length<sizeLine):Dh (.oT (encA A)) (.tup (l.map .int)) (.int n) (.oT (encA (putD A l n))):=by
 rw [<- DK]
 exact .t (r:=.oT (encA A)) rfl (fy l) (by rw [DM]; exact hz)
theorem qT (o:Option Int):(o.map D.int).getD (.int 0)=.int (o.getD 0):=by cases o <;> rfl
end EV
namespace EV
open PySem PySem.Spec PySem.Calls PyProof.Rows L2
theorem gM {L:List Addr} (I:Inv X aa σ H s) (k:∀ b o,b∉L->s.heap.get? b=some o->h'.get? b=some o) (hf:∀ b∈L,fH X aa H b):Inv X aa σ H { s with heap:=h',toks:=t' }:=by
 have nit:∀ b u,H b=some u->b∉L:=λb u e z=>by rw [(hf b z).1] at e; cases e
 refine I.step (g':=s.gens) (d':=s.drawn) (ch:=L) (λb hb=>?_) (λb o _ _ hc e _=>k b o hc e) (λb o _ _ hc e _=>⟨o.slots,k b o hc e⟩) (λ_ _ _ _ n=>n)
  (λb o hc e=>⟨o,k b o hc e⟩) (λ_ _ e=>e) (λ_ _ _ e=>e) (λb ps e=>⟨#[],by rw [e]; simp⟩) (λm hm=>?_) (λb u e=>?_) I.bare
 ·obtain ⟨_,f1,_,f3,f4,f5⟩:=hf b hb
  exact ⟨f3,f1,f4,f5⟩
 ·obtain ⟨o,es,ep,ho,r⟩:=hm
  exact ⟨o,es,ep,k _ o (λz=>(hf _ z).2.1 rfl) ho,r⟩
 ·refine (I.hok b u e).stay (λc v hc q=>k c v ?_ q) (λ_ q=>q) λ_ _ q=>q
  rcases hc with z | z
  ·rw [z]; exact nit b u e
  ·exact nit c _ z
noncomputable def qU (ds es:List D):List D:=RQ (λx y=>D.tup [x,y]) ds es
theorem boot_zip:bootBuiltins "zip"=some (.type "zip"):=by decide +kernel
section
variable {K:Oo}
end
end EV
namespace EV
open PySem PySem.Spec PyProof.Rows L2
theorem oF {A:List aF} {l:List Int} {n:Int} {t:aF} (h:t∈putD A l n):t.1=l\/t∈A:=by
 unfold putD at h
 split at h
 ·obtain ⟨u,hu,e⟩:=O1.mp h
  split at e
  ·rename_i q; subst e; exact .inl q
  ·subst e; exact .inr hu
 ·rcases OZ.mp h with q | q
  ·exact .inr q
  ·simp at q; subst q; exact .inl rfl
theorem oG (hl:∀ t∈ts,t.1.length<=n):∀ t∈aL ts,trim t.1=t.1/\t.1.length<=n:=by
 unfold aL
 suffices H:∀ A:List aF,(∀ t∈A,trim t.1=t.1/\t.1.length<=n)->∀ t∈ts.foldl fC A,trim t.1=t.1/\t.1.length<=n from H [] (by simp)
 induction ts with
 | nil=>exact λA h=>h
 | cons u ts ih =>
  refine λA h=>ih (λt ht=>hl t (OJ _ ht)) _ λt ht=>?_
  rcases oF ht with e | e
  ·rw [e,cG]
   exact ⟨rfl,OD (gm _) (hl u OI)⟩
  ·exact h t e
noncomputable def bg (ts:List aF):List aF:=eY (nz (aL ts))
theorem vz (h:(A.map (·.1)).Nodup):((nz A).map (·.1)).Nodup:=Sq.sublist (List.filter_sublist.map _) h
theorem nC (ts):(bg ts).Perm (nz (aL ts)):=bz _
theorem qV (h:t∈bg ts):t∈aL ts/\t.2≠0:=by
 have:=(nC ts).subset h
 unfold nz at this
 rw [R9] at this
 exact ⟨this.1,by simpa using this.2⟩
theorem lz (ts):(bg ts).length<=ts.length:=by
 rw [(nC ts).length_eq]
 exact OD (List.length_filter_le _ _) (gJ ts)
end EV
namespace EV
open PySem PySem.Spec PySem.Calls PyProof.Rows L2
theorem DP {K:Oo} {f:Int->Int->Int}:zu K (λxs H Q=>∃ i j,xs=[.int i,.int j]/\Q (.int (f i j)) H) (λds R=>∃ i j:Int,ds=[.int i,.int j]/\R (.int (f i j))):=by
 rintro ds vs H Hf Q R s rs ⟨i,j,rfl,hR⟩ q
 obtain ⟨v,r,rfl,r1,r2⟩:=aE.mp rs
 obtain ⟨v',r',rfl,r1',r2'⟩:=aE.mp r2
 rw [aC] at r2'
 subst r2'
 rw [aB] at r1 r1'
 subst r1 r1'
 exact ⟨i,j,rfl,q _ _ H Hf hR (aB.mpr rfl) (.refl s)⟩
section
variable {K:Oo} {c:Ctx P w K mg base k N sc bk}
theorem boot_max:bootBuiltins "max"=some (.builtin "max"):=by decide +kernel
theorem AG (hm:mg "max"=none) (h:aH c a ρ λx=>aH c b ρ λy=>I2 (λi j=>R (.int (if j>i then j else i))) x y) (hg:sc.names.lookup (Om "max")=some .globalImplicit:=by walk_at "u")
 (he:∀ env,starEach [a,b] env=(false,eval a env)::starEach [b] env:=by intro _; walk_at "u") (he2:∀ env,starEach [b] env=(false,eval b env)::starEach [] env:=by intro _; walk_at "u")
 (hpl:∀ env,(backTo pos (starEach [b] env)).any (·.1)=false:=by intro _; walk_at "u"):aH c (.Call (.Name "max" p) [a,b] [] pos) ρ R :=
 uL (wH c.calm) (DP (f:=λi j=>if j>i then j else i)) hm boot_max (bx (h.imp λx h1=>bx (h1.imp λy ⟨i,j,e1,e2,hR⟩=>kF ⟨i,j,by rw [e1,e2],hR⟩) he2) he) hg (by decide) (by decide) he hpl
theorem FF (h:aH c a ρ λx=>aH c b ρ λy=>I2 (λi j=>Sd (se i j) (R (.int (i * 2 ^ j.toNat)))) x y):aH c (.BinOp a .LShift b pos) ρ R :=
 iL (nX GF mT (h.imp λx hx=>hx.imp λy ⟨i,j,e1,e2,⟨hc,r⟩⟩=>⟨i,j,e1,e2,hc,_,rfl,r⟩))
theorem FG (h:aH c a ρ λx=>aH c b ρ λy=>I2 (λi j=>Sd (0<=j) (R (.int (i / 2 ^ j.toNat)))) x y):aH c (.BinOp a .RShift b pos) ρ R :=
 iL (nX GG mT (h.imp λx hx=>hx.imp λy ⟨i,j,e1,e2,⟨hc,r⟩⟩=>⟨i,j,e1,e2,hc,_,rfl,r⟩))
theorem AH (h:aH c a ρ λx=>aH c b ρ λy=>I2 (λi j=>R (.int (Builtin.bitAnd i j))) x y):aH c (.BinOp a .BitAnd b pos) ρ R :=
 iL (nX GH zc (h.imp λx hx=>hx.imp λy ⟨i,j,e1,e2,r⟩=>⟨i,j,e1,e2,_,rfl,r⟩))
end
noncomputable abbrev LV:=List (Key×D)->List D->(List (Key×D)->Prop)->Prop
noncomputable def HJ (K:Oo) (F:LV):Sp:=λvs H Q _=>∃ Hf p kvs xs us ds B,vs=.ref p::us/\aN Hf H/\H p=some (.dK xs)/\Hf p=none/\lQ K Hf kvs xs/\au K Hf ds us/\F kvs ds B /\
 ∀ kvs' H' ak xs',B kvs'->bB (del H p) Hf H' ak->H' p=some (.dK xs')->ak p=none->lQ K ak kvs' xs'->Q .non H'
structure DQ (P:Program) (w:World) (K:Oo) (mg:Str->Option Value) (base:Heap) (k:Nat) (x:Str) (F:LV):Prop where
 ex:∃ f fd ps,mg x=some (.ref f)/\Qu K (.ref f)=true/\Binds K fd ps []/\br P w K mg base (dD P w) k f fd ps (HJ K F)
noncomputable def startM (q:Addr) (kvs:List (Key×D)) (N:List Str) (ds:List D):List Sl:=.aK q kvs::(ds.map .va++OB (N.length - (ds.length+1)) .un)
theorem xx {K:Oo} (r:au K Hf ds us) (sb:aN Hf H) (h1:H q=some (.dK xs)) (h2:Hf q=none) (h3:lQ K Hf kvs xs) :
 fc K (del H q) Hf (L2.start N (.ref q::us)) H Hf (startM q kvs N ds):=by
 have hl:=r.length
 have rest:∀ (i:Nat) (r':Sl),(startM q kvs N ds)[i+1]?=some r'->r'≠.un->∃ d,ds[i]?=some d/\r'=.va d:=λi r' h hu=>by
  have h':(ds.map Sl.va++OB (N.length - (ds.length+1)) Sl.un)[i]?=some r':=by simpa [startM] using h
  by_cases w:i<ds.length
  ·rw [QG (by simpa using w),OE,OR w] at h'
   cases h'
   exact ⟨_,by simp,rfl⟩
  ·rw [Rv (by simp; lia)] at h'
   exact absurd (SI (Py h')) hu
 refine ⟨⟨λb o e=>(iR e).2,.refl _,sb,λ_ h _ _=>h⟩,by simp [L2.start,startM,hl],λi r' h hu=>?_,λi j r1 r2 p hne e1 e2 o1 o2=>?_⟩
 ·cases i with
  | zero =>
   have:r'=.aK q kvs:=by simpa [startM] using h.symm
   subst this
   exact ⟨.ref q,by simp [L2.start],q,xs,rfl,⟨iQ,rfl⟩,h1,h2,h3⟩
  | succ i =>
   obtain ⟨d,hd,rfl⟩:=rest i r' h hu
   obtain ⟨x,e2,rx⟩:=r.get hd
   refine ⟨x,?_,rx⟩
   have hi:i<us.length:=(OH.mp e2).1
   unfold L2.start
   rw [QG (by simp; lia)]
   simp [e2]
 ·exfalso
  have own:∀ {i:Nat} {r:Sl},(startM q kvs N ds)[i]?=some r->r.owned=true->i=0:=λ{i r} h ho=>by
   cases i with
   | zero=>rfl
   | succ i =>
    obtain ⟨d,_,rfl⟩:=rest i r h (by rintro rfl; cases ho)
    cases ho
  exact hne ((own e1 o1).trans (own e2 o2).symm)
section
variable {K:Oo} {c:Ctx P w K mg base k N sc bk}
theorem KZ {st:Stmt} (Fu:eG K x qual st f fd) (SV:FS N ps st) (ar:∀ kvs ds B,F kvs ds B->ds.length+1=ps.length)
 (body:∀ (c:Ctx P w K mg base k N (aR st) false),c.X.xe=(λ_ _=>False)->∀ q kvs ds B,F kvs ds B->aG c (av st) (startM q kvs N ds) (λρ=>∃ kvs' r,B kvs'/\ρ=.aK q kvs'::r) { rt:=λ_=>False }) :
 br P w K mg base (dD P w) (k+1) f fd ps (HJ K F):=by
 obtain ⟨Sc,Vi⟩:=Fi SV
 obtain ⟨oc,od,kV,doc,pm,an,cdv,ct,osl,rfl,lk,hcd⟩:=Fu.ex
 refine E9 lk hcd Sc (λvs H Q E hh=>z4 hh λHf q kvs xs hh=>z3 hh λus ds B hh=>w8 hh λe _ _ _ _ rs hF _=>by rw [e,Pa,<- rs.length]; exact ar _ _ _ hF) λA outer s H vs Q E hr hh=>z4 hh λHf q kvs xs hh=>z3 hh λus ds B hh=>w8 hh λe sb h1 h2 h3 rs hF hq=>?_
 subst e
 let X:Cx:=(sA (dD P w) P w K mg base N qual (aR st) f cdv A outer s H E).Jq
 let c:Ctx P w K mg base k N (aR st) false :=
  { X:=X,eP:=rfl,ew:=rfl,eK:=rfl,emg:=rfl,eb:=rfl,eN:=rfl,esc:=rfl,calm:=rfl,top:=λ_=>⟨rfl,rfl,rfl⟩,cb:=λ_ _ _ _ _ I x c h=>I.ok.cab x c rfl h,fn:=λ_ _=>.inl rfl,B:=del H q,room:=hr,nd:=Sc.nd,vis:=Vi,Hf:=Hf,RX:=λ_ _=>False,
    exc:=λ_ _ _ _ _ _ _ _ _ _ _ _ h _ _=>h.elim,RM:=λ_ _=>False,mde:=λ_ _ _ _ _ _ _ _ _ _ _ _ h _=>h.elim }
 refine ⟨_,r6.Jq (t:=Jx X (av st)) (sG (X:=X)),?_⟩
 refine body c rfl q kvs ds B hF (L2.start N (.ref q::us)) H Hf _ (xx rs sb h1 h2 h3) ⟨λσ H' ak ρ S ⟨kvs',r,hB,e⟩=>?_,λr v H' ak g rv e=>e.elim,λ_ _ _ _ _ h=>h.elim,λ_ _ _ _ _ h=>h.elim⟩
 subst e
 obtain ⟨v,_,q',xs',_,⟨_,rfl⟩,a1,a2,a3⟩:=S.at_ 0 _ rfl (by simp)
 exact hq kvs' H' ak xs' hB S.bas a1 a2 a3
theorem vA (h:DQ P w K mg base j x F) (hj:j<=k) (hN:At N i y) (hi:At ρ i r) (hr:r.sL=some kvs)
 (ha:pW c es ρ λds=>∃ B,F kvs ds B/\∀ kvs',B kvs'->Nx ρ i nx (r.qh kvs'))
 (hg:sc.names.lookup x=some .globalImplicit:=by walk_at "u") (hdb:(x == ("__debug__":Str))=false:=by decide) (hd:(y == ("__debug__":Str))=false:=by decide) (hcd:(y == ("__classdict__":Str))=false:=by decide)
 (he:∀ env,starEach (.Name y py::es) env=(false,eval (.Name y py) env)::starEach es env:=by intro _; walk_at "u")
 (hpl:∀ env,(backTo cp (starEach es env)).any (·.1)=false:=by intro _; walk_at "u")
 (hs:∀ env,swapsWith (.Call (.Name x px) (.Name y py::es) [] cp) none pos.line env=pure false:=by intro _; walk_at "u"):fS c (.Expr (.Call (.Name x px) (.Name y py::es) [] cp) pos) ρ nx p:=λσ H Hf D S o=>by
 obtain ⟨q,eq,rq⟩:=S.own hi.get (kI hr)
 obtain ⟨xs,h1,h2,h3⟩:=wV hr rq
 refine dX (nO c9 (hs _)) (show bE c.X _ σ H (λ_ H'=>D.nx σ H') from λaa s I=>?_)
 obtain ⟨f,fd,ps,hm,hk,hb,hF⟩:=h.ex
 refine Qw (nN I (by unfold Gl Pr; rw [c.esc]; exact hg) (by rw [c.emg]; exact hm) ?_ hdb)
 have hA:bA c.X (.Name y py::es) σ H (λvs H1=>∃ us aQ ds B,vs=.ref q::us/\F kvs ds B/\(∀ kvs',B kvs'->Nx ρ i nx (r.qh kvs'))/\au c.X.K aQ ds us/\bB H Hf H1 aQ) :=
  y9 (bK (c.n6 hN hd hcd) G3 (he _)) ⟨_,eq,ha σ H Hf _ S λds vs H1 aQ ⟨B,hF,hn⟩ rs g=>⟨vs,aQ,ds,B,rfl,hF,hn,rs,g⟩⟩
 refine UH (h₀:=c.X.base) I.ok.mod.kin (by rw [c.eK]; exact hk) (bJ (hA cp aa s I) λus s1 hh=>z2 hh λvs H1 hh=>w3 hh λI1 rv hh=>z4 hh λus' aQ ds B hh=>w5 hh λev hF' hn rs g=>⟨I1.Ce,?_⟩) (he _) (hpl _)
 subst ev
 have S1:=S.cI g
 have rq1:=rq.cI g
 obtain ⟨xs1,a1,a2,a3⟩:=wV hr rq1
 have hF2:br c.X.prog c.X.w c.X.K c.X.mg c.X.base (dD c.X.prog c.X.w) k f fd ps (HJ c.X.K F):=by rw [c.eP,c.ew,c.eK,c.emg,c.eb]; exact hF.mono hj
 have uh:HJ c.X.K F (.ref q::us') H1 (λ_ H'=>D.nx σ H') (λ_ _ _=>False):=by
  refine ⟨aQ,q,kvs,xs1,us',ds,B,rfl,g.b,a1,a2,a3,rs,hF',λkvs' H' ak xs' hB g2 b1 b2 b3=>?_⟩
  obtain ⟨ρ',hs',hn⟩:=hn kvs' hB
  refine o.nx σ H' ak ρ' ?_ hn
  rw [hs'.eq]
  exact S1.upd hi.get (kI hr) eq g2 (qk hr rq1 b1 b2 b3) (kJ hr)
 have hl:us.length=ps.length:=by rw [<- rv.length]; exact hF2.len _ _ _ _ uh
 have hb':Binds c.X.K fd ps []:=by rw [c.eK]; exact hb
 have hb2:=hb' s1 us I1.Ce (by simpa using hl)
 rw [PD] at hb2
 refine wpAny_call (Sk (hF2.run c.X.A c.X.stack s1 H1 ⟨us,[]⟩ us _ _ _ c.room I1.GN hb2 rv uh) λr' s' hq=>?_)
 cases r' with
 | error e =>
  obtain ⟨a,C,H',rfl,hE,h⟩:=hq
  exact h.elim
 | ok fl =>
  cases fl with
  | ret u=>exact I1.after hq
  | next=>exact PM hq
  | brk=>exact PM hq
  | cont=>exact PM hq
end
theorem au.many {K:Oo} (h:au K H ds xs):∀ k:Nat,au K H (OB k ds).flatten (OB k xs).flatten
 | 0=>aC.mpr rfl
 | k+1=>by
  rw [Qg,Qg,QK,QK]
  exact h.append (au.many h k)
theorem au.set {K:Oo}:∀ {ds:List D} {xs:List V} (i:Nat) {d:D} {v:V},au K H ds xs->Rep K H d v->au K H (ds.set i d) (xs.set i v)
 | [],_,i,_,_,h,_=>by rw [aC] at h; subst h; exact aC.mpr rfl
 | e::ds,_,i,d,v,h,q=>by
  obtain ⟨x,r,rfl,h1,h2⟩:=aE.mp h
  cases i with
  | zero=>exact .cons q h2
  | succ i=>exact .cons h1 (au.set i h2 q)
theorem AI {n k:Nat} {i:Int} (hi:i=k) (e:s.heap.get? l=some { cls:=.type "list",data:=.seq items n }) (hk:k<items.size) (hf:items.size<2 ^ 63)
 (hQ:Q () { s with heap:=s.heap.update l (O4 λxs=>xs.setIfInBounds k v) }):wpAny (model prog w) A (setItem (.ref l) (.int i t) v) Q E s:=by
 have ht:s.TypeIs (.ref l) "list":=⟨_,e,rfl⟩
 have hx:items[k]?=some items[k]:=OX hk
 unfold setItem
 refine PY (Ol (UL ht (by decide) ?_))
 refine Ol (Qf (name:=Om "__setitem__") ht PySem.slot_list_setitem (PK PySem.slot_list_setitem ht PySem.entry_list_setitem ?_ (PySem.args_list_setitem _ _ _)))
 show wpAny _ _ (Builtin.List.listSubscript? (.int i t) >>= _) _ _ s
 refine Ol (wpAny_listSubscript_int (fitsIndex_of (show 0<=i by lia) (show i<2 ^ 63 by lia)) ?_)
 clear hf
 subst hi
 show wpAny _ _ ((seqItemAt l k >>= λr=>pure (r.map λx=>(k,x))) >>= _) _ _ s
 refine Ol (Ol (wpAny_seqItemAt e rfl (Oq ?_)))
 rw [hx]
 show wpAny _ _ (setSeqItemAt l k v >>= _) _ _ s
 refine Ol (wpAny_setSeqItemAt e rfl ?_)
 first
  | exact Ol (Oq (Oq ⟨Pc,rfl,Oq hQ⟩))
  | exact Oq ⟨Pc,rfl,Oq hQ⟩
noncomputable def K0:Gp:=λo i v H Q=>∃ l xs k,o=.ref l/\i=.int (k:Nat)/\H l=some (.lst xs)/\k<xs.length/\Q (upd H l (.lst (xs.set k v)))
theorem AJ:JM X K0:=by
 intro aa s σ H o i v ov iv u Q I r1 r2 r3 h
 obtain ⟨l,xs,k,rfl,rfl,hH,hk,q⟩:=h
 cases r1
 obtain ⟨t,rfl⟩:=r2
 obtain ⟨z,its,n,r,hl,e⟩:=I.pK hH
 have hbig:xs.length<2 ^ 63:=Qx z (by decide)
 refine AI rfl e (by rw [OP,<- hl]; exact hk) (by rw [OP,<- hl]; exact hbig) ⟨_,I.sF (its':=its.set k u) (t':=s.toks) hH e ?_ (Vals.set r3 k r) (by rw [List.length_set]; exact z),q⟩
 show its.toArray.setIfInBounds k u=(its.set k u).toArray
 simp
theorem DR:MH X "int.bit_length" (λx vs H Q=>∃ i,x=.int i/\vs=[]/\Q (.int (PV i:Nat)) H):=by
 intro aa s σ H x xs v us Q I r1 r2 h
 obtain ⟨i,rfl,rfl,q⟩:=h
 obtain ⟨t,rfl⟩:=r1
 cases r2
 exact PyProof.Rows.call_int_bit_length ⟨.int (PV i:Nat),H,I.tok _,⟨_,rfl⟩,q⟩
section
variable {K:Oo} {c:Ctx P w K mg base k N sc bk}
theorem HK (h:aH c e ρ (I1 λi=>R (.int (PV i:Nat)))) (hbase:∀ env,attributeBase e "bit_length" env (eval e env)=eval e env:=by intro _; walk_at "u") (hline:(ap.endLine == cp.line)=true:=by walk_at "u") :
 aH c (.Call (.Attribute e "bit_length" ap) [] [] cp) ρ R:=λσ H Hf Q S q =>
 bO (GR PySem.F.plainAttrs_int PySem.F.slot_int_bit_length PySem.F.type_int_bit_length DR c9 (hbase _) hline) (h σ H Hf _ S λd v H' ak ⟨i,e,hR⟩ r g=>by
  subst e
  rw [aB] at r; subst r
  exact ⟨rfl,i,rfl,rfl,q _ _ H' ak hR (aB.mpr rfl) g⟩)
theorem FH {R:Sl->Prop} (h:dF c a ρ λr=>∃ ds,r=.ow ds/\aH c b ρ (I1 λn=>Sd ((0<=n/\n<2 ^ 63)/\ds.length * n.toNat<=sizeLine) (R (.ow (OB n.toNat ds).flatten)))):dF c (.BinOp a .Mult b pos) ρ R:=λσ H Hf Q S q =>
 bO (yH GS c9 c9) (h σ H Hf _ S λr v H1 aQ ⟨ds,er,h1⟩ rr g1=>h1 σ H1 aQ _ (S.cI g1) λdn u H2 cP ⟨n,en,⟨⟨n0,n1⟩,hz⟩,hR⟩ rn g2=>by
  subst er en
  rw [aB] at rn; subst rn
  obtain ⟨l,xs,rfl,fl,k1,k2,k3⟩:=rr
  have k1':=g2.s _ _ k1
  refine ⟨l,n,xs,rfl,rfl,k1',by lia,n1,by rw [<- k3.length]; exact hz,λp hp=>?_⟩
  have g3:=bB.f7 (o:=.lst (OB n.toNat xs).flatten) g2.b hp
  exact q _ _ _ _ hR ⟨p,_,rfl,(g1.trans g2).s.free hp,ah,g2.b.free hp,(k3.mono g2.f).many _⟩ ((g1.trans g2).trans g3))
theorem HL (hN:At N i x) (hi:At ρ i r) (hr:r.getL=some ds) (h:aH c e ρ λdv=>aH c b ρ λdk=>∃ m:Nat,dk=.int m/\Sd (m<ds.length) (Nx ρ i nx (r.putL (ds.set m dv))))
 (hs:∀ env,swapsWithSole [.Subscript (.Name x px) b tp] e pos.line env=pure false:=by intro _; walk_at "u") (hw:∀ env,swappedStores [.Subscript (.Name x px) b tp] e env=pure none:=by intro _; walk_at "u")
 (h1:∀ env,(assignEach [.Subscript (.Name x px) b tp] env).map (·.2)=[assign (.Subscript (.Name x px) b tp) env]:=by intro _; walk_at "u")
 (ha:∀ env v,assign (.Subscript (.Name x px) b tp) env v=(do
   let ov <- holding [v] (eval (.Name x px) env)
   let iv <- holding [v,ov] (eval b env)
   standAt tp
   holding [v,ov,iv] (setItem ov iv v)
   release [v,ov,iv] []):=by intro _ _; walk_at "u")
 (hd:(x == ("__debug__":Str))=false:=by decide) (hcd:(x == ("__classdict__":Str))=false:=by decide):fS c (.Assign [.Subscript (.Name x px) b tp] e pos) ρ nx p:=λσ H Hf D S o=>by
 obtain ⟨q,eq,rq⟩:=S.own hi.get (di hr)
 refine dX (yE c9 (Gr (c.n6 hN hd hcd) c9 AJ (ha _)) (hs _) (hw _) (h1 _)) (h σ H Hf _ S λdv v H1 aQ h2 rv g1=>⟨_,eq,h2 σ H1 aQ _ (S.cI g1) λdk y H2 cP ⟨m,em,hm,ρ',hs',hn⟩ ry g2=>?_⟩)
 subst em
 rw [aB] at ry; subst ry
 have g:=g1.trans g2
 obtain ⟨xs,k1,k2,k3⟩:=Ht hr (rq.cI g)
 refine ⟨q,xs,m,rfl,rfl,k1,by rw [<- k3.length]; exact hm,o.nx _ _ cP ρ' ?_ hn⟩
 rw [hs'.eq]
 exact (S.cI g).upd hi.get (di hr) eq (gF g.b k2) (kH hr (rq.cI g) ah k2 (k3.set m (Rep.mono g2.f _ rv))) (ig hr)
end
theorem iA {K:Oo}:∀ {ns:List Int} {xs:List V},au K H (ns.map D.int) xs->xs=ns.map V.int
 | [],xs,h=>by rw [Rh,aC] at h; subst h; rfl
 | b::bs,xs,h=>by
  rw [OA,aE] at h
  obtain ⟨x,r,rfl,h1,h2⟩:=h
  rw [aB] at h1
  rw [h1,iA h2]; rfl
theorem gn {ns:List Int} {us:List Value} (h:Vals (ns.map V.int) us) (i:Nat) (v:Value) (e:us.toArray[i]?=some v):∃ t,v=.int (ns.getD i 0) t:=by
 have e':us[i]?=some v:=by simpa using e
 have hi:i<ns.length:=by
  have:=(OH.mp e').1
  have l:=h.length
  rw [Ox] at l
  omega
 obtain ⟨u,hu,r⟩:=h.get (i:=i) (x:=.int (ns.getD i 0)) (by simp [PJ,hi])
 rw [e'] at hu; cases hu
 exact r
theorem lB (I:Inv X aa σ H s) (hq:gC X.K H p xs) :
 ∃ its:List Value,Vals xs its/\s.heap.IsList p its.toArray/\p<s.heap.objs.size:=by
 obtain ⟨its,rv,pl,hz⟩:=I.list hq
 exact ⟨its,rv,pl.isList,by obtain ⟨o,e,_⟩:=pl.isList; exact Oz e⟩
theorem nD (I:Inv X aa σ H s) (hk:∀ b o,b∉[s.heap.objs.size]->(s.heap.push ob).get? b=some o->h'.get? b=some o):Inv X aa σ H { s with heap:=h',toks:=tk } :=
 I.kept (h':=h') (t':=tk) λb u e=>hk b u (by simpa using OU (Oz e)) (Ow _ e)
theorem xy (hc:X.calm=true):fX X (.builtin "max") (λxs H Q=>∃ (p:Addr) (ns:List Int),xs=[.ref p]/\ns≠[]/\gC X.K H p (ns.map V.int)/\∀ m∈ns,(∀ n∈ns,n<=m)->Q (.int m) H):=by
 intro aa s σ H xs us Q I r h
 obtain ⟨p,ns,rfl,hne,hq,q⟩:=h
 obtain ⟨u,rfl,rx⟩:=vals1 r
 cases rx
 obtain ⟨its,rv,pl,hlt⟩:=lB I hq
 have hn:its.toArray.size=ns.length:=by have l:=rv.length; rw [Ox] at l; simp [l]
 have hpos:0<ns.length:=List.length_pos_iff.mpr hne
 refine call_max_walk (UN pl ?_)
 have hh:X.A.in1.handled=none:=I.ok.hd hc
 refine ⟨_,_,_,_,_,_,_,rfl,Walks.list hh s.heap.objs.size p (OU hlt) its.toArray,⟨⟨_,OF _ rfl,rfl,rfl⟩,pl.at λo e=>Ow _ e⟩,?_,by rw [hn]; exact hpos,CmpOf.ints_gt (λi=>ns.getD i 0) (gn rv),?_⟩
 ·intro b hb
  show b<(s.heap.push _).objs.size
  rw [Qi]
  simp only [OM,PX,or_false] at hb
  rcases hb with rfl | rfl
  ·exact Q9 _
  ·exact Td hlt
 ·intro v h' tk hP hk
  obtain ⟨t,rfl⟩:=gn rv _ _ hP
  obtain ⟨b1,b2⟩:=argBest_gt (λi=>ns.getD i 0) (its.toArray.size - 1)
  rw [hn] at b1 b2 |-
  have J:=nD (s:=s) (tk:=tk) I hk
  refine ⟨.int _,H,J,⟨_,rfl⟩,q _ ?_ λn hm=>?_⟩
  ·rw [PJ,OR (by omega)]
   exact O9 _
  ·obtain ⟨j,hj,rfl⟩:=List.getElem_of_mem hm
   have:=b2 j (by omega)
   rw [show ns.getD j 0=ns[j] by simp [PJ,hj]] at this
   exact this
theorem vB (ns:List Int):∀ j,j<=ns.length->preSum (λi=>ns.getD i 0) j=(ns.take j).sum
 | 0,_=>rfl
 | j+1,h=>by
  show preSum (λi=>ns.getD i 0) j+ns.getD j 0=_
  rw [vB ns j (by omega),Px (by omega),Rc]
  simp [PJ,show j<ns.length by omega]
theorem xA (hc:X.calm=true):fX X (.builtin "sum") (λxs H Q=>∃ (p:Addr) (ns:List Int),xs=[.ref p]/\gC X.K H p (ns.map V.int)/\Q (.int ns.sum) H):=by
 intro aa s σ H xs us Q I r h
 obtain ⟨p,ns,rfl,hq,q⟩:=h
 obtain ⟨u,rfl,rx⟩:=vals1 r
 cases rx
 obtain ⟨its,rv,pl,hlt⟩:=lB I hq
 have hn:its.toArray.size=ns.length:=by have l:=rv.length; rw [Ox] at l; simp [l]
 refine call_sum_walkG (UN pl ?_)
 have hh:X.A.in1.handled=none:=I.ok.hd hc
 refine ⟨_,_,_,_,_,_,λi=>ns.getD i 0,rfl,Walks.list hh s.heap.objs.size p (OU hlt) its.toArray,⟨⟨_,OF _ rfl,rfl,rfl⟩,pl.at λo e=>Ow _ e⟩,?_,gn rv,?_⟩
 ·intro b hb
  show b<(s.heap.push _).objs.size
  rw [Qi]
  simp only [OM,PX,or_false] at hb
  rcases hb with rfl | rfl
  ·exact Q9 _
  ·exact Td hlt
 ·intro h' tk t' hk
  rw [hn,vB ns _ (Ot _),Pn]
  have J:=nD (s:=s) (tk:=tk) I hk
  exact ⟨.int ns.sum,H,J,⟨_,rfl⟩,q⟩
section
variable {K:Oo} {c:Ctx P w K mg base k N sc bk}
theorem boot_sum:bootBuiltins "sum"=some (.builtin "sum"):=by decide +kernel
theorem xB {Z:List Int->Int->Prop} (hr:∀ (p:Addr) (ns:List Int) H Q,gC K H p (ns.map V.int)->(∀ m,Z ns m->Q (.int m) H)->ns≠[]->r [.ref p] H Q) :
 zu K r (λds R=>∃ ns:List Int,ns≠[]/\ds=[.lst (ns.map D.int)]/\∀ m,Z ns m->R (.int m)):=by
 rintro ds vs H Hf Q R s rs ⟨ns,hne,rfl,hR⟩ q
 obtain ⟨v,rfl,rv⟩:=pZ rs
 rw [bu] at rv
 obtain ⟨a,xs,rfl,h1,h2⟩:=rv
 rw [iA h2] at h1
 exact hr a ns H Q (s.seq h1) (λm hm=>q _ _ H Hf (hR m hm) (aB.mpr rfl) (.refl s)) hne
theorem HM (hm:mg "max"=none) (h:aH c e ρ λx=>∃ ns:List Int,ns≠[]/\x=.lst (ns.map D.int)/\∀ m,(m∈ns/\∀ n∈ns,n<=m)->R (.int m)) (hg:sc.names.lookup (Om "max")=some .globalImplicit:=by walk_at "u")
 (he:∀ env,starEach [e] env=(false,eval e env)::starEach [] env:=by intro _; walk_at "u"):aH c (.Call (.Name "max" p) [e] [] pos) ρ R :=
 uL (xy c.calm) (xB (Z:=λns m=>m∈ns/\∀ n∈ns,n<=m) λp ns H Q h q hne=>⟨p,ns,rfl,hne,h,λm h1 h2=>q m ⟨h1,h2⟩⟩) hm boot_max
  (bx (h.imp λd ⟨ns,hne,e,hR⟩=>kF ⟨ns,hne,by rw [e],hR⟩) he) hg (by decide) (by decide) he (by intro _; walk_at "u")
theorem HN (hm:mg "sum"=none) (h:aH c e ρ λx=>∃ ns:List Int,x=.lst (ns.map D.int)/\R (.int ns.sum)) (hg:sc.names.lookup (Om "sum")=some .globalImplicit:=by walk_at "u")
 (he:∀ env,starEach [e] env=(false,eval e env)::starEach [] env:=by intro _; walk_at "u"):aH c (.Call (.Name "sum" p) [e] [] pos) ρ R :=
 uL (xA c.calm) (q:=λds R=>∃ ns:List Int,ds=[.lst (ns.map D.int)]/\R (.int ns.sum)) (by
  rintro ds vs H Hf Q R s rs ⟨ns,rfl,hR⟩ q
  obtain ⟨v,rfl,rv⟩:=pZ rs
  rw [bu] at rv
  obtain ⟨a,xs,rfl,h1,h2⟩:=rv
  rw [iA h2] at h1
  exact ⟨a,ns,rfl,s.seq h1,q _ _ H Hf hR (aB.mpr rfl) (.refl s)⟩) hm boot_sum (bx (h.imp λd ⟨ns,e,hR⟩=>kF ⟨ns,by rw [e],hR⟩) he) hg (by decide) (by decide) he (by intro _; walk_at "u")
end
section
variable {prog:Program} {w:World} {A:Around} {E:Value->Shared->Prop} {s:Shared}
variable {jt tp:Addr} {i:Nat} {items:Array Value}
theorem nextT (hh:A.handled=none) (h1:s.heap.IsTupleIter jt tp i) (h2:s.heap.IsTuple tp items)
 (hv:∀ v,items[i]?=some v->∀ h',h'.IsTupleIter jt tp (i+1)->Qn jt s.heap h'->Q v { s with heap:=h' })
 (hn:items[i]?=none->∀ h' e,QF jt s.heap h'->(∃ o,h'.get? e=some o/\o.cls=.type "StopIteration")->E (.ref e) { s with heap:=h' }) :
 wpAny (model prog w) A (Qe (.ref jt)) Q E s:=by
 obtain ⟨ob,hob,hcb,hdb⟩:=id h1
 obtain ⟨ot,hot,_,m,hdt⟩:=id h2
 unfold Qe
 refine Ol (Qf (name:=Om "__next__") h1.typeIs F.slot_tuple_iterator_next (PK F.slot_tuple_iterator_next h1.typeIs F.entry_tuple_iterator_next ?_ (F.args_tuple_iterator_next_1 _)))
 show wpAny _ _ (field (.ref jt) 0 >>= _) _ _ s
 refine Ol (Pb hob hdb (x:=.ref tp) rfl ?_)
 show wpAny _ _ (if (OS tp == Pc)=true then _ else _) _ _ s
 rw [if_neg (show ¬ ((OS tp == Pc)=true) from OC)]
 show wpAny _ _ (field (.ref jt) 1 >>= _) _ _ s
 refine Ol (Pb hob hdb (x:=.int i 0) rfl ?_)
 show wpAny _ _ (seqItems? (.ref tp) >>= _) _ _ s
 refine Ol (Qt hot hdt ?_)
 rw [O0]
 dsimp only
 cases hx:items[i]? with
 | some v =>
  have q:=hv v hx (s.heap.update jt (Obj.mapFields λvs=>vs.setIfInBounds 1 (rawInt ((i:Int)+1)))) ⟨_,Uw _ hob (Uv (RG hdb _)),(UR ..).trans hcb,by rw [RG hdb]; simp [rawInt]⟩ (Q7 ..)
  dsimp only
  exact Ol (Rf hob hdb (by simp) (Oq ⟨v,rfl,Oq q⟩))
 | none =>
  dsimp only
  refine Ol (Pw (Ol (Rf hob hdb (by simp) (show wpAny _ _ (newExc (.type "StopIteration") [] >>= _) _ _ _ from Ol ?_))))
  simp only [newExc,newTuple]
  refine Ol (Pk (Ol (m:=firstArgMember _ _) (T9 (a:=Pc) (by first | rfl | (simp only [firstArgMember]; rfl)) (Pk ?_ (by size_fits)))) (by size_fits))
  simp only [raiseNew]
  refine Ol (TQ ?_)
  rw [show A.in1.handled=none from hh]
  exact Ol (Oq (T8 (hn hx _ _ (((Q7 ..).extBut.push _).push _) ⟨_,OF _ rfl,rfl⟩)))
theorem HP (hh:A.handled=none) (jt tp:Addr) (hne:tp≠jt) (items:Array Value) :
 Draws prog w A jt [jt,tp] items.size (λi v=>items[i]?=some v) (λi h=>h.IsTupleIter jt tp i/\h.IsTuple tp items) where
 live:=λ_ _ ⟨⟨o,ho,_⟩,_⟩=>⟨o,ho⟩
 frame:=λ_ _ _ ⟨⟨o,e,r⟩,⟨o',e',r'⟩⟩ hk=>⟨⟨o,hk jt (by simp) o e,r⟩,o',hk tp (by simp) o' e',r'⟩
 item:=λi s Q E hi ⟨s1,s2⟩ q=>nextT hh s1 s2 (λv hv h' a b=>q v h' s.toks hv ⟨a,s2.extBut b.extBut hne⟩ b) λhx=>by
  rw [OX hi] at hx; cases hx
 done:=λs Q E ⟨s1,s2⟩ q=>nextT hh s1 s2 (λv hv=>by simp at hv) λ_=>q
end
set_option maxHeartbeats 1000000 in
theorem qW (tp) (items) (n) (dc) (sl) :
 Meets (Builtin.«enumerate.__new__» ⟨[.type "enumerate",.ref tp],[]⟩) (λ_ R s=>s.heap.get? tp=some { cls:=.type "tuple",dict:=dc,data:=.seq items n,slots:=sl } /\
  R (.ok (.ret (.ref (s.heap.push { cls:=.type "tuple_iterator",data:=.fields #[.ref tp,.int 0 0] }).objs.size)))
   { s with heap:=(s.heap.push { cls:=.type "tuple_iterator",data:=.fields #[.ref tp,.int 0 0] }).push { cls:=.type "enumerate",data:=.fields #[.none,.bool false,.ref s.heap.objs.size,rawInt 0,.none,.none] } }) :=
 .of_wp λprog w A R ⟨hp,g,d,tk,os⟩ ⟨hl,h⟩=>by
  have hz:=sub_enumerate
  have hT:Heap.IsTuple (Shared.heap ⟨hp,g,d,tk,os⟩) tp items:=⟨_,hl,rfl,n,rfl⟩
  wp_walk using SK hl
  refine wpAny_stack_any λst=>Oq ?_
  split
  ·rename_i k _ _ _ _ _
   cases (k == PU "enumerate") <;> (wp_walk using SK hl,UE hT; exact ⟨_,rfl,h⟩)
  ·wp_walk using SK hl,UE hT; exact ⟨_,rfl,h⟩
theorem sZ (hT:s.heap.IsTuple tp items)
 (h:∀ h',IsEnum h' (s.heap.objs.size+1) s.heap.objs.size 0 .none->h'.IsTupleIter s.heap.objs.size tp 0->(∀ b o,s.heap.get? b=some o->h'.get? b=some o)->Q (.ref (s.heap.objs.size+1)) { s with heap:=h' }) :
 wpAny (model prog w) A (call (.type "enumerate") [.ref tp]) Q E s:=by
 obtain ⟨⟨c,dc,dt,sl⟩,hl,hc,n,hd⟩:=hT
 obtain rfl:c=.type "tuple":=hc
 obtain rfl:dt=.seq items n:=hd
 refine callType_new F.called_enumerate (by decide) (F.typeCall_enumerate_1 _) (F.newCall_enumerate_1 _) (λob=>F.args_object_init_2 ob _) F.entry_enumerate_new (qW tp items n dc sl) ⟨hl,?_⟩
 generalize e1:s.heap.push { cls:=.type "tuple_iterator",data:=.fields #[.ref tp,.int 0 0] }=g1
 have hz:g1.objs.size=s.heap.objs.size+1:=by rw [<- e1]; exact Qi ..
 have hi:g1.get? s.heap.objs.size=some { cls:=.type "tuple_iterator",data:=.fields #[.ref tp,.int 0 0] }:=by rw [<- e1]; exact OF _ rfl
 have hb:∀ b o,s.heap.get? b=some o->g1.get? b=some o:=λb o q=>by rw [<- e1]; exact Ow _ q
 have he:IsEnum (g1.push { cls:=.type "enumerate",data:=.fields #[.none,.bool false,.ref s.heap.objs.size,rawInt 0,.none,.none] }) g1.objs.size s.heap.objs.size 0 .none:=OF _ rfl
 rw [hz] at he
 show _/\_
 rw [hz]
 exact ⟨⟨_,he,rfl⟩,h _ he ⟨_,Ow _ hi,rfl,rfl⟩ λb o q=>Ow _ (hb b o q)⟩
noncomputable def lC (ds:List D):List D:=ds.zipIdx.map λx=>D.tup [.int x.2,x.1]
noncomputable def M8 (K:Oo) (t:Addr):It :=
 ⟨λi H=>∃ xs x,dh K H t xs/\xs[i]?=some x,
  λi H v H'=>∃ p x,v=.ref p/\H p=none/\H'=upd H p (.tup [.int (i:Nat),x])/\∀ xs,dh K H t xs->xs[i]?=some x,
  λi H=>∃ xs,dh K H t xs/\xs.length<=i⟩
theorem DS (I:Inv X aa σ H s) (h1:dh X.K H a xs) (h2:dh X.K H a ys):xs=ys:=I.gD h1 h2
theorem AK {prog:Program} {w:World} {A:Around} (hh:A.handled=none) (j t:Addr) (items:Array Value) (i:Nat) (hx:items[i]?=none) :
 Draws prog w A j [j,t] i (λ_ _=>False) (λk h=>k=i/\h.IsTupleIter j t i/\h.IsTuple t items) where
 live:=λ_ _ ⟨_,⟨o,ho,_⟩,_⟩=>⟨o,ho⟩
 frame:=λ_ _ _ ⟨ek,⟨o,e,r⟩,⟨o',e',r'⟩⟩ hk=>⟨ek,⟨o,hk j (by simp) o e,r⟩,o',hk t (by simp) o' e',r'⟩
 item:=λk s Q E hi ⟨ek,_⟩ _=>absurd ek (OU hi)
 done:=λs Q E ⟨_,s1,s2⟩ q=>nextT hh s1 s2 (λv hv=>by rw [hx] at hv; cases hv) λ_=>q
theorem xC {P:Program} {w:World} {K:Oo} {elts:List Expr} {k:Nat} {pos:Pos} {e j t:Addr} (hne:e≠j) :
 Turn P w K (.Tuple elts k pos) (M8 K t) [e,j] e (λi h=>(∃ old,IsEnum h e j i old)/\h.IsTupleIter j t i) where
 mem:=by simp
 obj:=λi h ⟨⟨old,he⟩,⟨o1,e1,_,d1⟩⟩ b hb=>by
  simp only [OM,PX,or_false] at hb
  rcases hb with rfl | rfl
  ·exact ⟨_,he,λv q=>by have q':So _=Rp v:=q; cases q'⟩
  ·exact ⟨_,e1,λv q=>by rw [d1] at q; cases q⟩
 keep:=λi h h' ⟨⟨old,he⟩,⟨o1,e1,r1⟩⟩ hk=>⟨⟨old,hk e (by simp) _ he⟩,⟨o1,hk j (by simp) _ e1,r1⟩⟩
 item:=by
  intro X hP hw hK hc i aa s σ H E I hf st hg
  subst hP hw hK
  obtain ⟨⟨old,he⟩,hj⟩:=st
  obtain ⟨xs,x,q1,hx⟩:=hg
  obtain ⟨its,rv,p1,z1⟩:=I.tuple q1
  obtain ⟨u,hu,ru⟩:=rv.get hx
  have pT:s.heap.IsTuple t its.toArray:=by obtain ⟨o,ho,hc',n,hd⟩:=p1; exact ⟨o,ho,hc',n,hd⟩
  have hjt:t≠j:=by
   obtain ⟨o,ho,hc',n,hd⟩:=pT
   obtain ⟨o',ho',hc'',_⟩:=hj
   rintro rfl
   rw [ho] at ho'; cases ho'
   rw [hc'] at hc''; exact absurd hc'' (by simp)
  have het:e≠t:=by
   obtain ⟨o,ho,hc',n,hd⟩:=pT
   rintro rfl
   rw [he] at ho; cases ho
   exact absurd hc' (by simp)
  have hi:i<its.toArray.size:=by
   have:i<its.length:=(OH.mp hu).1
   simpa using this
  have hh:X.A.in1.handled=none:=I.ok.hd hc
  refine wpAny_pyNext_enum_itemD (HP hh j t hjt its.toArray) he ⟨hj,pT⟩ hi hne (by simp; exact ⟨hne,het⟩) λx' h' tk hPx a1 a2 a3 a4 hk=>?_
  have ex:x'=u:=by
   have:its[i]?=some x':=by simpa using hPx
   rw [hu] at this; cases this; rfl
  subst ex
  have Hp:H s.heap.objs.size=none:=I.hok.fresh (Ot _)
  have IA:Inv X aa σ (upd H s.heap.objs.size (.tup [.int (i:Nat),x])) { s with heap:=s.heap.push { cls:=.type "tuple",data:=.seq #[.int (i:Nat) tk,x'] },toks:=tk+1 } :=
   I.laid (a:=s.heap.objs.size) (o:=.tup [.int (i:Nat),x]) (λ_ _ q=>Ow _ q) (Ot _) ⟨by show 2<=sizeLine; decide,[.int (i:Nat) tk,x'],.cons ⟨tk,rfl⟩ (.cons ru .nil),_,OF _ rfl,rfl,0,rfl⟩
  have lt:∀ b∈[e,j],b<s.heap.objs.size:=λb hb=>by
   obtain ⟨o1,e1,_⟩:=hj
   simp only [OM,PX,or_false] at hb
   rcases hb with rfl | rfl
   ·exact Oz he
   ·exact Oz e1
  have gf:∀ b∈[e,j],fH X aa (upd H s.heap.objs.size (.tup [.int (i:Nat),x])) b:=λb hb=>⟨by rw [aq (OU (lt b hb))]; exact (hf b hb).1,(hf b hb).2⟩
  have I1:Inv X aa σ (upd H s.heap.objs.size (.tup [.int (i:Nat),x])) { s with heap:=h',toks:=tk+1 } :=
   gM (s:={ s with heap:=s.heap.push { cls:=.type "tuple",data:=.seq #[.int (i:Nat) tk,x'] },toks:=tk+1 }) (t':=tk+1) (h':=h') (L:=[e,j]) IA (λb o hb q=>by
    simp only [OM,PX,or_false,not_or] at hb
    by_cases z:b=s.heap.objs.size
    ·subst z
     rw [OF _ rfl] at q; cases q; exact a3
    ·refine hk b o hb.1 hb.2 ?_
     rw [UU _ _ _ z] at q; exact q) gf
  refine ⟨_,rfl,wpAny_letOwnedTupleGo_enum (s:={ s with heap:=h',toks:=tk+1 }) a1 λh2' hz' hs'=>?_⟩
  refine ⟨.ref s.heap.objs.size,_,gM (s:={ s with heap:=h',toks:=tk+1 }) (t':=tk+1) (h':=h2') (L:=[e,j]) I1 (λb o hb q=>hs'.extBut b o (λz=>hb (by simp [z])) q) gf,rfl,
   ⟨_,x,rfl,Hp,rfl,λxs' h=>by rw [DS I h q1]; exact hx⟩,⟨⟨x',?_⟩,a2.1.extBut hs'.extBut (OT hne)⟩,λb hb=>(gf b hb).1⟩
  have hz2:=hz'
  rw [show ((i:Int)+1)=((i+1:Nat):Int) by lia] at hz2
  exact hz2
 done:=by
  intro X hP hw hK hc i aa s σ H E I hf st hg
  subst hP hw hK
  obtain ⟨⟨old,he⟩,hj⟩:=st
  obtain ⟨xs,q1,hend⟩:=hg
  obtain ⟨its,rv,p1,z1⟩:=I.tuple q1
  have pT:s.heap.IsTuple t its.toArray:=by obtain ⟨o,ho,hc',n,hd⟩:=p1; exact ⟨o,ho,hc',n,hd⟩
  have hl:=rv.length
  have hx:its.toArray[i]?=none:=by simp; lia
  have hh:X.A.in1.handled=none:=I.ok.hd hc
  exact wpAny_pyNext_enum_endD (AK hh j t its.toArray i hx) he ⟨rfl,hj,pT⟩ λh' hk=>⟨rfl,gM (t':=s.toks) (L:=[e,j]) I (λb o hb q=>hk b o (λz=>hb (by simp [z])) q) hf⟩
 self:=λA i s Q E ⟨⟨old,he⟩,_⟩ h=>wpAny_pyIter_enum he h
theorem xD {K:Oo} {Hf:Hp} {ds:List D} {xs:List V} {t:Addr} (h1:dh K Hf t xs) (r1:au K Hf ds xs):iO K (M8 K t) (lC ds) Hf where
 go:=λi d H aQ s1 s2 e=>by
  unfold lC at e
  rw [OE,OL] at e
  obtain ⟨⟨x,m⟩,ex,rfl⟩:=e
  rw [List.getElem?_zipIdx,OL] at ex
  obtain ⟨x',ex,ee⟩:=ex
  cases ee
  obtain ⟨v1,f1,g1⟩:=r1.get ex
  have q1:=az (s1.trans s2) h1
  refine ⟨⟨xs,v1,q1,f1⟩,λv H' ⟨p,y,e1,e2,e3,e4⟩=>?_⟩
  have z1:=e4 xs q1
  rw [f1] at z1; cases z1
  subst e1 e3
  have g:=bB.new s2 e2 (o:=.tup [.int (i:Nat),v1])
  rw [QS]
  exact ⟨upd aQ p (.tup [.int (i:Nat),v1]),g,aI.mpr ⟨p,_,rfl,.inl (.inl ah),.cons (aB.mpr rfl) (.cons (Rep.mono (s1.trans g.f) _ g1) (aC.mpr rfl))⟩⟩
 stop:=λi H aQ s1 s2 e=>⟨xs,az (s1.trans s2) h1,by
  rw [<- r1.length]
  simpa [lC] using e⟩
theorem xE:bootBuiltins "enumerate"=some (.type "enumerate"):=by decide +kernel
noncomputable def K1 (K:Oo) (ta:TA):TI:=λσ H R=>ta σ H λvs H1=>∃ t xs,vs=[.ref t]/\dh K H1 t xs/\R (M8 K t) H1
theorem DT (hg:Gl X "enumerate") (hm:X.mg "enumerate"=none) (ha:PA X [a] ta) (hs:starEach [a] X.env=[(false,eval a X.env)]) :
 PI X (.Tuple elts kt tpos) (.Call (.Name "enumerate" p) [a] [] pos) (K1 X.K ta):=by
 intro aa s σ H R I h
 refine Call_ (dW I hg hm xE (Rt (bJ (ha pos aa s σ H _ I h) λus s1 ⟨vs,H1,I1,r1,q1⟩=>?_) hs (by rfl)))
 obtain ⟨t,xs,e,q1,q⟩:=q1
 subst e
 obtain ⟨u,rfl,rx⟩:=vals1 r1
 cases rx
 obtain ⟨its,rv,p1,z1⟩:=I1.tuple q1
 have pT:s1.heap.IsTuple t its.toArray:=by obtain ⟨o,ho,hc',n,hd⟩:=p1; exact ⟨o,ho,hc',n,hd⟩
 refine sZ pT λh' a1 a2 hk=>wpAny_pyIter_enum a1 ?_
 refine ⟨s1.heap.objs.size+1,[s1.heap.objs.size+1,s1.heap.objs.size],_,_,H1,rfl,I1.kept (t':=s1.toks) hk,xC (QT (Q9 _)),⟨⟨.none,a1⟩,a2⟩,λb hb=>?_,q⟩
 have hb':s1.heap.objs.size<=b:=by
  simp only [OM,PX,or_false] at hb
  rcases hb with rfl | rfl
  ·exact Qs _ _
  ·exact Ot _
 exact I1.kh hb' (I1.hok.fresh hb')
section
variable {K:Oo} {c:Ctx P w K mg base k N sc bk}
theorem HQ (hm:mg "enumerate"=none) (h:aH c a ρ λx=>∃ ds,x=.tup ds/\R (lC ds)) (hg:sc.names.lookup (Om "enumerate")=some .globalImplicit:=by walk_at "u")
 (hs:∀ env,starEach [a] env=(false,eval a env)::starEach [] env:=by intro _; walk_at "u"):Ci c (.Tuple elts kt tpos) (.Call (.Name "enumerate" p) [a] [] pos) ρ R:=λσ H Hf Q S q aa s I =>
 DT (by unfold Gl Pr; rw [c.esc]; exact hg) (by rw [c.emg]; exact hm) (bK c9 dI (hs _)) (by rw [hs]; rfl) aa s σ H Q I
  (h σ H Hf _ S λx v1 H1 aQ ⟨ds,e1,hR⟩ r1 g1=>by
    subst e1
    rw [aI] at r1
    obtain ⟨t,xs,rfl,s1,t1⟩:=r1
    exact ⟨t,xs,rfl,az g1.b s1,q _ _ H1 aQ hR g1 (xD s1 t1)⟩)
end
noncomputable def HR (lo:Int) (n:Nat):It:=⟨λi _=>i<n,λi H x H'=>H'=H/\x=.int (lo - i),λi _=>n<=i⟩
noncomputable def AM (lo:Int) (n:Nat):List D:=(Pd n).map λ(i:Nat)=>D.int (lo - (i:Int))
theorem xF {P:Program} {w:World} {K:Oo} {tg:Expr} (j:Addr) (lo:Int) (n:Nat):Turn P w K tg (HR lo n) [j] j (λi h=>IsRangeIter h j (lo+(i:Nat) * -1) ((n:Int) - (i:Nat)) (-1)) where
 mem:=OG.mpr rfl
 obj:=λi h st b hb=>by
  obtain rfl:b=j:=OG.mp hb
  exact ⟨_,st,λv z=>by have q:So _=Rp v:=z; cases q⟩
 keep:=λi h h' st k=>k j (OG.mpr rfl) _ st
 item:=by
  intro X hP hw hK hc i aa s σ H E I hf st hg
  subst hP hw hK
  obtain ⟨f0,f1,f2,f3,f4,f5⟩:=hf j (OG.mpr rfl)
  have W:=Walks.range (prog:=X.prog) (w:=X.w) (I.ok.hd hc) j lo (-1) n
  refine W.item i s _ _ hg st λv h' tk hv st' kk=>?_
  obtain ⟨t,rfl⟩:=hv
  have I1:Inv X aa σ H { s with heap:=h',toks:=tk }:=I.turned (λb o hb e=>kk b o (by simpa using hb) e) f0 f1 f3 f4 f5
  have e:lo+(i:Int) * -1=lo - i:=by lia
  exact ⟨_,rfl,mz (s:={ s with heap:=h',toks:=tk }) (n:="range_iterator") st' rfl rfl (by decide) ⟨.int (lo - i),H,I1,⟨t,by rw [e]⟩,⟨rfl,rfl⟩,st',λb hb=>(hf b hb).1⟩⟩
 done:=by
  intro X hP hw hK hc i aa s σ H E I hf st hg
  subst hP hw hK
  obtain ⟨f0,f1,f2,f3,f4,f5⟩:=hf j (OG.mpr rfl)
  exact wpAny_pyNext_range_end (I.ok.hd hc) st (by have:n<=i:=hg; lia) λh' eb=>⟨rfl,I.turned (t':=s.toks) (λb o hb e=>eb b o hb e) f0 f1 f3 f4 f5⟩
 self:=λ_ _ _ _ _ st h=>wpAny_pyIter_rangeiter st h
theorem lD {lo hi:Int}:SM lo hi (-1)=((lo - hi).toNat:Int):=by
 unfold SM
 rw [if_neg (by decide)]
 split
 ·rw [show - (-1:Int)=1 by decide,Int.ediv_one]; lia
 ·lia
theorem small_down (ha: -(2 ^ 62)<=a) (ha':a<2 ^ 62) (hb: -(2 ^ 62)<=b) (hb':b<2 ^ 62):Builtin.Range.small a b (-1)=true:=by
 unfold Builtin.Range.small
 rw [lD]
 simp only [Builtin.Range.rangeFitsLong,R8,Bool.or_eq_true,decide_eq_true_eq,beq_iff_eq,show ¬ (-1:Int)>0 by decide,if_false]
 lia
noncomputable def K2 (ta:TA):TI:=λσ H R=>ta σ H λvs H1=>∃ i j:Int,vs=[.int i,.int j,.int (-1)]/\(-(2 ^ 62)<=i/\i<2 ^ 62/\ -(2 ^ 62)<=j/\j<2 ^ 62)/\R (HR i (i - j).toNat) H1
theorem DU (hg:Gl X "range") (hm:X.mg "range"=none) (ha:PA X [a,b,c] ta) (hs:starEach [a,b,c] X.env=[(false,eval a X.env),(false,eval b X.env),(false,eval c X.env)])
 (hs2:starEach [b,c] X.env=[(false,eval b X.env),(false,eval c X.env)]):PI X tg (.Call (.Name "range" p) [a,b,c] [] pos) (K2 ta):=by
 intro aa s σ H R I h
 refine Call_ (dW I hg hm boot_range (Rt (bJ (ha pos aa s σ H _ I h) λus s1 ⟨vs,H1,I1,r1,q1⟩=>?_) (by rw [hs,hs2]) (by rw [hs2]; rfl)))
 obtain ⟨i,j,e,⟨q1,q2,q3,q4⟩,q⟩:=q1
 subst e
 cases r1 with
 | cons r rr=>cases rr with
  | cons r' rr=>cases rr with
   | cons r'' rr =>
    cases rr
    obtain ⟨t,rfl⟩:=r
    obtain ⟨t',rfl⟩:=r'
    obtain ⟨t'',rfl⟩:=r''
    refine call_range_3 (by decide) ?_ (.inl (PyProof.noPylong_of_log2 (by decide +kernel)))
    refine wpAny_pyIter_range (IsRange.new ..) (small_down q1 q2 q3 q4) ?_
    have I2:Inv X aa σ H1 { s1 with heap:=s1.heap.push { cls:=.type "range",data:=.fields #[.int i t,.int j t',.int (-1) t''] },toks:=s1.toks }:=I1.kept λb o e=>Ow _ e
    generalize s1.heap.push { cls:=.type "range",data:=.fields #[.int i t,.int j t',.int (-1) t''] }=g at I2 |-
    refine ⟨g.objs.size,[g.objs.size],_,_,H1,rfl,I2.kept (t':=s1.toks) λb o e=>Ow _ e,xF _ i (i - j).toNat,?_,λb hb=>?_,q⟩
    ·show IsRangeIter _ _ (i+((0:Nat):Int) * -1) ((((i - j).toNat:Nat):Int) - ((0:Nat):Int)) (-1)
     rw [show i+((0:Nat):Int) * -1=i by simp,show (((i - j).toNat:Nat):Int) - ((0:Nat):Int)=SM i j (-1) by rw [lD]; lia]
     exact OF _ rfl
    ·obtain rfl:b=g.objs.size:=OG.mp hb
     exact I2.kh (Ot _) (I2.hok.fresh (Ot _))
theorem AN {K:Oo} {lo:Int} {n:Nat} {fh:Hp}:iO K (HR lo n) (AM lo n) fh where
 go:=λi d H Hf s1 s2 e=>by
  unfold AM at e
  rw [OE] at e
  obtain ⟨j,e1,e2⟩:=OL.mp e
  have hi:i<n:=by simpa using (OH.mp e1).1
  have:j=i:=by rw [RE hi] at e1; cases e1; rfl
  subst this
  refine ⟨hi,λx H' ⟨e3,e4⟩=>?_⟩
  subst e3 e4 e2
  exact ⟨Hf,.refl s2,aB.mpr rfl⟩
 stop:=λi H Hf s1 s2 e=>show n<=i by simpa [AM] using e
section
variable {K:Oo} {c:Ctx P w K mg base k N sc bk}
theorem HU (hm:mg "range"=none) (h:aH c a ρ λx=>aH c b ρ λy=>aH c e ρ λz=>∃ i j:Int,x=.int i/\y=.int j/\z=.int (-1)/\Sd (zL i) (Sd (zL j) (R (AM i (i - j).toNat))))
 (hg:sc.names.lookup (Om "range")=some .globalImplicit:=by walk_at "u")
 (hs:∀ env,starEach [a,b,e] env=(false,eval a env)::starEach [b,e] env:=by intro _; walk_at "u") (hs2:∀ env,starEach [b,e] env=(false,eval b env)::starEach [e] env:=by intro _; walk_at "u")
 (hs3:∀ env,starEach [e] env=(false,eval e env)::starEach [] env:=by intro _; walk_at "u"):Ci c tg (.Call (.Name "range" p) [a,b,e] [] pos) ρ R:=λσ H Hf Q S q aa s I =>
 DU (by unfold Gl Pr; rw [c.esc]; exact hg) (by rw [c.emg]; exact hm) (bK c9 (bK c9 (bK c9 dI (hs3 _)) (hs2 _)) (hs _)) (by rw [hs,hs2,hs3]; rfl) (by rw [hs2,hs3]; rfl) aa s σ H Q I
  (h σ H Hf _ S λx v1 H1 aQ h1 r1 g1=>h1 σ H1 aQ _ (S.cI g1) λy v2 H2 cP h2 r2 g2=>h2 σ H2 cP _ (S.cI (g1.trans g2)) λz v3 H3 Hf3 ⟨i,j,e1,e2,e3,⟨hi,⟨hj,hR⟩⟩⟩ r3 g3=>by
    subst e1 e2 e3; rw [aB] at r1 r2 r3; subst r1 r2 r3
    exact ⟨i,j,rfl,⟨hi.1,hi.2,hj.1,hj.2⟩,q _ _ H3 Hf3 hR ((g1.trans g2).trans g3) AN⟩)
end
noncomputable abbrev ltI (x y:Int):Bool:=decide (x<y)
noncomputable def NQ (d:Addr) (o:Obj) (ys:List (Key×V)):It :=
 ⟨λi H=>H d=some (.frz o (.dK ys))/\i<ys.length,λi H x H'=>H'=H/\∃ y,ys[i]?=some y/\x=kV y.1,λi H=>H d=some (.frz o (.dK ys))/\ys.length<=i⟩
theorem oH (I:Inv X aa σ H s) (hH:H d=some (.frz o (.dK ys))):∃ (vs:List (Key×Value)) (es:Array DictEntry) (ep:Nat),o.data=.dict es ep/\KV ys vs/\s.heap.DictAt (bV X.prog X.w) d vs ep/\(d == sysModules)=false/\ys.length<=sizeLine:=by
 obtain ⟨ho,ok⟩:=(show bq X.prog X.w H s.heap d (.frz o (.dK ys)) from I.hok d _ hH)
 obtain ⟨z,y,vs,kv,o',es,ep,h1,h2,h3,h4,h5,h6⟩:=ok
 rw [ho] at h1; cases h1
 exact ⟨vs,es,ep,h3,kv,⟨o,es,ho,h2,h3,h4,h5,h6⟩,y,z⟩
theorem xG {P:Program} {w:World} {K:Oo} {tg:Expr} {d j:Addr} {o:Obj} {ys:List (Key×V)} {es:Array DictEntry} {ep:Nat} (hod:o.data=.dict es ep):Turn P w K tg (NQ d o ys) [j] j (λi h=>h.IsKeyIter j d i ys.length ep) where
 mem:=OG.mpr rfl
 obj:=λi h ⟨q,e,_,hd⟩ b hb=>by
  obtain rfl:b=j:=OG.mp hb
  exact ⟨_,e,λv z=>by rw [hd] at z; cases z⟩
 keep:=λi h h' ⟨q,e,r⟩ k=>⟨q,k j (OG.mpr rfl) _ e,r⟩
 item:=by
  intro X hP hw hK hc i aa s σ H E I hf st hg
  subst hP hw hK
  obtain ⟨f0,f1,f2,f3,f4,f5⟩:=hf j (OG.mpr rfl)
  obtain ⟨hH,hi⟩:=hg
  obtain ⟨vs,es',ep',e1,kv,da,_⟩:=oH I hH
  rw [hod] at e1; cases e1
  have hl:ys.length=vs.length:=PZ kv
  obtain ⟨⟨ky,v⟩,hv,r1,r2⟩:=dw kv (OR hi)
  rw [hl] at st
  refine wpAny_pyNext_dict_item st da hv λkey h' hkey hit' hs'=>?_
  have I1:Inv X aa σ H { s with heap:=h',toks:=s.toks }:=I.turned (λb o hb e=>hs'.extBut b o hb e) f0 f1 f3 f4 f5
  obtain ⟨q,e,qc,qd⟩:=id hit'
  rw [<- hl] at hit'
  exact ⟨_,rfl,mz (s:={ s with heap:=h',toks:=s.toks }) (n:="dict_keyiterator") e qc qd (by decide) ⟨kV ky,H,I1,u0 hkey,⟨rfl,_,OR hi,by rw [r1]⟩,hit',λb hb=>(hf b hb).1⟩⟩
 done:=by
  intro X hP hw hK hc i aa s σ H E I hf st hg
  subst hP hw hK
  obtain ⟨f0,f1,f2,f3,f4,f5⟩:=hf j (OG.mpr rfl)
  obtain ⟨hH,hi⟩:=hg
  obtain ⟨vs,es',ep',e1,kv,da,_⟩:=oH I hH
  rw [hod] at e1; cases e1
  have hl:ys.length=vs.length:=PZ kv
  rw [hl] at st
  exact wpAny_pyNext_dict_end (I.ok.hd hc) st da (Qm (by lia)) λh' eb=>⟨rfl,I.turned (t':=s.toks) (λb o hb e=>eb b o hb e) f0 f1 f3 f4 f5⟩
 self:=λ_ _ _ _ _ st h=>wpAny_pyIter_keyiter st h
theorem xH {K:Oo} {Hf:Hp} {d:Addr} {o:Obj} {ys:List (Key×V)} {ns:List Int} (hH:Hf d=some (.frz o (.dK ys))) (hk:ys.map (·.1)=ns.map OO):iO K (NQ d o ys) (ns.map D.int) Hf where
 go:=λi x H aQ s1 s2 e=>by
  rw [OE,OL] at e
  obtain ⟨n,hn,rfl⟩:=e
  have hq:=congrArg (λl=>l[i]?) hk
  simp only [OE,hn,Option.map_some] at hq
  obtain ⟨y,hy,ey⟩:=OL.mp hq
  refine ⟨⟨s2 _ _ (s1 _ _ hH),(OH.mp hy).1⟩,λv H' ⟨e1,y',e2,e3⟩=>?_⟩
  rw [hy] at e2; cases e2
  subst e1 e3
  exact ⟨aQ,.refl s2,by rw [ey]; exact aB.mpr rfl⟩
 stop:=λi H aQ s1 s2 e=>⟨s2 _ _ (s1 _ _ hH),by
  have:=congrArg Rl hk
  simp only [Ox] at this e
  lia⟩
theorem nE (hT:s.TypeIs (.ref v) "dict") (hQ:Q false s):wpAny (model prog w) A (Ru (.ref v)) Q E s:=by
 unfold Ru
 refine Ol (wpAny_specialOf hT PySem.F.slot_dict_len.lookup ?_)
 have e:splitId "dict.__len__"=some ("dict","__len__"):=by decide +kernel
 dsimp only
 rw [e]
 dsimp only
 refine Ol (R7 (b:=true) hT (by rw [isSubtype_type]; kernel_rfl) ?_)
 rw [if_neg (by decide)]
 exact Ol (QO hT (Oq hQ))
section
variable {X:Cx} {aa:List (Addr×Obj)} {σ:L2.St} {H Hf:Hp} {s:Shared} {E:Value->Shared->Prop}
theorem qX {K:Oo}:∀ {L:List Int} {us:List Value},Paired (λx u=>jR K Hf (D.int x) u) L us->IntsAre us L
 | _,_,.nil=>.nil
 | _,_,.cons ⟨x,r1,h1⟩ t=>by
  rw [aB] at h1; subst h1
  obtain ⟨tk,rfl⟩:=r1
  exact .cons _ _ (qX t)
theorem DV:KY X D.int ltI oneType' where
 lin:=λL=>⟨λx _=>by simp,λx _ y _ z _ h g=>by simp only [decide_eq_true_eq] at *; lia,λx _ y _ h=>by simp only [decide_eq_true_eq]; lia⟩
 inj:=λ_ _ _ _ _ _ _ x y u ⟨v,r1,h1⟩ ⟨v',r2,h2⟩=>by
  rw [aB] at h1 h2; subst h1 h2
  obtain ⟨t,rfl⟩:=r1
  obtain ⟨t',e⟩:=r2
  cases e; rfl
 kind:=λ_ _ _ _ _ _ _ _ _ L us p h2 Q hQ=>by
  rw [ksk_kind (kz:=L) (qX p) (by simpa using h2)]
  exact Oq hQ
 cmp:=λ_ _ _ _ _ _ _ _ _ _ x y u v ⟨a,r1,h1⟩ ⟨b,r2,h2⟩ Q hQ=>by
  rw [aB] at h1 h2; subst h1 h2
  obtain ⟨t,rfl⟩:=r1
  obtain ⟨t',rfl⟩:=r2
  rw [keyLt'_oneType]
  exact oneLt_int hQ
theorem qY (hc:X.calm=true) (I:Inv X aa σ H s) (sb:aN Hf H) (hA:X.A.units+60<cLine) (hH:Hf d=some (.frz o (.dK ys))) (hk:ys.map (·.1)=ns.map OO) (nd:ns.Nodup)
 (hQ:∀ (L':List Int) (xs':List V) (s':Shared) (H' ak:Hp) (a:Addr),L'.Perm ns->fN ltI b L'->au X.K ak (L'.map D.int) xs'->bB H Hf H' ak->H' a=none->Inv X aa σ (upd H' a (.lst xs')) s'->Q (.ref a) s') :
 wpAny (model X.prog X.w) X.A (call (.builtin "sorted") [.ref d] [(Om "reverse",.bool b)]) Q E s:=by
 refine call_function_entry_kw kind_sorted plain_sorted entry_sorted (args_sorted_rev _ _) ?_
 unfold Builtin.«sorted»
 refine Ol (m:=checkCount "sorted" 1 1 _) (Oq ?_)
 have h1:X.A.in1.handled=none:=I.ok.hd hc
 have h2:X.A.in1.frames=some X.stack:=I.ok.frames
 obtain ⟨vs,es,ep,e1,kv,da,hs,hz⟩:=oH I (sb _ _ hH)
 have hl:ys.length=vs.length:=PZ kv
 have hn:(ns.map D.int).length=ys.length:=by have:=congrArg Rl hk; simp only [Ox] at this |-; lia
 refine Ol (kZ (X:=DH X X.A.in1) (H:=H) (Hf:=Hf) (ds:=ns.map D.int) (T:="dict") hc h1 h2 (jw I (λ_=>h1) h2) sb da.lt_size (by lia) (by decide) (λs' k=>(da.keep k).dictOf.typeIs) (λA s' Q E q h=>nE q h) (λA s1 H1 E I1 sb1 k1=>?_) λus s' H' ak xs I' rv rr g hz'=>?_)
 ·refine wpAny_pyIter_dict hs (da.keep k1) ?_
  refine ⟨_,_,_,rfl,Ot _,I1.kept (t':=s1.toks) λb o e=>Ow _ e,xG e1,⟨_,OF _ rfl,rfl,?_⟩,λb hb=>?_,λb o e=>Ow _ e,xH hH hk⟩
  ·rw [hl]; rfl
  ·obtain rfl:b=s1.heap.objs.size:=OG.mp hb
   exact I1.kh (Ot _) (I1.hok.fresh (Ot _))
 ·have I2:=gj I.ok I'
  have el:=rr.length
  have el2:=rv.length
  refine Ay (b:=b) DV I2 g.b ?_ rr rv (by lia) nd λL' xs' s2 p1 p2 p3 p4 I3=>hQ L' xs' s2 H' ak _ p1 p2 p3 g (I2.hok.fresh (Ot _)) I3
  show X.A.units+1+20<cLine
  lia
end
section
variable {K:Oo} {c:Ctx P w K mg base k N sc bk}
theorem tu (hm:mg "sorted"=none) (h:aH c e ρ λd=>∃ (ns:List Int) (ds:List D),d=.fdK (ns.map OO) ds/\Sd ns.Nodup (∀ L':List Int,L'.Perm ns->fN ltI true L'->R (.ow (L'.map D.int))))
 (hg:sc.names.lookup (Om "sorted")=some .globalImplicit:=by walk_at "u")
 (he:∀ env,starEach [e] env=(false,eval e env)::starEach [] env:=by intro _; walk_at "u")
 (hpl:∀ env,(backTo pos (starEach [e] env)).any (·.1)=false:=by intro _; walk_at "u") :
 dF c (.Call (.Name "sorted" np) [e] [⟨some "reverse",.Constant (.bool true) j kp1,kp⟩] pos) ρ R:=λσ H Hf Q S q aa s I=>by
 have hgl:Gl c.X "sorted":=by unfold Gl Pr; rw [c.esc]; exact hg
 refine Qw (dW I hgl (by rw [c.emg]; exact hm) (show bootBuiltins "sorted"=some (.builtin "sorted") by decide +kernel) ?_ (by decide) (by decide))
 refine callWith_kw ?_ (by rw [he]; rfl) (hpl _)
 have hpa:=bK (X:=c.X) (e:=e) (es:=[]) c9 dI (he _)
 refine bJ (hpa pos aa s σ H (λvs H1=>∃ x,vs=[x]/\∃ (ns:List Int) (ds:List D) (aQ:Hp),Rep c.X.K aQ (.fdK (ns.map OO) ds) x/\ns.Nodup/\bB H Hf H1 aQ/\∀ L':List Int,L'.Perm ns->fN ltI true L'->R (.ow (L'.map D.int))) I ?_) λus s1 hh=>z2 hh λvs H1 hh=>w3 hh λI1 r1 hh=>hh.elim λx hh=>w2 hh λex hh=>z3 hh λns ds aQ hh=>w4 hh λe1 e7 e8 e9=>?_
 ·exact h σ H Hf _ S λd v H1 aQ ⟨ns,ds,hp,⟨hn,hR⟩⟩ rv g=>⟨_,rfl,ns,ds,aQ,by rw [<- hp]; exact rv,hn,g,hR⟩
 ·subst ex
  obtain ⟨a0,ys,o,rfl,hs,hk,hr⟩:=iJ.mp e1
  have eu:us=[.ref a0]:=by
   cases r1 with
   | cons q1 q2=>cases q2; cases q1; rfl
  subst eu
  refine kws_cons (bJ (E7 (X:=c.X) (b:=true) (j:=j) (pos:=kp1) aa s1 σ _ (λx H2=>x=.bl true/\H2=H1) I1 ⟨rfl,rfl⟩) λkv s2 ⟨x,H2,I2,rx,e10,e11⟩=>kws_nil ?_)
  subst e10 e11
  have ek:kv=.bool true:=rx
  subst ek
  refine qY (b:=true) c.calm I2 e8.b ?_ hs hk e7 λL' xs' s' H' ak a p1 p2 p3 g na I3=>?_
  ·have:=c.room.un
   lia
  ·have gg:=e8.trans g
   exact ⟨.ref a,_,I3,rfl,q (.ow (L'.map D.int)) _ _ ak (e9 L' p1 p2) ⟨a,xs',rfl,gg.s.free na,ah,g.b.free na,p3⟩ (gg.trans (bB.f7 g.b na))⟩
end
theorem DW {Q:Value->Shared->Prop} (ho:s.heap.get? l=some o) (hc:o.cls=.type "tuple") (hd:o.data=.seq its.toArray n) (hk:0<=k) (hk2:k<2 ^ 63) (hz:its.length * k.toNat<=sizeLine) (hne:its≠[])
 (h1:k=1->Q (.ref l) s) (h2:k≠1->Q (.ref s.heap.objs.size) { s with heap:=s.heap.push { cls:=.type "tuple",data:=.seq (OB k.toNat its).flatten.toArray } }) :
 wpAny (model prog w) A (Builtin.«tuple.__mul__» ⟨[.ref l,.int k u],[]⟩) (λfin s'=>∃ v,fin=.done (.ret v)/\Q v s') E s:=by
 unfold Builtin.«tuple.__mul__»
 show wpAny _ _ (asIndex (.int k u) >>= _) _ _ s
 have ea:asIndex (.int k u)=pure k:=rfl
 rw [ea]
 refine Ol (Oq ?_)
 have b1:(decide (k< -2 ^ 63) || decide (k>=2 ^ 63))=false:=by simp only [Bool.or_eq_false_iff,decide_eq_false_iff_not]; lia
 rw [if_neg (by rw [b1]; exact OC)]
 dsimp only
 refine Ol (show wpAny _ _ (seqItems? (.ref l) >>= _) _ _ s from Ol (Qt ho hd (Oq ?_)))
 have hne':its.toArray.isEmpty=false:=by cases its with | nil=>exact absurd rfl hne | cons a r=>rfl
 rw [hne',Bool.false_or]
 by_cases e:k=1
 ·rw [if_pos (by simp [e])]
  refine Ol (Ol (QO ⟨o,ho,hc⟩ (Oq ?_)))
  rw [if_pos (by decide)]
  exact Ol (Pw (Oq ⟨_,rfl,h1 e⟩))
 ·rw [if_neg (by simpa using e)]
  have h2':=h2 e
  by_cases e0:k=0
  ·subst e0
   rw [if_pos (by decide)]
   exact Ol (Pk (Oq ⟨_,rfl,h2'⟩))
  ·have hpos:0<k:=by lia
   rw [if_neg (by simp; lia)]
   have hm:(its.toArray.size:Int) * k=((its.length * k.toNat:Nat):Int):=by
    rw [Int.natCast_mul,Int.toNat_of_nonneg hk,OP]
   have hs:(sizeLine:Nat)<=(2 ^ 63 - 1) / 8:=by decide
   rw [hm,if_neg (by lia),if_neg (by unfold Builtin.Tuple.tupleTooMany; simp only [decide_eq_true_eq]; lia)]
   have ef:=foldl_rep its k.toNat []
   rw [Tt] at ef
   show wpAny _ _ (newObj (.type "tuple") (.seq (RW (λx1 x2=>x1++x2) ([]:List Value).toArray (OB k.toNat its.toArray))) >>= _) _ _ _
   rw [ef]
   exact Ol (Pk (Oq ⟨_,rfl,h2'⟩) (hd:=by
    show (OB k.toNat its).flatten.toArray.size<=sizeLine
    rw [OP,len_rep,TZ]; exact hz))
theorem tw:fillsNumberSlot (.type "tuple") "mul"=pure false:=PySem.fillsNumberSlot_seq (id:="tuple.__mul__") (r:=some (.builtin "tuple.__rmul__")) U4.lookup (by decide +kernel) F.slot_tuple_rmul.lookup (by decide +kernel)
theorem tD:seqRepeat? (.type "tuple")=pure (some (.builtin "tuple.__mul__")):=by
 unfold seqRepeat?
 rw [PySem.seqSlot_of (T:="tuple") (name:="__mul__") (id:="tuple.__mul__") U4.lookup (by decide +kernel),PySem.seqSlot_of (T:="tuple") (name:="__rmul__") (id:="tuple.__rmul__") F.slot_tuple_rmul.lookup (by decide +kernel)]
 rfl
theorem AO (a) (t:Tok) (l) (o) (items) (n) :
 Meets (Builtin.«int.__rmul__» ⟨[.int a t,.ref l],[]⟩) (λ_ R s=>s.heap.get? l=some o/\o.cls=.type "tuple"/\o.data=.seq items n/\R (.ok (.ret Value.notImplemented)) s) :=
 .of_wp λprog w A R ⟨hp,g,d,tk,os⟩ ⟨hl,hc,hd,h⟩=>by
  obtain ⟨c,dc,dt,sl⟩:=o
  obtain rfl:c=.type "tuple":=hc
  obtain rfl:dt=.seq items n:=hd
  wp_walk
  exact ⟨_,rfl,h⟩
noncomputable def K3 (K:Oo):R2:=λx y H Q=>∃ l k xs,x=.ref l/\y=.int k/\dh K H l xs/\xs≠[]/\0<=k/\k<2 ^ 63/\xs.length * k.toNat<=sizeLine/\(k=1->Q (.ref l) H)/\(k≠1->∀ p,H p=none->Q (.ref p) (upd H p (.tup (OB k.toNat xs).flatten)))
theorem DX:fG X (binaryOp .Mult) (K3 X.K):=by
 intro aa s σ H x y v u Q I rx ry h
 obtain ⟨l,k,xs,rfl,rfl,hq,hne,h0,h1,hz,q1,q2⟩:=h
 cases rx
 obtain ⟨t,rfl⟩:=ry
 obtain ⟨its,r,pl,hz0⟩:=I.tuple hq
 obtain ⟨o,ho,hc,n,hd⟩:=pl
 have hl:=r.length
 refine wpAny_binaryOp_repeat_ref (T:="tuple") (U:="int") (by decide) ⟨o,ho,hc⟩ (λs'=>RT s' k t) tw F.fills_int_mul Tv tD F.slot_int_index.lookup
  (RU Tv (RT s k t) F.entry_int_rmul (F.args_int_rmul_2 _ _) (AO k t l o _ _) ⟨ho,hc,hd,rfl,⟨o,ho,hc⟩,PK U4 ⟨o,ho,hc⟩ F.entry_tuple_mul (DW (its:=its) ho hc hd h0 h1 (by rw [<- hl]; exact hz) (by rintro rfl; cases r; exact hne rfl) (λe=>?_) λe=>?_) (F.args_tuple_mul_2 _ _)⟩)
 ·exact ⟨.ref l,H,I,rfl,q1 e⟩
 ·have Hp:H s.heap.objs.size=none:=I.hok.fresh (Ot _)
  have hz2:(OB k.toNat xs).flatten.length<=sizeLine:=by rw [len_rep,TZ]; exact hz
  have IA:Inv X aa σ (upd H s.heap.objs.size (.tup (OB k.toNat xs).flatten)) { s with heap:=s.heap.push { cls:=.type "tuple",data:=.seq (OB k.toNat its).flatten.toArray },toks:=s.toks } :=
   I.laid (a:=s.heap.objs.size) (o:=.tup (OB k.toNat xs).flatten) (λ_ _ q=>Ow _ q) (Ot _) ⟨hz2,_,r.rep k.toNat,_,OF _ rfl,rfl,0,rfl⟩
  exact ⟨.ref s.heap.objs.size,_,IA,rfl,q2 e _ Hp⟩
section
variable {K:Oo}
theorem AQ (h:aH c a ρ λx=>aH c b ρ λy=>∃ ds n,x=.tup ds/\y=.int n/\Sd (ds≠[]/\0<=n/\n<2 ^ 63/\ds.length * n.toNat<=sizeLine) (R (.tup (OB n.toNat ds).flatten))):aH c (.BinOp a .Mult b pos) ρ R:=λσ H Hf Q S q =>
 bO (yH DX c9 c9) (h σ H Hf _ S λx v H1 aQ h1 r1 g1=>h1 σ H1 aQ _ (S.cI g1) λy u H2 cP ⟨ds,n,e1,e2,⟨hne,n0,n1,hz⟩,hR⟩ r2 g2=>by
  subst e1 e2
  have r1':=Rep.mono g2.f _ r1
  obtain ⟨l,xs,rfl,k1,k2⟩:=aI.mp r1'
  rw [aB] at r2; subst r2
  have hl:=k2.length
  have g:=g1.trans g2
  refine ⟨l,n,xs,rfl,rfl,az g2.b k1,by rintro rfl; exact hne (List.eq_nil_of_length_eq_zero hl),n0,n1,by rw [<- hl]; exact hz,λe=>?_,λ_ p hp=>?_⟩
  ·subst e
   refine q _ _ H2 cP hR ?_ g
   rw [show (OB (1:Int).toNat ds).flatten=ds by simp]
   exact r1'
  ·have g3:=bB.new (o:=.tup (OB n.toNat xs).flatten) g2.b hp
   exact q _ _ _ _ hR (aI.mpr ⟨p,_,rfl,.inl (.inl ah),(k2.mono g3.f).many _⟩) (g.trans g3))
end
section
variable {K:Oo}
end
end EV
namespace EV
open PySem PySem.Spec PyProof.Rows L2
noncomputable def dig (b:Int):Nat->(Nat->Int)->Int
 | 0,_=>0
 | m+1,f=>f 0 * b ^ m+dig b m (λi=>f (i+1))
noncomputable abbrev bR (p:List Int) (i:Nat):Int:=p.getD i 0
noncomputable def pk (b:Int) (p:List Int):Int:=dig b 6 (bR p)
theorem i8:∀ {m:Nat} {f g:Nat->Int},(∀ i,i<m->f i=g i)->dig b m f=dig b m g
 | 0,_,_,_=>rfl
 | m+1,f,g,h=>by
  unfold dig
  rw [h 0 (by lia),i8 (m:=m) λi hi=>h (i+1) (by lia)]
theorem vC:∀ (m:Nat) (f g:Nat->Int),dig b m (λi=>f i+g i)=dig b m f+dig b m g
 | 0,_,_=>rfl
 | m+1,f,g=>by
  unfold dig
  rw [vC m (λi=>f (i+1)) (λi=>g (i+1)),Rn]
  lia
theorem i9:∀ (m:Nat),dig b m (λ_=>0)=0
 | 0=>rfl
 | m+1=>by unfold dig; rw [i9 m,Rj]; rfl
theorem iB (hb:0<b):∀ (m:Nat) (f:Nat->Int),(∀ i,i<m->0<=f i/\f i<b)->0<=dig b m f/\dig b m f<b ^ m
 | 0,_,_=>⟨PR _,by show (0:Int)<b ^ 0; rw [Int.pow_zero]; decide⟩
 | m+1,f,h=>by
  have h0:=h 0 (by lia)
  have ih:=iB hb m (λi=>f (i+1)) λi hi=>h (i+1) (by lia)
  have hp:0<b ^ m:=Rm hb
  unfold dig
  rw [Int.pow_succ]
  have a1:0<=f 0 * b ^ m:=Int.mul_nonneg h0.1 (by lia)
  have a2:(f 0+1) * b ^ m<=b * b ^ m:=Vd (by lia) (by lia)
  rw [Rn,Uc] at a2
  rw [Int.mul_comm (b ^ m) b]
  lia
theorem vD (hb:0<b):∀ (m:Nat) (f:Nat->Int),(∀ i,i<m->0<=f i/\f i<b)->∀ i,i<m->dig b m f / b ^ (m - 1 - i) % b=f i
 | 0,_,_,_,hi=>absurd hi (Nat.not_lt_zero _)
 | m+1,f,h,i,hi=>by
  have ih:=vD hb m (λi=>f (i+1)) λi hi=>h (i+1) (by lia)
  have bd:=iB hb m (λi=>f (i+1)) λi hi=>h (i+1) (by lia)
  have hp:0<b ^ m:=Rm hb
  unfold dig
  cases i with
  | zero =>
   rw [show m+1 - 1 - 0=m by lia,T7,Int.add_mul_ediv_right _ _ (by lia),Int.ediv_eq_zero_of_lt bd.1 bd.2,Sm]
   exact Int.emod_eq_of_lt (h 0 (by lia)).1 (h 0 (by lia)).2
  | succ i =>
   have e:b ^ m=b ^ (i+1) * b ^ (m - 1 - i):=by rw [<- Int.pow_add]; congr 1; lia
   have hq:0<b ^ (m - 1 - i):=Rm hb
   rw [show m+1 - 1 - (i+1)=m - 1 - i by lia,e,<- Sf,T7,Int.add_mul_ediv_right _ _ (by lia),Int.pow_succ,<- Sf,Int.add_mul_emod_self_right]
   exact ih i (by lia)
theorem jz (h:trim (x::p)=x::p):trim p=p:=by
 rcases List.eq_nil_or_concat p with rfl | ⟨r,z,rfl⟩
 ·rfl
 ·rw [List.concat_eq_append] at h |-
  by_cases e:z=0
  ·subst e
   rw [<- Ra,gI] at h
   have:=congrArg Rl h
   have l:=gm (x::r)
   simp only [Pa,O7,Qp] at this l
   lia
  ·exact nv r e
theorem qZ:∀ {p:List Int},trim p=p->p≠[]->(∀ x∈p,0<=x)->∃ i,i<p.length/\0<bR p i
 | [],_,h,_=>absurd rfl h
 | [x],h,_,h0=>by
  refine ⟨0,by simp,?_⟩
  have:x≠0:=by rintro rfl; simp [trim] at h
  have:=h0 x (by simp)
  show 0<x
  lia
 | x::y::p,h,_,h0=>by
  obtain ⟨i,hi,hq⟩:=qZ (jz h) (by simp) λz hz=>h0 z (OJ _ hz)
  exact ⟨i+1,by simp only [Pa] at *; lia,by simpa [bR] using hq⟩
theorem vE (hb:0<b):∀ (m:Nat) (f:Nat->Int),(∀ i,i<m->0<=f i/\f i<b)->(∃ i,i<m/\0<f i)->0<dig b m f
 | 0,_,_,h=>by obtain ⟨i,hi,_⟩:=h; lia
 | m+1,f,h,⟨i,hi,hq⟩=>by
  have bd:=iB hb m (λi=>f (i+1)) λi hi=>h (i+1) (by lia)
  have hp:0<b ^ m:=Rm hb
  unfold dig
  cases i with
  | zero =>
   have:=Int.mul_pos hq hp
   lia
  | succ i =>
   have:=vE hb m (λi=>f (i+1)) (λi hi=>h (i+1) (by lia)) ⟨i,by lia,hq⟩
   have:=Int.mul_nonneg (h 0 (by lia)).1 (show 0<=b ^ m by lia)
   lia
theorem AR (hb:0<b):∀ (m:Nat) (p q:List Int),trim p=p->trim q=q->p.length<=m->q.length<=m->(∀ x∈p,0<=x/\x<b)->(∀ x∈q,0<=x/\x<b)->HT.lexLt p q=true->dig b m (bR p)<dig b m (bR q)
 | m,[],[],_,_,_,_,_,_,h=>by cases h
 | m,[],y::q,_,tq,_,lq,_,hq,_=>by
  have e:dig b m (bR [])=0:=by
   rw [show bR ([]:List Int)=λ_=>0 from funext λi=>by simp [bR]]; exact i9 m
  rw [e]
  obtain ⟨i,hi,h0⟩:=qZ tq (by simp) λx hx=>(hq x hx).1
  refine vE hb m _ (λj hj=>?_) ⟨i,by lia,h0⟩
  by_cases z:j<(y::q).length
  ·have:bR (y::q) j=(y::q)[j]:=by unfold bR; rw [PJ,OR z]; rfl
   rw [this]; exact hq _ (O9 _)
  ·have:bR (y::q) j=0:=by simp only [bR,PJ,Qm (by lia:(y::q).length<=j)]; rfl
   rw [this]; lia
 | m,x::p,[],_,_,_,_,_,_,h=>by cases h
 | 0,x::p,y::q,_,_,lp,_,_,_,_=>by simp at lp
 | m+1,x::p,y::q,tp,tq,lp,lq,hp,hq,h=>by
  simp only [Pa] at lp lq
  rw [HT.cQ] at h
  have rd:∀ (r:List Int),(∀ z∈r,0<=z/\z<b)->∀ j,0<=bR r j/\bR r j<b:=λr hr j=>by
   by_cases z:j<r.length
   ·have:bR r j=r[j]:=by unfold bR; rw [PJ,OR z]; rfl
    rw [this]; exact hr _ (O9 _)
   ·have:bR r j=0:=by simp only [bR,PJ,Qm (by lia:r.length<=j)]; rfl
    rw [this]; lia
  have hp':∀ z∈p,0<=z/\z<b:=λz hz=>hp z (OJ _ hz)
  have hq':∀ z∈q,0<=z/\z<b:=λz hz=>hq z (OJ _ hz)
  unfold dig
  show x * b ^ m+dig b m (bR p)<y * b ^ m+dig b m (bR q)
  by_cases e:x=y
  ·rw [if_pos e] at h
   subst e
   have:=AR hb m p q (jz tp) (jz tq) (by lia) (by lia) hp' hq' h
   lia
  ·rw [if_neg e] at h
   have hxy:x<y:=of_decide_eq_true h
   have b1:=iB hb m (bR p) λi _=>rd p hp' i
   have b2:=iB hb m (bR q) λi _=>rd q hq' i
   have a2:(x+1) * b ^ m<=y * b ^ m:=Vd (by lia) (by have hh:0<b ^ m:=Rm hb; lia)
   rw [Rn,Uc] at a2
   lia
def Bd (b:Int) (p:List Int):Prop:=p.length<=6/\∀ x∈p,0<=x/\x<b
theorem dM (z:j<p.length):bR p j=p[j]:=by unfold bR; rw [PJ,OR z]; rfl
theorem c7 (z:p.length<=j):bR p j=0:=by unfold bR; rw [PJ,Qm z]; rfl
theorem FI (hb:0<b) (h:Bd b p) (i):0<=bR p i/\bR p i<b:=by
 by_cases z:i<p.length
 ·rw [dM z]; exact h.2 _ (O9 _)
 ·rw [c7 (by lia)]; lia
theorem q8 (p):∃ m,p=trim p++OB m 0:=by
 suffices H:∀ r:List Int,∃ m,r=OB m 0++r.dropWhile λx=>x == 0 by
  obtain ⟨m,h⟩:=H p.reverse
  refine ⟨m,?_⟩
  have:=congrArg List.reverse h
  rw [List.reverse_reverse,UC,List.reverse_replicate] at this
  exact this
 intro r
 induction r with
 | nil=>exact ⟨0,rfl⟩
 | cons x r ih =>
  by_cases e:x=0
  ·subst e
   obtain ⟨m,h⟩:=ih
   refine ⟨m+1,?_⟩
   rw [Qg,List.dropWhile_cons_of_pos (by simp),Ra,<- h]
  ·exact ⟨0,by rw [List.dropWhile_cons_of_neg (by simpa using e)]; rfl⟩
theorem d8 (p) (i):bR (trim p) i=bR p i:=by
 obtain ⟨m,h⟩:=q8 p
 by_cases z:i<(trim p).length
 ·have e:bR p i=bR (trim p++OB m 0) i:=by rw [<- h]
  rw [e]
  unfold bR
  simp only [PJ]
  rw [QG z]
 ·rw [c7 (by lia)]
  have e:bR p i=bR (trim p++OB m 0) i:=by rw [<- h]
  rw [e]
  unfold bR
  simp only [PJ]
  rw [Rv (by lia),Um]
  split <;> rfl
theorem DY (b) (p):pk b (trim p)=pk b p:=i8 λi _=>d8 p i
theorem q9 (h:x∈trim p):x∈p:=by
 obtain ⟨m,e⟩:=q8 p
 rw [e]; exact SX _ h
theorem oJ (h:Bd b p):Bd b (trim p):=⟨OD (gm p) h.1,λx hx=>h.2 x (q9 hx)⟩
theorem AS (hb:0<b) (hp:Bd b p) (hq:Bd b q) (tp:trim p=p) (tq:trim q=q) (h:HT.lexLt p q=true):pk b p<pk b q:=AR hb 6 p q tp tq hp.1 hq.1 hp.2 hq.2 h
theorem tE (hb:0<b) (hp:Bd b p) (hq:Bd b q) (tp:trim p=p) (tq:trim q=q) (h:pk b p=pk b q):p=q:=by
 by_cases e:p=q
 ·exact e
 ·exfalso
  rcases j6 e with z | z
  ·have:=AS hb hp hq tp tq z; lia
  ·have:=AS hb hq hp tq tp z; lia
noncomputable def LW (b:Int) (key:Int):List Int:=trim ((Pd 6).map λ(i:Nat)=>key / b ^ (5 - i) % b)
theorem HV (hb:0<b) (h:Bd b p):LW b (pk b p)=trim p:=by
 have e:((Pd 6).map λ(i:Nat)=>pk b p / b ^ (5 - i) % b)=p++OB (6 - p.length) 0:=by
  refine To (by simp; have:=h.1; lia) λi h1 h2=>?_
  have hi:i<6:=by simpa using h1
  rw [U0,UI]
  have:=vD hb 6 (bR p) (λj _=>FI hb h j) i hi
  rw [show 6 - 1 - i=5 - i by lia] at this
  rw [show pk b p=dig b 6 (bR p) from rfl,this]
  by_cases z:i<p.length
  ·rw [dM z,List.getElem_append_left z]
  ·rw [c7 (by lia),List.getElem_append_right (by lia),List.getElem_replicate]
 unfold LW
 rw [e]
 generalize 6 - p.length=m
 induction m with
 | zero=>simp
 | succ m ih=>rw [List.replicate_succ',<- OY,gI]; exact ih
noncomputable def cS (B:List (Int×Int)):List (Key×D):=B.map λx=>(.inl x.1,.int x.2)
theorem ja (B) (k):bC (cS B) (.inl k)=(bC B k).map D.int:=by
 induction B with
 | nil=>rfl
 | cons t B ih =>
  by_cases e:t.1=k
  ·rw [bf e]
   show bC ((OO t.1,D.int t.2)::cS B) _=_
   rw [bf (by rw [e])]; rfl
  ·rw [aW e,<- ih]
   show bC ((OO t.1,D.int t.2)::cS B) _=_
   rw [aW λz=>e (OO.inj z)]
theorem rg (B) (k n):putD (cS B) (.inl k) (.int n)=cS (putD B k n):=by
 unfold putD
 rw [ja]
 by_cases h:(bC B k).isSome=true
 ·rw [if_pos h,if_pos (by rw [Q8]; exact h)]
  unfold cS
  rw [OQ,OQ]
  refine Qv λt _=>?_
  simp only [TU]
  by_cases e:t.1=k
  ·rw [if_pos e,if_pos (by rw [e])]
  ·rw [if_neg e,if_neg λz=>e (OO.inj z)]
 ·rw [if_neg h,if_neg (by rw [Q8]; exact h)]
  unfold cS
  simp
noncomputable def gp (b:Int) (t:aF):Int×Int:=(pk b t.1,t.2)
def Gd (b:Int) (A:List aF):Prop:=∀ t∈A,Bd b t.1/\trim t.1=t.1
theorem tF (hb:0<b) (h:Gd b A) (hp:Bd b p) (tp:trim p=p):bC (A.map (gp b)) (pk b p)=bC A p:=by
 induction A with
 | nil=>rfl
 | cons t A ih =>
  have ih:=ih λx hx=>h x (OJ _ hx)
  have ht:=h t OI
  by_cases e:t.1=p
  ·rw [bf e,OA,bf (show (gp b t).1=pk b p by unfold gp; rw [e])]; rfl
  ·rw [aW e,OA,aW λz=>e (tE hb ht.1 hp ht.2 tp z),ih]
theorem HW (hb:0<b) (h:Gd b A) (hp:Bd b p) (tp:trim p=p):putD (A.map (gp b)) (pk b p) n=(putD A p n).map (gp b):=by
 unfold putD
 rw [tF hb h hp tp]
 split
 ·rw [OQ,OQ]
  refine Qv λt ht=>?_
  simp only [TU]
  by_cases e:t.1=p
  ·rw [if_pos e,if_pos (show (gp b t).1=pk b p by unfold gp; rw [e])]; rfl
  ·rw [if_neg e,if_neg (show ¬ (gp b t).1=pk b p from λz=>e (tE hb (h t ht).1 hp (h t ht).2 tp z))]
 ·simp [gp]
theorem HX (h:Gd b A) (hp:Bd b p) (tp:trim p=p):Gd b (putD A p n):=λt ht=>by
 rcases oF ht with e | e
 ·rw [e]; exact ⟨hp,tp⟩
 ·exact h t e
theorem oM (h:∀ t∈ts,Bd b t.1):Gd b (aL ts):=by
 unfold aL
 suffices H:∀ A,Gd b A->Gd b (ts.foldl fC A) from H [] (λ_ h=>by cases h)
 induction ts with
 | nil=>exact λA h=>h
 | cons u ts ih=>exact λA hA=>ih (λt ht=>h t (OJ _ ht)) _ (HX hA (oJ (h u OI)) (cG _))
theorem HY (hb:0<b) (h:∀ t∈ts,Bd b t.1) (ht:Bd b t.1) :
 putD ((aL ts).map (gp b)) (pk b t.1) ((bC ((aL ts).map (gp b)) (pk b t.1)).getD 0+t.2)=(aL (ts++[t])).map (gp b):=by
 rw [qS]
 unfold fC
 rw [<- DY b t.1,tF hb (oM h) (oJ ht) (cG _),HW hb (oM h) (oJ ht) (cG _)]
theorem ri:∀ {L M:List Int},L.Perm M->L.Pairwise (λx y=>y<x)->M.Pairwise (λx y=>y<x)->L=M
 | [],M,h,_,_=>by rw [List.nil_perm] at h; exact h.symm
 | x::L,[],h,_,_=>by simp at h
 | x::L,y::M,h,h1,h2=>by
  rw [RH] at h1 h2
  by_cases e:x=y
  ·subst e
   rw [ri ((List.perm_cons _).mp h) h1.2 h2.2]
  ·exfalso
   have hx:x∈M:=(OM.mp (h.subset OI)).resolve_left e
   have hy:y∈L:=(OM.mp (h.symm.subset OI)).resolve_left (OT e)
   have a:=h1.1 y hy
   have b:=h2.1 x hx
   lia
theorem oN {A:List aF} (hk:(A.map (·.1)).Nodup) {t:aF} (h:t∈A):bC A t.1=some t.2:=by
 induction A with
 | nil=>cases h
 | cons u A ih =>
  rw [OA,QL] at hk
  rcases OM.mp h with rfl | h
  ·exact bf rfl
  ·rw [aW λe=>hk.1 (by rw [e]; exact List.mem_map_of_mem h)]
   exact ih hk.2 h
theorem AU (hb:0<b) (h:∀ t∈ts,Bd b t.1) (hp:L'.Perm (((aL ts).map (gp b)).map (·.1))) (hs:L'.Pairwise λx y=>y<x):L'=(eY (aL ts)).map λt=>pk b t.1:=by
 have hg:=oM h
 have hk:=d7 ts
 generalize aL ts=A at *
 refine ri (hp.trans ?_) hs ?_
 ·rw [OQ]
  exact ((bz A).map _).symm
 ·rw [Qy]
  have hs2:=gK (keys_nodup hk)
  have hm:∀ t∈eY A,t∈A:=λt ht=>(bz A).subset ht
  have hk2:(eY A).Pairwise λx y=>x.1≠y.1:=by
   have:=((bz A).map (·.1)).nodup_iff.mpr hk
   unfold Sq at this
   rwa [Qy] at this
  unfold i7 fN at hs2
  refine Ue.imp_of_mem (R:=λx y=>(if true then c6 y x=true else c6 x y=true)/\x.1≠y.1) (λ{x y} hx hy q=>?_) (hs2.and hk2)
  obtain ⟨q1,q2⟩:=q
  rw [if_pos rfl] at q1
  unfold c6 at q1
  rw [if_neg (OT q2)] at q1
  exact AS hb (hg _ (hm _ hy)).1 (hg _ (hm _ hx)).1 (hg _ (hm _ hy)).2 (hg _ (hm _ hx)).2 q1
noncomputable def DZ (b:Int) (p:List Int):Int:=p.foldl (λa x=>a * b+x) 0
theorem AV (b) (p) (x):DZ b (p++[x])=DZ b p * b+x:=by unfold DZ; rw [US]; rfl
theorem rj (b):∀ (p:List Int) (a:Int),p.foldl (λa x=>a * b+x) a=a * b ^ p.length+dig b p.length (bR p)
 | [],a=>by simp [dig]
 | x::p,a=>by
  rw [P8,rj b p]
  show (a * b+x) * b ^ p.length+_=a * b ^ (p.length+1)+(x * b ^ p.length+dig b p.length (bR p))
  rw [Rn,Int.pow_succ,Sf,Int.mul_comm b (b ^ p.length)]
  lia
theorem vF (b) (p):DZ b p=dig b p.length (bR p):=by unfold DZ; rw [rj]; lia
theorem rm (k):∀ (m:Nat) (f:Nat->Int),(∀ i,m<=i->f i=0)->dig b (m+k) f=dig b m f * b ^ k
 | 0,f,h=>by
  rw [QS,i8 (g:=λ_=>0) λi _=>h i (OV _),i9]
  show 0=0 * b ^ k
  rw [Rj]
 | m+1,f,h=>by
  rw [show m+1+k=(m+k)+1 by lia]
  unfold dig
  rw [rm k m (λi=>f (i+1)) λi hi=>h (i+1) (by lia),Rn,Int.pow_add,Sf]
theorem HZ (h:p.length<=6):DZ b p * b ^ (6 - p.length)=pk b p:=by
 rw [vF,<- rm (6 - p.length) p.length (bR p) λi hi=>c7 hi]
 rw [show p.length+(6 - p.length)=6 by lia]
 rfl
theorem AW (hb:0<b) (h:∀ x∈p,0<=x/\x<b):0<=DZ b p/\DZ b p<b ^ p.length:=by
 rw [vF]
 exact iB hb _ _ λi hi=>by rw [dM hi]; exact h _ (O9 _)
theorem K4 (hb:0<b) (h:Bd b p):0<=pk b p/\pk b p<b ^ 6:=iB hb _ _ λi _=>FI hb h i
theorem two_pos (W):(0:Int)<2 ^ W:=Rm (by decide)
theorem gO (W):((2:Int) ^ W)=((2 ^ W:Nat):Int):=by rw [Int.natCast_pow]; rfl
theorem AX (hW:W<=10) (hn:n<=6):((2:Int) ^ W) ^ n<=2 ^ 60:=by
 rw [<- Int.pow_mul,gO,gO]
 exact Int.ofNat_le.mpr (Uy (by decide) (OD (Rg hW hn) (by decide)))
theorem vG (hW:W<=10) (hn:n<=6) (h0:0<=x) (h:x<((2:Int) ^ W) ^ n):x.natAbs<2 ^ 64:=by
 have:=AX hW hn
 have h60:(2:Int) ^ 60<2 ^ 64:=by decide
 have:x<((2 ^ 64:Nat):Int):=by rw [<- gO]; lia
 lia
theorem xJ (W) (h:0<=x):Builtin.bitAnd x (1 * 2 ^ W - 1)=x % 2 ^ W:=by
 have hp:=two_pos W
 have e0:(1:Int) * 2 ^ W - 1=((2 ^ W - 1:Nat):Int):=by
  have:0<2 ^ W:=Nat.pow_pos (by decide)
  rw [Uc,gO]; lia
 rw [e0]
 show (match decide (0<=x),decide (0<=((2 ^ W - 1:Nat):Int)) with
  | true,true=>(((x.toNat &&& (((2 ^ W - 1:Nat):Int)).toNat:Nat)):Int)
  | true,false=>_ | false,true=>_ | false,false=>_)=_
 rw [decide_eq_true h,decide_eq_true (Int.natCast_nonneg _)]
 show ((x.toNat &&& (2 ^ W - 1):Nat):Int)=_
 rw [Nat.and_two_pow_sub_one_eq_mod,gO,Int.natCast_emod,Int.toNat_of_nonneg h]
noncomputable def cJ (p q:List Int):List Int:=(Pd (max p.length q.length)).map λk=>bR p k+bR q k
noncomputable def dN (l r:aF):aF:=(cJ l.1 r.1,l.2 * r.2)
noncomputable def aM (A B:List aF):List aF:=A.flatMap λl=>B.map (dN l)
theorem jb (p q):(cJ p q).length=max p.length q.length:=by simp [cJ]
theorem bZ (p q) (i):bR (cJ p q) i=bR p i+bR q i:=by
 by_cases z:i<max p.length q.length
 ·rw [dM (by rw [jb]; exact z)]; simp [cJ]
 ·rw [c7 (by rw [jb]; lia),c7 (by lia),c7 (by lia)]; rfl
theorem D0 (b) (p q):pk b (cJ p q)=pk b p+pk b q:=by
 unfold pk
 rw [<- vC]
 exact i8 λi _=>bZ p q i
theorem gq (h:t∈aM A B):∃ l∈A,∃ r∈B,t=dN l r:=by
 unfold aM at h
 obtain ⟨l,hl,h⟩:=Tj.mp h
 obtain ⟨r,hr,rfl⟩:=O1.mp h
 exact ⟨l,hl,r,hr,rfl⟩
theorem nF (A B) (l):aM (A++[l]) B=aM A B++B.map (dN l):=by
 unfold aM
 rw [List.flatMap_append,RK,U1,PD]
theorem c8 (A B):(aM A B).length=A.length * B.length:=by
 induction A with
 | nil=>simp [aM]
 | cons a A ih =>
  unfold aM at *
  rw [RK,O7,ih,Ox,Pa,RP]
  lia
end EV
namespace EV
open PySem PySem.Spec PySem.Calls PyProof.Rows L2
theorem AY {K:Oo}:∀ {kvs:List (Key×D)} {ys:List (Key×V)},ys.map (·.1)=kvs.map (·.1)->au K H (kvs.map (·.2)) (ys.map (·.2))->lQ K H kvs ys
 | [],[],_,_=>.nil
 | [],y::ys,h,_=>by simp at h
 | x::kvs,[],h,_=>by simp at h
 | x::kvs,y::ys,h,r=>by
  rw [OA,OA] at h r
  obtain ⟨v,t,e,r1,r2⟩:=aE.mp r
  injection e with e1 e2
  injection h with h1 h2
  subst e1 e2
  exact .cons ⟨h1.symm,r1⟩ (AY h2 r2)
section
variable {K:Oo}
theorem Ia (h:aH c a ρ λx=>aH c b ρ λy=>∃ (kvs:List (Key×D)) (kk:Key) (d:D),x=.fdK (kvs.map (·.1)) (kvs.map (·.2))/\y.wR=some kk/\bC kvs kk=some d/\R d) (hs:CO b:=by with_unfolding_all exact λ_ _=>rfl):aH c (.Subscript a b pos) ρ R:=λσ H Hf Q S q =>
 bO (uG c.hu c9 c9 hs) (h σ H Hf _ S λx v H1 aQ h1 r1 g1=>h1 σ H1 aQ _ (S.cI g1) λy u H2 cP ⟨kvs,kk,d,e1,e2,e3,hR⟩ r2 g2=>by
  subst e1
  obtain ⟨p,ys,o,rfl,k1,k2,k3⟩:=iJ.mp r1
  have kv:=(AY k2 k3).mono g2.f
  have rel:=kv.val kk
  rw [e3] at rel
  rw [iS e2 r2]
  cases z:kr ys kk with
  | none=>rw [z] at rel; exact rel.elim
  | some v =>
   rw [z] at rel
   exact ⟨p,v,rfl,.inl ⟨ys,kk,.inr ⟨o,g2.b _ _ (g2.f _ _ k1)⟩,rfl,z.symm⟩,q d v H2 cP hR rel (g1.trans g2)⟩)
end
end EV
namespace EV
open PySem PySem.Spec PyProof.Rows L2
theorem rA {A:List aF} {l:List Int} {n:Int} {t:aF} (h:t∈putD A l n):t=(l,n)\/t∈A:=by
 unfold putD at h
 split at h
 ·obtain ⟨u,hu,e⟩:=O1.mp h
  split at e
  ·rename_i q; subst e; exact .inl (by rw [q])
  ·subst e; exact .inr hu
 ·rcases OZ.mp h with q | q
  ·exact .inr q
  ·simp at q; exact .inl q
theorem Ib {A:List aF} (h:∀ t∈A,t.2.natAbs<=c) (l):((bC A l).getD 0).natAbs<=c:=by
 unfold bC
 cases e:A.find? (λkv=>decide (kv.1=l)) with
 | none=>exact OV _
 | some u=>exact h u (List.mem_of_find?_eq_some e)
theorem vH:∀ (ts A:List aF) (c:Nat),(∀ t∈A,t.2.natAbs<=c)->(∀ t∈ts,t.2.natAbs<=m)->∀ t∈ts.foldl fC A,t.2.natAbs<=c+ts.length * m
 | [],A,c,h,_,t,ht=>by simpa using h t ht
 | u::ts,A,c,h,g,t,ht=>by
  have:=vH (m:=m) ts (fC A u) (c+m) (λt' ht'=>by
   rcases rA ht' with rfl | q
   ·have a:=Ib h (trim u.1)
    have b:=g u OI
    show ((bC A (trim u.1)).getD 0+u.2).natAbs<=c+m
    omega
   ·have:=h t' q; omega) (λt h=>g t (OJ _ h)) t ht
  rw [Pa,RP]
  omega
theorem Ic (h:∀ t∈ts,t.2.natAbs<=m):∀ t∈aL ts,t.2.natAbs<=ts.length * m:=λt ht=>by
 have:=vH ts [] 0 (by simp) h t ht
 omega
theorem xK (l m:List Int):lR (n+1) (.tup (l.map D.int)) (.tup (m.map D.int)):=.tup λi d e h1 h2=>by
 simp only [OE,OL] at h1 h2
 obtain ⟨a,_,rfl⟩:=h1
 obtain ⟨b,_,rfl⟩:=h2
 exact .sc rfl
theorem rB (x y):lR (n+2) (aO x) (aO y):=.tup λi d e h1 h2=>by
 rcases i with _ | _ | i
 ·simp at h1 h2; subst h1 h2; exact xK _ _
 ·simp at h1 h2; subst h1 h2; exact .sc rfl
 ·simp at h1
theorem rC (L M:List aF):lR (n+3) (.lst (L.map aO)) (.lst (M.map aO)):=.lst λi d e h1 h2=>by
 simp only [OE,OL] at h1 h2
 obtain ⟨a,_,rfl⟩:=h1
 obtain ⟨b,_,rfl⟩:=h2
 exact rB a b
theorem rD (es):pX [] es:=λi d e h _=>by simp at h
theorem nG (h:lR 40 d e) (t:pX ds es):pX (d::ds) (e::es):=λi a b h1 h2=>by
 cases i with
 | zero=>simp at h1 h2; subst h1 h2; exact h
 | succ i=>exact t i a b (by simpa using h1) (by simpa using h2)
theorem gP (L M:List aF):pX (L.map aO) (M.map aO):=λi d e h1 h2=>by
 simp only [OE,OL] at h1 h2
 obtain ⟨a,_,rfl⟩:=h1
 obtain ⟨b,_,rfl⟩:=h2
 exact rB a b
theorem fD (h:pX ds ds) (t:T true):ze (.lst ds) (.lst ds) T:=CY ⟨h,by rw [decide_eq_true rfl]; exact t⟩
section
variable {K:Oo}
theorem int_mk (KX:K.In h) (G:h.Ns mainGlobals mg) (a:Pq K mainGlobals x=some (some (.int i tk))):∃ tk:Tok,mg x=some (.int i tk):=⟨tk,PySem.W.mg_of KX G a⟩
theorem vI (P) (w) (base) {st:Stmt} (D:aA K mg x st) (ok:∀ {f:Addr} {fd:FuncData},eG K x x st f fd->br P w K mg base (dD P w) k f fd ps (HJ K F))
 (hb:∀ (kV doc pm:Value) (an:Option Addr) (cdv ct:Value) (us:List Value),us.length=ps.length->bindArgs (QC x x (fK st) (av st) (aR st) .none kV doc pm an cdv ct) ⟨us,[]⟩=pure (ps.zip us):=by intro _ _ _ _ _ _ us hl; first | (obtain ⟨a,rfl⟩:=KH us hl; rfl) | (obtain ⟨a,b,rfl⟩:=KI us hl; rfl) | (obtain ⟨a,b,c,rfl⟩:=KJ us hl; rfl) | (obtain ⟨a,b,c,d,rfl⟩:=KL us hl; rfl) | (obtain ⟨a,b,c,d,e,rfl⟩:=KN us hl; rfl) | (obtain ⟨a,b,c,d,e,f,rfl⟩:=KO us hl; rfl) | (obtain rfl:=len0 us hl; rfl)):DQ P w K mg base k x F :=
 let ⟨f,fd,m,Fu⟩:=D; ⟨f,fd,ps,m,Fu.kp,Fu.binds hb,ok Fu⟩
end
structure l0 (P:Program) (w:World) (K:Oo) (mg:Str->Option Value) (base:Heap) (k:Nat) (f:Addr) (F:Fn):Prop where
 ex:∃ fd ps,Qu K (.ref f)=true/\Binds K fd ps []/\br P w K mg base (dD P w) k f fd ps (dS K F)
section
variable {K:Oo} {c:Ctx P w K mg base k N sc bk}
theorem cU.at_ (h:cU P w K mg base j x F):∃ f,mg x=some (.ref f)/\l0 P w K mg base j f F:=by
 obtain ⟨f,fd,ps,a,b,c,d⟩:=h.ex
 exact ⟨f,a,fd,ps,b,c,d⟩
theorem iC (hm:mg x=some (.ref f)) (hR:R (.adr f)) (hg:sc.names.lookup x=some .globalImplicit:=by walk_at "u") (hd:(x == ("__debug__":Str))=false:=by decide) :
 aH c (.Name x pos) ρ R:=λσ H Hf Q S q =>
 bO (uu (X:=c.X) (v:=.ref f) (u:=.ref f) (by unfold Gl Pr; rw [c.esc]; exact hg) (by rw [c.emg]; exact hm) rfl hd) (q _ _ H Hf hR (pV.mpr rfl) (.refl S.sb))
theorem AZ (h:l0 P w K mg base j f F) (hj:j<=k):Qu K (.ref f)=true /\
 ∀ (aa:List (Addr×Obj)) (σ:L2.St) (H Hf:Hp) (s:Shared) (us:List Value) (vs:List V) (ds:List D) (r:Res) (Q:VK),Inv c.X aa σ H s->bw c σ H Hf ρ->Vals vs us->au c.X.K Hf ds vs->F ds r ->
  (∀ sl v H' ak,r=.ok sl->bh c.X.K (λp=>H p=none) H' ak sl v->bB H Hf H' ak->Q v H')->(∀ C,r=.ex C->c.RX C ρ)->wpAny (model c.X.prog c.X.w) c.X.A (call (.ref f) us) (EP c.X aa σ Q) c.X.xe s:=by
 obtain ⟨fd,ps,hk,hb,hF⟩:=h.ex
 refine ⟨hk,λaa σ H Hf s us vs ds r Q I S rv rs hr q hx=>?_⟩
 have hF':br c.X.prog c.X.w c.X.K c.X.mg c.X.base (dD c.X.prog c.X.w) k f fd ps (dS c.X.K F):=by rw [c.eP,c.ew,c.eK,c.emg,c.eb]; exact hF.mono hj
 have uh:dS c.X.K F vs H Q (λcv ao H'=>∃ C,r=.ex C/\cv=.ref C/\aN H H'):=by
  refine ⟨Hf,ds,r,S.bas.b,rs,hr,?_⟩
  cases r with
  | ok sl=>exact λv H' ak g rs2=>q sl v H' ak rfl rs2 g
  | ex C=>exact λa H' s2=>⟨C,rfl,rfl,s2⟩
 have hl:us.length=ps.length:=by rw [<- rv.length]; exact hF'.len _ _ _ _ uh
 have hb':Binds c.X.K fd ps []:=by rw [c.eK]; exact hb
 have hb2:=hb' s us I.Ce (by simpa using hl)
 rw [PD] at hb2
 refine wpAny_call (Sk (hF'.run c.X.A c.X.stack s H ⟨us,[]⟩ us vs Q _ c.room I.GN hb2 rv uh) λr' s' hq=>?_)
 cases r' with
 | error e =>
  obtain ⟨a,C,H',rfl,hE,C',e1,e2,sm⟩:=hq
  cases e2
  exact c.exc C a aa σ H Hf ρ s H' s' I S (hx C e1) hE sm
 | ok fl =>
  cases fl with
  | ret u=>exact I.after hq
  | next=>exact PM hq
  | brk=>exact PM hq
  | cont=>exact PM hq
theorem fO {R:Sl->Prop} (h:l0 P w K mg base j f F) (hj:j<=k) (hN:At N i x) (hi:At ρ i (.va (.adr f)))
 (ha:pW c (e::es) ρ λds=>∃ r,F ds r/\Hg c ρ R r)
 (hdb:(x == ("__debug__":Str))=false:=by decide) (hcd:(x == ("__classdict__":Str))=false:=by decide) (he:∀ env,starEach (e::es) env=(false,eval e env)::starEach es env:=by intro _; walk_at "u")
 (hpl:∀ env,(backTo pos (starEach es env)).any (·.1)=false:=by intro _; walk_at "u"):dF c (.Call (.Name x p) (e::es) [] pos) ρ R:=λσ H Hf Q S q aa s I=>by
 obtain ⟨hk,run⟩:=AZ (c:=c) (ρ:=ρ) h hj
 obtain ⟨v0,e0,r0⟩:=S.va hi.get
 rw [pV] at r0
 subst r0
 refine Qw (bJ (c.n6 hN hdb hcd aa s σ H (λv H1=>v=.ref f/\H1=H) I ⟨_,e0,rfl,rfl⟩) λfv s1 ⟨v,H1,I1,rv,e1,e2⟩=>?_)
 subst e1 e2
 have ef:fv=.ref f:=rv
 subst ef
 refine UH (h₀:=c.X.base) I1.ok.mod.kin (by rw [c.eK]; exact hk) (bJ (ha σ _ Hf (λvs H1=>∃ aQ ds,(∃ r,F ds r/\Hg c ρ R r)/\au c.X.K aQ ds vs/\bB _ Hf H1 aQ) S (λds vs H1 aQ hr rs g=>⟨aQ,ds,hr,rs,g⟩) pos aa s1 I1) λus s2 ⟨vs,H2,I2,rv,aQ,ds,⟨r,hF,hR⟩,rs,g⟩=>⟨I2.Ce,?_⟩) (he _) (hpl _)
 refine run aa σ H2 aQ s2 us vs ds r Q I2 (S.cI g) rv rs hF (λsl v H' ak e1 rs2 g2=>?_) λC e1=>?_
 ·subst e1
  exact q sl v H' ak hR (rs2.weak λp hp=>g.s.free hp) (g.trans g2)
 ·subst e1
  exact hR
end
end EV
namespace EV
open PySem PySem.Spec PySem.Calls PyProof.Rows L2
theorem xM (hc:X.calm=true) (I:Inv X aa σ H s) (sb:aN Hf H) (hv:s.heap.IsItemsView v d) (hH:Hf d=some (.frz o u)) (hd:HO.dct u) (hp:Paired (mZ X.K Hf) ds (bL u))
 (hQ:∀ (a:Addr) (s':Shared) (H' ak:Hp) (xs:List V),Inv X aa σ H' s'->H' a=some (.lst xs)->H a=none->ak a=none->au X.K ak ds xs->bB H Hf H' ak->Q (.ref a) s'):wpAny (model X.prog X.w) X.A (call (.type "list") [.ref v]) Q E s:=by
 obtain ⟨ho,ok⟩:=(show bq X.prog X.w H s.heap d (.frz o u) from I.hok d _ (sb _ _ hH))
 obtain ⟨_,_,_,_,_,_,hz⟩:=cR ok hd ho
 have h1:X.A.in1.handled=none:=I.ok.hd hc
 have h2:X.A.in1.frames=some X.stack:=I.ok.frames
 refine callType_codes (Q₁:=λobj s₁=>obj=.ref s.heap.objs.size/\s₁={ s with heap:=s.heap.push { cls:=.type "list",data:=.seq #[] } }) F.called_list (F.typeCall_list_1 _) F.entry_list_init
  (code_list_new _ ⟨rfl,rfl⟩) λobj s₁ h₁=>?_
 obtain ⟨rfl,rfl⟩:=h₁
 have hS:(s.heap.push { cls:=.type "list",data:=.seq #[] }).get? s.heap.objs.size=some { cls:=.type "list",data:=.seq #[] }:=OF _ rfl
 refine ⟨⟨_,hS,rfl⟩,F.args_list_init_2 _ _,?_⟩
 show wpAny _ X.A.in1.in1 (do let old <- R1 (.ref s.heap.objs.size); QH (.ref s.heap.objs.size) (λ_=> #[]); letGo old.toList.reverse; Sz (.ref s.heap.objs.size) (.ref v) .none) _ _ _
 refine Ol (Sj hS rfl ?_)
 have HS:H s.heap.objs.size=none:=I.hok.fresh (Ot _)
 have I1:Inv X aa σ (upd H s.heap.objs.size (.lst [])) { s with heap:=s.heap.push { cls:=.type "list",data:=.seq ([]:List Value).toArray },toks:=s.toks }:=I.CL (t':=s.toks) (ys:=[]) (its:=[]) .nil (OV _)
 refine Ol (Qc hS rfl ?_)
 have I2:=I1.sF (f:=λ_=>(#[]:Array Value)) (its':=[]) (ys:=[]) (t':=s.toks) ah (n:=0) hS (by simp) .nil (OV _)
 rw [nL] at I2
 refine Ol (Rk ?_)
 have k1:∀ b o,s.heap.get? b=some o->((s.heap.push { cls:=.type "list",data:=.seq ([]:List Value).toArray }).update s.heap.objs.size (O4 λ_=>(#[]:Array Value))).get? b=some o:=λb o e=>by
  rw [QJ _ _ _ _ (OU (Oz e))]
  exact Ow _ e
 have up:∀ s':Shared,(∀ b o,s.heap.get? b=some o->s'.heap.get? b=some o)->s'.heap.IsItemsView v d:=λs' k=>by obtain ⟨q,q1,q2⟩:=hv; exact ⟨q,k _ _ q1,q2⟩
 have hne:s.heap.objs.size≠v:=QT (by obtain ⟨_,q,_⟩:=hv; exact Oz q)
 have g0:bB H Hf (upd H s.heap.objs.size (.lst [])) Hf:=bB.f7 sb HS
 refine nq (X:=DH X X.A.in1) (T:="dict_items") (ds:=ds) (H:=H) (Hf:=Hf) (R:=wants (λr s₂=>r=.none/\Q (.ref s.heap.objs.size) s₂) E) hc h1 h2 (jw I2 (λ_=>h1) h2) sb HS hne ?_ (by rw [PZ hp]; exact hz) (by decide) (λs' k=>(up s' λb o e=>k b o (k1 b o e)).typeIs) (λA s' Q E q h=>xu q h) ?_ λs' H' ak xs I' hS' hfS hr g=>⟨rfl,hQ _ s' H' ak xs (gj I.ok I') hS' HS hfS hr g⟩
 ·show _<(Heap.update _ _ _).objs.size
  rw [U3]
  show _<(Heap.push _ _).objs.size
  rw [Qi]; exact Q9 _
 ·refine Pe (DJ (X:=DH X X.A.in1) (tg:=.Name "x" ⟨0,0,0,0⟩) (jw I2 (λ_=>h1) h2) (up _ k1) (g0.b _ _ hH) hd) (λitv s2 hh=>z3 hh λit es ep hh=>w7 hh λe hit I3 Tn t0 hf k2=>?_) λ_ _ x=>x
  exact ⟨it,_,_,e,hit,I3,Tn,t0,hf,k2,sS hH hp⟩
section
variable {K:Oo} {c:Ctx P w K mg base k N sc bk}
theorem rE (hm:mg "list"=none) (h:aH c e ρ λd=>∃ ds,d.pairs=some ds/\R (.ow ds)) (hg:sc.names.lookup (Om "list")=some .globalImplicit:=by walk_at "u")
 (hb:∀ env,attributeBase e "items" env (eval e env)=eval e env:=by intro _; walk_at "u") (hl:(ap.endLine == cp.line)=true:=by walk_at "u") :
 dF c (.Call (.Name "list" np) [.Call (.Attribute e "items" ap) [] [] cp] [] pos) ρ R:=λσ H Hf Q S q aa s I=>by
 have hgl:Gl c.X "list":=by unfold Gl Pr; rw [c.esc]; exact hg
 refine Qw (dW I hgl (by rw [c.emg]; exact hm) (show bootBuiltins "list"=some (.type "list") by decide +kernel) ?_ (by decide) (by decide))
 have hpa:=bK (X:=c.X) (e:=.Call (.Attribute e "items" ap) [] [] cp) (es:=[]) (Ax c9 (hb _) hl) dI (by rfl)
 refine Rt (bJ (hpa pos aa s σ H (λvs H1=>∃ x,vs=[x]/\∃ (v d:Addr) (o:Obj) (u:HO) (ds:List D) (H0 Cq:Hp),x=.ref v/\H1=upd H0 v (.ext λh=>h.IsItemsView v d)/\H0 v=none/\Cq d=some (.frz o u)/\HO.dct u/\Paired (mZ c.X.K Cq) ds (bL u)/\bB H Hf H0 Cq/\R (.ow ds)) I ?_) λus s1 hh=>z2 hh λvs H1 hh=>w3 hh λI1 r1 hh=>hh.elim λx hh=>w2 hh λex hh=>z4 hh λv d o u hh=>z3 hh λds H0 Cq hh=>w8 hh λe1 e2 e3 e4 e5 e6 e8 e9=>?_) (by rfl) (by rfl)
 ·exact h σ H Hf _ S λd v H1 aQ ⟨ds,hp,hR⟩ rv g=>by
   obtain ⟨a,o,u,e1,e2,e3,e4⟩:=xg hp rv
   exact ⟨a,o,u,e1,g.b _ _ e2,e3,λvw hv=>⟨_,rfl,vw,a,o,u,ds,H1,aQ,rfl,rfl,hv,e2,e3,e4,g,hR⟩⟩
 ·subst ex e1 e2
  have eu:us=[.ref v]:=by
   cases r1 with
   | cons q1 q2=>cases q2; cases q1; rfl
  subst eu
  have g1:bB H0 Cq (upd H0 v (.ext λh=>h.IsItemsView v d)) Cq:=bB.f7 e8.b e3
  obtain ⟨hvw,_⟩:=(show bq c.X.prog c.X.w _ s1.heap v (.ext λh=>h.IsItemsView v d) from I1.hok v _ ah)
  refine xM c.calm I1 g1.b hvw e4 e5 e6 λa s' H' ak xs I' hS' na yt hr g=>?_
  have gg:=(e8.trans g1).trans g
  exact ⟨.ref a,H',I',rfl,q (.ow ds) _ _ ak e9 ⟨a,xs,rfl,e8.s.free (g1.s.free na),hS',yt,hr⟩ gg⟩
end
theorem A0 {K:Oo}:∀ {ds:List D} {xs:List V} {us:List Value},au K Hf ds xs->Vals xs us->Paired (λd u=>jR K Hf d u) ds us
 | [],xs,us,h,v=>by rw [aC] at h; subst h; cases v; exact .nil
 | t::L,xs,us,h,v=>by
  obtain ⟨x,r,rfl,h1,h2⟩:=aE.mp h
  cases v with
  | cons r1 r2=>exact .cons ⟨x,r1,h1⟩ (A0 h2 r2)
theorem A3 {K:Oo}:∀ {ds:List D} {us:List Value},Paired (λd u=>jR K Hf d u) ds us->∃ xs,au K Hf ds xs/\Vals xs us
 | _,_,.nil=>⟨[],aC.mpr rfl,.nil⟩
 | _,_,.cons ⟨x,r1,h1⟩ t=>by
  obtain ⟨xs,h2,h3⟩:=A3 t
  exact ⟨x::xs,.cons h1 h2,.cons r1 h3⟩
theorem tG (hc:X.calm=true) (I:Inv X aa σ H s) (sb:aN Hf H) (hl:gC X.K Hf l ys) (hr:au X.K Hf ds ys) (hd:∀ d∈ds,∃ es,d=.lst es)
 (hQ:∀ (ds':List D) (xs':List V) (s':Shared) (a:Addr),ds'.Perm ds->au X.K Hf ds' xs'->H a=none->Inv X aa σ (upd H a (.lst xs')) s'->Q (.ref a) s') :
 wpAny (model X.prog X.w) X.A (call (.builtin "sorted") [.ref l] [(Om "key",.builtin "len")]) Q E s:=by
 refine call_function_entry_kw kind_sorted plain_sorted entry_sorted (SR.jQ _ _) ?_
 unfold Builtin.«sorted»
 refine Ol (m:=checkCount "sorted" 1 1 _) (Oq ?_)
 obtain ⟨its,rv,p,hz⟩:=I.list (sb.seq hl)
 have el:=rv.length
 refine Ol (collect_list p.isList ?_ (by lia))
 have I2:Inv X aa σ H { s with heap:=(s.heap.push (seqObj "list" #[] 0)).update s.heap.objs.size (O4 (· ++its.toArray)),toks:=s.toks }:=I.kept λc o e=>by
  rw [QJ _ _ _ _ (OU (Oz e))]
  exact Ow _ e
 generalize (s.heap.push (seqObj "list" #[] 0)).update s.heap.objs.size (O4 (· ++its.toArray))=h0 at I2 |-
 refine Ol (Se ?_ (by lia))
 have ha:(h0.push (seqObj "list" its.toArray 0)).get? h0.objs.size=some (seqObj "list" its.toArray 0):=OF _ rfl
 have Ha:H h0.objs.size=none:=I2.hok.fresh (Ot _)
 have k2:∀ b o,h0.get? b=some o->(h0.push (seqObj "list" its.toArray 0)).get? b=some o:=λb o e=>Ow _ e
 have I3:Inv X aa σ H { s with heap:=h0.push (seqObj "list" its.toArray 0),toks:=s.toks }:=I2.kept (t':=s.toks) k2
 have pL:=A0 hr rv
 refine Ol (PY (UA slot_list_sort ⟨_,ha,rfl⟩ entry_list_sort (SR.Au ha (by lia) (λv hv=>?_) λout h' tk e hp he hk=>⟨_,rfl,?_⟩) (SR.iy _ _)))
 ·obtain ⟨d,hd',x,r1,h1⟩:=SR.iw pL v hv
  obtain ⟨es,rfl⟩:=hd d hd'
  obtain ⟨b,zs,rfl,q1,q2⟩:=bu.mp h1
  cases r1
  obtain ⟨its',rv',p',hz'⟩:=I3.list (sb.seq q1)
  have e':=rv'.length
  refine ⟨b,its'.toArray,rfl,?_,p'.isList,by simp only [OP]; lia⟩
  rintro rfl
  obtain ⟨_,_,p2,_⟩:=I2.list (sb.seq q1)
  obtain ⟨o,q,_⟩:=p2.isList
  exact Qj _ (Oz q)
 ·obtain ⟨ds',p1,p2⟩:=SR.gi hp pL
  obtain ⟨xs',r',v'⟩:=A3 p2
  have hlen:out.toList.length=its.length:=hp.length_eq
  refine Oq ⟨_,rfl,hQ ds' xs' _ _ p1 r' Ha ?_⟩
  refine I2.laid (t':=tk) (a:=h0.objs.size) (λb o q=>hk b o (OU (Oz q)) (k2 b o q)) (Ot _) ⟨by have:=v'.length; lia,out.toList,e,v',by simpa using he⟩
section
variable {K:Oo} {c:Ctx P w K mg base k N sc bk}
theorem xN (hm:mg "sorted"=none) (hml:mg "len"=none) (h:aH c e ρ λd=>∃ ds,d=.lst ds/\Sd (∀ x∈ds,∃ es,x=.lst es) (∀ ds':List D,ds'.Perm ds->R (.ow ds')))
 (hg:sc.names.lookup (Om "sorted")=some .globalImplicit:=by walk_at "u") (hgl:sc.names.lookup (Om "len")=some .globalImplicit:=by walk_at "u")
 (he:∀ env,starEach [e] env=(false,eval e env)::starEach [] env:=by intro _; walk_at "u")
 (hpl:∀ env,(backTo pos (starEach [e] env)).any (·.1)=false:=by intro _; walk_at "u") :
 dF c (.Call (.Name "sorted" np) [e] [⟨some "key",.Name "len" kp1,kp⟩] pos) ρ R:=λσ H Hf Q S q aa s I=>by
 have hgs:Gl c.X "sorted":=by unfold Gl Pr; rw [c.esc]; exact hg
 have hgl':Gl c.X "len":=by unfold Gl Pr; rw [c.esc]; exact hgl
 refine Qw (dW I hgs (by rw [c.emg]; exact hm) (show bootBuiltins "sorted"=some (.builtin "sorted") by decide +kernel) ?_ (by decide) (by decide))
 refine callWith_kw ?_ (by rw [he]; rfl) (hpl _)
 have hpa:=bK (X:=c.X) (e:=e) (es:=[]) c9 dI (he _)
 refine bJ (hpa pos aa s σ H (λvs H1=>∃ x,vs=[x]/\∃ (ds:List D) (aQ:Hp),Rep c.X.K aQ (.lst ds) x/\(∀ x∈ds,∃ es,x=.lst es)/\bB H Hf H1 aQ/\∀ ds':List D,ds'.Perm ds->R (.ow ds')) I ?_) λus s1 hh=>z2 hh λvs H1 hh=>w3 hh λI1 r1 hh=>hh.elim λx hh=>w2 hh λex hh=>z2 hh λds aQ hh=>w4 hh λe1 e7 e8 e9=>?_
 ·exact h σ H Hf _ S λd v H1 aQ ⟨ds,hp,⟨hn,hR⟩⟩ rv g=>⟨_,rfl,ds,aQ,by rw [<- hp]; exact rv,hn,g,hR⟩
 ·subst ex
  obtain ⟨a0,ys,rfl,hs,hr⟩:=bu.mp e1
  have eu:us=[.ref a0]:=by
   cases r1 with
   | cons q1 q2=>cases q2; cases q1; rfl
  subst eu
  refine kws_cons (dW I1 hgl' (by rw [c.emg]; exact hml) (show bootBuiltins "len"=some (.builtin "len") by decide +kernel) ?_ (by decide) (by decide))
  refine kws_nil ?_
  exact tG c.calm I1 e8.b hs hr e7 λds' xs' s' a p1 p3 na I3=>⟨.ref a,_,I3,rfl,q (.ow ds') _ _ aQ (e9 ds' p1) ⟨a,xs',rfl,e8.s.free na,ah,e8.b.free na,p3⟩ (e8.trans (bB.f7 e8.b na))⟩
end
end EV
namespace EV
open PySem PySem.Spec PyProof.Rows L2
noncomputable def rF (t:aF):aF:=(t.1,-t.2)
theorem D9 (h:trim m=m) (hn:m≠[]):bR m (m.length - 1)≠0:=by
 rcases List.eq_nil_or_concat m with rfl | ⟨l,x,rfl⟩
 ·exact absurd rfl hn
 ·rw [List.concat_eq_append] at h |-
  intro z
  have e:bR (l++[x]) ((l++[x]).length - 1)=x:=by
   rw [dM (by simp)]; simp
  rw [e] at z; subst z
  rw [gI] at h
  have:=gm l
  rw [h,O7,Rz] at this
  lia
theorem xO (hl:trim l=l) (hm:trim m=m) (h:∀ i,bR l i=bR m i):l=m:=by
 have key:∀ {l m:List Int},trim m=m->(∀ i,bR l i=bR m i)->m.length<=l.length:=λ{l m} hm h=>by
  rcases Nat.lt_or_ge l.length m.length with z | z
  ·have hn:m≠[]:=by rintro rfl; simp at z
   have:=D9 hm hn
   rw [<- h,c7 (by lia)] at this
   exact absurd rfl this
  ·exact z
 have e:l.length=m.length:=Nat.le_antisymm (key hl λi=>(h i).symm) (key hm h)
 refine To e λi h1 h2=>?_
 have:=h i
 rwa [dM h1,dM h2] at this
theorem gr (h:∀ i,bR p i=bR q i):trim p=trim q:=xO (cG p) (cG q) λi=>by rw [d8,d8,h]
theorem xP (a b):trim (cJ (trim a) (trim b))=trim (cJ a b):=gr λi=>by rw [bZ,bZ,d8,d8]
theorem tH (a b):trim (cJ (trim a) b)=trim (cJ a b):=gr λi=>by rw [bZ,bZ,d8]
theorem tK (a b):trim (cJ a (trim b))=trim (cJ a b):=gr λi=>by rw [bZ,bZ,d8]
theorem xQ (a b):cJ a b=cJ b a:=by
 unfold cJ; rw [Nat.max_comm]; exact Qv λk _=>T7 _ _
theorem lE (a):trim (cJ [] a)=trim a:=gr λi=>by rw [bZ,c7 (OV _),Sm]
theorem tL (a b c):trim (cJ (cJ a b) c)=trim (cJ a (cJ b c)):=gr λi=>by
 rw [bZ,bZ,bZ,bZ,Int.add_assoc]
noncomputable def ev (g:List Int->Int):List aF->Int
 | []=>0
 | t::A=>t.2 * g (trim t.1)+ev g A
theorem aX (g) (t) (A):ev g (t::A)=t.2 * g (trim t.1)+ev g A:=rfl
theorem cu (g) (B):∀ A,ev g (A++B)=ev g A+ev g B
 | []=>by simp [ev]
 | t::A=>by rw [Ra,aX,aX,cu g B A]; lia
theorem jA (g):∀ A:List aF,ev g (A.map rF)= - ev g A
 | []=>rfl
 | t::A=>by
  rw [OA,aX,aX,jA g A]
  show -t.2 * g (trim t.1)+_=_
  rw [Int.neg_mul]; lia
theorem A4 (g) (l):∀ B:List aF,ev g (B.map (dN l))=l.2 * ev (λq=>g (trim (cJ (trim l.1) q))) B
 | []=>by simp [ev]
 | r::B=>by
  rw [OA,aX,aX,A4 g l B]
  show l.2 * r.2 * g (trim (cJ l.1 r.1))+_=_
  rw [Int.mul_add,xP,Sf]
theorem bN (g) (B):∀ A:List aF,ev g (aM A B)=ev (λp=>ev (λq=>g (trim (cJ p q))) B) A
 | []=>rfl
 | l::A=>by
  show ev g (B.map (dN l)++aM A B)=_
  rw [cu,A4,bN g B A]; rfl
theorem gu (e:∀ p,trim p=p->g p=h p):∀ A,ev g A=ev h A
 | []=>rfl
 | t::A=>by rw [aX,aX,e _ (cG _),gu e A]
theorem A7 (g h):∀ A,ev (λp=>g p+h p) A=ev g A+ev h A
 | []=>rfl
 | t::A=>by rw [aX,aX,aX,A7 g h A,Int.mul_add]; lia
theorem FJ (c) (g):∀ A,ev (λp=>c * g p) A=c * ev g A
 | []=>by simp [ev]
 | t::A=>by rw [aX,aX,FJ c g A,Int.mul_add,Int.mul_left_comm]
theorem vJ:∀ A,ev (λ_=>0) A=0
 | []=>rfl
 | t::A=>by rw [aX,vJ A]; simp
theorem vK (f:List Int->List Int->Int) (B):∀ A,ev (λp=>ev (λq=>f p q) B) A=ev (λq=>ev (λp=>f p q) A) B
 | []=>by show 0=ev (λ_=>0) B; rw [vJ]
 | t::A=>by
  show t.2 * ev (λq=>f (trim t.1) q) B+ev _ A=ev (λq=>t.2 * f (trim t.1) q+ev (λp=>f p q) A) B
  rw [A7,FJ,vK f B A]
def eqv (A B:List aF):Prop:=∀ g,ev g A=ev g B
theorem eqv.rf (A):eqv A A:=λ_=>rfl
theorem eqv.app (h:eqv A A') (k:eqv B B'):eqv (A++B) (A'++B'):=λg=>by rw [cu,cu,h g,k g]
theorem eqv.neg (h:eqv A B):eqv (A.map rF) (B.map rF):=λg=>by rw [jA,jA,h g]
theorem eqv.prod (h:eqv A A') (k:eqv B B'):eqv (aM A B) (aM A' B'):=λg=>by
 rw [bN,bN,h]; exact gu (λp _=>k _) _
instance trmSetoid:Setoid (List aF):=⟨eqv,⟨eqv.rf,λh g=>(h g).symm,λh k g=>(h g).trans (k g)⟩⟩
noncomputable def MP:Type:=Quotient trmSetoid
noncomputable def mp (A:List aF):MP:=Quotient.mk trmSetoid A
theorem d9:mp A=mp B↔eqv A B:=⟨λh=>Quotient.exact h,λh=>TH h⟩
noncomputable def cT (n:Int):List aF:=[([],n)]
theorem jS (g) (n):ev g (cT n)=n * g []:=by show n * g (trim [])+0=_; rw [T4]; rfl
noncomputable instance:Add MP:=⟨Quotient.lift₂ (λA B=>mp (A++B)) λ_ _ _ _ h k=>TH (eqv.app h k)⟩
noncomputable instance:Mul MP:=⟨Quotient.lift₂ (λA B=>mp (aM A B)) λ_ _ _ _ h k=>TH (eqv.prod h k)⟩
noncomputable instance:Neg MP:=⟨Quotient.lift (λA=>mp (A.map rF)) λ_ _ h=>TH (eqv.neg h)⟩
noncomputable instance:Sub MP:=⟨λa b=>a+ -b⟩
noncomputable instance:NatCast MP:=⟨λn=>mp (cT n)⟩
noncomputable instance:IntCast MP:=⟨λn=>mp (cT n)⟩
noncomputable instance (n:Nat):OfNat MP n:=⟨mp (cT n)⟩
noncomputable instance:SMul Nat MP:=⟨λn a=>(n:MP) * a⟩
noncomputable instance:SMul Int MP:=⟨λn a=>(n:MP) * a⟩
noncomputable def MP.pow (a:MP):Nat->MP
 | 0=>1
 | n+1=>MP.pow a n * a
noncomputable instance:HPow MP Nat MP:=⟨MP.pow⟩
theorem jB (A B):mp (A++B)=mp A+mp B:=rfl
theorem tM (A B):mp (aM A B)=mp A * mp B:=rfl
theorem Ie (A):mp (A.map rF)= -mp A:=rfl
theorem lF (n):mp (cT n)=(n:MP):=rfl
theorem pB {P:MP->Prop} (h:∀ A,P (mp A)) (a:MP):P a:=Quotient.inductionOn a h
theorem Ig (g) (A):ev g (aM (cT 1) A)=ev g A:=by
 rw [bN,jS,Uc]
 exact gu (λp hp=>by rw [lE,hp]) _
theorem mulC:∀ a b:MP,a * b=b * a:=pB λA=>pB λB=>d9.mpr λg=>by
 rw [bN,bN,vK]
 exact gu (λq _=>gu (λp _=>by rw [xQ]) _) _
theorem K5:∀ a:MP,1 * a=a:=pB λA=>d9.mpr λg=>Ig g A
theorem M9:∀ a b:MP,a+b=b+a:=pB λA=>pB λB=>d9.mpr λg=>by rw [cu,cu,T7]
theorem FL:∀ a b c:MP,(a+b) * c=a * c+b * c:=pB λA=>pB λB=>pB λC=>d9.mpr λg=>by rw [bN,cu,cu,bN,bN]
theorem FN:∀ a:MP,0 * a=0:=pB λA=>d9.mpr λg=>by
 rw [bN,jS,jS]; show 0 * _=0 * _; rw [Rj,Rj]
noncomputable instance:Lean.Grind.CommRing MP where
 add_zero:=pB λA=>d9.mpr λg=>by rw [cu,jS]; show _+0 * _=_; rw [Rj,T4]
 add_comm:=M9
 add_assoc:=pB λA=>pB λB=>pB λC=>d9.mpr λg=>by rw [cu,cu,cu,cu,Int.add_assoc]
 mul_assoc:=pB λA=>pB λB=>pB λC=>d9.mpr λg=>by
  rw [bN,bN,bN]
  refine gu (λp _=>?_) _
  rw [bN]
  refine gu (λq _=>gu (λr _=>?_) _) _
  rw [tH,tK,tL]
 mul_one:=λa=>by rw [mulC,K5]
 one_mul:=K5
 left_distrib:=λa b c=>by rw [mulC,FL,mulC b,mulC c]
 right_distrib:=FL
 zero_mul:=FN
 mul_zero:=λa=>by rw [mulC,FN]
 pow_zero:=λ_=>rfl
 pow_succ:=λ_ _=>rfl
 ofNat_succ:=λn=>d9.mpr λg=>by
  show ev g (cT ((n+1:Nat):Int))=ev g (cT (n:Int)++cT ((1:Nat):Int))
  rw [cu,jS,jS,jS,Int.natCast_add,Rn]
 ofNat_eq_natCast:=λ_=>rfl
 nsmul_eq_natCast_mul:=λ_ _=>rfl
 neg_add_cancel:=pB λA=>d9.mpr λg=>by
  rw [cu,jA,jS]; show _=0 * _; rw [Rj]; lia
 sub_eq_add_neg:=λ_ _=>rfl
 neg_zsmul:=λi=>pB λA=>d9.mpr λg=>by
  show ev g (aM (cT (-i)) A)=ev g ((aM (cT i) A).map rF)
  rw [jA,bN,bN,jS,jS,Int.neg_mul]
 zsmul_natCast_eq_nsmul:=λ_ _=>rfl
 intCast_ofNat:=λ_=>rfl
 intCast_neg:=λi=>d9.mpr λg=>by
  show ev g (cT (-i))=ev g ((cT i).map rF)
  rw [jA,jS,jS,Int.neg_mul]
 mul_comm:=mulC
theorem A8 {A:List aF} {p q:List Int} {n:Int}:(bC (putD A p n) q).getD 0=if q=p then n else (bC A q).getD 0:=by
 unfold putD
 split
 ·rename_i h
  induction A with
  | nil=>simp [bC] at h
  | cons t A ih =>
   rw [OA]
   by_cases e:t.1=p
   ·rw [if_pos e]
    by_cases z:q=p
    ·rw [if_pos z,bf (by rw [e,z])]; rfl
    ·rw [if_neg z,aW (by rw [e]; exact λw=>z w.symm),aW (by rw [e]; exact λw=>z w.symm)]
     clear ih h
     induction A with
     | nil=>rfl
     | cons u A ih =>
      rw [OA]
      by_cases w:u.1=q
      ·rw [if_neg (by rw [w]; exact z),bf w,bf w]
      ·rw [aW w,<- ih,aW (by split <;> exact w)]
   ·rw [if_neg e]
    have h':(bC A p).isSome=true:=by rw [aW e] at h; exact h
    by_cases z:t.1=q
    ·rw [bf z,bf z,if_neg (by rw [<- z]; exact e)]
    ·rw [aW z,aW z,ih h']
 ·rename_i h
  induction A with
  | nil =>
   rw [Tt]
   by_cases z:q=p
   ·rw [if_pos z,bf z.symm]; rfl
   ·rw [if_neg z,aW λw=>z w.symm]
  | cons t A ih =>
   have h0:¬ t.1=p:=λe=>h (by rw [bf e]; rfl)
   rw [Ra]
   by_cases z:t.1=q
   ·rw [bf z,bf z,if_neg (by rw [<- z]; exact h0)]
   ·rw [aW z,aW z,ih (by rw [aW h0] at h; exact h)]
noncomputable def cf (p:List Int) (A:List aF):Int:=ev (λq=>if q=p then 1 else 0) A
theorem A9 (p):∀ ts:List aF,(bC (aL ts) p).getD 0=cf p ts:=by
 intro ts
 suffices H:∀ (ts A:List aF),(bC (ts.foldl fC A) p).getD 0=(bC A p).getD 0+cf p ts by
  have:=H ts []
  rw [show (bC ([]:List aF) p).getD 0=0 from rfl,Sm] at this
  exact this
 intro ts
 induction ts with
 | nil=>intro A; show _=_+0; rw [T4]; rfl
 | cons t ts ih =>
  intro A
  rw [P8,ih]
  unfold fC
  rw [A8]
  show _=_+(t.2 * (if trim t.1=p then 1 else 0)+cf p ts)
  by_cases z:p=trim t.1
  ·rw [if_pos z,if_pos z.symm,z]; lia
  ·rw [if_neg z,if_neg λw=>z w.symm]; lia
theorem Ba:t∈nz (aL ts)↔trim t.1=t.1/\t.2≠0/\t.2=cf t.1 ts:=by
 have hk:=d7 ts
 constructor
 ·intro h
  unfold nz at h
  rw [R9] at h
  refine ⟨?_,by simpa using h.2,?_⟩
  ·have bd:∃ n,∀ t∈ts,t.1.length<=n:=by
    clear h hk
    induction ts with
    | nil=>exact ⟨0,λt h=>by cases h⟩
    | cons u ts ih =>
     obtain ⟨n,hn⟩:=ih
     refine ⟨max n u.1.length,λt ht=>?_⟩
     rcases OM.mp ht with rfl | ht
     ·lia
     ·have:=hn t ht; lia
   obtain ⟨n,hn⟩:=bd
   exact (oG hn t h.1).1
  ·rw [<- A9,oN hk h.1]; rfl
 ·rintro ⟨h1,h2,h3⟩
  unfold nz
  rw [R9]
  refine ⟨?_,by simpa using h2⟩
  rw [<- A9] at h3
  cases e:bC (aL ts) t.1 with
  | none=>rw [e] at h3; exact absurd h3 h2
  | some n =>
   rw [e] at h3
   have h3':t.2=n:=h3
   unfold bC at e
   obtain ⟨u,hu,e2⟩:=OL.mp e
   have m:=List.mem_of_find?_eq_some hu
   have z:u.1=t.1:=by simpa using List.find?_some hu
   have:u=t:=Prod.ext z (by rw [e2,h3'])
   rw [<- this]; exact m
theorem rG {L M:List aF} (h1:L.Nodup) (h2:M.Nodup) (h:∀ t,t∈L↔t∈M):L.Perm M:=(List.perm_ext_iff_of_nodup h1 h2).mpr h
theorem Bb (h:eqv A B):bg A=bg B:=by
 have nA:=keys_nodup (vz (d7 A))
 have nB:=keys_nodup (vz (d7 B))
 have hp:(nz (aL A)).Perm (nz (aL B)):=rG nA nB λt=>by rw [Ba,Ba]; unfold cf; rw [h]
 exact AB nB ((bz _).trans hp) (gK nA)
theorem cE (h:mp A=mp B):bg A=bg B:=Bb (d9.mp h)
theorem Ih (g) (hp:trim p=p) (n) (hk:(A.map (·.1)).Nodup) (ht:∀ t∈A,trim t.1=t.1):ev g (putD A p n)=ev g A+(n - (bC A p).getD 0) * g p:=by
 unfold putD
 split
 ·rename_i h
  induction A with
  | nil=>simp [bC] at h
  | cons t A ih =>
   rw [OA]
   rw [OA,QL] at hk
   by_cases e:t.1=p
   ·rw [if_pos e]
    have same:A.map (λkv:aF=>if kv.1=p then (kv.1,n) else kv)=A:=by
     refine (Qv λu hu=>?_).trans (List.map_id A)
     rw [if_neg λz=>hk.1 (by rw [e,<- z]; exact O1.mpr ⟨u,hu,rfl⟩)]; rfl
    rw [same,bf e]
    rw [aX,aX]
    show n * g (trim t.1)+_=_+(n - t.2) * _
    rw [ht t OI,e,Int.sub_mul]; lia
   ·rw [if_neg e]
    rw [aX,aX,ih hk.2 (λu hu=>ht u (OJ _ hu)) (by rw [aW e] at h; exact h),aW e]; lia
 ·rename_i h
  have e:bC A p=none:=by
   cases e:bC A p with
   | none=>rfl
   | some n=>rw [e] at h; exact absurd rfl h
  rw [cu,e]
  show _+(n * g (trim p)+0)=_+(n - 0) * _
  rw [hp,Int.sub_zero,T4]
theorem vL (ts):eqv (aL ts) ts:=by
 suffices H:∀ (ts A:List aF),(A.map (·.1)).Nodup->(∀ t∈A,trim t.1=t.1)->eqv (ts.foldl fC A) (A++ts) from H ts [] (by simp) (by simp)
 intro ts
 induction ts with
 | nil=>intro A _ _ g; simp
 | cons t ts ih =>
  intro A hk ht g
  have ih':ev g (ts.foldl fC (fC A t))=ev g (fC A t++ts):=ih _ (qR _ _ hk) (λu hu=>by
   rcases oF hu with e | e
   ·rw [e,cG]
   ·exact ht u e) g
  rw [P8,ih',cu,cu]
  unfold fC
  rw [Ih g (cG _) _ hk ht]
  show _=_+(t.2 * g (trim t.1)+ev g ts)
  rw [Int.sub_mul,Rn]; lia
theorem Ea (g) (h:A.Perm B):ev g A=ev g B:=by
 induction h with
 | nil=>rfl
 | cons x _ ih=>rw [aX,aX,ih]
 | swap x y l=>rw [aX,aX,aX,aX]; lia
 | trans _ _ a b=>rw [a,b]
theorem Bc (g):∀ A:List aF,ev g (nz A)=ev g A
 | []=>rfl
 | t::A=>by
  unfold nz
  by_cases h:t.2=0
  ·rw [R0 (by simp [h])]
   show ev g (nz A)=t.2 * _+_
   rw [Bc g A,h,Rj,Sm]
  ·rw [QY (by simp [h])]
   show _+ev g (nz A)=_
   rw [Bc g A]; rfl
theorem Be (ts):eqv (bg ts) ts:=λg=>by
 show ev g (eY (nz (aL ts)))=_
 rw [Ea g (bz _),Bc,vL ts g]
theorem vM (A):mp (bg A)=mp A:=d9.mpr (Be A)
theorem Ii (A):mp (aL A)=mp A:=d9.mpr (vL A)
noncomputable def stp {α:Type} (xs:List α) (lo hi st:Option Int):List α:=(sliceRange (sliceBounds lo hi st xs.length).1 (sliceBounds lo hi st xs.length).2.1 (sliceBounds lo hi st xs.length).2.2).filterMap (xs[·]?)
theorem xR (h:Vals xs its):∀ ns:List Nat,Vals (ns.filterMap (xs[·]?)) (ns.filterMap (its[·]?)):=by
 intro ns
 induction ns with
 | nil=>exact .nil
 | cons n ns ih =>
  rw [P6,P6]
  by_cases z:n<xs.length
  ·obtain ⟨u,e,hu⟩:=h.get (OR z)
   rw [OR z,e]
   exact .cons hu ih
  ·rw [Qm (by lia),Qm (by rw [<- h.length]; lia)]
   exact ih
theorem xS {K:Oo} (h:au K H ds xs):∀ ns:List Nat,au K H (ns.filterMap (ds[·]?)) (ns.filterMap (xs[·]?)):=by
 intro ns
 induction ns with
 | nil=>exact aC.mpr rfl
 | cons n ns ih =>
  rw [P6,P6]
  by_cases z:n<ds.length
  ·obtain ⟨u,e,hu⟩:=h.get (OR z)
   rw [OR z,e]
   exact aE.mpr ⟨_,_,rfl,hu,ih⟩
  ·rw [Qm (by lia),Qm (by rw [<- h.length]; lia)]
   exact ih
section
variable {K:Oo}
end
end EV
namespace EV
open PySem PySem.Spec PySem.Calls PyProof.Rows L2
structure LX (prog:Program) (w:World) (L:List Addr) (i:Addr) (N N':Heap->Prop) (x:Value):Prop where
 keep:∀ {b:Addr} {h h':Heap},b∈L->QF b h h'->N h->N h'
 keep':∀ {b:Addr} {h h':Heap},b∈L->QF b h h'->N' h->N' h'
 run:∀ {A:Around} {E Q:Value->Shared->Prop} {s:Shared},N s.heap->(∀ h',N' h'->Qn i s.heap h'->Q x { s with heap:=h' })->wpAny (model prog w) A (Qe (.ref i)) Q E s
structure Na (prog:Program) (w:World) (L:List Addr) (i:Addr) (N:Heap->Prop):Prop where
 keep:∀ {b:Addr} {h h':Heap},b∈L->QF b h h'->N h->N h'
 run:∀ {A:Around} {E Q:Value->Shared->Prop} {s:Shared},A.handled=none->N s.heap->(∀ h' e,QF i s.heap h'->(∃ o,h'.get? e=some o/\o.cls=.type "StopIteration")->E (.ref e) { s with heap:=h' })->wpAny (model prog w) A (Qe (.ref i)) Q E s
structure K6 (z TI TO i1 i2:Addr):Prop where
 a:TI≠z
 b:TO≠z
 c:i1≠z
 d:i2≠z
 e:TI≠TO
 f:TI≠i1
 g:TI≠i2
 h:TO≠i1
 i:TO≠i2
 j:i1≠i2
section
variable {z TI TO i1 i2:Addr}
theorem Bf {Q:Value->Shared->Prop} (D:K6 z TI TO i1 i2) (hz:IsZip s.heap z TI TO .none) (hTI:IsPair s.heap TI (.ref i1) (.ref i2)) (hTO:IsPair s.heap TO a b)
 (d1:LX prog w [z,TO,i2] i1 N1 N1' x) (d2:LX prog w [z,TO,i1] i2 N2 N2' y) (h1:N1 s.heap) (h2:N2 s.heap)
 (up1:∀ {h h':Heap},(∀ c o,c≠z->h.get? c=some o->h'.get? c=some o)->N1' h->N1' h') (up2:∀ {h h':Heap},(∀ c o,c≠z->h.get? c=some o->h'.get? c=some o)->N2' h->N2' h')
 (q:∀ h',IsZip h' z TI TO (rawInt s.heap.objs.size)->IsPair h' TO x y->N1' h'->N2' h'->IsPair h' s.heap.objs.size x y ->
   (∀ c o,c≠z->c≠TO->c≠i1->c≠i2->s.heap.get? c=some o->h'.get? c=some o)->Q (.ref s.heap.objs.size) { s with heap:=h' }) :
 wpAny (model prog w) A (Builtin.«zip.__next__» ⟨[.ref z],[]⟩) (λfin s'=>∃ v,fin=.done (.ret v)/\Q v s') E s:=by
 refine Ol (m:=field (.ref z) 2) (Pb hz rfl (x:=.bool false) rfl ?_)
 refine Ol (m:=field (.ref z) 3) (Pb hz rfl (x:=.ref TI) rfl (Ol (Qt hTI rfl ?_)))
 refine Ol (m:=Sv (.ref z)) ?_
 unfold Sv
 refine Ol (Pb hz rfl (x:=.none) rfl (Oq ?_))
 simp only [if_true]
 refine Ol (Pw (Ol (Pb hz rfl (x:=.ref TO) rfl (Ol (P7 hz (by simp) λg1 (k1:IsZip g1 z TI TO .ellipsis) b1=>?_)))))
 have c1:=b1.extBut
 refine Ol ?_
 simp only [UY,List.zipIdx_nil,RO,List.forIn_nil]
 refine Ol (Ol (TN ?_))
 refine Ol (m:=Qe (.ref i1)) (d1.run (d1.keep (by simp) c1 h1) λg2 m1 b2=>Oq ?_)
 have c2:=b2.extBut
 have o2:IsPair g2 TO a b:=c2 _ _ D.h (c1 _ _ D.b hTO)
 refine Ol (Qt o2 rfl (Ol (Ux o2 λg3 (o3:IsPair g3 TO x b) b3=>Ol (Rk (Oq ?_)))))
 have c3:=b3.extBut
 refine Ol (Ol (TN ?_))
 refine Ol (m:=Qe (.ref i2)) (d2.run (d2.keep (by simp) c3 (d2.keep (by simp) c2 (d2.keep (by simp) c1 h2))) λg4 m2 b4=>Oq ?_)
 have c4:=b4.extBut
 have o4:IsPair g4 TO x b:=c4 _ _ D.i o3
 refine Ol (Qt o4 rfl (Ol (Ux o4 λg5 (o5:IsPair g5 TO x y) b5=>Ol (Rk (Oq (Oq ?_))))))
 have c5:=b5.extBut
 refine Ol (Qt o5 rfl (Ol (Tw ?_)))
 have sz:g5.objs.size=s.heap.objs.size:=by rw [b5.1,b4.1,b3.1,b2.1,b1.1]
 have k5:IsZip g5 z TI TO .ellipsis:=c5 _ _ D.b.symm (c4 _ _ D.d.symm (c3 _ _ D.b.symm (c2 _ _ D.c.symm k1)))
 have all:∀ c o,c≠z->c≠TO->c≠i1->c≠i2->s.heap.get? c=some o->g5.get? c=some o:=λc o n1 n2 n3 n4 e=>c5 _ _ n2 (c4 _ _ n4 (c3 _ _ n2 (c2 _ _ n3 (c1 _ _ n1 e))))
 have m1':N1' g5:=d1.keep' (by simp) c5 (d1.keep' (by simp) c4 (d1.keep' (by simp) c3 m1))
 have m2':N2' g5:=d2.keep' (by simp) c5 m2
 refine Ol (m:=U7 (.ref z) (.ref g5.objs.size)) ?_
 unfold U7
 have k6:IsZip (g5.push { cls:=.type "tuple",data:=.seq #[x,y] }) z TI TO .ellipsis:=Ow _ k5
 refine Ol (P7 k6 (by simp) λg7 (k7:IsZip g7 z TI TO (rawInt g5.objs.size)) b7=>P7 k7 (by simp) λg8 (k8:IsZip g8 z TI TO (rawInt g5.objs.size)) b8=>?_)
 have up:∀ c o,c≠z->g5.get? c=some o->g8.get? c=some o:=λc o n e=>b8.extBut _ _ n (b7.extBut _ _ n (Ow _ e))
 have nz:g5.objs.size≠z:=QT (Oz k5)
 have p8:IsPair g8 g5.objs.size x y:=b8.extBut _ _ nz (b7.extBut _ _ nz (OF _ rfl))
 refine Oq ⟨_,rfl,?_⟩
 show Q (.ref g5.objs.size) _
 rw [sz] at k8 p8 |-
 exact q g8 k8 (up _ _ D.b o5) (up1 up m1') (up2 up m2') p8 λc o n1 n2 n3 n4 e=>up c o n1 (all c o n1 n2 n3 n4 e)
theorem Eb (hh:A.handled=none) (D:K6 z TI TO i1 i2) (hz:IsZip s.heap z TI TO .none) (hTI:IsPair s.heap TI (.ref i1) (.ref i2)) (hTO:IsPair s.heap TO a b)
 (d:Na prog w [z] i1 N1\/∃ x N1',LX prog w [z] i1 N1 N1' x/\Na prog w [z,TO,i1] i2 N2) (h1:N1 s.heap) (h2:N2 s.heap)
 (q:∀ h' e,(∀ c o,c≠z->c≠TO->c≠i1->c≠i2->s.heap.get? c=some o->h'.get? c=some o)->(∃ o,h'.get? e=some o/\o.cls=.type "StopIteration")->E (.ref e) { s with heap:=h' }) :
 wpAny (model prog w) A (Builtin.«zip.__next__» ⟨[.ref z],[]⟩) Q E s:=by
 refine Ol (m:=field (.ref z) 2) (Pb hz rfl (x:=.bool false) rfl ?_)
 refine Ol (m:=field (.ref z) 3) (Pb hz rfl (x:=.ref TI) rfl (Ol (Qt hTI rfl ?_)))
 refine Ol (m:=Sv (.ref z)) ?_
 unfold Sv
 refine Ol (Pb hz rfl (x:=.none) rfl (Oq ?_))
 simp only [if_true]
 refine Ol (Pw (Ol (Pb hz rfl (x:=.ref TO) rfl (Ol (P7 hz (by simp) λg1 (k1:IsZip g1 z TI TO .ellipsis) b1=>?_)))))
 have c1:=b1.extBut
 refine Ol ?_
 simp only [UY,List.zipIdx_nil,RO,List.forIn_nil]
 refine Ol (Ol (TN ?_))
 refine Ol (m:=Qe (.ref i1)) ?_
 rcases d with d | ⟨x,N1',d1,d2⟩
 ·refine d.run hh (d.keep (by simp) c1 h1) λg2 e b2 ⟨oe,e1,e2⟩=>?_
  have k2:IsZip g2 z TI TO .ellipsis:=b2 _ _ D.c.symm k1
  have ne:e≠z:=λu=>by subst u; rw [k2] at e1; cases e1; simp at e2
  exact P7 k2 (by simp) λg3 _ b3=>q g3 e (λc o n1 _ n3 _ u=>b3.extBut _ _ n1 (b2 _ _ n3 (c1 _ _ n1 u))) ⟨oe,b3.extBut _ _ ne e1,e2⟩
 ·refine d1.run (d1.keep (by simp) c1 h1) λg2 m1 b2=>Oq ?_
  have c2:=b2.extBut
  have o2:IsPair g2 TO a b:=c2 _ _ D.h (c1 _ _ D.b hTO)
  refine Ol (Qt o2 rfl (Ol (Ux o2 λg3 (o3:IsPair g3 TO x b) b3=>Ol (Rk (Oq ?_)))))
  have c3:=b3.extBut
  refine Ol (Ol (TN ?_))
  refine Ol (m:=Qe (.ref i2)) (d2.run hh (d2.keep (by simp) c3 (d2.keep (by simp) c2 (d2.keep (by simp) c1 h2))) λg4 e b4 ⟨oe,e1,e2⟩=>?_)
  have k4:IsZip g4 z TI TO .ellipsis:=b4 _ _ D.d.symm (c3 _ _ D.b.symm (c2 _ _ D.c.symm k1))
  have ne:e≠z:=λu=>by subst u; rw [k4] at e1; cases e1; simp at e2
  exact P7 k4 (by simp) λg5 _ b5=>q g5 e (λc o n1 n2 n3 n4 u=>b5.extBut _ _ n1 (b4 _ _ n4 (c3 _ _ n2 (c2 _ _ n3 (c1 _ _ n1 u))))) ⟨oe,b5.extBut _ _ ne e1,e2⟩
end
structure ZS (K:Oo) where
 sq:Hp->Addr->List V->Prop
 it:Heap->Addr->Addr->Nat->Prop
 us:Heap->Addr->Array Value->Prop
 dm:List D->D
 cl:String
 rep:∀ {H:Hp} {ds:List D} {v:V},Rep K H (dm ds) v↔∃ a xs,v=.ref a/\sq H a xs/\au K H ds xs
 same:∀ {H H':Hp} {a:Addr} {xs:List V},aN H H'->sq H a xs->sq H' a xs
 ini:∀ {h:Heap} {i l:Addr},h.get? i=some { cls:=.type cl,data:=.fields #[.ref l,.int 0 0] }->it h i l 0
 get:∀ {X:Cx} {aa:List (Addr×Obj)} {σ:L2.St} {H:Hp} {s:Shared} {l:Addr} {xs:List V},X.K=K->Inv X aa σ H s->sq H l xs->∃ its,Vals xs its/\us s.heap l its.toArray
 inj:∀ {X:Cx} {aa:List (Addr×Obj)} {σ:L2.St} {H:Hp} {s:Shared} {l:Addr} {xs ys:List V},X.K=K->Inv X aa σ H s->sq H l xs->sq H l ys->xs=ys
 ito:∀ {h:Heap} {i l:Addr} {k:Nat},it h i l k->∃ o,h.get? i=some o/\∀ v,o.data≠.cell v
 itk:∀ {h h':Heap} {i l:Addr} {k:Nat},(∀ o,h.get? i=some o->h'.get? i=some o)->it h i l k->it h' i l k
 usk:∀ {h h':Heap} {l:Addr} {a:Array Value},(∀ o,h.get? l=some o->h'.get? l=some o)->us h l a->us h' l a
 uso:∀ {h:Heap} {l:Addr} {a:Array Value},us h l a->∃ o,h.get? l=some o
 run:∀ {prog:Program} {w:World} {i l:Addr} {a:Array Value} {k:Nat} {x:Value} {A:Around} {E Q:Value->Shared->Prop} {s:Shared},l≠i->a[k]?=some x->it s.heap i l k->us s.heap l a->(∀ h',it h' i l (k+1)->Qn i s.heap h'->Q x { s with heap:=h' })->wpAny (model prog w) A (Qe (.ref i)) Q E s
 dry:∀ {prog:Program} {w:World} {i l:Addr} {a:Array Value} {k:Nat} {A:Around} {E Q:Value->Shared->Prop} {s:Shared},A.handled=none->a[k]?=none->it s.heap i l k->us s.heap l a->(∀ h' e,QF i s.heap h'->(∃ o,h'.get? e=some o/\o.cls=.type "StopIteration")->E (.ref e) { s with heap:=h' })->wpAny (model prog w) A (Qe (.ref i)) Q E s
noncomputable def NR (K:Oo):ZS K where
 sq:=dh K
 it:=IsTupIter
 us:=IsTup
 dm:=.tup
 cl:="tuple_iterator"
 rep:=aI
 same:=az
 ini:=λe=>⟨_,e,rfl,rfl⟩
 get:=λh I q=>by subst h; obtain ⟨its,rv,p,_⟩:=I.tuple q; exact ⟨its,rv,p⟩
 inj:=λh I q q'=>by subst h; exact I.gD q q'
 ito:=λ⟨o,e,_,d⟩=>⟨o,e,λv q=>by rw [d] at q; cases q⟩
 itk:=λk ⟨o,e,r⟩=>⟨o,k o e,r⟩
 usk:=λk ⟨o,e,r⟩=>⟨o,k o e,r⟩
 uso:=λ⟨o,e,_⟩=>⟨o,e⟩
 run:=λ{prog w i l a k x A E Q s} hil hx t u q=>by
  obtain ⟨o,ho,hc,hd⟩:=id t
  obtain ⟨ol,hol,_,nl,hdl⟩:=id u
  unfold Qe
  refine Ol (Qf (name:=Om "__next__") t.typeIs S0 (PK S0 t.typeIs entry_tupleiter_next ?_ (args_tupleiter_next _)))
  refine Ol (m:=field (.ref i) 0) (Pb ho hd (x:=.ref l) rfl ?_)
  show wpAny _ _ (if (OS l == Pc)=true then _ else _) _ _ s
  rw [if_neg (show ¬ ((OS l == Pc)=true) from OC)]
  refine Ol (m:=field (.ref i) 1) (Pb ho hd (x:=.int k 0) rfl ?_)
  refine Ol (m:=seqItems? (.ref l)) (Qt hol hdl ?_)
  simp only [O0,hx]
  refine Ol (Rf ho hd (by simp) (Oq ⟨x,rfl,Oq (q _ ?_ (Q7 ..))⟩))
  exact ⟨_,Uw _ ho (Uv (RG hd _)),(UR ..).trans hc,by rw [RG hd]; simp [rawInt]⟩
 dry:=λ{prog w i l a k A E Q s} hh hx t u q=>by
  obtain ⟨o,ho,hc,hd⟩:=id t
  obtain ⟨ol,hol,_,nl,hdl⟩:=id u
  unfold Qe
  refine Ol (Qf (name:=Om "__next__") t.typeIs S0 (PK S0 t.typeIs entry_tupleiter_next ?_ (args_tupleiter_next _)))
  refine Ol (m:=field (.ref i) 0) (Pb ho hd (x:=.ref l) rfl ?_)
  show wpAny _ _ (if (OS l == Pc)=true then _ else _) _ _ s
  rw [if_neg (show ¬ ((OS l == Pc)=true) from OC)]
  refine Ol (m:=field (.ref i) 1) (Pb ho hd (x:=.int k 0) rfl ?_)
  refine Ol (m:=seqItems? (.ref l)) (Qt hol hdl ?_)
  simp only [O0,hx]
  refine Ol (Pw (Ol (Rf ho hd (by simp) ?_)))
  refine Ol (m:=newExc (.type "StopIteration") []) ?_
  simp only [newExc,newTuple]
  refine Ol (Pk ?_ (by size_fits))
  refine Ol (m:=firstArgMember _ _) (T9 (a:=Pc) (by first | rfl | (simp only [firstArgMember]; rfl)) ?_)
  refine Pk ?_ (by size_fits)
  simp only [raiseNew]
  refine Ol (TQ ?_)
  first | rw [show A.in1.handled=none from hh] | rw [hh]
  refine Ol (Oq (T8 ?_))
  exact q _ _ (((Q7 ..).extBut.push _).push _) ⟨_,OF _ rfl,rfl⟩
section
variable {prog:Program} {w:World} {E:Value->Shared->Prop} {s:Shared} {K:Oo} {i l:Addr} {us:Array Value} {k:Nat} {L:List Addr}
def ZS.At (A:ZS K) (i l:Addr) (us:Array Value) (k:Nat) (h:Heap):Prop:=A.it h i l k/\A.us h l us
theorem ZS.At.keep {A:ZS K} (t:A.At i l us k h) (e:QF b h h') (n1:i≠b) (n2:l≠b):A.At i l us k h':=⟨A.itk (λo=>e _ o n1) t.1,A.usk (λo=>e _ o n2) t.2⟩
theorem Bg {A:ZS K} {x:Value} (hL:∀ b∈L,i≠b/\l≠b) (hil:l≠i) (hx:us[k]?=some x):LX prog w L i (A.At i l us k) (A.At i l us (k+1)) x where
 keep:=λhb e t=>t.keep e (hL _ hb).1 (hL _ hb).2
 keep':=λhb e t=>t.keep e (hL _ hb).1 (hL _ hb).2
 run:=λt q=>A.run hil hx t.1 t.2 λh' a b=>q h' ⟨a,A.usk (λo=>b.extBut _ o hil) t.2⟩ b
theorem FO {A:ZS K} (hL:∀ b∈L,i≠b/\l≠b) (hx:us[k]?=none):Na prog w L i (A.At i l us k) where
 keep:=λhb e t=>t.keep e (hL _ hb).1 (hL _ hb).2
 run:=λhh t q=>A.dry hh hx t.1 t.2 q
theorem Oi {z TI TO i1 i2 l1 l2:Addr} (D:ZipApart z TI TO i1 i2 l1 l2):∀ b∈[z,TO,i2],i1≠b/\l1≠b:=by
 intro b hb
 simp only [OM,PX,or_false] at hb
 rcases hb with rfl | rfl | rfl
 ·exact ⟨D.i1z,D.l1z⟩
 ·exact ⟨D.TOi1.symm,D.l1TO⟩
 ·exact ⟨D.i12,D.l1i2⟩
theorem NS {z TI TO i1 i2 l1 l2:Addr} (D:ZipApart z TI TO i1 i2 l1 l2):∀ b∈[z,TO,i1],i2≠b/\l2≠b:=by
 intro b hb
 simp only [OM,PX,or_false] at hb
 rcases hb with rfl | rfl | rfl
 ·exact ⟨D.i2z,D.l2z⟩
 ·exact ⟨D.TOi2.symm,D.l2TO⟩
 ·exact ⟨D.i12.symm,D.l2i1⟩
theorem NT {z TI TO i1 i2 l1 l2:Addr} (D:ZipApart z TI TO i1 i2 l1 l2):∀ b∈[z],i1≠b/\l1≠b:=by
 intro b hb
 cases OG.mp hb
 exact ⟨D.i1z,D.l1z⟩
variable {B C:ZS K}
theorem xT {z TI TO i1 i2 l1 l2:Addr} (D:ZipApart z TI TO i1 i2 l1 l2)
 (hz:IsZip s.heap z TI TO .none) (hTI:IsPair s.heap TI (.ref i1) (.ref i2)) (hTO:IsPair s.heap TO a b) (h1:B.At i1 l1 xs k s.heap) (h2:C.At i2 l2 ys k s.heap) (hx:xs[k]?=some x) (hy:ys[k]?=some y)
 (q:∀ h',IsZip h' z TI TO (rawInt s.heap.objs.size)->IsPair h' TO x y->B.At i1 l1 xs (k+1) h'->C.At i2 l2 ys (k+1) h'->IsPair h' s.heap.objs.size x y ->
   (∀ c o,c≠z->c≠TO->c≠i1->c≠i2->s.heap.get? c=some o->h'.get? c=some o)->Q (some (.ref s.heap.objs.size)) { s with heap:=h' }):wpAny (model prog w) A (pyNext (.ref z)) Q E s:=by
 have hT:s.TypeIs (.ref z) "zip":=⟨_,hz,rfl⟩
 have up:∀ {B:ZS K} {i l:Addr} {us:Array Value} {k:Nat},i≠z->l≠z->∀ {h h':Heap},(∀ c o,c≠z->h.get? c=some o->h'.get? c=some o)->B.At i l us k h->B.At i l us k h':=λ{B} {_} {_} {_} {_} n1 n2 h h' e t=>⟨B.itk (λo=>e _ o n1) t.1,B.usk (λo=>e _ o n2) t.2⟩
 unfold pyNext
 exact Ol (QN (Qf (name:=Om "__next__") hT Tu
  (PK Tu hT F.entry_zip_next
    (Bf ⟨D.TIz,D.TOz,D.i1z,D.i2z,D.TITO,D.TIi1,D.TIi2,D.TOi1,D.TOi2,D.i12⟩ hz hTI hTO
      (Bg (Oi D) D.l1i1 hx) (Bg (NS D) D.l2i2 hy) h1 h2
      (up D.i1z D.l1z) (up D.i2z D.l2z) λh' a1 a2 a3 a4 a5 a6=>Oq (q h' a1 a2 a3 a4 a5 a6)) (F.args_zip_next_1 _))))
theorem xU {z TI TO i1 i2 l1 l2:Addr} (hh:A.handled=none) (D:ZipApart z TI TO i1 i2 l1 l2)
 (hz:IsZip s.heap z TI TO .none) (hTI:IsPair s.heap TI (.ref i1) (.ref i2)) (hTO:IsPair s.heap TO a b) (h1:B.At i1 l1 xs k s.heap) (h2:C.At i2 l2 ys k s.heap) (hend:xs.size<=k\/ys.size<=k)
 (q:∀ h',(∀ c o,c≠z->c≠TO->c≠i1->c≠i2->s.heap.get? c=some o->h'.get? c=some o)->Q none { s with heap:=h' }):wpAny (model prog w) A (pyNext (.ref z)) Q E s:=by
 have hT:s.TypeIs (.ref z) "zip":=⟨_,hz,rfl⟩
 unfold pyNext
 refine Ol (QN (Qf (name:=Om "__next__") hT Tu
  (PK Tu hT F.entry_zip_next (Eb (N1:=B.At i1 l1 xs k) (N2:=C.At i2 l2 ys k) hh ⟨D.TIz,D.TOz,D.i1z,D.i2z,D.TITO,D.TIi1,D.TIi2,D.TOi1,D.TOi2,D.i12⟩ hz hTI hTO ?_ h1 h2 λh' e hk he=>?_) (F.args_zip_next_1 _))))
 ·by_cases z:k<xs.size
  ·exact .inr ⟨_,_,Bg (NT D) D.l1i1 (OX z),FO (NS D) (SQ (by lia))⟩
  ·exact .inl (FO (NT D) (SQ (by lia)))
 ·obtain ⟨o,ho,hc⟩:=he
  refine Ol (R7 (T:="StopIteration") (b:=true) ⟨o,ho,hc⟩ isSubtype_stop ?_)
  exact Oq (q _ hk)
end
noncomputable def Ij {K:Oo} (B C:ZS K) (l1 l2:Addr):It :=
 ⟨λi H=>∃ xs ys x y,B.sq H l1 xs/\C.sq H l2 ys/\xs[i]?=some x/\ys[i]?=some y,
  λi H v H'=>∃ p x y,v=.ref p/\H p=none/\H'=upd H p (.tup [x,y])/\(∀ xs,B.sq H l1 xs->xs[i]?=some x)/\∀ ys,C.sq H l2 ys->ys[i]?=some y,
  λi H=>∃ xs ys,B.sq H l1 xs/\C.sq H l2 ys/\(xs.length<=i\/ys.length<=i)⟩
theorem xV {P:Program} {w:World} {K:Oo} {B C:ZS K} {elts:List Expr} {k:Nat} {pos:Pos} {z TI TO i1 i2 l1 l2:Addr} (D:ZipApart z TI TO i1 i2 l1 l2) :
 Turn P w K (.Tuple elts k pos) (Ij B C l1 l2) [z,TI,TO,i1,i2] z (λi h=>IsZip h z TI TO .none/\IsPair h TI (.ref i1) (.ref i2)/\(∃ a b,IsPair h TO a b)/\B.it h i1 l1 i/\C.it h i2 l2 i) where
 mem:=by simp
 obj:=λi h ⟨hz,hTI,⟨a,b,hTO⟩,h1,h2⟩ b hb=>by
  simp only [OM,PX,or_false] at hb
  rcases hb with rfl | rfl | rfl | rfl | rfl
  ·exact ⟨_,hz,λv q=>by have q':So _=Rp v:=q; cases q'⟩
  ·exact ⟨_,hTI,λv q=>by have q':Data.seq _ _=Rp v:=q; cases q'⟩
  ·exact ⟨_,hTO,λv q=>by have q':Data.seq _ _=Rp v:=q; cases q'⟩
  ·exact B.ito h1
  ·exact C.ito h2
 keep:=λi h h' ⟨hz,hTI,⟨a,b,hTO⟩,h1,h2⟩ hk=>⟨hk z (by simp) _ hz,hk TI (by simp) _ hTI,⟨a,b,hk TO (by simp) _ hTO⟩,B.itk (hk i1 (by simp)) h1,C.itk (hk i2 (by simp)) h2⟩
 item:=by
  intro X hP hw hK hc i aa s σ H E I hf st hg
  obtain ⟨hz,hTI,⟨a,b,hTO⟩,h1,h2⟩:=st
  obtain ⟨xs,ys,x,y,q1,q2,hx,hy⟩:=hg
  obtain ⟨LP,Mc,p1⟩:=B.get hK I q1
  obtain ⟨its2,Me,p2⟩:=C.get hK I q2
  subst hP hw
  obtain ⟨u1,hu1,ru1⟩:=Mc.get hx
  obtain ⟨u2,hu2,ru2⟩:=Me.get hy
  refine xT D hz hTI hTO ⟨h1,p1⟩ ⟨h2,p2⟩ (x:=u1) (y:=u2) (by simpa using hu1) (by simpa using hu2) λh' a1 a2 a3 a4 a5 hk=>?_
  have Hp:H s.heap.objs.size=none:=I.hok.fresh (Ot _)
  have IA:Inv X aa σ (upd H s.heap.objs.size (.tup [x,y])) { s with heap:=s.heap.push { cls:=.type "tuple",data:=.seq #[u1,u2] },toks:=s.toks } :=
   I.laid (a:=s.heap.objs.size) (o:=.tup [x,y]) (λ_ _ q=>Ow _ q) (Ot _) ⟨by show 2<=sizeLine; decide,[u1,u2],.cons ru1 (.cons ru2 .nil),_,OF _ rfl,rfl,0,rfl⟩
  have lt:∀ b∈[z,TI,TO,i1,i2],b<s.heap.objs.size:=λb hb=>by
   obtain ⟨o1,e1,_⟩:=B.ito h1
   obtain ⟨o2,e2,_⟩:=C.ito h2
   simp only [OM,PX,or_false] at hb
   rcases hb with rfl | rfl | rfl | rfl | rfl
   ·exact Oz hz
   ·exact Oz hTI
   ·exact Oz hTO
   ·exact Oz e1
   ·exact Oz e2
  have gf:∀ b∈[z,TI,TO,i1,i2],fH X aa (upd H s.heap.objs.size (.tup [x,y])) b:=λb hb=>⟨by rw [aq (OU (lt b hb))]; exact (hf b hb).1,(hf b hb).2⟩
  have I1:Inv X aa σ (upd H s.heap.objs.size (.tup [x,y])) { s with heap:=h',toks:=s.toks }:=gM (s:={ s with heap:=s.heap.push { cls:=.type "tuple",data:=.seq #[u1,u2] },toks:=s.toks }) (t':=s.toks) (h':=h') (L:=[z,TI,TO,i1,i2]) IA (λb o hb q=>by
   simp only [OM,PX,or_false,not_or] at hb
   by_cases e:b=s.heap.objs.size
   ·subst e
    rw [OF _ rfl] at q; cases q; exact a5
   ·refine hk b o hb.1 hb.2.2.1 hb.2.2.2.1 hb.2.2.2.2 ?_
    rw [UU _ _ _ e] at q; exact q) gf
  have b1:IsPair h' TI (.ref i1) (.ref i2):=hk _ _ D.TIz D.TITO D.TIi1 D.TIi2 hTI
  refine ⟨_,rfl,wpAny_letOwnedTupleGo_zip (s:={ s with heap:=h' }) a1 λh2' hz' hs'=>?_⟩
  refine ⟨.ref s.heap.objs.size,_,gM (s:={ s with heap:=h',toks:=s.toks }) (t':=s.toks) (h':=h2') (L:=[z,TI,TO,i1,i2]) I1 (λb o hb q=>hs'.extBut b o (λe=>hb (by simp [e])) q) gf,rfl,
   ⟨_,x,y,rfl,Hp,rfl,λxs' h=>by rw [B.inj hK I h q1]; exact hx,λys' h=>by rw [C.inj hK I h q2]; exact hy⟩,
   ⟨hz',hs'.extBut _ _ D.TIz b1,⟨_,_,hs'.extBut _ _ D.TOz a2⟩,B.itk (λo=>hs'.extBut _ o D.i1z) a3.1,C.itk (λo=>hs'.extBut _ o D.i2z) a4.1⟩,λb hb=>(gf b hb).1⟩
 done:=by
  intro X hP hw hK hc i aa s σ H E I hf st hg
  obtain ⟨hz,hTI,⟨a,b,hTO⟩,h1,h2⟩:=st
  obtain ⟨xs,ys,q1,q2,hend⟩:=hg
  obtain ⟨LP,Mc,p1⟩:=B.get hK I q1
  obtain ⟨its2,Me,p2⟩:=C.get hK I q2
  subst hP hw
  have l1:=Mc.length
  have l2:=Me.length
  refine xU (I.ok.hd hc) D hz hTI hTO ⟨h1,p1⟩ ⟨h2,p2⟩ (by simp; lia) λh' hk=>⟨rfl,gM (t':=s.toks) (L:=[z,TI,TO,i1,i2]) I (λb o hb q=>?_) hf⟩
  simp only [OM,PX,or_false,not_or] at hb
  exact hk b o hb.1 hb.2.2.1 hb.2.2.2.1 hb.2.2.2.2 q
 self:=λA i s Q E st h=>wpAny_pyIter_zip st.1 h
theorem xW {K:Oo} {B C:ZS K} {Hf:Hp} {ds es:List D} {xs ys:List V} {l1 l2:Addr} (h1:B.sq Hf l1 xs) (r1:au K Hf ds xs) (h2:C.sq Hf l2 ys) (r2:au K Hf es ys):iO K (Ij B C l1 l2) (qU ds es) Hf where
 go:=λi d H aQ s1 s2 e=>by
  unfold qU at e
  rw [Sy] at e
  obtain ⟨x,y,ex,ey,rfl⟩:=e
  obtain ⟨v1,f1,g1⟩:=r1.get ex
  obtain ⟨v2,f2,g2⟩:=r2.get ey
  have q1:=B.same (s1.trans s2) h1
  have q2:=C.same (s1.trans s2) h2
  refine ⟨⟨xs,ys,v1,v2,q1,q2,f1,f2⟩,λv H' ⟨p,x',y',e1,e2,e3,e4,e5⟩=>?_⟩
  have z1:=e4 xs q1
  have z2:=e5 ys q2
  rw [f1] at z1; cases z1
  rw [f2] at z2; cases z2
  subst e1 e3
  have g:=bB.new s2 e2 (o:=.tup [v1,v2])
  exact ⟨upd aQ p (.tup [v1,v2]),g,aI.mpr ⟨p,_,rfl,.inl (.inl ah),.cons (Rep.mono (s1.trans g.f) _ g1) (.cons (Rep.mono (s1.trans g.f) _ g2) (aC.mpr rfl))⟩⟩
 stop:=λi H aQ s1 s2 e=>⟨xs,ys,B.same (s1.trans s2) h1,C.same (s1.trans s2) h2,by
  rw [<- r1.length,<- r2.length]
  unfold qU at e
  rw [RD] at e
  lia⟩
noncomputable abbrev NU (c:String) (h:Heap) (l:Addr):Heap:=h.push { cls:=.type c,data:=.fields #[.ref l,.int 0 0] }
noncomputable abbrev NV (h:Heap) (a b:Value):Heap:=h.push { cls:=.type "tuple",data:=.seq #[a,b] }
section
variable (c d:String)
noncomputable abbrev LY (h:Heap) (l1 _l2:Addr):Heap:=NU c h l1
noncomputable abbrev K7 (h:Heap) (l1 l2:Addr):Heap:=NU d (LY c h l1 l2) l2
noncomputable abbrev LZ (h:Heap) (l1 l2:Addr):Heap:=NV (K7 c d h l1 l2) (.ref h.objs.size) (.ref (LY c h l1 l2).objs.size)
noncomputable abbrev L0 (h:Heap) (l1 l2:Addr):Heap:=NV (LZ c d h l1 l2) .none .none
noncomputable abbrev FP (h:Heap) (l1 l2:Addr):Heap:=(L0 c d h l1 l2).push { cls:=.type "zip",data:=.fields #[.none,.bool false,.bool false,.ref (K7 c d h l1 l2).objs.size,.ref (LZ c d h l1 l2).objs.size] }
end
abbrev Ec {K:Oo} (B C:ZS K):Prop:=∀ (l1 l2:Addr) (xs ys:Array Value),Meets (Builtin.«zip.__new__» ⟨[.type "zip",.ref l1,.ref l2],[]⟩) (λ_ R s=>B.us s.heap l1 xs/\C.us s.heap l2 ys/\R (.ok (.ret (.ref (L0 B.cl C.cl s.heap l1 l2).objs.size))) { s with heap:=FP B.cl C.cl s.heap l1 l2 })
theorem Bh (K):Ec (NR K) (NR K):=λl1 l2 xs ys =>
 .of_wp λprog w A R s h=>by
  obtain ⟨hp,g,d,tk,os⟩:=s
  obtain ⟨e1,e2,h⟩:=h
  have hsub:=PySem.sub_zip
  have t1:IsTup (Shared.heap ⟨hp,g,d,tk,os⟩) l1 xs:=e1
  have t2:IsTup (Shared.heap ⟨hp.push { cls:=.type "tuple_iterator",data:=.fields #[.ref l1,.int 0 0] },g,d,tk,os⟩) l2 ys:=IsTup.push e2 _
  wp_walk using iter_tuple t1,iter_tuple t2
  exact ⟨_,rfl,h⟩
section
variable {K:Oo}
theorem xX (M:Ec B C) (e1:B.us s.heap l1 xs) (e2:C.us s.heap l2 ys)
 (h:∀ h',IsZip h' (s.heap.objs.size+4) (s.heap.objs.size+2) (s.heap.objs.size+3) .none->IsPair h' (s.heap.objs.size+2) (.ref s.heap.objs.size) (.ref (s.heap.objs.size+1)) ->
   IsPair h' (s.heap.objs.size+3) .none .none->B.it h' s.heap.objs.size l1 0->C.it h' (s.heap.objs.size+1) l2 0 ->
   (∀ c o,s.heap.get? c=some o->h'.get? c=some o)->Q (.ref (s.heap.objs.size+4)) { s with heap:=h' }):wpAny (model prog w) A (call (.type "zip") [.ref l1,.ref l2]) Q E s:=by
 refine callType_new F.called_zip (by decide) (F.typeCall_zip_2 _ _) (F.newCall_zip_2 _ _) (λobj=>F.args_object_init_3 obj _ _) F.entry_zip_new (M l1 l2 xs ys) ⟨e1,e2,?_⟩
 have z1:(LY B.cl s.heap l1 l2).objs.size=s.heap.objs.size+1:=Qi ..
 have z2:(K7 B.cl C.cl s.heap l1 l2).objs.size=s.heap.objs.size+2:=by rw [Qi,z1]
 have z3:(LZ B.cl C.cl s.heap l1 l2).objs.size=s.heap.objs.size+3:=by rw [Qi,z2]
 have z4:(L0 B.cl C.cl s.heap l1 l2).objs.size=s.heap.objs.size+4:=by rw [Qi,z3]
 have g5:(FP B.cl C.cl s.heap l1 l2).get? (L0 B.cl C.cl s.heap l1 l2).objs.size=some _:=OF _ rfl
 have g4:(FP B.cl C.cl s.heap l1 l2).get? (LZ B.cl C.cl s.heap l1 l2).objs.size=some _:=Ow _ (OF _ rfl)
 have g3:(FP B.cl C.cl s.heap l1 l2).get? (K7 B.cl C.cl s.heap l1 l2).objs.size=some _:=Ow _ (Ow _ (OF _ rfl))
 have g2:(FP B.cl C.cl s.heap l1 l2).get? (LY B.cl s.heap l1 l2).objs.size=some _:=Ow _ (Ow _ (Ow _ (OF _ rfl)))
 have g1:(FP B.cl C.cl s.heap l1 l2).get? s.heap.objs.size=some _:=Ow _ (Ow _ (Ow _ (Ow _ (OF _ rfl))))
 have q:=h (FP B.cl C.cl s.heap l1 l2)
 rw [<- z2,<- z3,<- z4] at q
 have pr:IsPair (FP B.cl C.cl s.heap l1 l2) (K7 B.cl C.cl s.heap l1 l2).objs.size (.ref s.heap.objs.size) (.ref (s.heap.objs.size+1)):=by rw [<- z1]; exact g3
 refine ⟨⟨_,g5,rfl⟩,q g5 pr g4 (B.ini g1) (C.ini (by rw [<- z1]; exact g2)) λc o x=>Ow _ (Ow _ (Ow _ (Ow _ (Ow _ x))))⟩
end
theorem apart_new {n l1 l2:Nat} (h1:l1<n) (h2:l2<n):ZipApart (n+4) (n+2) (n+3) n (n+1) l1 l2:=by
 constructor <;> first | exact OU (by lia) | exact QT (by lia)
noncomputable def K8 {K:Oo} (B C:ZS K) (ta:TA):TI:=λσ H R=>ta σ H λvs H1=>∃ l1 l2 xs ys,vs=[.ref l1,.ref l2]/\B.sq H1 l1 xs/\C.sq H1 l2 ys/\R (Ij B C l1 l2) H1
theorem Ed {B C:ZS X.K} (M:Ec B C) (hg:Gl X "zip") (hm:X.mg "zip"=none) (ha:PA X [a,b] ta) (hs:starEach [a,b] X.env=[(false,eval a X.env),(false,eval b X.env)]) (hs2:starEach [b] X.env=[(false,eval b X.env)]) :
 PI X (.Tuple elts kt tpos) (.Call (.Name "zip" p) [a,b] [] pos) (K8 B C ta):=by
 intro aa s σ H R I h
 refine Call_ (dW I hg hm EV.boot_zip (Rt (bJ (ha pos aa s σ H _ I h) λus s1 ⟨vs,H1,I1,r1,q1⟩=>?_) (by rw [hs,hs2]) (by rw [hs2]; rfl)))
 obtain ⟨l1,l2,xs,ys,e,q1,q2,q⟩:=q1
 subst e
 cases r1 with
 | cons r rr =>
  cases rr with
  | cons r' rr =>
   cases rr
   cases r
   cases r'
   obtain ⟨LP,Mc,p1⟩:=B.get rfl I1 q1
   obtain ⟨its2,Me,p2⟩:=C.get rfl I1 q2
   have b1:l1<s1.heap.objs.size:=by obtain ⟨_,e⟩:=B.uso p1; exact Oz e
   have b2:l2<s1.heap.objs.size:=by obtain ⟨_,e⟩:=C.uso p2; exact Oz e
   refine xX M p1 p2 λh' a1 a2 a3 a4 a5 hk=>wpAny_pyIter_zip a1 ?_
   refine ⟨s1.heap.objs.size+4,[s1.heap.objs.size+4,s1.heap.objs.size+2,s1.heap.objs.size+3,s1.heap.objs.size,s1.heap.objs.size+1],_,_,H1,rfl,I1.kept (t':=s1.toks) hk,xV (apart_new b1 b2),⟨a1,a2,⟨_,_,a3⟩,a4,a5⟩,λb hb=>?_,q⟩
   have hb':s1.heap.objs.size<=b:=by
    simp only [OM,PX,or_false] at hb
    rcases hb with rfl | rfl | rfl | rfl | rfl
    ·exact Qs _ _
    ·exact Qs _ _
    ·exact Qs _ _
    ·exact Ot _
    ·exact Qs _ _
   exact I1.kh hb' (I1.hok.fresh hb')
section
variable {K:Oo} {c:Ctx P w K mg base k N sc bk}
theorem Ik {B C:ZS c.X.K} (M:Ec B C) (hm:mg "zip"=none) (h:aH c a ρ λx=>aH c b ρ λy=>∃ ds es,x=B.dm ds/\y=C.dm es/\R (qU ds es)) (hg:sc.names.lookup (Om "zip")=some .globalImplicit:=by walk_at "u")
 (hs:∀ env,starEach [a,b] env=(false,eval a env)::starEach [b] env:=by intro _; walk_at "u") (hs2:∀ env,starEach [b] env=(false,eval b env)::starEach [] env:=by intro _; walk_at "u"):Ci c (.Tuple elts kt tpos) (.Call (.Name "zip" p) [a,b] [] pos) ρ R:=λσ H Hf Q S q aa s I =>
 Ed M (by unfold Gl Pr; rw [c.esc]; exact hg) (by rw [c.emg]; exact hm) (bK c9 (bK c9 dI (hs2 _)) (hs _)) (by rw [hs,hs2]; rfl) (by rw [hs2]; rfl) aa s σ H Q I
  (h σ H Hf _ S λx v1 H1 aQ h1 r1 g1=>h1 σ H1 aQ _ (S.cI g1) λy v2 H2 cP ⟨ds,es,e1,e2,hR⟩ r2 g2=>by
    subst e1 e2
    rw [B.rep] at r1
    rw [C.rep] at r2
    obtain ⟨l1,xs,rfl,s1,t1⟩:=r1
    obtain ⟨l2,ys,rfl,s2,t2⟩:=r2
    have s1':=B.same g2.f s1
    exact ⟨l1,l2,xs,ys,rfl,B.same g2.b s1',C.same g2.b s2,q _ _ H2 cP hR (g1.trans g2) (xW s1' (t1.mono g2.f) s2 t2)⟩)
theorem Bj (hm:mg "zip"=none) (h:aH c a ρ λx=>aH c b ρ λy=>∃ ds es,x=.tup ds/\y=.tup es/\R (qU ds es)) (hg:sc.names.lookup (Om "zip")=some .globalImplicit:=by walk_at "u")
 (hs:∀ env,starEach [a,b] env=(false,eval a env)::starEach [b] env:=by intro _; walk_at "u") (hs2:∀ env,starEach [b] env=(false,eval b env)::starEach [] env:=by intro _; walk_at "u"):Ci c (.Tuple elts kt tpos) (.Call (.Name "zip" p) [a,b] [] pos) ρ R:=Ik (Bh _) hm h hg hs hs2
end
end EV
namespace EV
open PySem PySem.Spec PyProof.Rows L2
end EV
namespace EV
open PySem PySem.Spec PySem.Calls PyProof.Rows L2
noncomputable abbrev gv (l:List Int):D:=.tup (l.map .int)
section
variable {X:Cx}
theorem j7 (I:Inv X aa σ H s) (sb:aN Hf H) (h:jR X.K Hf (gv l) u):∃ b its,u=.ref b/\IsTup s.heap b its/\IntsAre its.toList l:=by
 obtain ⟨v,rv,q⟩:=h
 obtain ⟨b,ys,rfl,h3,h4⟩:=aI.mp q
 cases rv
 obtain ⟨its2,rel2,tu2,_⟩:=I.tuple (az sb h3)
 have e:=i6 h4
 subst e
 exact ⟨b,its2.toArray,rfl,tu2,intsAre_of rel2⟩
theorem Bk (h:gv x=gv y):x=y:=by
 simp only [gv,D.tup.injEq] at h
 exact (List.map_inj_right (f:=D.int) (λa b e=>by injection e)).mp h
theorem Bl (I:Inv X aa σ H s) (sb:aN Hf H) (h1:jR X.K Hf (gv x) u) (h2:jR X.K Hf (gv y) u):x=y:=by
 obtain ⟨v,r1,q1⟩:=h1
 obtain ⟨v',r2,q2⟩:=h2
 have:=r1.inj r2
 subst this
 exact Bk (nY I sb 1 _ _ _ (Av x y) q1 q2)
theorem Ef (L):SR.FE HT.lexLt L:=⟨λ_ _=>j5 _,λ_ _ _ _ _ _ h g=>sY h g,λ_ _ _ _ h=>j6 h⟩
noncomputable def Bm (L:List (List Int)):SortKind:=open Classical in if ∀ l∈L,l≠[] then tuples' true else if L.head?=some [] then oneType' else general'
theorem Eg (b) (h:Q (decide (m<n)) s):wpAny (model X.prog X.w) A (oneLt' b (.int m t) (.int n u)) Q E s:=by
 cases b with
 | true=>exact oneLt_int h
 | false =>
  rw [oneLt'_eq,if_neg OC]
  exact Ol (lt_int (Oq h))
theorem vN:∀ {vs ws:List Value} {x y:List Int} (i:Nat),IntsAre vs x->IntsAre ws y->x.length+n=y.length+m->Q (HT.lexLt x y) s->PySem.W.KatLex X.prog X.w A b (decide (m<n)) Q (vs.zip ws) i s
 | _,_,_,_,i,.nil,.nil,e,h=>PySem.W.kat_nil (by rw [HT.gU] at h; rw [decide_eq_false (by simp at e; lia)]; exact h)
 | _,_,_,_,i,.nil,.cons c u hw,e,h=>PySem.W.kat_nil (by rw [HT.fY] at h; rw [decide_eq_true (by simp at e; lia)]; exact h)
 | _,_,_,_,i,.cons a t hv,.nil,e,h=>PySem.W.kat_nil (by rw [HT.fZ] at h; rw [decide_eq_false (by simp at e; lia)]; exact h)
 | _,_,_,_,i,.cons a t hv,.cons c u hw,e,h=>by
  rw [S9]
  refine PySem.W.kat_cons (wpAny_eqBool_int ?_)
  rw [HT.cQ] at h
  by_cases z:a=c
  ·rw [if_pos z] at h
   rw [show (a == c)=true by simpa using z]
   exact PySem.W.kat_yes (vN (i+1) hv hw (by simp at e; lia) h)
  ·rw [if_neg z] at h
   rw [show (a == c)=false by simpa using z]
   exact PySem.W.kat_no (Eg _ h)
theorem jN:∀ {l:List α} {m:List β} {i:Nat} {b:β},Paired F l m->m[i]?=some b->∃ a,l[i]?=some a/\F a b
 | _,_,_,_,.nil,e=>by simp at e
 | _,_,0,_,.cons r _,e=>by simp at e; subst e; exact ⟨_,rfl,r⟩
 | _,_,i+1,a,.cons _ t,e=>by
  obtain ⟨b,h1,h2⟩:=jN (i:=i) t (by simpa using e)
  exact ⟨b,by simpa using h1,h2⟩
theorem Bo (I:Inv X aa σ H s) (sb:aN Hf H) (h:Paired (λx u=>jR X.K Hf (gv x) u) L us) (h2:2<=us.length) (hQ:Q (Bm L) s):wpAny (model X.prog X.w) A (keyKind' us.toArray) Q E s:=by
 have key:∃ fs:List (Option Value),Paired (λ(l:List Int) o=>(l=[]/\o=none)\/∃ n r t,l=n::r/\o=some (Value.int n t)) L fs/\Paired (λu o=>∀ (Q:Option Value->Shared->Prop),Q o s->wpAny (model X.prog X.w) A (firstOfTuple' u) Q E s) us fs:=by
  clear h2 hQ
  induction h with
  | nil=>exact ⟨[],.nil,.nil⟩
  | @cons x u L us r t ih =>
   obtain ⟨fs,e1,e2⟩:=ih
   obtain ⟨a,its,rfl,⟨o,ho,hc,n,hd⟩,ia⟩:=j7 I sb r
   refine ⟨its[0]?::fs,.cons ?_ e1,.cons (λQ hQ=>?_) e2⟩
   ·rw [<- Pf]
    generalize its.toList=il at ia
    cases ia with
    | nil=>exact .inl ⟨rfl,rfl⟩
    | cons n t' _=>exact .inr ⟨n,_,t',rfl,rfl⟩
   ·show wpAny _ _ (do
     if (<- typeOf (.ref a)) != .type "tuple" then return none
     return (<- R1 (.ref a))[0]?) _ _ _
    refine Ol (QO (T:="tuple") ⟨o,ho,hc⟩ ?_)
    rw [if_neg (by simp)]
    exact Ol (Sj ho hd (Oq hQ))
 obtain ⟨fs,e1,e2⟩:=key
 rw [keyKind'_eq,List.mapM_toArray]
 simp only [bind_map_left]
 refine Ol (iz _ _ e2 ?_)
 have typs:∀ {T:String} (vs:List Value) (Q:List Value->Shared->Prop),(∀ v∈vs,s.TypeIs v T)->Q (vs.map λ_=>.type T) s->wpAny (model X.prog X.w) A (vs.mapM typeOf) Q E s:=λ{T} vs Q ht hQ=>by
  refine iz _ _ ?_ hQ
  clear hQ
  induction vs with
  | nil=>exact .nil
  | cons f fs ih=>exact .cons (λQ hQ=>QO (ht f OI) hQ) (ih λg hg=>ht g (OJ _ hg))
 have el:L.length=us.length:=PZ h
 have ef:L.length=fs.length:=PZ e1
 have oneT:∀ {T:String} (vs:List Value) (Q:Option Value->Shared->Prop),vs≠[]->(∀ v∈vs,s.TypeIs v T)->Q (some (.type T)) s->wpAny (model X.prog X.w) A (oneTypeOnly' vs.toArray) Q E s:=λ{T} vs Q hne ht hQ=>by
  rw [oneTypeOnly'_eq,List.mapM_toArray]
  simp only [bind_map_left]
  refine Ol (typs (T:=T) vs _ ht ?_)
  obtain ⟨f,r,rfl⟩:=List.exists_cons_of_ne_nil hne
  have h0:(List.map (λ_=>PU T) (f::r)).toArray[0]?=some (PU T):=by simp
  rw [h0]
  dsimp only
  rw [if_pos (by simp)]
  exact Oq hQ
 unfold Bm at hQ
 by_cases hall:∀ l∈L,l≠[]
 ·rw [if_pos hall] at hQ
  have e3:∃ gs:List Value,fs=gs.map some/\∀ g∈gs,s.TypeIs g "int":=by
   clear h h2 hQ e2 el ef oneT typs
   induction e1 with
   | nil=>exact ⟨[],rfl,by simp⟩
   | @cons x o L fs r t ih =>
    obtain ⟨gs,q1,q2⟩:=ih λl hl=>hall l (OJ _ hl)
    rcases r with ⟨z,_⟩ | ⟨n,r',t',_,rfl⟩
    ·exact absurd z (hall x OI)
    ·exact ⟨.int n t'::gs,by rw [q1]; rfl,λg hg=>by
      rcases OM.mp hg with rfl | hg
      ·exact RT s n t'
      ·exact q2 g hg⟩
  obtain ⟨gs,rfl,q2⟩:=e3
  rw [if_pos (by simp)]
  refine Ol (Pw ?_)
  have e4:(gs.map some).toArray.filterMap id=gs.toArray:=by simp
  rw [e4]
  refine Ol (oneT (T:="int") gs _ (λz=>by subst z; rw [el,Rh,Qp] at ef; lia) q2 (Oq ?_))
  have e6:(some (PU "int")).any (λx=>x != PU "tuple")=true:=by decide
  rw [e6]
  exact hQ
 ·rw [if_neg hall] at hQ
  have hno:¬ (fs.toArray.all λx=>x.isSome)=true:=λz=>hall λl hl hl0=>by
   obtain ⟨i,hi,ei⟩:=List.mem_iff_getElem.mp hl
   obtain ⟨o,ho,r⟩:=dw e1 (OR hi)
   rw [ei] at r
   have zo:o.isSome=true:=by
    rw [List.all_toArray,List.all_eq_true] at z
    exact z o (Py ho)
   rcases r with ⟨_,rfl⟩ | ⟨n,r',t',e,_⟩
   ·cases zo
   ·rw [hl0] at e; cases e
  rw [if_neg hno]
  cases e1 with
  | nil=>rw [Qp] at el; lia
  | @cons x o L fs r t =>
   have e0:((o::fs).toArray[0]?.bind id)=o:=by simp
   rw [e0]
   rcases r with ⟨rfl,rfl⟩ | ⟨n,r',t',rfl,rfl⟩
   ·rw [if_pos (by simp)] at hQ
    rw [if_neg (by simp)]
    refine Ol (oneT (T:="tuple") us _ (λz=>by subst z; simp at h2) (λv hv=>?_) (Oq hQ))
    obtain ⟨i,hi,ei⟩:=List.mem_iff_getElem.mp hv
    obtain ⟨l,_,r⟩:=jN h (OR hi)
    rw [ei] at r
    obtain ⟨a,its,rfl,⟨o,ho,hc,n,hd⟩,ia⟩:=j7 I sb r
    exact ⟨o,ho,hc⟩
   ·rw [if_neg (by simp)] at hQ
    rw [if_pos (by simp)]
    exact Oq hQ
theorem Il (I:Inv X aa σ H s) (sb:aN Hf H) (hA:A.units+10<cLine) (hx:jR X.K Hf (gv x) u) (hy:jR X.K Hf (gv y) v) (hQ:Q (HT.lexLt x y) s):wpAny (model X.prog X.w) A (keyLt' (Bm L) u v) Q E s:=by
 obtain ⟨a,its,rfl,ta,ia⟩:=j7 I sb hx
 obtain ⟨b,its2,rfl,tb,ib⟩:=j7 I sb hy
 have hu:A.units<cLine:=by lia
 have gen:wpAny (model X.prog X.w) A (oneLt' false (.ref a) (.ref b)) Q E s:=PySem.W.kat_one _ _ (HT.sC ta tb ia ib hu hQ)
 obtain ⟨⟨cls,dd,data,sl⟩,ho,hc,n,hd⟩:=id ta
 obtain ⟨⟨cls2,dd2,data2,sl2⟩,ho2,hc2,n2,hd2⟩:=id tb
 simp only at hc hd hc2 hd2
 subst hc hd hc2 hd2
 unfold Bm
 split
 ·exact PySem.W.kat_lt ho rfl ho2 rfl (vN (m:=its.size) (n:=its2.size) 0 ia ib (by have:=ia.length; have:=ib.length; simp only [Pg] at *; lia) hQ)
 ·split
  ·rw [keyLt'_oneType,oneLt'_eq]
   simp only [if_true]
   refine Ol (wpAny_cRoomFor hu ?_)
   refine Ol (wpAny_callSpecialIfBound?_slot ⟨_,ho,rfl⟩ Ut (RU Ut ⟨_,ho,rfl⟩ PySem.F.entry_tuple_lt (PySem.F.args_tuple_lt_2 _ _) (HT.gW a b its its2 n n2 dd dd2 sl sl2 x y ia ib) ⟨ho,ho2,?_⟩))
   exact R5 hQ
  ·exact gen
end
section
open PySem in
theorem Bp (hd:(d == sysModules)=false) (ho:s.heap.get? d=some o) (hx:o.ExactDict) (hdat:o.data=.dict es ep)
 (hQ:Q (.ref s.heap.objs.size) { s with heap:=s.heap.push { cls:=.type "dict_keyiterator",data:=.fields #[.ref d,.int 0 0,.int es.size 0,.int ep 0] } }) :
 wpAny (model prog w) A (pyIter (.ref d)) Q E s:=by
 have hT:s.TypeIs (.ref d) "dict":=⟨o,ho,hx.1⟩
 refine UM hT F.slot_dict_iter (PK F.slot_dict_iter hT F.entry_dict_iter ?_ (F.args_dict_iter_1 _))
 unfold Builtin.«dict.__iter__»
 refine Ol ?_
 unfold Builtin.Dict.dictSlotNone
 refine Ol (wpAny_notOrdered_dict hT ?_)
 show wpAny _ _ (pure (OS d)) _ _ s
 refine Oq ?_
 show wpAny _ _ (SS d >>= _) _ _ s
 unfold SS
 rw [if_neg (by rw [hd]; exact OC)]
 refine Ol (Oq ?_)
 refine Ol (RJ ho hdat ?_)
 refine Ol (RL ho hdat ?_)
 refine Ol (Pk (Oq ⟨_,rfl,"dict_keyiterator",_,⟨_,OF _ rfl,rfl⟩,RZ.lookup,?_⟩))
 simpa [rawInt] using hQ
theorem Bq (hit:s.heap.IsKeyIter it d i es.size ep)
 (hod:s.heap.get? d=some od) (hdd:od.data=.dict es ep) (hx:es[i]?=some e)
 (hQ:∀ h',h'.IsKeyIter it d (i+1) es.size ep->Qn it s.heap h'->Q (some e.key) { s with heap:=h' }) :
 wpAny (model prog w) A (pyNext (.ref it)) Q E s:=by
 obtain ⟨o,ho,hc,hd⟩:=id hit
 unfold pyNext
 refine Ol (QN (Qf (name:=Om "__next__") hit.typeIs RZ
  (PK RZ hit.typeIs Vj ?_ (Vf _))))
 refine Ol (Oq ?_)
 refine Ol ?_
 refine Ol ?_
 first | refine Ol (Sx hit.typeIs (Oq ?_)) | refine Ol (SG hit.typeIs (Oq ?_))
 refine Ol (Tz ho hd ?_)
 have hown:Ug "dict_keyiterator"=false:=by decide
 simp only [hown,Pj,if_false]
 show wpAny _ _ (if (OS d == Pc)=true then _ else _) _ _ s
 rw [if_neg (show ¬ ((OS d == Pc)=true) from OC)]
 refine Ol (Oq ?_)
 refine Ol (RJ hod hdd ?_)
 rw [if_neg (by simp)]
 refine Ol (Oq ?_)
 refine Ol (RL hod hdd ?_)
 rw [if_neg (by simp)]
 refine Oq ?_
 simp only [show ¬ ((i:Int)<0) from by omega,if_false,O0,hx]
 refine Ol ?_
 first | refine Ol (Sx hit.typeIs (Oq ?_)) | refine Ol (SG hit.typeIs (Oq ?_))
 refine Ol (wpAny_isOneOf_keyiter hit.typeIs ?_)
 show wpAny _ _ (setField (.ref it) 1 (rawInt ((i:Int)+1)) >>= _) _ _ s
 refine Ol (Rf ho hd (by simp) ?_)
 have hit':(s.heap.update it (Obj.mapFields (·.setIfInBounds 1 (rawInt ((i:Int)+1))))).IsKeyIter it d (i+1) es.size ep :=
  ⟨_,Uw _ ho (Uv (RG hd _)),(UR ..).trans hc,by rw [RG hd]; simp [rawInt]⟩
 refine Ol (PY ?_)
 refine Ol (wpAny_isOneOf_keyiter (s:={ s with heap:=s.heap.update it (Obj.mapFields (·.setIfInBounds 1 (rawInt ((i:Int)+1)))) }) hit'.typeIs ?_)
 show wpAny _ _ (pure e.key) _ _ _
 exact Oq (Oq ⟨_,rfl,Oq (hQ _ hit' (Q7 ..))⟩)
theorem Eh (hh:A.handled=none) (hit:s.heap.IsKeyIter it d i es.size ep)
 (hod:s.heap.get? d=some od) (hdd:od.data=.dict es ep) (hge:es.size<=i)
 (hQ:∀ h',QF it s.heap h'->Q none { s with heap:=h' }):wpAny (model prog w) A (pyNext (.ref it)) Q E s:=by
 obtain ⟨o,ho,hc,hd⟩:=id hit
 unfold pyNext
 refine Ol (QN (Qf (name:=Om "__next__") hit.typeIs RZ
  (PK RZ hit.typeIs Vj ?_ (Vf _))))
 refine Ol (Oq ?_)
 refine Ol ?_
 refine Ol ?_
 first | refine Ol (Sx hit.typeIs (Oq ?_)) | refine Ol (SG hit.typeIs (Oq ?_))
 refine Ol (Tz ho hd ?_)
 have hown:Ug "dict_keyiterator"=false:=by decide
 simp only [hown,Pj,if_false]
 show wpAny _ _ (if (OS d == Pc)=true then _ else _) _ _ s
 rw [if_neg (show ¬ ((OS d == Pc)=true) from OC)]
 refine Ol (Oq ?_)
 refine Ol (RJ hod hdd ?_)
 rw [if_neg (by simp)]
 refine Ol (Oq ?_)
 refine Ol (RL hod hdd ?_)
 rw [if_neg (by simp)]
 refine Oq ?_
 simp only [show ¬ ((i:Int)<0) from by omega,if_false,O0,SQ hge]
 refine Ol ?_
 first | refine Ol (Sx hit.typeIs (Oq ?_)) | refine Ol (SG hit.typeIs (Oq ?_))
 show wpAny _ _ (setField (.ref it) 0 .none >>= _) _ _ s
 refine Ol (Rf ho hd (by simp) ?_)
 show wpAny _ _ (newExc (.type "StopIteration") [] >>= _) _ _ _
 refine Ol ?_
 simp only [newExc,newTuple]
 refine Ol (Pk ?_ (by size_fits))
 refine Ol (m:=firstArgMember _ _) (T9 (a:=Pc) (by first | rfl | (simp only [firstArgMember]; rfl)) ?_)
 refine Pk ?_ (by size_fits)
 simp only [raiseNew]
 refine Ol (TQ ?_)
 rw [show A.in1.handled=none from hh]
 refine Ol (Oq (T8 ?_))
 refine Ol (R7 (T:="StopIteration") (b:=true) ⟨_,OF _ rfl,rfl⟩ isSubtype_stop ?_)
 exact Oq (hQ _ (((Q7 ..).extBut.push _).push _))
end
section
variable {X:Cx} {aa:List (Addr×Obj)} {σ:L2.St} {H Hf:Hp} {s:Shared} {E:Value->Shared->Prop} {α:Type} {enc:α->D} {lt:α->α->Bool} {κ:SortKind}
structure K9 (X:Cx) (enc:α->D) (lt:α->α->Bool) (κ:SortKind) (L:List α):Prop where
 lin:SR.FE lt L
 inj:∀ (aa:List (Addr×Obj)) (σ:L2.St) (H Hf:Hp) (s:Shared),Inv X aa σ H s->aN Hf H->∀ x y u,jR X.K Hf (enc x) u->jR X.K Hf (enc y) u->x=y
 kind:∀ (aa:List (Addr×Obj)) (σ:L2.St) (H Hf:Hp) (s:Shared) (A:Around) (E:Value->Shared->Prop),Inv X aa σ H s->aN Hf H->∀ us:List Value,Paired (λx u=>jR X.K Hf (enc x) u) L us->2<=us.length->∀ Q:SortKind->Shared->Prop,Q κ s->wpAny (model X.prog X.w) A (keyKind' us.toArray) Q E s
 cmp:∀ (aa:List (Addr×Obj)) (σ:L2.St) (H Hf:Hp) (s:Shared) (A:Around) (E:Value->Shared->Prop),Inv X aa σ H s->aN Hf H->A.units+10<cLine->∀ (x y:α) (u v:Value),jR X.K Hf (enc x) u->jR X.K Hf (enc y) v->∀ Q:Bool->Shared->Prop,Q (lt x y) s->wpAny (model X.prog X.w) A (keyLt' κ u v) Q E s
theorem Ei (L):K9 X gv HT.lexLt (Bm L) L :=
 ⟨Ef L,λ_ _ _ _ _ I sb _ _ _ h1 h2=>Bl I sb h1 h2,λ_ _ _ _ _ _ _ I sb _ p h2 _ hQ=>Bo I sb p h2 hQ,λ_ _ _ _ _ _ _ I sb hA _ _ _ _ hx hy _ hQ=>Il I sb hA hx hy hQ⟩
theorem xY {Q:Value->Shared->Prop} (hs:K9 X enc lt κ L) (I:Inv X aa σ H s) (sb:aN Hf H) (hA:A.units+20<cLine) (hr:au X.K Hf (L.map enc) xs) (hv:Vals xs us) (hz:us.length<=sizeLine) (nd:L.Nodup)
 (hkw:∀ l,Builtin.«list.sort» ⟨[.ref l],kw⟩=Builtin.«list.sort» ⟨[.ref l],[(Om "reverse",.bool b)]⟩) (hka:∀ l,argsOk "list.sort" ⟨[.ref l],kw⟩)
 (hQ:∀ (L':List α) (xs':List V) (s':Shared),L'.Perm L->fN lt b L'->au X.K Hf (L'.map enc) xs'->xs'.length<=sizeLine->Inv X aa σ (upd H s.heap.objs.size (.lst xs')) s'->Q (.ref s.heap.objs.size) s') :
 wpAny (model X.prog X.w) A (newList us >>= λl=>(holding [l] (call (.builtin "list.sort") [l] kw) >>= λ_=>ret l)) (λfin s'=>∃ v,fin=.done (.ret v)/\Q v s') E s:=by
 refine Ol (Se ?_ hz)
 have ha:(s.heap.push (seqObj "list" us.toArray 0)).get? s.heap.objs.size=some (seqObj "list" us.toArray 0):=OF _ rfl
 have I1:Inv X aa σ H { s with heap:=s.heap.push (seqObj "list" us.toArray 0),toks:=s.toks }:=I.kept λb o e=>Ow _ e
 have Ha:H s.heap.objs.size=none:=I.hok.fresh (Ot _)
 obtain ⟨f0,f1,f2,f3,f4,f5⟩:=I.kh (H':=H) (Ot _) Ha
 have pL:=k9 hr hv
 refine Ol (PY (UA slot_list_sort ⟨_,ha,rfl⟩ entry_list_sort (by
  rw [hkw]
  refine SR.nk (κ:=κ) (rk:=SR.xr (λx u=>jR X.K Hf (enc x) u) lt L) (b:=b) ha ?_ hz λout hp ho=>⟨_,rfl,?_⟩
  ·intro h' k
   have I2:=I1.turned (h':=h') (t':=s.toks) (it:=s.heap.objs.size) (λb o hb e=>k b o hb e) f0 f1 f3 f4 f5
   refine ⟨λQ E h2 hQ=>hs.kind _ _ _ _ _ _ _ I2 sb _ pL h2 _ hQ,SR.Ar (λx y u h1 h2=>hs.inj _ _ _ _ _ I2 sb x y u h1 h2) hs.lin pL λx _ y _ u v hx hy E Q hQ=>hs.cmp _ _ _ _ _ _ _ I2 sb ?_ _ _ _ _ hx hy _ hQ⟩
   show A.units+1+10<cLine
   lia
  ·obtain ⟨L',p1,p2,p3⟩:=SR.qQ (S:=λx u=>jR X.K Hf (enc x) u) (λx y u h1 h2=>hs.inj _ _ _ _ _ I sb x y u h1 h2) hs.lin nd pL hp ho
   obtain ⟨xs',r',v'⟩:=lg p3
   obtain ⟨e,he⟩:=sortedHeap_at (vs:=us) (out:=out) ha
   have hl:out.toList.length=us.length:=hp.length_eq
   refine Oq ⟨_,rfl,hQ L' xs' _ p1 p2 r' ?_ ?_⟩
   ·have:=v'.length; lia
   ·refine I.laid (t':=s.toks) (λb o q=>?_) (Ot _) ⟨by have:=v'.length; lia,out.toList,e,v',by simpa using he⟩
    have lt:=Oz q
    rw [sortedHeap_old (OU lt) (by rw [size_push']; exact Td lt)]
    exact Ow _ q) (hka _)))
end
theorem l5:argsOk "sorted" ⟨[a],[]⟩:=by unfold argsOk; kernel_rfl
theorem args_list_sort_1:argsOk "list.sort" ⟨[a],[]⟩:=by unfold argsOk; kernel_rfl
noncomputable def La (d:Addr) (o:Obj) (u:HO):It :=
 ⟨λi H=>H d=some (.frz o u)/\i<(bL u).length,λi H x H'=>H'=H/\∃ y,(bL u)[i]?=some y/\x=y.1,λi H=>H d=some (.frz o u)/\(bL u).length<=i⟩
theorem tN {P:Program} {w:World} {K:Oo} {tg:Expr} {d j:Addr} {o:Obj} {u:HO} {es:Array DictEntry} {ep:Nat} (hd:HO.dct u) (hod:o.data=.dict es ep) (hes:es.size=(bL u).length):Turn P w K tg (La d o u) [j] j (λi h=>h.IsKeyIter j d i es.size ep) where
 mem:=OG.mpr rfl
 obj:=λi h ⟨q,e,_,hd⟩ b hb=>by
  obtain rfl:b=j:=OG.mp hb
  exact ⟨_,e,λv z=>by rw [hd] at z; cases z⟩
 keep:=λi h h' ⟨q,e,r⟩ k=>⟨q,k j (OG.mpr rfl) _ e,r⟩
 item:=by
  intro X hP hw hK hc i aa s σ H E I hf st hg
  subst hP hw hK
  obtain ⟨f0,f1,f2,f3,f4,f5⟩:=hf j (OG.mpr rfl)
  obtain ⟨hH,hi⟩:=hg
  obtain ⟨ho,ok⟩:=(show bq X.prog X.w H s.heap d (.frz o u) from I.hok d _ hH)
  obtain ⟨_,es',ep',e1,e2,_⟩:=cR ok hd ho
  rw [hod] at e1; cases e1
  obtain ⟨e,he,re⟩:=dw e2 (OR hi)
  have he':es[i]?=some e:=by simpa using he
  refine Bq st ho hod he' λh' hit' hs'=>?_
  have I1:Inv X aa σ H { s with heap:=h',toks:=s.toks }:=I.turned (λb o hb e=>hs'.extBut b o hb e) f0 f1 f3 f4 f5
  obtain ⟨q,eq,qc,qd⟩:=id hit'
  exact ⟨_,rfl,mz (s:={ s with heap:=h',toks:=s.toks }) (n:="dict_keyiterator") eq qc qd (by decide) ⟨_,H,I1,re.1,⟨rfl,_,OR hi,rfl⟩,hit',λb hb=>(hf b hb).1⟩⟩
 done:=by
  intro X hP hw hK hc i aa s σ H E I hf st hg
  subst hP hw hK
  obtain ⟨f0,f1,f2,f3,f4,f5⟩:=hf j (OG.mpr rfl)
  obtain ⟨hH,hi⟩:=hg
  obtain ⟨ho,ok⟩:=(show bq X.prog X.w H s.heap d (.frz o u) from I.hok d _ hH)
  exact Eh (I.ok.hd hc) st ho hod (by rw [hes]; exact hi) λh' eb=>⟨rfl,I.turned (t':=s.toks) (λb o hb e=>eb b o hb e) f0 f1 f3 f4 f5⟩
 self:=λ_ _ _ _ _ st h=>wpAny_pyIter_keyiter st h
theorem tO {K:Oo} {Hf:Hp} {d:Addr} {o:Obj} {ys:List (List Key×Addr×V)} {ks:List (List Int)} (hH:Hf d=some (.frz o (.dT ys))) (hk:ys.map (·.1)=ks.map (·.map OO)) (hs:∀ y∈ys,dh K Hf y.2.1 (y.1.map kV)):iO K (La d o (.dT ys)) (ks.map gv) Hf where
 go:=λi x H aQ s1 s2 e=>by
  rw [OE,OL] at e
  obtain ⟨n,hn,rfl⟩:=e
  have hq:=congrArg (λl=>l[i]?) hk
  simp only [OE,hn,Option.map_some] at hq
  obtain ⟨y,hy,ey⟩:=OL.mp hq
  have hp:(bL (.dT ys))[i]?=some (.ref y.2.1,y.2.2):=by
   show (ys.map _)[i]?=_
   rw [OE,hy]; rfl
  refine ⟨⟨s2 _ _ (s1 _ _ hH),(OH.mp hp).1⟩,λv H' ⟨e1,y',e2,e3⟩=>?_⟩
  rw [hp] at e2; cases e2
  subst e1 e3
  refine ⟨aQ,.refl s2,aI.mpr ⟨y.2.1,y.1.map kV,rfl,az s1 (hs y (Py hy)),?_⟩⟩
  rw [ey,OQ]
  exact jn n
 stop:=λi H aQ s1 s2 e=>⟨s2 _ _ (s1 _ _ hH),by
  have:=congrArg Rl hk
  show (ys.map _).length<=i
  simp only [Ox] at this e |-
  lia⟩
theorem oO (hc:X.calm=true) (I:Inv X aa σ H s) (sb:aN Hf H) (hA:X.A.units+60<cLine) (hH:Hf d=some (.frz o (.dT ys))) (hk:ys.map (·.1)=ks.map (·.map OO)) (hq:∀ y∈ys,dh X.K Hf y.2.1 (y.1.map kV)) (nd:ks.Nodup)
 (hQ:∀ (L':List (List Int)) (xs':List V) (s':Shared) (H' ak:Hp) (a:Addr),L'.Perm ks->fN HT.lexLt false L'->au X.K ak (L'.map gv) xs'->bB H Hf H' ak->H' a=none->Inv X aa σ (upd H' a (.lst xs')) s'->Q (.ref a) s') :
 wpAny (model X.prog X.w) X.A (call (.builtin "sorted") [.ref d]) Q E s:=by
 refine call_function_entry kind_sorted plain_sorted entry_sorted l5 ?_
 unfold Builtin.«sorted»
 refine Ol (m:=checkCount "sorted" 1 1 _) (Oq ?_)
 have h1:X.A.in1.handled=none:=I.ok.hd hc
 have h2:X.A.in1.frames=some X.stack:=I.ok.frames
 obtain ⟨ho,ok⟩:=(show bq X.prog X.w H s.heap d (.frz o (.dT ys)) from I.hok d _ (sb _ _ hH))
 obtain ⟨hx,es,ep,e1,e2,hs,hz⟩:=cR ok trivial ho
 have hsz:es.size=(bL (.dT ys)).length:=by rw [PZ e2]; simp
 have hn:(ks.map gv).length=(bL (.dT ys)).length:=by have:=congrArg Rl hk; show _=(ys.map _).length; simp only [Ox] at this |-; lia
 have ty:∀ s':Shared,(∀ b o,s.heap.get? b=some o->s'.heap.get? b=some o)->s'.TypeIs (.ref d) "dict":=λs' k=>⟨o,k _ _ ho,hx.1⟩
 refine Ol (kZ (X:=DH X X.A.in1) (H:=H) (Hf:=Hf) (ds:=ks.map gv) (T:="dict") hc h1 h2 (jw I (λ_=>h1) h2) sb (Oz ho) (by lia) (by decide) (λs' k=>ty s' k) (λA s' Q E q h=>nE q h) (λA s1 H1 E I1 sb1 k1=>?_) λus s' H' ak xs I' rv rr g hz'=>?_)
 ·refine Bp hs (k1 _ _ ho) hx e1 ?_
  refine ⟨_,_,_,rfl,Ot _,I1.kept (t':=s1.toks) λb o e=>Ow _ e,tN (u:=.dT ys) trivial e1 hsz,⟨_,OF _ rfl,rfl,rfl⟩,λb hb=>?_,λb o e=>Ow _ e,tO hH hk hq⟩
  obtain rfl:b=s1.heap.objs.size:=OG.mp hb
  exact I1.kh (Ot _) (I1.hok.fresh (Ot _))
 ·have I2:=gj I.ok I'
  have el:=rr.length
  have el2:=rv.length
  refine xY (b:=false) (Ei ks) I2 g.b ?_ rr rv (by lia) nd (λ_=>rfl) (λ_=>args_list_sort_1) λL' xs' s2 p1 p2 p3 p4 I3=>hQ L' xs' s2 H' ak _ p1 p2 p3 g (I2.hok.fresh (Ot _)) I3
  show X.A.units+1+20<cLine
  lia
section
variable {K:Oo} {c:Ctx P w K mg base k N sc bk}
theorem Br (hm:mg "sorted"=none) (h:aH c e ρ λd=>∃ (ks:List (List Int)) (ds:List D),d=.fdT (ks.map (·.map OO)) ds/\Sd ks.Nodup (∀ L':List (List Int),L'.Perm ks->fN HT.lexLt false L'->R (.ow (L'.map gv))))
 (hg:sc.names.lookup (Om "sorted")=some .globalImplicit:=by walk_at "u")
 (he:∀ env,starEach [e] env=(false,eval e env)::starEach [] env:=by intro _; walk_at "u")
 (hpl:∀ env,(backTo pos (starEach [] env)).any (·.1)=false:=by intro _; walk_at "u") :
 dF c (.Call (.Name "sorted" np) [e] [] pos) ρ R:=λσ H Hf Q S q aa s I=>by
 have hgl:Gl c.X "sorted":=by unfold Gl Pr; rw [c.esc]; exact hg
 refine Qw (dW I hgl (by rw [c.emg]; exact hm) (show bootBuiltins "sorted"=some (.builtin "sorted") by decide +kernel) ?_ (by decide) (by decide))
 have hpa:=bK (X:=c.X) (e:=e) (es:=[]) c9 dI (he _)
 refine Vc (bJ (hpa pos aa s σ H (λvs H1=>∃ x,vs=[x]/\∃ (ks:List (List Int)) (ds:List D) (aQ:Hp),Rep c.X.K aQ (.fdT (ks.map (·.map OO)) ds) x/\ks.Nodup/\bB H Hf H1 aQ/\∀ L':List (List Int),L'.Perm ks->fN HT.lexLt false L'->R (.ow (L'.map gv))) I ?_) λus s1 hh=>z2 hh λvs H1 hh=>w3 hh λI1 r1 hh=>hh.elim λx hh=>w2 hh λex hh=>z3 hh λks ds aQ hh=>w4 hh λe1 e7 e8 e9=>?_) (he _) (hpl _)
 ·exact h σ H Hf _ S λd v H1 aQ ⟨ks,ds,hp,⟨hn,hR⟩⟩ rv g=>⟨_,rfl,ks,ds,aQ,by rw [<- hp]; exact rv,hn,g,hR⟩
 ·subst ex
  obtain ⟨a0,ys,o,rfl,hs,hk,hq,hr⟩:=iK.mp e1
  have eu:us=[.ref a0]:=by
   cases r1 with
   | cons q1 q2=>cases q2; cases q1; rfl
  subst eu
  refine oO c.calm I1 e8.b ?_ hs hk hq e7 λL' xs' s' H' ak a p1 p2 p3 g na I3=>?_
  ·have:=c.room.un
   lia
  ·have gg:=e8.trans g
   exact ⟨.ref a,_,I3,rfl,q (.ow (L'.map gv)) _ _ ak (e9 L' p1 p2) ⟨a,xs',rfl,gg.s.free na,ah,g.b.free na,p3⟩ (gg.trans (bB.f7 g.b na))⟩
end
section
variable {X:Cx} {aa:List (Addr×Obj)} {σ:L2.St} {H Hf:Hp} {s:Shared} {E:Value->Shared->Prop}
noncomputable def Lb:V->List V->Hp->VK->Prop:=λx vs H Q=>∃ l xs y,x=.ref l/\vs=[.int 0,y]/\H l=some (.lst xs)/\xs.length<sizeLine/\Q .non (upd H l (.lst (y::xs)))
theorem Ej:NL X "list.insert" Lb:=by
 intro aa s σ H x vs v us Q I rx rv h
 obtain ⟨l,xs,y,rfl,rfl,hH,hz,q⟩:=h
 cases rx
 cases rv with
 | cons r0 rv =>
  obtain ⟨t,rfl⟩:=r0
  obtain ⟨u,rfl,ru⟩:=Vals.one rv
  obtain ⟨z,its,n,r,hl,e⟩:=I.pK hH
  refine RU F.slot_list_insert ⟨_,e,rfl⟩ F.entry_list_insert (F.args_list_insert_3 _ _ _) (PySem.AutoSeq1.list_insert_list_int_val_1 l its.toArray n 0 t u (by decide) (by rw [OP]; lia)) ⟨e,?_⟩
  refine ⟨.non,_,I.sF (its':=u::its) hH e (by simp) (.cons ru r) ?_,rfl,q⟩
  rw [Pa]
  lia
end
section
variable {P:Program} {w:World} {K:Oo} {mg:Str->Option Value} {base:Heap} {k:Nat} {N:List Str} {sc:Scope} {bk:Bool} {c:Ctx P w K mg base k N sc bk} {ρ:List Sl} {pos ap cp px p0:Pos} {e:Expr} {nx:List Sl->Prop} {p:Pt} {x:Str} {i j:Nat}
theorem Nb (hN:At N i x) (hi:At ρ i r) (hr:r.getL=some ds) (h:aH c e ρ λd=>Sd (ds.length<sizeLine) (Nx ρ i nx (r.putL (d::ds))))
 (hs:∀ env,swapsWith (.Call (.Attribute (.Name x px) "insert" ap) [.Constant (.int 0) j p0,e] [] cp) none pos.line env=pure false:=by intro _; walk_at "u") (hd:(x == ("__debug__":Str))=false:=by decide) (hcd:(x == ("__classdict__":Str))=false:=by decide)
 (hbase:∀ env,attributeBase (.Name x px) "insert" env (eval (.Name x px) env)=eval (.Name x px) env:=by intro _; walk_at "u")
 (hfew:∀ env,((backTo cp (starEach [.Constant (.int 0) j p0,e] env)).all (λx=> !x.1) && (backToKw cp (keywordEach [] env)).all (λx=>x.1.isSome)
   && decide (([.Constant (.int 0) j p0,e]:List Expr).length+([]:List Keyword).length+(if ([]:List Keyword).isEmpty then 0 else 1)<30))=true:=by intro _; walk_at "u")
 (hline:(ap.endLine == cp.line)=true:=by walk_at "u") (he0:∀ env,starEach [.Constant (.int 0) j p0,e] env=(false,eval (.Constant (.int 0) j p0) env)::starEach [e] env:=by intro _; walk_at "u") (he:∀ env,starEach [e] env=(false,eval e env)::starEach [] env:=by intro _; walk_at "u") (hpl:∀ env,(backTo cp (starEach [e] env)).any (·.1)=false:=by intro _; walk_at "u") :
 fS c (.Expr (.Call (.Attribute (.Name x px) "insert" ap) [.Constant (.int 0) j p0,e] [] cp) pos) ρ nx p:=λσ H Hf D S o=>by
 obtain ⟨q,eq,rq⟩:=S.own hi.get (di hr)
 obtain ⟨xs,h1,h2,h3⟩:=Ht hr rq
 refine dX (nO (Fc PySem.F.plainAttrs_list PySem.F.slot_list_insert PySem.F.type_list_insert Ej (c.n6 hN hd hcd) (bK yx (bK c9 dI (he _)) (he0 _)) (hbase _) (hfew _) hline (he0 _) (hpl _)) (hs _)) ⟨_,eq,.inl ⟨rfl,xs,.inl (.inl h1)⟩,?_⟩
 refine h σ H Hf _ S λd v H' ak ⟨hz,ρ',hs',hn⟩ rd g=>?_
 have S':=S.cI g
 have e1:H' q=some (.lst xs):=g.s _ _ h1
 have e2:ak q=none:=g.n q h2 (by rw [h1]; simp) (by intro ys; rw [h1]; simp)
 refine ⟨q,xs,v,rfl,rfl,e1,by rw [<- h3.length]; exact hz,?_⟩
 refine o.nx _ _ ak ρ' ?_ hn
 rw [hs'.eq]
 have rq':=rq.cI g
 exact S'.upd hi.get (di hr) eq (gF g.b e2) (kH hr rq' ah e2 (.cons rd (h3.mono g.f))) (ig hr)
end
end EV
namespace EV
open PySem PySem.Spec PyProof.Rows L2
theorem vO {α:Type}:∀ ys:List α,(Pd ys.length).filterMap (ys[·]?)=ys
 | []=>rfl
 | y::ys=>by
  rw [Pa,List.range_succ_eq_map,P6]
  show y::_=_
  rw [UJ]
  exact congrArg (y:: ·) (vO ys)
theorem rH {α β:Type} {f g:α->Option β}:∀ {l:List α},(∀ x∈l,f x=g x)->l.filterMap f=l.filterMap g
 | [],_=>rfl
 | x::l,h=>by rw [P6,P6,h x OI,rH λy hy=>h y (OJ _ hy)]
theorem Bt {α:Type} (xs:List α):List.filterMap ((xs[·]?)∘λi=>xs.length - 1 - i) (Pd xs.length)=xs.reverse:=by
 have h:=vO xs.reverse
 rw [UD] at h
 refine Eq.trans (rH λk hk=>?_) h
 exact (List.getElem?_reverse (TL.mp hk)).symm
theorem vP (xs:List α):stp xs none none (some (-1))=xs.reverse:=by
 unfold stp sliceBounds
 simp only [Option.getD_some,show ¬ ((-1:Int)>0) by decide,if_false]
 have e:sliceRange ((xs.length:Int) - 1) (-1) (-1)=(Pd xs.length).map λi=>xs.length - 1 - i:=by
  unfold sliceRange
  simp only [show ¬ ((-1:Int)>0) by decide,if_false]
  have c:(if (xs.length:Int) - 1> -1 then ((xs.length:Int) - 1 - -1 - -1 - 1) / (- -1) else 0)=(xs.length:Int):=by
   split
   ·rw [show (- -1:Int)=1 by decide,Int.ediv_one]; omega
   ·omega
  rw [c,O0]
  refine Qv λk hk=>?_
  have:=TL.mp hk
  omega
 rw [e,UJ]
 exact Bt xs
noncomputable def Nc (X:Cx) (te:TE) (tl th ts:TO):TE:=λσ H Q=>te σ H λx H1=>tl σ H1 λl H2=>th σ H2 λu H3=>ts σ H3 λt H4=>∃ a xs k,x=.ref a/\gC X.K H4 a xs/\l=none/\u=none/\t=some k/\k= -1/\∀ p,H4 p=none->Q (.ref p) (upd H4 p (.lst (stp xs l u (some k))))
section
variable {lo hi:Option Expr} {st:Expr}
theorem Im (he:PE X e te) (hl:PO X lo tl) (hu:PO X hi th) (ht:PO X (some st) ts):PE X (.Subscript e (.Slice lo hi (some st) p2) pos) (Nc X te tl th ts):=by
 intro aa s σ H Q I h
 refine Subscript_ (bJ (he aa s σ H _ I h) λv s1 ⟨x,H1,I1,r1,q1⟩=>?_)
 refine wpAny_Slice (bJ (hl aa s1 σ H1 _ I1 q1) λvl s2 ⟨l,H2,I2,pl,q2⟩=>bJ (hu aa s2 σ H2 _ I2 q2) λvu s3 ⟨u,H3,I3,pu,q3⟩=>bJ (ht aa s3 σ H3 _ I3 q3) λvt s4 ⟨t,H4,I4,pt,q4⟩=>?_)
 obtain ⟨a,xs,k,rfl,hx,rfl,rfl,rfl,rfl,q⟩:=q4
 have I5:Inv X aa σ H4 { s4 with heap:=s4.heap.push { cls:=.type "slice",data:=.fields #[vl,vu,vt] } }:=I4.kept (t':=s4.toks) λb ob q=>Ow _ q
 cases r1
 obtain ⟨its,r,hi,hz⟩:=I5.list hx
 have hlen:=r.length
 show wpAny (model X.prog X.w) X.A (subscriptTail e (.Slice lo _ (some st) p2) (.ref a) (.ref s4.heap.objs.size)) (EP X aa σ Q) X.xe { s4 with heap:=s4.heap.push { cls:=.type "slice",data:=.fields #[vl,vu,vt] } }
 refine tail_any (ops:=[.ref a,.ref s4.heap.objs.size]) hi.isList.typeIs UO.lookup ?_ (by walk_at "u")
 refine wpAny_getItem_list_slice hi.isList (Heap.IsSliceOf.new ..) pl pu pt (by decide) ?_ (by rw [OP] <;> lia)
 have I6:=I5
 generalize hS:({ s4 with heap:=s4.heap.push { cls:=.type "slice",data:=.fields #[vl,vu,vt] } }:Shared)=S at I6 |-
 have ep:slicePick its.toArray none none (some (-1))=(stp its none none (some (-1))).toArray:=by
  unfold slicePick stp
  simp only [OP,List.getElem?_toArray]
 rw [ep]
 refine ⟨.ref S.heap.objs.size,_,I6.laid (t':=S.toks) (o:=.lst (stp xs none none (some (-1)))) (λb ob q=>Ow _ q) (Ot _) ?_,rfl,q _ (I6.hok.fresh (Ot _))⟩
 exact ⟨by rw [vP,UD]; exact hz,_,0,by unfold stp; rw [hlen]; exact xR r _,OF _ rfl⟩
end
section
variable {K:Oo}
theorem Lc {lo hi:Option Expr} {st:Expr} (h:aH c e ρ λx=>Cg c lo ρ λl=>Cg c hi ρ λu=>Cg c (some st) ρ λt=>l=none/\u=none/\t=some (-1)/\∃ ds,x=.lst ds/\R (.ow ds.reverse)):dF c (.Subscript e (.Slice lo hi (some st) p2) pos) ρ R:=λσ H Hf Q S q =>
 bO (Im c9 Ky Ky Ky) (h σ H Hf _ S λx v H1 aQ h1 r1 g1=>h1 σ H1 aQ _ (S.cI g1) λl H2 cP h2 g2=>h2 σ H2 cP _ (S.cI (g1.trans g2)) λu H3 Hf3 h3 g3=>h3 σ H3 Hf3 _ (S.cI ((g1.trans g2).trans g3)) λt H4 Hf4 h4 g4=>by
  obtain ⟨rfl,rfl,rfl,ds,rfl,hR⟩:=h4
  have r3:=Rep.mono g4.f _ (Rep.mono g3.f _ (Rep.mono g2.f _ r1))
  have g:=((g1.trans g2).trans g3).trans g4
  rw [bu] at r3
  obtain ⟨a,xs,rfl,k1,k2⟩:=r3
  refine ⟨a,xs,-1,rfl,g4.b.seq k1,rfl,rfl,rfl,rfl,λp hp=>?_⟩
  exact q _ _ _ _ hR ⟨p,_,rfl,g.s.free hp,ah,g4.b.free hp,by rw [<- vP]; unfold stp; rw [k2.length]; exact xS k2 _⟩ (g.trans (bB.f7 g4.b hp)))
end
end EV
namespace EV
open PySem PySem.Spec PySem.Calls PyProof.Rows L2
theorem Bu {K:Oo}:∀ {kvs:List (List Key×D)} {ys:List (List Key×Addr×V)},ys.map (·.1)=kvs.map (·.1)->(∀ y∈ys,dh K H y.2.1 (y.1.map kV))->au K H (kvs.map (·.2)) (ys.map (·.2.2))->kD K H kvs ys
 | [],[],_,_,_=>.nil
 | [],y::ys,h,_,_=>by simp at h
 | x::kvs,[],h,_,_=>by simp at h
 | x::kvs,y::ys,h,hq,r=>by
  rw [OA,OA] at h r
  obtain ⟨v,t,e,r1,r2⟩:=aE.mp r
  injection e with e1 e2
  injection h with h1 h2
  subst e1 e2
  exact .cons ⟨h1.symm,by rw [<- h1]; exact hq y OI,r1⟩ (Bu h2 (λz hz=>hq z (OJ _ hz)) r2)
section
variable {K:Oo}
theorem Io (h:aH c a ρ λx=>aH c b ρ λy=>∃ (kvs:List (List Key×D)) (ds:List D) (kk:List Key) (d:D),x=.fdT (kvs.map (·.1)) (kvs.map (·.2))/\y=.tup ds/\D.keys ds=some kk/\bC kvs kk=some d/\R d) (hs:CO b:=by with_unfolding_all exact λ_ _=>rfl):aH c (.Subscript a b pos) ρ R:=λσ H Hf Q S q =>
 bO (uG c.hu c9 c9 hs) (h σ H Hf _ S λx v H1 aQ h1 r1 g1=>h1 σ H1 aQ _ (S.cI g1) λy u H2 cP ⟨kvs,ds,kk,d,e1,e0,e2,e3,hR⟩ r2 g2=>by
  subst e1 e0
  obtain ⟨p,ys,o,rfl,k1,k2,k4,k3⟩:=iK.mp r1
  have kv:=(Bu k2 k4 k3).mono g2.f
  have rel:=kv.val kk
  rw [e3] at rel
  obtain ⟨pb,xb,rfl,kb,rb⟩:=aI.mp r2
  rw [gG e2 rb] at kb
  cases z:atT ys kk with
  | none=>rw [z] at rel; exact rel.elim
  | some v =>
   rw [z] at rel
   exact ⟨p,v,rfl,.inr ⟨ys,kk,pb,.inr ⟨o,g2.b _ _ (g2.f _ _ k1)⟩,λx hx=>az g2.b (az g2.f (k4 x hx)),rfl,az g2.b kb,z.symm⟩,q d v H2 cP hR rel (g1.trans g2)⟩)
end
section
variable {K:Oo}
end
section
variable {K:Oo}
end
section
variable {K:Oo}
end
end EV
namespace My
open PySem PySem.Spec PyProof.Rows L2 EV
noncomputable abbrev top (i:Nat):Stmt:=PySem.Challenge.pw_everydraw_k28_whole_curves_hold.main.body.getD i (.Pass ⟨0,0,0,0⟩)
theorem tP:FS ["powers","end"] ["powers"] (top 2):=by decide +kernel
theorem iD:FS ["some","greatest","powers","number","k","power"] ["some"] (top 3):=by decide +kernel
theorem xZ:FS ["powers","width","key","power"] ["powers","width"] (top 4):=by decide +kernel
theorem oQ:FS ["key","width","mask"] ["key","width"] (top 5):=by decide +kernel
theorem x6:FS ["some","width"] ["some","width"] (top 6):=by decide +kernel
theorem rJ:FS ["total","width"] ["total","width"] (top 7):=by decide +kernel
theorem jT:FS ["total","left","right","key","number","shift","part","whole"] ["total","left","right"] (top 8):=by decide +kernel
theorem rK:FS ["parts","most","part"] ["parts"] (top 10):=by decide +kernel
theorem rL:FS ["whole","part","width","factors","left","right","product"] ["whole","part","width"] (top 11):=by decide +kernel
theorem l6:FS ["parts","width","whole","part"] ["parts"] (top 12):=by decide +kernel
theorem oR:FS ["k"] ["k"] (top 13):=by decide +kernel
theorem tQ:FS ["total","one","other"] ["total","one","other"] (top 15):=by decide +kernel
theorem x8:FS ["total","one","other"] ["total","one","other"] (top 16):=by decide +kernel
theorem x9:FS ["total","v"] ["total","v"] (top 19):=by decide +kernel
theorem jC:FS ["total","l","m"] ["total","l","m"] (top 20):=by decide +kernel
theorem jD:FS ["total","lines","i"] ["total","lines","i"] (top 21):=by decide +kernel
theorem oS:FS ["total","i","j","k","l","m","first","second","first_worth","second_worth","first_pair","second_pair"] ["total","i","j","k","l","m"] (top 22):=by decide +kernel
theorem gw:FS ["total","v"] ["total","v"] (top 23):=by decide +kernel
theorem gT:FS ["total","v","i"] ["total","v","i"] (top 24):=by decide +kernel
theorem l7:FS ["total","v","l","i","six","polar","g","h"] ["total","v","l","i"] (top 25):=by decide +kernel
theorem oU:FS ["total","v","i","t"] ["total","v","i","t"] (top 26):=by decide +kernel
theorem l8:FS ["i","j","k","l","m"] ["i","j","k","l","m"] (top 27):=by decide +kernel
theorem jU:FS ["v"] ["v"] (top 28):=by decide +kernel
theorem lG:FS ["v","i"] ["v","i"] (top 29):=by decide +kernel
theorem lH:FS ["v","l","i"] ["v","l","i"] (top 30):=by decide +kernel
theorem l9:FS ["v","i","t"] ["v","i","t"] (top 31):=by decide +kernel
theorem oV:FS ["_law_script","_law_k"] ["_law_script","_law_k"] (top 33):=by decide +kernel
theorem rM:FS ["_law_script","_law_k","_law_cell","_law_number"] ["_law_script","_law_k"] (top 34):=by decide +kernel
theorem tR:FS ["_law_terms","_law_found","_law_powers","_law_number","_law_key"] ["_law_terms"] (top 35):=by decide +kernel
theorem oW:FS ["_law_factors","_law_found","_law_some_here","_law_terms","_law_powers","_law_number","_law_other","_law_count","_law_wide","_law_one","_law_two"] ["_law_factors"] (top 36):=by decide +kernel
theorem Bv:FS ["_law_parts","_law_terms","_law_number","_law_factors"] ["_law_parts"] (top 37):=by decide +kernel
theorem ya:FS ["_law_number","_law_terms","_law_many","_law_k","_law_powers","_law_count"] ["_law_number"] (top 38):=by decide +kernel
theorem tS:FS ["_law_script","_law_at","_law_many"] ["_law_script","_law_at","_law_many"] (top 39):=by decide +kernel
theorem yb:FS ["_law_script","_law_at","_law_found","_law_some_here"] ["_law_script","_law_at"] (top 40):=by decide +kernel
theorem mh:FS ["_law_v","_law_i","_law_x","_law_y","_law_w","_law_parts"] ["_law_v","_law_i"] (top 41):=by decide +kernel
theorem oX:FS ["_law_l","_law_i"] ["_law_l","_law_i"] (top 42):=by decide +kernel
theorem tT:FS ["_law_v","_law_l","_law_i","_law_told","_law_a","_law_b","_law_bend"] ["_law_v","_law_l","_law_i","_law_told"] (top 43):=by decide +kernel
theorem Ip:FS ["_law_script","_law_points","_law_told","_law_v","_law_l","_law_i","_law_j","_law_t","_law_flat_here","_law_side","_law_free"] ["_law_script"] (top 44):=by decide +kernel
local macro_rules | `(tactic| walk_at "side")=> `(tactic| first | lia | assumption | exact kL | exact iM (Q0 rfl) | exact zp (by decide) (by decide +kernel) | (show se _ _; exact ⟨by decide,by decide,by decide +kernel⟩))
local macro_rules | `(tactic| walk_at "at")=> `(tactic| with_reducible (repeat (first | exact At.z | apply At.s)))
local macro_rules | `(tactic| walk_at "sset")=> `(tactic| with_reducible (repeat (first | exact SSet.z | apply SSet.s)))
local macro_rules | `(tactic| walk_at "atI")=> `(tactic| first | assumption | rfl)
local macro_rules | `(tactic| walk_at "own")=> `(tactic| walk_at "u")
local macro_rules | `(tactic| walk_at "evSs")=> `(tactic| first
 | with_reducible refine ay ?_
 | with_reducible refine G7 ?_)
local macro_rules | `(tactic| walk_at "evS")=> `(tactic| first
 | ((with_reducible show fS _ (Ua [ON _ _] _ _) _ _ _); with_reducible refine zm (by walk_at "at") ?_)
 | ((with_reducible show fS _ (Stmt.If _ _ _ _) _ _ _); walk_at "evIf")
 | ((with_reducible show fS _ (Stmt.Expr _ _) _ _ _); walk_at "evXp")
 | ((with_reducible show fS _ (Stmt.Return (some (ON _ _)) _) _ _ _); with_reducible refine zk (by walk_at "at") (by walk_at "at") rfl ?_)
 | ((with_reducible show fS _ (Stmt.Return (some _) _) _ _ _); with_reducible refine cC ?_)
 | ((with_reducible show fS _ (Stmt.Return none _) _ _ _); with_reducible refine s_retN ?_)
 | ((with_reducible show fS _ (TF (ON _ _) TY _ _) _ _ _); with_reducible refine s_addq (by walk_at "at") (by walk_at "at") ?_)
 | ((with_reducible show fS _ (TF (ON _ _) Operator.Sub _ _) _ _ _); with_reducible refine G9 (by walk_at "at") (by walk_at "at") ?_)
 | ((with_reducible show fS _ (TF (Qa (ON _ _) _ _) TY _ _) _ _ _); with_reducible refine uR (by walk_at "at") (by walk_at "at") ?_)
 | ((with_reducible show fS _ (Ua [Ss [ON _ _,ON _ _] _ _] (Ss [_,_] _ _) _) _ _ _); with_reducible refine Ks (by walk_at "at") (by walk_at "at") (by decide) ?_)
 | ((with_reducible show fS _ (Ua [Ss _ _ _] _ _) _ _ _); with_reducible refine Kr ?_)
 | ((with_reducible show fS _ (Ua [Qa (ON _ _) _ _] _ _) _ _ _); walk_at "evPut")
 | with_reducible refine s_break ?_
 | with_reducible refine s_continue ?_
 | with_reducible refine s_pass ?_)
local macro_rules | `(tactic| walk_at "evIf")=> `(tactic| with_reducible refine Kq ?_)
local macro_rules | `(tactic| walk_at "evXp")=> `(tactic| with_reducible refine sJ (by walk_at "at") (by walk_at "at") (by walk_at "own") ?_)
local macro_rules | `(tactic| walk_at "evPut")=> `(tactic| with_reducible refine Hw (by walk_at "at") (by walk_at "at") ?_ (ho:=by walk_at "own"))
local macro_rules | `(tactic| walk_at "evK")=> `(tactic| first
 | with_reducible refine J7 ?_
 | with_reducible refine MT ?_
 | with_reducible refine e_non ?_
 | with_reducible refine e_str ?_)
local macro_rules | `(tactic| walk_at "evCm")=> `(tactic| first
 | with_reducible refine e_isN ?_
 | with_reducible refine e_notN ?_
 | with_reducible refine e_lt ?_
 | with_reducible refine MZ ?_
 | with_reducible refine e_ne ?_)
local macro_rules | `(tactic| walk_at "evIx")=> `(tactic| first
 | ((with_reducible show aH _ (Qa _ (Expr.Slice _ _ _ _) _) _ _); with_reducible refine qa ?_)
 | ((with_reducible show aH _ (Qa (ON _ _) _ _) _ _); with_reducible refine KG (by walk_at "at") (by walk_at "at") (by walk_at "own") (by walk_at "sset") ?_ (by walk_at "at"))
 | ((with_reducible show aH _ (Qa (ON _ _) _ _) _ _); with_reducible refine e_dix (by walk_at "at") (by walk_at "at") ?_)
 | with_reducible refine qb ?_)
local macro_rules | `(tactic| walk_at "evBo")=> `(tactic| first
 | with_reducible refine Hr ?_
 | with_reducible refine Ka ?_
 | with_reducible refine Kc ?_
 | with_reducible refine Kd ?_
 | with_reducible refine G5 ?_
 | with_reducible refine Ke ?_)
local macro_rules | `(tactic| walk_at "evCa")=> `(tactic| first
 | ((with_reducible show aH _ (O5 (Expr.Attribute _ _ _) _ _ _) _ _); walk_at "evMt")
 | ((with_reducible show aH _ (O5 (ON "isinstance" _) _ _ _) _ _); first
  | with_reducible refine e_isin (Txt.isin (by assumption)) (Txt.c_int (by assumption)) ?_
  | with_reducible refine e_isin (Txt.isin (by assumption)) (Txt.c_tuple (by assumption)) ?_
  | with_reducible refine e_isin (Txt.isin (by assumption)) (Txt.c_list (by assumption)) ?_
  | with_reducible refine e_isin (Txt.isin (by assumption)) (Txt.c_bool (by assumption)) ?_)
 | ((with_reducible show aH _ (O5 (ON "len" _) _ _ _) _ _); first
  | ((with_reducible show aH _ (O5 _ [ON _ _] _ _) _ _); with_reducible refine e_lenO (Txt.len (by assumption)) (by walk_at "at") (by walk_at "at") (by walk_at "own") (by walk_at "sset") ?_)
  | with_reducible refine e_len (Txt.len (by assumption)) ?_)
 | ((with_reducible show aH _ (O5 (ON "tuple" _) _ _ _) _ _); first
  | ((with_reducible show aH _ (O5 _ [ON _ _] _ _) _ _); with_reducible refine e_tupleO (Txt.tuple (by assumption)) (by walk_at "at") (by walk_at "at") (by walk_at "own") (by walk_at "sset") ?_)
  | with_reducible refine jZ (Txt.tuple (by assumption)) ?_)
 | ((with_reducible show aH _ (O5 (ON "abs" _) _ _ _) _ _); with_reducible refine e_abs (Txt.abs (by assumption)) ?_)
 | ((with_reducible show aH _ (O5 (ON "int" _) _ _ _) _ _); with_reducible refine e_intB (Txt.int (by assumption)) ?_))
local macro_rules | `(tactic| walk_at "evMt")=> `(tactic| with_reducible refine Hu (by walk_at "at") (by walk_at "at") ?_ (ho:=by walk_at "own"))
local macro_rules | `(tactic| walk_at "evE")=> `(tactic| first
 | ((with_reducible show aH _ (ON _ _) _ _); with_reducible refine mS (by walk_at "at") (by walk_at "at") ?_)
 | ((with_reducible show aH _ (Sg _ _ _) _ _); walk_at "evK")
 | ((with_reducible show aH _ (O5 _ _ _ _) _ _); walk_at "evCa")
 | ((with_reducible show aH _ (Qa _ _ _) _ _); walk_at "evIx")
 | ((with_reducible show aH _ (RY _ _ _ _) _ _); walk_at "evBo")
 | ((with_reducible show aH _ (Expr.Compare _ _ _ _) _ _); walk_at "evCm")
 | with_reducible refine jK ?_
 | with_reducible refine Hs ?_
 | with_reducible refine Kf ?_
 | with_reducible refine e_not ?_
 | with_reducible refine Ko ?_
 | with_reducible refine e_or ?_
 | with_reducible refine Kn ?_
 | with_reducible refine C1 ?_)
local macro_rules | `(tactic| walk_at "evX")=> `(tactic| first
 | ((with_reducible show dF _ (Expr.List _ _) _ _); with_reducible refine Fg ?_)
 | ((with_reducible show dF _ (O5 _ _ _ _) _ _); walk_at "evXC")
 | ((with_reducible show dF _ (RY _ TY _ _) _ _); with_reducible refine zG ?_)
 | ((with_reducible show dF _ (Qa _ (Expr.Slice _ _ _ _) _) _ _); with_reducible refine uP ?_)
 | with_reducible refine yu ?_)
local macro_rules | `(tactic| walk_at "evXC")=> `(tactic| first
 | ((with_reducible show dF _ (O5 (ON "list" _) _ _ _) _ _); first
  | ((with_reducible show dF _ (O5 _ [ON _ _] _ _) _ _); with_reducible refine x_listO (Txt.list (by assumption)) (by walk_at "at") (by walk_at "at") (by walk_at "own") (by walk_at "sset") ?_)
  | with_reducible refine zD (Txt.list (by assumption)) ?_)
 | with_reducible refine yu ?_)
local macro_rules | `(tactic| walk_at "evT")=> `(tactic| first
 | ((with_reducible show kE _ (Expr.Compare _ _ _ _) _ _); first
  | with_reducible refine t_isN ?_
  | with_reducible refine t_notN ?_
  | with_reducible refine MY ?_
  | with_reducible refine MX ?_
  | with_reducible refine MU ?_
  | with_reducible refine t_le ?_
  | with_reducible refine Kh ?_
  | with_reducible refine MV ?_
  | with_reducible refine Fx (by walk_at "at") (by walk_at "at") ?_
  | with_reducible refine t_dnotin (by walk_at "at") (by walk_at "at") ?_)
 | with_reducible refine Km ?_
 | with_reducible refine NP (w_and ?_)
 | with_reducible refine NP (w_or ?_)
 | with_reducible refine Kp ?_)
local macro_rules | `(tactic| walk_at "evW")=> `(tactic| first
 | with_reducible refine w_and ?_
 | with_reducible refine w_or ?_
 | with_reducible refine G6 ?_
 | with_reducible refine w_or1 ?_)
local macro_rules | `(tactic| walk_at "evG")=> `(tactic| first
 | ((with_reducible show mR _ (ON _ _) _ _ _); with_reducible refine cV (by walk_at "at") ?_)
 | with_reducible refine uJ rfl (by walk_at "u") ?_)
local macro_rules | `(tactic| walk_at "evGs")=> `(tactic| first
 | with_reducible refine G8 ?_
 | ((with_reducible show wM _ (_::_) _ _ _); with_reducible refine C9 (by walk_at "at") ?_))
local macro_rules | `(tactic| walk_at "evL")=> `(tactic| first
 | ((with_reducible show Nx _ _ _ _); with_reducible refine sI (by walk_at "sset") ?_)
 | ((with_reducible show Sd _ _); first | with_reducible refine Sd.mk (by walk_at "side") ?_ | with_reducible refine Sd.mk ?_ ?_)
 | ((with_reducible show mU _ _ _); first
  | with_reducible refine J9 ?_
  | with_reducible refine zd ?_
  | with_reducible refine CV ?_
  | with_reducible refine CU (λh=>?_) (λh=>?_)
  | with_reducible refine if2 (λh=>?_) (λh=>?_))
 | with_reducible refine i2 ?_
 | with_reducible refine i1 ?_
 | with_reducible refine b1 ?_
 | ((with_reducible show ze _ _ _); first
  | with_reducible refine CW ?_
  | with_reducible refine eqp_bl ?_
  | with_reducible refine eqp_str ?_)
 | ((with_reducible show kG _ _ _); first
  | with_reducible refine zM ?_
  | with_reducible refine zN ?_
  | with_reducible refine zO ?_)
 | ((with_reducible show Fe _ _); first
  | with_reducible refine cz ?_
  | with_reducible refine aJ ?_)
 | ((with_reducible show IsN _ _); first
  | with_reducible refine isn_t ?_
  | with_reducible refine isn_f (by intro q; cases q) ?_)
 | ((with_reducible show Jy _ _ _); first
  | refine mV (by rfl) ?_
  | refine zA (by rfl) ?_)
 | ((with_reducible show Fo _ _ _ _); first
  | with_reducible refine EV.Fo.lst ?_
  | with_reducible refine EV.Fo.tup ?_)
 | ((with_reducible show ∃ ys,D.row _=some ys/\_); refine zP (by rfl) ?_)
 | ((with_reducible show ∃ t b,Fj _ _ t/\_); first
  | with_reducible refine isd .int kit_ii ?_
  | with_reducible refine isd .int (Txt.ib (by assumption)) ?_
  | with_reducible refine isd .bl kit_bb ?_
  | with_reducible refine isd .lst kit_ll ?_
  | with_reducible refine isd .tup kit_tt ?_)
 | ((with_reducible show ∃ j d,D.int _=D.int j/\_); refine ⟨_,_,rfl,(by walk_at "atI"),?_⟩)
 | ((with_reducible show ∃ r,_/\Hg _ _ _ r); walk_at "evR"))
local macro_rules | `(tactic| walk_at "ev1")=> `(tactic| first
 | ((with_reducible show aH _ _ _ _); walk_at "evE")
 | ((with_reducible show dF _ _ _ _); walk_at "evX")
 | ((with_reducible show kE _ _ _ _); walk_at "evT")
 | ((with_reducible show aG _ _ _ _ _); walk_at "evSs")
 | ((with_reducible show fS _ _ _ _ _); walk_at "evS")
 | ((with_reducible show pW _ _ _ _); first | with_reducible refine bx ?_ | with_reducible refine kF ?_)
 | ((with_reducible show Kl _ _ _ _); walk_at "evW")
 | ((with_reducible show mR _ _ _ _ _); walk_at "evG")
 | ((with_reducible show wM _ _ _ _ _); walk_at "evGs")
 | ((with_reducible show Cg _ _ _ _); first | with_reducible refine Hl ?_ | with_reducible refine Ho ?_)
 | walk_at "evL")
local macro_rules | `(tactic| walk_at "ev")=> `(tactic| repeat' (walk_at "ev1"))
section
variable {K:Oo}
theorem jE {n:Nat} (h:n<=1000000):n<sizeLine:=Qx h (by decide)
theorem pC {n:Nat} (h:n<=1000000):n<=sizeLine:=QD (jE h)
noncomputable def vQ:Fn:=λds r=>∃ l:List Int,l.length<=64/\ds=[.tup (l.map .int)]/\r=.ok (.va (.tup ((trim l).map .int)))
theorem Iq (h:l.length<=64):vQ [.tup (l.map .int)] (.ok (.va (.tup ((trim l).map .int)))):=⟨l,h,rfl,rfl⟩
theorem Bw {cl:List Int} {j:Int} (h0:0<=j) (h1:j<cl.length) (h:R (.int (cl.getD j.toNat 0))):Jy (.tup (cl.map D.int)) (.int j) R:=by
 refine mV ?_ h
 rw [iV h0 (by simpa using h1)]
 have hj:j.toNat<cl.length:=by lia
 simp [OE,hj]
theorem Ek (Fu:eG K "trimmed" "trimmed" (top 2) f fd) (T:Txt K mg):br P w K mg base (dD P w) 1 f fd ["powers"] (dS K vQ):=by
 refine cB Fu tP (by rintro ds r ⟨a,_,rfl,_⟩; rfl) (by rintro ds r ⟨a,_,_,rfl⟩; exact ⟨_,rfl⟩) λc hq ds sl hF=>?_
 obtain ⟨l,hl,rfl,e⟩:=hF
 injection e with e
 subst e
 show aG c _ [.va (.tup (l.map .int)),.un] _ _
 conv in (av _)=>whnf
 walk_at "ev"
 with_reducible refine uK hq (λm ρ'=>m<=l.length/\trim (l.take m)=trim l/\ρ'=[.va (.tup (l.map .int)),.va (.int (m:Int))]) (m₀:=l.length) ?_ ?_
 ·refine ⟨Ot _,by rw [Pn],?_⟩
  rw [Ox]
 ·rintro m ρ' ⟨hm,ht,rfl⟩
  walk_at "ev"
  ·refine Bw (by lia) (by lia) ?_
   have hk:((m:Int) - 1).toNat=m - 1:=by lia
   rw [hk]
   have hm1:m - 1+1=m:=by lia
   walk_at "ev"
   ·exact ⟨m - 1,by lia,by lia,ny (by lia) (by assumption) (by rw [hm1]; exact ht),by rw [show ((m - 1:Nat):Int)=(m:Int) - 1 by lia]⟩
   ·show Sl.va _=Sl.va _
    rw [qp,Az _ hm]
    have:=jy (l:=l) (m:=m - 1) (by lia) (by assumption) (by rw [hm1]; exact ht)
    rw [hm1] at this
    rw [this]
  ·show Sl.va _=Sl.va _
   have:m=0:=by lia
   subst this
   rw [qp,Az _ hm,<- ht]
   rfl
theorem jF (x):(aO x).nl:=sO (by unfold D.pA; exact ⟨sO (Dp _),dP (f:=D.int) (l:=[x.2]) λ_ _=>kL⟩)
noncomputable def El (t:aF):Option D:=if t.2≠0 then some (aO t) else none
theorem j8:∀ L:List aF,(L.map El).filterMap id=(nz L).map aO
 | []=>rfl
 | t::L=>by
  unfold nz
  by_cases h:t.2=0
  ·simp only [OA,El,h,ne_eq,not_true,if_false,P6,id,List.filter_cons,bne_self_eq_false,Pj]
   exact j8 L
  ·have hb:(t.2 != 0)=true:=by simpa using h
   rw [List.filter_cons,if_pos hb,OA,OA,P6]
   simp only [El,ne_eq,h,not_false_eq_true,if_true,id]
   rw [j8 L]; rfl
noncomputable def jV:Fn:=λds r=>∃ ts:List aF,ts.length<=400000/\(∀ t∈ts,t.1.length<=64)/\ds=[.lst (ts.map aO)]/\r=.ok (.ow ((eY (nz (aL ts))).map aO))
theorem lI {ts:List aF} (h:ts.length<=400000) (h2:∀ t∈ts,t.1.length<=64):jV [.lst (ts.map aO)] (.ok (.ow ((eY (nz (aL ts))).map aO))):=⟨ts,h,h2,rfl,rfl⟩
theorem Bx (l m):c6 (l,0) (m,0)=HT.lexLt l m:=by
 unfold c6
 by_cases e:l=m
 ·subst e; rw [if_pos rfl,EV.j5]; rfl
 ·rw [if_neg e]
theorem tU (hk:(A.map (·.1)).Nodup) (hp:L.Perm (A.map (·.1))) (hs:fN HT.lexLt false L):L.reverse=(eY A).map (·.1):=by
 have h:(L.reverse.map λl=>((l,0):aF))=((eY A).map (·.1)).map λl=>((l,0):aF):=by
  refine lu (((Tg L).trans (hp.trans ((bz A).map _).symm)).map _) ?_ ?_
  ·unfold i7 fN at *
   rw [Qy,List.pairwise_reverse]
   exact hs.imp λh=>by simpa [Bx] using h
  ·have ho:i7 true (eY A):=gK (keys_nodup hk)
   have hn:((eY A).map (·.1)).Nodup:=((bz A).map _).nodup_iff.mpr hk
   unfold i7 fN Sq at *
   rw [Qy] at hn
   rw [Qy,Qy]
   refine ho.imp₂ (λx y h q=>?_) hn
   simp only [if_true] at h |-
   rw [Bx]
   unfold c6 at h
   rw [if_neg λz=>q z.symm] at h
   exact h
 have:=congrArg (List.map (·.1)) h
 rw [OQ,OQ] at this
 exact ((List.map_id _).symm.trans this).trans (List.map_id _)
theorem By {l:List Int} (h:m<l.length):kq ((l.take (m+1)).map D.int) (-1)=some (.int (l.getD m 0)):=by
 have hl:(l.take (m+1)).length=m+1:=by simp; lia
 rw [uZ (by decide) (by simp only [Ox,hl]; lia),Ox,hl]
 have e:(-1+((m+1:Nat):Int)).toNat=m:=by lia
 rw [e,OE,List.getElem?_take]
 simp [PJ,h]
theorem Ir (xs:List α):EV.cutD xs none (some (-1))=xs.dropLast:=by
 unfold EV.cutD HT.cy
 rw [List.dropLast_eq_take]
 simp only [TM]
 congr 1
 split <;> lia
section
local macro_rules | `(tactic| walk_at "evIx")=> `(tactic| first | ((with_reducible show aH _ (Qa _ (ON _ _) _) _ _); with_reducible refine Io ?_))
local macro_rules | `(tactic| walk_at "evX")=> `(tactic| first | ((with_reducible show dF _ (Expr.Dict _ _ _) _ _); with_reducible refine Di ?_))
theorem BA {f:Addr} {fd:FuncData} (Fu:eG K "_law_plain" "_law_plain" (top 35) f fd) (T:Txt K mg):br P w K mg base (dD P w) 1 f fd ["_law_terms"] (dS K jV):=by
 refine cB Fu tR (by rintro ds r ⟨n,_,_,rfl,_⟩; rfl) (by rintro ds r ⟨n,_,_,_,rfl⟩; exact ⟨_,rfl⟩) λc hq ds sl hF=>?_
 obtain ⟨ts,hl,hlen,rfl,e⟩:=hF
 injection e with e
 subst e
 show aG c _ [.va (.lst (ts.map aO)),.un,.un,.un,.un] _ _
 conv in (av _)=>whnf
 walk_at "ev"
 with_reducible refine dY hq (cM ?_)
 walk_at "ev"
 refine ⟨λi ρ'=>∃ s2 s3 s4:Sl,ρ'=[.va (.lst (ts.map aO)),.oT (encA (aL (ts.take i))),s2,s3,s4],⟨_,_,_,rfl⟩,?_,?_⟩
 ·rintro c' rX Cr Cs i d ρ' hd ⟨s2,s3,s4,rfl⟩
  simp only [OE,OL] at hd
  obtain ⟨t,ht,rfl⟩:=hd
  obtain ⟨hi,rfl⟩:=OH.mp ht
  have h6:=hlen _ (O9 hi)
  have hsz:(aL (ts.take i)).length<sizeLine:=jE (by have:=gJ (ts.take i); rw [Pp] at this; lia)
  have e:aL (ts.take (i+1))=putD (aL (ts.take i)) (trim ts[i].1) ((bC (aL (ts.take i)) (trim ts[i].1)).getD 0+ts[i].2):=by
   rw [Px hi,qS]; rfl
  have hq':c'.X.xe=λ_ _=>False:=by rw [rX]; exact hq
  generalize aL (ts.take i)=A at hsz e |-
  generalize ts[i]=t at h6 e |-
  show mR c' _ (D.tup [.tup (t.1.map .int),.int t.2]) _ _
  walk_at "ev"
  with_reducible refine uK hq' (λm ρ'=>m<=t.1.length/\trim (t.1.take m)=trim t.1/\ρ'=[.va (.lst (ts.map aO)),.oT (encA A),.va (.tup (t.1.map .int)),.va (.int t.2),.va (.tup ((t.1.take m).map .int))]) (m₀:=t.1.length) ?_ ?_
  ·exact ⟨Ot _,by rw [Pn],by rw [Pn]⟩
  ·rintro m ρ' ⟨hm,ht,rfl⟩
   have hL:((t.1.take m).map D.int).length=m:=by simp; lia
   walk_at "ev"
   ·rw [hL] at *
    obtain ⟨n,rfl⟩:∃ n,m=n+1:=⟨m - 1,by omega⟩
    refine mV (By (by omega)) ?_
    walk_at "ev"
    ·refine ⟨n,by omega,by omega,ny (by omega) (by assumption) ht,?_⟩
     rw [Ir,jx (by omega),Pu,List.map_singleton,List.dropLast_concat]
    ·have eT:t.1.take (n+1)=trim t.1:=by first | exact jy (by omega) (by assumption) ht | exact (jy (by omega) (by assumption) ht).symm
     rw [eT]
     refine ⟨_,AE (A:=A) rfl _,?_⟩
     rw [qT]
     walk_at "ev"
     refine ⟨_,AF hsz,?_⟩
     walk_at "ev"
     show ∃ s2 s3 s4:Sl,_=[_,Sl.oT (encA (aL (ts.take (i+1)))),s2,s3,s4]
     rw [e]
     exact ⟨_,_,_,rfl⟩
   ·have:m=0:=by rw [hL] at *; omega
    subst this
    have eT:t.1.take 0=trim t.1:=ht
    rw [eT]
    refine ⟨_,AE (A:=A) rfl _,?_⟩
    rw [qT]
    walk_at "ev"
    refine ⟨_,AF hsz,?_⟩
    walk_at "ev"
    show ∃ s2 s3 s4:Sl,_=[_,Sl.oT (encA (aL (ts.take (i+1)))),s2,s3,s4]
    rw [e]
    exact ⟨_,_,_,rfl⟩
 ·rintro ρ' ⟨s2,s3,s4,rfl⟩
  rw [Ox,Pn]
  have hn:=keys_nodup (d7 ts)
  have hn':=d7 ts
  have hle:=gJ ts
  with_reducible refine ay ?_
  with_reducible refine cC ?_
  refine sQ 1 (by walk_at "at") (encK _) (by walk_at "sset") (cW hq (N':=["_law_key","_law_found"]) (ρ0:=λ_=>[.un,.va (D.fdT ((aL ts).map λt=>t.1.map OO) ((aL ts).map λt=>D.int t.2))]) (λt=>.un (.fr (by walk_at "at") (by walk_at "at") (by decide) rfl .nil)) (cM (e_x (Lc ?_))))
  refine e_x (Br (Txt.sorted T) ?_)
  walk_at "ev"
  refine ⟨(aL ts).map (·.1),_,by rw [OQ]; rfl,hn',λL' hp hs=>?_⟩
  have eL:=tU hn' hp hs
  have hpl:=(bz (aL ts)).length_eq
  refine aJ ?_
  walk_at "ev"
  refine ⟨rfl,rfl,rfl,_,rfl,?_⟩
  rw [<- List.map_reverse,eL]
  refine aJ (zP rfl ⟨pC (by simp only [Ox]; omega),(eY (aL ts)).map El,by simp,?_,?_⟩)
  ·intro c' hc t i d o hd ho
   simp only [OE,OL] at hd ho
   obtain ⟨n,⟨x,hx,rfl⟩,rfl⟩:=hd
   obtain ⟨x',hx',rfl⟩:=ho
   rw [hx] at hx'; cases hx'
   have hm:x∈aL ts:=(bz (aL ts)).subset (Py hx)
   have hv:bC (encA (aL ts)) (x.1.map OO)=some (.int x.2):=by
    rw [oB,oN hn' hm]; rfl
   refine cV (by walk_at "at") (sI (by walk_at "sset") ⟨.un (.same .nil),?_⟩)
   simp only [jo]
   walk_at "ev"
   refine ⟨encA (aL ts),_,_,_,?_,rfl,fy x.1,hv,?_⟩
   ·show _=D.fdT (((aL ts).map _).map _) (((aL ts).map _).map _)
    rw [OQ,OQ]; rfl
   walk_at "ev"
   ·unfold El; rw [if_neg λh=>h (by assumption)]
   refine ⟨encA (aL ts),_,_,_,?_,rfl,fy x.1,hv,?_⟩
   ·show _=D.fdT (((aL ts).map _).map _) (((aL ts).map _).map _)
    rw [OQ,OQ]; rfl
   walk_at "ev"
   unfold El
   rw [if_pos (by assumption)]
  ·rw [j8,AD (keys_nodup hn')]
   exact ⟨dP λx _=>jF x,rfl⟩
end
end
section
variable {K:Oo}
noncomputable def Em (p:List Int) (g:Nat->Int) (k:Nat):Int:=if bR p k>g k then bR p k else g k
noncomputable def gk (L:List aF) (k:Nat):Int:=L.foldl (λa t=>if bR t.1 k>a then bR t.1 k else a) 0
noncomputable def eB (L:List aF):List Int:=(Pd 6).map (gk L)
noncomputable def iE (p:List Int) (g:Nat->Int) (j k:Nat):Int:=if k<j then Em p g k else g k
theorem vR (L:List aF) (k):∀ a:Int,a<=L.foldl (λa t=>if bR t.1 k>a then bR t.1 k else a) a:=by
 induction L with
 | nil=>exact λa=>PR _
 | cons t L ih =>
  intro a
  rw [P8]
  refine O2 ?_ (ih _)
  split <;> lia
theorem FQ (L) (k):0<=gk L k:=vR L k 0
theorem En (L) (t):gk (L++[t])=Em t.1 (gk L):=by
 funext k
 unfold gk Em
 rw [US]; rfl
theorem Eo:iE p (gk L) p.length=Em p (gk L):=by
 funext k
 unfold iE
 split
 ·rfl
 ·unfold Em
  rw [c7 (by lia)]
  have:=FQ L k
  rw [if_neg (by lia)]
theorem BB (p) (g):iE p g 0=g:=by funext k; unfold iE; rw [if_neg (by lia)]
noncomputable def fP (g:Nat->Int):List D:=((Pd 6).map g).map D.int
theorem BC (p) (g) (h:j<6) (q:Em p g j=bR p j):(fP (iE p g j)).set j (.int (bR p j))=fP (iE p g (j+1)):=by
 refine To (by simp [fP]) λi h1 h2=>?_
 have hi:i<6:=by simpa [fP] using h2
 rw [List.getElem_set]
 simp only [fP,U0,UI]
 unfold iE
 by_cases e:j=i
 ·subst e
  rw [if_pos rfl,if_pos (by lia),q]
 ·rw [if_neg e]
  by_cases z:i<j
  ·rw [if_pos z,if_pos (by lia)]
  ·rw [if_neg z,if_neg (by lia)]
theorem yc (p) (g) (q:Em p g j=g j):fP (iE p g j)=fP (iE p g (j+1)):=by
 unfold fP
 congr 1
 refine Qv λi _=>?_
 unfold iE
 by_cases z:i<j
 ·rw [if_pos z,if_pos (by lia)]
 ·by_cases e:i=j
  ·subst e; rw [if_neg z,if_pos (by lia),q]
  ·rw [if_neg z,if_neg (by lia)]
theorem Ep (g) {j:Nat} (h:j<6):kq (fP g) (j:Int)=some (.int (g j)):=by
 rw [iV (by lia) (by simp [fP]; lia),O0]
 simp [fP,h]
noncomputable def oY:Fn:=λds r=>∃ L:List aF,(∀ t∈L,t.1.length<=6)/\ds=[.lst (L.map aO)]/\r=.ok (.ow (fP (gk L)))
theorem Er (h:∀ t∈L,t.1.length<=6):oY [.lst (L.map aO)] (.ok (.ow (fP (gk L)))):=⟨L,h,rfl,rfl⟩
section
local macro_rules | `(tactic| walk_at "evPut")=> `(tactic| with_reducible refine HL (by walk_at "at") (by walk_at "at") (by walk_at "own") ?_)
local macro_rules | `(tactic| walk_at "evX")=> `(tactic| first | ((with_reducible show dF _ (RY _ TR _ _) _ _); with_reducible refine FH ?_))
local macro_rules | `(tactic| walk_at "evE")=> `(tactic| first | ((with_reducible show aH _ (ON "PLACES" _) _ _); with_reducible refine sH (by assumption) ?_))
theorem BD (Fu:eG K "greatest_powers" "greatest_powers" (top 3) f fd) (T:Txt K mg) (PL:∃ tk:Tok,mg "PLACES"=some (.int 6 tk)):br P w K mg base (dD P w) 1 f fd ["some"] (dS K oY):=by
 obtain ⟨tk,hPL⟩:=PL
 refine cB Fu iD (by rintro ds r ⟨L,_,rfl,_⟩; rfl) (by rintro ds r ⟨L,_,_,rfl⟩; exact ⟨_,rfl⟩) λc hq ds sl hF=>?_
 obtain ⟨L,hl,rfl,e⟩:=hF
 injection e with e
 subst e
 show aG c _ [.va (.lst (L.map aO)),.un,.un,.un,.un,.un] _ _
 conv in (av _)=>whnf
 walk_at "ev"
 refine ⟨_,rfl,?_⟩
 walk_at "ev"
 ·exact ⟨⟨by decide,by decide⟩,by decide⟩
 walk_at "ev"
 show fS c _ [.va (.lst (L.map aO)),.ow (fP (gk [])),.un,.un,.un,.un] _ _
 with_reducible refine dY hq (cM ?_)
 walk_at "ev"
 refine ⟨λi ρ'=>∃ s2 s3 s4 s5:Sl,ρ'=[.va (.lst (L.map aO)),.ow (fP (gk (L.take i))),s2,s3,s4,s5],⟨_,_,_,_,rfl⟩,?_,?_⟩
 ·rintro c' rX Cr Cs i d ρ' hd ⟨s2,s3,s4,s5,rfl⟩
  simp only [OE,OL] at hd
  obtain ⟨t,ht,rfl⟩:=hd
  obtain ⟨hi,rfl⟩:=OH.mp ht
  have h6:=hl _ (O9 hi)
  have hq':c'.X.xe=λ_ _=>False:=by rw [rX]; exact hq
  show mR c' _ (D.tup [.tup (L[i].1.map .int),.int L[i].2]) _ _
  walk_at "ev"
  have eg:gk (L.take (i+1))=iE L[i].1 (gk (L.take i)) L[i].1.length:=by rw [Px hi,En,Eo]
  generalize L[i]=t at h6 eg |-
  generalize gk (L.take i)=g at eg |-
  with_reducible refine dY hq' (HQ (Txt.enum (by assumption)) ?_)
  walk_at "ev"
  refine ⟨_,rfl,?_⟩
  refine ⟨λj ρ'=>∃ s4 s5:Sl,ρ'=[.va (.lst (L.map aO)),.ow (fP (iE t.1 g j)),.va (.tup (t.1.map .int)),.va (.int t.2),s4,s5],⟨s4,s5,by rw [BB]⟩,?_,?_⟩
  ·rintro c2 hcX2 hcR2 hcM2 j d ρ' hd ⟨s4,s5,rfl⟩
   unfold lC at hd
   simp only [OE,OL,List.getElem?_zipIdx] at hd
   obtain ⟨⟨x,m⟩,⟨y,⟨z,hz,rfl⟩,e⟩,rfl⟩:=hd
   obtain ⟨rfl,rfl⟩:D.int z=x/\0+j=m:=by simpa using e
   obtain ⟨hj,rfl⟩:=OH.mp hz
   have hj6:j<6:=by lia
   have ha:kq (fP (iE t.1 g j)) (((0+j:Nat):Int))=some (.int (g j)):=by
    rw [QS,Ep _ hj6]; unfold iE; rw [if_neg (by lia)]
   have ep:bR t.1 j=t.1[j]:=dM hj
   have hj0:0+j=j:=QS j
   rw [hj0] at ha |-
   show mR c2 _ (D.tup [.int (j:Nat),.int t.1[j]]) _ _
   walk_at "ev"
   ·refine ⟨j,rfl,⟨by simp [fP]; lia,?_⟩⟩
    walk_at "ev"
    refine ⟨.va (.int (j:Nat)),.va (.int t.1[j]),?_⟩
    show [_,Sl.ow ((fP (iE t.1 g j)).set j (.int t.1[j])),_,_,_,_]=_
    rw [<- ep,BC t.1 g hj6 (by unfold Em; rw [ep,if_pos (by assumption)])]
   ·refine ⟨.va (.int (j:Nat)),.va (.int t.1[j]),?_⟩
    rw [yc t.1 g (by unfold Em; rw [ep,if_neg (by assumption)])]
  ·rintro ρ' ⟨s4,s5,rfl⟩
   rw [show (lC (t.1.map D.int)).length=t.1.length by simp [lC]]
   walk_at "ev"
   exact ⟨_,_,_,_,by rw [eg]⟩
 ·rintro ρ' ⟨s2,s3,s4,s5,rfl⟩
  rw [Ox,Pn]
  walk_at "ev"
  rfl
end
noncomputable def Cn (ns:List Int):Int:=ns.foldr max 0
theorem BE:∀ {ns:List Int} {n:Int},n∈ns->n<=Cn ns
 | x::ns,n,h=>by
  show n<=max x (Cn ns)
  rcases OM.mp h with rfl | h
  ·lia
  ·have:=BE h; lia
theorem FT:∀ (ns:List Int),0<=Cn ns
 | []=>PR _
 | x::ns=>by show 0<=max x (Cn ns); have:=FT ns; lia
theorem tV:∀ {ns:List Int} {m:Int},0<=m->(∀ n∈ns,n<=m)->Cn ns<=m
 | [],_,h,_=>h
 | x::ns,m,h0,h=>by
  show max x (Cn ns)<=m
  have:=tV h0 λn hn=>h n (OJ _ hn)
  have:=h x OI
  lia
theorem BF (h:m∈eB L) (h2:∀ n∈eB L,n<=m):m=Cn (eB L):=by
 have h0:0<=m:=by
  unfold eB at h
  obtain ⟨k,_,rfl⟩:=O1.mp h
  exact FQ L k
 exact Int.le_antisymm (BE h) (tV h0 h2)
end
section
variable {K:Oo}
noncomputable def Es:Fn:=λds r=>∃ (p:List Int) (W:Nat),W<=10/\Bd (2 ^ W) p/\ds=[.tup (p.map .int),.int (W:Nat)]/\r=.ok (.va (.int (pk (2 ^ W) p)))
theorem Ld (h:W<=10) (h2:Bd (2 ^ W) p):Es [.tup (p.map .int),.int (W:Nat)] (.ok (.va (.int (pk (2 ^ W) p)))):=⟨p,W,h,h2,rfl,rfl⟩
section
local macro_rules | `(tactic| walk_at "evE")=> `(tactic| first | ((with_reducible show aH _ (ON "PLACES" _) _ _); with_reducible refine sH (by assumption) ?_))
local macro_rules | `(tactic| walk_at "evBo")=> `(tactic| first | with_reducible refine FF ?_ | with_reducible refine FG ?_ | with_reducible refine AH ?_)
theorem Iu (Fu:eG K "key_of" "key_of" (top 4) f fd) (T:Txt K mg) (PL:∃ tk:Tok,mg "PLACES"=some (.int 6 tk)):br P w K mg base (dD P w) 1 f fd ["powers","width"] (dS K Es):=by
 obtain ⟨tk,hPL⟩:=PL
 refine cB Fu xZ (by rintro ds r ⟨p,W,_,_,rfl,_⟩; rfl) (by rintro ds r ⟨p,W,_,_,_,rfl⟩; exact ⟨_,rfl⟩) λc hq ds sl hF=>?_
 obtain ⟨p,W,hW,hp,rfl,e⟩:=hF
 injection e with e
 subst e
 have h6:=hp.1
 show aG c _ [.va (.tup (p.map .int)),.va (.int (W:Nat)),.un,.un] _ _
 conv in (av _)=>whnf
 walk_at "ev"
 with_reducible refine dY hq (cM ?_)
 walk_at "ev"
 refine ⟨λi ρ'=>∃ s3:Sl,ρ'=[.va (.tup (p.map .int)),.va (.int (W:Nat)),.va (.int (DZ (2 ^ W) (p.take i))),s3],⟨_,rfl⟩,?_,?_⟩
 ·rintro c' rX Cr Cs i d ρ' hd ⟨s3,rfl⟩
  simp only [OE,OL] at hd
  obtain ⟨x,hx,rfl⟩:=hd
  obtain ⟨hi,rfl⟩:=OH.mp hx
  have bd:=AW (two_pos W) (p:=p.take i) λx hx=>hp.2 x (RB hx)
  have hl:(p.take i).length<=6:=by rw [Pp]; lia
  walk_at "ev"
  ·exact ⟨by lia,by lia,vG hW hl bd.1 bd.2⟩
  ·refine ⟨.va (.int p[i]),?_⟩
   rw [Px hi,AV,O0]
 ·rintro ρ' ⟨s3,rfl⟩
  rw [Ox,Pn]
  have bd:=AW (two_pos W) hp.2
  have ew:(W:Int) * (6 - ((p.map D.int).length:Nat))=((W * (6 - p.length):Nat):Int):=by
   rw [Ox,Int.natCast_mul,Int.ofNat_sub h6]; rfl
  have ew2:W * (6 - p.length)<=60:=OD (Rg hW (Nat.sub_le 6 _)) (by decide)
  walk_at "ev"
  ·exact qx (by lia)
  ·rw [ew]; exact ⟨by lia,by lia,vG hW h6 bd.1 bd.2⟩
  ·show Sl.va _=Sl.va _
   rw [ew,O0,Int.pow_mul,HZ h6]
end
theorem cO {α:Type} (f:α->D):∀ L:List α,(L.map λt=>some (f t)).filterMap id=L.map f
 | []=>rfl
 | x::L=>by
  rw [OA,OA,P6]
  exact congrArg (f x:: ·) (cO f L)
noncomputable def vS:Fn:=λds r=>∃ (x:Int) (W:Nat),W<=10/\0<=x/\ds=[.int x,.int (W:Nat)]/\r=.ok (.va (.tup ((LW (2 ^ W) x).map .int)))
theorem Iv (h:W<=10) (h2:0<=x):vS [.int x,.int (W:Nat)] (.ok (.va (.tup ((LW (2 ^ W) x).map .int)))):=⟨x,W,h,h2,rfl,rfl⟩
section
local macro_rules | `(tactic| walk_at "evE")=> `(tactic| first | ((with_reducible show aH _ (ON "PLACES" _) _ _); with_reducible refine sH (by assumption) ?_))
local macro_rules | `(tactic| walk_at "evBo")=> `(tactic| first | with_reducible refine FF ?_ | with_reducible refine FG ?_ | with_reducible refine AH ?_)
local macro_rules | `(tactic| walk_at "evXC")=> `(tactic| first | with_reducible refine x_call (F:=vQ) (by assumption) (by decide) ?_)
theorem Et (Fu:eG K "powers_of" "powers_of" (top 5) f fd) (T:Txt K mg) (PL:∃ tk:Tok,mg "PLACES"=some (.int 6 tk)) (h1:cU P w K mg base 1 "trimmed" vQ):br P w K mg base (dD P w) 2 f fd ["key","width"] (dS K vS):=by
 obtain ⟨tk,hPL⟩:=PL
 refine cB Fu oQ (by rintro ds r ⟨x,W,_,_,rfl,_⟩; rfl) (by rintro ds r ⟨x,W,_,_,_,rfl⟩; exact ⟨_,rfl⟩) λc hq ds sl hF=>?_
 obtain ⟨x,W,hW,hx,rfl,e⟩:=hF
 injection e with e
 subst e
 show aG c _ [.va (.int x),.va (.int (W:Nat)),.un] _ _
 conv in (av _)=>whnf
 walk_at "ev"
 ·exact ⟨by lia,by lia,by decide⟩
 walk_at "ev"
 rw [O0]
 refine e_x (cW hq (N':=["k","key","mask","width"]) (ρ0:=λ_=>[.un,.va (.int x),.va (.int (1 * 2 ^ W - 1)),.va (.int (W:Nat))]) (λt=>.un (.fr (by walk_at "at") (by walk_at "at") (by decide) rfl (.fr (by walk_at "at") (by walk_at "at") (by decide) rfl (.fr (by walk_at "at") (by walk_at "at") (by decide) rfl .nil)))) (HU (Txt.range T) ?_))
 walk_at "ev"
 refine ⟨rfl,⟨⟨by decide,by decide⟩,⟨⟨by decide,by decide⟩,⟨by decide,?_⟩⟩⟩⟩
 refine ⟨(Pd 6).map λ(i:Nat)=>some (.int (x / (2 ^ W) ^ (5 - i) % 2 ^ W)),rfl,?_,aJ ?_⟩
 ·intro c' hc t i d o hd ho
  unfold AM at hd
  simp only [OE,OL] at hd ho
  obtain ⟨a,ha,rfl⟩:=hd
  obtain ⟨a',ha',rfl⟩:=ho
  have hi:i<6:=by simpa using (OH.mp ha').1
  rw [RE hi] at ha'; cases ha'
  rw [show (6 - 1 - -1:Int).toNat=6 by decide,RE hi] at ha; cases ha
  refine cV (by walk_at "at") (sI (by walk_at "sset") ⟨.un (.same (.same (.same .nil))),?_⟩)
  simp only [jo]
  refine ⟨λ_=>?_,λh=>by cases h⟩
  have e5:((W:Int) * (6 - 1 - (i:Int))).toNat=W * (5 - i):=by
   rw [show ((6:Int) - 1 - (i:Int))=((5 - i:Nat):Int) by lia,<- Int.natCast_mul,O0]
  have e6:(0:Int)<=(W:Int) * (6 - 1 - (i:Int)):=Int.mul_nonneg (by lia) (by lia)
  have hp:(0:Int)<(2 ^ W) ^ (5 - i):=Rm (two_pos W)
  walk_at "ev"
  ·exact qx (by lia)
  ·show some _=some (D.int _)
   rw [e5,Int.pow_mul,xJ W (Int.ediv_nonneg hx (by lia))]
 ·refine ⟨_,rfl,?_⟩
  rw [cO (λ(i:Nat)=>D.int (x / (2 ^ W) ^ (5 - i) % 2 ^ W)) (Pd 6),show ((Pd 6).map λ(i:Nat)=>D.int (x / (2 ^ W) ^ (5 - i) % 2 ^ W))=((Pd 6).map λ(i:Nat)=>x / (2 ^ W) ^ (5 - i) % 2 ^ W).map D.int by rw [OQ]; rfl]
  walk_at "ev"
  exact aj (Iq (by simp)) rfl
end
noncomputable def rN (b:Int) (t:aF):D:=.tup [.int (pk b t.1),.int t.2]
noncomputable def vU:Fn:=λds r=>∃ (L:List aF) (W:Nat),W<=10/\L.length<=400000/\(∀ t∈L,Bd (2 ^ W) t.1)/\ds=[.lst (L.map aO),.int (W:Nat)]/\r=.ok (.ow (L.map (rN (2 ^ W))))
theorem Iw {L:List aF} {W:Nat} (h:W<=10) (h1:L.length<=400000) (h2:∀ t∈L,Bd (2 ^ W) t.1):vU [.lst (L.map aO),.int (W:Nat)] (.ok (.ow (L.map (rN (2 ^ W))))):=⟨L,W,h,h1,h2,rfl,rfl⟩
section
local macro_rules | `(tactic| walk_at "evCa")=> `(tactic| first | with_reducible refine aV (F:=Es) (by assumption) (by decide) ?_)
theorem Eu (Fu:eG K "packed" "packed" (top 6) f fd) (T:Txt K mg) (h1:cU P w K mg base 1 "key_of" Es):br P w K mg base (dD P w) 2 f fd ["some","width"] (dS K vU):=by
 refine cB Fu x6 (by rintro ds r ⟨L,W,_,_,_,rfl,_⟩; rfl) (by rintro ds r ⟨L,W,_,_,_,_,rfl⟩; exact ⟨_,rfl⟩) λc hq ds sl hF=>?_
 obtain ⟨L,W,hW,hL,hb,rfl,e⟩:=hF
 injection e with e
 subst e
 show aG c _ [.va (.lst (L.map aO)),.va (.int (W:Nat))] _ _
 conv in (av _)=>whnf
 refine ay (cC (cW hq (N':=["powers","number","width"]) (ρ0:=λ_=>[.un,.un,.va (.int (W:Nat))]) (λt=>.un (.un (.fr (by walk_at "at") (by walk_at "at") (by decide) rfl .nil))) (cM ?_)))
 walk_at "ev"
 ·exact pC (by rw [Ox]; lia)
 refine ⟨L.map λt=>some (rN (2 ^ W) t),by simp,?_,by show Sl.ow _=Sl.ow _; rw [cO]⟩
 intro c' hc t i d o hd ho
 simp only [OE,OL] at hd ho
 obtain ⟨x,hx,rfl⟩:=hd
 obtain ⟨x',hx',rfl⟩:=ho
 rw [hx] at hx'; cases hx'
 have hbx:=hb x (Py hx)
 show mR c' _ (.tup [.tup (x.1.map .int),.int x.2]) _ _
 walk_at "ev"
 refine ⟨.un (.un (.same .nil)),?_⟩
 simp only [jo]
 refine ⟨λ_=>?_,λh=>by cases h⟩
 walk_at "ev"
 refine aj (Ld hW hbx) ?_
 walk_at "ev"
 rfl
end
end
section
variable {P:Program} {w:World} {K:Oo} {mg:Str->Option Value} {base:Heap}
noncomputable def Iz:LV:=λkvs ds Z=>∃ (ts A B:List aF) (W:Nat),W<=10/\ts.length+A.length * B.length<=400000/\A.length<=400000/\B.length<=400000/\(∀ t∈ts,Bd (2 ^ W) t.1)/\(∀ l∈A,∀ r∈B,Bd (2 ^ W) (cJ l.1 r.1)/\EV.MulOk l.2 r.2) /\
 kvs=cS ((aL ts).map (gp (2 ^ W)))/\ds=[.lst (A.map (rN (2 ^ W))),.lst (B.map (rN (2 ^ W)))]/\Z=λkvs'=>kvs'=cS ((aL (ts++aM A B)).map (gp (2 ^ W)))
section
local macro_rules | `(tactic| walk_at "evS")=> `(tactic| first | ((with_reducible show fS _ (TF (Qa (ON _ _) _ _) TY _ _) _ _ _); with_reducible refine uR (by walk_at "at") (by walk_at "at") ?_ (ho:=by walk_at "own")))
theorem IB (Fu:eG K "add_products" "add_products" (top 8) f fd) (T:Txt K mg):br P w K mg base (dD P w) 1 f fd ["total","left","right"] (HJ K Iz):=by
 refine KZ Fu jT (by rintro kvs ds Z ⟨t0,A,B,W,_,_,_,_,_,_,_,rfl,_⟩; rfl) λc hq q kvs ds Z hF=>?_
 obtain ⟨t0,A,B,W,hW,hl,hA,hB,hb0,hp,rfl,rfl,rfl⟩:=hF
 have e00:t0=t0++aM (A.take 0) B:=by show t0=t0++[]; rw [PD]
 rw [show cS ((aL t0).map (gp (2 ^ W)))=cS ((aL (t0++aM (A.take 0) B)).map (gp (2 ^ W))) by rw [<- e00]]
 show aG c _ [.aK q (cS ((aL (t0++aM (A.take 0) B)).map (gp (2 ^ W)))),.va (.lst (A.map (rN (2 ^ W)))),.va (.lst (B.map (rN (2 ^ W)))),.un,.un,.un,.un,.un] _ _
 conv in (av _)=>whnf
 walk_at "ev"
 with_reducible refine dY hq (cM ?_)
 walk_at "ev"
 refine ⟨λi ρ'=>∃ s3 s4 s5 s6 s7:Sl,ρ'=[.aK q (cS ((aL (t0++aM (A.take i) B)).map (gp (2 ^ W)))),.va (.lst (A.map (rN (2 ^ W)))),.va (.lst (B.map (rN (2 ^ W)))),s3,s4,s5,s6,s7],⟨_,_,_,_,_,rfl⟩,?_,?_⟩
 ·rintro c' rX Cr Cs i d ρ' hd ⟨s3,s4,s5,s6,s7,rfl⟩
  simp only [OE,OL] at hd
  obtain ⟨l,hlx,rfl⟩:=hd
  obtain ⟨hi,rfl⟩:=OH.mp hlx
  have hq':c'.X.xe=λ_ _=>False:=by rw [rX]; exact hq
  show mR c' _ (.tup [.int (pk (2 ^ W) A[i].1),.int A[i].2]) _ _
  walk_at "ev"
  with_reducible refine dY hq' (cM ?_)
  walk_at "ev"
  have hpi:=hp A[i] (O9 hi)
  have e0:t0++aM (A.take (i+1)) B=(t0++aM (A.take i) B)++B.map (dN A[i]):=by
   rw [Px hi,nF,OY]
  have hprev:∀ t∈t0++aM (A.take i) B,Bd (2 ^ W) t.1:=λt ht=>by
   rcases OZ.mp ht with z | z
   ·exact hb0 t z
   ·obtain ⟨l,hl,r,hr,rfl⟩:=gq z
    exact (hp l (RB hl) r hr).1
  have hlen:(t0++aM (A.take i) B).length+B.length<=400000:=by
   rw [O7,c8,Pp,RN (by lia),Nat.add_assoc,<- RP]
   exact OD (Nat.add_le_add_left (Nat.mul_le_mul_right _ (by lia)) _) hl
  generalize A[i]=l at hpi e0 |-
  generalize t0++aM (A.take i) B=ts at e0 hprev hlen |-
  refine ⟨λj ρ'=>∃ s5 s6 s7:Sl,ρ'=[.aK q (cS ((aL (ts++(B.take j).map (dN l))).map (gp (2 ^ W)))),.va (.lst (A.map (rN (2 ^ W)))),.va (.lst (B.map (rN (2 ^ W)))),.va (.int (pk (2 ^ W) l.1)),.va (.int l.2),s5,s6,s7],⟨s5,s6,s7,by simp⟩,?_,?_⟩
  ·rintro c2 hcX2 hcR2 hcM2 j d ρ' hd ⟨s5,s6,s7,rfl⟩
   simp only [OE,OL] at hd
   obtain ⟨r,hrx,rfl⟩:=hd
   obtain ⟨hj,rfl⟩:=OH.mp hrx
   obtain ⟨hb,hm⟩:=hpi B[j] (O9 hj)
   have e1:ts++(B.take (j+1)).map (dN l)=(ts++(B.take j).map (dN l))++[dN l B[j]]:=by
    rw [Px hj,Pu,OY]; rfl
   have hprev2:∀ t∈ts++(B.take j).map (dN l),Bd (2 ^ W) t.1:=λt ht=>by
    rcases OZ.mp ht with z | z
    ·exact hprev t z
    ·obtain ⟨r,hr,rfl⟩:=O1.mp z
     exact (hpi r (RB hr)).1
   have hlen2:(ts++(B.take j).map (dN l)).length<400000:=by
    rw [O7,Ox,Pp]; lia
   have key:=HY (two_pos W) hprev2 (t:=dN l B[j]) hb
   rw [<- e1] at key
   generalize ts++(B.take j).map (dN l)=us at key hlen2 |-
   generalize B[j]=r at key hb hm |-
   show mR c2 _ (.tup [.int (pk (2 ^ W) r.1),.int r.2]) _ _
   have ek:pk (2 ^ W) (dN l r).1=pk (2 ^ W) l.1+pk (2 ^ W) r.1:=D0 _ _ _
   rw [ek] at key
   have hC:(cS ((aL us).map (gp (2 ^ W)))).length<sizeLine:=jE (by
    have:=gJ us
    simp only [cS,Ox]; lia)
   generalize (aL us).map (gp (2 ^ W))=C at key hC |-
   walk_at "ev"
   refine Fx (by walk_at "at") (by walk_at "at") ?_
   walk_at "ev"
   refine ⟨_,.k rfl rfl,?_⟩
   rw [ja]
   cases hv:bC C (pk (2 ^ W) l.1+pk (2 ^ W) r.1) with
   | some m =>
    rw [hv] at key
    show mU _ _ true
    walk_at "ev"
    refine ⟨m,by rw [<- show bC (cS C) (.inl (pk (2 ^ W) l.1+pk (2 ^ W) r.1))=some (D.int m) by rw [ja,hv]; rfl]; exact .k rfl rfl,?_⟩
    walk_at "ev"
    refine ⟨_,.k rfl rfl hC,?_⟩
    walk_at "ev"
    refine ⟨.va (.int (pk (2 ^ W) r.1)),.va (.int r.2),.va (.int (pk (2 ^ W) l.1+pk (2 ^ W) r.1)),?_⟩
    show [Sl.aK q (putD (cS C) (.inl (pk (2 ^ W) l.1+pk (2 ^ W) r.1)) (.int (m+l.2 * r.2))),_,_,_,_,_,_,_]=_
    rw [rg,show putD C (pk (2 ^ W) l.1+pk (2 ^ W) r.1) (m+l.2 * r.2)=_ from key]
   | none =>
    rw [hv] at key
    show mU _ _ false
    walk_at "ev"
    refine ⟨_,.k rfl rfl hC,?_⟩
    walk_at "ev"
    refine ⟨.va (.int (pk (2 ^ W) r.1)),.va (.int r.2),.va (.int (pk (2 ^ W) l.1+pk (2 ^ W) r.1)),?_⟩
    show [Sl.aK q (putD (cS C) (.inl (pk (2 ^ W) l.1+pk (2 ^ W) r.1)) (.int (l.2 * r.2))),_,_,_,_,_,_,_]=_
    rw [rg,<- Sm (l.2 * r.2),show putD C (pk (2 ^ W) l.1+pk (2 ^ W) r.1) (0+l.2 * r.2)=_ from key]
  ·rintro ρ' ⟨s5,s6,s7,rfl⟩
   rw [Ox,Pn,<- e0]
   walk_at "ev"
   exact ⟨_,_,_,_,_,rfl⟩
 ·rintro ρ' ⟨s3,s4,s5,s6,s7,rfl⟩
  rw [Ox,Pn]
  walk_at "ev"
  exact ⟨_,_,rfl,rfl⟩
end
noncomputable def Jz (C:List (Int×Int)):D:=.fdK ((cS C).map (·.1)) ((cS C).map (·.2))
theorem BG (C):(cS C).map (·.1)=(C.map (·.1)).map OO:=by unfold cS; rw [OQ,OQ]; rfl
noncomputable def Ew:Fn:=λds r=>∃ (ts:List aF) (W:Nat),W<=10/\ts.length<=400000/\(∀ t∈ts,Bd (2 ^ W) t.1)/\ds=[Jz ((aL ts).map (gp (2 ^ W))),.int (W:Nat)]/\r=.ok (.ow ((bg ts).map aO))
theorem Le {ts:List aF} {W:Nat} (h:W<=10) (h1:ts.length<=400000) (h2:∀ t∈ts,Bd (2 ^ W) t.1):Ew [Jz ((aL ts).map (gp (2 ^ W))),.int (W:Nat)] (.ok (.ow ((bg ts).map aO))):=⟨ts,W,h,h1,h2,rfl,rfl⟩
theorem tW (h:fN ltI true L):L.Pairwise λx y=>y<x:=by
 unfold fN at h
 exact h.imp λ{x y} q=>by simpa using q
section
local macro_rules | `(tactic| walk_at "evIx")=> `(tactic| with_reducible refine Ia ?_)
local macro_rules | `(tactic| walk_at "evCa")=> `(tactic| first | with_reducible refine aV (F:=vS) (by assumption) (by decide) ?_)
theorem IC (Fu:eG K "unpacked" "unpacked" (top 7) f fd) (T:Txt K mg) (h1:cU P w K mg base 2 "powers_of" vS):br P w K mg base (dD P w) 3 f fd ["total","width"] (dS K Ew):=by
 refine cB Fu rJ (by rintro ds r ⟨ts,W,_,_,_,rfl,_⟩; rfl) (by rintro ds r ⟨ts,W,_,_,_,_,rfl⟩; exact ⟨_,rfl⟩) λc hq ds sl hF=>?_
 obtain ⟨ts,W,hW,hl,hb,rfl,e⟩:=hF
 injection e with e
 subst e
 show aG c _ [.va (Jz ((aL ts).map (gp (2 ^ W)))),.va (.int (W:Nat))] _ _
 conv in (av _)=>whnf
 refine ay (cC (cW hq (N':=["key","total","width"]) (ρ0:=λ_=>[.un,.va (Jz ((aL ts).map (gp (2 ^ W)))),.va (.int (W:Nat))]) (λt=>.un (.fr (by walk_at "at") (by walk_at "at") (by decide) rfl (.fr (by walk_at "at") (by walk_at "at") (by decide) rfl .nil))) (cM (e_x (tu (Txt.sorted T) ?_)))))
 walk_at "ev"
 have hk:=d7 ts
 have hg:=oM hb
 have nd:(((aL ts).map (gp (2 ^ W))).map (·.1)).Nodup:=by
  rw [OQ]
  unfold Sq at hk |-
  rw [Qy] at hk |-
  exact Ue.imp_of_mem (λ{x y} hx hy q z=>q (tE (two_pos W) (hg x hx).1 (hg y hy).1 (hg x hx).2 (hg y hy).2 z)) hk
 refine ⟨((aL ts).map (gp (2 ^ W))).map (·.1),_,by rw [<- BG]; rfl,nd,λL' hp hs=>?_⟩
 have eL:=AU (two_pos W) hb hp (tW hs)
 subst eL
 have hle:=gJ ts
 have hpl:=(bz (aL ts)).length_eq
 refine aJ (zP rfl ⟨pC (by simp only [Ox]; lia),(eY (aL ts)).map El,by simp,?_,?_⟩)
 ·intro c' hc t i d o hd ho
  simp only [OE,OL] at hd ho
  obtain ⟨n,⟨x,hx,rfl⟩,rfl⟩:=hd
  obtain ⟨x',hx',rfl⟩:=ho
  rw [hx] at hx'; cases hx'
  have hm:x∈aL ts:=(bz (aL ts)).subset (Py hx)
  have hv:bC (cS ((aL ts).map (gp (2 ^ W)))) (.inl (pk (2 ^ W) x.1))=some (.int x.2):=by
   rw [ja,tF (two_pos W) hg (hg x hm).1 (hg x hm).2,oN hk hm]; rfl
  refine cV (by walk_at "at") (sI (by walk_at "sset") ⟨.un (.same (.same .nil)),?_⟩)
  simp only [jo]
  have h0:=(K4 (two_pos W) (hg x hm).1).1
  walk_at "ev"
  refine ⟨_,_,_,rfl,rfl,hv,?_⟩
  walk_at "ev"
  ·unfold El; rw [if_neg λh=>h (by assumption)]
  refine aj (Iv hW h0) ?_
  rw [HV (two_pos W) (hg x hm).1,(hg x hm).2]
  walk_at "ev"
  refine ⟨_,_,_,rfl,rfl,hv,?_⟩
  walk_at "ev"
  unfold El
  rw [if_pos (by assumption)]
 ·show Sl.ow _=Sl.ow _
  rw [j8,AD (keys_nodup hk)]
  rfl
end
structure NW (A B:List aF):Prop where
 la:A.length<=400000
 lb:B.length<=400000
 lp:A.length * B.length<=400000
 pa:∀ t∈A,t.1.length<=6/\∀ x∈t.1,0<=x/\x<=500
 pb:∀ t∈B,t.1.length<=6/\∀ x∈t.1,0<=x/\x<=500
 mu:∀ l∈A,∀ r∈B,EV.MulOk l.2 r.2
theorem vV:∀ {L:List aF} (a:Int),a<=m->(∀ t∈L,bR t.1 k<=m)->L.foldl (λa t=>if bR t.1 k>a then bR t.1 k else a) a<=m
 | [],_,h,_=>h
 | t::L,a,h,q=>by
  rw [P8]
  have:=q t OI
  exact vV _ (by split <;> lia) λu hu=>q u (OJ _ hu)
theorem BH (h0:0<=m) (h:∀ t∈L,∀ x∈t.1,x<=m):Cn (eB L)<=m:=by
 refine tV h0 λn hn=>?_
 unfold eB at hn
 obtain ⟨k,_,rfl⟩:=O1.mp hn
 refine vV 0 h0 λt ht=>?_
 by_cases z:k<t.1.length
 ·rw [dM z]; exact h t ht _ (O9 _)
 ·rw [c7 (by lia)]; exact h0
theorem BI (ht:t∈L) (hl:t.1.length<=6) (hx:x∈t.1):x<=Cn (eB L):=by
 obtain ⟨k,hk,rfl⟩:=List.getElem_of_mem hx
 refine O2 ?_ (BE (show gk L k∈eB L from O1.mpr ⟨k,by simp; lia,rfl⟩))
 unfold gk
 rw [<- dM hk]
 suffices H:∀ a:Int,bR t.1 k<=L.foldl (λa t=>if bR t.1 k>a then bR t.1 k else a) a from H 0
 induction L with
 | nil=>cases ht
 | cons u L ih =>
  intro a
  rw [P8]
  rcases OM.mp ht with rfl | ht
  ·refine O2 ?_ (vR L k _)
   split <;> lia
  ·exact ih ht _
theorem Ey (h:0<=x):x<2 ^ PV x:=by
 unfold PV
 by_cases z:x=0
 ·subst z; decide
 ·have e:(x == 0)=false:=by simpa using z
  rw [e,if_neg OC,gO]
  have:=Nat.lt_log2_self (n:=x.natAbs)
  lia
theorem bits_le (h:x.natAbs<1024):PV x<=10:=by
 unfold PV
 by_cases z:x=0
 ·subst z; decide
 ·have e:(x == 0)=false:=by simpa using z
  rw [e,if_neg OC]
  have:=(Nat.log2_lt (n:=x.natAbs) (k:=10) (by lia)).mpr h
  lia
end
section
variable {P:Program} {w:World} {K:Oo} {mg:Str->Option Value} {base:Heap}
noncomputable abbrev Part:=Int×List (List aF)
noncomputable def af (A:List aF):D:=.lst (A.map aO)
noncomputable def gx (p:Part):D:=.tup (.int p.1::p.2.map af)
noncomputable def fQ (n:Int) (As:List (List aF)):List aF:=As.foldl aM (cT n)
noncomputable def cK (ps:List Part):List aF:=ps.flatMap λp=>fQ p.1 p.2
noncomputable def bH (As:List (List aF)):Nat:=(As.map λA=>max A.length 1).foldr (· * ·) 1
noncomputable def lS (A:List aF):Int:=Cn (eB A)
noncomputable def oZ (As:List (List aF)):MP:=(As.map mp).foldr (· * ·) 1
theorem BJ (As):∀ L:List aF,mp (As.foldl aM L)=mp L * oZ As:=by
 induction As with
 | nil=>intro L; show mp L=mp L * 1; grind
 | cons A As ih =>
  intro L
  rw [P8,ih,tM]
  show _=mp L * (mp A * oZ As)
  grind
theorem fR (n) (As):mp (fQ n As)=(n:MP) * oZ As:=by unfold fQ; rw [BJ,lF]
theorem BK (h:As.Perm Bs):oZ As=oZ Bs:=by
 induction h with
 | nil=>rfl
 | cons x _ ih=>exact congrArg (mp x * ·) ih
 | swap x y l=>show mp y * (mp x * oZ l)=mp x * (mp y * oZ l); grind
 | trans _ _ a b=>rw [a,b]
theorem BL (As) (A):oZ (As++[A])=oZ As * mp A:=by
 induction As with
 | nil=>show mp A * 1=1 * mp A; grind
 | cons B As ih=>show mp B * oZ (As++[A])=mp B * oZ As * mp A; rw [ih]; grind
theorem yd (h:As.Perm Bs):bH As=bH Bs:=by
 unfold bH
 induction h with
 | nil=>rfl
 | cons x _ ih=>simp only [OA,Sa] at ih |-; rw [ih]
 | swap x y l=>simp only [OA,Sa]; rw [Nat.mul_left_comm]
 | trans _ _ a b=>rw [a,b]
theorem ye (As) (A):bH (As++[A])=bH As * max A.length 1:=by
 unfold bH
 induction As with
 | nil=>simp
 | cons B As ih=>simp only [Ra,OA,Sa] at ih |-; rw [ih,Nat.mul_assoc]
theorem BN (As):1<=bH As:=by
 unfold bH
 induction As with
 | nil=>exact Ot _
 | cons B As ih=>simp only [OA,Sa]; exact Rg (m₁:=1) (n₁:=1) (by lia) ih
theorem gQ (As) (i):bH (As.take i)<=bH As:=by
 induction As generalizing i with
 | nil=>simp
 | cons B As ih =>
  cases i with
  | zero=>exact BN _
  | succ i =>
   have:=ih i
   unfold bH at *
   simp only [List.take_succ_cons,OA,Sa]
   exact Nat.mul_le_mul_left _ this
def Ex (m:Int) (L:List aF):Prop:=∀ t∈L,t.1.length<=6/\∀ x∈t.1,0<=x/\x<=m
def Bn (m:Nat) (L:List aF):Prop:=∀ t∈L,t.2.natAbs<2 ^ m
theorem Ex.bd (h:Ex m L) (hm:m<2 ^ W):∀ t∈L,Bd (2 ^ W) t.1:=λt ht=>⟨(h t ht).1,λx hx=>⟨((h t ht).2 x hx).1,Tc ((h t ht).2 x hx).2 hm⟩⟩
theorem BO (h0:0<=m) (h:∀ x∈p,0<=x/\x<=m) (k):0<=bR p k/\bR p k<=m:=by
 by_cases z:k<p.length
 ·rw [dM z]; exact h _ (O9 _)
 ·rw [c7 (by lia)]; lia
theorem Ez (h0:0<=m) (g0:0<=n) (hp:p.length<=6/\∀ x∈p,0<=x/\x<=m) (hq:q.length<=6/\∀ x∈q,0<=x/\x<=n):(cJ p q).length<=6/\∀ x∈cJ p q,0<=x/\x<=m+n:=by
 refine ⟨by rw [jb]; lia,λx hx=>?_⟩
 unfold cJ at hx
 obtain ⟨k,_,rfl⟩:=O1.mp hx
 have:=BO h0 hp.2 k
 have:=BO g0 hq.2 k
 lia
theorem Ex.prod (h0:0<=m) (g0:0<=n) (h:Ex m A) (g:Ex n B):Ex (m+n) (aM A B):=λt ht=>by
 obtain ⟨l,hl,r,hr,rfl⟩:=gq ht
 exact Ez h0 g0 (h l hl) (g r hr)
theorem Ex.sum (h:Ex m L):Ex m (aL L):=by
 unfold aL
 suffices H:∀ (ts A:List aF),Ex m A->Ex m ts->Ex m (ts.foldl fC A) from H L [] (λt ht=>by cases ht) h
 intro ts
 induction ts with
 | nil=>exact λA hA _=>hA
 | cons u ts ih =>
  refine λA hA hts=>ih _ (λt ht=>?_) λt ht=>hts t (OJ _ ht)
  rcases rA ht with rfl | q
  ·have:=hts u OI
   exact ⟨OD (gm _) this.1,λx hx=>this.2 x (q9 hx)⟩
  ·exact hA t q
theorem Ex.mono (h:Ex m L) (hn:m<=n):Ex n L:=λt ht=>⟨(h t ht).1,λx hx=>⟨((h t ht).2 x hx).1,O2 ((h t ht).2 x hx).2 hn⟩⟩
theorem Ex.app (h:Ex m A) (g:Ex m B):Ex m (A++B):=λt ht=>(OZ.mp ht).elim (h t) (g t)
theorem Bn.mono (h:Bn m L) (hn:m<=n):Bn n L:=λt ht=>Ph (h t ht) (Uy (by decide) hn)
theorem Bn.prod (h:Bn m A) (g:Bn n B):Bn (m+n) (aM A B):=λt ht=>by
 obtain ⟨l,hl,r,hr,rfl⟩:=gq ht
 show (l.2 * r.2).natAbs<_
 rw [Int.natAbs_mul,Nat.pow_add]
 exact Nat.mul_lt_mul'' (h l hl) (g r hr)
theorem Bn.sum {m:Nat} {L:List aF} (h:Bn m L) (hl:L.length<2 ^ 20):Bn (m+20) (aL L):=λt ht=>by
 have:=Ic (m:=2 ^ m) (λt ht=>QD (h t ht)) t ht
 refine Qx this ?_
 rw [Nat.pow_add,TZ]
 exact Nat.mul_lt_mul_of_pos_left hl (Nat.two_pow_pos m)
theorem vW (h:a.natAbs<2 ^ m):PV a<=m+1:=by
 unfold PV
 by_cases z:a=0
 ·subst z; simp
 ·have e:(a == 0)=false:=by simpa using z
  rw [e,if_neg OC]
  have:=(Nat.log2_lt (n:=a.natAbs) (k:=m) (by lia)).mpr h
  lia
theorem o6 (h:a.natAbs<2 ^ m) (g:b.natAbs<2 ^ n) (hm:m+n<=1000000):EV.MulOk a b:=by
 have h1:=vW h
 have h2:=vW g
 unfold EV.MulOk IntMulOk Builtin.Int.intTooBig bitsLine
 have e:decide (((PV a+PV b:Nat):Int)>((2 ^ 27:Nat):Int))=false:=by
  apply decide_eq_false
  rw [show (2:Nat) ^ 27=134217728 by decide]
  lia
 simp only [R8]
 rintro ⟨_,z⟩
 have z':=of_decide_eq_true z
 rw [show (2:Nat) ^ 27=134217728 by decide] at z'
 lia
structure cH (A:List aF):Prop where
 l:A.length<=400000
 e:Ex 120 A
 b:Bn 2000 A
structure dO (p:Part):Prop where
 n:p.1.natAbs<2 ^ 2000
 m:p.2.length<=8
 f:∀ A∈p.2,cH A
structure ai (ps:List Part):Prop where
 p:∀ p∈ps,dO p
 l:ps.length<=1000
 s:(ps.map λp=>bH p.2).sum<=400000
theorem BP (A):0<=lS A:=FT _
theorem cH.mx (h:cH A):lS A<=120:=BH (by decide) λt ht x hx=>((h.e t ht).2 x hx).2
theorem cH.ex (h:cH A):Ex (lS A) A:=λt ht=>⟨(h.e t ht).1,λx hx=>⟨((h.e t ht).2 x hx).1,BI ht (h.e t ht).1 hx⟩⟩
noncomputable def pD (p:Part):Int:=(p.2.map lS).sum
theorem vX (As:List (List aF)):0<=(As.map lS).sum:=by
 induction As with
 | nil=>exact PR _
 | cons A As ih=>rw [OA,QB]; have:=BP A; lia
theorem dO.sz (h:dO p):pD p<=960:=by
 have:∀ As:List (List aF),(∀ A∈As,cH A)->(As.map lS).sum<=120 * As.length:=λAs=>by
  induction As with
  | nil=>exact λ_=>by simp
  | cons A As ih =>
   intro hA
   have:=ih λB hB=>hA B (OJ _ hB)
   have:=(hA A OI).mx
   rw [OA,QB,Pa]; lia
 have h1:=this p.2 h.f
 have h2:=h.m
 unfold pD
 lia
noncomputable def gy (ps:List Part):Int:=ps.foldl (λm p=>if pD p>m then pD p else m) 0
theorem nH (ps:List Part):∀ m:Int,m<=ps.foldl (λm p=>if pD p>m then pD p else m) m:=by
 induction ps with
 | nil=>exact λm=>PR _
 | cons p ps ih=>intro m; rw [P8]; refine O2 ?_ (ih _); split <;> lia
theorem EA (h:p∈ps):pD p<=gy ps:=by
 unfold gy
 suffices H:∀ m:Int,pD p<=ps.foldl (λm p=>if pD p>m then pD p else m) m from H 0
 induction ps with
 | nil=>cases h
 | cons q ps ih =>
  intro m
  rw [P8]
  rcases OM.mp h with rfl | h
  ·refine O2 ?_ (nH ps _)
   split <;> lia
  ·exact ih h _
theorem EB (h:∀ p∈ps,dO p):gy ps<=960:=by
 unfold gy
 suffices H:∀ m:Int,m<=960->ps.foldl (λm p=>if pD p>m then pD p else m) m<=960 from H 0 (by decide)
 induction ps with
 | nil=>exact λm hm=>hm
 | cons q ps ih =>
  intro m hm
  rw [P8]
  refine ih (λp hp=>h p (OJ _ hp)) _ ?_
  have:=(h q OI).sz
  split <;> lia
noncomputable def BQ (ps:List Part):Nat:=PV (gy ps)
theorem EC (h:∀ p∈ps,dO p):BQ ps<=10/\∀ p∈ps,pD p<2 ^ BQ ps:=by
 have h0:0<=gy ps:=nH ps 0
 have h1:=EB h
 exact ⟨bits_le (by lia),λp hp=>Tc (EA hp) (Ey h0)⟩
theorem jc (x:α) (xs):EV.cutD (x::xs) (some 1) none=xs:=by
 unfold EV.cutD HT.cy; simp
noncomputable def ED:Fn:=λds r=>∃ ps:List Part,(∀ p∈ps,dO p)/\ds=[.lst (ps.map gx)]/\r=.ok (.va (.int (BQ ps:Nat)))
theorem Lf (h:∀ p∈ps,dO p):ED [.lst (ps.map gx)] (.ok (.va (.int (BQ ps:Nat)))):=⟨ps,h,rfl,rfl⟩
section
local macro_rules | `(tactic| walk_at "evMt")=> `(tactic| with_reducible refine HK ?_)
local macro_rules | `(tactic| walk_at "evCa")=> `(tactic| first
 | ((with_reducible show aH _ (O5 (ON "max" _) [_] _ _) _ _); with_reducible refine HM (Txt.max (by assumption)) ?_)
 | ((with_reducible show aH _ (O5 (ON "max" _) [_,_] _ _) _ _); with_reducible refine AG (Txt.max (by assumption)) ?_)
 | ((with_reducible show aH _ (O5 (ON "sum" _) _ _ _) _ _); with_reducible refine HN (Txt.sum (by assumption)) ?_)
 | with_reducible refine aV (F:=oY) (by assumption) (by decide) ?_)
theorem ID (Fu:eG K "width_of" "width_of" (top 10) f fd) (T:Txt K mg) (h1:cU P w K mg base 1 "greatest_powers" oY):br P w K mg base (dD P w) 2 f fd ["parts"] (dS K ED):=by
 refine cB Fu rK (by rintro ds r ⟨ps,_,rfl,_⟩; rfl) (by rintro ds r ⟨ps,_,_,rfl⟩; exact ⟨_,rfl⟩) λc hq ds sl hF=>?_
 obtain ⟨ps,hp,rfl,e⟩:=hF
 injection e with e
 subst e
 show aG c _ [.va (.lst (ps.map gx)),.un,.un] _ _
 conv in (av _)=>whnf
 walk_at "ev"
 with_reducible refine dY hq (cM ?_)
 walk_at "ev"
 refine ⟨λi ρ'=>∃ s2:Sl,ρ'=[.va (.lst (ps.map gx)),.va (.int (gy (ps.take i))),s2],⟨_,rfl⟩,?_,?_⟩
 ·rintro c' rX Cr Cs i d ρ' hd ⟨s2,rfl⟩
  simp only [OE,OL] at hd
  obtain ⟨p,hpx,rfl⟩:=hd
  obtain ⟨hi,rfl⟩:=OH.mp hpx
  have hpo:=hp ps[i] (O9 hi)
  have eg:gy (ps.take (i+1))=if pD ps[i]>gy (ps.take i) then pD ps[i] else gy (ps.take i):=by
   unfold gy; rw [Px hi,US]; rfl
  generalize ps[i]=p at hpo eg |-
  show mR c' _ (.tup (.int p.1::p.2.map af)) _ _
  walk_at "ev"
  refine e_x (cW (show c'.X.xe=ji by rw [rX]; exact hq) (N':=["some"]) (ρ0:=λ_=>[.un]) (λt=>.un .nil) (cM ?_))
  walk_at "ev"
  ·rw [jc,Ox]; exact pC (by have:=hpo.m; lia)
  rw [jc]
  refine ⟨p.2.map λA=>some (.int (lS A)),by simp,?_,aJ ?_⟩
  ·intro c2 hc2 t j d o hd ho
   simp only [OE,OL] at hd ho
   obtain ⟨A,hA,rfl⟩:=hd
   obtain ⟨A',hA',rfl⟩:=ho
   rw [hA] at hA'; cases hA'
   have hf:=hpo.f A (Py hA)
   refine cV (by walk_at "at") (sI (by walk_at "sset") ⟨.un .nil,?_⟩)
   simp only [jo]
   refine ⟨λ_=>?_,λh=>by cases h⟩
   show aH c2 _ [.va (.lst (A.map aO))] _
   walk_at "ev"
   refine aj (Er λt ht=>(hf.e t ht).1) (aJ ⟨eB A,by simp [eB],rfl,λm ⟨m1,m2⟩=>?_⟩)
   rw [BF m1 m2]; rfl
  ·rw [cO]
   refine ⟨p.2.map lS,by rw [OQ]; rfl,?_⟩
   walk_at "ev"
   refine ⟨.va (gx p),?_⟩
   rw [eg]; rfl
 ·rintro ρ' ⟨s2,rfl⟩
  rw [Ox,Pn]
  walk_at "ev"
  rfl
end
end
section
variable {P:Program} {w:World} {K:Oo} {mg:Str->Option Value} {base:Heap}
theorem EE (x:α) (xs):kq (x::xs) 0=some x:=by rw [iV (by decide) (by simp)]; rfl
theorem IE (b):pk b []=0:=(i8 (g:=λ_=>0) λi _=>c7 (OV _)).trans (i9 _)
theorem FU (b n):(cT n).map (rN b)=[.tup [.int 0,.int n]]:=by show [D.tup [.int (pk b []),.int n]]=_; rw [IE]
theorem BR (xs:List α):EV.cutD xs none (some (-1))=xs.dropLast:=by
 unfold EV.cutD HT.cy
 rw [List.dropLast_eq_take]
 simp only [TM]
 congr 1
 split <;> lia
theorem EF (xs) (x:α):kq (xs++[x]) (-1)=some x:=by
 rw [uZ (by decide) (by simp; lia),show (-1+((xs++[x]).length:Int)).toNat=xs.length by simp; lia]
 simp
noncomputable def L1 (b:Int) (A:List aF):D:=.lst (A.map (rN b))
theorem BS {α β:Type} {f:α->β} {L:List α} {M:List β} (h:M.Perm (L.map f)):∃ L':List α,L'.Perm L/\M=L'.map f:=by
 have p:∀ L:List α,Paired (λa b=>b=f a) L (L.map f):=λL=>by
  induction L with
  | nil=>exact .nil
  | cons x L ih=>exact .cons rfl ih
 obtain ⟨L',h1,h2⟩:=SR.gi h (p L)
 refine ⟨L',h1,?_⟩
 clear h1 h p
 induction h2 with
 | nil=>rfl
 | cons r _ ih=>rw [r,ih]; rfl
theorem yf (C):(Jz C).pairs=some (C.map λc=>D.tup [.int c.1,.int c.2]):=by
 show some _=some _
 congr 1
 unfold cS
 rw [OQ,OQ,List.zipWith_map,List.zipWith_self]
 rfl
theorem yg (b) (L:List aF):(Jz (L.map (gp b))).pairs=some (L.map (rN b)):=by
 rw [yf,OQ]; rfl
theorem IF (b) (L:List aF):D.pA (L.map (rN b)):=dP λx _=>sO (by unfold D.pA; exact ⟨kL,by unfold D.pA; exact ⟨kL,by unfold D.pA; trivial⟩⟩)
structure Way (n:Int) (As:List (List aF)) (L:List aF):Prop where
 m:mp L=(n:MP) * oZ As
 l:L.length<=bH As
 e:Ex (As.map lS).sum L
 b:Bn (2000+2020 * As.length) L
theorem vY {n:Int} (h:n.natAbs<2 ^ 2000):Way n [] (cT n) where
 m:=by rw [lF]; show _=_ * (1:MP); grind
 l:=Ot _
 e:=λt ht=>by
  have:t=([],n):=by simpa [cT] using ht
  subst this
  exact ⟨OV _,λx hx=>by cases hx⟩
 b:=λt ht=>by
  have:t=([],n):=by simpa [cT] using ht
  subst this
  exact h
theorem tX:cH (cT 1) where
 l:=by show (1:Nat)<=_; lia
 e:=λt ht=>by
  have:t=([],1):=by simpa [cT] using ht
  subst this
  exact ⟨OV _,λx hx=>by cases hx⟩
 b:=λt ht=>by
  have:t=([],1):=by simpa [cT] using ht
  subst this
  exact Nat.one_lt_two_pow (by decide)
theorem yh (As) (A):((As++[A]).map lS).sum=(As.map lS).sum+lS A:=by
 rw [Pu,Rc]; simp
theorem gz {n:Int} {As:List (List aF)} {L A:List aF} (h:Way n As L) (f:cH A):mp (aM L A)=(n:MP) * oZ (As++[A])/\(aM L A).length<=bH (As++[A])/\Ex ((As++[A]).map lS).sum (aM L A)/\Bn (2000+2020 * As.length+2000) (aM L A):=by
 refine ⟨?_,?_,?_,h.b.prod f.b⟩
 ·rw [tM,h.m,BL]; grind
 ·rw [c8,ye]; exact Rg h.l (by lia)
 ·rw [yh]; exact Ex.prod (vX _) (BP _) h.e f.ex
theorem BU {n:Int} {As:List (List aF)} {L A:List aF} (h:Way n As L) (f:cH A) (hl:bH (As++[A])<=400000):Way n (As++[A]) (aL (aM L A)):=by
 obtain ⟨h1,h2,h3,h4⟩:=gz h f
 refine ⟨by rw [Ii,h1],OD (gJ _) h2,h3.sum,(h4.sum (Qx (OD h2 hl) (by decide))).mono ?_⟩
 rw [O7,Rz]; lia
theorem BV {As Bs:List (List aF)} (h:As.Perm Bs):(As.map lS).sum=(Bs.map lS).sum:=by
 induction h with
 | nil=>rfl
 | cons x _ ih=>rw [OA,QB,OA,QB,ih]
 | swap x y l=>simp only [OA,QB]; lia
 | trans _ _ a b=>rw [a,b]
theorem BW (As:List (List aF)) (i):((As.take i).map lS).sum<=(As.map lS).sum:=by
 have e:(As.map lS).sum=((As.take i).map lS).sum+((As.drop i).map lS).sum:=by rw [<- Rc,<- Pu,Qk]
 have:=vX (As.drop i)
 lia
noncomputable def tY:LV:=λkvs ds Z=>∃ (ts:List aF) (p:Part) (W:Nat),W<=10/\dO p/\pD p<2 ^ W/\ts.length+bH p.2<=400000/\(∀ t∈ts,Bd (2 ^ W) t.1)/\kvs=cS ((aL ts).map (gp (2 ^ W)))/\ds=[gx p,.int (W:Nat)] /\
 Z=λkvs'=>∃ X,mp X=mp (fQ p.1 p.2)/\X.length<=bH p.2/\(∀ t∈X,Bd (2 ^ W) t.1)/\kvs'=cS ((aL (ts++X)).map (gp (2 ^ W)))
section
local macro_rules | `(tactic| walk_at "evX")=> `(tactic| first | ((with_reducible show dF _ (Expr.Dict _ _ _) _ _); with_reducible refine uQ ?_))
local macro_rules | `(tactic| walk_at "evXC")=> `(tactic| first
 | ((with_reducible show dF _ (O5 (ON "sorted" _) _ _ _) _ _); with_reducible refine xN (Txt.sorted (by assumption)) (Txt.len (by assumption)) ?_)
 | ((with_reducible show dF _ (O5 (ON "list" _) [O5 _ _ _ _] _ _) _ _); refine sQ 6 (by walk_at "at") rfl (by walk_at "sset") (rE (Txt.list (by assumption)) ?_)))
local macro_rules | `(tactic| walk_at "evXp")=> `(tactic| with_reducible refine vA (F:=Iz) (by assumption) (by decide) (by walk_at "at") (by walk_at "at") (by walk_at "own") ?_)
theorem BX (Fu:eG K "add_part" "add_part" (top 11) f fd) (T:Txt K mg) (h1:cU P w K mg base 2 "packed" vU) (h2:DQ P w K mg base 1 "add_products" Iz):br P w K mg base (dD P w) 3 f fd ["whole","part","width"] (HJ K tY):=by
 refine KZ Fu rL (by rintro kvs ds Z ⟨ts,p,W,_,_,_,_,_,_,rfl,_⟩; rfl) λc hq q kvs ds Z hF=>?_
 obtain ⟨ts,p,W,hW,hp,hsz,hl,hb,rfl,rfl,rfl⟩:=hF
 show aG c _ [.aK q (cS ((aL ts).map (gp (2 ^ W)))),.va (.tup (.int p.1::p.2.map af)),.va (.int (W:Nat)),.un,.un,.un,.un] _ _
 conv in (av _)=>whnf
 walk_at "ev"
 refine e_x (cW hq (N':=["some","width"]) (ρ0:=λ_=>[.un,.va (.int (W:Nat))]) (λt=>.un (.fr (by walk_at "at") (by walk_at "at") (by decide) rfl .nil)) (cM ?_))
 walk_at "ev"
 ·rw [jc,Ox]; exact pC (by have:=hp.m; lia)
 rw [jc]
 refine ⟨p.2.map λA=>some (L1 (2 ^ W) A),by simp,?_,aJ ?_⟩
 ·intro c2 hc2 t j d o hd ho
  simp only [OE,OL] at hd ho
  obtain ⟨A,hA,rfl⟩:=hd
  obtain ⟨A',hA',rfl⟩:=ho
  rw [hA] at hA'; cases hA'
  have hm:=Py hA
  have hf:=hp.f A hm
  refine cV (by walk_at "at") (sI (by walk_at "sset") ⟨.un (.same .nil),?_⟩)
  simp only [jo]
  refine ⟨λ_=>?_,λh=>by cases h⟩
  show aH c2 _ [.va (.lst (A.map aO)),_] _
  refine aV (F:=vU) h1 (by decide) ?_
  walk_at "ev"
  have hx:lS A<2 ^ W:=by
   refine Tc ?_ hsz
   obtain ⟨l,r,e⟩:=List.append_of_mem hm
   unfold pD
   rw [e,Pu,OA,Rc,QB]
   have:=vX l
   have:=vX r
   lia
  exact aj (Iw hW hf.l (hf.ex.bd hx)) (aJ rfl)
 rw [cO]
 refine ⟨_,rfl,λx hx=>by obtain ⟨A,_,rfl⟩:=O1.mp hx; exact ⟨_,rfl⟩,λds' hp'=>?_⟩
 obtain ⟨As,hpm,rfl⟩:=BS hp'
 have yt:∀ A∈As,cH A:=λA hA=>hp.f A (hpm.mem_iff.mp hA)
 have hpl:=yd hpm
 have hps:=BV hpm
 have hlen:=hpm.length_eq
 refine sI (by walk_at "sset") ?_
 with_reducible refine eX 3 (by walk_at "at") rfl (by walk_at "sset") ?_
 walk_at "ev"
 refine mV (EE _ _) ?_
 walk_at "ev"
 with_reducible refine KD 4 (by walk_at "at") rfl (by walk_at "sset") ?_
 rw [<- FU (2 ^ W) p.1]
 with_reducible refine dY hq (cM ?_)
 walk_at "ev"
 rw [BR]
 have hcap:∀ i,bH (As.take i)<=400000:=λi=>OD (gQ As i) (by lia)
 have hm8:As.length<=8:=by rw [hlen]; exact hp.m
 have Ma:∀ (i:Nat) (L A:List aF),As[i]?=some A->Way p.1 (As.take i) L->cH A/\As.take (i+1)=As.take i++[A]/\mp (aM L A)=(p.1:MP) * oZ (As.take (i+1))/\(aM L A).length<=bH (As.take (i+1))/\(∀ l∈L,∀ r∈A,Bd (2 ^ W) (cJ l.1 r.1)/\EV.MulOk l.2 r.2)/\L.length<=400000:=λi L A hA hw=>by
  obtain ⟨hi,rfl⟩:=OH.mp hA
  have hf:=yt As[i] (O9 hi)
  have et:As.take (i+1)=As.take i++[As[i]]:=Px hi
  obtain ⟨q1,q2,q3,q4⟩:=gz hw hf
  rw [<- et] at q1 q2 q3
  refine ⟨hf,et,q1,q2,λl hl r hr=>⟨?_,?_⟩,OD hw.l (hcap i)⟩
  ·have hm:dN l r∈aM L As[i]:=Tj.mpr ⟨l,hl,O1.mpr ⟨r,hr,rfl⟩⟩
   have hx:=BW As (i+1)
   exact q3.bd (by unfold pD at hsz; lia) _ hm
  ·refine o6 (hw.b l hl) (hf.b r hr) ?_
   rw [Pp]; lia
 refine ⟨λi ρ'=>∃ (L:List aF) (s5 s6:Sl),Way p.1 (As.take i) L/\ρ'=[.aK q (cS ((aL ts).map (gp (2 ^ W)))),.va (.tup (.int p.1::p.2.map af)),.va (.int (W:Nat)),.va (.lst (As.map (L1 (2 ^ W)))),.va (.lst (L.map (rN (2 ^ W)))),s5,s6],⟨_,_,_,vY hp.n,rfl⟩,?_,?_⟩
 ·rintro c' rX Cr Cs i d ρ' hd ⟨L,s5,s6,hw,rfl⟩
  rw [<- List.map_dropLast] at hd
  simp only [OE,OL] at hd
  obtain ⟨A,hA,rfl⟩:=hd
  rw [List.getElem?_dropLast] at hA
  replace hA:As[i]?=some A:=by
   split at hA
   ·exact hA
   ·cases hA
  obtain ⟨hf,et,q1,q2,q3,q4⟩:=Ma i L A hA hw
  have q5:=hcap (i+1)
  have q6:=BU hw hf (by rw [<- et]; exact q5)
  rw [<- et] at q6
  show mR c' _ (.lst (A.map (rN (2 ^ W)))) _ _
  walk_at "ev"
  refine ⟨_,⟨[],L,A,W,hW,by rw [c8] at q2; show 0+_<=_; lia,q4,hf.l,(by intro t ht; cases ht),q3,rfl,rfl,rfl⟩,?_⟩
  rintro kvs' rfl
  walk_at "ev"
  refine ⟨_,yg _ _,IF _ _,?_⟩
  repeat ((fail_if_success (with_reducible show aG _ [] _ _ _)); walk_at "ev1")
  with_reducible refine eX 4 (by walk_at "at") rfl (by walk_at "sset") ?_
  walk_at "ev"
  exact ⟨_,_,_,q6,rfl⟩
 ·rintro ρ' ⟨L,s5,s6,hw,rfl⟩
  rw [List.length_dropLast,Ox] at hw
  walk_at "ev"
  ·have hne:As≠[]:=by rintro rfl; simp at *
   obtain ⟨i0,A,e0⟩:∃ i0 A,As=i0++[A]:=⟨As.dropLast,As.getLast hne,(List.dropLast_concat_getLast hne).symm⟩
   have ei:As.length - 1=i0.length:=by rw [e0]; simp
   have hA:As[As.length - 1]?=some A:=by rw [ei,e0]; simp
   have etl:As.take (As.length - 1+1)=As:=QI (by lia)
   obtain ⟨hf,et,q1,q2,q3,q4⟩:=Ma _ L A hA hw
   rw [etl] at q1 q2
   refine zA (show kq (As.map (L1 (2 ^ W))) (-1)=some (L1 (2 ^ W) A) by rw [e0,Pu]; exact EF _ _) ?_
   walk_at "ev"
   refine ⟨_,⟨ts,L,A,W,hW,by rw [c8] at q2; lia,q4,hf.l,hb,q3,rfl,rfl,rfl⟩,?_⟩
   rintro kvs' rfl
   walk_at "ev"
   refine ⟨_,_,⟨aM L A,by rw [q1,fR,BK hpm],by rw [<- hpl]; exact q2,λt ht=>?_,rfl⟩,rfl⟩
   obtain ⟨l,hl,r,hr,rfl⟩:=gq ht
   exact (q3 l hl r hr).1
  ·have e0:As=[]:=by
    cases As with
    | nil=>rfl
    | cons A As=>simp at *
   have hw0:Way p.1 [] L:=by rw [e0] at hw; exact hw
   have p0:p.2=[]:=List.length_eq_zero_iff.mp (by rw [<- hlen,e0]; rfl)
   obtain ⟨q1,q2,q3,q4⟩:=gz hw0 tX
   have hL:L.length<=1:=hw0.l
   have q5:(aM L (cT 1)).length<=1:=q2
   have h0W:(0:Int)<2 ^ W:=two_pos W
   have hx:(([]++[cT 1]:List (List aF)).map lS).sum<2 ^ W:=h0W
   have hp1:bH p.2=1:=by rw [p0]; rfl
   rw [<- FU (2 ^ W) 1]
   refine ⟨_,⟨ts,L,cT 1,W,hW,by rw [c8] at q5; lia,by lia,tX.l,hb,λl hl r hr=>⟨?_,?_⟩,rfl,rfl,rfl⟩,?_⟩
   ·exact q3.bd hx _ (Tj.mpr ⟨l,hl,O1.mpr ⟨r,hr,rfl⟩⟩)
   ·exact o6 (hw0.b l hl) (tX.b r hr) (by show 2000+2020 * 0+2000<=_; lia)
   rintro kvs' rfl
   walk_at "ev"
   refine ⟨_,_,⟨aM L (cT 1),?_,by rw [hp1]; exact q5,q3.bd hx,rfl⟩,rfl⟩
   rw [q1,fR,p0]
   show _ * (mp (cT 1) * 1)=_ * (1:MP)
   rw [lF]
   show _ * ((1:MP) * 1)=_ * (1:MP)
   grind
end
end
section
variable {K:Oo}
theorem rP (ps) (p:Part):mp (cK (ps++[p]))=mp (cK ps)+mp (fQ p.1 p.2):=by
 unfold cK
 rw [List.flatMap_append,jB]
 congr 1
 rw [RK,U1,PD]
theorem rQ (l:List Nat) (i):(l.take i).sum<=l.sum:=by
 rw [<- Qk i l,Rc,Qk]; lia
noncomputable def jd:Fn:=λds r=>∃ ps:List Part,ai ps/\ds=[.lst (ps.map gx)]/\r=.ok (.ow ((bg (cK ps)).map aO))
theorem b9 (h:ai ps):jd [.lst (ps.map gx)] (.ok (.ow ((bg (cK ps)).map aO))):=⟨ps,h,rfl,rfl⟩
section
local macro_rules | `(tactic| walk_at "evX")=> `(tactic| first | ((with_reducible show dF _ (Expr.Dict _ _ _) _ _); with_reducible refine uQ ?_))
local macro_rules | `(tactic| walk_at "evCa")=> `(tactic| first | with_reducible refine aV (F:=ED) (by assumption) (by decide) ?_)
local macro_rules | `(tactic| walk_at "evXp")=> `(tactic| with_reducible refine vA (F:=tY) (by assumption) (by decide) (by walk_at "at") (by walk_at "at") (by walk_at "own") ?_)
local macro_rules | `(tactic| walk_at "evXC")=> `(tactic| first | ((with_reducible show dF _ (O5 (ON "unpacked" _) _ _ _) _ _); refine sQ 2 (by walk_at "at") rfl (by walk_at "sset") (x_call (F:=Ew) (by assumption) (by decide) ?_)))
theorem IG (Fu:eG K "poly_total" "poly_total" (top 12) f fd) (T:Txt K mg) (h1:cU P w K mg base 2 "width_of" ED) (h2:DQ P w K mg base 3 "add_part" tY) (h3:cU P w K mg base 3 "unpacked" Ew):br P w K mg base (dD P w) 4 f fd ["parts"] (dS K jd):=by
 refine cB Fu l6 (by rintro ds r ⟨ps,_,rfl,_⟩; rfl) (by rintro ds r ⟨ps,_,_,rfl⟩; exact ⟨_,rfl⟩) λc hq ds sl hF=>?_
 obtain ⟨ps,h,rfl,e⟩:=hF
 injection e with e
 subst e
 show aG c _ [.va (.lst (ps.map gx)),.un,.un,.un] _ _
 conv in (av _)=>whnf
 obtain ⟨hW,hsz⟩:=EC h.p
 walk_at "ev"
 refine aj (Lf h.p) ?_
 walk_at "ev"
 generalize BQ ps=W at hW hsz |-
 with_reducible refine dY hq (cM ?_)
 walk_at "ev"
 refine ⟨λi ρ'=>∃ (ts:List aF) (s3:Sl),mp ts=mp (cK (ps.take i))/\ts.length<=((ps.take i).map λp=>bH p.2).sum/\(∀ t∈ts,Bd (2 ^ W) t.1)/\ρ'=[.va (.lst (ps.map gx)),.va (.int (W:Nat)),.oK (cS ((aL ts).map (gp (2 ^ W)))),s3],⟨[],_,rfl,Ot _,(by intro t ht; cases ht),rfl⟩,?_,?_⟩
 ·rintro c' rX Cr Cs i d ρ' hd ⟨ts,s3,hm,hl,hb,rfl⟩
  simp only [OE,OL] at hd
  obtain ⟨p,hpx,rfl⟩:=hd
  obtain ⟨hi,rfl⟩:=OH.mp hpx
  have et:ps.take (i+1)=ps.take i++[ps[i]]:=Px hi
  have hmem:ps[i]∈ps:=O9 hi
  have hcap:((ps.take (i+1)).map λp=>bH p.2).sum<=400000:=by rw [List.map_take]; exact OD (rQ _ _) h.s
  have ec:((ps.take (i+1)).map λp=>bH p.2).sum=((ps.take i).map λp=>bH p.2).sum+bH ps[i].2:=by rw [et,Pu,Rc]; simp
  rw [ec] at hcap
  walk_at "ev"
  refine ⟨_,⟨ts,ps[i],W,hW,h.p _ hmem,hsz _ hmem,by lia,hb,rfl,rfl,rfl⟩,?_⟩
  rintro kvs' ⟨X,x1,x2,x3,rfl⟩
  walk_at "ev"
  refine ⟨ts++X,.va (gx ps[i]),?_,?_,λt ht=>(OZ.mp ht).elim (hb t) (x3 t),rfl⟩
  ·rw [jB,hm,x1,et,rP]
  ·rw [ec,O7]; lia
 ·rintro ρ' ⟨ts,s3,hm,hl,hb,rfl⟩
  rw [Ox,Pn] at hm hl
  walk_at "ev"
  refine aj (Le (ts:=ts) hW (by have:=h.s; lia) hb) ⟨dP λx _=>jF x,?_⟩
  show Sl.ow _=Sl.ow _
  rw [cE hm]
end
end
section
variable {K:Oo}
theorem Ex.lJ (h:Ex m L):Ex m (bg L):=λt ht=>Ex.sum h t (qV ht).1
theorem Bn.lJ {m:Nat} {L:List aF} (h:Bn m L) (hl:L.length<2 ^ 20):Bn (m+20) (bg L):=λt ht=>Bn.sum h hl t (qV ht).1
noncomputable def dH (As:List (List aF)):List aF:=As.foldl (λL A=>bg (aM L A)) [([],1)]
theorem nI (As) (A):dH (As++[A])=bg (aM (dH As) A):=by simp [dH]
theorem BY {n:Int} {As:List (List aF)} {L A:List aF} (h:Way n As L) (f:cH A) (hl:bH (As++[A])<=400000):Way n (As++[A]) (bg (aM L A)):=by
 obtain ⟨h1,h2,h3,h4⟩:=gz h f
 refine ⟨by rw [vM,h1],OD (lz _) h2,h3.lJ,(h4.lJ (Qx (OD h2 hl) (by decide))).mono ?_⟩
 rw [O7,Rz]; lia
theorem fE {As:List (List aF)} (hf:∀ A∈As,cH A) (hl:bH As<=400000):∀ i,i<=As.length->Way 1 (As.take i) (dH (As.take i))
 | 0,_=>vY (by decide)
 | i+1,hi=>by
  rw [Px hi,nI]
  refine BY (fE hf hl i (by lia)) (hf _ (O9 hi)) ?_
  rw [<- Px hi]
  exact OD (gQ _ _) hl
noncomputable def EG:Fn:=λds r=>∃ As:List (List aF),As.length<=8/\(∀ A∈As,cH A)/\bH As<=400000/\ds=[.lst (As.map af)]/\r=.ok (.ow ((dH As).map aO))
theorem Lg {As:List (List aF)} (h:As.length<=8) (hf:∀ A∈As,cH A) (hl:bH As<=400000):EG [.lst (As.map af)] (.ok (.ow ((dH As).map aO))):=⟨As,h,hf,hl,rfl,rfl⟩
theorem je (n):(p9 0 n).length=n:=by simp [p9]
theorem jG (L) (t):L.map aO++[aO t]=(L++[t]).map aO:=by rw [Pu]; rfl
theorem yi (n):(OB n [D.int 0]).flatten=(OB n (0:Int)).map D.int:=by
 induction n with
 | zero=>rfl
 | succ n ih=>rw [Qg,QK,ih,Qg]; rfl
theorem BZ (h:k<n) (hp:p.length<=n):kq (p.map D.int++(OB (n - p.length) [D.int 0]).flatten) (k:Int)=some (.int (bR p k)):=by
 rw [yi,<- Pu,iV (by lia) (by simp; lia),O0,OE]
 by_cases z:k<p.length
 ·rw [QG z,OR z,dM z]; rfl
 ·rw [Rv (by lia),Um,if_pos (by lia),c7 (by lia)]; rfl
theorem vZ {p:List Int} {n:Nat}:((n:Int) - ((p.map D.int).length:Int)).toNat=n - p.length:=by rw [Ox]; lia
section
local macro_rules | `(tactic| walk_at "evBo")=> `(tactic| first | ((with_reducible show aH _ (RY (Ss _ _ _) TR _ _) _ _); with_reducible refine AQ ?_))
local macro_rules | `(tactic| walk_at "evCa")=> `(tactic| first
 | ((with_reducible show aH _ (O5 (ON "max" _) [_,_] _ _) _ _); with_reducible refine AG (Txt.max (by assumption)) ?_))
theorem II (Fu:eG K "_law_product" "_law_product" (top 36) f fd) (T:Txt K mg) (h1:cU P w K mg base 1 "_law_plain" jV):br P w K mg base (dD P w) 2 f fd ["_law_factors"] (dS K EG):=by
 refine cB Fu oW (by rintro ds r ⟨As,_,_,_,rfl,_⟩; rfl) (by rintro ds r ⟨As,_,_,_,_,rfl⟩; exact ⟨_,rfl⟩) λc hq ds sl hF=>?_
 obtain ⟨As,h8,hf,hl,rfl,e⟩:=hF
 injection e with e
 subst e
 show aG c _ [.va (.lst (As.map af)),.un,.un,.un,.un,.un,.un,.un,.un,.un,.un] _ _
 conv in (av _)=>whnf
 walk_at "ev"
 show fS c _ [.va (.lst (As.map af)),.ow ((dH (As.take 0)).map aO),.un,.un,.un,.un,.un,.un,.un,.un,.un] _ _
 with_reducible refine dY hq (cM ?_)
 walk_at "ev"
 refine ⟨λi ρ'=>∃ s2 s3 s4 s5 s6 s7 s8 s9 s10:Sl,ρ'=[.va (.lst (As.map af)),.ow ((dH (As.take i)).map aO),s2,s3,s4,s5,s6,s7,s8,s9,s10],⟨_,_,_,_,_,_,_,_,_,rfl⟩,?_,?_⟩
 ·rintro c' rX Cr Cs i d ρ' hd ⟨s2,s3,s4,s5,s6,s7,s8,s9,s10,rfl⟩
  simp only [OE,OL] at hd
  obtain ⟨B,hBx,rfl⟩:=hd
  obtain ⟨hi,rfl⟩:=OH.mp hBx
  have hq':c'.X.xe=λ_ _=>False:=by rw [rX]; exact hq
  have hfB:=hf _ (O9 hi)
  have hw:=fE hf hl i (by omega)
  have hp2:bH (As.take i++[As[i]])<=400000:=by
   rw [<- Px hi]; exact OD (gQ _ _) hl
  have hlp:(dH (As.take i)).length * As[i].length<=400000:=by
   have:=(gz hw hfB).2.1
   rw [c8] at this; omega
  have eN:dH (As.take (i+1))=bg (aM (dH (As.take i)) As[i]):=by rw [Px hi,nI]
  have hAl:(dH (As.take i)).length<=400000:=OD hw.l (OD (gQ _ _) hl)
  have hA6:∀ t∈dH (As.take i),t.1.length<=6:=λt ht=>(hw.e t ht).1
  have hAb:Bn 20000 (dH (As.take i)):=hw.b.mono (by rw [Pp]; omega)
  generalize dH (As.take i)=A at hlp eN hAl hA6 hAb |-
  generalize As[i]=B at hfB hlp eN |-
  clear hw hp2 hBx
  refine cV (by walk_at "at") (sI (by walk_at "sset") ?_)
  refine eX 1 (by walk_at "at") rfl (by walk_at "sset") ?_
  walk_at "ev"
  show fS c' _ [_,_,_,.ow ((aM (A.take 0) B).map aO),_,_,_,_,_,_,_] _ _
  with_reducible refine dY hq' (cM ?_)
  walk_at "ev"
  refine ⟨λi ρ'=>∃ s4 s5 s6 s7 s8 s9 s10:Sl,ρ'=[.va (.lst (As.map af)),.va (.lst (A.map aO)),.va (af B),.ow ((aM (A.take i) B).map aO),s4,s5,s6,s7,s8,s9,s10],⟨_,_,_,_,_,_,_,rfl⟩,?_,?_⟩
  ·rintro c1 hcX1 hcR1 hcM1 i1 d ρ' hd ⟨s4,s5,s6,s7,s8,s9,s10,rfl⟩
   simp only [OE,OL] at hd
   obtain ⟨l,hlx,rfl⟩:=hd
   obtain ⟨hi1,rfl⟩:=OH.mp hlx
   have hq1:c1.X.xe=λ_ _=>False:=by rw [hcX1]; exact hq'
   have h6:=hA6 A[i1] (O9 hi1)
   have hlb:=hAb A[i1] (O9 hi1)
   have e0:aM (A.take (i1+1)) B=aM (A.take i1) B++B.map (dN A[i1]):=by
    rw [Px hi1,nF]
   have hlen:(aM (A.take i1) B).length+B.length<=400000:=by
    rw [c8,Pp,RN (by omega),<- RP]
    exact OD (Nat.mul_le_mul_right _ (by omega)) hlp
   generalize A[i1]=l at h6 hlb e0 |-
   generalize aM (A.take i1) B=ts at e0 hlen |-
   show mR c1 _ (.tup [.tup (l.1.map .int),.int l.2]) _ _
   walk_at "ev"
   with_reducible refine dY hq1 (cM ?_)
   refine mS (by walk_at "at") (by walk_at "at") ?_
   refine zP (ds:=B.map aO) rfl ?_
   refine ⟨λj ρ'=>∃ s6 s7 s8 s9 s10:Sl,ρ'=[.va (.lst (As.map af)),.va (.lst (A.map aO)),.va (af B),.ow ((ts++(B.take j).map (dN l)).map aO),.va (.tup (l.1.map .int)),.va (.int l.2),s6,s7,s8,s9,s10],⟨s6,s7,s8,s9,s10,by simp⟩,?_,?_⟩
   ·rintro c2 hcX2 hcR2 hcM2 j d ρ' hd ⟨s6,s7,s8,s9,s10,rfl⟩
    simp only [OE,OL] at hd
    obtain ⟨r,hrx,rfl⟩:=hd
    obtain ⟨hj,rfl⟩:=OH.mp hrx
    have h6r:=(hfB.e B[j] (O9 hj)).1
    have hrb:=hfB.b B[j] (O9 hj)
    have hq2:c2.X.xe=λ_ _=>False:=by rw [hcX2]; exact hq1
    have e1:ts++(B.take (j+1)).map (dN l)=(ts++(B.take j).map (dN l))++[dN l B[j]]:=by
     rw [Px hj,Pu,OY]; rfl
    have hlen2:((ts++(B.take j).map (dN l)).map aO).length<sizeLine:=jE (by
     rw [Ox,O7,Ox,Pp]; omega)
    generalize ts++(B.take j).map (dN l)=us at e1 hlen2 |-
    generalize B[j]=r at h6r hrb e1 |-
    show mR c2 _ (.tup [.tup (r.1.map .int),.int r.2]) _ _
    generalize hG:(λρ'=>aG c2 _ ρ' _ _)=G
    walk_at "ev"
    subst hG
    refine ay ?_
    generalize hG:(λρ'=>aG c2 _ ρ' _ _)=G
    walk_at "ev"
    have ew:(if ((r.1.map D.int).length:Int)>((l.1.map D.int).length:Int) then ((r.1.map D.int).length:Int) else ((l.1.map D.int).length:Int))=((max l.1.length r.1.length:Nat):Int):=by simp only [Ox]; split <;> omega
    rw [ew]
    have hw6:max l.1.length r.1.length<=6:=by omega
    generalize hwd:max l.1.length r.1.length=wd at hw6 |-
    subst hG
    refine ay ?_
    generalize hG:(λρ'=>aG c2 _ ρ' _ _)=G
    walk_at "ev"
    refine ⟨_,_,rfl,rfl,⟨⟨by simp,by rw [Ox]; omega,by rw [Ox]; omega,by rw [vZ]; exact pC (by simp; omega)⟩,?_⟩⟩
    rw [vZ]
    walk_at "ev"
    ·exact pC (by simp; omega)
    subst hG
    refine ay ?_
    generalize hG:(λρ'=>aG c2 _ ρ' _ _)=G
    walk_at "ev"
    refine ⟨_,_,rfl,rfl,⟨⟨by simp,by rw [Ox]; omega,by rw [Ox]; omega,by rw [vZ]; exact pC (by simp; omega)⟩,?_⟩⟩
    rw [vZ]
    walk_at "ev"
    ·exact pC (by simp; omega)
    subst hG
    refine ay ?_
    with_reducible refine sJ (by walk_at "at") (by walk_at "at") (by walk_at "own") ?_
    refine jK (bx (jZ (Txt.tuple T) (e_x (cW hq2 (N':=["_law_k","_law_one","_law_two"]) (ρ0:=λ_=>[.un,.va (.tup (l.1.map .int++(OB (wd - l.1.length) [D.int 0]).flatten)),.va (.tup (r.1.map .int++(OB (wd - r.1.length) [D.int 0]).flatten))]) (λt=>.un (.fr (by walk_at "at") (by walk_at "at") (by decide) rfl (.fr (by walk_at "at") (by walk_at "at") (by decide) rfl .nil))) (iP (Txt.range T) ?_)))) ?_)
    case refine_2=>intro _; walk_at "u"
    walk_at "ev"
    ·exact ⟨by omega,by omega⟩
    ·rw [je]; exact pC (by omega)
    refine ⟨(Pd wd).map λk=>some (.int (bR l.1 k+bR r.1 k)),by simp [je],?_,?_⟩
    ·intro c3 hc3 t k d o hd ho
     rw [O0] at hd
     obtain ⟨hk,rfl⟩:=oh hd
     rw [OE,RE hk] at ho
     cases ho
     refine cV (by walk_at "at") (sI (by walk_at "sset") ⟨.un (.same (.same .nil)),?_⟩)
     simp only [jo]
     refine ⟨λ_=>?_,λh=>by cases h⟩
     walk_at "ev"
     refine mV (BZ (p:=l.1) hk (by omega)) ?_
     walk_at "ev"
     refine mV (BZ (p:=r.1) hk (by omega)) ?_
     walk_at "ev"
     rfl
    ·rw [cO (λk=>D.int (bR l.1 k+bR r.1 k)),show (Pd wd).map (λk=>D.int (bR l.1 k+bR r.1 k))=(cJ l.1 r.1).map D.int by rw [<- hwd]; unfold cJ; rw [OQ]; rfl]
     walk_at "ev"
     ·exact o6 hlb hrb (by decide)
     show ∃ s6 s7 s8 s9 s10:Sl,_=[_,_,_,.ow ((ts++(B.take (j+1)).map (dN l)).map aO),_,_,s6,s7,s8,s9,s10]
     rw [e1,<- jG]
     exact ⟨_,_,_,_,_,rfl⟩
   ·rintro ρ' ⟨s6,s7,s8,s9,s10,rfl⟩
    rw [Ox,Pn,<- e0]
    walk_at "ev"
    exact ⟨_,_,_,_,_,_,_,rfl⟩
  ·rintro ρ' ⟨s4,s5,s6,s7,s8,s9,s10,rfl⟩
   rw [Ox,Pn]
   refine ay (zm (by walk_at "at") (uY 3 (by walk_at "at") rfl (by walk_at "sset") (x_call (F:=jV) h1 (by decide) ?_)))
   walk_at "ev"
   refine aj (lI (by rw [c8]; exact hlp) λt ht=>?_) ⟨dP λx _=>jF x,?_⟩
   ·obtain ⟨l,hl,r,hr,rfl⟩:=gq ht
    show (cJ l.1 r.1).length<=64
    have:=hA6 l hl
    have:=(hfB.e r hr).1
    rw [jb]; omega
   walk_at "ev"
   show ∃ s2 s3 s4 s5 s6 s7 s8 s9 s10:Sl,_=[_,.ow ((dH (As.take (i+1))).map aO),s2,s3,s4,s5,s6,s7,s8,s9,s10]
   rw [eN]
   exact ⟨_,_,_,_,_,_,_,_,_,rfl⟩
 ·rintro ρ' ⟨s2,s3,s4,s5,s6,s7,s8,s9,s10,rfl⟩
  rw [Ox,Pn]
  walk_at "ev"
  rfl
end
end
section
variable {P:Program} {w:World} {K:Oo} {mg:Str->Option Value} {base:Heap}
noncomputable def lK (n:Int) (t:aF):aF:=(t.1,n * t.2)
theorem lE (p):cJ [] p=p:=by
 unfold cJ
 refine To (by simp) λi h1 h2=>?_
 rw [U0,UI]
 simp [bR,OR h2]
theorem IJ (n:Int) (A:List aF):mp (A.map (lK n))=(n:MP) * mp A:=by
 rw [<- lF,<- tM]
 refine congrArg mp ?_
 unfold aM cT
 rw [RK,U1,PD]
 refine Qv λt _=>?_
 unfold lK dN
 rw [lE]
noncomputable def jf (p:Part):D:=.tup [.int p.1,.lst (p.2.map af)]
noncomputable def fT (ps:List Part):List aF:=ps.flatMap λp=>(dH p.2).map (lK p.1)
theorem yj (ps) (p:Part):fT (ps++[p])=fT ps++(dH p.2).map (lK p.1):=by simp [fT]
theorem EH {As:List (List aF)} (hf:∀ A∈As,cH A) (hl:bH As<=400000):mp (dH As)=oZ As:=by
 have h:=(fE hf hl As.length (Ot _)).m
 rw [Pn] at h
 rw [h]; grind
theorem EI {ps:List Part} (hp:p∈ps):bH p.2<=(ps.map λp=>bH p.2).sum:=by
 induction ps with
 | nil=>cases hp
 | cons q ps ih =>
  rw [OA,QB]
  rcases OM.mp hp with rfl | h
  ·exact Qs _ _
  ·exact OD (ih h) (Nat.le_add_left _ _)
theorem EJ {ps:List Part} (h:∀ p∈ps,dO p/\bH p.2<=400000):mp (fT ps)=mp (cK ps):=by
 induction ps with
 | nil=>rfl
 | cons p ps ih =>
  have hp:=h p OI
  have e1:fT (p::ps)=(dH p.2).map (lK p.1)++fT ps:=rfl
  have e2:cK (p::ps)=fQ p.1 p.2++cK ps:=rfl
  rw [e1,e2,jB,jB,ih λq hq=>h q (OJ _ hq),IJ,EH hp.1.f hp.2,fR]
theorem rR {ps:List Part} (h:∀ p∈ps,dO p/\bH p.2<=400000):(fT ps).length<=(ps.map λp=>bH p.2).sum:=by
 induction ps with
 | nil=>exact Ot _
 | cons p ps ih =>
  have hp:=h p OI
  have e1:fT (p::ps)=(dH p.2).map (lK p.1)++fT ps:=rfl
  have hw:=(fE hp.1.f hp.2 p.2.length (Ot _)).l
  rw [Pn] at hw
  rw [e1,O7,Ox,OA,QB]
  exact Nat.add_le_add hw (ih λq hq=>h q (OJ _ hq))
theorem IK {As:List (List aF)} (hf:∀ A∈As,cH A) (hl:bH As<=400000):∀ t∈dH As,t.1.length<=6:=λt ht=>by
 have h:=(fE hf hl As.length (Ot _)).e
 rw [Pn] at h
 exact (h t ht).1
theorem IL {As:List (List aF)} (h8:As.length<=8) (hf:∀ A∈As,cH A) (hl:bH As<=400000):Bn 20000 (dH As):=by
 have h:=(fE hf hl As.length (Ot _)).b
 rw [Pn] at h
 exact h.mono (by omega)
theorem IM {ps:List Part} (h:∀ p∈ps,dO p/\bH p.2<=400000):∀ t∈fT ps,t.1.length<=6:=λt ht=>by
 obtain ⟨p,hp,ht⟩:=Tj.mp ht
 obtain ⟨u,hu,rfl⟩:=O1.mp ht
 exact IK (h p hp).1.f (h p hp).2 u hu
noncomputable def mj:Fn:=λds r=>∃ ps:List Part,ai ps/\ds=[.lst (ps.map jf)]/\r=.ok (.ow ((bg (cK ps)).map aO))
theorem jg (h:ai ps):mj [.lst (ps.map jf)] (.ok (.ow ((bg (cK ps)).map aO))):=⟨ps,h,rfl,rfl⟩
theorem IP (Fu:eG K "_law_sum" "_law_sum" (top 37) f fd) (T:Txt K mg) (h1:cU P w K mg base 1 "_law_plain" jV) (h2:cU P w K mg base 2 "_law_product" EG):br P w K mg base (dD P w) 3 f fd ["_law_parts"] (dS K mj):=by
 refine cB Fu Bv (by rintro ds r ⟨As,_,rfl,_⟩; rfl) (by rintro ds r ⟨As,_,_,rfl⟩; exact ⟨_,rfl⟩) λc hq ds sl hF=>?_
 obtain ⟨ps,h,rfl,e⟩:=hF
 injection e with e
 subst e
 have hh:∀ p∈ps,dO p/\bH p.2<=400000:=λp hp=>⟨h.p p hp,OD (EI hp) h.s⟩
 show aG c _ [.va (.lst (ps.map jf)),.un,.un,.un] _ _
 conv in (av _)=>whnf
 walk_at "ev"
 show fS c _ [.va (.lst (ps.map jf)),.ow ((fT (ps.take 0)).map aO),.un,.un] _ _
 with_reducible refine dY hq (cM ?_)
 walk_at "ev"
 refine ⟨λi ρ'=>∃ s2 s3:Sl,ρ'=[.va (.lst (ps.map jf)),.ow ((fT (ps.take i)).map aO),s2,s3],⟨_,_,rfl⟩,?_,?_⟩
 ·rintro c' rX Cr Cs i d ρ' hd ⟨s2,s3,rfl⟩
  simp only [OE,OL] at hd
  obtain ⟨p,hpx,rfl⟩:=hd
  obtain ⟨hi,rfl⟩:=OH.mp hpx
  have hq':c'.X.xe=λ_ _=>False:=by rw [rX]; exact hq
  obtain ⟨hp,hpl⟩:=hh _ (O9 hi)
  have eN:fT (ps.take (i+1))=fT (ps.take i)++(dH ps[i].2).map (lK ps[i].1):=by rw [Px hi,yj]
  have hln:(fT (ps.take i)).length+(dH ps[i].2).length<=400000:=by
   have h1:=rR (ps:=ps.take (i+1)) λq hq=>hh q (RB hq)
   rw [eN,O7,Ox] at h1
   refine OD h1 (OD ?_ h.s)
   rw [<- Qk (i+1) ps,Pu,Rc,Qk]
   exact Qs _ _
  generalize fT (ps.take i)=A at eN hln |-
  generalize ps[i]=p at hp hpl eN hln |-
  show mR c' _ (.tup [.int p.1,.lst (p.2.map af)]) _ _
  generalize hG:(λρ'=>aG c' _ ρ' _ _)=G
  walk_at "ev"
  subst hG
  refine ay (zm (by walk_at "at") (uY 1 (by walk_at "at") rfl (by walk_at "sset") (zG (mS (by walk_at "at") (by walk_at "at") (e_x (cW hq' (N':=["_law_powers","_law_count","_law_number"]) (ρ0:=λ_=>[.un,.un,.va (.int p.1)]) (λt=>.un (.un (.fr (by walk_at "at") (by walk_at "at") (by decide) rfl .nil))) (cM (e_x (x_call (F:=EG) h2 (by decide) ?_)))))))))
  walk_at "ev"
  refine aj (Lg hp.m hp.f hpl) (aJ ?_)
  have hb:=IL hp.m hp.f hpl
  generalize dH p.2=L at eN hln hb |-
  refine zP rfl ⟨pC (by simp only [Ox]; omega),L.map λx=>some (aO (lK p.1 x)),by simp,?_,?_⟩
  ·intro c2 hc t i d o hd ho
   simp only [OE,OL] at hd ho
   obtain ⟨x,hx,rfl⟩:=hd
   obtain ⟨x',hx',rfl⟩:=ho
   rw [hx] at hx'; cases hx'
   have hxb:=hb x (Py hx)
   show mR c2 _ (.tup [.tup (x.1.map .int),.int x.2]) _ _
   walk_at "ev"
   refine ⟨.un (.un (.same .nil)),?_⟩
   simp only [jo]
   refine ⟨λ_=>?_,λh=>by cases h⟩
   walk_at "ev"
   ·exact o6 hp.n hxb (by decide)
   rfl
  ·rw [cO (λx=>aO (lK p.1 x)),show L.map (λx=>aO (lK p.1 x))=(L.map (lK p.1)).map aO by rw [OQ]; rfl]
   walk_at "ev"
   ·exact pC (by simp only [Ox]; omega)
   ·rw [<- Pu]; exact dP λx _=>jF x
   show ∃ s2 s3:Sl,_=[_,.ow ((fT (ps.take (i+1))).map aO),s2,s3]
   rw [eN,Pu]
   exact ⟨_,_,rfl⟩
 ·rintro ρ' ⟨s2,s3,rfl⟩
  rw [Ox,Pn]
  refine ay (cC (uY 1 (by walk_at "at") rfl (by walk_at "sset") (x_call (F:=jV) h1 (by decide) ?_)))
  walk_at "ev"
  refine aj (lI (OD (rR hh) h.s) λt ht=>OD (IM hh t ht) (by decide)) ⟨dP λx _=>jF x,?_⟩
  show Sl.ow _=Sl.ow _
  rw [show eY (nz (aL (fT ps)))=bg (cK ps) from cE (EJ hh)]
noncomputable def yk:Fn:=λds r=>∃ (ns:List Int) (k:Nat),ds=[.lst (ns.map .int),.int (k:Int)]/\r=.ok (.va (.int (ns.getD k 0)))
theorem FW (ns:List Int) (k:Nat):yk [.lst (ns.map .int),.int (k:Int)] (.ok (.va (.int (ns.getD k 0)))):=⟨ns,k,rfl,rfl⟩
theorem IQ {ns:List Int} (h:k<ns.length):kq (ns.map D.int) (k:Int)=some (D.int (ns.getD k 0)):=by
 rw [iV (by lia) (by simp; lia),O0,OE,OR h,PJ,OR h]
 rfl
theorem IS (Fu:eG K "_law_cell_at" "_law_cell_at" (top 33) f fd) (T:Txt K mg):br P w K mg base (dD P w) 1 f fd ["_law_script","_law_k"] (dS K yk):=by
 refine cB Fu oV (by rintro ds r ⟨ns,k,rfl,_⟩; rfl) (by rintro ds r ⟨ns,k,_,rfl⟩; exact ⟨_,rfl⟩) λc hq ds sl hF=>?_
 obtain ⟨ns,k,rfl,e⟩:=hF
 injection e with e
 subst e
 show aG c _ [.va (.lst (ns.map .int)),.va (.int (k:Int))] _ _
 conv in (av _)=>whnf
 walk_at "ev"
 ·have hk:k<ns.length:=by simp only [Ox] at *; omega
  refine zA (IQ hk) ?_
  walk_at "ev"
  rfl
 ·have hk:¬ k<ns.length:=by simp only [Ox] at *; omega
  show Sl.va _=Sl.va _
  rw [PJ,Qm (by omega)]; rfl
noncomputable def Lh (c:Int) (k:Nat):Int:=(c * 48271+(k:Int) * 69621+11) % 2147483629
noncomputable def IT (c:Int) (k:Nat):Int:=Lh c k * Lh c k % 2147483587
noncomputable def o7 (ns:List Int) (k:Nat):Int :=
 if ns.getD k 0>=10 ^ Su 18 then ns.getD k 0 - 10 ^ Su 18 else IT (ns.getD k 0) k * 2147483563+IT (ns.getD k 0) k * IT (ns.getD k 0) k % 2147483563
noncomputable def EK:Fn:=λds r=>∃ (ns:List Int) (k:Nat),ds=[.lst (ns.map .int),.int (k:Int)]/\r=.ok (.va (.int (o7 ns k)))
theorem Li (ns) (k:Nat):EK [.lst (ns.map .int),.int (k:Int)] (.ok (.va (.int (o7 ns k)))):=⟨ns,k,rfl,rfl⟩
theorem Lj:se 10 9:=⟨by decide,by decide,by decide +kernel⟩
theorem B0:se 10 18:=⟨by decide,by decide,by decide +kernel⟩
theorem tZ (h:b.natAbs<2 ^ 63):EV.MulOk a b:=IntMulOk.of_right (qw h)
section
local macro_rules | `(tactic| walk_at "evR")=> `(tactic| with_reducible refine aj (FW _ _) ?_)
local macro_rules | `(tactic| walk_at "evCa")=> `(tactic| with_reducible refine aV (F:=yk) (by assumption) (by decide) ?_)
theorem IU (Fu:eG K "_law_digits" "_law_digits" (top 34) f fd) (T:Txt K mg) (h1:cU P w K mg base 1 "_law_cell_at" yk):br P w K mg base (dD P w) 2 f fd ["_law_script","_law_k"] (dS K EK):=by
 refine cB Fu rM (by rintro ds r ⟨ns,k,rfl,_⟩; rfl) (by rintro ds r ⟨ns,k,_,rfl⟩; exact ⟨_,rfl⟩) λc hq ds sl hF=>?_
 obtain ⟨ns,k,rfl,e⟩:=hF
 injection e with e
 subst e
 show aG c _ [.va (.lst (ns.map .int)),.va (.int (k:Int)),.un,.un] _ _
 conv in (av _)=>whnf
 walk_at "ev"
 ·exact B0
 ·exact B0
 ·show Sl.va _=Sl.va _
  unfold o7
  rw [if_pos (by assumption)]
 ·exact tZ (by decide)
 ·exact tZ (by decide)
 ·exact qx (by omega)
 ·exact tZ (by decide)
 ·exact qx (by omega)
 ·show Sl.va _=Sl.va _
  unfold o7
  rw [if_neg (by assumption)]
  rfl
end
noncomputable def stN (r:Int):Int:=r / 513 / 16
noncomputable def Co (r:Int):aF:=([r % 3,r / 3 % 3,r / 9 % 3],if r / 513 % 16=15 then (r / 27 % 19 - 9) * (10 ^ Su 9+7) else r / 27 % 19 - 9)
noncomputable def mq:Nat->Int->List aF×Int
 | 0,r=>([],r)
 | i+1,r=>((mq i r).1++[Co (mq i r).2],stN (mq i r).2)
noncomputable def lM (n:Int):List aF:=bg (mq (n % 4).toNat (n / 4)).1
theorem j9 (i) (r):(mq i r).1.length=i:=by
 induction i with
 | zero=>rfl
 | succ i ih=>simp [mq,ih]
noncomputable def v5:Fn:=λds r=>∃ n:Int,ds=[.int n]/\r=.ok (.ow ((lM n).map aO))
theorem IV (n):v5 [.int n] (.ok (.ow ((lM n).map aO))):=⟨n,rfl,rfl⟩
theorem Lk (i) (r):∀ t∈(mq i r).1,t.1.length=3:=by
 induction i with
 | zero=>intro t ht; cases ht
 | succ i ih =>
  intro t ht
  rcases OZ.mp ht with h | h
  ·exact ih t h
  ·rw [OG.mp h]; rfl
theorem EL (Fu:eG K "_law_some" "_law_some" (top 38) f fd) (T:Txt K mg) (h1:cU P w K mg base 1 "_law_plain" jV):br P w K mg base (dD P w) 2 f fd ["_law_number"] (dS K v5):=by
 refine cB Fu ya (by rintro ds r ⟨n,rfl,_⟩; rfl) (by rintro ds r ⟨n,_,rfl⟩; exact ⟨_,rfl⟩) λc hq ds sl hF=>?_
 obtain ⟨n,rfl,e⟩:=hF
 injection e with e
 subst e
 show aG c _ [.va (.int n),.un,.un,.un,.un,.un] _ _
 conv in (av _)=>whnf
 walk_at "ev"
 show fS c _ [.va (.int (mq 0 (n / 4)).2),.ow ((mq 0 (n / 4)).1.map aO),.va (.int (n % 4)),.un,.un,.un] _ _
 with_reducible refine dY hq (iP (Txt.range (by assumption)) ?_)
 walk_at "ev"
 ·exact ⟨by omega,by omega⟩
 refine ⟨λi ρ'=>∃ s3 s4 s5:Sl,ρ'=[.va (.int (mq i (n / 4)).2),.ow ((mq i (n / 4)).1.map aO),.va (.int (n % 4)),s3,s4,s5],⟨_,_,_,rfl⟩,?_,?_⟩
 ·rintro c' rX Cr Cs i d ρ' hd ⟨s3,s4,s5,rfl⟩
  obtain ⟨hi,rfl⟩:=oh hd
  have hl:=j9 i (n / 4)
  have eN:mq (i+1) (n / 4)=((mq i (n / 4)).1++[Co (mq i (n / 4)).2],stN (mq i (n / 4)).2):=rfl
  generalize mq i (n / 4)=g at hl eN |-
  obtain ⟨L,r⟩:=g
  have hm:=Int.emod_lt_of_pos (r / 27) (b:=19) (by decide)
  have hm0:=Int.emod_nonneg (r / 27) (b:=19) (by decide)
  have hz:(L.map aO).length<sizeLine:=jE (by rw [Ox]; have:L.length=i:=hl; omega)
  walk_at "ev"
  ·exact Lj
  ·exact qx (by show ((r / 27 % 19 - 9:Int)).natAbs<_; omega)
  ·show ∃ s3 s4 s5:Sl,_=[.va (.int (mq (i+1) (n / 4)).2),.ow ((mq (i+1) (n / 4)).1.map aO),.va (.int (n % 4)),s3,s4,s5]
   rw [eN,<- jG,show aO (Co r)=.tup [.tup [.int (r % 3),.int (r / 3 % 3),.int (r / 9 % 3)],.int ((r / 27 % 19 - 9) * (10 ^ Su 9+7))] by unfold Co; rw [if_pos (by assumption)]; rfl]
   exact ⟨_,_,_,rfl⟩
  ·show ∃ s3 s4 s5:Sl,_=[.va (.int (mq (i+1) (n / 4)).2),.ow ((mq (i+1) (n / 4)).1.map aO),.va (.int (n % 4)),s3,s4,s5]
   rw [eN,<- jG,show aO (Co r)=.tup [.tup [.int (r % 3),.int (r / 3 % 3),.int (r / 9 % 3)],.int (r / 27 % 19 - 9)] by unfold Co; rw [if_neg (by assumption)]; rfl]
   exact ⟨_,_,_,rfl⟩
 ·rintro ρ' ⟨s3,s4,s5,rfl⟩
  rw [je]
  refine ay (cC (uY 1 (by walk_at "at") rfl (by walk_at "sset") (x_call (F:=jV) h1 (by decide) ?_)))
  walk_at "ev"
  refine aj (lI (by rw [j9]; omega) λt ht=>by rw [Lk _ _ t ht]; decide) ⟨dP λx _=>jF x,?_⟩
  rfl
end
section
variable {P:Program} {w:World} {K:Oo} {mg:Str->Option Value} {base:Heap}
structure NX (A:List aF):Prop where
 l:A.length<=3
 e:Ex 2 A
 b:Bn 100 A
theorem IW (r):(Co r).1.length<=6/\(∀ x∈(Co r).1,0<=x/\x<=2)/\(Co r).2.natAbs<2 ^ 50:=by
 unfold Co
 refine ⟨by show (3:Nat)<=6; decide,λx hx=>?_,?_⟩
 ·simp only [OM,PX,or_false] at hx
  rcases hx with rfl | rfl | rfl <;> lia
 ·have h1:=Int.emod_lt_of_pos (r / 27) (b:=19) (by decide)
  have h2:=Int.emod_nonneg (r / 27) (b:=19) (by decide)
  have e9:(10:Int) ^ Su 9=1000000000:=by decide +kernel
  rw [e9]
  dsimp only
  split <;> lia
theorem t6 (i) (r):∀ t∈(mq i r).1,t.1.length<=6/\(∀ x∈t.1,0<=x/\x<=2)/\t.2.natAbs<2 ^ 50:=by
 induction i with
 | zero=>intro t ht; cases ht
 | succ i ih =>
  intro t ht
  rcases OZ.mp ht with h | h
  ·exact ih t h
  ·rw [OG.mp h]; exact IW _
theorem EM (n:Int):NX (lM n) where
 l:=OD (lz _) (by rw [j9]; lia)
 e:=Ex.lJ λt ht=>⟨(t6 _ _ t ht).1,(t6 _ _ t ht).2.1⟩
 b:=(Bn.lJ (m:=50) (λt ht=>(t6 _ _ t ht).2.2) (by rw [j9]; lia)).mono (by decide)
noncomputable def Nd (ps:List Part):List D:=(bg (cK ps)).map aO
noncomputable def tt (ps:List Part):List aF:=bg (cK ps)
noncomputable abbrev T3:=List aF×List aF×List aF
noncomputable abbrev T6:=List aF×List aF×List aF×List aF×List aF×List aF
noncomputable def D3 (s:T3):D:=.tup [af s.1,af s.2.1,af s.2.2]
noncomputable def D6 (s:T6):D:=.tup [af s.1,af s.2.1,af s.2.2.1,af s.2.2.2.1,af s.2.2.2.2.1,af s.2.2.2.2.2]
noncomputable def A1 {α:Type} (d:α->D) (a:α):List D:=[d a]
noncomputable def A2 {α β:Type} (d:α->D) (e:β->D) (a:α×β):List D:=[d a.1,e a.2]
noncomputable def Fr {α:Type} (dA:α->List D) (Ok:α->Prop) (R:α->Sl) (P:Program) (w:World) (K:Oo) (mg:Str->Option Value) (base:Heap):Fn:=λds r=>∃ (ad:Addr) (a:α),l0 P w K mg base 4 ad jd/\Ok a/\ds=.adr ad::dA a/\r=.ok (R a)
theorem yl {α:Type} {dA:α->List D} {Ok:α->Prop} {R:α->Sl} {ad:Addr} {a:α} (hg:l0 P w K mg base 4 ad jd) (h:Ok a):Fr dA Ok R P w K mg base (.adr ad::dA a) (.ok (R a)):=⟨ad,a,hg,h,rfl,rfl⟩
noncomputable def Fw {α:Type} (dA:α->List D) (Ok:α->Prop) (R:α->Sl):Fn:=λds r=>∃ a:α,Ok a/\ds=dA a/\r=.ok (R a)
theorem L3 {α:Type} {dA:α->List D} {Ok:α->Prop} {R:α->Sl} {a:α} (h:Ok a):Fw dA Ok R (dA a) (.ok (R a)):=⟨a,h,rfl,rfl⟩
theorem eZ {α:Type} {dA:α->List D} {Ok:α->Prop} {R:α->Sl} {n:Nat} (h:∀ a,(dA a).length=n):∀ ds r,Fr dA Ok R P w K mg base ds r->ds.length=n+1:=by
 rintro ds r ⟨ad,a,_,_,rfl,_⟩
 rw [Pa,h]
theorem gY {α:Type} {dA:α->List D} {Ok:α->Prop} {R:α->Sl}:∀ ds r,Fr dA Ok R P w K mg base ds r->∃ sl,r=.ok sl:=by
 rintro ds r ⟨ad,a,_,_,_,rfl⟩
 exact ⟨_,rfl⟩
theorem iF {α:Type} {dA:α->List D} {Ok:α->Prop} {R:α->Sl} {n:Nat} (h:∀ a,(dA a).length=n):∀ ds r,Fw dA Ok R ds r->ds.length=n:=by
 rintro ds r ⟨a,_,rfl,_⟩
 exact h a
theorem lN {α:Type} {dA:α->List D} {Ok:α->Prop} {R:α->Sl}:∀ ds r,Fw dA Ok R ds r->∃ sl,r=.ok sl:=by
 rintro ds r ⟨a,_,_,rfl⟩
 exact ⟨_,rfl⟩
noncomputable def fF (X:List (List Part)):Sl:=.va (.tup (X.map λps=>af (tt ps)))
noncomputable def EN (ps:List Part):Sl:=.ow (Nd ps)
local macro_rules | `(tactic| walk_at "tv")=> `(tactic| (refine bx (e_x (fO (by assumption) (by decide) (by walk_at "at") (by walk_at "at") ?_)); walk_at "ev"))
noncomputable def v7:T3×T3->List (List Part):=λ⟨⟨a,b,c⟩,⟨x,y,z⟩⟩=>[[(1,[b,z]),(-1,[c,y])],[(1,[c,x]),(-1,[a,z])],[(1,[a,y]),(-1,[b,x])]]
noncomputable abbrev L4:=Fr (A2 D3 D3) (λu=>∀ ps∈v7 u,ai ps) (λu=>fF (v7 u))
theorem Ll (Fu:eG K "crossed" "crossed" (top 15) ff fd):br P w K mg base (dD P w) 5 ff fd ["total","one","other"] (dS K (L4 P w K mg base)):=by
 refine cB Fu tQ (eZ λ_=>rfl) gY λk hq ds sl hF=>?_
 obtain ⟨fg,⟨⟨a,b,c⟩,⟨x,y,z⟩⟩,hg,hh,rfl,ee⟩:=hF
 injection ee with ee
 subst ee
 have h0:ai [(1,[b,z]),(-1,[c,y])]:=hh _ (by simp [v7])
 have h1:ai [(1,[c,x]),(-1,[a,z])]:=hh _ (by simp [v7])
 have h2:ai [(1,[a,y]),(-1,[b,x])]:=hh _ (by simp [v7])
 show aG k _ [.va (.adr fg),.va (.tup [af a,af b,af c]),.va (.tup [af x,af y,af z])] _ _
 conv in (av _)=>whnf
 walk_at "evSs"
 refine cC (yu (jK ?_))
 walk_at "tv"
 refine aj (b9 h0) (aJ ?_)
 walk_at "tv"
 refine aj (b9 h1) (aJ ?_)
 walk_at "tv"
 refine aj (b9 h2) (aJ ?_)
 walk_at "ev"
 rfl
noncomputable def iG:T3×T3->List (List Part):=λ⟨⟨a,b,c⟩,⟨x,y,z⟩⟩=>[[(1,[a,x])],[(1,[a,y]),(1,[b,x])],[(1,[b,y])],[(1,[a,z]),(1,[c,x])],[(1,[b,z]),(1,[c,y])],[(1,[c,z])]]
noncomputable abbrev L5:=Fr (A2 D3 D3) (λu=>∀ ps∈iG u,ai ps) (λu=>fF (iG u))
theorem Ln (Fu:eG K "pair_of_lines" "pair_of_lines" (top 20) ff fd):br P w K mg base (dD P w) 5 ff fd ["total","l","m"] (dS K (L5 P w K mg base)):=by
 refine cB Fu jC (eZ λ_=>rfl) gY λk hq ds sl hF=>?_
 obtain ⟨fg,⟨⟨a,b,c⟩,⟨x,y,z⟩⟩,hg,hh,rfl,ee⟩:=hF
 injection ee with ee
 subst ee
 have h0:ai [(1,[a,x])]:=hh _ (by simp [iG])
 have h1:ai [(1,[a,y]),(1,[b,x])]:=hh _ (by simp [iG])
 have h2:ai [(1,[b,y])]:=hh _ (by simp [iG])
 have h3:ai [(1,[a,z]),(1,[c,x])]:=hh _ (by simp [iG])
 have h4:ai [(1,[b,z]),(1,[c,y])]:=hh _ (by simp [iG])
 have h5:ai [(1,[c,z])]:=hh _ (by simp [iG])
 show aG k _ [.va (.adr fg),.va (.tup [af a,af b,af c]),.va (.tup [af x,af y,af z])] _ _
 conv in (av _)=>whnf
 walk_at "evSs"
 refine cC (yu (jK ?_))
 walk_at "tv"
 refine aj (b9 h0) (aJ ?_)
 walk_at "tv"
 refine aj (b9 h1) (aJ ?_)
 walk_at "tv"
 refine aj (b9 h2) (aJ ?_)
 walk_at "tv"
 refine aj (b9 h3) (aJ ?_)
 walk_at "tv"
 refine aj (b9 h4) (aJ ?_)
 walk_at "tv"
 refine aj (b9 h5) (aJ ?_)
 walk_at "ev"
 rfl
noncomputable def o8:T6->List (List Part):=λ⟨a,b,c,d,e,f⟩=>[[(1,[b,e]),(-2,[c,d])],[(1,[b,d]),(-2,[a,e])],[(4,[a,c]),(-1,[b,b])]]
noncomputable abbrev Nf:=Fr (A1 D6) (λu=>∀ ps∈o8 u,ai ps) (λu=>fF (o8 u))
theorem Lo {ff:Addr} {fd:FuncData} (Fu:eG K "curve_centre_rule" "curve_centre_rule" (top 23) ff fd):br P w K mg base (dD P w) 5 ff fd ["total","v"] (dS K (Nf P w K mg base)):=by
 refine cB Fu gw (eZ λ_=>rfl) gY λk hq ds sl hF=>?_
 obtain ⟨fg,⟨a,b,c,d,e,f⟩,hg,hh,rfl,ee⟩:=hF
 injection ee with ee
 subst ee
 have h0:ai [(1,[b,e]),(-2,[c,d])]:=hh _ (by simp [o8])
 have h1:ai [(1,[b,d]),(-2,[a,e])]:=hh _ (by simp [o8])
 have h2:ai [(4,[a,c]),(-1,[b,b])]:=hh _ (by simp [o8])
 show aG k _ [.va (.adr fg),.va (.tup [af a,af b,af c,af d,af e,af f])] _ _
 conv in (av _)=>whnf
 walk_at "evSs"
 refine cC (yu (jK ?_))
 walk_at "tv"
 refine aj (b9 h0) (aJ ?_)
 walk_at "tv"
 refine aj (b9 h1) (aJ ?_)
 walk_at "tv"
 refine aj (b9 h2) (aJ ?_)
 walk_at "ev"
 rfl
noncomputable def lT:T6×T3->List (List Part):=λ⟨⟨a,b,c,d,e,f⟩,⟨x,y,z⟩⟩=>[[(2,[a,x]),(1,[b,y]),(1,[d,z])],[(1,[b,x]),(2,[c,y]),(1,[e,z])],[(1,[d,x]),(1,[e,y]),(2,[f,z])]]
noncomputable abbrev JA:=Fr (A2 D6 D3) (λu=>∀ ps∈lT u,ai ps) (λu=>fF (lT u))
theorem Lp {ff:Addr} {fd:FuncData} (Fu:eG K "curve_polar_rule" "curve_polar_rule" (top 24) ff fd):br P w K mg base (dD P w) 5 ff fd ["total","v","i"] (dS K (JA P w K mg base)):=by
 refine cB Fu gT (eZ λ_=>rfl) gY λk hq ds sl hF=>?_
 obtain ⟨fg,⟨⟨a,b,c,d,e,f⟩,⟨x,y,z⟩⟩,hg,hh,rfl,ee⟩:=hF
 injection ee with ee
 subst ee
 have h0:ai [(2,[a,x]),(1,[b,y]),(1,[d,z])]:=hh _ (by simp [lT])
 have h1:ai [(1,[b,x]),(2,[c,y]),(1,[e,z])]:=hh _ (by simp [lT])
 have h2:ai [(1,[d,x]),(1,[e,y]),(2,[f,z])]:=hh _ (by simp [lT])
 show aG k _ [.va (.adr fg),.va (.tup [af a,af b,af c,af d,af e,af f]),.va (.tup [af x,af y,af z])] _ _
 conv in (av _)=>whnf
 walk_at "evSs"
 refine cC (yu (jK ?_))
 walk_at "tv"
 refine aj (b9 h0) (aJ ?_)
 walk_at "tv"
 refine aj (b9 h1) (aJ ?_)
 walk_at "tv"
 refine aj (b9 h2) (aJ ?_)
 walk_at "ev"
 rfl
noncomputable def t8:T3×T3->List Part:=λ⟨⟨a,b,c⟩,⟨x,y,z⟩⟩=>[(1,[a,x]),(1,[b,y]),(1,[c,z])]
noncomputable abbrev Ng:=Fr (A2 D3 D3) (λu=>ai (t8 u)) (λu=>EN (t8 u))
theorem IX {ff:Addr} {fd:FuncData} (Fu:eG K "dotted" "dotted" (top 16) ff fd) (T:Txt K mg):br P w K mg base (dD P w) 5 ff fd ["total","one","other"] (dS K (Ng P w K mg base)):=by
 refine cB Fu x8 (eZ λ_=>rfl) gY λk hq ds sl hF=>?_
 obtain ⟨fg,⟨⟨a,b,c⟩,⟨x,y,z⟩⟩,hg,hh,rfl,ee⟩:=hF
 injection ee with ee
 subst ee
 show aG k _ [.va (.adr fg),.va (.tup [af a,af b,af c]),.va (.tup [af x,af y,af z])] _ _
 conv in (av _)=>whnf
 walk_at "evSs"
 refine cC (fO hg (by decide) (by walk_at "at") (by walk_at "at") ?_)
 refine bx (e_x (cW hq (N':=["first","second"]) (ρ0:=λ_=>[.un,.un]) (λt=>.un (.un .nil)) (Bj (Txt.zip T) ?_)))
 walk_at "ev"
 refine ⟨_,_,rfl,rfl,⟨iM (Q0 rfl),[some (.tup [.int 1,af a,af x]),some (.tup [.int 1,af b,af y]),some (.tup [.int 1,af c,af z])],rfl,?_,?_⟩⟩
 ·intro k2 hc t i dd o hd ho
  obtain ⟨A,B,rfl,rfl⟩:∃ A B:List aF,dd=.tup [af A,af B]/\o=some (.tup [.int 1,af A,af B]):=by
   match i,hd,ho with
   | 0,hd,ho=>cases hd; cases ho; exact ⟨_,_,rfl,rfl⟩
   | 1,hd,ho=>cases hd; cases ho; exact ⟨_,_,rfl,rfl⟩
   | 2,hd,ho=>cases hd; cases ho; exact ⟨_,_,rfl,rfl⟩
  refine uJ rfl (by walk_at "u") ?_
  walk_at "ev"
  refine ⟨.un (.un .nil),?_⟩
  simp only [jo]
  refine ⟨λ_=>?_,λh=>by cases h⟩
  walk_at "ev"
  rfl
 ·walk_at "ev"
  exact aj (b9 hh) rfl
noncomputable def AL (u:(T3×T3)×T3):List D:=[.tup [D3 u.1.1,D3 u.1.2],D3 u.2]
noncomputable def IY (s t:T3):List aF:=tt (t8 (s,t))
noncomputable def FY:(T3×T3)×T3->List Part:=λu=>[(1,[IY u.1.1 u.2,IY u.1.2 u.2])]
noncomputable abbrev L6:=Fr AL (λu=>ai (t8 (u.1.1,u.2))/\ai (t8 (u.1.2,u.2))/\ai (FY u)) (λu=>EN (FY u))
section
local macro_rules | `(tactic| walk_at "evCa")=> `(tactic| first | with_reducible refine aV (F:=Ng P w K mg base) (by assumption) (by decide) ?_)
theorem Lq {ff:Addr} {fd:FuncData} (Fu:eG K "worth_of_both" "worth_of_both" (top 21) ff fd) (h5:cU P w K mg base 5 "dotted" (Ng P w K mg base)):br P w K mg base (dD P w) 6 ff fd ["total","lines","i"] (dS K (L6 P w K mg base)):=by
 refine cB Fu jD (eZ λ_=>rfl) gY λk hq ds sl hF=>?_
 obtain ⟨fg,⟨⟨s,t⟩,i⟩,hg,⟨q1,q2,q3⟩,rfl,ee⟩:=hF
 injection ee with ee
 subst ee
 show aG k _ [.va (.adr fg),.va (.tup [D3 s,D3 t]),.va (D3 i)] _ _
 conv in (av _)=>whnf
 walk_at "evSs"
 refine cC (fO hg (by decide) (by walk_at "at") (by walk_at "at") ?_)
 walk_at "ev"
 refine aj (yl (dA:=A2 D3 D3) (a:=(s,i)) hg q1) (aJ ?_)
 walk_at "ev"
 refine aj (yl (dA:=A2 D3 D3) (a:=(t,i)) hg q2) (aJ ?_)
 walk_at "ev"
 exact aj (b9 q3) rfl
end
noncomputable def A6 (u:T6):List D:=[D6 u]
noncomputable abbrev rS:=Fr A6 (λ_=>True) (λu=>.va (D6 u))
theorem IZ {ff:Addr} {fd:FuncData} (Fu:eG K "six_of" "six_of" (top 19) ff fd) (T:Txt K mg):br P w K mg base (dD P w) 5 ff fd ["total","v"] (dS K (rS P w K mg base)):=by
 refine cB Fu x9 (eZ λ_=>rfl) gY λk hq ds sl hF=>?_
 obtain ⟨fg,⟨a,b,c,d,e,f⟩,hg,-,rfl,ee⟩:=hF
 injection ee with ee
 subst ee
 show aG k _ [.va (.adr fg),.va (.tup [af a,af b,af c,af d,af e,af f])] _ _
 conv in (av _)=>whnf
 walk_at "ev"
 case refine_2 z=>exact absurd rfl z
 rfl
noncomputable def eS (X:List (List Part)):T3:=(tt (X.getD 0 []),tt (X.getD 1 []),tt (X.getD 2 []))
theorem I0 {X:List (List Part)} (h:X.length=3):fF X=.va (D3 (eS X)):=by
 match X,h with
 | [a,b,c],_=>rfl
noncomputable def cL (s t:T3):T3:=eS (v7 (s,t))
theorem v8 {ad:Addr} {s t:T3} (hg:l0 P w K mg base 4 ad jd) (h:∀ ps∈v7 (s,t),ai ps):L4 P w K mg base [.adr ad,D3 s,D3 t] (.ok (.va (D3 (cL s t)))):=by
 have e:fF (v7 (s,t))=.va (D3 (cL s t)):=I0 rfl
 rw [<- e]; exact yl (a:=(s,t)) hg h
theorem FZ {ad:Addr} {s t:T3} (hg:l0 P w K mg base 4 ad jd) (h:∀ ps∈iG (s,t),ai ps):L5 P w K mg base [.adr ad,D3 s,D3 t] (.ok (.va (.tup ((iG (s,t)).map λps=>af (tt ps))))):=yl (a:=(s,t)) hg h
noncomputable def uc (s t i:T3):List aF:=tt (FY ((s,t),i))
theorem F0 {ad:Addr} {s t i:T3} (hg:l0 P w K mg base 4 ad jd) (h:ai (t8 (s,i))/\ai (t8 (t,i))/\ai (FY ((s,t),i))):L6 P w K mg base [.adr ad,.tup [D3 s,D3 t],D3 i] (.ok (.ow ((uc s t i).map aO))):=yl (a:=((s,t),i)) hg h
noncomputable def Cp (A B:List aF) (X Y:List (List Part)):List (List Part):=RQ (λp q=>[(1,[B,tt p]),(-1,[A,tt q])]) X Y
noncomputable abbrev T5:=T3×T3×T3×T3×T3
noncomputable def A5 (u:T5):List D:=[D3 u.1,D3 u.2.1,D3 u.2.2.1,D3 u.2.2.2.1,D3 u.2.2.2.2]
noncomputable def v9 (i j k l m:T3):List (List Part):=Cp (uc (cL i j) (cL k l) m) (uc (cL i k) (cL j l) m) (iG (cL i j,cL k l)) (iG (cL i k,cL j l))
structure B3 (i j k l m:T3):Prop where
 ij:∀ ps∈v7 (i,j),ai ps
 kl:∀ ps∈v7 (k,l),ai ps
 ik:∀ ps∈v7 (i,k),ai ps
 jl:∀ ps∈v7 (j,l),ai ps
 w1:ai (t8 (cL i j,m))/\ai (t8 (cL k l,m))/\ai (FY ((cL i j,cL k l),m))
 w2:ai (t8 (cL i k,m))/\ai (t8 (cL j l,m))/\ai (FY ((cL i k,cL j l),m))
 p1:∀ ps∈iG (cL i j,cL k l),ai ps
 p2:∀ ps∈iG (cL i k,cL j l),ai ps
 fv:∀ ps∈v9 i j k l m,ai ps
noncomputable abbrev Nh:=Fr A5 (λu=>B3 u.1 u.2.1 u.2.2.1 u.2.2.2.1 u.2.2.2.2) (λu=>fF (v9 u.1 u.2.1 u.2.2.1 u.2.2.2.1 u.2.2.2.2))
section
local macro_rules | `(tactic| walk_at "evCa")=> `(tactic| first
 | with_reducible refine aV (F:=L4 P w K mg base) (by assumption) (by decide) ?_
 | with_reducible refine aV (F:=L5 P w K mg base) (by assumption) (by decide) ?_)
local macro_rules | `(tactic| walk_at "evXC")=> `(tactic| first | with_reducible refine x_call (x:=Om "worth_of_both") (F:=L6 P w K mg base) (by assumption) (by decide) ?_)
theorem Lr (Fu:eG K "five_rule" "five_rule" (top 22) ff fd) (T:Txt K mg) (h5:cU P w K mg base 5 "crossed" (L4 P w K mg base)) (h6:cU P w K mg base 6 "worth_of_both" (L6 P w K mg base)) (h7:cU P w K mg base 5 "pair_of_lines" (L5 P w K mg base)):br P w K mg base (dD P w) 7 ff fd ["total","i","j","k","l","m"] (dS K (Nh P w K mg base)):=by
 refine cB Fu oS (eZ λ_=>rfl) gY λc hq ds sl hF=>?_
 obtain ⟨fg,⟨i,j,k,l,m⟩,hg,hh,rfl,ee⟩:=hF
 injection ee with ee
 subst ee
 have hh:B3 i j k l m:=hh
 show aG c _ [.va (.adr fg),.va (D3 i),.va (D3 j),.va (D3 k),.va (D3 l),.va (D3 m),.un,.un,.un,.un,.un,.un] _ { rt:=λz=>z=fF (v9 i j k l m) }
 conv in (av _)=>whnf
 refine ay ?_
 generalize hG:(λρ'=>aG c _ ρ' _ _)=G
 walk_at "ev"
 refine aj (v8 hg hh.ij) (cz ?_)
 walk_at "ev"
 refine aj (v8 hg hh.kl) (cz ?_)
 walk_at "ev"
 subst hG
 refine ay ?_
 generalize hG:(λρ'=>aG c _ ρ' _ _)=G
 walk_at "ev"
 refine aj (v8 hg hh.ik) (cz ?_)
 walk_at "ev"
 refine aj (v8 hg hh.jl) (cz ?_)
 walk_at "ev"
 subst hG
 refine ay ?_
 generalize hG:(λρ'=>aG c _ ρ' _ _)=G
 walk_at "ev"
 refine aj (F0 hg hh.w1) ?_
 walk_at "ev"
 subst hG
 refine eX 8 (d0:=af (uc (cL i j) (cL k l) m)) (by walk_at "at") rfl (by walk_at "sset") ?_
 refine ay ?_
 generalize hG:(λρ'=>aG c _ ρ' _ _)=G
 walk_at "ev"
 refine aj (F0 hg hh.w2) ?_
 walk_at "ev"
 subst hG
 refine eX 9 (d0:=af (uc (cL i k) (cL j l) m)) (by walk_at "at") rfl (by walk_at "sset") ?_
 refine ay ?_
 generalize hG:(λρ'=>aG c _ ρ' _ _)=G
 walk_at "ev"
 refine aj (FZ hg hh.p1) ?_
 walk_at "ev"
 subst hG
 refine ay ?_
 generalize hG:(λρ'=>aG c _ ρ' _ _)=G
 walk_at "ev"
 refine aj (FZ hg hh.p2) ?_
 walk_at "ev"
 subst hG
 have hfv:∀ ps∈Cp (uc (cL i j) (cL k l) m) (uc (cL i k) (cL j l) m) (iG (cL i j,cL k l)) (iG (cL i k,cL j l)),ai ps:=hh.fv
 have n1:(iG (cL i j,cL k l)).length=6:=rfl
 have n2:(iG (cL i k,cL j l)).length=6:=rfl
 show aG c _ _ _ { rt:=λz=>z=fF (Cp (uc (cL i j) (cL k l) m) (uc (cL i k) (cL j l) m) (iG (cL i j,cL k l)) (iG (cL i k,cL j l))) }
 clear hh
 generalize uc (cL i j) (cL k l) m=A at *
 generalize uc (cL i k) (cL j l) m=B at *
 generalize iG (cL i j,cL k l)=X at *
 generalize iG (cL i k,cL j l)=Y at *
 refine ay (cC (yu (jZ (Txt.tuple T) (e_x (cW hq (N':=["one","other","second_worth","first_worth","total"]) (ρ0:=λ_=>[.un,.un,.va (af B),.va (af A),.va (.adr fg)]) (λt=>.un (.un (.fr (by walk_at "at") (by walk_at "at") (by decide) rfl (.fr (by walk_at "at") (by walk_at "at") (by decide) rfl (.fr (by walk_at "at") (by walk_at "at") (by decide) rfl .nil))))) (Bj (Txt.zip T) ?_))))))
 walk_at "ev"
 refine ⟨_,_,rfl,rfl,⟨?_,(Cp A B X Y).map λps=>some (af (tt ps)),?_,?_,?_⟩⟩
 ·unfold qU
  rw [RD,Ox,Ox,n1,n2]
  exact iM (Q0 rfl)
 ·unfold qU Cp
  rw [Ox,RD,RD,Ox,Ox]
 ·intro k2 hc t n dd o hd ho
  unfold qU at hd
  rw [List.zipWith_map] at hd
  obtain ⟨p,q,e1,e2,rfl⟩:=Sy.mp hd
  rw [OE] at ho
  obtain ⟨ps,e3,rfl⟩:=OL.mp ho
  have hps:ai ps:=hfv ps (Py e3)
  obtain ⟨p',q',e4,e5,rfl⟩:=Sy.mp e3
  rw [e1] at e4; cases e4
  rw [e2] at e5; cases e5
  refine uJ rfl (by walk_at "u") ?_
  walk_at "ev"
  refine ⟨.un (.un (.same (.same (.same .nil)))),?_⟩
  simp only [jo]
  refine ⟨λ_=>?_,λh=>by cases h⟩
  refine e_x (fO hg (by decide) (by walk_at "at") (by walk_at "at") ?_)
  walk_at "ev"
  refine aj (b9 hps) (aJ ?_)
  rfl
 ·rw [cO λps=>af (tt ps)]
  walk_at "ev"
  rfl
end
noncomputable def dz (v:T6) (l:T3):List Part:=[(1,[v.1,l.2.1,l.2.1]),(-1,[v.2.1,l.1,l.2.1]),(1,[v.2.2.1,l.1,l.1])]
noncomputable def ud (v:T6) (i:T3):T3:=eS (lT (v,i))
noncomputable def gZ (v:T6) (l i:T3):List Part:=[(1,[l.1,(ud v i).2.1]),(-1,[l.2.1,(ud v i).1])]
noncomputable def jW (g h p q:List aF) (i:T3):List (List Part):=[[(1,[g,i.1]),(1,[h,q])],[(1,[g,i.2.1]),(-1,[h,p])],[(1,[g,i.2.2])]]
noncomputable def mw (v:T6) (l i:T3):List (List Part):=jW (tt (dz v l)) (tt (gZ v l i)) l.1 l.2.1 i
structure lO (v:T6) (l i:T3):Prop where
 c:∀ ps∈lT (v,i),ai ps
 g:ai (dz v l)
 h:ai (gZ v l i)
 t:∀ ps∈mw v l i,ai ps
noncomputable def Ni (u:T6×T3×T3):List D:=[D6 u.1,D3 u.2.1,D3 u.2.2]
theorem Ls {ad:Addr} {v:T6} {i:T3} (hg:l0 P w K mg base 4 ad jd) (h:∀ ps∈lT (v,i),ai ps):JA P w K mg base [.adr ad,D6 v,D3 i] (.ok (.va (D3 (ud v i)))):=by
 have e:fF (lT (v,i))=.va (D3 (ud v i)):=I0 rfl
 rw [<- e]; exact yl (a:=(v,i)) hg h
theorem B4 {ad:Addr} (v:T6) (hg:l0 P w K mg base 4 ad jd):rS P w K mg base [.adr ad,D6 v] (.ok (.va (D6 v))):=yl (a:=v) hg trivial
noncomputable abbrev Lu:=Fr Ni (λu=>lO u.1 u.2.1 u.2.2) (λu=>fF (mw u.1 u.2.1 u.2.2))
section
local macro_rules | `(tactic| walk_at "evCa")=> `(tactic| first
 | with_reducible refine aV (F:=rS P w K mg base) (by assumption) (by decide) ?_
 | with_reducible refine aV (F:=JA P w K mg base) (by assumption) (by decide) ?_)
local macro_rules | `(tactic| walk_at "evIx")=> `(tactic| first | ((with_reducible show aH _ (Qa _ (Sg _ _ _) _) _ _); with_reducible refine qb ?_))
local macro_rules | `(tactic| walk_at "evXC")=> `(tactic| first | ((with_reducible show dF _ (O5 (ON "total" _) _ _ _) _ _); with_reducible refine fO (by assumption) (by decide) (by walk_at "at") (by walk_at "at") ?_))
theorem Lv {ff:Addr} {fd:FuncData} (Fu:eG K "again_rule" "again_rule" (top 25) ff fd) (h1:cU P w K mg base 5 "six_of" (rS P w K mg base)) (h2:cU P w K mg base 5 "curve_polar_rule" (JA P w K mg base)):br P w K mg base (dD P w) 6 ff fd ["total","v","l","i"] (dS K (Lu P w K mg base)):=by
 refine cB Fu l7 (eZ λ_=>rfl) gY λc hq ds sl hF=>?_
 obtain ⟨fg,⟨v,l,i⟩,hg,hh,rfl,ee⟩:=hF
 injection ee with ee
 subst ee
 have hh:lO v l i:=hh
 have t1:ai [(1,[tt (dz v l),i.1]),(1,[tt (gZ v l i),l.2.1])]:=hh.t _ (by simp [mw,jW])
 have t2:ai [(1,[tt (dz v l),i.2.1]),(-1,[tt (gZ v l i),l.1])]:=hh.t _ (by simp [mw,jW])
 have t3:ai [(1,[tt (dz v l),i.2.2])]:=hh.t _ (by simp [mw,jW])
 show aG c _ [.va (.adr fg),.va (D6 v),.va (D3 l),.va (D3 i),.un,.un,.un,.un] _ _
 conv in (av _)=>whnf
 refine ay ?_
 generalize hG:(λρ'=>aG c _ ρ' _ _)=G
 walk_at "ev"
 refine aj (B4 v hg) ?_
 walk_at "ev"
 subst hG
 refine ay ?_
 generalize hG:(λρ'=>aG c _ ρ' _ _)=G
 walk_at "ev"
 refine aj (Ls hg hh.c) ?_
 walk_at "ev"
 subst hG
 refine ay ?_
 generalize hG:(λρ'=>aG c _ ρ' _ _)=G
 walk_at "ev"
 refine aj (b9 hh.g) ?_
 walk_at "ev"
 subst hG
 refine eX 6 (d0:=af (tt (dz v l))) (by walk_at "at") rfl (by walk_at "sset") ?_
 refine ay ?_
 generalize hG:(λρ'=>aG c _ ρ' _ _)=G
 walk_at "ev"
 refine aj (b9 hh.h) ?_
 walk_at "ev"
 subst hG
 refine eX 7 (d0:=af (tt (gZ v l i))) (by walk_at "at") rfl (by walk_at "sset") ?_
 walk_at "evSs"
 refine cC (yu (jK ?_))
 walk_at "tv"
 refine aj (b9 t1) (aJ ?_)
 walk_at "tv"
 refine aj (b9 t2) (aJ ?_)
 walk_at "tv"
 refine aj (b9 t3) (aJ ?_)
 walk_at "ev"
 rfl
end
noncomputable def ym (k:Nat):List aF:=[(OB k 0++[1],1)]
noncomputable def P2 (s:List aF×List aF):D:=.tup [af s.1,af s.2]
noncomputable def wc:Fn:=λds r=>∃ k:Nat,k<=10/\ds=[.int k]/\r=.ok (.va (P2 (ym k,cT 1)))
theorem Ja {k:Nat} (h:k<=10):wc [.int k] (.ok (.va (P2 (ym k,cT 1)))):=⟨k,h,rfl,rfl⟩
section
local macro_rules | `(tactic| walk_at "evBo")=> `(tactic| first | ((with_reducible show aH _ (RY _ TR _ _) _ _); with_reducible refine M5 (FH ?_)))
theorem o9 (k:Nat):(OB k [D.int 0]).flatten=(OB k (0:Int)).map D.int:=by
 induction k with
 | zero=>rfl
 | succ n ih=>rw [Qg,QK,ih,Qg]; rfl
theorem EO {f:Addr} {fd:FuncData} (Fu:eG K "free_poly" "free_poly" (top 13) f fd) (T:Txt K mg):br P w K mg base (dD P w) 1 f fd ["k"] (dS K wc):=by
 refine cB Fu oR (by rintro ds r ⟨k,_,rfl,_⟩; rfl) (by rintro ds r ⟨k,_,_,rfl⟩; exact ⟨_,rfl⟩) λc hq ds sl hF=>?_
 obtain ⟨k,hk,rfl,e⟩:=hF
 injection e with e
 subst e
 show aG c _ [.va (.int k)] _ _
 conv in (av _)=>whnf
 walk_at "evSs"
 refine cC (yu (jK ?_))
 walk_at "ev"
 refine ⟨_,rfl,?_⟩
 walk_at "ev"
 ·exact ⟨⟨by lia,by lia⟩,by rw [O0]; exact pC (by simp only [Rz]; lia)⟩
 ·rw [O0,o9]; exact pC (by simp only [Ox,List.length_replicate,Rz]; lia)
 show Sl.va _=Sl.va _
 rw [O0,o9]
 show _=Sl.va (.tup [.lst [.tup [.tup ((OB k (0:Int)++[1]).map D.int),.int 1]],_])
 rw [Pu]
 rfl
end
noncomputable def NY (u:T6×T3×(List aF×List aF)):List D:=[D6 u.1,D3 u.2.1,P2 u.2.2]
noncomputable def ER (s:List aF×List aF):T3:=(tt [(-1,[s.1])],s.2,tt [])
noncomputable abbrev Nj:=Fr NY (λu=>ai [(-1,[u.2.2.1])]/\ai []/\lO u.1 (ER u.2.2) u.2.1) (λu=>fF (mw u.1 (ER u.2.2) u.2.1))
section
local macro_rules | `(tactic| walk_at "evXC")=> `(tactic| first | ((with_reducible show dF _ (O5 (ON "total" _) _ _ _) _ _); with_reducible refine fO (by assumption) (by decide) (by walk_at "at") (by walk_at "at") ?_))
local macro_rules | `(tactic| walk_at "evCa")=> `(tactic| first | ((with_reducible show aH _ (O5 (ON "total" _) _ _ _) _ _); with_reducible refine e_x (fO (by assumption) (by decide) (by walk_at "at") (by walk_at "at") ?_)))
local macro_rules | `(tactic| walk_at "evIx")=> `(tactic| first | ((with_reducible show aH _ (Qa _ (Sg _ _ _) _) _ _); with_reducible refine qb ?_))
theorem Lw {ff:Addr} {fd:FuncData} (Fu:eG K "roll_rule" "roll_rule" (top 26) ff fd) (h1:cU P w K mg base 6 "again_rule" (Lu P w K mg base)):br P w K mg base (dD P w) 7 ff fd ["total","v","i","t"] (dS K (Nj P w K mg base)):=by
 refine cB Fu oU (eZ λ_=>rfl) gY λc hq ds sl hF=>?_
 obtain ⟨fg,⟨v,i,s⟩,hg,⟨q1,q2,hh⟩,rfl,ee⟩:=hF
 injection ee with ee
 subst ee
 show aG c _ [.va (.adr fg),.va (D6 v),.va (D3 i),.va (P2 s)] _ _
 conv in (av _)=>whnf
 walk_at "evSs"
 refine cC (x_call (F:=Lu P w K mg base) h1 (by decide) ?_)
 walk_at "ev"
 refine aj (b9 q1) (aJ ?_)
 walk_at "ev"
 refine aj (b9 q2) (aJ ?_)
 walk_at "ev"
 exact aj (yl (dA:=Ni) (a:=(v,ER s,i)) hg hh) rfl
end
noncomputable abbrev ES:=Fw A5 (λu=>B3 u.1 u.2.1 u.2.2.1 u.2.2.2.1 u.2.2.2.2) (λu=>fF (v9 u.1 u.2.1 u.2.2.1 u.2.2.2.1 u.2.2.2.2))
theorem Jb {ff:Addr} {fd:FuncData} (Fu:eG K "five_curve" "five_curve" (top 27) ff fd) (h1:cU P w K mg base 4 "poly_total" jd) (h2:cU P w K mg base 7 "five_rule" (Nh P w K mg base)):br P w K mg base (dD P w) 8 ff fd ["i","j","k","l","m"] (dS K ES):=by
 refine cB Fu l8 (iF λ_=>rfl) lN λc hq ds sl hF=>?_
 obtain ⟨u,hh,rfl,ee⟩:=hF
 injection ee with ee
 subst ee
 obtain ⟨fg,hm,hg⟩:=h1.at_
 show aG c _ [.va (D3 u.1),.va (D3 u.2.1),.va (D3 u.2.2.1),.va (D3 u.2.2.2.1),.va (D3 u.2.2.2.2)] _ _
 conv in (av _)=>whnf
 walk_at "evSs"
 refine cC (x_call (F:=Nh P w K mg base) h2 (by decide) ?_)
 refine bx (iC hm ?_)
 walk_at "ev"
 exact aj (yl (a:=u) hg hh) rfl
noncomputable abbrev ET:=Fw (A1 D6) (λu=>∀ ps∈o8 u,ai ps) (λu=>fF (o8 u))
theorem Jc {ff:Addr} {fd:FuncData} (Fu:eG K "curve_centre" "curve_centre" (top 28) ff fd) (h1:cU P w K mg base 4 "poly_total" jd) (h2:cU P w K mg base 5 "curve_centre_rule" (Nf P w K mg base)) (h3:cU P w K mg base 5 "six_of" (rS P w K mg base)):br P w K mg base (dD P w) 6 ff fd ["v"] (dS K ET):=by
 refine cB Fu jU (iF λ_=>rfl) lN λc hq ds sl hF=>?_
 obtain ⟨u,hh,rfl,ee⟩:=hF
 injection ee with ee
 subst ee
 obtain ⟨fg,hm,hg⟩:=h1.at_
 show aG c _ [.va (D6 u)] _ _
 conv in (av _)=>whnf
 walk_at "evSs"
 refine cC (x_call (F:=Nf P w K mg base) h2 (by decide) ?_)
 refine bx (iC hm ?_)
 refine bx (aV (F:=rS P w K mg base) h3 (by decide) (bx (iC hm ?_)))
 walk_at "ev"
 refine aj (B4 u hg) (cz ?_)
 walk_at "ev"
 exact aj (yl (a:=u) hg hh) rfl
noncomputable abbrev EU:=Fw (A2 D6 D3) (λu=>∀ ps∈lT u,ai ps) (λu=>fF (lT u))
theorem Jd {ff:Addr} {fd:FuncData} (Fu:eG K "curve_polar" "curve_polar" (top 29) ff fd) (h1:cU P w K mg base 4 "poly_total" jd) (h2:cU P w K mg base 5 "curve_polar_rule" (JA P w K mg base)) (h3:cU P w K mg base 5 "six_of" (rS P w K mg base)):br P w K mg base (dD P w) 6 ff fd ["v","i"] (dS K EU):=by
 refine cB Fu lG (iF λ_=>rfl) lN λc hq ds sl hF=>?_
 obtain ⟨u,hh,rfl,ee⟩:=hF
 injection ee with ee
 subst ee
 obtain ⟨fg,hm,hg⟩:=h1.at_
 show aG c _ [.va (D6 u.1),.va (D3 u.2)] _ _
 conv in (av _)=>whnf
 walk_at "evSs"
 refine cC (x_call (F:=JA P w K mg base) h2 (by decide) ?_)
 refine bx (iC hm ?_)
 refine bx (aV (F:=rS P w K mg base) h3 (by decide) (bx (iC hm ?_)))
 walk_at "ev"
 refine aj (B4 u.1 hg) (cz ?_)
 walk_at "ev"
 exact aj (yl (a:=u) hg hh) rfl
noncomputable abbrev EW:=Fw Ni (λu=>lO u.1 u.2.1 u.2.2) (λu=>fF (mw u.1 u.2.1 u.2.2))
theorem Je {ff:Addr} {fd:FuncData} (Fu:eG K "again_point" "again_point" (top 30) ff fd) (h1:cU P w K mg base 4 "poly_total" jd) (h2:cU P w K mg base 6 "again_rule" (Lu P w K mg base)):br P w K mg base (dD P w) 7 ff fd ["v","l","i"] (dS K EW):=by
 refine cB Fu lH (iF λ_=>rfl) lN λc hq ds sl hF=>?_
 obtain ⟨u,hh,rfl,ee⟩:=hF
 injection ee with ee
 subst ee
 obtain ⟨fg,hm,hg⟩:=h1.at_
 show aG c _ [.va (D6 u.1),.va (D3 u.2.1),.va (D3 u.2.2)] _ _
 conv in (av _)=>whnf
 walk_at "evSs"
 refine cC (x_call (F:=Lu P w K mg base) h2 (by decide) ?_)
 refine bx (iC hm ?_)
 walk_at "ev"
 exact aj (yl (a:=u) hg hh) rfl
noncomputable def NZ (u:T6×T3×Nat):List D:=[D6 u.1,D3 u.2.1,.int (u.2.2:Int)]
noncomputable abbrev EX:=Fw NZ (λu=>u.2.2<=10/\ai [(-1,[ym u.2.2])]/\ai []/\lO u.1 (ER (ym u.2.2,cT 1)) u.2.1) (λu=>fF (mw u.1 (ER (ym u.2.2,cT 1)) u.2.1))
theorem Jf {ff:Addr} {fd:FuncData} (Fu:eG K "roll_point" "roll_point" (top 31) ff fd) (h1:cU P w K mg base 4 "poly_total" jd) (h2:cU P w K mg base 7 "roll_rule" (Nj P w K mg base)) (h3:cU P w K mg base 1 "free_poly" wc):br P w K mg base (dD P w) 8 ff fd ["v","i","t"] (dS K EX):=by
 refine cB Fu l9 (iF λ_=>rfl) lN λc hq ds sl hF=>?_
 obtain ⟨⟨v,i,n⟩,⟨hn,q1,q2,hh⟩,rfl,ee⟩:=hF
 injection ee with ee
 subst ee
 obtain ⟨fg,hm,hg⟩:=h1.at_
 show aG c _ [.va (D6 v),.va (D3 i),.va (.int (n:Int))] _ _
 conv in (av _)=>whnf
 walk_at "evSs"
 refine cC (x_call (F:=Nj P w K mg base) h2 (by decide) ?_)
 refine bx (iC hm (bx (mS (by walk_at "at") (by walk_at "at") (bx (mS (by walk_at "at") (by walk_at "at") (bx (aV (F:=wc) h3 (by decide) ?_)))))))
 walk_at "ev"
 refine aj (Ja hn) (cz ?_)
 walk_at "ev"
 exact aj (yl (dA:=NY) (a:=(v,i,(ym n,cT 1))) hg ⟨q1,q2,hh⟩) rfl
end
section
variable {K:Oo}
theorem B5 {α:Type} (xs:List α) (k:Nat):EV.cutD xs none (some (k:Int))=xs.take k:=by
 unfold EV.cutD
 rw [HT.yN,HT.CD,TM,Nat.sub_zero]
 rcases Nat.le_total k xs.length with h | h
 ·rw [RN h]
 ·rw [Nat.min_eq_right h,QI (Ot _),QI h]
noncomputable def lP (ns:List Int) (a m:Nat):List (List aF):=(Pd m).map λk=>(lM (o7 ns (a+k))).take 2
noncomputable def rT:Fn:=λds r=>∃ (ns:List Int) (a m:Nat),m<=100/\a<=1000/\ds=[.lst (ns.map .int),.int (a:Int),.int (m:Int)]/\r=.ok (.va (.tup ((lP ns a m).map af)))
theorem B6 (ns:List Int) {a m:Nat} (h:m<=100) (ha:a<=1000):rT [.lst (ns.map .int),.int (a:Int),.int (m:Int)] (.ok (.va (.tup ((lP ns a m).map af)))):=⟨ns,a,m,h,ha,rfl,rfl⟩
theorem Jg {f:Addr} {fd:FuncData} (Fu:eG K "_law_short" "_law_short" (top 39) f fd) (T:Txt K mg) (h1:cU P w K mg base 2 "_law_digits" EK) (h2:cU P w K mg base 2 "_law_some" v5):br P w K mg base (dD P w) 3 f fd ["_law_script","_law_at","_law_many"] (dS K rT):=by
 refine cB Fu tS (by rintro ds r ⟨ns,a,m,_,_,rfl,_⟩; rfl) (by rintro ds r ⟨ns,a,m,_,_,_,rfl⟩; exact ⟨_,rfl⟩) λc hq ds sl hF=>?_
 obtain ⟨ns,a,m,hm,ha,rfl,e⟩:=hF
 injection e with e
 subst e
 show aG c _ [.va (.lst (ns.map .int)),.va (.int (a:Int)),.va (.int (m:Int))] _ _
 conv in (av _)=>whnf
 refine ay (cC (yu (jZ (Txt.tuple T) (e_x (cW hq (N':=["_law_k","_law_script","_law_at"]) (ρ0:=λ_=>[.un,.va (.lst (ns.map .int)),.va (.int (a:Int))]) (λt=>.un (.fr (by walk_at "at") (by walk_at "at") (by decide) rfl (.fr (by walk_at "at") (by walk_at "at") (by decide) rfl .nil))) (iP (Txt.range T) ?_))))))
 walk_at "ev"
 ·exact ⟨by omega,by omega⟩
 ·rw [je]; exact pC (by omega)
 rw [O0]
 refine ⟨(lP ns a m).map λA=>some (af A),by simp [je,lP],?_,?_⟩
 ·intro c3 hc3 t k d o hd ho
  obtain ⟨hk,rfl⟩:=oh hd
  unfold lP at ho
  rw [OE,OE,RE hk] at ho
  cases ho
  refine cV (by walk_at "at") (sI (by walk_at "sset") ⟨.un (.same (.same .nil)),?_⟩)
  simp only [jo]
  refine ⟨λ_=>?_,λh=>by cases h⟩
  refine qa (aV (F:=v5) h2 (by decide) (bx (aV (F:=EK) h1 (by decide) ?_)))
  walk_at "ev"
  rw [show (a:Int)+(k:Int)=((a+k:Nat):Int) by omega]
  refine aj (Li ns (a+k)) (cz ?_)
  walk_at "ev"
  refine aj (IV _) (aJ ?_)
  walk_at "ev"
  show some (D.lst (((lM (o7 ns (a+k))).take 2).map aO))=some (D.lst _)
  rw [show EV.cutD ((lM (o7 ns (a+k))).map aO) none (some 2)=_ from B5 _ 2,List.map_take]
 ·rw [cO af]
  walk_at "ev"
  rfl
noncomputable def g6 (u:T6×T3):List Part:=[(1,[u.1.1,u.2.1,u.2.1]),(1,[u.1.2.1,u.2.1,u.2.2.1]),(1,[u.1.2.2.1,u.2.2.1,u.2.2.1]),(1,[u.1.2.2.2.1,u.2.1,u.2.2.2]),(1,[u.1.2.2.2.2.1,u.2.2.1,u.2.2.2]),(1,[u.1.2.2.2.2.2,u.2.2.2,u.2.2.2])]
noncomputable abbrev JB:=Fw (A2 D6 D3) (λu=>ai (g6 u)) (λu=>EN (g6 u))
section
local macro_rules | `(tactic| walk_at "evXC")=> `(tactic| first | with_reducible refine x_call (x:=Om "_law_sum") (F:=mj) (by assumption) (by decide) ?_)
theorem Lx {ff:Addr} {fd:FuncData} (Fu:eG K "_law_curve_at" "_law_curve_at" (top 41) ff fd) (h1:cU P w K mg base 3 "_law_sum" mj):br P w K mg base (dD P w) 4 ff fd ["_law_v","_law_i"] (dS K JB):=by
 refine cB Fu mh (iF λ_=>rfl) lN λk hq ds sl hF=>?_
 obtain ⟨⟨⟨a,b,c,d,e,f⟩,⟨x,y,z⟩⟩,hh,rfl,ee⟩:=hF
 injection ee with ee
 subst ee
 show aG k _ [.va (.tup [af a,af b,af c,af d,af e,af f]),.va (.tup [af x,af y,af z]),.un,.un,.un,.un] _ _
 conv in (av _)=>whnf
 refine ay ?_
 generalize hG:(λρ'=>aG k _ ρ' _ _)=G
 walk_at "ev"
 subst hG
 refine ay ?_
 generalize hG:(λρ'=>aG k _ ρ' _ _)=G
 walk_at "ev"
 subst hG
 refine eX 5 (d0:=.lst ([(1,[a,x,x]),(1,[b,x,y]),(1,[c,y,y])].map jf)) (by walk_at "at") rfl (by walk_at "sset") ?_
 walk_at "ev"
 exact aj (jg (ps:=g6 ((a,b,c,d,e,f),(x,y,z))) hh) rfl
end
noncomputable def eE (u:T3×T3):List Part:=[(1,[u.1.1,u.2.1]),(1,[u.1.2.1,u.2.2.1]),(1,[u.1.2.2,u.2.2.2])]
noncomputable abbrev JC:=Fw (A2 D3 D3) (λu=>ai (eE u)) (λu=>EN (eE u))
theorem Ly {ff:Addr} {fd:FuncData} (Fu:eG K "_law_line_at" "_law_line_at" (top 42) ff fd) (T:Txt K mg) (h1:cU P w K mg base 3 "_law_sum" mj):br P w K mg base (dD P w) 4 ff fd ["_law_l","_law_i"] (dS K JC):=by
 refine cB Fu oX (iF λ_=>rfl) lN λk hq ds sl hF=>?_
 obtain ⟨⟨⟨a,b,c⟩,⟨x,y,z⟩⟩,hh,rfl,ee⟩:=hF
 injection ee with ee
 subst ee
 show aG k _ [.va (.tup [af a,af b,af c]),.va (.tup [af x,af y,af z])] _ _
 conv in (av _)=>whnf
 walk_at "evSs"
 refine cC (x_call (F:=mj) h1 (by decide) (bx (e_x (cW hq (N':=["_law_k","_law_l","_law_i"]) (ρ0:=λ_=>[.un,.va (.tup [af a,af b,af c]),.va (.tup [af x,af y,af z])]) (λt=>.un (.fr (by walk_at "at") (by walk_at "at") (by decide) rfl (.fr (by walk_at "at") (by walk_at "at") (by decide) rfl .nil))) (iP (Txt.range T) ?_)))))
 walk_at "ev"
 ·exact ⟨by decide,by decide⟩
 refine ⟨[some (jf (1,[a,x])),some (jf (1,[b,y])),some (jf (1,[c,z]))],rfl,?_,aJ ?_⟩
 ·intro c3 hc3 t j d o hd ho
  match j,hd,ho with
  | 0,hd,ho =>
   cases hd; cases ho
   refine cV (by walk_at "at") (sI (by walk_at "sset") ⟨.un (.same (.same .nil)),?_⟩)
   simp only [jo]
   refine ⟨λ_=>?_,λh=>by cases h⟩
   walk_at "ev"
   rfl
  | 1,hd,ho =>
   cases hd; cases ho
   refine cV (by walk_at "at") (sI (by walk_at "sset") ⟨.un (.same (.same .nil)),?_⟩)
   simp only [jo]
   refine ⟨λ_=>?_,λh=>by cases h⟩
   walk_at "ev"
   rfl
  | 2,hd,ho =>
   cases hd; cases ho
   refine cV (by walk_at "at") (sI (by walk_at "sset") ⟨.un (.same (.same .nil)),?_⟩)
   simp only [jo]
   refine ⟨λ_=>?_,λh=>by cases h⟩
   walk_at "ev"
   rfl
 ·walk_at "ev"
  exact aj (jg hh) rfl
noncomputable def bare (A:List aF):List aF:=A.map λt=>([],t.2)
noncomputable def L7 (ns:List Int) (a:Nat):List (List aF):=(lP ns a 3).map λA=>bg (bare A)
noncomputable def Lz:Fn:=λds r=>∃ (ns:List Int) (a:Nat),a<=1000/\ds=[.lst (ns.map .int),.int (a:Int)]/\r=.ok (.va (.tup ((L7 ns a).map af)))
theorem Nk (ns:List Int) {a:Nat} (h:a<=1000):Lz [.lst (ns.map .int),.int (a:Int)] (.ok (.va (.tup ((L7 ns a).map af)))):=⟨ns,a,h,rfl,rfl⟩
theorem EY (ns:List Int) (a m:Nat):∀ A∈lP ns a m,A.length<=2:=λA hA=>by
 obtain ⟨k,_,rfl⟩:=O1.mp hA
 rw [Pp]; exact Nat.min_le_left _ _
theorem LA {ff:Addr} {fd:FuncData} (Fu:eG K "_law_flat" "_law_flat" (top 40) ff fd) (T:Txt K mg) (h1:cU P w K mg base 3 "_law_short" rT) (h2:cU P w K mg base 1 "_law_plain" jV):br P w K mg base (dD P w) 4 ff fd ["_law_script","_law_at"] (dS K Lz):=by
 refine cB Fu yb (by rintro ds r ⟨ns,a,_,rfl,_⟩; rfl) (by rintro ds r ⟨ns,a,_,_,rfl⟩; exact ⟨_,rfl⟩) λc hq ds sl hF=>?_
 obtain ⟨ns,a,ha,rfl,ee⟩:=hF
 injection ee with ee
 subst ee
 show aG c _ [.va (.lst (ns.map .int)),.va (.int (a:Int)),.un,.un] _ _
 conv in (av _)=>whnf
 refine ay ?_
 generalize hG:(λρ'=>aG c _ ρ' _ _)=G
 walk_at "ev"
 subst hG
 refine ay ?_
 with_reducible refine dY hq (cM (aV (F:=rT) h1 (by decide) ?_))
 walk_at "ev"
 refine aj (B6 ns (m:=3) (by decide) ha) (cz ?_)
 refine ⟨_,rfl,?_⟩
 have hl:(lP ns a 3).length=3:=by simp [lP]
 refine ⟨λi ρ'=>∃ s3:Sl,s3.NN=false/\ρ'=[.va (.lst (ns.map .int)),.va (.int (a:Int)),.ow (((lP ns a 3).take i).map λA=>af (bg (bare A))),s3],⟨_,rfl,rfl⟩,?_,?_⟩
 ·rintro c' rX Cr Cs i dd ρ' hd ⟨s3,h3,rfl⟩
  have hq':c'.X.xe=λ_ _=>False:=by rw [rX]; exact hq
  simp only [OE,OL] at hd
  obtain ⟨A,hA,rfl⟩:=hd
  have h2':=EY ns a 3 A (Py hA)
  have hi:i<3:=by rw [<- hl]; exact (OH.mp hA).1
  refine cV (by walk_at "at") (sI (by walk_at "sset") ?_)
  refine ay (sJ (by walk_at "at") (by walk_at "at") (by walk_at "own") (aV (F:=jV) h2 (by decide) (bx (e_x (cW hq' (N':=["_law_powers","_law_count"]) (ρ0:=λ_=>[.un,.un]) (λt=>.un (.un .nil)) (cM ?_))))))
  generalize hG:(λρ'=>aG c' _ ρ' _ _)=G
  walk_at "ev"
  ·exact pC (by rw [Ox]; lia)
  refine ⟨A.map λt=>some (aO ([],t.2)),by simp,?_,aJ ?_⟩
  ·intro c3 hc t n d o hd ho
   simp only [OE,OL] at hd ho
   obtain ⟨x,hx,rfl⟩:=hd
   obtain ⟨x',hx',rfl⟩:=ho
   rw [hx] at hx'; cases hx'
   show uS _ _ _ _ _ (.tup [.tup (x.1.map .int),.int x.2]) _
   refine uJ rfl (by walk_at "u") ?_
   walk_at "ev"
   refine ⟨.un (.un .nil),?_⟩
   simp only [jo]
   refine ⟨λ_=>?_,λh=>by cases h⟩
   walk_at "ev"
   rfl
  ·have e3:(A.map λt=>some (aO ([],t.2))).filterMap id=(bare A).map aO:=by
    rw [cO λt:aF=>aO ([],t.2)]; unfold bare; rw [OQ]; rfl
   rw [e3]
   walk_at "ev"
   refine aj (lI (by unfold bare; rw [Ox]; lia) λt ht=>?_) (aJ ?_)
   ·obtain ⟨x,_,rfl⟩:=O1.mp ht
    exact OV _
   walk_at "ev"
   ·exact jE (by rw [Ox,Pp]; have:=Nat.min_le_left i (lP ns a 3).length; lia)
   subst hG
   walk_at "ev"
   refine ⟨.va (af A),rfl,?_⟩
   rw [Tf,hA,Pu]
   rfl
 ·rintro ρ' ⟨s3,h3,rfl⟩
  refine eX 2 (d0:=.lst ((L7 ns a).map af)) (by walk_at "at") (by
   rw [QI (by rw [Ox]; exact Ot _)]
   unfold L7; rw [OQ]; rfl) (by walk_at "sset") ?_
  walk_at "ev"
  rfl
end
section
variable {P:Program} {w:World} {K:Oo} {mg:Str->Option Value} {base:Heap}
theorem EZ {v:T6} {i:T3} (h:ai (g6 (v,i))):JB [D6 v,D3 i] (.ok (.ow ((tt (g6 (v,i))).map aO))):=L3 (a:=(v,i)) h
theorem yo {l i:T3} (h:ai (eE (l,i))):JC [D3 l,D3 i] (.ok (.ow ((tt (eE (l,i))).map aO))):=L3 (a:=(l,i)) h
structure E0 (v:T6) (l i t:T3):Prop where
 g:ai (dz v l)
 a:ai (eE (l,t))
 b:ai (eE (l,i))
 c:ai [(1,[tt (dz v l),tt (eE (l,i))])]
 d:ai (g6 (v,t))
 e:ai (g6 (v,i))
 f:ai [(1,[tt (dz v l),tt (dz v l),tt (g6 (v,i))])]
 y:tt (eE (l,t))=tt [(1,[tt (dz v l),tt (eE (l,i))])]
 z:tt (g6 (v,t))=tt [(1,[tt (dz v l),tt (dz v l),tt (g6 (v,i))])]
noncomputable def L8:Fn:=λds r=>∃ (v:T6) (l i t:T3),E0 v l i t/\ds=[D6 v,D3 l,D3 i,D3 t]/\r=.ok (.va (.bl true))
theorem LB {v:T6} {l i t:T3} (h:E0 v l i t):L8 [D6 v,D3 l,D3 i,D3 t] (.ok (.va (.bl true))):=⟨v,l,i,t,h,rfl,rfl⟩
section
local macro_rules | `(tactic| walk_at "evCa")=> `(tactic| first
 | with_reducible refine aV (F:=mj) (by assumption) (by decide) ?_
 | with_reducible refine aV (F:=JB) (by assumption) (by decide) ?_
 | with_reducible refine aV (F:=JC) (by assumption) (by decide) ?_)
local macro_rules | `(tactic| walk_at "evIx")=> `(tactic| first | ((with_reducible show aH _ (Qa _ (Sg _ _ _) _) _ _); with_reducible refine qb ?_))
theorem LC {ff:Addr} {fd:FuncData} (Fu:eG K "_law_again" "_law_again" (top 43) ff fd) (h1:cU P w K mg base 3 "_law_sum" mj) (h2:cU P w K mg base 4 "_law_curve_at" JB) (h3:cU P w K mg base 4 "_law_line_at" JC):br P w K mg base (dD P w) 5 ff fd ["_law_v","_law_l","_law_i","_law_told"] (dS K L8):=by
 refine cB Fu tT (by rintro ds r ⟨v,l,i,t,_,rfl,_⟩; rfl) (by rintro ds r ⟨v,l,i,t,_,_,rfl⟩; exact ⟨_,rfl⟩) λc hq ds sl hF=>?_
 obtain ⟨v,l,i,t,hh,rfl,ee⟩:=hF
 injection ee with ee
 subst ee
 show aG c _ [.va (D6 v),.va (D3 l),.va (D3 i),.va (D3 t),.un,.un,.un] _ _
 conv in (av _)=>whnf
 refine ay ?_
 generalize hG:(λρ'=>aG c _ ρ' _ _)=G
 walk_at "ev"
 subst hG
 refine ay ?_
 generalize hG:(λρ'=>aG c _ ρ' _ _)=G
 walk_at "ev"
 refine aj (jg (ps:=dz v l) hh.g) (aJ ?_)
 walk_at "ev"
 subst hG
 refine ay ?_
 generalize hG:(λρ'=>aG c _ ρ' _ _)=G
 walk_at "ev"
 refine aj (yo hh.a) (aJ ?_)
 walk_at "ev"
 refine aj (yo hh.b) (aJ ?_)
 walk_at "ev"
 refine aj (jg (ps:=[(1,[tt (dz v l),tt (eE (l,i))])]) hh.c) (aJ ?_)
 rw [hh.y]
 refine fD (gP _ _) ?_
 walk_at "ev"
 subst hG
 walk_at "ev"
 refine aj (EZ hh.d) (aJ ?_)
 walk_at "ev"
 refine aj (EZ hh.e) (aJ ?_)
 walk_at "ev"
 refine aj (jg (ps:=[(1,[tt (dz v l),tt (dz v l),tt (g6 (v,i))])]) hh.f) (aJ ?_)
 rw [hh.z]
 refine fD (gP _ _) ?_
 rfl
end
end
section
variable {P:Program} {w:World} {K:Oo} {mg:Str->Option Value} {base:Heap}
structure Lm (l:Nat) (e:Int) (b:Nat) (A:List aF):Prop where
 l:A.length<=l
 e:Ex e A
 b:Bn b A
theorem Lm.lJ (h:Lm la ea ba A) (hl:la<2 ^ 20:=by decide):Lm la ea (ba+20) (bg A):=⟨OD (lz _) h.l,h.e.lJ,h.b.lJ (Qx h.l hl)⟩
theorem Lm.mono (h:Lm la ea ba A) (h1:la<=lb:=by decide) (h2:ea<=eb:=by decide) (h3:ba<=bb:=by decide):Lm lb eb bb A:=⟨OD h.l h1,h.e.mono h2,h.b.mono h3⟩
theorem Lm.app (h:Lm la ea ba A) (g:Lm lb ea ba B):Lm (la+lb) ea ba (A++B):=⟨by rw [O7]; exact Nat.add_le_add h.l g.l,h.e.app g.e,λt ht=>(OZ.mp ht).elim (h.b t) (g.b t)⟩
theorem Lm.prod (h:Lm la ea ba A) (g:Lm lb eb bb B) (h0:0<=ea:=by decide) (g0:0<=eb:=by decide):Lm (la * lb) (ea+eb) (ba+bb) (aM A B):=⟨by rw [c8]; exact Rg h.l g.l,h.e.prod h0 g0 g.e,h.b.prod g.b⟩
theorem Lm.Ma (h:Lm la ea ba A) (h1:la<=400000:=by decide) (h2:ea<=120:=by decide) (h3:ba<=2000:=by decide):cH A:=⟨OD h.l h1,h.e.mono h2,h.b.mono h3⟩
theorem Lm.nil:Lm la ea ba []:=⟨OV _,(λt ht=>by cases ht),λt ht=>by cases ht⟩
theorem Lm.con (hn:n.natAbs<2 ^ ba):Lm 1 0 ba (cT n):=⟨Ot _,(λt ht=>by cases OG.mp ht; exact ⟨OV _,λx hx=>by cases hx⟩),λt ht=>by cases OG.mp ht; exact hn⟩
theorem N3 (h:A.length<=l) (h1:1<=l):bH [A]<=l:=by
 show max A.length 1 * 1<=l; omega
theorem N4 (h:A.length<=l) (h1:1<=l) (g:B.length<=m) (g1:1<=m):bH [A,B]<=l * m:=Rg (show max A.length 1<=l by omega) (N3 g g1)
theorem Oj (h:A.length<=l) (h1:1<=l) (g:B.length<=m) (g1:1<=m) (f:C.length<=n) (f1:1<=n):bH [A,B,C]<=l * (m * n):=Rg (show max A.length 1<=l by omega) (N4 g g1 f f1)
theorem Jh {ps:List Part} (h:∀ p∈ps,p.1.natAbs<1000/\p.2.length<=8/\∀ A∈p.2,cH A) (hl:ps.length<=1000) (hs:(ps.map λp=>bH p.2).sum<=400000):ai ps :=
 ⟨λp hp=>⟨Ph (h p hp).1 (OD (by decide:1000<=2 ^ 10) (Uy (by decide) (by decide))),(h p hp).2.1,(h p hp).2.2⟩,hl,hs⟩
structure Vt (A:List aF):Prop where
 s:NX A
 c:bg A=A
theorem cg (p:Part) (ps):mp (cK (p::ps))=(p.1:MP) * oZ p.2+mp (cK ps):=by
 unfold cK
 rw [RK,jB,fR]
theorem bU:mp (cK [])=0:=by
 have h:mp ([]:List aF)=mp []+mp []:=jB [] []
 show mp ([]:List aF)=0
 grind
theorem cj (A) (As):oZ (A::As)=mp A * oZ As:=rfl
theorem ck:oZ []=1:=rfl
abbrev Dm (l:Nat) (e:Int) (b:Nat):Prop:=1<=l/\l<=400000/\0<=e/\e<=120/\b<=2000
structure PB (l:Nat) (e:Int) (b:Nat) (p:Part):Prop where
 n:p.1.natAbs<1000
 c:p.2.length<=8
 f:∀ A∈p.2,cH A
 k:bH p.2<=l
 m:Lm l e b (fQ p.1 p.2)
section
variable {n:Int}
theorem Lm.fa (h:Lm la ea ba A) (d:Dm la ea ba):cH A:=h.Ma d.2.1 d.2.2.2.1 d.2.2.2.2
theorem Nl (h:n.natAbs<1000):n.natAbs<2 ^ 20:=Ph h (by decide)
theorem Mb (hn:n.natAbs<1000) (hA:Lm la ea ba A) (dA:Dm la ea ba:=by decide):PB (1 * la) (0+ea) (20+ba) (n,[A]) :=
 ⟨hn,by show (1:Nat)<=8; decide,by simp [hA.fa dA],by have:=N3 hA.l dA.1; show bH [A]<=1 * la; lia,(Lm.con (ba:=20) (Nl hn)).prod hA (by decide) dA.2.2.1⟩
theorem rV (hn:n.natAbs<1000) (hA:Lm la ea ba A) (hB:Lm lb eb bb B) (dA:Dm la ea ba:=by decide) (dB:Dm lb eb bb:=by decide):PB (1 * la * lb) (0+ea+eb) (20+ba+bb) (n,[A,B]) :=
 ⟨hn,by show (2:Nat)<=8; decide,by simp [hA.fa dA,hB.fa dB],by rw [Nat.one_mul]; exact N4 hA.l dA.1 hB.l dB.1,((Lm.con (ba:=20) (Nl hn)).prod hA (by decide) dA.2.2.1).prod hB (by have:=dA.2.2.1; lia) dB.2.2.1⟩
theorem Nm (hn:n.natAbs<1000) (hA:Lm la ea ba A) (hB:Lm lb eb bb B) (hC:Lm lc ec bc C) (dA:Dm la ea ba:=by decide) (dB:Dm lb eb bb:=by decide) (dC:Dm lc ec bc:=by decide):PB (1 * la * lb * lc) (0+ea+eb+ec) (20+ba+bb+bc) (n,[A,B,C]) :=
 ⟨hn,by show (3:Nat)<=8; decide,by simp [hA.fa dA,hB.fa dB,hC.fa dC],by rw [Nat.one_mul,Nat.mul_assoc]; exact Oj hA.l dA.1 hB.l dB.1 hC.l dC.1,(((Lm.con (ba:=20) (Nl hn)).prod hA (by decide) dA.2.2.1).prod hB (by have:=dA.2.2.1; lia) dB.2.2.1).prod hC (by have:=dA.2.2.1; have:=dB.2.2.1; lia) dC.2.2.1⟩
theorem PB.mono {p:Part} (h:PB la ea ba p) (h1:la<=lb:=by decide) (h2:ea<=eb:=by decide) (h3:ba<=bb:=by decide):PB lb eb bb p:=⟨h.n,h.c,h.f,OD h.k h1,h.m.mono h1 h2 h3⟩
theorem ue {ps:List Part} (h:∀ p∈ps,PB la ea ba p) (hl:ps.length<=1000:=by decide) (hs:ps.length * la<=400000:=by decide):ai ps/\Lm (ps.length * la) ea (ba+20) (tt ps):=by
 have h1:∀ qs:List Part,(∀ p∈qs,p∈ps)->(qs.map λp=>bH p.2).sum<=qs.length * la/\Lm (qs.length * la) ea ba (cK qs):=λqs=>by
  induction qs with
  | nil=>exact λ_=>⟨OV _,Lm.nil⟩
  | cons q qs ih =>
   intro hq
   have i:=ih λp hp=>hq p (OJ _ hp)
   have g:=h q (hq q OI)
   have e:(q::qs).length * la=la+qs.length * la:=by rw [Pa,RP,Nat.add_comm]
   rw [e]
   refine ⟨?_,?_⟩
   ·rw [OA,QB]; exact Nat.add_le_add g.k i.1
   ·unfold cK
    rw [RK]
    exact g.m.app i.2
 have h2:=h1 ps λ_ q=>q
 exact ⟨Jh (λp hp=>⟨(h p hp).n,(h p hp).c,(h p hp).f⟩) hl (OD h2.1 hs),h2.2.lJ (by lia)⟩
end
end
section
variable {P:Program} {w:World} {K:Oo} {mg:Str->Option Value} {base:Heap}
theorem aP {la:Nat} {ea:Int} {ba:Nat} {ps:List Part} (k:Nat) (h:∀ p∈ps,PB la ea ba p) (hk:(ps.length * la).ble k=true:=by rfl) (h1:ps.length.ble 1000=true:=by rfl) (h4:k<=400000:=by decide):ai ps/\Lm k ea (ba+20) (tt ps) :=
 have g:=ue h (Q0 h1) (OD (Q0 hk) h4)
 ⟨g.1,g.2.mono (Q0 hk) (PR _) (Ot _)⟩
theorem eO {α:Type} {Q:α->Prop}:∀ q∈([]:List α),Q q:=λq h=>by cases h
theorem bD {α:Type} {Q:α->Prop} {p:α} {ps:List α} (h:Q p) (t:∀ q∈ps,Q q):∀ q∈p::ps,Q q:=List.forall_mem_cons.mpr ⟨h,t⟩
structure Q3 (l:Nat) (e:Int) (b:Nat) (s:T3):Prop where
 p:Lm l e b s.1
 q:Lm l e b s.2.1
 r:Lm l e b s.2.2
structure Q6 (l:Nat) (e:Int) (b:Nat) (s:T6):Prop where
 m1:Lm l e b s.1
 m2:Lm l e b s.2.1
 m3:Lm l e b s.2.2.1
 m4:Lm l e b s.2.2.2.1
 m5:Lm l e b s.2.2.2.2.1
 m6:Lm l e b s.2.2.2.2.2
theorem Q3.mono {la lb:Nat} {ea eb:Int} {ba bb:Nat} (h:Q3 la ea ba s) (h1:la<=lb:=by decide) (h2:ea<=eb:=by decide) (h3:ba<=bb:=by decide):Q3 lb eb bb s:=⟨h.p.mono h1 h2 h3,h.q.mono h1 h2 h3,h.r.mono h1 h2 h3⟩
theorem F1 (h:Q3 2 2 120 s) (g:Q3 1 0 120 t):(∀ ps∈v7 (s,t),ai ps)/\Q3 4 2 300 (cL s t):=by
 have u:∀ {n:Int} {A B:List aF},n.natAbs<1000->Lm 2 2 120 A->Lm 1 0 120 B->PB 2 2 280 (n,[A,B]):=λhn hA hB=>(rV hn hA hB).mono
 have e1:=aP 4 (bD (u (n:=1) (by decide) h.q g.r) (bD (u (n:= -1) (by decide) h.r g.q) eO))
 have e2:=aP 4 (bD (u (n:=1) (by decide) h.r g.p) (bD (u (n:= -1) (by decide) h.p g.r) eO))
 have e3:=aP 4 (bD (u (n:=1) (by decide) h.p g.q) (bD (u (n:= -1) (by decide) h.q g.p) eO))
 exact ⟨bD e1.1 (bD e2.1 (bD e3.1 eO)),e1.2,e2.2,e3.2⟩
theorem B7 (h:Q3 1 0 120 s) (g:Q3 1 0 120 t):(∀ ps∈v7 (s,t),ai ps)/\Q3 2 0 300 (cL s t):=by
 have u:∀ {n:Int} {A B:List aF},n.natAbs<1000->Lm 1 0 120 A->Lm 1 0 120 B->PB 1 0 280 (n,[A,B]):=λhn hA hB=>(rV hn hA hB).mono
 have e1:=aP 2 (bD (u (n:=1) (by decide) h.q g.r) (bD (u (n:= -1) (by decide) h.r g.q) eO))
 have e2:=aP 2 (bD (u (n:=1) (by decide) h.r g.p) (bD (u (n:= -1) (by decide) h.p g.r) eO))
 have e3:=aP 2 (bD (u (n:=1) (by decide) h.p g.q) (bD (u (n:= -1) (by decide) h.q g.p) eO))
 exact ⟨bD e1.1 (bD e2.1 (bD e3.1 eO)),e1.2,e2.2,e3.2⟩
theorem LD (h:Q3 4 2 300 s) (g:Q3 2 2 120 t):ai (t8 (s,t))/\Lm 24 4 460 (IY s t):=by
 have u:∀ {A B:List aF},Lm 4 2 300 A->Lm 2 2 120 B->PB 8 4 440 (1,[A,B]):=λhA hB=>(rV (by decide) hA hB).mono
 exact aP 24 (bD (u h.p g.p) (bD (u h.q g.q) (bD (u h.r g.r) eO)))
theorem Ji (h:Q3 2 0 300 s) (g:Q3 2 2 120 t):ai (t8 (s,t))/\Lm 12 2 460 (IY s t):=by
 have u:∀ {A B:List aF},Lm 2 0 300 A->Lm 2 2 120 B->PB 4 2 440 (1,[A,B]):=λhA hB=>(rV (by decide) hA hB).mono
 exact aP 12 (bD (u h.p g.p) (bD (u h.q g.q) (bD (u h.r g.r) eO)))
theorem F2 (h:Q3 4 2 300 s) (g:Q3 2 0 300 t) (f:Q3 2 2 120 i):(ai (t8 (s,i))/\ai (t8 (t,i))/\ai (FY ((s,t),i)))/\Lm 288 6 960 (uc s t i):=by
 have d1:=LD h f
 have d2:=Ji g f
 have e:=aP 288 (ps:=FY ((s,t),i)) (bD (rV (n:=1) (by decide) d1.2 d2.2) eO)
 exact ⟨⟨d1.1,d2.1,e.1⟩,e.2⟩
theorem F3 (h:Q3 4 2 300 s) (g:Q3 2 0 300 t):∀ ps∈iG (s,t),ai ps/\Lm 16 2 640 (tt ps):=by
 have u:∀ {A B:List aF},Lm 4 2 300 A->Lm 2 0 300 B->PB 8 2 620 (1,[A,B]):=λhA hB=>(rV (by decide) hA hB).mono
 exact bD (aP 16 (bD (u h.p g.p) eO)) (bD (aP 16 (bD (u h.p g.q) (bD (u h.q g.p) eO))) (bD (aP 16 (bD (u h.q g.q) eO)) (bD (aP 16 (bD (u h.p g.r) (bD (u h.r g.p) eO))) (bD (aP 16 (bD (u h.q g.r) (bD (u h.r g.q) eO))) (bD (aP 16 (bD (u h.r g.r) eO)) eO)))))
theorem LF (hi:Q3 2 2 120 i) (hj:Q3 1 0 120 j) (hk:Q3 1 0 120 k) (hl:Q3 1 0 120 l) (hm:Q3 2 2 120 m):B3 i j k l m/\∀ ps∈v9 i j k l m,Lm 9216 8 1640 (tt ps):=by
 have ij:=F1 hi hj
 have ik:=F1 hi hk
 have kl:=B7 hk hl
 have jl:=B7 hj hl
 have w1:=F2 ij.2 kl.2 hm
 have w2:=F2 ik.2 jl.2 hm
 have u:∀ {n:Int} {A B:List aF},n.natAbs<1000->Lm 288 6 960 A->Lm 16 2 640 B->PB 4608 8 1620 (n,[A,B]):=λhn hA hB=>(rV hn hA hB).mono
 have key:∀ {A B:List aF} {X Y:List (List Part)},Lm 288 6 960 A->Lm 288 6 960 B->(∀ ps∈X,ai ps/\Lm 16 2 640 (tt ps))->(∀ ps∈Y,ai ps/\Lm 16 2 640 (tt ps))->∀ ps∈Cp A B X Y,ai ps/\Lm 9216 8 1640 (tt ps):=λhA hB hX hY ps hp=>by
  obtain ⟨n,hn⟩:=Q5 hp
  obtain ⟨p,q,e1,e2,rfl⟩:=Sy.mp hn
  exact aP 9216 (bD (u (n:=1) (by decide) hB (hX p (Py e1)).2) (bD (u (n:= -1) (by decide) hA (hY q (Py e2)).2) eO))
 have p1:=F3 ij.2 kl.2
 have p2:=F3 ik.2 jl.2
 have f:=key w1.2 w2.2 p1 p2
 exact ⟨⟨ij.1,kl.1,ik.1,jl.1,w1.1,w2.1,λps h=>(p1 ps h).1,λps h=>(p2 ps h).1,λps h=>(f ps h).1⟩,λps h=>(f ps h).2⟩
theorem we {a n:Nat} {eo ei:Int} {bo bi:Nat} (ho:Q6 a eo bo v) (hi:Q3 n ei bi i) (dm:Dm a eo bo:=by decide) (dn:Dm n ei bi:=by decide) (h:6 * (1 * a * n * n)<=400000:=by decide):ai (g6 (v,i))/\Lm (6 * (1 * a * n * n)) (0+eo+ei+ei) (20+bo+bi+bi+20) (tt (g6 (v,i))):=by
 have g:∀ {A B C:List aF},Lm a eo bo A->Lm n ei bi B->Lm n ei bi C->PB (1 * a * n * n) (0+eo+ei+ei) (20+bo+bi+bi) (1,[A,B,C]):=λhA hB hC=>Nm (by decide) hA hB hC dm dn dn
 exact ue (ps:=g6 (v,i)) (bD (g ho.m1 hi.p hi.p) (bD (g ho.m2 hi.p hi.q) (bD (g ho.m3 hi.q hi.q) (bD (g ho.m4 hi.p hi.r) (bD (g ho.m5 hi.q hi.r) (bD (g ho.m6 hi.r hi.r) eO)))))) (by show (6:Nat)<=1000; decide) h
theorem nJ {a n:Nat} {eo ei:Int} {bo bi:Nat} (ho:Q3 a eo bo l) (hi:Q3 n ei bi i) (dm:Dm a eo bo:=by decide) (dn:Dm n ei bi:=by decide) (h:3 * (1 * a * n)<=400000:=by decide):ai (eE (l,i))/\Lm (3 * (1 * a * n)) (0+eo+ei) (20+bo+bi+20) (tt (eE (l,i))):=by
 have g:∀ {A B:List aF},Lm a eo bo A->Lm n ei bi B->PB (1 * a * n) (0+eo+ei) (20+bo+bi) (1,[A,B]):=λhA hB=>rV (by decide) hA hB dm dn
 exact ue (ps:=eE (l,i)) (bD (g ho.p hi.p) (bD (g ho.q hi.q) (bD (g ho.r hi.r) eO))) (by show (3:Nat)<=1000; decide) h
end
theorem bQ (ps:List Part):mp (tt ps)=mp (cK ps):=vM _
theorem LG:mp ([]:List aF)=0:=bU
theorem kc {ps:List Part} (h:mp (cK ps)=0):tt ps=[]:=cE (B:=[]) (h.trans LG.symm)
noncomputable def E1 (X:List (List Part)):T6:=(tt (X.getD 0 []),tt (X.getD 1 []),tt (X.getD 2 []),tt (X.getD 3 []),tt (X.getD 4 []),tt (X.getD 5 []))
noncomputable def dv (s i:T3):MP:=mp s.1 * mp i.1+mp s.2.1 * mp i.2.1+mp s.2.2 * mp i.2.2
theorem nK (s i:T3):mp (tt (eE (s,i)))=dv s i:=by
 obtain ⟨a,b,c⟩:=s
 obtain ⟨x,y,z⟩:=i
 show mp (tt [(1,[a,x]),(1,[b,y]),(1,[c,z])])=mp a * mp x+mp b * mp y+mp c * mp z
 simp only [cg,bU,cj,ck,bQ]
 grind
theorem F4 (s t i:T3):mp (uc s t i)=dv s i * dv t i:=by
 have h:∀ u:T3,mp (IY u i)=dv u i:=λu=>by
  obtain ⟨a,b,c⟩:=u
  obtain ⟨x,y,z⟩:=i
  show mp (tt [(1,[a,x]),(1,[b,y]),(1,[c,z])])=mp a * mp x+mp b * mp y+mp c * mp z
  simp only [cg,bU,cj,ck,bQ]
  grind
 show mp (tt [(1,[IY s i,IY t i])])=_
 simp only [cg,bU,cj,ck,bQ,h]
 grind
theorem wg (s t:T3):dv (cL s t) s=0/\dv (cL s t) t=0:=by
 obtain ⟨a,b,c⟩:=s
 obtain ⟨x,y,z⟩:=t
 have e1:mp (tt [(1,[b,z]),(-1,[c,y])])=mp b * mp z - mp c * mp y:=by
  simp only [cg,bU,cj,ck,bQ]
  grind
 have e2:mp (tt [(1,[c,x]),(-1,[a,z])])=mp c * mp x - mp a * mp z:=by
  simp only [cg,bU,cj,ck,bQ]
  grind
 have e3:mp (tt [(1,[a,y]),(-1,[b,x])])=mp a * mp y - mp b * mp x:=by
  simp only [cg,bU,cj,ck,bQ]
  grind
 refine ⟨?_,?_⟩
 ·show mp (tt [(1,[b,z]),(-1,[c,y])]) * mp a+mp (tt [(1,[c,x]),(-1,[a,z])]) * mp b+mp (tt [(1,[a,y]),(-1,[b,x])]) * mp c=0
  rw [e1,e2,e3]
  grind
 ·show mp (tt [(1,[b,z]),(-1,[c,y])]) * mp x+mp (tt [(1,[c,x]),(-1,[a,z])]) * mp y+mp (tt [(1,[a,y]),(-1,[b,x])]) * mp z=0
  rw [e1,e2,e3]
  grind
noncomputable def cv (a b c d e f:MP) (i:T3):MP:=a * (mp i.1 * mp i.1)+b * (mp i.1 * mp i.2.1)+c * (mp i.2.1 * mp i.2.1)+d * (mp i.1 * mp i.2.2)+e * (mp i.2.1 * mp i.2.2)+f * (mp i.2.2 * mp i.2.2)
theorem wj (v:T6) (i:T3):mp (cK (g6 (v,i)))=cv (mp v.1) (mp v.2.1) (mp v.2.2.1) (mp v.2.2.2.1) (mp v.2.2.2.2.1) (mp v.2.2.2.2.2) i:=by
 obtain ⟨a,b,c,d,e,f⟩:=v
 obtain ⟨x,y,z⟩:=i
 show mp (cK [(1,[a,x,x]),(1,[b,x,y]),(1,[c,y,y]),(1,[d,x,z]),(1,[e,y,z]),(1,[f,z,z])])=mp a * (mp x * mp x)+mp b * (mp x * mp y)+mp c * (mp y * mp y)+mp d * (mp x * mp z)+mp e * (mp y * mp z)+mp f * (mp z * mp z)
 simp only [cg,bU,cj,ck]
 grind
theorem F5 (s t i:T3):cv (mp (tt ((iG (s,t)).getD 0 []))) (mp (tt ((iG (s,t)).getD 1 []))) (mp (tt ((iG (s,t)).getD 2 []))) (mp (tt ((iG (s,t)).getD 3 []))) (mp (tt ((iG (s,t)).getD 4 []))) (mp (tt ((iG (s,t)).getD 5 []))) i=dv s i * dv t i:=by
 obtain ⟨a,b,c⟩:=s
 obtain ⟨x,y,z⟩:=t
 obtain ⟨p,q,r⟩:=i
 show cv (mp (tt [(1,[a,x])])) (mp (tt [(1,[a,y]),(1,[b,x])])) (mp (tt [(1,[b,y])])) (mp (tt [(1,[a,z]),(1,[c,x])])) (mp (tt [(1,[b,z]),(1,[c,y])])) (mp (tt [(1,[c,z])])) (p,q,r)=(mp a * mp p+mp b * mp q+mp c * mp r) * (mp x * mp p+mp y * mp q+mp z * mp r)
 simp only [cg,bU,cj,ck,bQ,cv]
 grind
theorem Jj (A B:MP) (a b c d e f a' b' c' d' e' f':MP) (i:T3):cv (B * a - A * a') (B * b - A * b') (B * c - A * c') (B * d - A * d') (B * e - A * e') (B * f - A * f') i=B * cv a b c d e f i - A * cv a' b' c' d' e' f' i:=by
 unfold cv
 generalize mp i.1=x
 generalize mp i.2.1=y
 generalize mp i.2.2=z
 grind
theorem LH {A B:List aF} {X Y:List (List Part)} (hX:X.length=6) (hY:Y.length=6) (i:T3):mp (cK (g6 (E1 (Cp A B X Y),i)))=mp B * cv (mp (tt (X.getD 0 []))) (mp (tt (X.getD 1 []))) (mp (tt (X.getD 2 []))) (mp (tt (X.getD 3 []))) (mp (tt (X.getD 4 []))) (mp (tt (X.getD 5 []))) i - mp A * cv (mp (tt (Y.getD 0 []))) (mp (tt (Y.getD 1 []))) (mp (tt (Y.getD 2 []))) (mp (tt (Y.getD 3 []))) (mp (tt (Y.getD 4 []))) (mp (tt (Y.getD 5 []))) i:=by
 match X,hX,Y,hY with
 | [p0,p1,p2,p3,p4,p5],_,[q0,q1,q2,q3,q4,q5],_ =>
  have h:∀ p q:List Part,mp (tt [(1,[B,tt p]),(-1,[A,tt q])])=mp B * mp (tt p) - mp A * mp (tt q):=λp q=>by
   generalize tt p=P
   generalize tt q=Q
   simp only [cg,bU,cj,ck,bQ]
   grind
  rw [wj,<- Jj]
  show cv (mp (tt [(1,[B,tt p0]),(-1,[A,tt q0])])) (mp (tt [(1,[B,tt p1]),(-1,[A,tt q1])])) (mp (tt [(1,[B,tt p2]),(-1,[A,tt q2])])) (mp (tt [(1,[B,tt p3]),(-1,[A,tt q3])])) (mp (tt [(1,[B,tt p4]),(-1,[A,tt q4])])) (mp (tt [(1,[B,tt p5]),(-1,[A,tt q5])])) i=_
  rw [h,h,h,h,h,h]
  rfl
theorem Jk (i j k l m s:T3) (h:s=i\/s=j\/s=k\/s=l\/s=m):tt (g6 (E1 (v9 i j k l m),s))=[]:=by
 refine kc ?_
 show mp (cK (g6 (E1 (Cp (uc (cL i j) (cL k l) m) (uc (cL i k) (cL j l) m) (iG (cL i j,cL k l)) (iG (cL i k,cL j l))),s)))=0
 rw [LH rfl rfl,F5,F5,F4,F4]
 have a:=wg i j
 have b:=wg k l
 have c:=wg i k
 have d:=wg j l
 rcases h with rfl | rfl | rfl | rfl | rfl
 ·rw [a.1,c.1]; grind
 ·rw [a.2,d.1]; grind
 ·rw [b.1,c.2]; grind
 ·rw [b.2,d.2]; grind
 ·grind
theorem Nn:tt ((lT (v,eS (o8 v))).getD 0 [])=[]/\tt ((lT (v,eS (o8 v))).getD 1 [])=[]:=by
 obtain ⟨a,b,c,d,e,f⟩:=v
 refine ⟨kc ?_,kc ?_⟩
 ·show mp (cK [(2,[a,tt [(1,[b,e]),(-2,[c,d])]]),(1,[b,tt [(1,[b,d]),(-2,[a,e])]]),(1,[d,tt [(4,[a,c]),(-1,[b,b])]])])=0
  simp only [cg,bU,cj,ck,bQ]
  grind
 ·show mp (cK [(1,[b,tt [(1,[b,e]),(-2,[c,d])]]),(2,[c,tt [(1,[b,d]),(-2,[a,e])]]),(1,[e,tt [(4,[a,c]),(-1,[b,b])]])])=0
  simp only [cg,bU,cj,ck,bQ]
  grind
theorem wm (v:T6) (i:T3):mp (ud v i).1=2 * (mp v.1 * mp i.1)+mp v.2.1 * mp i.2.1+mp v.2.2.2.1 * mp i.2.2/\mp (ud v i).2.1=mp v.2.1 * mp i.1+2 * (mp v.2.2.1 * mp i.2.1)+mp v.2.2.2.2.1 * mp i.2.2/\mp (ud v i).2.2=mp v.2.2.2.1 * mp i.1+mp v.2.2.2.2.1 * mp i.2.1+2 * (mp v.2.2.2.2.2 * mp i.2.2):=by
 obtain ⟨a,b,c,d,e,f⟩:=v
 obtain ⟨x,y,z⟩:=i
 refine ⟨?_,?_,?_⟩
 ·show mp (tt [(2,[a,x]),(1,[b,y]),(1,[d,z])])=2 * (mp a * mp x)+mp b * mp y+mp d * mp z
  simp only [cg,bU,cj,ck,bQ]
  grind
 ·show mp (tt [(1,[b,x]),(2,[c,y]),(1,[e,z])])=mp b * mp x+2 * (mp c * mp y)+mp e * mp z
  simp only [cg,bU,cj,ck,bQ]
  grind
 ·show mp (tt [(1,[d,x]),(1,[e,y]),(2,[f,z])])=mp d * mp x+mp e * mp y+2 * (mp f * mp z)
  simp only [cg,bU,cj,ck,bQ]
  grind
theorem Np:tt (eE (ud v i,j))=tt (eE (ud v j,i)):=by
 refine cE ((bQ _).symm.trans ((nK _ _).trans (Eq.trans ?_ ((bQ (eE (ud v j,i))).symm.trans (nK _ _)).symm)))
 have p:=wm v i
 have q:=wm v j
 unfold dv
 rw [p.1,p.2.1,p.2.2,q.1,q.2.1,q.2.2]
 clear p q
 obtain ⟨a,b,c,d,e,f⟩:=v
 obtain ⟨x,y,z⟩:=i
 obtain ⟨r,s,t⟩:=j
 dsimp only
 grind
theorem Nq:tt (eE (ud v i,i))=tt [(2,[tt (g6 (v,i))])]:=by
 refine cE ((bQ _).symm.trans ((nK _ _).trans ?_))
 have p:=wm v i
 have h:mp (cK [(2,[tt (g6 (v,i))])])=2 * mp (cK (g6 (v,i))):=by
  rw [<- bQ (g6 (v,i))]
  generalize tt (g6 (v,i))=C
  simp only [cg,bU,cj,ck]
  grind
 rw [h,wj]
 unfold dv cv
 rw [p.1,p.2.1,p.2.2]
 clear p h
 obtain ⟨a,b,c,d,e,f⟩:=v
 obtain ⟨x,y,z⟩:=i
 dsimp only
 grind
theorem B8 (g h p q:List aF) (i:T3):mp (eS (jW g h p q i)).1=mp g * mp i.1+mp h * mp q/\mp (eS (jW g h p q i)).2.1=mp g * mp i.2.1 - mp h * mp p/\mp (eS (jW g h p q i)).2.2=mp g * mp i.2.2:=by
 obtain ⟨x,y,z⟩:=i
 refine ⟨?_,?_,?_⟩
 ·show mp (tt [(1,[g,x]),(1,[h,q])])=mp g * mp x+mp h * mp q
  simp only [cg,bU,cj,ck,bQ]
  grind
 ·show mp (tt [(1,[g,y]),(-1,[h,p])])=mp g * mp y - mp h * mp p
  simp only [cg,bU,cj,ck,bQ]
  grind
 ·show mp (tt [(1,[g,z])])=mp g * mp z
  simp only [cg,bU,cj,ck,bQ]
  grind
theorem Nr:tt (eE (l,eS (mw v l i)))=tt [(1,[tt (dz v l),tt (eE (l,i))])]:=by
 refine cE ((bQ _).symm.trans ((nK _ _).trans ?_))
 have h:mp (cK [(1,[tt (dz v l),tt (eE (l,i))])])=mp (tt (dz v l)) * dv l i:=by
  rw [<- nK l i]
  generalize tt (eE (l,i))=C
  generalize tt (dz v l)=G
  simp only [cg,bU,cj,ck]
  grind
 rw [h]
 have p:=B8 (tt (dz v l)) (tt (gZ v l i)) l.1 l.2.1 i
 unfold dv
 show mp l.1 * mp (eS (jW (tt (dz v l)) (tt (gZ v l i)) l.1 l.2.1 i)).1+mp l.2.1 * mp (eS (jW (tt (dz v l)) (tt (gZ v l i)) l.1 l.2.1 i)).2.1+mp l.2.2 * mp (eS (jW (tt (dz v l)) (tt (gZ v l i)) l.1 l.2.1 i)).2.2=_
 rw [p.1,p.2.1,p.2.2]
 clear p h
 generalize mp (tt (dz v l))=G
 generalize mp (tt (gZ v l i))=H
 grind
theorem E2 (a b c d e f x y z p q G H P0 P1:MP) (hG:a * (q * q) - b * (p * q)+c * (p * p)=G) (hH:q * P0 - p * P1= - H) (h0:P0=2 * (a * x)+b * y+d * z) (h1:P1=b * x+2 * (c * y)+e * z) :
 a * ((G * x+H * q) * (G * x+H * q))+b * ((G * x+H * q) * (G * y - H * p))+c * ((G * y - H * p) * (G * y - H * p))+d * ((G * x+H * q) * (G * z))+e * ((G * y - H * p) * (G * z))+f * ((G * z) * (G * z))=G * G * (a * (x * x)+b * (x * y)+c * (y * y)+d * (x * z)+e * (y * z)+f * (z * z)):=by
 have e1:a * ((G * x+H * q) * (G * x+H * q))+b * ((G * x+H * q) * (G * y - H * p))+c * ((G * y - H * p) * (G * y - H * p))+d * ((G * x+H * q) * (G * z))+e * ((G * y - H * p) * (G * z))+f * ((G * z) * (G * z))=G * G * (a * (x * x)+b * (x * y)+c * (y * y)+d * (x * z)+e * (y * z)+f * (z * z))+G * H * (q * P0 - p * P1)+H * H * (a * (q * q) - b * (p * q)+c * (p * p)):=by
  rw [h0,h1]
  clear hG hH h0 h1
  grind
 rw [e1,hG,hH]
 clear e1 hG hH h0 h1
 grind
theorem Nt:tt (g6 (v,eS (mw v l i)))=tt [(1,[tt (dz v l),tt (dz v l),tt (g6 (v,i))])]:=by
 refine cE ?_
 have h:mp (cK [(1,[tt (dz v l),tt (dz v l),tt (g6 (v,i))])])=mp (tt (dz v l)) * mp (tt (dz v l)) * mp (cK (g6 (v,i))):=by
  rw [<- bQ (g6 (v,i))]
  generalize tt (g6 (v,i))=C
  generalize tt (dz v l)=G
  simp only [cg,bU,cj,ck]
  grind
 rw [h,wj,wj]
 have p:=B8 (tt (dz v l)) (tt (gZ v l i)) l.1 l.2.1 i
 have o:=wm v i
 have hG:mp v.1 * (mp l.2.1 * mp l.2.1) - mp v.2.1 * (mp l.1 * mp l.2.1)+mp v.2.2.1 * (mp l.1 * mp l.1)=mp (tt (dz v l)):=by
  unfold dz
  simp only [cg,bU,cj,ck,bQ]
  grind
 have hH:mp l.2.1 * mp (ud v i).1 - mp l.1 * mp (ud v i).2.1= - mp (tt (gZ v l i)):=by
  unfold gZ
  simp only [cg,bU,cj,ck,bQ]
  grind
 have r:=E2 (mp v.1) (mp v.2.1) (mp v.2.2.1) (mp v.2.2.2.1) (mp v.2.2.2.2.1) (mp v.2.2.2.2.2) (mp i.1) (mp i.2.1) (mp i.2.2) (mp l.1) (mp l.2.1) _ _ _ _ hG hH o.1 o.2.1
 unfold cv
 show mp v.1 * (mp (eS (jW (tt (dz v l)) (tt (gZ v l i)) l.1 l.2.1 i)).1 * mp (eS (jW (tt (dz v l)) (tt (gZ v l i)) l.1 l.2.1 i)).1)+mp v.2.1 * (mp (eS (jW (tt (dz v l)) (tt (gZ v l i)) l.1 l.2.1 i)).1 * mp (eS (jW (tt (dz v l)) (tt (gZ v l i)) l.1 l.2.1 i)).2.1)+mp v.2.2.1 * (mp (eS (jW (tt (dz v l)) (tt (gZ v l i)) l.1 l.2.1 i)).2.1 * mp (eS (jW (tt (dz v l)) (tt (gZ v l i)) l.1 l.2.1 i)).2.1)+mp v.2.2.2.1 * (mp (eS (jW (tt (dz v l)) (tt (gZ v l i)) l.1 l.2.1 i)).1 * mp (eS (jW (tt (dz v l)) (tt (gZ v l i)) l.1 l.2.1 i)).2.2)+mp v.2.2.2.2.1 * (mp (eS (jW (tt (dz v l)) (tt (gZ v l i)) l.1 l.2.1 i)).2.1 * mp (eS (jW (tt (dz v l)) (tt (gZ v l i)) l.1 l.2.1 i)).2.2)+mp v.2.2.2.2.2 * (mp (eS (jW (tt (dz v l)) (tt (gZ v l i)) l.1 l.2.1 i)).2.2 * mp (eS (jW (tt (dz v l)) (tt (gZ v l i)) l.1 l.2.1 i)).2.2)=_
 rw [p.1,p.2.1,p.2.2]
 exact r
noncomputable def E3 (n:Nat):List aF:=[(OB n 0++[1],-1)]
theorem F6:∀ n:Nat,n<6->bg (E3 n)=E3 n
 | 0,_=>rfl | 1,_=>rfl | 2,_=>rfl | 3,_=>rfl | 4,_=>rfl | 5,_=>rfl
 | n+6,h=>absurd h (by omega)
theorem LI {n:Nat} (h:n<6):tt [(-1,[ym n])]=E3 n:=by
 refine Eq.trans (cE ?_) (F6 n h)
 have e:E3 n=(ym n).map rF:=rfl
 rw [e,Ie]
 simp only [cg,bU,cj,ck]
 grind
noncomputable def dU (n:Nat):T3:=(E3 n,cT 1,[])
theorem LJ {n:Nat} (h:n<6):ER (ym n,cT 1)=dU n:=by
 unfold ER dU
 rw [LI h]
 rfl
theorem F7 {n:Nat} {m:Int} (h:n<6) (hm:m.natAbs<2 ^ 100):Lm 2 2 100 [(OB n 0++[1],m)]:=by
 refine ⟨by show (1:Nat)<=2; decide,λt ht=>?_,λt ht=>by rw [OG.mp ht]; exact hm⟩
 rw [OG.mp ht]
 refine ⟨by simp; lia,λx hx=>?_⟩
 rcases OZ.mp hx with hx | hx
 ·rw [SI hx]; exact ⟨by decide,by decide⟩
 ·rw [OG.mp hx]; exact ⟨by decide,by decide⟩
theorem LK:Lm 2 2 100 (cT 1):=⟨by show (1:Nat)<=2; decide,λt ht=>by rw [OG.mp ht]; exact ⟨OV _,λx hx=>by cases hx⟩,λt ht=>by rw [OG.mp ht]; show (1:Int).natAbs<_; exact Nat.one_lt_two_pow (by decide)⟩
theorem LL {n:Nat} (h:n<6):Q3 2 2 100 (dU n):=⟨F7 h (by decide),LK,Lm.nil⟩
theorem LM (h:Q6 2 2 100 v):(∀ ps∈o8 v,ai ps)/\Q3 8 4 240 (eS (o8 v)):=by
 have u:∀ {n:Int} {A B:List aF},n.natAbs<1000->Lm 2 2 100 A->Lm 2 2 100 B->PB 4 4 220 (n,[A,B]):=λhn hA hB=>(rV hn hA hB).mono
 have e1:=aP 8 (bD (u (n:=1) (by decide) h.m2 h.m5) (bD (u (n:= -2) (by decide) h.m3 h.m4) eO))
 have e2:=aP 8 (bD (u (n:=1) (by decide) h.m2 h.m4) (bD (u (n:= -2) (by decide) h.m1 h.m5) eO))
 have e3:=aP 8 (bD (u (n:=4) (by decide) h.m1 h.m3) (bD (u (n:= -1) (by decide) h.m2 h.m2) eO))
 exact ⟨bD e1.1 (bD e2.1 (bD e3.1 eO)),e1.2,e2.2,e3.2⟩
theorem LN (h:Q6 2 2 100 v) (g:Q3 8 4 240 i):∀ ps∈lT (v,i),ai ps:=by
 have u:∀ {n:Int} {A B:List aF},n.natAbs<1000->Lm 2 2 100 A->Lm 8 4 240 B->PB 16 6 360 (n,[A,B]):=λhn hA hB=>(rV hn hA hB).mono
 have e1:=aP 48 (bD (u (n:=2) (by decide) h.m1 g.p) (bD (u (n:=1) (by decide) h.m2 g.q) (bD (u (n:=1) (by decide) h.m4 g.r) eO)))
 have e2:=aP 48 (bD (u (n:=1) (by decide) h.m2 g.p) (bD (u (n:=2) (by decide) h.m3 g.q) (bD (u (n:=1) (by decide) h.m5 g.r) eO)))
 have e3:=aP 48 (bD (u (n:=1) (by decide) h.m4 g.p) (bD (u (n:=1) (by decide) h.m5 g.q) (bD (u (n:=2) (by decide) h.m6 g.r) eO)))
 exact bD e1.1 (bD e2.1 (bD e3.1 eO))
theorem B9 (h:Q6 2 2 100 v) (g:Q3 2 2 100 i):(∀ ps∈lT (v,i),ai ps)/\Q3 12 4 240 (ud v i):=by
 have u:∀ {n:Int} {A B:List aF},n.natAbs<1000->Lm 2 2 100 A->Lm 2 2 100 B->PB 4 4 220 (n,[A,B]):=λhn hA hB=>(rV hn hA hB).mono
 have e1:=aP 12 (bD (u (n:=2) (by decide) h.m1 g.p) (bD (u (n:=1) (by decide) h.m2 g.q) (bD (u (n:=1) (by decide) h.m4 g.r) eO)))
 have e2:=aP 12 (bD (u (n:=1) (by decide) h.m2 g.p) (bD (u (n:=2) (by decide) h.m3 g.q) (bD (u (n:=1) (by decide) h.m5 g.r) eO)))
 have e3:=aP 12 (bD (u (n:=1) (by decide) h.m4 g.p) (bD (u (n:=1) (by decide) h.m5 g.q) (bD (u (n:=2) (by decide) h.m6 g.r) eO)))
 exact ⟨bD e1.1 (bD e2.1 (bD e3.1 eO)),e1.2,e2.2,e3.2⟩
theorem uf (h:Q6 2 2 100 v) (hl:Q3 2 2 100 l) (hi:Q3 2 2 100 i):lO v l i/\E0 v l i (eS (mw v l i))/\Q3 144 8 520 (eS (mw v l i)):=by
 have p:=B9 h hi
 have u:∀ {n:Int} {A B C:List aF},n.natAbs<1000->Lm 2 2 100 A->Lm 2 2 100 B->Lm 2 2 100 C->PB 8 6 320 (n,[A,B,C]):=λhn hA hB hC=>(Nm hn hA hB hC).mono
 have G:=aP 24 (ps:=dz v l) (bD (u (n:=1) (by decide) h.m1 hl.q hl.q) (bD (u (n:= -1) (by decide) h.m2 hl.p hl.q) (bD (u (n:=1) (by decide) h.m3 hl.p hl.p) eO)))
 have w:∀ {n:Int} {A B:List aF},n.natAbs<1000->Lm 2 2 100 A->Lm 12 4 240 B->PB 24 6 360 (n,[A,B]):=λhn hA hB=>(rV hn hA hB).mono
 have H:=aP 48 (ps:=gZ v l i) (bD (w (n:=1) (by decide) hl.p p.2.q) (bD (w (n:= -1) (by decide) hl.q p.2.p) eO))
 have a1:∀ {B:List aF},Lm 2 2 100 B->PB 48 8 500 (1,[tt (dz v l),B]):=λhB=>(rV (by decide) G.2 hB).mono
 have a2:∀ {n:Int} {B:List aF},n.natAbs<1000->Lm 2 2 100 B->PB 96 8 500 (n,[tt (gZ v l i),B]):=λhn hB=>(rV hn H.2 hB).mono
 have two:∀ {p q:Part},PB 48 8 500 p->PB 96 8 500 q->ai [p,q]/\Lm 144 8 520 (tt [p,q]):=λ{p q} hp hq=>by
  have t:=(aP (ps:=[p,q]) 192 (bD hp.mono (bD hq eO)))
  exact ⟨t.1,(hp.m.app (hq.m.app (Lm.nil (la:=0)))).lJ.mono⟩
 have t1:=two (a1 hi.p) (a2 (n:=1) (by decide) hl.q)
 have t2:=two (a1 hi.q) (a2 (n:= -1) (by decide) hl.p)
 have t3:=aP 144 (bD (a1 hi.r) eO)
 have hA:lO v l i:=⟨p.1,G.1,H.1,bD t1.1 (bD t2.1 (bD t3.1 eO))⟩
 have qt:Q3 144 8 520 (eS (mw v l i)):=⟨t1.2,t2.2,t3.2⟩
 have lt:=nJ hl qt
 have li:=nJ hl hi
 have ct:=we h qt
 have ci:=we h hi
 have c:=aP 288 (bD (rV (n:=1) (by decide) G.2 li.2) eO)
 have f:=aP 27648 (bD (Nm (n:=1) (by decide) G.2 G.2 ci.2) eO)
 exact ⟨hA,⟨G.1,lt.1,li.1,c.1,ct.1,ci.1,f.1,Nr,Nt⟩,qt⟩
theorem F8 (h:Q6 2 2 100 v) (hl:Q3 2 2 100 l) (hi:Q3 2 2 100 i):lO v l i/\E0 v l i (eS (mw v l i)):=⟨(uf h hl hi).1,(uf h hl hi).2.1⟩
theorem Nu (h:Q6 2 2 100 v) (hl:Q3 2 2 100 l) (hi:Q3 2 2 100 i):Q3 144 8 520 (eS (mw v l i)):=(uf h hl hi).2.2
theorem Nv (n:Nat):tt (eE ((tt [(1,[(dU n).1,i.2.2])],i.2.2,tt [(-1,[tt [(1,[(dU n).1,i.1]),(1,[i.2.1])]])]),eS (mw v (dU n) i)))=[]:=by
 refine kc ((bQ _).symm.trans ((nK _ _).trans ?_))
 have p:=B8 (tt (dz v (dU n))) (tt (gZ v (dU n) i)) (dU n).1 (dU n).2.1 i
 have e1:mp (tt [(1,[(dU n).1,i.2.2])])=mp (dU n).1 * mp i.2.2:=by
  simp only [cg,bU,cj,ck,bQ]
  grind
 have e2:mp (tt [(-1,[tt [(1,[(dU n).1,i.1]),(1,[i.2.1])]])])= - (mp (dU n).1 * mp i.1+mp i.2.1):=by
  simp only [cg,bU,cj,ck,bQ]
  grind
 have e3:mp (dU n).2.1=1:=by
  show mp (cT 1)=1
  rw [lF]
  grind
 unfold dv
 show mp (tt [(1,[(dU n).1,i.2.2])]) * mp (eS (jW (tt (dz v (dU n))) (tt (gZ v (dU n) i)) (dU n).1 (dU n).2.1 i)).1+mp i.2.2 * mp (eS (jW (tt (dz v (dU n))) (tt (gZ v (dU n) i)) (dU n).1 (dU n).2.1 i)).2.1+mp (tt [(-1,[tt [(1,[(dU n).1,i.1]),(1,[i.2.1])]])]) * mp (eS (jW (tt (dz v (dU n))) (tt (gZ v (dU n) i)) (dU n).1 (dU n).2.1 i)).2.2=0
 rw [p.1,p.2.1,p.2.2,e1,e2,e3]
 generalize mp (tt (dz v (dU n)))=G
 generalize mp (tt (gZ v (dU n) i))=H
 grind
section
variable {K:Oo}
theorem Ny {X:List (List Part)} (h:X.length=6):fF X=.va (D6 (E1 X)):=by
 match X,h with
 | [a,b,c,d,e,f],_=>rfl
theorem E4 {α:Type} {dA:α->List D} {Ok:α->Prop} {X:α->List (List Part)} {a:α} (h:Ok a) (hl:(X a).length=3):Fw dA Ok (λu=>fF (X u)) (dA a) (.ok (.va (D3 (eS (X a))))):=by
 rw [<- I0 hl]; exact L3 h
theorem Nz {α:Type} {dA:α->List D} {Ok:α->Prop} {X:α->List (List Part)} {a:α} (h:Ok a) (hl:(X a).length=6):Fw dA Ok (λu=>fF (X u)) (dA a) (.ok (.va (D6 (E1 (X a))))):=by
 rw [<- Ny hl]; exact L3 h
theorem NB {v:T6} (h:∀ ps∈o8 v,ai ps):ET [D6 v] (.ok (.va (D3 (eS (o8 v))))):=E4 (X:=o8) (a:=v) h rfl
theorem E5 {v:T6} {i:T3} (h:∀ ps∈lT (v,i),ai ps):EU [D6 v,D3 i] (.ok (.va (D3 (ud v i)))):=E4 (X:=lT) (a:=(v,i)) h rfl
theorem NC {v:T6} {l i:T3} (h:lO v l i):EW [D6 v,D3 l,D3 i] (.ok (.va (D3 (eS (mw v l i))))):=E4 (X:=λu:T6×T3×T3=>mw u.1 u.2.1 u.2.2) (a:=(v,l,i)) h rfl
theorem ND {v:T6} {i:T3} {n:Nat} (hn:n<6) (h:lO v (dU n) i):EX [D6 v,D3 i,.int (n:Int)] (.ok (.va (D3 (eS (mw v (dU n) i))))):=by
 have e:=LJ hn
 have q1:ai [(-1,[ym n])]:=(aP 2 (bD (Mb (n:= -1) (by decide) (F7 (m:=1) hn (by decide))) eO)).1
 have q2:ai []:=(aP (la:=1) (ea:=0) (ba:=0) 0 eO).1
 have k:=E4 (dA:=NZ) (Ok:=λu=>u.2.2<=10/\ai [(-1,[ym u.2.2])]/\ai []/\lO u.1 (ER (ym u.2.2,cT 1)) u.2.1) (X:=λu:T6×T3×Nat=>mw u.1 (ER (ym u.2.2,cT 1)) u.2.1) (a:=(v,i,n)) ⟨OD (QD hn) (by decide),q1,q2,by rw [e]; exact h⟩ rfl
 rw [<- e]
 exact k
theorem NF {i j k l m:T3} (h:B3 i j k l m):ES [D3 i,D3 j,D3 k,D3 l,D3 m] (.ok (.va (D6 (E1 (v9 i j k l m))))):=by
 have n:(v9 i j k l m).length=6:=by
  unfold v9 Cp
  rw [RD]
  rfl
 exact Nz (X:=λu:T5=>v9 u.1 u.2.1 u.2.2.1 u.2.2.2.1 u.2.2.2.2) (a:=(i,j,k,l,m)) h n
noncomputable def sv (ns:List Int) (k:Nat):List aF:=(lM (o7 ns k)).take 2
noncomputable def s3 (ns:List Int) (k:Nat):T3:=(sv ns k,sv ns (k+1),sv ns (k+2))
noncomputable def s6 (ns:List Int) (k:Nat):T6:=(sv ns k,sv ns (k+1),sv ns (k+2),sv ns (k+3),sv ns (k+4),sv ns (k+5))
noncomputable def t3 (ns:List Int) (k:Nat):T3:=(bg (bare (sv ns k)),bg (bare (sv ns (k+1))),bg (bare (sv ns (k+2))))
theorem ic (ns:List Int) (k:Nat):Lm 2 2 100 (sv ns k):=by
 have h:=EM (o7 ns k)
 exact ⟨by unfold sv; rw [Pp]; exact Nat.min_le_left _ _,λt ht=>h.e t (RB ht),λt ht=>h.b t (RB ht)⟩
theorem Ca (ns:List Int) (k:Nat):Q3 2 2 100 (s3 ns k):=⟨ic _ _,ic _ _,ic _ _⟩
theorem NG (ns:List Int) (k:Nat):Q6 2 2 100 (s6 ns k):=⟨ic _ _,ic _ _,ic _ _,ic _ _,ic _ _,ic _ _⟩
theorem Cb (A):(bg (bare A)).length<=1:=by
 have h1:(bg (bare A)).length<=(aL (bare A)).length:=by
  unfold bg
  rw [(bz _).length_eq]
  exact List.length_filter_le _ _
 have h2:∀ L:List aF,(∀ t∈L,t.1=[])->∀ S:List aF,S.length<=1->(∀ t∈S,t.1=[])->(L.foldl fC S).length<=1:=by
  intro L
  induction L with
  | nil=>exact λ_ S h _=>h
  | cons t L ih =>
   intro hL S hS hE
   have ht:t.1=[]:=hL t OI
   obtain ⟨ks,n⟩:=t
   cases ht
   refine ih (λx hx=>hL x (OJ _ hx)) _ ?_ ?_
   ·match S,hS,hE with
    | [],_,_=>exact Ot 1
    | [(k0,m)],_,hE =>
     have:k0=[]:=hE _ OI
     subst this
     exact Ot 1
   ·match S,hS,hE with
    | [],_,_=>intro t ht; cases OG.mp ht; rfl
    | [(k0,m)],_,hE =>
     have:k0=[]:=hE _ OI
     subst this
     intro t ht; cases OG.mp ht; rfl
 exact OD h1 (h2 _ (λt ht=>by obtain ⟨x,_,rfl⟩:=O1.mp ht; rfl) [] (OV _) λt ht=>by cases ht)
theorem pe (ns:List Int) (k:Nat):Lm 1 0 120 (bg (bare (sv ns k))):=by
 have h:=ic ns k
 have hb:Lm 2 0 100 (bare (sv ns k)):=⟨by unfold bare; rw [Ox]; exact h.l,λt ht=>by
  obtain ⟨x,hx,rfl⟩:=O1.mp ht
  exact ⟨OV _,λy hy=>by cases hy⟩,λt ht=>by
  obtain ⟨x,hx,rfl⟩:=O1.mp ht
  exact h.b x hx⟩
 have hp:Lm 2 0 120 (bg (bare (sv ns k))):=hb.lJ.mono
 exact ⟨Cb _,hp.e,hp.b⟩
theorem Jl (ns:List Int) (k:Nat):Q3 1 0 120 (t3 ns k):=⟨pe _ _,pe _ _,pe _ _⟩
theorem Cc (ns:List Int) (k:Nat) (h:k<=1000:=by decide):rT [.lst (ns.map .int),.int (k:Int),.int 3] (.ok (.va (D3 (s3 ns k)))):=B6 ns (a:=k) (m:=3) (by decide) h
theorem NH (ns:List Int):rT [.lst (ns.map .int),.int 16,.int 6] (.ok (.va (D6 (s6 ns 16)))):=B6 ns (a:=16) (m:=6) (by decide) (by decide)
theorem Jm (ns:List Int) (k:Nat) (h:k<=1000:=by decide):Lz [.lst (ns.map .int),.int (k:Int)] (.ok (.va (D3 (t3 ns k)))):=Nk ns (a:=k) h
theorem wo {T:Bool->Prop} (t:T true):ze (.lst []) (.lst []) T:=fD (ds:=[]) (rD _) t
theorem LO {l:Nat} {e:Int} {b:Nat} {X:List (List Part)} (h:X.length=6) (g:∀ ps∈X,Lm l e b (tt ps)):Q6 l e b (E1 X):=by
 match X,h with
 | [p0,p1,p2,p3,p4,p5],_=>exact ⟨g _ (by simp),g _ (by simp),g _ (by simp),g _ (by simp),g _ (by simp),g _ (by simp)⟩
theorem Jo (i j k l m:T3):(v9 i j k l m).length=6:=by
 unfold v9 Cp
 rw [RD]
 rfl
section
local macro_rules | `(tactic| walk_at "evCa")=> `(tactic| first
 | with_reducible refine aV (F:=rT) (by assumption) (by decide) ?_
 | with_reducible refine aV (F:=Lz) (by assumption) (by decide) ?_
 | with_reducible refine aV (F:=mj) (by assumption) (by decide) ?_
 | with_reducible refine aV (F:=jV) (by assumption) (by decide) ?_
 | with_reducible refine aV (F:=yk) (by assumption) (by decide) ?_
 | with_reducible refine aV (F:=JB) (by assumption) (by decide) ?_
 | with_reducible refine aV (F:=JC) (by assumption) (by decide) ?_
 | with_reducible refine aV (F:=L8) (by assumption) (by decide) ?_
 | with_reducible refine aV (F:=ES) (by assumption) (by decide) ?_
 | with_reducible refine aV (F:=ET) (by assumption) (by decide) ?_
 | with_reducible refine aV (F:=EU) (by assumption) (by decide) ?_
 | with_reducible refine aV (F:=EW) (by assumption) (by decide) ?_
 | with_reducible refine aV (F:=EX) (by assumption) (by decide) ?_
 | ((with_reducible show aH _ (O5 (ON "list" _) _ _ _) _ _); with_reducible refine e_x (zD (Txt.list (by assumption)) ?_)))
local macro_rules | `(tactic| walk_at "evIx")=> `(tactic| first | ((with_reducible show aH _ (Qa _ (Sg _ _ _) _) _ _); with_reducible refine qb ?_))
local macro_rules | `(tactic| walk_at "evBo")=> `(tactic| first | ((with_reducible show aH _ (RY (Ss _ _ _) TR _ _) _ _); with_reducible refine AQ ?_))
theorem Jp {ff:Addr} {fd:FuncData} (Fu:eG K "law" "law" (top 44) ff fd) (T:Txt K mg) (h1:cU P w K mg base 3 "_law_short" rT) (h2:cU P w K mg base 3 "_law_sum" mj) (h3:cU P w K mg base 4 "_law_curve_at" JB) (h4:cU P w K mg base 4 "_law_line_at" JC) (h5:cU P w K mg base 4 "_law_flat" Lz) (h6:cU P w K mg base 1 "_law_plain" jV) (h7:cU P w K mg base 1 "_law_cell_at" yk) (h8:cU P w K mg base 5 "_law_again" L8)
 (h9:cU P w K mg base 8 "five_curve" ES) (h10:cU P w K mg base 6 "curve_centre" ET) (h11:cU P w K mg base 6 "curve_polar" EU) (h12:cU P w K mg base 7 "again_point" EW) (h13:cU P w K mg base 8 "roll_point" EX):br P w K mg base (dD P w) 9 ff fd ["_law_script"] (dS K zX):=by
 refine cB Fu Ip (by rintro ds r ⟨ns,_,rfl,_⟩; rfl) (by rintro ds r ⟨ns,_,_,rfl⟩; exact ⟨_,rfl⟩) λn hq ds sl hF=>?_
 obtain ⟨ns,hns,rfl,ee⟩:=hF
 injection ee with ee
 subst ee
 show aG n _ [.va (.lst (ns.map .int)),.un,.un,.un,.un,.un,.un,.un,.un,.un,.un] _ _
 conv in (av _)=>whnf
 refine ay ?_
 generalize hG:(λρ'=>aG n _ ρ' _ _)=G
 walk_at "ev"
 refine aj (Cc ns 1) (cz ?_)
 walk_at "ev"
 refine aj (Jm ns 4) (cz ?_)
 walk_at "ev"
 refine aj (Jm ns 7) (cz ?_)
 walk_at "ev"
 refine aj (Jm ns 10) (cz ?_)
 walk_at "ev"
 subst hG
 refine ay ?_
 generalize hG:(λρ'=>aG n _ ρ' _ _)=G
 walk_at "ev"
 refine aj (Cc ns 13) (cz ?_)
 walk_at "ev"
 ·exact iM (Q0 rfl)
 subst hG
 have q0:=(Ca ns 1).mono (lb:=2) (eb:=2) (bb:=120)
 have q1:=Jl ns 4
 have q2:=Jl ns 7
 have q3:=Jl ns 10
 have q4:=(Ca ns 13).mono (lb:=2) (eb:=2) (bb:=120)
 refine eX 1 (d0:=.lst [D3 (s3 ns 1),D3 (t3 ns 4),D3 (t3 ns 7),D3 (t3 ns 10),D3 (s3 ns 13)]) (by walk_at "at") rfl (by walk_at "sset") ?_
 generalize s3 ns 1=p0 at *
 generalize t3 ns 4=p1 at *
 generalize t3 ns 7=p2 at *
 generalize t3 ns 10=p3 at *
 generalize s3 ns 13=p4 at *
 have fv:=LF q0 q1 q2 q3 q4
 have z0:=λs h=>Jk p0 p1 p2 p3 p4 s h
 have qF:=LO (Jo p0 p1 p2 p3 p4) fv.2
 have cF:∀ s,Q3 2 2 120 s->ai (g6 (E1 (v9 p0 p1 p2 p3 p4),s)):=λs hs=>(we qF hs).1
 refine ay ?_
 generalize hG:(λρ'=>aG n _ ρ' _ _)=G
 walk_at "ev"
 refine aj (NF fv.1) ?_
 walk_at "ev"
 subst hG
 clear fv qF
 generalize E1 (v9 p0 p1 p2 p3 p4)=told at *
 refine ay (Kq (Kh (e_len (Txt.len T) (e_x (cW hq (N':=["_law_point","_law_told"]) (ρ0:=λ_=>[.un,.va (D6 told)]) (λt=>.un (.fr (by walk_at "at") (by walk_at "at") (by decide) rfl .nil)) (cM ?_))))))
 generalize hG:(λρ'=>aG n _ ρ' _ _)=G
 walk_at "ev"
 refine ⟨[none,none,none,none,none],rfl,?_,aJ ?_⟩
 ·intro c3' hc3 t' m d ob hd ho
  obtain ⟨u,hu,qu,rfl,rfl⟩:∃ u:T3,(u=p0\/u=p1\/u=p2\/u=p3\/u=p4)/\Q3 2 2 120 u/\d=D3 u/\ob=none:=by
   match m,hd,ho with
   | 0,hd,ho=>cases hd; cases ho; exact ⟨_,.inl rfl,q0,rfl,rfl⟩
   | 1,hd,ho=>cases hd; cases ho; exact ⟨_,.inr (.inl rfl),q1.mono,rfl,rfl⟩
   | 2,hd,ho=>cases hd; cases ho; exact ⟨_,.inr (.inr (.inl rfl)),q2.mono,rfl,rfl⟩
   | 3,hd,ho=>cases hd; cases ho; exact ⟨_,.inr (.inr (.inr (.inl rfl))),q3.mono,rfl,rfl⟩
   | 4,hd,ho=>cases hd; cases ho; exact ⟨_,.inr (.inr (.inr (.inr rfl))),q4,rfl,rfl⟩
  refine cV (by walk_at "at") (sI (by walk_at "sset") ⟨.un (.same .nil),?_⟩)
  simp only [jo]
  walk_at "ev"
  refine aj (EZ (cF u qu)) (aJ ?_)
  rw [z0 u hu]
  walk_at "ev"
  refine wo ?_
  exact zd (zd trivial)
 walk_at "ev"
 case refine_1 h=>exact absurd h (by decide)
 subst hG
 clear z0 cF q0 q1 q2 q3 q4
 refine ay ?_
 generalize hG:(λρ'=>aG n _ ρ' _ _)=G
 walk_at "ev"
 refine aj (NH ns) ?_
 walk_at "ev"
 subst hG
 refine ay ?_
 generalize hG:(λρ'=>aG n _ ρ' _ _)=G
 walk_at "ev"
 refine aj (Cc ns 22) ?_
 walk_at "ev"
 subst hG
 refine ay ?_
 generalize hG:(λρ'=>aG n _ ρ' _ _)=G
 walk_at "ev"
 refine aj (Cc ns 25) ?_
 walk_at "ev"
 subst hG
 refine ay ?_
 generalize hG:(λρ'=>aG n _ ρ' _ _)=G
 walk_at "ev"
 refine aj (Cc ns 28) ?_
 walk_at "ev"
 subst hG
 have qv:=NG ns 16
 have ql:=Ca ns 22
 have qi:=Ca ns 25
 have qj:=Ca ns 28
 generalize s6 ns 16=v at *
 generalize s3 ns 22=l at *
 generalize s3 ns 25=i at *
 generalize s3 ns 28=j at *
 have n0:=LM qv
 have c0:=LN qv n0.2
 have z4:=Nn (v:=v)
 refine ay ?_
 generalize hG:(λρ'=>aG n _ ρ' _ _)=G
 walk_at "ev"
 refine aj (NB n0.1) (cz ?_)
 walk_at "ev"
 refine aj (E5 c0) (cz ?_)
 walk_at "ev"
 show Fo (.tup [af (tt ((lT (v,eS (o8 v))).getD 0 [])),af (tt ((lT (v,eS (o8 v))).getD 1 [])),af (tt ((lT (v,eS (o8 v))).getD 2 []))]) none (some 2) _
 walk_at "ev"
 show ze (.lst [af (tt ((lT (v,eS (o8 v))).getD 0 [])),af (tt ((lT (v,eS (o8 v))).getD 1 []))]) (.lst [.lst [],.lst []]) _
 rw [z4.1,z4.2]
 refine fD (ds:=[.lst [],.lst []]) (nG (rC [] []) (nG (rC [] []) (rD _))) ?_
 walk_at "ev"
 subst hG
 clear z4 c0 n0
 have p1:=B9 qv qi
 have p2:=B9 qv qj
 have l1:=(nJ p1.2 qj).1
 have l2:=(nJ p2.2 qi).1
 have l3:=(nJ p1.2 qi).1
 have ci:=we qv qi
 have z5:=Np (v:=v) (i:=i) (j:=j)
 have z6:=Nq (v:=v) (i:=i)
 have hs2:ai [(2,[tt (g6 (v,i))])]:=(aP 48 (bD (Mb (n:=2) (by decide) ci.2) eO)).1
 refine ay ?_
 generalize hG:(λρ'=>aG n _ ρ' _ _)=G
 walk_at "ev"
 refine aj (E5 p1.1) (cz ?_)
 walk_at "ev"
 refine aj (yo l1) (aJ ?_)
 walk_at "ev"
 refine aj (E5 p2.1) (cz ?_)
 walk_at "ev"
 refine aj (yo l2) (aJ ?_)
 rw [z5]
 refine fD (gP _ _) ?_
 walk_at "ev"
 subst hG
 refine ay ?_
 generalize hG:(λρ'=>aG n _ ρ' _ _)=G
 walk_at "ev"
 refine aj (E5 p1.1) (cz ?_)
 walk_at "ev"
 refine aj (yo l3) (aJ ?_)
 walk_at "ev"
 refine aj (EZ ci.1) (aJ ?_)
 walk_at "ev"
 refine aj (jg (ps:=[(2,[tt (g6 (v,i))])]) hs2) (aJ ?_)
 rw [z6]
 refine fD (gP _ _) ?_
 walk_at "ev"
 subst hG
 clear z5 z6 l1 l2 l3 p1 p2 hs2 ci qj
 refine ay ?_
 generalize hG:(λρ'=>aG n _ ρ' _ _)=G
 walk_at "ev"
 refine aj (FW ns 31) (cz ?_)
 walk_at "ev"
 subst hG
 obtain ⟨m,hm,em⟩:∃ m:Nat,m<6/\ns.getD 31 0 / 3 % 6=(m:Int):=⟨(ns.getD 31 0 / 3 % 6).toNat,by lia,by lia⟩
 rw [em]
 have gA:=F8 qv ql qi
 have gB:=F8 qv (LL hm) qi
 have zr:=Nv (v:=v) (i:=i) m
 have qf:=LL hm
 have eF:D.lst [.tup [.tup ((OB m [D.int 0]).flatten++[.int 1]),.int (-1)]]=.lst ((E3 m).map aO):=by
  rw [o9]
  show D.lst [.tup [.tup ((OB m (0:Int)).map D.int++[D.int 1].map id),.int (-1)]]=D.lst [.tup [.tup ((OB m (0:Int)++[1]).map D.int),.int (-1)]]
  rw [Pu]
  rfl
 refine ay ?_
 generalize hG:(λρ'=>aG n _ ρ' _ _)=G
 walk_at "ev"
 refine ⟨_,_,rfl,rfl,⟨⟨by simp,by lia,by lia,by rw [O0]; exact pC (by simp; lia)⟩,?_⟩⟩
 rw [O0]
 walk_at "ev"
 ·exact pC (by simp; lia)
 rw [eF]
 refine aj (lI (ts:=E3 m) (by show (1:Nat)<=400000; decide) (λt ht=>by rw [OG.mp ht]; simp; lia)) (aJ ?_)
 rw [show eY (nz (aL (E3 m)))=E3 m from F6 m hm]
 walk_at "ev"
 subst hG
 show aG n _ [.va (.lst (ns.map .int)),.va (.lst [D3 p0,D3 p1,D3 p2,D3 p3,D3 p4]),.va (D6 told),.va (D6 v),.va (D3 l),.va (D3 i),.va (D3 j),.va (.int (m:Int)),.va (D3 (dU m)),.un,.un] _ _
 have s1:ai [(1,[(dU m).1,i.1]),(1,[i.2.1])]/\Lm 8 4 260 (tt [(1,[(dU m).1,i.1]),(1,[i.2.1])]):=aP 8 (bD (PB.mono (lb:=4) (eb:=4) (bb:=240) (rV (n:=1) (by decide) qf.p qi.p)) (bD (PB.mono (lb:=4) (eb:=4) (bb:=240) (Mb (n:=1) (by decide) qi.q)) eO))
 have s2:ai [(1,[(dU m).1,i.2.2])]/\Lm 8 4 260 (tt [(1,[(dU m).1,i.2.2])]):=aP 8 (bD (PB.mono (lb:=4) (eb:=4) (bb:=240) (rV (n:=1) (by decide) qf.p qi.r)) eO)
 have s3':ai [(-1,[tt [(1,[(dU m).1,i.1]),(1,[i.2.1])]])]/\Lm 8 4 300 (tt [(-1,[tt [(1,[(dU m).1,i.1]),(1,[i.2.1])]])]):=aP 8 (bD (Mb (n:= -1) (by decide) s1.2) eO)
 refine ay ?_
 generalize hG:(λρ'=>aG n _ ρ' _ _)=G
 walk_at "ev"
 refine aj (jg (ps:=[(1,[(dU m).1,i.1]),(1,[i.2.1])]) s1.1) (aJ ?_)
 walk_at "ev"
 subst hG
 refine ay ?_
 generalize hG:(λρ'=>aG n _ ρ' _ _)=G
 walk_at "ev"
 refine aj (NC gA.1) (cz ?_)
 walk_at "ev"
 refine aj (LB gA.2) (cz ?_)
 walk_at "ev"
 subst hG
 refine ay ?_
 generalize hG:(λρ'=>aG n _ ρ' _ _)=G
 walk_at "ev"
 refine aj (ND hm gB.1) ?_
 walk_at "ev"
 subst hG
 refine ay ?_
 generalize hG:(λρ'=>aG n _ ρ' _ _)=G
 walk_at "ev"
 refine aj (jg (ps:=[(1,[(dU m).1,i.2.2])]) s2.1) (aJ ?_)
 walk_at "ev"
 refine aj (jg (ps:=[(-1,[tt [(1,[(dU m).1,i.1]),(1,[i.2.1])]])]) s3'.1) (aJ ?_)
 walk_at "ev"
 subst hG
 have qfree:Q3 8 4 300 (tt [(1,[(dU m).1,i.2.2])],i.2.2,tt [(-1,[tt [(1,[(dU m).1,i.1]),(1,[i.2.1])]])]):=⟨s2.2.mono,qi.r.mono,s3'.2⟩
 have qt:=Nu qv qf qi
 have lf:=(nJ qfree qt).1
 show aG n _ [_,_,.va (D3 (eS (mw v (dU m) i))),_,_,_,_,_,_,_,.va (D3 (tt [(1,[(dU m).1,i.2.2])],i.2.2,tt [(-1,[tt [(1,[(dU m).1,i.1]),(1,[i.2.1])]])]))] _ _
 walk_at "ev"
 refine aj (yo lf) (aJ ?_)
 rw [zr]
 walk_at "ev"
 refine wo ?_
 walk_at "ev"
 refine aj (LB gB.2) (cz ?_)
 walk_at "ev"
 rfl
end
end
section
variable {K:Oo}
theorem E6 {fa:Addr} (yt:mg "law"=some (.ref fa)) (T:Txt K mg) (xPLACES:∃ tk:Tok,mg "PLACES"=some (.int 6 tk))
 (D2:aA K mg "trimmed" (top 2))
 (D3:aA K mg "greatest_powers" (top 3))
 (D4:aA K mg "key_of" (top 4))
 (D5:aA K mg "powers_of" (top 5))
 (D6:aA K mg "packed" (top 6))
 (D7:aA K mg "unpacked" (top 7))
 (D8:aA K mg "add_products" (top 8))
 (D10:aA K mg "width_of" (top 10))
 (D11:aA K mg "add_part" (top 11))
 (D12:aA K mg "poly_total" (top 12))
 (D13:aA K mg "free_poly" (top 13))
 (D15:aA K mg "crossed" (top 15))
 (D16:aA K mg "dotted" (top 16))
 (D19:aA K mg "six_of" (top 19))
 (D20:aA K mg "pair_of_lines" (top 20))
 (D21:aA K mg "worth_of_both" (top 21))
 (D22:aA K mg "five_rule" (top 22))
 (D23:aA K mg "curve_centre_rule" (top 23))
 (D24:aA K mg "curve_polar_rule" (top 24))
 (D25:aA K mg "again_rule" (top 25))
 (D26:aA K mg "roll_rule" (top 26))
 (D27:aA K mg "five_curve" (top 27))
 (D28:aA K mg "curve_centre" (top 28))
 (D29:aA K mg "curve_polar" (top 29))
 (D30:aA K mg "again_point" (top 30))
 (D31:aA K mg "roll_point" (top 31))
 (D33:aA K mg "_law_cell_at" (top 33))
 (D34:aA K mg "_law_digits" (top 34))
 (D35:aA K mg "_law_plain" (top 35))
 (D36:aA K mg "_law_product" (top 36))
 (D37:aA K mg "_law_sum" (top 37))
 (D38:aA K mg "_law_some" (top 38))
 (D39:aA K mg "_law_short" (top 39))
 (D40:aA K mg "_law_flat" (top 40))
 (D41:aA K mg "_law_curve_at" (top 41))
 (D42:aA K mg "_law_line_at" (top 42))
 (D43:aA K mg "_law_again" (top 43))
 (D44:aA K mg "law" (top 44))
 : ∃ fd:FuncData,(∀ (s:Shared) (u:Value),BindsTo s fd ⟨[u],[]⟩ [("_law_script",u)])/\∀ base:Heap,K.In base->base.Ns mainGlobals mg->br P w K mg base (dD P w) 20 fa fd ["_law_script"] (dS K zX):=by
 refine Classical.byContradiction λhG=>?_
 obtain ⟨f44,fd44,m44,Fu44⟩:=D44
 have e:=yt.symm.trans m44
 cases e
 refine hG ⟨fd44,?_,λbase _ _=>?_⟩
 ·obtain ⟨oc,od,kV,doc,pm,an,cdv,ct,osl,rfl,lk,hcd⟩:=Fu44.ex
  exact λs u=>.of_eq rfl
 have C2:=aS P w base D2 λu=>Ek u T
 have C3:=aS P w base D3 λu=>BD u T xPLACES
 have C4:=aS P w base D4 λu=>Iu u T xPLACES
 have C5:=aS P w base D5 λu=>Et u T xPLACES C2
 have C6:=aS P w base D6 λu=>Eu u T C4
 have C7:=aS P w base D7 λu=>IC u T C5
 have C8:=vI P w base D8 λu=>IB u T
 have C10:=aS P w base D10 λu=>ID u T C3
 have C11:=vI P w base D11 λu=>BX u T C6 C8
 have C12:=aS P w base D12 λu=>IG u T C10 C11 C7
 have C13:=aS P w base D13 λu=>EO u T
 have C15:=aS P w base D15 λu=>Ll u
 have C16:=aS P w base D16 λu=>IX u T
 have C19:=aS P w base D19 λu=>IZ u T
 have C20:=aS P w base D20 λu=>Ln u
 have C21:=aS P w base D21 λu=>Lq u C16
 have C22:=aS P w base D22 λu=>Lr u T C15 C21 C20
 have C23:=aS P w base D23 λu=>Lo u
 have C24:=aS P w base D24 λu=>Lp u
 have C25:=aS P w base D25 λu=>Lv u C19 C24
 have C26:=aS P w base D26 λu=>Lw u C25
 have C27:=aS P w base D27 λu=>Jb u C12 C22
 have C28:=aS P w base D28 λu=>Jc u C12 C23 C19
 have C29:=aS P w base D29 λu=>Jd u C12 C24 C19
 have C30:=aS P w base D30 λu=>Je u C12 C25
 have C31:=aS P w base D31 λu=>Jf u C12 C26 C13
 have C33:=aS P w base D33 λu=>IS u T
 have C34:=aS P w base D34 λu=>IU u T C33
 have C35:=aS P w base D35 λu=>BA u T
 have C36:=aS P w base D36 λu=>II u T C35
 have C37:=aS P w base D37 λu=>IP u T C35 C36
 have C38:=aS P w base D38 λu=>EL u T C35
 have C39:=aS P w base D39 λu=>Jg u T C34 C38
 have C40:=aS P w base D40 λu=>LA u T C39 C35
 have C41:=aS P w base D41 λu=>Lx u C37
 have C42:=aS P w base D42 λu=>Ly u T C37
 have C43:=aS P w base D43 λu=>LC u C37 C41 C42
 exact (Jp Fu44 T C39 C37 C41 C42 C40 C35 C33 C43 C27 C28 C29 C30 C31).mono (by decide)
end
end My
open PySem PySem.W PyProof.Rows
local macro_rules | `(tactic| walk_at "dm")=> `(tactic| (dsimp only [L2.fk]; refine' EV.Hz (by assumption) (by assumption) ?a ?l ?c ?k; (case a=>k_is); (case l=>k_is); (case c=>k_is); (case k=>k_is)))
set_option maxRecDepth 100000 in
set_option maxHeartbeats 0 in
theorem PySem.Challenge.cw_everydraw_k28_whole_curves_hold_holds : PySem.Challenge.rw_everydraw_k28_whole_curves_hold.Holds := by
 w_on; o_law; k_head; (case hw=>w_witness2)
 k_fill
 refine EV.walk (k:=20) (l:=PySem.Challenge.rw_everydraw_k28_whole_curves_hold) (by decide) rfl rfl (λw h Y=>PySem.W.kIn_of Y) ?F
 case F =>
  intro w mg fa h KX G hmg
  have D2:EV.aA (L2.fk KX) mg (Str.ofString "trimmed") (My.top 2):=by walk_at "dm"
  have D3:EV.aA (L2.fk KX) mg (Str.ofString "greatest_powers") (My.top 3):=by walk_at "dm"
  have D4:EV.aA (L2.fk KX) mg (Str.ofString "key_of") (My.top 4):=by walk_at "dm"
  have D5:EV.aA (L2.fk KX) mg (Str.ofString "powers_of") (My.top 5):=by walk_at "dm"
  have D6:EV.aA (L2.fk KX) mg (Str.ofString "packed") (My.top 6):=by walk_at "dm"
  have D7:EV.aA (L2.fk KX) mg (Str.ofString "unpacked") (My.top 7):=by walk_at "dm"
  have D8:EV.aA (L2.fk KX) mg (Str.ofString "add_products") (My.top 8):=by walk_at "dm"
  have D10:EV.aA (L2.fk KX) mg (Str.ofString "width_of") (My.top 10):=by walk_at "dm"
  have D11:EV.aA (L2.fk KX) mg (Str.ofString "add_part") (My.top 11):=by walk_at "dm"
  have D12:EV.aA (L2.fk KX) mg (Str.ofString "poly_total") (My.top 12):=by walk_at "dm"
  have D13:EV.aA (L2.fk KX) mg (Str.ofString "free_poly") (My.top 13):=by walk_at "dm"
  have D15:EV.aA (L2.fk KX) mg (Str.ofString "crossed") (My.top 15):=by walk_at "dm"
  have D16:EV.aA (L2.fk KX) mg (Str.ofString "dotted") (My.top 16):=by walk_at "dm"
  have D19:EV.aA (L2.fk KX) mg (Str.ofString "six_of") (My.top 19):=by walk_at "dm"
  have D20:EV.aA (L2.fk KX) mg (Str.ofString "pair_of_lines") (My.top 20):=by walk_at "dm"
  have D21:EV.aA (L2.fk KX) mg (Str.ofString "worth_of_both") (My.top 21):=by walk_at "dm"
  have D22:EV.aA (L2.fk KX) mg (Str.ofString "five_rule") (My.top 22):=by walk_at "dm"
  have D23:EV.aA (L2.fk KX) mg (Str.ofString "curve_centre_rule") (My.top 23):=by walk_at "dm"
  have D24:EV.aA (L2.fk KX) mg (Str.ofString "curve_polar_rule") (My.top 24):=by walk_at "dm"
  have D25:EV.aA (L2.fk KX) mg (Str.ofString "again_rule") (My.top 25):=by walk_at "dm"
  have D26:EV.aA (L2.fk KX) mg (Str.ofString "roll_rule") (My.top 26):=by walk_at "dm"
  have D27:EV.aA (L2.fk KX) mg (Str.ofString "five_curve") (My.top 27):=by walk_at "dm"
  have D28:EV.aA (L2.fk KX) mg (Str.ofString "curve_centre") (My.top 28):=by walk_at "dm"
  have D29:EV.aA (L2.fk KX) mg (Str.ofString "curve_polar") (My.top 29):=by walk_at "dm"
  have D30:EV.aA (L2.fk KX) mg (Str.ofString "again_point") (My.top 30):=by walk_at "dm"
  have D31:EV.aA (L2.fk KX) mg (Str.ofString "roll_point") (My.top 31):=by walk_at "dm"
  have D33:EV.aA (L2.fk KX) mg (Str.ofString "_law_cell_at") (My.top 33):=by walk_at "dm"
  have D34:EV.aA (L2.fk KX) mg (Str.ofString "_law_digits") (My.top 34):=by walk_at "dm"
  have D35:EV.aA (L2.fk KX) mg (Str.ofString "_law_plain") (My.top 35):=by walk_at "dm"
  have D36:EV.aA (L2.fk KX) mg (Str.ofString "_law_product") (My.top 36):=by walk_at "dm"
  have D37:EV.aA (L2.fk KX) mg (Str.ofString "_law_sum") (My.top 37):=by walk_at "dm"
  have D38:EV.aA (L2.fk KX) mg (Str.ofString "_law_some") (My.top 38):=by walk_at "dm"
  have D39:EV.aA (L2.fk KX) mg (Str.ofString "_law_short") (My.top 39):=by walk_at "dm"
  have D40:EV.aA (L2.fk KX) mg (Str.ofString "_law_flat") (My.top 40):=by walk_at "dm"
  have D41:EV.aA (L2.fk KX) mg (Str.ofString "_law_curve_at") (My.top 41):=by walk_at "dm"
  have D42:EV.aA (L2.fk KX) mg (Str.ofString "_law_line_at") (My.top 42):=by walk_at "dm"
  have D43:EV.aA (L2.fk KX) mg (Str.ofString "_law_again") (My.top 43):=by walk_at "dm"
  have D44:EV.aA (L2.fk KX) mg (Str.ofString "law") (My.top 44):=by walk_at "dm"
  have T:EV.Txt (L2.fk KX) mg:=by
   dsimp only [L2.fk]
   refine' EV.HB KX G ?z1 ?z2 ?z3 ?z4 ?z5 ?z6 ?z7 ?z8 ?z9 ?z10 ?z11 ?z12 ?z13 ?z14 ?z15 ?z16 ?z17 ?sib
   (case z1=>k_is)
   (case z2=>k_is)
   (case z3=>k_is)
   (case z4=>k_is)
   (case z5=>k_is)
   (case z6=>k_is)
   (case z7=>k_is)
   (case z8=>k_is)
   (case z9=>k_is)
   (case z10=>k_is)
   (case z11=>k_is)
   (case z12=>k_is)
   (case z13=>k_is)
   (case z14=>k_is)
   (case z15=>k_is)
   (case z16=>k_is)
   (case z17=>k_is)
   (case sib=>k_is)
  have xPLACES:∃ tk:Tok,mg (Str.ofString "PLACES")=some (.int 6 tk):=by
   refine' EV.int_mk KX G ?a
   (case a=>k_is)
  exact My.E6 hmg T xPLACES D2 D3 D4 D5 D6 D7 D8 D10 D11 D12 D13 D15 D16 D19 D20 D21 D22 D23 D24 D25 D26 D27 D28 D29 D30 D31 D33 D34 D35 D36 D37 D38 D39 D40 D41 D42 D43 D44
