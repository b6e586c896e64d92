import PyProof.Rows.All
import Wide.All
import OpenK.AllK
import Wide.FinOn
import PySem.Challenge.RW_everydraw_k09_whole_reckoning_with_polyn
namespace EV
theorem z2 {α β} {P:α->β->Prop} {G:Prop} (h:∃ a b,P a b) (k:∀ a b,P a b->G):G:=h.elim λa h=>h.elim (k a)
theorem z3 {α β γ} {P:α->β-> γ ->Prop} {G:Prop} (h:∃ a b c,P a b c) (k:∀ a b c,P a b c->G):G:=h.elim λa h=>z2 h (k a)
theorem z4 {α β γ δ} {P:α->β-> γ -> δ ->Prop} {G:Prop} (h:∃ a b c d,P a b c d) (k:∀ a b c d,P a b c d->G):G:=h.elim λa h=>z3 h (k a)
theorem z5 {α β γ δ ε} {P:α->β-> γ -> δ -> ε ->Prop} {G:Prop} (h:∃ a b c d e,P a b c d e) (k:∀ a b c d e,P a b c d e->G):G:=h.elim λa h=>z4 h (k a)
theorem w2 {a b G:Prop} (h:a/\b) (k:a->b->G):G:=k h.1 h.2
theorem w3 {a b c G:Prop} (h:a/\b/\c) (k:a->b->c->G):G:=w2 h.2 (k h.1)
theorem w4 {a b c d G:Prop} (h:a/\b/\c/\d) (k:a->b->c->d->G):G:=w3 h.2 (k h.1)
theorem w5 {a b c d e G:Prop} (h:a/\b/\c/\d/\e) (k:a->b->c->d->e->G):G:=w4 h.2 (k h.1)
theorem w6 {a b c d e f G:Prop} (h:a/\b/\c/\d/\e/\f) (k:a->b->c->d->e->f->G):G:=w5 h.2 (k h.1)
theorem w7 {a b c d e f g G:Prop} (h:a/\b/\c/\d/\e/\f/\g) (k:a->b->c->d->e->f->g->G):G:=w6 h.2 (k h.1)
theorem w8 {a b c d e f g i G:Prop} (h:a/\b/\c/\d/\e/\f/\g/\i) (k:a->b->c->d->e->f->g->i->G):G:=w7 h.2 (k h.1)
end EV
set_option genSizeOf false
set_option Elab.async false
set_option linter.all false
set_option maxRecDepth 100000
open PySem.Str renaming ofString->OP
open PySem renaming wpAny_bind->OQ,wpAny_pure->OS,Spec->PM,wpAny_mono->P1,wpAny_field->P7,wpAny_rule->Qg,wpAny_setField_rec->Qt,wpAny_newObj_type->Qu,wpAny_holding->Qx,wpAny_call_entry->QV,wpAny_Call_Name_kw->Q8,Builtin->Rc,sizeLine_eq->Ri,wpAny_callSpecial?_slot->Rj,wpAny_typeOf->Rq,wpAny_passesOwn->RD,wpAny_seqItems->RG,codeAny_builtin->Si,call_meets->Ss,mem_of_lookup->SH,tupleKind_room_in1->SJ,wpAny_truthy_bool->SK,wpAny_pyIter_list->SM,wpAny_attempt->S0,plainId_quiet->S6,codeAny_mono->Tc,wpAny_typeNameOfWhole_itemiter->Tv,wpAny_typeNameOf_itemiter->Tz,wpAny_isInstance->Ua,wpAny_onRaise->Ul,concat_meets->Ut,wpAny_letGo->Ux,wpAny_isOneOf_itemiter->UP,wpAny_updateSeq_pair->UY,evalArgs_none->U1,wpAny_pyIter_tuple->U6,wpAny_sequenceKey->Vf,wpAny_dictEntries->Vg,wpAny_Call_method->Vh,noFill_tuple_add->Vt
open PySem.W renaming Frag->OR,nsIn->P0,mg_none_of->Qa,keepIn->QY,fnOf->Q0,findIn->Ro,codeIn->Uj,callWith_K->U8,specialIn->Vj,methodObj->Vk
open Nat renaming le_refl->OT,le_trans->O3,ne_of_lt->Px,lt_of_lt_of_le->PJ,zero_le->PK,lt_irrefl->QB,le_of_lt->QC,pow_le_pow_right->QF,lt_of_le_of_lt->QH,mul_le_mul_left->Q6,le_add_right->Q9,zero_add->Rg,lt_succ_self->RB,ne_of_gt->RI,mul_le_mul->Sj,pow_add->Sn,succ_le_succ->SO,min_eq_left->SQ,add_assoc->S9,succ_mul->Td,log2_lt->Tj,le_sub_one_of_lt->TX,one_le_iff_ne_zero->US,add_sub_cancel'->U3,lt_succ_of_lt->Vl,le_succ_of_le->Vm
open PyProof.Rows renaming wpS_bind->OU,wpS_pure->OV,wpS_mono->PD,wpS_forRange->Qc,wpS_get->Qz,wpS_modify->QN,wpS_lift->Rv,slot_tuple_getitem->RS,listUpdate_at->Sk,callWith_type1->Sy,mirror_perm->Ti,plain_sorted->Uq,listItems_at->Ur,entry_sorted->Us,kind_sorted->Uy,call_function_entry_kw->UQ,assignInOrder_cons->U7,callWith_builtin1->VG
open List renaming length_map->OW,mem_cons_self->OY,mem_cons_of_mem->O1,mem_cons->O2,map_cons->O4,getElem?_eq_some_iff->O6,getElem?_map->O8,mem_singleton->Pa,mem_append->Pb,range->Pc,size_toArray->Pg,getElem?_eq_getElem->Pk,mem_map->Pn,append_assoc->Pp,replicate->Pq,length_append->Pr,length_cons->Pu,getElem_mem->Pw,map_map->Py,map_append->PR,getD_eq_getElem?_getD->PX,length_take->PZ,append_nil->Qd,mem_append_left->Qk,getElem?_set_ne->Qn,take_length->Qo,getElem?_set_self->Qq,mem_append_right->Qs,find?_cons->Qv,not_mem_nil->QA,take_succ_eq_append_getElem->QE,mem_of_getElem?->QG,nodup_cons->QJ,length_nil->QK,pairwise_cons->QU,mem_filter->QX,getElem?_append_left->Q4,take_append_drop->Q5,map_congr_left->Q7,foldl_cons->Ra,map_nil->Rh,filter_cons_of_pos->Rk,replicate_succ->Rl,length_range->Rn,getElem?_append_right->Rx,perm_append_comm->Rz,getElem?_eq_none->RA,cons_append->RC,forIn_cons->RE,pairwise_singleton->R0,filter_cons_of_neg->R1,pairwise_append->R4,getElem?_of_mem->R5,filterMap_cons->R8,getElem?_drop->R9,pairwise_map->Sa,foldl_append->Sb,flatten_cons->Se,length_drop->Sf,length->So,Nodup->Su,take_of_length_le->SA,length_singleton->SD,reverse_reverse->SE,getElem?_append->SG,getElem?_range->SI,mem_range->SX,zipWith->Te,foldl->Tt,getElem?_take_of_lt->TJ,eq_of_mem_replicate->TL,mem_of_mem_take->TY,take_sublist->T4,take_add_one->T5,nodup_append->T6,ext_getElem?->T7,drop_sublist->T8,range_succ->Uc,nil_append->Ud,pairwise_iff_getElem->UH,reverse_append->U4,map_singleton->U9,getElem_range->Va,reverse_perm->Vn,reverse_cons->Vo,zipIdx_cons->Vu,lookup_cons->Vv,getElem_map->Vw,filter_cons->Vx,ext_getElem->Vy,drop_append_of_le_length->VI
open PySem.Heap renaming get?_push_of_some->OX,lt_size->OZ,get?_push_size->O7,SameBut->QW,size_push->QZ,ExtBut->Rt,get?_update_other->TU,get?_push_ne->Vr
open Int renaming gcd->O0,le_trans->PB,le_refl->PV,toNat_natCast->P6,le_of_lt->Qm,pow_pos->QL,add_mul->QM,toNat->QO,mul_comm->Q3,zero_mul->Rr,natAbs_mul->RH,ne_of_gt->RK,one_mul->RL,gcd_pos_of_ne_zero_right->RU,mul_assoc->Sm,mul_add->Sq,not_lt->Sv,mul_le_mul_of_nonneg_right->Sx,emod_nonneg->SS,mul_nonneg->SY,zero_add->Tf,add_zero->Tg,add_comm->Th,neg_gcd->To,gcd_neg->Tp,fdiv_eq_ediv_of_nonneg->Tw,mul_fdiv_cancel->TZ,lt_of_le_of_lt->T3,mul_ne_zero->Ue,pow_succ->Uw,pow_add->UB,neg_mul->UC,natCast_nonneg->Vb,mul_right_comm->Vc,emod_lt_of_pos->Vd,gcd_dvd_right->Vq,gcd_dvd_left->Vz
open Bool renaming false_ne_true->O5,false_eq_true->P5,not_true->Rp,and_eq_true->Sg,eq_iff_iff->SW
open PySem.Expr renaming Name->O9,Subscript->Qe,Call->Qj,BinOp->Sw,Constant->Uo
open Sum renaming inl->Pd,inr->Rw
open Ne renaming symm->Pe
open Option renaming map_eq_some_iff->Pf,isSome_map->Rm
open PySem.SeqAt renaming EqAt->Ph,RcAt->RO,RcNeAt->Uu
open Array renaming getElem?_eq_getElem->Pj,toList_push->PF,getElem?_toList->PN,length_toList->P4,toList_append->Ql,ext'->Ru,perm_iff_toList_perm->RW,getElem?_eq_some_iff->RY,toList_reverse->R6,getElem?_extract->TV,getElem?_eq_none->UW,mem_toList_iff->U0,getElem_mem->Vs,toList_eraseIdxIfInBounds->VF
open PySem.Value renaming ref->Po,type->Qh,none->Qy,int->RP
open ForInStep renaming yield->PU,done->Qw
open PySem.Builtin.Int renaming intBits->PY
open PySem.Env renaming kindOf->P8
open PySem.Paired renaming length->Qf,snoc->UA
open False renaming elim->Qi
open Rat renaming intCast_mul->Qp,intCast_pow->Ub
open PySem.Obj renaming mapSeq->QD
open Option.some renaming inj->QI
open PySem.Builtin.SmallTypes renaming nextOf->QS,ownedTupleIsFree->Tu,ownedTupleHandOut->VB
open PySem.NameKind renaming free->Rf
open Lean renaming mkPrivateNameCore->Ry,mkIdent->RJ
open True renaming intro->RN
open PySem.Data renaming cell->RQ,fields->Tq
open PySem.F renaming slot_dict_itemiterator_next->RT,plain_extend_loop->TF,plainAttrs_list->TQ,slot_dict_items->T9,slot_zip_next->Ug,args_tuple_add_2->UJ,slot_list_getattribute->UM,entry_tuple_add->UO,slot_tuple_add->UR,slot_dict_get->UX,args_dict_itemiterator_next_1->VE,entry_dict_itemiterator_next->VH,slot_dict_itemiterator_iter->VJ
open PySem.Builtin.List renaming listLengthHint->RV,listExtendWith->UE,listFitsIndex->UG,listTooLong->UN,listItems->UU
open Classical renaming byContradiction->RZ
open List.Perm renaming append_left->R3
open PySem.Around renaming under_plainId->R7
open List.Pairwise renaming nil->SN,imp_of_mem->UL,filter->UZ,map->Vp
open PyProof.Rows.SortSt renaming mk'->Tr
open PySem.Builtin.Slice renaming slicePlaces->TH,sliceAdjust->UI
open PySem.Builtin.Tuple renaming tupleExact->TM
open PySem.AutoSeq1 renaming wpAny_loadPart'->TN
open PySem.Builtin.Range renaming rangeSize->TR
open PySem.Stmt renaming AugAssign->Uh,Assign->Uz
open Quotient renaming sound->Ui
open PySem.Builtin renaming bitAnd->Uk
open Function renaming comp->Um
open PySem.Operator renaming Add->Uv
open PySem.Builtin.Dict_items renaming pairFromOwner->UD,ownedTupleIsFree->VC,ownedTupleFields->VD
open PyProof renaming noPylong_of_log2->UK
open PySem.Calls renaming callWith_builtin->UT,spliced_cons->Ve
open PySem.Heap.SameBut renaming update->U5
open PySem.Challenge renaming rw_everydraw_k09_whole_reckoning_with_polyn->VA
namespace PySem.W.Fast
theorem tw5526029479562872818:True:=⟨⟩
theorem tw1972501148346837242:True:=⟨⟩
theorem tw1364356278059895519:True:=⟨⟩
theorem tw9512160177891339502:True:=⟨⟩
theorem tw17591187237999314204:True:=⟨⟩
theorem tw13787086127355634402:True:=⟨⟩
theorem tw6725598111842986282:True:=⟨⟩
theorem tw6583258263350313341:True:=⟨⟩
theorem tw8540306050008280495:True:=⟨⟩
theorem tw9801380380657034697:True:=⟨⟩
theorem tw5410172863314809981:True:=⟨⟩
theorem tw12359385241172416210:True:=⟨⟩
theorem tw11615956405881900709:True:=⟨⟩
theorem tw2869824514790946684:True:=⟨⟩
theorem tw10814706383152639772:True:=⟨⟩
theorem tw8352506533683478073:True:=⟨⟩
theorem tw493197451298018926:True:=⟨⟩
theorem tw5574417253839523937:True:=⟨⟩
theorem tw8425157809399478942:True:=⟨⟩
theorem tw13565170218798287300:True:=⟨⟩
theorem tw12803648189838605834:True:=⟨⟩
theorem tw11765884366014265207:True:=⟨⟩
theorem tw3989121941106968836:True:=⟨⟩
theorem tw17919397222304727506:True:=⟨⟩
theorem tw16740271265345894459:True:=⟨⟩
theorem tw3080487635869128426:True:=⟨⟩
theorem tw3306331586206489745:True:=⟨⟩
theorem tw8381269875817904567:True:=⟨⟩
theorem tw609102541108627957:True:=⟨⟩
theorem tw12832232886988106403:True:=⟨⟩
theorem tw5908223024098435754:True:=⟨⟩
theorem tw471013939542250526:True:=⟨⟩
theorem tw9653705566274637942:True:=⟨⟩
theorem tw9110121815601909179:True:=⟨⟩
theorem tw11438666264798390732:True:=⟨⟩
theorem tw2243461846520101606:True:=⟨⟩
theorem tw17323738666999215757:True:=⟨⟩
theorem tw10038510088055628841:True:=⟨⟩
theorem tw16532474566708495127:True:=⟨⟩
theorem tw6695265454924684744:True:=⟨⟩
theorem tw6282146803440691673:True:=⟨⟩
theorem tw5740570538830356771:True:=⟨⟩
theorem tw15764236968959232601:True:=⟨⟩
theorem tw6160619223458734327:True:=⟨⟩
theorem tw10418408911311411304:True:=⟨⟩
theorem tw16375361883741811778:True:=⟨⟩
theorem tw8656362975867625114:True:=⟨⟩
theorem tw1046275866609392302:True:=⟨⟩
theorem tw13889703817883191007:True:=⟨⟩
theorem tw1731313994740705416:True:=⟨⟩
theorem tw1433271948507568023:True:=⟨⟩
theorem tw1185365116805637578:True:=⟨⟩
theorem tw2324228250039174031:True:=⟨⟩
theorem tw5489609009304232975:True:=⟨⟩
theorem tw14040269424755913306:True:=⟨⟩
theorem tw7049110976749976777:True:=⟨⟩
theorem tw2207472726714747428:True:=⟨⟩
theorem tw9658497120256038020:True:=⟨⟩
theorem tw16496061841582082205:True:=⟨⟩
theorem tw4667591073992311457:True:=⟨⟩
theorem tw3110326295062567461:True:=⟨⟩
theorem tw5124778260913505094:True:=⟨⟩
theorem tw15193882008734997366:True:=⟨⟩
theorem tw11055489787895686270:True:=⟨⟩
theorem tw11054201479969374691:True:=⟨⟩
theorem tw7151974825418539296:True:=⟨⟩
theorem tw10045268774941022146:True:=⟨⟩
theorem tw6962352123855582769:True:=⟨⟩
theorem tw14661016643504243540:True:=⟨⟩
theorem tw17148449374794886255:True:=⟨⟩
theorem tw10960175912611996051:True:=⟨⟩
theorem tw2760787833395904936:True:=⟨⟩
theorem tw11225800830672718166:True:=⟨⟩
theorem tw6720882659028388056:True:=⟨⟩
theorem tw3082628302481877812:True:=⟨⟩
theorem tw12696035268748019994:True:=⟨⟩
theorem tw12467991478813508356:True:=⟨⟩
theorem tw6320926941921690695:True:=⟨⟩
theorem tw7458295316308412035:True:=⟨⟩
theorem tw1762166964666403135:True:=⟨⟩
theorem tw920853795709767210:True:=⟨⟩
theorem tw15617598621282689734:True:=⟨⟩
theorem tw13334625551654776252:True:=⟨⟩
theorem tw13468503718773166414:True:=⟨⟩
theorem tw12384875023604275980:True:=⟨⟩
theorem tw17589381497093417029:True:=⟨⟩
theorem tw3704260985427607268:True:=⟨⟩
theorem tw10019891544828605578:True:=⟨⟩
theorem tw4512289961345444545:True:=⟨⟩
theorem tw1184289591494462414:True:=⟨⟩
theorem tw9496586251659258550:True:=⟨⟩
theorem tw1215355347636714184:True:=⟨⟩
theorem tw17231866615303596992:True:=⟨⟩
theorem tw7929234330357609749:True:=⟨⟩
theorem tw14817160407953289511:True:=⟨⟩
theorem tw13510354482142672247:True:=⟨⟩
theorem tw3868453521865341528:True:=⟨⟩
theorem tw10710075381783888452:True:=⟨⟩
theorem tw11805364992031346323:True:=⟨⟩
theorem tw12697960022901994453:True:=⟨⟩
end PySem.W.Fast
local macro_rules | `(tactic| walk_at "u") => `(tactic| with_unfolding_all rfl)
namespace L2
open PySem PySem.Spec PyProof.Rows
noncomputable abbrev Key:=Sum Int Str
noncomputable def kj:Key->Value->Bool
 | .inl k,v=>Value.isInt k v
 | .inr x,v=>Value.isStrOf x v
noncomputable def MX (w:World):Key->Int
 | .inl k=>hashInt k
 | .inr x=>hashStr w x
theorem bH:∀ {k:Key} {v:Value},kj k v=true->(∃ i t,k=Pd i/\v=RP i t)\/(∃ x t,k=Rw x/\v=Value.str x t)
 | .inl i,v,h=>by
  obtain ⟨t,e⟩:=Value.isInt_shape (k:=i) (v:=v) h
  exact .inl ⟨i,t,rfl,e⟩
 | .inr x,v,h=>by
  obtain ⟨t,e⟩:=Value.isStrOf_shape (x:=x) (v:=v) h
  exact .inr ⟨x,t,rfl,e⟩
theorem xU (i) (t:Tok):kj (.inl i) (.int i t)=true:=by simp [kj,Value.isInt]
theorem xV (x) (t:Tok):kj (.inr x) (.str x t)=true:=by simp [kj,Value.isStrOf]
theorem G1 (a b):decide ((Pd a:Key)=Pd b)=(a == b):=by
 by_cases e:a=b
 ·subst e; simp
 ·have h:¬ (Pd a:Key)=Pd b:=λq=>e (Pd.inj q)
  rw [decide_eq_false h]
  exact (beq_eq_false_iff_ne.mpr e).symm
theorem G2 (a b):decide ((Rw a:Key)=Rw b)=decide (a=b):=by
 by_cases e:a=b
 ·subst e; simp
 ·have h:¬ (Rw a:Key)=Rw b:=λq=>e (Rw.inj q)
  rw [decide_eq_false h,decide_eq_false e]
theorem G3 (a) (b):decide ((Pd a:Key)=Rw b)=false:=decide_eq_false (λq=>nomatch q)
theorem G4 (a) (b):decide ((Rw a:Key)=Pd b)=false:=decide_eq_false (λq=>nomatch q)
noncomputable def bK (prog:Program) (w:World):PySem.KeyKind prog w Key where
 is:=kj
 hash:=MX w
 inj:=λv a b ha hb=>by
  rcases bH ha with ⟨i,t,rfl,rfl⟩ | ⟨x,t,rfl,rfl⟩
  ·rcases bH hb with ⟨j,u,rfl,e⟩ | ⟨y,u,rfl,e⟩
   ·injection e with e1 _; rw [e1]
   ·exact nomatch e
  ·rcases bH hb with ⟨j,u,rfl,e⟩ | ⟨y,u,rfl,e⟩
   ·exact nomatch e
   ·injection e with e1 _; rw [e1]
 byValue:=λk v h=>by
  rcases bH h with ⟨i,t,rfl,rfl⟩ | ⟨x,t,rfl,rfl⟩ <;> rfl
 pyHash:=λhv h=>by
  rcases bH hv with ⟨i,t,rfl,rfl⟩ | ⟨x,t,rfl,rfl⟩
  ·exact wpAny_pyHash_int h
  ·exact wpAny_pyHash_str h
 eqBool:=λhu hv h=>by
  rcases bH hu with ⟨i,t,rfl,rfl⟩ | ⟨x,t,rfl,rfl⟩
  ·rcases bH hv with ⟨j,u,rfl,rfl⟩ | ⟨y,u,rfl,rfl⟩
   ·rw [G1] at h; exact wpAny_eqBool_int h
   ·rw [G3] at h; exact Ph.int_str i t y u _ _ _ _ h
  ·rcases bH hv with ⟨j,u,rfl,rfl⟩ | ⟨y,u,rfl,rfl⟩
   ·rw [G4] at h; exact Ph.str_int x t j u _ _ _ _ h
   ·rw [G2] at h; exact wpAny_eqBool_str h
 «strs» :=λk x t v h=>by
  rcases bH h with ⟨i,u,rfl,e⟩ | ⟨y,u,rfl,e⟩
  ·exact nomatch e
  ·injection e with e1 _
   subst e1
   cases v <;> rfl
theorem qE (prog) (w) (i) (t:Tok):(bK prog w).is (.inl i) (.int i t)=true:=xU i t
theorem qF (prog) (w) (x) (t:Tok):(bK prog w).is (.inr x) (.str x t)=true:=xV x t
inductive V where
 | non | bl (b:Bool) | int (i:Int) | str (x:Str) | byt (b:Array UInt8) | flt (b:UInt64) | ref (a:Addr) | ty (n:String)
 deriving DecidableEq
noncomputable def RelV:V->Value->Prop
 | .non,u=>u=Qy
 | .bl b,u=>u=Value.bool b
 | .int i,u=>∃ t,u=RP i t
 | .str x,u=>∃ t,u=Value.str x t
 | .byt b,u=>∃ t,u=Value.bytes b t
 | .flt b,u=>∃ t,u=Value.float b t
 | .ref a,u=>u=Po a
 | .ty n,u=>u=Qh n
noncomputable abbrev Vals:List V->List Value->Prop:=Paired RelV
theorem Vals.length (r:Vals xs us):xs.length=us.length:=Qf r
theorem Vals.get:∀ {xs:List V} {us:List Value} {i:Nat} {x:V},Vals xs us->xs[i]?=some x->∃ u,us[i]?=some u/\RelV x u
 | _,_,_,_,.nil,e=>by simp at e
 | _,_,0,_,.cons r _,e=>by simp at e; subst e; exact ⟨_,rfl,r⟩
 | _,_,i+1,x,.cons _ t,e=>by
  obtain ⟨u,h1,h2⟩:=Vals.get (i:=i) (x:=x) t (by simpa using e)
  exact ⟨u,by simpa using h1,h2⟩
theorem Vals.set (r:RelV x u):∀ {xs:List V} {us:List Value} (i:Nat),Vals xs us->Vals (xs.set i x) (us.set i u)
 | _,_,_,.nil=>.nil
 | _,_,0,.cons _ t=>.cons r t
 | _,_,i+1,.cons q t=>.cons q (Vals.set r i t)
theorem Vals.append:∀ {xs ys:List V} {us ws:List Value},Vals xs us->Vals ys ws->Vals (xs++ys) (us++ws)
 | _,_,_,_,.nil,s=>s
 | _,_,_,_,.cons r t,s=>.cons r (Vals.append t s)
theorem Vals.take:∀ {xs:List V} {us:List Value} (n:Nat),Vals xs us->Vals (xs.take n) (us.take n)
 | _,_,0,_=>.nil
 | _,_,_+1,.nil=>.nil
 | _,_,n+1,.cons r t=>.cons r (Vals.take n t)
theorem Vals.drop:∀ {xs:List V} {us:List Value} (n:Nat),Vals xs us->Vals (xs.drop n) (us.drop n)
 | _,_,0,r=>r
 | _,_,_+1,.nil=>.nil
 | _,_,n+1,.cons _ t=>Vals.drop n t
noncomputable def jR:Option V->Option Value->Prop
 | some v,some u=>RelV v u
 | none,none=>True
 | _,_=>False
noncomputable def KV {κ:Type}:List (κ×V)->List (κ×Value)->Prop:=Paired λ(p:κ×V) (q:κ×Value)=>p.1=q.1/\RelV p.2 q.2
noncomputable def kV:Key->V
 | .inl i=>.int i
 | .inr x=>.str x
inductive HO where
 | lst (xs:List V)
 | tup (xs:List V)
 | dK (kvs:List (Key×V)) | dT (kvs:List (List Key×Addr×V))
 | set (S:Int->Bool) (n:Nat)
 | ins (C dx:Addr) (fs:List (Str×V))
 | own (x:Addr)
 | xd (fs:List (Str×V))
 | met (f x:Addr)
 | rng (lo hi:Int)
 | frz (o:Obj) (u:HO)
 | tbl (ps:Array Value)
 | ext (φ :Heap->Prop)
noncomputable abbrev Hp:=Addr->Option HO
noncomputable def upd (H:Hp) (a:Addr) (o:HO):Hp:=λb=>if b=a then some o else H b
theorem af:upd H a o a=some o:=by unfold upd; rw [if_pos rfl]
theorem ai (h:b≠a):upd H a o b=H b:=by unfold upd; rw [if_neg h]
theorem oQ:upd (upd H a o) a u=upd H a u:=by
 funext b; unfold upd; split <;> rfl
theorem aD {H:Hp} (h:H a=some o) (h':H b=none):a≠b:=by
 intro e; subst e; rw [h] at h'; cases h'
section
variable (P:Program) (w:World)
noncomputable def bx (H:Hp) (h:Heap) (a:Addr):HO->Prop
 | .lst xs=>xs.length<=sizeLine/\∃ (its:List Value) (n:Nat),Vals xs its/\h.get? a=some { cls:=.type "list",data:=.seq its.toArray n }
 | .tup xs=>xs.length<=sizeLine/\∃ its:List Value,Vals xs its/\IsTup h a its.toArray
 | .dK kvs=>kvs.length<=sizeLine/\(a == sysModules)=false/\∃ vs,KV kvs vs/\h.DictOf (bK P w) a vs
 | .dT kvs=>kvs.length<=sizeLine/\(a == sysModules)=false/\∃ xs:List (List Key×Addr×Value),
  Paired (λ(p:List Key×Addr×V) (q:List Key×Addr×Value)=>p.1=q.1/\p.2.1=q.2.1/\RelV p.2.2 q.2.2) kvs xs /\
  ∃ o es ep,h.get? a=some o/\o.ExactDict/\o.data=.dict es ep/\es.toList=xs.map (entryOfKey (tupleKind (bK P w)))/\(xs.map (·.1)).Nodup
 | .set S n=>h.SetOf (intKind P w) a S n
 | .ins C dx fs=>H dx=some (.own a)/\fs.length<=1000/\dx≠a/\h.get? a=some (PySem.W.instObj C dx) /\
  ∃ mA,h.Ns1 dx mA/\(∀ f,jR (fs.lookup f) (mA f))/\PySem.Within mA (fs.map (·.1))
 | .own _=>∃ o,h.get? a=some o
 | .xd fs=>∃ mA,h.Ns1 a mA/\∀ f,jR (fs.lookup f) (mA f)
 | .rng lo hi=>∃ t u v,h.get? a=some { cls:=.type "range",data:=.fields #[.int lo t,.int hi u,.int 1 v] }
 | .frz o u=>h.get? a=some o/\bx H h a u
 | .tbl ps=>h.get? a=some { cls:=.none,data:=.fields ps }
 | .met f x=>h.get? a=some (Vk (.ref f) (.ref x))
 | .ext φ => φ h/\(∃ o,h.get? a=some o)/\∀ h1 h2:Heap,φ h1->(∀ o,h1.get? a=some o->h2.get? a=some o)-> φ h2
def je (H:Hp) (h:Heap):Prop:=∀ a o,H a=some o->bx P w H h a o
end
theorem bx.lt (x:bx P w H h a o):a<h.objs.size:=by
 cases o with
 | lst xs=>obtain ⟨_,_,_,_,e⟩:=x; exact OZ e
 | tup xs=>obtain ⟨_,_,_,p⟩:=x; exact p.lt
 | dK kvs=>obtain ⟨_,_,_,_,o,_,_,e,_⟩:=x; exact OZ e
 | dT kvs=>obtain ⟨_,_,_,_,o,_,_,e,_⟩:=x; exact OZ e
 | set S n=>obtain ⟨o,_,_,_,e,_⟩:=x; exact OZ e
 | ins C dx fs=>obtain ⟨_,_,_,e,_⟩:=x; exact OZ e
 | own y=>obtain ⟨_,e⟩:=x; exact OZ e
 | xd fs=>obtain ⟨_,⟨_,_,_,e,_⟩,_⟩:=x; exact OZ e
 | rng lo hi=>obtain ⟨_,_,_,e⟩:=x; exact OZ e
 | frz ob u=>obtain ⟨e,_⟩:=x; exact OZ e
 | tbl ps=>exact OZ (show h.get? a=some _ from x)
 | met f y=>exact OZ (show h.get? a=some _ from x)
 | ext φ =>obtain ⟨_,⟨_,e⟩,_⟩:=x; exact OZ e
theorem Paired.G5:∀ {l₁:List α} {l₂:List β},Paired F l₁ l₂->(∀ a b,F a b->G a b)->Paired G l₁ l₂
 | _,_,.nil,_=>.nil
 | _,_,.cons r t,f=>.cons (f _ _ r) (Paired.G5 t f)
theorem bx.stay (x:bx P w H h a o) (k:∀ b u,(b=a\/H b=some (.own a))->h.get? b=some u->h'.get? b=some u)
 (ho:∀ b,H b=some (.own a)->H' b=some (.own a)) (ht:∀ b xs,H b=some (.tup xs)->H' b=some (.tup xs)):bx P w H' h' a o:=by
 induction o with
 | lst xs=>obtain ⟨z,its,n,r,e⟩:=x; exact ⟨z,its,n,r,k _ _ (.inl rfl) e⟩
 | tup xs=>obtain ⟨z,its,r,ob,e,c⟩:=x; exact ⟨z,its,r,ob,k _ _ (.inl rfl) e,c⟩
 | dK kvs=>obtain ⟨z,y,vs,r,ob,es,ep,e,c⟩:=x; exact ⟨z,y,vs,r,ob,es,ep,k _ _ (.inl rfl) e,c⟩
 | dT kvs =>
  obtain ⟨z,y,xs,r,ob,es,ep,e,c⟩:=x
  exact ⟨z,y,xs,r,ob,es,ep,k _ _ (.inl rfl) e,c⟩
 | set S n=>obtain ⟨ob,es,ep,t,e,c⟩:=x; exact ⟨ob,es,ep,t,k _ _ (.inl rfl) e,c⟩
 | ins C dx fs =>
  obtain ⟨d,z,ne,e,mA,⟨od,es,ep,e2,c⟩,r⟩:=x
  exact ⟨ho _ d,z,ne,k _ _ (.inl rfl) e,mA,⟨od,es,ep,k _ _ (.inr d) e2,c⟩,r⟩
 | own y=>obtain ⟨ob,e⟩:=x; exact ⟨ob,k _ _ (.inl rfl) e⟩
 | xd fs=>obtain ⟨mA,⟨od,es,ep,e,c⟩,r⟩:=x; exact ⟨mA,⟨od,es,ep,k _ _ (.inl rfl) e,c⟩,r⟩
 | rng lo hi=>obtain ⟨t,u,v,e⟩:=x; exact ⟨t,u,v,k _ _ (.inl rfl) e⟩
 | frz ob u ih=>obtain ⟨e,q⟩:=x; exact ⟨k _ _ (.inl rfl) e,ih q⟩
 | tbl ps =>
  have e:h.get? a=some { cls:=.none,data:=.fields ps }:=x
  show h'.get? a=some { cls:=.none,data:=.fields ps }
  exact k a _ (.inl rfl) e
 | met f y =>
  have e:h.get? a=some (Vk (.ref f) (.ref y)):=x
  show h'.get? a=some (Vk (.ref f) (.ref y))
  exact k a _ (.inl rfl) e
 | ext φ =>obtain ⟨p,⟨o,e⟩,st⟩:=x; exact ⟨st _ _ p λo q=>k _ _ (.inl rfl) q,⟨o,k _ _ (.inl rfl) e⟩,st⟩
theorem je.lt (x:je P w H h) (e:H a=some o):a<h.objs.size:=(x a o e).lt
theorem je.fresh (x:je P w H h) (e:h.objs.size<=a):H a=none:=by
 cases q:H a with
 | none=>rfl
 | some u=>exact absurd (PJ (x.lt q) e) (QB _)
theorem je.kept (x:je P w H h) (k:∀ b u,h.get? b=some u->h'.get? b=some u):je P w H h':=λa o e =>
 (x a o e).stay (λb u _ q=>k b u q) (λ_ q=>q) λ_ _ q=>q
theorem je.laid (x:je P w H h) (k:∀ b u,h.get? b=some u->h'.get? b=some u) (hp:h.objs.size<=a) (new:bx P w (upd H a o) h' a o):je P w (upd H a o) h':=λb u e=>by
 have hn:=x.fresh hp
 by_cases hb:b=a
 ·subst hb; rw [af] at e; cases e; exact new
 ·rw [ai hb] at e
  exact (x b u e).stay (λc v _ q=>k c v q) (λc q=>by rw [ai (aD q hn)]; exact q) λc xs q=>by rw [ai (aD q hn)]; exact q
def Rd (H:Hp) (a:Addr) (u:HO):Prop:=H a=some u\/∃ o,H a=some (.frz o u)
theorem Rd.ok (r:Rd H a u) (x:je P w H h):bx P w H h a u:=by
 rcases r with r | ⟨o,r⟩
 ·exact x a u r
 ·obtain ⟨_,q⟩:=x a _ r
  exact q
noncomputable def Ks:Option HO->Prop
 | some (.lst _)=>True
 | some (.dK _)=>True
 | some (.dT _)=>True
 | some (.set _ _)=>True
 | some (.ins _ _ _)=>True
 | some (.ext _)=>True
 | _=>False
theorem je.write (ok:je P w H h) (mu:Ks (H x)) (he:e=x\/H e=some (.own x)) (k:∀ b u,b≠e->h.get? b=some u->h'.get? b=some u) (heo:∃ u,h'.get? e=some u)
 (new:bx P w (upd H x o') h' x o'):je P w (upd H x o') h':=λb u q=>by
 have nown:∀ c y,H c=some (.own y)->c≠x:=λc y r z=>by subst z; rw [r] at mu; exact mu
 have ntup:∀ c xs,H c=some (.tup xs)->c≠x:=λc xs r z=>by subst z; rw [r] at mu; exact mu
 by_cases hb:b=x
 ·subst hb; rw [af] at q; cases q; exact new
 ·rw [ai hb] at q
  by_cases hbe:b=e
  ·have q':H b=some (.own x):=by
    rcases he with z | z
    ·exact absurd (hbe.trans z) hb
    ·rw [hbe]; exact z
   rw [q] at q'; cases q'
   obtain ⟨v,hv⟩:=heo
   exact ⟨v,by rw [hbe]; exact hv⟩
  ·refine (ok b u q).stay (λc v hc r=>k c v ?_ r) (λc r=>by rw [ai (nown c b r)]; exact r) λc xs r=>by rw [ai (ntup c xs r)]; exact r
   rcases hc with rfl | hc
   ·exact hbe
   ·rintro rfl
    rcases he with z | z
    ·exact nown c b hc z
    ·rw [hc] at z; cases z; exact hb rfl
structure Un (fs ex:List Addr) (H H':Hp) (h h':Heap):Prop where
 keep:∀ b o,h.get? b=some o->H b=none->b∉fs->b∉ex->h'.get? b=some o
 slot:∀ b o,h.get? b=some o->H b=none->b∈fs->b∉ex->∃ sl,h'.get? b=some { o with slots:=sl }
 free:∀ b o,h.get? b=some o->H b=none->b∉ex->H' b=none
 there:∀ b o,h.get? b=some o->b∉ex->∃ o',h'.get? b=some o'
 tups:∀ b xs,H b=some (.tup xs)->H' b=some (.tup xs)
 frzs:∀ b o u,H b=some (.frz o u)->H' b=some (.frz o u)
 tbls:∀ b ps,H b=some (.tbl ps)->∃ more,H' b=some (.tbl (ps++more))
section
variable {fs fs' ex ex':List Addr} {H H1 H2:Hp} {h h1 h2 h':Heap} {a x e:Addr} {o:HO}
theorem Un.any (u:Un fs ex H H1 h h1) (q:h.get? b=some ob) (n:H b=none) (hx:b∉ex):∃ sl,h1.get? b=some { ob with slots:=sl }:=by
 by_cases hb:b∈fs
 ·exact u.slot b ob q n hb hx
 ·exact ⟨ob.slots,u.keep b ob q n hb hx⟩
theorem Un.kept (k:∀ b u,h.get? b=some u->h'.get? b=some u):Un fs ex H H h h' :=
 ⟨λb ob q _ _ _=>k b ob q,λb ob q _ _ _=>⟨ob.slots,k b ob q⟩,λ_ _ _ n _=>n,λb ob q _=>⟨ob,k b ob q⟩,λ_ _ q=>q,λ_ _ _ q=>q,λ_ ps q=>⟨#[],by rw [q]; simp⟩⟩
theorem Un.refl:Un fs ex H H h h:=Un.kept λ_ _ q=>q
theorem Un.laid (k:∀ b u,h.get? b=some u->h'.get? b=some u) (hp:h.objs.size<=a) (hn:H a=none):Un fs ex H (upd H a o) h h' where
 keep:=λb u q _ _ _=>k b u q
 slot:=λb u q _ _ _=>⟨u.slots,k b u q⟩
 free:=λb u q n _=>by rw [ai (Px (PJ (OZ q) hp))]; exact n
 there:=λb u q _=>⟨u,k b u q⟩
 tups:=λb xs q=>by rw [ai (aD q hn)]; exact q
 frzs:=λb u xs q=>by rw [ai (aD q hn)]; exact q
 tbls:=λb ps q=>⟨#[],by rw [ai (aD q hn),q]; simp⟩
theorem Un.write (mu:Ks (H x)) (he:e=x\/H e=some (.own x)) (k:∀ b u,b≠e->h.get? b=some u->h'.get? b=some u) (heo:∃ u,h'.get? e=some u):Un fs ex H (upd H x o) h h':=by
 have hx:∀ b,H b=none->b≠x:=λb n z=>by subst z; rw [n] at mu; exact mu
 have hb:∀ b,H b=none->b≠e:=λb n z=>by
  subst z
  rcases he with r | r
  ·exact hx b n r
  ·rw [n] at r; cases r
 have hm:∀ b u,H b=some u->¬ Ks (some u)->b≠x:=λb u q nm z=>by subst z; rw [q] at mu; exact nm mu
 refine ⟨λb u q n _ _=>k b u (hb b n) q,λb u q n _ _=>⟨u.slots,k b u (hb b n) q⟩,λb u q n _=>by rw [ai (hx b n)]; exact n,λb u q _=>?_,
  λb xs q=>by rw [ai (hm b _ q λz=>z)]; exact q,λb u xs q=>by rw [ai (hm b _ q λz=>z)]; exact q,λb ps q=>⟨#[],by rw [ai (hm b _ q λz=>z),q]; simp⟩⟩
 by_cases hbe:b=e
 ·subst hbe; exact heo
 ·exact ⟨u,k b u hbe q⟩
end
noncomputable def MG (h:Heap) (H:Hp):List Addr:=(Pc h.objs.size).filter λa=>(H a).isSome
noncomputable def oR (h:Heap) (H:Hp):Heap:=PySem.W.hideAll h (MG h H)
theorem xW (h) (H):(oR h H).objs.size=h.objs.size:=PySem.W.hideAll_size _ _
theorem zG (e:h.get? b=some o) (n:H b=none):(oR h H).get? b=some o :=
 PySem.W.hideAll_get _ e λhm=>by
  have q:(H b).isSome=true:=(QX.mp hm).2
  rw [n] at q; simp at q
theorem Dt (e:(oR h H).get? b=some o):h.get? b=some o/\H b=none:=by
 have e':h.get? b=some o:=PySem.W.of_hideAll (MG h H) e
 refine ⟨e',?_⟩
 cases q:H b with
 | none=>rfl
 | some x =>
  have hm:b∈MG h H:=QX.mpr ⟨SX.mpr (OZ e'),by simp [q]⟩
  have z:(oR h H).get? b=none:=PySem.W.hideAll_none (MG h H) hm
  rw [z] at e; cases e
structure Mod (K:OR) (mg:Str->Option Value) (base:Heap):Prop where
 kin:K.In base
 glob:base.Ns mainGlobals mg
 blt:∃ mb,base.Ns builtinsNs mb/\∀ x:Str,x≠"__name__"->mb x=bootBuiltins x
 nolimit:base.NoLimit
structure Cx where
 prog:Program
 w:World
 K:OR
 mg:Str->Option Value
 base:Heap
 A:Around
 N:List Str
 s₀:Shared
 H₀:Hp
 env:Env
 outer:List Env
 stack:List Env
 ex:List Addr
 fn:Str->Bool
 calm:Bool
 pn:List (Addr×Obj)
 xe:Value->Shared->Prop
noncomputable def frs (l:List Env):List Addr:=l.filterMap (·.frame)
noncomputable abbrev Cx.fs (X:Cx):List Addr:=frs X.outer
def MY (sc:Scope) (x:Str):Prop:=sc.names.lookup x=some .local\/sc.names.lookup x=some .cell\/sc.names.lookup x=some .free
def Loc (sc:Scope) (x:Str):Prop:=sc.names.lookup x=some .local\/sc.names.lookup x=some .cell
def Look (env:Env) (h:Heap) (m:Str->Option Value) (x:Str) (u:Value):Prop :=
 (env.kindOf x=some .local/\m x=some u)\/((env.kindOf x=some .cell\/env.kindOf x=some .free)/\∃ c,env.cells.lookup x=some c/\h.IsCell c (some u))
structure Cx.Ok (X:Cx):Prop where
 mod:Mod X.K X.mg X.base
 kind:X.env.scope.kind=.function
 glob:X.env.globals=mainGlobals
 blt:X.env.builtins=builtinsNs
 above:X.s₀.heap.objs.size<=X.env.locals
 inj:∀ x y c,X.env.cells.lookup x=some c->X.env.cells.lookup y=some c->x=y
 has:∀ x,(X.env.kindOf x=some .cell\/X.env.kindOf x=some .free)->∃ c,X.env.cells.lookup x=some c
 cab:∀ x c,X.fn x=true->X.env.cells.lookup x=some c->X.s₀.heap.objs.size<=c
 hd:X.calm=true->X.A.handled=none
 frames:X.A.frames=some X.stack
 stk:X.stack=X.outer\/(X.stack=X.env::X.outer/\X.env.frame=some X.env.locals)
 exf:∀ b∈X.ex,b≠X.env.locals/\∀ x c,X.env.cells.lookup x=some c->c≠b
 bs:∀ b o,X.base.get? b=some o->X.s₀.heap.get? b=some o/\X.H₀ b=none
 bsz:X.base.objs.size<=X.s₀.heap.objs.size
 noex:∀ b o,X.base.get? b=some o->b∉X.ex
 exfs:∀ b∈X.ex,b∉X.fs
 jf:X.s₀.heap.FunFrames X.base X.outer
 frf:∀ b∈X.fs,X.H₀ b=none
structure Inv (X:Cx) (aa:List (Addr×Obj)) (σ:List (Option V)) (H:Hp) (s:Shared):Prop where
 ok:X.Ok
 os:s.os=X.s₀.os
 bare:AllBare s.gens
 base:Un X.fs X.ex X.H₀ H X.s₀.heap s.heap
 loc:∃ m,s.heap.Ns X.env.locals m/\∀ (i:Nat) (x:Str) (v:V),X.N[i]?=some x->σ[i]?=some (some v)->MY X.env.scope x->∃ u,RelV v u/\Look X.env s.heap m x u
 cell:∀ x c,X.env.cells.lookup x=some c->∃ v,s.heap.IsCell c v
 free:H X.env.locals=none
 freeC:∀ x c,X.env.cells.lookup x=some c->H c=none
 pin:∀ p∈X.pn++aa,s.heap.get? p.1=some p.2/\H p.1=none/\p.1≠X.env.locals/\p.1∉X.fs/\∀ v,p.2.data≠.cell v
 hok:je X.prog X.w H s.heap
 len:σ.length=X.N.length
section
variable {X:Cx}
theorem Cx.Ok.MZ (ok:X.Ok) (e:X.base.get? b=some o):b∉X.fs:=λhb=>by
 have:=(ok.jf.mem hb).1
 rw [e] at this; cases this
theorem Inv.bs (I:Inv X aa σ H s):∀ b o,X.base.get? b=some o->s.heap.get? b=some o/\H b=none:=λb o e =>
 ⟨I.base.keep b o (I.ok.bs b o e).1 (I.ok.bs b o e).2 (I.ok.MZ e) (I.ok.noex b o e),I.base.free b o (I.ok.bs b o e).1 (I.ok.bs b o e).2 (I.ok.noex b o e)⟩
theorem Inv.bk (I:Inv X aa σ H s):∀ b o,X.base.get? b=some o->s.heap.get? b=some o:=λb o e=>(I.bs b o e).1
theorem Inv.mod (I:Inv X aa σ H s):Mod X.K X.mg X.base:=I.ok.mod
theorem Inv.Dl (I:Inv X aa σ H s):X.K.In s.heap:=I.ok.mod.kin.keeps I.bk
theorem Inv.lt (I:Inv X aa σ H s):X.env.locals<s.heap.objs.size:=let ⟨_,hn,_⟩:=I.loc; hn.lt
theorem Inv.sz (I:Inv X aa σ H s):X.s₀.heap.objs.size<=s.heap.objs.size:=O3 I.ok.above (QC I.lt)
theorem Inv.Ku (I:Inv X aa σ H s) (h:s.heap.objs.size<=a):a∉X.fs:=λhb=>by
 obtain ⟨_,o,ho,_⟩:=I.ok.jf.mem hb
 exact absurd (PJ (OZ ho) (O3 I.sz h)) (QB _)
theorem Inv.G6 (I:Inv X aa σ H s):∀ x c,X.env.cells.lookup x=some c->c≠X.env.locals:=λx c e z=>by
 obtain ⟨v,o,ho,hd⟩:=I.cell x c e
 obtain ⟨m,⟨o',es,ep,ho',hd',_⟩,_⟩:=I.loc
 rw [z,ho'] at ho; cases ho; rw [hd'] at hd; cases hd
theorem Inv.jf (I:Inv X aa σ H s):s.heap.FunFrames X.base X.outer:=by
 have all:∀ (l:List Env),(∀ b∈frs l,b∈X.fs)->X.s₀.heap.FunFrames X.base l->s.heap.FunFrames X.base l:=by
  intro l
  induction l with
  | nil=>intro _ _; trivial
  | cons env r ih =>
   intro hs hl
   obtain ⟨hk,⟨L,o,hf,hn,ho,hd⟩,hr⟩:=hl
   have hL:L∈X.fs:=hs L (by unfold frs; rw [R8,hf]; exact OY)
   obtain ⟨sl,e⟩:=I.base.slot L o ho (I.ok.frf L hL) hL λz=>I.ok.exfs L z hL
   exact ⟨hk,⟨L,_,hf,hn,e,hd⟩,ih (λb hb=>hs b (by unfold frs; rw [R8,hf]; exact O1 _ hb)) hr⟩
 exact all X.outer (λ_ hb=>hb) I.ok.jf
theorem Inv.stack (I:Inv X aa σ H s):s.heap.FunFrames X.base X.stack:=by
 rcases I.ok.stk with e | ⟨e,hf⟩
 ·rw [e]; exact I.jf
 ·rw [e]
  obtain ⟨m,hn,_⟩:=I.loc
  refine .cons (by rw [I.ok.kind]; decide) hf hn ?_ I.jf
  exact Heap.get?_none_of_le (O3 I.ok.bsz I.ok.above)
theorem Inv.tO (I:Inv X aa σ H s):∀ b∈frs X.stack,b∈X.env.locals::X.fs:=λb hb=>by
 rcases I.ok.stk with e | ⟨e,hf⟩
 ·rw [e] at hb; exact O1 _ hb
 ·rw [e] at hb
  unfold frs at hb
  rw [R8,hf] at hb
  exact hb
theorem Inv.vv (I:Inv X aa σ H s):∀ b∈frs X.stack,H b=none:=λb hb=>by
 rcases O2.mp (I.tO b hb) with e | hb
 ·rw [e]; exact I.free
 ·obtain ⟨_,o,ho,_⟩:=I.ok.jf.mem hb
  exact I.base.free b o ho (I.ok.frf b hb) λz=>I.ok.exfs b z hb
theorem Inv.step {ch:List Addr} (I:Inv X aa σ H s)
 (hch:∀ b∈ch,(b∈X.ex\/X.s₀.heap.objs.size<=b)/\b≠X.env.locals/\(∀ x c,X.env.cells.lookup x=some c->c≠b)/\∀ p∈X.pn++aa,p.1≠b)
 (keep:∀ b o,b≠X.env.locals->b∉X.fs->b∉ch->s.heap.get? b=some o->H b=none->h'.get? b=some o)
 (slot:∀ b o,b≠X.env.locals->b∈X.fs->b∉ch->s.heap.get? b=some o->H b=none->∃ sl,h'.get? b=some { o with slots:=sl }) (free:∀ b o,b∉ch->s.heap.get? b=some o->H b=none->H' b=none)
 (there:∀ b o,b∉ch->s.heap.get? b=some o->∃ o',h'.get? b=some o')
 (tups:∀ b xs,H b=some (.tup xs)->H' b=some (.tup xs)) (frzs:∀ b o u,H b=some (.frz o u)->H' b=some (.frz o u)) (tbls:∀ b ps,H b=some (.tbl ps)->∃ more,H' b=some (.tbl (ps++more)))
 (ns:∀ m,s.heap.Ns X.env.locals m->h'.Ns X.env.locals m) (hok:je X.prog X.w H' h') (hg:AllBare g') :
 Inv X aa σ H' { s with heap:=h',gens:=g',drawn:=d',toks:=t' }:=by
 have neL:∀ b o,X.s₀.heap.get? b=some o->b≠X.env.locals:=λb o e=>Px (PJ (OZ e) I.ok.above)
 have neC:∀ b o,X.s₀.heap.get? b=some o->b∉X.ex->b∉ch:=λb o e hx hb=>by
  rcases (hch b hb).1 with z | z
  ·exact hx z
  ·exact absurd (PJ (OZ e) z) (QB _)
 have cellK:∀ x c,X.env.cells.lookup x=some c->∀ v,s.heap.IsCell c v->h'.IsCell c v:=λx c e v ⟨o,ho,hd⟩=>by
  have nch:c∉ch:=λz=>(hch c z).2.2.1 x c e rfl
  by_cases hc:c∈X.fs
  ·obtain ⟨sl,q⟩:=slot c o (I.G6 x c e) hc nch ho (I.freeC x c e)
   exact ⟨_,q,hd⟩
  ·exact ⟨o,keep c o (I.G6 x c e) hc nch ho (I.freeC x c e),hd⟩
 refine ⟨I.ok,I.os,hg,⟨λb o e n hb hx=>?_,λb o e n hb hx=>?_,λb o e n hx=>?_,λb o e hx=>?_,λb xs e=>tups b xs (I.base.tups b xs e),λb o xs e=>frzs b o xs (I.base.frzs b o xs e),λb ps e=>?_⟩,?_,λx c e=>?_,?_,λx c e=>?_,λp hp=>?_,hok,I.len⟩
 ·exact keep b o (neL b o e) hb (neC b o e hx) (I.base.keep b o e n hb hx) (I.base.free b o e n hx)
 ·obtain ⟨sl,e1⟩:=I.base.slot b o e n hb hx
  obtain ⟨sl',e2⟩:=slot b _ (neL b o e) hb (neC b o e hx) e1 (I.base.free b o e n hx)
  exact ⟨sl',e2⟩
 ·obtain ⟨o',e1⟩:=I.base.there b o e hx
  exact free b o' (neC b o e hx) e1 (I.base.free b o e n hx)
 ·obtain ⟨o',e1⟩:=I.base.there b o e hx
  exact there b o' (neC b o e hx) e1
 ·obtain ⟨m1,e1⟩:=I.base.tbls b ps e
  obtain ⟨m2,e2⟩:=tbls b _ e1
  exact ⟨m1++m2,by rw [e2,Array.append_assoc]⟩
 ·obtain ⟨m,hn,hl⟩:=I.loc
  refine ⟨m,ns m hn,λi x v e1 e2 e3=>?_⟩
  obtain ⟨u,r,l⟩:=hl i x v e1 e2 e3
  refine ⟨u,r,?_⟩
  rcases l with l | ⟨k,c,e,z⟩
  ·exact .inl l
  ·exact .inr ⟨k,c,e,cellK x c e _ z⟩
 ·obtain ⟨v,z⟩:=I.cell x c e
  exact ⟨v,cellK x c e v z⟩
 ·obtain ⟨m,⟨o,_,_,ho,_⟩,_⟩:=I.loc
  exact free _ o (λz=>(hch _ z).2.1 rfl) ho I.free
 ·obtain ⟨v,o,ho,hd⟩:=I.cell x c e
  exact free c o (λz=>(hch c z).2.2.1 x c e rfl) ho (I.freeC x c e)
 ·obtain ⟨e,n,ne,nf,d⟩:=I.pin p hp
  have nch:p.1∉ch:=λz=>(hch p.1 z).2.2.2 p hp rfl
  exact ⟨keep p.1 p.2 ne nf nch e n,free p.1 p.2 nch e n,ne,nf,d⟩
theorem Inv.un (I:Inv X aa σ H s) (u:Un X.fs [] H H' s.heap h') (hok:je X.prog X.w H' h'):Inv X aa σ H' { s with heap:=h',toks:=t' }:=by
 obtain ⟨m,⟨o,es,ep,ho,r⟩,_⟩:=id I.loc
 obtain ⟨sl,hL⟩:=u.any ho I.free (by simp)
 exact I.step (g':=s.gens) (d':=s.drawn) (ch:=[]) (λ_ z=>nomatch z) (λb o _ hb _ e n=>u.keep b o e n hb (by simp)) (λb o _ hb _ e n=>u.slot b o e n hb (by simp)) (λb o _ e n=>u.free b o e n (by simp)) (λb o _ e=>u.there b o e (by simp)) u.tups u.frzs u.tbls (λm' hm=>by
  obtain ⟨o',es',ep',ho',r'⟩:=hm
  rw [ho] at ho'; cases ho'
  exact ⟨_,es',ep',hL,r'⟩) hok I.bare
theorem Inv.call (I:Inv X aa σ H s) (u:Un (frs X.stack) ch H H' s.heap h') (hok:je X.prog X.w H' h') (hg:AllBare g')
 (hch:∀ b∈ch,(b∈X.ex\/X.s₀.heap.objs.size<=b)/\b≠X.env.locals/\(∀ x c,X.env.cells.lookup x=some c->c≠b)/\∀ p∈X.pn++aa,p.1≠b) :
 Inv X aa σ H' { s with heap:=h',gens:=g',drawn:=d',toks:=t' }:=by
 obtain ⟨m,⟨o,es,ep,ho,r⟩,_⟩:=id I.loc
 obtain ⟨sl,hL⟩:=u.any ho I.free λz=>(hch _ z).2.1 rfl
 exact I.step (ch:=ch) hch (λb o hL hb hc e n=>u.keep b o e n (λz=>(O2.mp (I.tO b z)).elim hL hb) hc) (λb o _ _ hc e n=>u.any e n hc) (λb o hc e n=>u.free b o e n hc) (λb o hc e=>u.there b o e hc) u.tups u.frzs u.tbls (λm' hm=>by
  obtain ⟨o',es',ep',ho',r'⟩:=hm
  rw [ho] at ho'; cases ho'
  exact ⟨_,es',ep',hL,r'⟩) hok hg
theorem Inv.turned (I:Inv X aa σ H s) (k:∀ b o,b≠it->s.heap.get? b=some o->h'.get? b=some o) (hn:H it=none) (hL:it≠X.env.locals)
 (h1:it∈X.ex\/X.s₀.heap.objs.size<=it) (h2:∀ x c,X.env.cells.lookup x=some c->c≠it) (h3:∀ p∈X.pn++aa,p.1≠it):Inv X aa σ H { s with heap:=h',toks:=t' }:=by
 have nit:∀ b u,H b=some u->b≠it:=λb u e z=>by rw [z,hn] at e; cases e
 refine I.step (g':=s.gens) (d':=s.drawn) (ch:=[it]) (λb hb=>?_) (λb o _ _ hc e _=>k b o (λz=>hc (by simp [z])) e) (λb o _ _ hc e _=>⟨o.slots,k b o (λz=>hc (by simp [z])) e⟩) (λ_ _ _ _ n=>n)
  (λb o hc e=>⟨o,k b o (λz=>hc (by simp [z])) e⟩) (λ_ _ e=>e) (λ_ _ _ e=>e) (λb ps e=>⟨#[],by rw [e]; simp⟩) (λm hm=>?_) (λb u e=>?_) I.bare
 ·have e:b=it:=by simpa using hb
  subst e
  exact ⟨h1,hL,h2,h3⟩
 ·obtain ⟨o,es,ep,ho,r⟩:=hm
  exact ⟨o,es,ep,k _ o (Pe hL) ho,r⟩
 ·refine (I.hok b u e).stay (λc v hc q=>k c v ?_ q) (λ_ q=>q) λ_ _ q=>q
  rcases hc with z | z
  ·rw [z]; exact nit b u e
  ·exact nit c _ z
theorem Inv.tok (I:Inv X aa σ H s) (t):Inv X aa σ H { s with toks:=t }:=I.un (h':=s.heap) (t':=t) Un.refl I.hok
theorem Inv.kept (I:Inv X aa σ H s) (k:∀ b u,s.heap.get? b=some u->h'.get? b=some u):Inv X aa σ H { s with heap:=h',toks:=t' }:=I.un (Un.kept k) (I.hok.kept k)
theorem Inv.laid (I:Inv X aa σ H s) (k:∀ b u,s.heap.get? b=some u->h'.get? b=some u) (hp:s.heap.objs.size<=a) (new:bx X.prog X.w (upd H a o) h' a o) :
 Inv X aa σ (upd H a o) { s with heap:=h',toks:=t' }:=I.un (Un.laid k hp (I.hok.fresh hp)) (I.hok.laid k hp new)
theorem Inv.write (I:Inv X aa σ H s) (mu:Ks (H x)) (he:e=x\/H e=some (.own x)) (k:∀ b u,b≠e->s.heap.get? b=some u->h'.get? b=some u) (heo:∃ u,h'.get? e=some u)
 (new:bx X.prog X.w (upd H x o) h' x o):Inv X aa σ (upd H x o) { s with heap:=h',toks:=t' }:=I.un (Un.write mu he k heo) (I.hok.write mu he k heo new)
theorem Inv.vz (I:Inv X aa σ H s) (h:∀ p∈pins',s.heap.get? p.1=some p.2/\H p.1=none/\p.1≠X.env.locals/\p.1∉X.fs/\∀ v,p.2.data≠.cell v):Inv X pins' σ H s :=
 ⟨I.ok,I.os,I.bare,I.base,I.loc,I.cell,I.free,I.freeC,λp hp=>(Pb.mp hp).elim (λz=>I.pin p (Qk _ z)) (h p),I.hok,I.len⟩
theorem qG {N:List Str} (hN:N.Nodup) {i j:Nat} (a:N[i]?=some x) (b:N[j]?=some x):i=j:=by
 obtain ⟨h1,e1⟩:=O6.mp a
 obtain ⟨h2,e2⟩:=O6.mp b
 exact (List.getElem_inj hN).mp (e1.trans e2.symm)
theorem xX (I:Inv X aa σ H s) (hN:X.N.Nodup) (hi:X.N[i]?=some x) (hx:Loc X.env.scope x) (r:RelV v u)
 (h:∀ s',Inv X aa (σ.set i (some v)) H s'->(∃ a,QW a s.heap s'.heap/\(a=X.env.locals\/X.env.cells.lookup x=some a))->Q () s') (hf:X.fn x=true\/X.env.scope.names.lookup x=some .local:=by first | exact .inl rfl | exact .inr rfl | assumption):wpAny M A (storeName X.env x u) Q E s:=by
 obtain ⟨m,hn,hl⟩:=id I.loc
 have hcls:(X.env.scope.kind == .class || (X.env.scope.kind == .module && X.env.locals != X.env.globals))=false:=by rw [I.ok.kind]; rfl
 have hiσ:i<σ.length:=by rw [I.len]; exact (O6.mp hi).1
 have G6:=I.G6
 have tracked:∀ {a:Addr} {h':Heap},(∃ o,s.heap.get? a=some o/\H a=none)->QW a s.heap h'->je X.prog X.w H h':=λ{a h'} ha hs b ob e=>by
  obtain ⟨_,_,hfree⟩:=ha
  refine (I.hok b ob e).stay (λc w' hc q=>(hs.2 c ?_).trans q) (λ_ q=>q) λ_ _ q=>q
  rintro rfl
  rcases hc with rfl | hc
  ·rw [hfree] at e; cases e
  ·rw [hfree] at hc; cases hc
 rcases hx with hk | hk
 ·refine wpAny_storeName_local hk hn (λh' hn' hs=>?_) hcls
  obtain ⟨oL,_,_,hoL,_⟩:=id hn
  refine h _ ⟨I.ok,I.os,I.bare,⟨λb o e n hb hx=>?_,λb o e n hb hx=>?_,I.base.free,λb o e hx=>?_,I.base.tups,I.base.frzs,I.base.tbls⟩,⟨_,hn',λj y v' e1 e2 e3=>?_⟩,λy c e=>?_,I.free,I.freeC,λp hp=>?_,tracked ⟨oL,hoL,I.free⟩ hs,by simpa using I.len⟩ ⟨_,hs,.inl rfl⟩
  ·exact (hs.2 b (Px (PJ (OZ e) I.ok.above))).trans (I.base.keep b o e n hb hx)
  ·obtain ⟨sl,e1⟩:=I.base.slot b o e n hb hx
   exact ⟨sl,(hs.2 b (Px (PJ (OZ e) I.ok.above))).trans e1⟩
  ·obtain ⟨o',e1⟩:=I.base.there b o e hx
   exact ⟨o',(hs.2 b (Px (PJ (OZ e) I.ok.above))).trans e1⟩
  ·by_cases hj:j=i
   ·subst hj
    rw [hi] at e1; cases e1
    rw [Qq hiσ] at e2
    cases e2
    exact ⟨u,r,.inl ⟨hk,by simp⟩⟩
   ·rw [Qn (Pe hj)] at e2
    obtain ⟨u',r',q⟩:=hl j y v' e1 e2 e3
    refine ⟨u',r',?_⟩
    rcases q with ⟨k,e⟩ | ⟨k,c,e,z⟩
    ·refine .inl ⟨k,?_⟩
     have:y≠x:=λe=>hj (qG hN e1 (e ▸ hi))
     simp [this,e]
    ·exact .inr ⟨k,c,e,z.sameBut hs (G6 y c e)⟩
  ·obtain ⟨w',z⟩:=I.cell y c e
   exact ⟨w',z.sameBut hs (G6 y c e)⟩
  ·obtain ⟨e,n,ne,nf,d⟩:=I.pin p hp
   exact ⟨(hs.2 p.1 ne).trans e,n,ne,nf,d⟩
 ·have hfn:X.fn x=true:=by
   rcases hf with z | z
   ·exact z
   ·rw [z] at hk; cases hk
  obtain ⟨c,hc⟩:=I.ok.has x (.inl hk)
  obtain ⟨w',z⟩:=I.cell x c hc
  refine wpAny_storeName_cell I.ok.kind hk hc z (λh' hc' hs=>?_)
  obtain ⟨oc,hoc,hocd⟩:=id z
  refine h { s with heap:=h' } ⟨I.ok,I.os,I.bare,⟨λb o e n hb hx=>?_,λb o e n hb hx=>?_,I.base.free,λb o e hx=>?_,I.base.tups,I.base.frzs,I.base.tbls⟩,⟨m,hn.sameBut hs (Pe (G6 x c hc)),λj y v' e1 e2 e3=>?_⟩,λy c' e=>?_,I.free,I.freeC,λp hp=>?_,tracked ⟨oc,hoc,I.freeC x c hc⟩ hs,by simpa using I.len⟩ ⟨c,hs,.inr hc⟩
  ·exact (hs.2 b (Px (PJ (OZ e) (I.ok.cab x c hfn hc)))).trans (I.base.keep b o e n hb hx)
  ·obtain ⟨sl,e1⟩:=I.base.slot b o e n hb hx
   exact ⟨sl,(hs.2 b (Px (PJ (OZ e) (I.ok.cab x c hfn hc)))).trans e1⟩
  ·obtain ⟨o',e1⟩:=I.base.there b o e hx
   exact ⟨o',(hs.2 b (Px (PJ (OZ e) (I.ok.cab x c hfn hc)))).trans e1⟩
  ·by_cases hj:j=i
   ·subst hj
    rw [hi] at e1; cases e1
    rw [Qq hiσ] at e2
    cases e2
    exact ⟨u,r,.inr ⟨.inl hk,c,hc,hc'⟩⟩
   ·rw [Qn (Pe hj)] at e2
    obtain ⟨u',r',q⟩:=hl j y v' e1 e2 e3
    refine ⟨u',r',?_⟩
    rcases q with q | ⟨k,c',e,z'⟩
    ·exact .inl q
    ·refine .inr ⟨k,c',e,z'.sameBut hs ?_⟩
     rintro rfl
     exact hj (qG hN e1 (I.ok.inj _ _ _ e hc ▸ hi))
  ·by_cases hcc:c'=c
   ·subst hcc; exact ⟨_,hc'⟩
   ·obtain ⟨w2,z2⟩:=I.cell y c' e
    exact ⟨w2,z2.sameBut hs hcc⟩
  ·obtain ⟨e,n,ne,nf,d⟩:=I.pin p hp
   refine ⟨(hs.2 p.1 ?_).trans e,n,ne,nf,d⟩
   intro q
   rw [q,hoc] at e
   have q':oc=p.2:=QI e
   exact d w' (by rw [<- q']; exact hocd)
theorem fY (I:Inv X aa σ H s) (hN:X.N.Nodup) (hi:X.N[i]?=some x) (hx:Loc X.env.scope x) (r:RelV v u)
 (h:∀ s',Inv X aa (σ.set i (some v)) H s'->Q () s') (hf:X.fn x=true\/X.env.scope.names.lookup x=some .local:=by first | exact .inl rfl | exact .inr rfl | assumption):wpAny M A (storeName X.env x u) Q E s :=
 xX I hN hi hx r (λs' I' _=>h s' I') hf
theorem Inv.Kv (I:Inv X aa σ H s) (ho:s'.os=s.os) (u:Un (frs X.stack) ch H H' s.heap s'.heap) (hok:je X.prog X.w H' s'.heap) (hg:AllBare s'.gens)
 (hch:∀ b∈ch,(b∈X.ex\/X.s₀.heap.objs.size<=b)/\b≠X.env.locals/\(∀ x c,X.env.cells.lookup x=some c->c≠b)/\∀ p∈X.pn++aa,p.1≠b):Inv X aa σ H' s':=by
 obtain ⟨h',g',d',t',o'⟩:=s'
 have e:o'=s.os:=ho
 subst e
 exact I.call (g':=g') (t':=t') (d':=d') u hok hg hch
end
noncomputable abbrev XK:=Value->Option Addr->Hp->Prop
noncomputable abbrev St:=List (Option V)
noncomputable abbrev VK:=V->Hp->Prop
noncomputable abbrev TE:=St->Hp->VK->Prop
noncomputable abbrev TT:=St->Hp->(Bool->Hp->Prop)->Prop
noncomputable abbrev TA:=St->Hp->(List V->Hp->Prop)->Prop
structure Ends where
 nx:St->Hp->Prop
 rt:VK
 bk:St->Hp->Prop:=λ_ _=>False
 ct:St->Hp->Prop:=λ_ _=>False
noncomputable abbrev TS:=Ends->St->Hp->Prop
def EP (X:Cx) (aa:List (Addr×Obj)) (σ:St) (Q:VK) (u:Value) (s':Shared):Prop:=∃ v H',Inv X aa σ H' s'/\RelV v u/\Q v H'
def TP (X:Cx) (aa:List (Addr×Obj)) (σ:St) (Q:Bool->Hp->Prop) (b:Bool) (s':Shared):Prop:=∃ H',Inv X aa σ H' s'/\Q b H'
def AP (X:Cx) (aa:List (Addr×Obj)) (σ:St) (Q:List V->Hp->Prop) (us:List Value) (s':Shared):Prop:=∃ vs H',Inv X aa σ H' s'/\Vals vs us/\Q vs H'
def SP (X:Cx) (aa:List (Addr×Obj)) (D:Ends) (f:Flow) (s':Shared):Prop :=
 match f with
 | .next=>∃ σ' H',Inv X aa σ' H' s'/\D.nx σ' H'
 | .brk=>∃ σ' H',Inv X aa σ' H' s'/\D.bk σ' H'
 | .cont=>∃ σ' H',Inv X aa σ' H' s'/\D.ct σ' H'
 | .ret u=>∃ v σ' H',Inv X aa σ' H' s'/\RelV v u/\D.rt v H'
def PE (X:Cx) (e:Expr) (t:TE):Prop :=
 ∀ (aa:List (Addr×Obj)) (s:Shared) (σ:St) (H:Hp) (Q:VK),Inv X aa σ H s->t σ H Q->wpAny (model X.prog X.w) X.A (eval e X.env) (EP X aa σ Q) X.xe s
def PT (X:Cx) (e:Expr) (t:TT):Prop :=
 ∀ (aa:List (Addr×Obj)) (s:Shared) (σ:St) (H:Hp) (Q:Bool->Hp->Prop),Inv X aa σ H s->t σ H Q->wpAny (model X.prog X.w) X.A (isTrue e X.env (eval e X.env)) (TP X aa σ Q) X.xe s
def PW (X:Cx) (e:Expr) (t:TT):Prop :=
 ∀ (whole:Sem Value) (aa:List (Addr×Obj)) (s:Shared) (σ:St) (H:Hp) (Q:Bool->Hp->Prop),Inv X aa σ H s->t σ H Q->wpAny (model X.prog X.w) X.A (isTrue e X.env whole) (TP X aa σ Q) X.xe s
def PA (X:Cx) (es:List Expr) (t:TA):Prop :=
 ∀ (pos:Pos) (aa:List (Addr×Obj)) (s:Shared) (σ:St) (H:Hp) (Q:List V->Hp->Prop),Inv X aa σ H s->t σ H Q->wpAny (model X.prog X.w) X.A (spliced (backTo pos (starEach es X.env))) (AP X aa σ Q) X.xe s
def PS (X:Cx) (st:Stmt) (t:TS):Prop :=
 ∀ (aa:List (Addr×Obj)) (s:Shared) (σ:St) (H:Hp) (D:Ends),Inv X aa σ H s->t D σ H->wpAny (model X.prog X.w) X.A (exec st X.env) (SP X aa D) X.xe s
def tH (X:Cx) (st:List Stmt) (t:TS):Prop :=
 ∀ (aa:List (Addr×Obj)) (s:Shared) (σ:St) (H:Hp) (D:Ends),Inv X aa σ H s->t D σ H->wpAny (model X.prog X.w) X.A (execs st X.env) (SP X aa D) X.xe s
theorem bJ (h:wpAny M A t Q E s) (hQ:∀ a s,Q a s->Q' a s):wpAny M A t Q' E s:=P1 h hQ λ_ _ x=>x
section
noncomputable def Kw (i:Nat):TE:=λσ H Q=>∃ v,σ[i]?=some (some v)/\Q v H
noncomputable def tC (v:V):TE:=λ_ H Q=>Q v H
theorem tP (hN:X.N[i]?=some x) (hv:MY X.env.scope x) (hd:(x == ("__debug__":Str))=false:=by decide) (hcd:(x == ("__classdict__":Str))=false:=by decide):PE X (.Name x pos) (Kw i):=by
 intro aa s σ H Q I h
 obtain ⟨v,e,h⟩:=h
 obtain ⟨m,hn,hl⟩:=I.loc
 obtain ⟨u,r,l⟩:=hl i x v hN e hv
 have fin:EP X aa σ Q u s:=⟨v,H,I,r,h⟩
 rcases l with ⟨hk,hm⟩ | ⟨hk,c,hc,hcell⟩
 ·exact wpAny_Name (wpAny_loadName_local I.ok.kind hk hn hm fin) hd
 ·rcases hk with hk | hk
  ·exact wpAny_Name (wpAny_loadName_cell I.ok.kind hk hc hcell fin) hd
  ·exact wpAny_Name (wpAny_loadName_free I.ok.kind hk hc hcell fin hcd) hd
theorem G7 {i j pos}:PE X (.Constant (.int i) j pos) (tC (.int i)):=λ_ _ _ H _ I h=>wpAny_Constant_int ⟨.int i,H,I.tok _,⟨_,rfl⟩,h⟩
theorem zH {b j pos}:PE X (.Constant (.bool b) j pos) (tC (.bl b)):=λ_ _ _ H _ I h=>Constant_bool ⟨.bl b,H,I,rfl,h⟩
theorem G8 {j pos}:PE X (.Constant .none j pos) (tC .non):=λ_ _ _ H _ I h=>Constant_none ⟨.non,H,I,rfl,h⟩
def Gl (X:Cx) (x:Str):Prop:=X.env.kindOf x=some .globalImplicit
theorem jX (I:Inv X aa σ H s) (hg:Gl X x) (hm:X.mg x=some u) (h:Q u s)
 (hd:(x == ("__debug__":Str))=false:=by decide):wpAny (model X.prog X.w) X.A (eval (.Name x pos) X.env) Q E s :=
 Calls.Name_function_global I.ok.kind hg (Calls.loadGlobal_global (by rw [I.ok.glob]; exact I.mod.glob.keeps I.bk) hm h) hd
theorem d7 (I:Inv X aa σ H s) (hg:Gl X x) (hm:X.mg x=none) (hv:bootBuiltins x=some u) (h:Q u s)
 (hn:x≠"__name__":=by decide) (hd:(x == ("__debug__":Str))=false:=by decide):wpAny (model X.prog X.w) X.A (eval (.Name x pos) X.env) Q E s:=by
 obtain ⟨mb,h1,h2⟩:=I.mod.blt
 exact Calls.Name_function_global I.ok.kind hg (Calls.loadGlobal_builtin (by rw [I.ok.glob]; exact I.mod.glob.keeps I.bk) hm (by rw [I.ok.blt]; exact h1.keeps I.bk) ((h2 x hn).trans hv) h) hd
theorem Du (hg:Gl X x) (hm:X.mg x=some u) (r:RelV v u) (hd:(x == ("__debug__":Str))=false:=by decide):PE X (.Name x pos) (tC v) :=
 λ_ _ _ H _ I h=>jX I hg hm ⟨v,H,I,r,h⟩ hd
def PC (X:Cx) (op:CmpOp) (a b:Expr) (t:TE):Prop :=
 ∀ (aa:List (Addr×Obj)) (s:Shared) (σ:St) (H:Hp) (Q:VK),Inv X aa σ H s->t σ H Q ->
  wpAny (model X.prog X.w) X.A (eval a X.env) (λv s₁=>wpAny (model X.prog X.w) X.A (eval b X.env) (λu s₂=>wpAny (model X.prog X.w) X.A (compareOp op v u) (EP X aa σ Q) X.xe s₂) X.xe s₁) X.xe s
theorem zI (b) (h:op≠.In) (h2:op≠.NotIn):behindInMarks op b=false:=by
 have e1:(op == CmpOp.In)=false:=by cases op <;> first | rfl | exact absurd rfl h
 have e2:(op == CmpOp.NotIn)=false:=by cases op <;> first | rfl | exact absurd rfl h2
 cases b <;> simp [behindInMarks,e1,e2]
noncomputable def M0 (ta:TE):TE:=λσ H Q=>ta σ H λx H1=>Q (.bl (decide (x=.non))) H1
theorem RelV.zJ (r:RelV x v):(v == Qy)=decide (x=.non):=by
 cases x with
 | non=>cases r; rfl
 | bl _=>cases r; rfl
 | int _=>obtain ⟨t,rfl⟩:=r; rfl
 | str _=>obtain ⟨t,rfl⟩:=r; rfl
 | byt _=>obtain ⟨t,rfl⟩:=r; rfl
 | flt _=>obtain ⟨t,rfl⟩:=r; rfl
 | ref _=>cases r; rfl
 | ty _=>cases r; rfl
theorem G9 {j pos'} (ha:PE X a ta):PC X .Is a (.Constant .none j pos') (M0 ta):=by
 intro aa s σ H Q I h
 refine bJ (ha aa s σ H _ I h) λv s1 ⟨x,H1,I1,r1,q1⟩=>?_
 exact Constant_none (is_none_gen ⟨.bl _,H1,I1,by rw [r1.zJ]; rfl,q1⟩)
noncomputable def tB (t:TE):TT:=λσ H Q=>t σ H λx H1=>∃ c,x=.bl c/\Q c H1
theorem tQ (h:PC X op a b t) (h1:behindInMarks op b=false:=by first | exact zI _ (by decide) (by decide) | rfl):PT X (.Compare a [op] [b] pos) (tB t):=by
 intro aa s σ H Q I hw
 refine wpAny_isTrue_Compare1 (bJ (h aa s σ H _ I hw) λv s1 h1=>bJ h1 λu s2 h2=>bJ h2 λc s3 ⟨x,H1,I1,r1,q1⟩=>?_) h1
 obtain ⟨d,rfl,q⟩:=q1
 cases r1
 exact SK ⟨H1,I1,q⟩
theorem Hg (h:PE X e t) (he:∀ whole,isTrue e X.env whole=(do let v <- whole; standAt e.pos; holding [v] (truthy v)):=by intro _; rfl):PT X e (tB t):=by
 intro aa s σ H Q I hw
 refine isTrue_plain (bJ (h aa s σ H _ I hw) λv s1 ⟨x,H1,I1,r1,q1⟩=>?_) (he _)
 obtain ⟨d,rfl,q⟩:=q1
 cases r1
 exact SK ⟨H1,I1,q⟩
variable {rest:List Expr}
noncomputable def M3 (t u:TT):TT:=λσ H Q=>t σ H λc H1=>if c=true then u σ H1 Q else Q false H1
noncomputable def Ov (t u:TT):TT:=λσ H Q=>t σ H λc H1=>if c=true then Q true H1 else u σ H1 Q
noncomputable def M4 (t:TT):TT:=λσ H Q=>t σ H λc H1=>Q (!c) H1
theorem pw_and1 (ha:PT X a tA):PW X (.BoolOp .And [a] pos) tA:=by
 intro wh aa s σ H Q I h
 refine isTrue_and (bJ (ha aa s σ H Q I h) λc s1 e=>?_)
 cases c with
 | true=>exact isTrue_and_nil e
 | false=>exact e
theorem pw_or1 (ha:PT X a tA):PW X (.BoolOp .Or [a] pos) tA:=by
 intro wh aa s σ H Q I h
 refine isTrue_or (bJ (ha aa s σ H Q I h) λc s1 e=>?_)
 cases c with
 | false=>exact isTrue_or_nil e
 | true=>exact e
theorem pw_and (ha:PT X a tA) (hb:PW X (.BoolOp .And (b::rest) pos) tB'):PW X (.BoolOp .And (a::b::rest) pos) (M3 tA tB'):=by
 intro wh aa s σ H Q I h
 refine isTrue_and (bJ (ha aa s σ H _ I h) λc s1 ⟨H1,I1,q1⟩=>?_)
 cases c with
 | true=>exact hb wh aa s1 σ H1 Q I1 q1
 | false=>exact ⟨H1,I1,q1⟩
theorem pw_or (ha:PT X a tA) (hb:PW X (.BoolOp .Or (b::rest) pos) tB'):PW X (.BoolOp .Or (a::b::rest) pos) (Ov tA tB'):=by
 intro wh aa s σ H Q I h
 refine isTrue_or (bJ (ha aa s σ H _ I h) λc s1 ⟨H1,I1,q1⟩=>?_)
 cases c with
 | true=>exact ⟨H1,I1,q1⟩
 | false=>exact hb wh aa s1 σ H1 Q I1 q1
theorem Hh (ha:PT X a tA):PT X (.UnaryOp .Not a pos) (M4 tA):=by
 intro aa s σ H Q I h
 exact isTrue_not (ha aa s σ H (λc H1=>Q (!c) H1) I h)
noncomputable def Kx (ta tb:TE):TE:=λσ H Q=>ta σ H λx H1=>∃ c,x=.bl c/\if c=true then tb σ H1 Q else Q (.bl false) H1
theorem Hi {op} (h:PE X a t):PE X (.BoolOp op [a] pos) t:=λaa s σ H Q I hw=>BoolOp_one (h aa s σ H Q I hw)
theorem Hj (ha:PE X a ta) (hb:PE X (.BoolOp .And (b::rest) pos) tb):PE X (.BoolOp .And (a::b::rest) pos) (Kx ta tb):=by
 intro aa s σ H Q I h
 refine BoolOp_and (bJ (ha aa s σ H _ I h) λv s1 ⟨x,H1,I1,r1,q1⟩=>?_)
 obtain ⟨c,rfl,q1⟩:=q1
 cases r1
 refine SK ?_
 cases c with
 | true=>exact hb aa s1 σ H1 Q I1 q1
 | false=>exact ⟨.bl false,H1,I1,rfl,q1⟩
noncomputable def Ow (t:TT) (ta tb:TE):TE:=λσ H Q=>t σ H λc H1=>if c=true then ta σ H1 Q else tb σ H1 Q
theorem zK (hc:PT X c tA) (ha:PE X a ta) (hb:PE X b tb):PE X (.IfExp c a b pos) (Ow tA ta tb):=by
 intro aa s σ H Q I h
 refine wpAny_IfExp (bJ (hc aa s σ H _ I h) λd s1 ⟨H1,I1,q1⟩=>?_)
 cases d with
 | true=>exact ha aa s1 σ H1 Q I1 q1
 | false=>exact hb aa s1 σ H1 Q I1 q1
end
def fQ (K:OR) (H:Hp) (a:Addr) (xs:List V):Prop :=
 Rd H a (.lst xs) \/
  ∃ (o:Obj) (its:Array Value) (n:Nat),K.lookup a=some o/\o.cls=.type "list"/\o.dict=none/\o.data=.seq its n/\its.size<=sizeLine/\Vals xs its.toList
def cU (K:OR) (H:Hp) (a:Addr) (xs:List V):Prop :=
 Rd H a (.tup xs) \/
  ∃ (o:Obj) (its:Array Value) (n:Nat),K.lookup a=some o/\o.cls=.type "tuple"/\o.data=.seq its n/\its.size<=sizeLine/\Vals xs its.toList
noncomputable def M5:Value->Option V
 | .none=>some .non
 | .bool b=>some (.bl b)
 | .int i _=>some (.int i)
 | .str x _=>some (.str x)
 | .bytes b _=>some (.byt b)
 | .float b _=>some (.flt b)
 | .ref a=>some (.ref a)
 | .type n=>some (.ty n)
 | _=>none
theorem RelV.abs (r:RelV x u):M5 u=some x:=by
 cases x with
 | non=>cases r; rfl
 | bl _=>cases r; rfl
 | int _=>obtain ⟨t,rfl⟩:=r; rfl
 | str _=>obtain ⟨t,rfl⟩:=r; rfl
 | byt _=>obtain ⟨t,rfl⟩:=r; rfl
 | flt _=>obtain ⟨t,rfl⟩:=r; rfl
 | ref _=>cases r; rfl
 | ty _=>cases r; rfl
theorem RelV.inj (r:RelV x u) (q:RelV y u):x=y:=QI (r.abs.symm.trans q.abs)
theorem Vals.inj:∀ {xs ys:List V} {us:List Value},Vals xs us->Vals ys us->xs=ys
 | _,_,_,.nil,.nil=>rfl
 | _,_,_,.cons r t,.cons r' t'=>by rw [r.inj r',Vals.inj t t']
theorem Inv.list (I:Inv X aa σ H s) (h:fQ X.K H a xs):∃ its:List Value,Vals xs its/\PlainL s.heap a its.toArray/\xs.length<=sizeLine:=by
 rcases h with h | ⟨o,its,n,hk,hc,hd,hs,hz,r⟩
 ·obtain ⟨z,its,n,r,e⟩:=h.ok I.hok
  exact ⟨its,r,⟨_,n,e,rfl,rfl,rfl⟩,z⟩
 ·refine ⟨its.toList,r,⟨o,n,I.Dl a o hk,hc,hd,by simpa using hs⟩,?_⟩
  have e:=r.length
  simp only [P4] at e
  lia
theorem Inv.tuple (I:Inv X aa σ H s) (h:cU X.K H a xs):∃ its:List Value,Vals xs its/\IsTup s.heap a its.toArray/\xs.length<=sizeLine:=by
 rcases h with h | ⟨o,its,n,hk,hc,hs,hz,r⟩
 ·obtain ⟨z,its,r,p⟩:=h.ok I.hok
  exact ⟨its,r,p,z⟩
 ·refine ⟨its.toList,r,⟨o,I.Dl a o hk,hc,n,by simpa using hs⟩,?_⟩
  have e:=r.length
  simp only [P4] at e
  lia
theorem Inv.ko (I:Inv X aa σ H s) (h:fQ X.K H a xs) (h':fQ X.K H a ys):xs=ys:=by
 obtain ⟨its,r,⟨o,n,e,_,_,d⟩,_⟩:=I.list h
 obtain ⟨its',r',⟨o',n',e',_,_,d'⟩,_⟩:=I.list h'
 rw [e] at e'; cases e'
 rw [d] at d'
 injection d' with d1 _
 have:its=its':=by simpa using congrArg Array.toList d1
 subst this
 exact r.inj r'
theorem Inv.jg (I:Inv X aa σ H s) (h:cU X.K H a xs) (h':cU X.K H a ys):xs=ys:=by
 obtain ⟨its,r,⟨o,e,_,n,d⟩,_⟩:=I.tuple h
 obtain ⟨its',r',⟨o',e',_,n',d'⟩,_⟩:=I.tuple h'
 rw [e] at e'; cases e'
 rw [d] at d'
 injection d' with d1 _
 have:its=its':=by simpa using congrArg Array.toList d1
 subst this
 exact r.inj r'
noncomputable abbrev Cx.mH (X:Cx) (E:Value->Shared->Prop):Cx:={ X with xe:=E }
noncomputable abbrev Cx.Ga (X:Cx):Cx:=X.mH λ_ _=>False
theorem Cx.Ok.mH {X:Cx} (ok:X.Ok) (E):(X.mH E).Ok :=
 ⟨ok.mod,ok.kind,ok.glob,ok.blt,ok.above,ok.inj,ok.has,ok.cab,ok.hd,ok.frames,ok.stk,ok.exf,ok.bs,ok.bsz,ok.noex,ok.exfs,ok.jf,ok.frf⟩
theorem Cx.Ok.fZ {X:Cx} (ok:(X.mH E).Ok):X.Ok :=
 ⟨ok.mod,ok.kind,ok.glob,ok.blt,ok.above,ok.inj,ok.has,ok.cab,ok.hd,ok.frames,ok.stk,ok.exf,ok.bs,ok.bsz,ok.noex,ok.exfs,ok.jf,ok.frf⟩
theorem Inv.mH (I:Inv X aa σ H s) (E):Inv (X.mH E) aa σ H s:=⟨I.ok.mH E,I.os,I.bare,I.base,I.loc,I.cell,I.free,I.freeC,I.pin,I.hok,I.len⟩
theorem Inv.fZ (I:Inv (X.mH E) aa σ H s):Inv X aa σ H s:=⟨I.ok.fZ,I.os,I.bare,I.base,I.loc,I.cell,I.free,I.freeC,I.pin,I.hok,I.len⟩
theorem SP.fZ (h:SP (X.mH E) aa D f s'):SP X aa D f s':=by
 cases f with
 | next=>obtain ⟨σ',H',I,q⟩:=h; exact ⟨σ',H',I.fZ,q⟩
 | brk=>obtain ⟨σ',H',I,q⟩:=h; exact ⟨σ',H',I.fZ,q⟩
 | cont=>obtain ⟨σ',H',I,q⟩:=h; exact ⟨σ',H',I.fZ,q⟩
 | ret u=>obtain ⟨v,σ',H',I,r,q⟩:=h; exact ⟨v,σ',H',I.fZ,r,q⟩
theorem tH.Ga {st:List Stmt} (h:tH X.Ga st t):tH X st t:=λaa s σ H D I hw =>
 P1 (h aa s σ H D (I.mH _) hw) (λ_ _ q=>q.fZ) λ_ _ z=>Qi z
section
variable {st:Stmt} {rest:List Stmt}
noncomputable def Ky:TS:=λD σ H=>D.nx σ H
noncomputable def M6 (t u:TS):TS:=λD σ H=>t { D with nx:=u D } σ H
theorem Dw:tH X [] Ky:=λ_ _ σ H _ I h=>wpAny_execs_nil ⟨σ,H,I,h⟩
theorem zL (h1:PS X st t) (h2:tH X rest u):tH X (st::rest) (M6 t u):=by
 intro aa s σ H D I h
 refine wpAny_execs_cons (bJ (h1 aa s σ H { D with nx:=u D } I h) λf s1 q=>?_)
 cases f with
 | next =>
  obtain ⟨σ',H',I',q⟩:=q
  exact h2 aa s1 σ' H' D I' q
 | ret v=>exact q
 | brk=>exact q
 | cont=>exact q
theorem Inv.quiet (I:Inv X aa σ H s):interactive X.env=false:=by simp [interactive,I.ok.kind]
noncomputable def Kz (te:TE):TS:=λD σ H=>te σ H λ_ H1=>D.nx σ H1
theorem iG (he:PE X e te) (hs:swapsWith e none pos.line X.env=pure false:=by rfl):PS X (.Expr e pos) (Kz te):=by
 intro aa s σ H D I h
 exact wpAny_Expr_any (bJ (he aa s σ H _ I h) λv s1 ⟨x,H1,I1,r1,q1⟩=>⟨σ,H1,I1,q1⟩) I.quiet hs
noncomputable def M7 (te:TE):TS:=λD σ H=>te σ H D.rt
theorem zM (he:PE X e te):PS X (.Return (some e) pos) (M7 te):=by
 intro aa s σ H D I h
 exact wpAny_Return_some (bJ (he aa s σ H _ I h) λv s1 ⟨x,H1,I1,r1,q1⟩=>⟨x,σ,H1,I1,r1,q1⟩)
noncomputable def M8 (c:TT) (t u:TS):TS:=λD σ H=>c σ H λb H1=>if b=true then t D σ H1 else u D σ H1
theorem KA (hc:PT X c tc) (ha:tH X a t) (hb:tH X b u):PS X (.If c a b pos) (M8 tc t u):=by
 intro aa s σ H D I h
 refine wpAny_If (bJ (hc aa s σ H _ I h) λd s1 ⟨H1,I1,q1⟩=>?_)
 cases d with
 | true=>exact ha aa s1 σ H1 D I1 q1
 | false=>exact hb aa s1 σ H1 D I1 q1
end
noncomputable abbrev TG:=V->St->Hp->(St->Hp->Prop)->Prop
noncomputable abbrev KC:=List V->St->Hp->(St->Hp->Prop)->Prop
def PG (X:Cx) (target:Expr) (t:TG):Prop :=
 ∀ (aa:List (Addr×Obj)) (s:Shared) (σ:St) (H:Hp) (v:V) (u:Value) (Q:St->Hp->Prop),Inv X aa σ H s->RelV v u->t v σ H Q ->
  wpAny (model X.prog X.w) X.A (assign target X.env u) (λ_ s'=>∃ σ' H',Inv X aa σ' H' s'/\Q σ' H') X.xe s
def Kh (X:Cx) (ts:List Expr) (t:KC):Prop :=
 ∀ (aa:List (Addr×Obj)) (s:Shared) (σ:St) (H:Hp) (vs:List V) (us:List Value) (Q:St->Hp->Prop),Inv X aa σ H s->Vals vs us->t vs σ H Q ->
  wpAny (model X.prog X.w) X.A (assignInOrder ((assignEach ts X.env).map (·.2)) us) (λ_ s'=>∃ σ' H',Inv X aa σ' H' s'/\Q σ' H') X.xe s
noncomputable abbrev Hl:=V->V->V->Hp->(Hp->Prop)->Prop
def KD (X:Cx) (t:Hl):Prop :=
 ∀ (aa:List (Addr×Obj)) (s:Shared) (σ:St) (H:Hp) (o i v:V) (ov iv u:Value) (Q:Hp->Prop),Inv X aa σ H s->RelV o ov->RelV i iv->RelV v u->t o i v H Q ->
  wpAny (model X.prog X.w) X.A (setItem ov iv u) (λ_ s'=>∃ H',Inv X aa σ H' s'/\Q H') X.xe s
noncomputable abbrev Od:=V->V->Hp->VK->Prop
def Oe (X:Cx) (op:Operator) (t:Od):Prop :=
 ∀ (aa:List (Addr×Obj)) (s:Shared) (σ:St) (H:Hp) (x y:V) (v u:Value) (Q:VK),Inv X aa σ H s->RelV x v->RelV y u->t x y H Q ->
  wpAny (model X.prog X.w) X.A (inplaceOp op v u) (EP X aa σ Q) X.xe s
noncomputable def Gb (i:Nat):TG:=λv σ H Q=>Q (σ.set i (some v)) H
theorem vA (hN:X.N.Nodup) (hi:X.N[i]?=some x) (hx:Loc X.env.scope x) (hf:X.fn x=true\/X.env.scope.names.lookup x=some .local:=by first | exact .inl rfl | exact .inr rfl | assumption):PG X (.Name x pos) (Gb i):=by
 intro aa s σ H v u Q I r h
 exact wpAny_assign_Name (fY I hN hi hx r (λs' I'=>⟨_,H,I',h⟩) hf)
noncomputable def M9:KC:=λvs σ H Q=>vs=[]/\Q σ H
noncomputable def KG (t:TG) (u:KC):KC:=λvs σ H Q=>∃ v r,vs=v::r/\t v σ H λσ' H'=>u r σ' H' Q
theorem Dy:Kh X [] M9:=by
 intro aa s σ H vs us Q I r h
 obtain ⟨e,h⟩:=h
 subst e
 cases r
 exact assignInOrder_nil ⟨σ,H,I,h⟩
theorem zN (h1:PG X e t) (h2:Kh X es u)
 (hs:(assignEach (e::es) X.env).map (·.2)=assign e X.env::(assignEach es X.env).map (·.2):=by rfl):Kh X (e::es) (KG t u):=by
 intro aa s σ H vs us Q I r h
 obtain ⟨v,vr,e1,h⟩:=h
 subst e1
 cases r with
 | cons r rr =>
  rw [hs]
  refine U7 (bJ (h1 aa s σ H _ _ _ I r h) λ_ s1 ⟨σ1,H1,I1,q1⟩=>?_)
  exact h2 aa s1 σ1 H1 _ _ Q I1 rr q1
noncomputable def Na (K:OR) (n:Nat) (t:KC):TG:=λv σ H Q=>∃ a xs,v=.ref a/\cU K H a xs/\xs.length=n/\t xs σ H Q
theorem Ho (hc:X.calm=true) (h:Kh X es t)
 (hn:(assignEach es X.env).length=n:=by rfl) (hst:(assignEach es X.env).findIdx? (·.1)=none:=by rfl):PG X (.Tuple es k pos) (Na X.K n t):=by
 intro aa s σ H v u Q I r hw
 obtain ⟨a,xs,e1,hq,hl,hw⟩:=hw
 subst e1
 cases r
 obtain ⟨its,rv,ht,hz⟩:=I.tuple hq
 refine assign_Tuple_tuple (I.ok.hd hc) ht (by simp [hn,<- hl,rv.length]) hst λh' hx=>?_
 have I1:Inv X aa σ H { s with heap:=h' }:=I.kept (t':=s.toks) λb o e=>hx b o (Px (OZ e)) e
 exact h aa _ σ H xs _ Q I1 (by simpa using rv) hw
noncomputable def Nb (to ti:TE) (t:Hl):TG:=λv σ H Q=>to σ H λo H1=>ti σ H1 λi H2=>t o i v H2 λH3=>Q σ H3
theorem Hq (ho:PE X o to) (hi:PE X i ti) (hs:KD X t)
 (ha:∀ v,assign (.Subscript o i pos) X.env v=(do
   let ov <- holding [v] (eval o X.env)
   let iv <- holding [v,ov] (eval i X.env)
   standAt pos
   holding [v,ov,iv] (setItem ov iv v)
   release [v,ov,iv] []):=by intro _; rfl):PG X (.Subscript o i pos) (Nb to ti t):=by
 intro aa s σ H v u Q I r h
 rw [ha]
 refine OQ (Qx (bJ (ho aa s σ H _ I h) λov s1 ⟨x,H1,I1,r1,q1⟩=>?_))
 refine OQ (Qx (bJ (hi aa s1 σ H1 _ I1 q1) λiv s2 ⟨y,H2,I2,r2,q2⟩=>?_))
 refine OQ (wpAny_standAt (OQ (Qx (bJ (hs aa s2 σ H2 x y v ov iv u _ I2 r1 r2 r q2) λ_ s3 ⟨H3,I3,q3⟩=>?_))))
 exact wpAny_release ⟨σ,H3,I3,q3⟩
noncomputable def KH (te:TE) (g:TG):TS:=λD σ H=>te σ H λx H1=>g x σ H1 D.nx
theorem Hr (he:PE X e te) (hg:PG X tg g) (hs:swapsWithSole [tg] e pos.line X.env=pure false:=by rfl) (hw:swappedStores [tg] e X.env=pure none:=by rfl)
 (h1:(assignEach [tg] X.env).map (·.2)=[assign tg X.env]:=by rfl):PS X (.Assign [tg] e pos) (KH te g):=by
 intro aa s σ H D I h
 refine wpAny_Assign_stores (bJ (he aa s σ H _ I h) λv s1 ⟨x,H1,I1,r1,q1⟩=>?_) hs hw
 rw [h1]
 exact bJ (hg aa s1 σ H1 x v _ I1 r1 q1) λ_ s2 q=>q
theorem zO (hN:X.N.Nodup) (hi:X.N[i]?=some x) (hx:Loc X.env.scope x) (he:PE X e te) (hs:swapsWith e (some (.Name x pos')) pos.line X.env=pure false:=by rfl) (hf:X.fn x=true\/X.env.scope.names.lookup x=some .local:=by first | exact .inl rfl | exact .inr rfl | assumption) :
 PS X (.Assign [.Name x pos'] e pos) (KH te (Gb i)):=by
 intro aa s σ H D I h
 refine wpAny_Assign_Name (bJ (he aa s σ H _ I h) λv s1 ⟨y,H1,I1,r1,q1⟩=>?_) hs
 exact fY I1 hN hi hx r1 (λs2 I2=>⟨_,H1,I2,q1⟩) hf
noncomputable def Nc (i j:Nat) (ta:TA):TS:=λD σ H=>ta σ H λvs H1=>∃ v w,vs=[v,w]/\D.nx ((σ.set i (some v)).set j (some w)) H1
theorem Hs {kt k2 pt2} (hc:X.calm=true) (hN:X.N.Nodup) (hi:X.N[i]?=some x) (hj:X.N[j]?=some y) (hij:i≠j)
 (hx:X.env.scope.names.lookup x=some .local) (hy:X.env.scope.names.lookup y=some .local) (ha:PA X [a,b] ta)
 (hw:swappedStores [.Tuple [.Name x px,.Name y py] kt pt] (.Tuple [a,b] k2 pt2) X.env=pure (some [x,y]))
 (hs:swapsWithSole [.Tuple [.Name x px,.Name y py] kt pt] (.Tuple [a,b] k2 pt2) pos.line X.env=pure false:=by rfl) :
 PS X (.Assign [.Tuple [.Name x px,.Name y py] kt pt] (.Tuple [a,b] k2 pt2) pos) (Nc i j ta):=by
 intro aa s σ H D I h
 rw [exec_Assign_arm]
 refine OQ (wpAny_standAt ?_)
 rw [hs]
 refine OQ (OS ?_)
 rw [if_neg (by decide)]
 refine OQ (Tuple_ (bJ (ha _ aa s σ H _ I h) λus s1 ⟨vs,H1,I1,r1,q1⟩=>?_))
 obtain ⟨v,w,e1,q1⟩:=q1
 subst e1
 obtain ⟨u1,u2,rfl,rv,rw'⟩:∃ u1 u2,us=[u1,u2]/\RelV v u1/\RelV w u2:=by
  cases r1 with
  | cons p q =>
   cases q with
   | cons p' q' =>
    cases q'
    exact ⟨_,_,rfl,p,p'⟩
 refine Qu ?_ (by show 2<=sizeLine; decide)
 have I2:Inv X aa σ H1 { s1 with heap:=s1.heap.push { cls:=.type "tuple",data:=.seq [u1,u2].toArray } }:=I1.kept (t':=s1.toks) λb o e=>OX _ e
 rw [hw]
 refine OQ (OS ?_)
 show wpAny (model X.prog X.w) X.A (do rule "assign.swapped-stores"; let items <- unpackItems (.ref s1.heap.objs.size) 2 none; assignInOrder [λv=>bindName X.env y v,λv=>bindName X.env x v] items.reverse; pure Flow.next) _ _ _
 refine OQ (Qg (OQ (unpackItems_tuple (items:= #[u1,u2]) (I.ok.hd hc) (IsTup.new s1.heap _) λh' hx'=>?_)))
 have I3:=I2.kept (h':=h') (t':=s1.toks) λb o e=>hx' b o (Px (OZ e)) e
 show wpAny _ _ (assignInOrder [λv=>bindName X.env y v,λv=>bindName X.env x v] [u2,u1] >>= λ_=>pure Flow.next) _ _ _
 refine OQ (U7 (wpAny_bindName (fY I3 hN hj (.inl hy) rw' (λs2 I4=>?_) (.inr hy))))
 refine U7 (wpAny_bindName (fY I4 hN hi (.inl hx) rv (λs3 I5=>assignInOrder_nil (OS ?_)) (.inr hx)))
 rw [List.set_comm _ _ (Pe hij)] at I5
 exact ⟨_,H1,I5,q1⟩
noncomputable def Nd (i:Nat) (te:TE) (ti:Od):TS:=λD σ H=>∃ x,σ[i]?=some (some x)/\te σ H λy H1=>ti x y H1 λz H2=>D.nx (σ.set i (some z)) H2
theorem Ht (hN:X.N.Nodup) (hi:X.N[i]?=some x) (hx:Loc X.env.scope x) (he:PE X e te) (ho:Oe X op ti) (hf:X.fn x=true\/X.env.scope.names.lookup x=some .local:=by first | exact .inl rfl | exact .inr rfl | assumption) :
 PS X (.AugAssign (.Name x pos') op e pos) (Nd i te ti):=by
 intro aa s σ H D I h
 obtain ⟨v,e1,h⟩:=h
 obtain ⟨m,hn,hl⟩:=I.loc
 have vis:MY X.env.scope x:=by rcases hx with k | k; exact .inl k; exact .inr (.inl k)
 obtain ⟨u,r,l⟩:=hl i x v hi e1 vis
 refine wpAny_AugAssign_Name ?_
 have go:wpAny (model X.prog X.w) X.A (eval e X.env) (λw s₂=>wpAny (model X.prog X.w) X.A (inplaceOp op u w) (λr s₃=>wpAny (model X.prog X.w) X.A (storeName X.env x r) (λ_=>SP X aa D .next) X.xe s₃) X.xe s₂) X.xe s:=by
  refine bJ (he aa s σ H _ I h) λw s1 ⟨y,H1,I1,r1,q1⟩=>?_
  refine bJ (ho aa s1 σ H1 v y u w _ I1 r r1 q1) λz s2 ⟨zv,H2,I2,r2,q2⟩=>?_
  exact fY I2 hN hi hx r2 (λs3 I3=>⟨_,H2,I3,q2⟩) hf
 rcases l with ⟨hk,hm⟩ | ⟨hk,c,hc,hcell⟩
 ·exact wpAny_loadName_local I.ok.kind hk hn hm go
 ·rcases hk with hk | hk
  ·exact wpAny_loadName_cell I.ok.kind hk hc hcell go
  ·rcases hx with k | k
   ·have:X.env.scope.names.lookup x=some .free:=hk
    rw [k] at this; cases this
   ·have:X.env.scope.names.lookup x=some .free:=hk
    rw [k] at this; cases this
noncomputable def Hu (c:TT) (tb:TS):TS:=λD σ H=>∃ W:Nat->St->Hp->Prop,(∃ m,W m σ H)/\∀ m σ H,W m σ H ->
 c σ H λb H1=>if b=true then ∃ N:St->Hp->Prop,(∀ σ' H',N σ' H'->∃ m',m'<m/\W m' σ' H')/\tb { D with nx:=N,ct:=N,bk:=D.nx } σ H1 else D.nx σ H1
theorem zP (hp:PassesOwn (model X.prog X.w) X.A X.env X.xe) (hc:PT X c tc) (hb:tH X body tb):PS X (.While c body [] pos) (Hu tc tb):=by
 intro aa s σ H D I h
 obtain ⟨W,⟨m0,w0⟩,turn⟩:=h
 refine wpAny_While (codeAny_whileLoop (λn s'=>∃ σ' H',Inv X aa σ' H' s'/\W n σ' H') ?_ m0 ⟨σ,H,I,w0⟩)
 rintro n s1 ⟨σ1,H1,I1,w1⟩
 refine RD hp (bJ (hc aa s1 σ1 H1 _ I1 (turn n σ1 H1 w1)) λb s2 ⟨H2,I2,q2⟩=>?_)
 cases b with
 | true =>
  obtain ⟨N,hN,q2⟩:=q2
  rw [if_pos rfl]
  refine RD hp (bJ (hb aa s2 σ1 H2 _ I2 q2) λf s3 q3=>?_)
  cases f with
  | next =>
   obtain ⟨σ3,H3,I3,n3⟩:=q3
   obtain ⟨m',hm,w3⟩:=hN σ3 H3 n3
   exact ⟨m',hm,σ3,H3,I3,w3⟩
  | cont =>
   obtain ⟨σ3,H3,I3,n3⟩:=q3
   obtain ⟨m',hm,w3⟩:=hN σ3 H3 n3
   exact ⟨m',hm,σ3,H3,I3,w3⟩
  | brk=>exact q3
  | ret v=>exact q3
 | false =>
  rw [if_neg O5]
  exact wpAny_execs_nil ⟨σ1,H2,I2,q2⟩
structure It where
 go:Nat->Hp->Prop
 yld:Nat->Hp->V->Hp->Prop
 stop:Nat->Hp->Prop
def d8 (X:Cx) (aa:List (Addr×Obj)) (H:Hp) (b:Addr):Prop :=
 H b=none/\b≠X.env.locals/\b∉X.fs/\(b∈X.ex\/X.s₀.heap.objs.size<=b)/\(∀ x c,X.env.cells.lookup x=some c->c≠b)/\∀ p∈X.pn++aa,p.1≠b
theorem Inv.jh (I:Inv X aa σ H s) (hb:s.heap.objs.size<=b) (hn:H' b=none):d8 X aa H' b:=by
 refine ⟨hn,RI (PJ I.lt hb),I.Ku hb,.inr (O3 I.sz hb),λx c e z=>?_,λp hp z=>?_⟩
 ·obtain ⟨v,q⟩:=I.cell x c e
  exact absurd (PJ q.lt (by rw [z]; exact hb)) (QB _)
 ·exact absurd (PJ (OZ (I.pin p hp).1) (by rw [z]; exact hb)) (QB _)
structure Turn (P:Program) (w:World) (K:OR) (tg:Expr) (J:It) (fp:List Addr) (it:Addr) (tn:Nat->Heap->Prop):Prop where
 mem:it∈fp
 obj:∀ i h,tn i h->∀ b∈fp,∃ o,h.get? b=some o/\∀ v,o.data≠.cell v
 keep:∀ i h h',tn i h->(∀ b∈fp,∀ o,h.get? b=some o->h'.get? b=some o)->tn i h'
 item:∀ (X:Cx),X.prog=P->X.w=w->X.K=K->X.calm=true->∀ (i:Nat) (aa:List (Addr×Obj)) (s:Shared) (σ:St) (H:Hp) (E:Value->Shared->Prop),Inv X aa σ H s->(∀ b∈fp,d8 X aa H b)->tn i s.heap->J.go i H ->
  wpAny (model P w) X.A (pyNext (.ref it)) (λr s1=>∃ u,r=some u /\
   wpAny (model P w) X.A (letOwnedTupleGo tg (.ref it) u) (λ_ s2=>∃ x H',Inv X aa σ H' s2/\RelV x u/\J.yld i H x H'/\tn (i+1) s2.heap/\∀ b∈fp,H' b=none) E s1) E s
 done:∀ (X:Cx),X.prog=P->X.w=w->X.K=K->X.calm=true->∀ (i:Nat) (aa:List (Addr×Obj)) (s:Shared) (σ:St) (H:Hp) (E:Value->Shared->Prop),Inv X aa σ H s->(∀ b∈fp,d8 X aa H b)->tn i s.heap->J.stop i H ->
  wpAny (model P w) X.A (pyNext (.ref it)) (λr s1=>r=none/\Inv X aa σ H s1) E s
 self:∀ (A:Around) (i:Nat) (s:Shared) (Q:Value->Shared->Prop) (E:Value->Shared->Prop),tn i s.heap->Q (.ref it) s->wpAny (model P w) A (pyIter (.ref it)) Q E s
noncomputable abbrev TI:=St->Hp->(It->Hp->Prop)->Prop
def Ng (X:Cx) (aa:List (Addr×Obj)) (σ:St) (tg:Expr) (R:It->Hp->Prop) (itv:Value) (s2:Shared):Prop :=
 ∃ (it:Addr) (fp:List Addr) (tn:Nat->Heap->Prop) (J:It) (H':Hp),itv=.ref it/\Inv X aa σ H' s2/\Turn X.prog X.w X.K tg J fp it tn/\tn 0 s2.heap/\(∀ b∈fp,d8 X aa H' b)/\R J H'
def PI (X:Cx) (tg iter:Expr) (wi:TI):Prop :=
 ∀ (aa:List (Addr×Obj)) (s:Shared) (σ:St) (H:Hp) (R:It->Hp->Prop),Inv X aa σ H s->wi σ H R ->
  wpAny (model X.prog X.w) X.A (eval iter X.env) (λv s1=>wpAny (model X.prog X.w) X.A (pyIter v) (Ng X aa σ tg R) X.xe s1) X.xe s
theorem qH (ho:s.heap.get? it=some o) (hc:o.cls=.type n) (hd:o.data=.fields vs)
 (hn:["enumerate","zip","dict_itemiterator","dict_reverseitemiterator","odict_iterator","itertools.zip_longest","itertools.pairwise"].contains n=false) (hQ:Q () s):wpAny M A (letOwnedTupleGo tg (.ref it) u) Q E s:=by
 unfold letOwnedTupleGo
 cases tg <;> first
  | exact OS hQ
  | (cases u <;> first
      | exact OS hQ
      | (refine OQ (wpAny_load ho ?_)
         rw [hc,hd]
         show wpAny M A (if (["enumerate","zip","dict_itemiterator","dict_reverseitemiterator","odict_iterator","itertools.zip_longest","itertools.pairwise"].contains n && vs[0]? == some (rawInt _))=true then _ else _) Q E s
         rw [if_neg (by intro h; rw [hn,Bool.false_and] at h; cases h)]
         exact OS hQ))
noncomputable def Nh (K:OR) (a:Addr):It :=
 ⟨λi H=>∃ xs x,fQ K H a xs/\xs[i]?=some x,λi H x H'=>H'=H/\∀ xs,fQ K H a xs->xs[i]?=some x,λi H=>∃ xs,fQ K H a xs/\xs.length<=i⟩
noncomputable def Ni (K:OR) (a:Addr):It :=
 ⟨λi H=>∃ xs x,cU K H a xs/\xs[i]?=some x,λi H x H'=>H'=H/\∀ xs,cU K H a xs->xs[i]?=some x,λi H=>∃ xs,cU K H a xs/\xs.length<=i⟩
noncomputable def MH (lo:Int) (n:Nat):It:=⟨λi _=>i<n,λi H x H'=>H'=H/\x=.int (lo+i),λi _=>n<=i⟩
theorem xY {P:Program} {w:World} {K:OR} {tg:Expr} (a it:Addr):Turn P w K tg (Nh K a) [it] it (λi h=>h.IsListIter it a i) where
 mem:=by simp
 obj:=λi h st b hb=>by
  have e:b=it:=by simpa using hb
  subst e
  obtain ⟨o,e,c,d⟩:=st
  exact ⟨o,e,λv z=>by rw [d] at z; cases z⟩
 keep:=λi h h' st k=>st.at λo e=>k it (by simp) o e
 item:=by
  intro X hP hw hK hc i aa s σ H E I hf st hg
  subst hP hw hK
  obtain ⟨xs,x,hq,hx⟩:=hg
  obtain ⟨its,rv,p,hz⟩:=I.list hq
  obtain ⟨u,hu,ru⟩:=rv.get hx
  obtain ⟨f0,f1,f2,f3,f4,f5⟩:=hf it (by simp)
  refine wpAny_pyNext_list_item st p.isList (x:=u) (by simpa using hu) λh' st' sb=>?_
  have I1:Inv X aa σ H { s with heap:=h' }:=I.turned (t':=s.toks) (λb o hb e=>(sb.2 b hb).trans e) f0 f1 f3 f4 f5
  obtain ⟨o,e,c,d⟩:=id st'
  exact ⟨u,rfl,qH (s:={ s with heap:=h' }) e c d (by decide) ⟨x,H,I1,ru,⟨rfl,λys hy=>by rw [I.ko hy hq]; exact hx⟩,st',λb hb=>(hf b hb).1⟩⟩
 done:=by
  intro X hP hw hK hc i aa s σ H E I hf st hg
  subst hP hw hK
  obtain ⟨xs,hq,hx⟩:=hg
  obtain ⟨its,rv,p,hz⟩:=I.list hq
  obtain ⟨f0,f1,f2,f3,f4,f5⟩:=hf it (by simp)
  have hl:=rv.length
  exact wpAny_pyNext_list_end (I.ok.hd hc) st p.isList (by simp; lia) λh' eb=>⟨rfl,I.turned (t':=s.toks) (λb o hb e=>eb b o hb e) f0 f1 f3 f4 f5⟩
 self:=λ_ _ _ _ _ st h=>wpAny_pyIter_listiter st h
theorem tR {P:Program} {w:World} {K:OR} {tg:Expr} (a it:Addr):Turn P w K tg (Ni K a) [it] it (λi h=>h.IsTupleIter it a i) where
 mem:=by simp
 obj:=λi h st b hb=>by
  have e:b=it:=by simpa using hb
  subst e
  obtain ⟨o,e,c,d⟩:=st
  exact ⟨o,e,λv z=>by rw [d] at z; cases z⟩
 keep:=λi h h' st k=>st.at λo e=>k it (by simp) o e
 item:=by
  intro X hP hw hK hc i aa s σ H E I hf st hg
  subst hP hw hK
  obtain ⟨xs,x,hq,hx⟩:=hg
  obtain ⟨its,rv,p,hz⟩:=I.tuple hq
  obtain ⟨u,hu,ru⟩:=rv.get hx
  obtain ⟨f0,f1,f2,f3,f4,f5⟩:=hf it (by simp)
  refine wpAny_pyNext_tuple_item st (show s.heap.IsTuple a its.toArray from p) (x:=u) (by simpa using hu) λh' st' sb=>?_
  have I1:Inv X aa σ H { s with heap:=h' }:=I.turned (t':=s.toks) (λb o hb e=>(sb.2 b hb).trans e) f0 f1 f3 f4 f5
  obtain ⟨o,e,c,d⟩:=id st'
  exact ⟨u,rfl,qH (s:={ s with heap:=h' }) e c d (by decide) ⟨x,H,I1,ru,⟨rfl,λys hy=>by rw [I.jg hy hq]; exact hx⟩,st',λb hb=>(hf b hb).1⟩⟩
 done:=by
  intro X hP hw hK hc i aa s σ H E I hf st hg
  subst hP hw hK
  obtain ⟨xs,hq,hx⟩:=hg
  obtain ⟨its,rv,p,hz⟩:=I.tuple hq
  obtain ⟨f0,f1,f2,f3,f4,f5⟩:=hf it (by simp)
  have hl:=rv.length
  exact wpAny_pyNext_tuple_end (I.ok.hd hc) st (show s.heap.IsTuple a its.toArray from p) (by simp; lia) λh' eb=>⟨rfl,I.turned (t':=s.toks) (λb o hb e=>eb b o hb e) f0 f1 f3 f4 f5⟩
 self:=λ_ _ _ _ _ st h=>wpAny_pyIter_tupleiter st h
theorem tS {P:Program} {w:World} {K:OR} {tg:Expr} (it:Addr) (lo:Int) (n:Nat):Turn P w K tg (MH lo n) [it] it (λi h=>IsRangeIter h it (lo+(i:Nat) * 1) ((n:Int) - (i:Nat)) 1) where
 mem:=by simp
 obj:=λi h st b hb=>by
  have e:b=it:=by simpa using hb
  subst e
  exact ⟨_,st,λv z=>by
   have z':Tq _=RQ v:=z
   cases z'⟩
 keep:=λi h h' st k=>k it (by simp) _ st
 item:=by
  intro X hP hw hK hc i aa s σ H E I hf st hg
  subst hP hw hK
  obtain ⟨f0,f1,f2,f3,f4,f5⟩:=hf it (by simp)
  have W:=Walks.range (prog:=X.prog) (w:=X.w) (I.ok.hd hc) it lo 1 n
  refine W.item i s _ _ hg st λv h' tk hv st' kk=>?_
  obtain ⟨t,rfl⟩:=hv
  have I1:Inv X aa σ H { s with heap:=h',toks:=tk }:=I.turned (λb o hb e=>kk b o (by simpa using hb) e) f0 f1 f3 f4 f5
  refine ⟨_,rfl,qH (s:={ s with heap:=h',toks:=tk }) (n:="range_iterator") st' rfl rfl (by decide) ⟨.int (lo+i),H,I1,⟨t,?_⟩,⟨rfl,rfl⟩,st',λb hb=>(hf b hb).1⟩⟩
  rw [Int.mul_one]
 done:=by
  intro X hP hw hK hc i aa s σ H E I hf st hg
  subst hP hw hK
  obtain ⟨f0,f1,f2,f3,f4,f5⟩:=hf it (by simp)
  exact wpAny_pyNext_range_end (I.ok.hd hc) st (by have:n<=i:=hg; lia) λh' eb=>⟨rfl,I.turned (t':=s.toks) (λb o hb e=>eb b o hb e) f0 f1 f3 f4 f5⟩
 self:=λ_ _ _ _ _ st h=>wpAny_pyIter_rangeiter st h
theorem zQ {lo hi:Int} (I:Inv X aa σ H s) (h1: -(2 ^ 62)<=lo) (h2:lo<2 ^ 62) (h3: -(2 ^ 62)<=hi) (h4:hi<2 ^ 62)
 (q:R (MH lo (hi - lo).toNat) H):wpAny (model X.prog X.w) X.A (pyIter (.ref s.heap.objs.size)) (Ng X aa σ tg R) E { s with heap:=s.heap.push { cls:=.type "range",data:=.fields #[.int lo t,.int hi u,.int 1 v] },toks:=tk }:=by
 refine wpAny_pyIter_range (IsRange.new ..) (small_one h1 h2 h3 h4) ?_
 have I1:Inv X aa σ H { s with heap:=s.heap.push { cls:=.type "range",data:=.fields #[.int lo t,.int hi u,.int 1 v] },toks:=tk }:=I.kept λb o e=>OX _ e
 refine ⟨(s.heap.push { cls:=.type "range",data:=.fields #[.int lo t,.int hi u,.int 1 v] }).objs.size,[(s.heap.push { cls:=.type "range",data:=.fields #[.int lo t,.int hi u,.int 1 v] }).objs.size],_,_,H,rfl,
  I1.kept (t':=tk) λb o e=>OX _ e,tS _ lo (hi - lo).toNat,?_,λb hb=>?_,q⟩
 ·have e1:lo+((0:Nat):Int) * 1=lo:=by simp
  have e2:(((hi - lo).toNat:Nat):Int) - ((0:Nat):Int)=TR lo hi 1:=by rw [rangeSize_one]; split <;> lia
  show IsRangeIter _ _ (lo+((0:Nat):Int) * 1) ((((hi - lo).toNat:Nat):Int) - ((0:Nat):Int)) 1
  rw [e1,e2]
  exact O7 _ rfl
 ·have e:b=(s.heap.push { cls:=.type "range",data:=.fields #[.int lo t,.int hi u,.int 1 v] }).objs.size:=by simpa using hb
  subst e
  exact I1.jh (OT _) (I1.hok.fresh (OT _))
noncomputable def KI (ta:TA):TI:=λσ H R=>ta σ H λvs H1=>∃ j:Int,vs=[.int j]/\ -(2 ^ 62)<=j/\j<2 ^ 62/\R (MH 0 j.toNat) H1
theorem xZ (hg:Gl X "range") (hm:X.mg "range"=none) (ha:PA X [a] ta) (hs:starEach [a] X.env=[(false,eval a X.env)]:=by rfl):PI X tg (.Call (.Name "range" p) [a] [] pos) (KI ta):=by
 intro aa s σ H R I h
 refine Call_ (d7 I hg hm boot_range (Sy (bJ (ha pos aa s σ H _ I h) λus s1 ⟨vs,H1,I1,r1,q1⟩=>?_) hs rfl))
 obtain ⟨j,e,q1,q2,q⟩:=q1
 subst e
 cases r1 with
 | cons r rr =>
  cases rr
  obtain ⟨t,rfl⟩:=r
  exact call_range_1 (zQ I1 (by lia) (by lia) q1 q2 (by simpa using q))
noncomputable def Nj (wi:TI) (g:TG) (tb:TS):TS:=λD σ H=>wi σ H λJ H1=>∃ W:Nat->Nat->St->Hp->Prop,(∃ m,W 0 m σ H1)/\∀ i m σ H,W i m σ H ->
 (J.stop i H/\D.nx σ H)\/(J.go i H/\∃ N:St->Hp->Prop,(∀ σ' H',N σ' H'->∃ m',m'<m/\W (i+1) m' σ' H')/\∀ x H',J.yld i H x H'->g x σ H' λσ2 H2=>tb { D with nx:=N,ct:=N,bk:=D.nx } σ2 H2)
noncomputable def kq (fp:List Addr) (h:Heap):List (Addr×Obj):=fp.filterMap λb=>(h.get? b).map λo=>(b,o)
theorem fy (hb:b∈fp) (e:h.get? b=some o):(b,o)∈kq fp h:=List.mem_filterMap.mpr ⟨b,hb,by rw [e]; rfl⟩
theorem x6 (hp:p∈kq fp h):p.1∈fp/\h.get? p.1=some p.2:=by
 obtain ⟨b,hb,e⟩:=List.mem_filterMap.mp hp
 cases q:h.get? b with
 | none=>rw [q] at e; cases e
 | some o =>
  rw [q] at e
  have e':(b,o)=p:=QI e
  subst e'
  exact ⟨hb,q⟩
theorem Inv.pinned (I:Inv X aa σ H s) (hf:∀ b∈fp,d8 X aa H b) (ho:∀ b∈fp,∃ o,s.heap.get? b=some o/\∀ v,o.data≠.cell v):Inv X (aa++kq fp s.heap) σ H s :=
 I.vz λp hp=>(Pb.mp hp).elim (λz=>I.pin p (Qs _ z)) λz=>by
  obtain ⟨hb,e⟩:=x6 z
  obtain ⟨f0,f1,f2,_⟩:=hf p.1 hb
  obtain ⟨o,e',d⟩:=ho p.1 hb
  rw [e] at e'; cases e'
  exact ⟨e,f0,f1,f2,d⟩
theorem Inv.f6 (I:Inv X (aa++pl) σ H s):Inv X aa σ H s:=I.vz λp hp=>I.pin p (Qs _ (Qk _ hp))
theorem Hw (hp:PassesOwn (model X.prog X.w) X.A X.env X.xe) (hc:X.calm=true) (hi:PI X tg iter wi) (hg:PG X tg g) (hb:tH X body tb)
 (hs:∀ x,foldedSetIterable iter X.env x=pure x:=by intro _; rfl):PS X (.For tg iter body [] pos) (Nj wi g tb):=by
 intro aa s σ H D I h
 refine wpAny_For (bJ (hi aa s σ H _ I h) λv s1 h1=>bJ h1 λitv s2 h2=>?_) hs
 obtain ⟨it,fp,tn,J,H2,e,I2,T,st2,f2,W,⟨m0,w0⟩,turn⟩:=h2
 subst e
 have stat:∀ {H':Hp},(∀ b∈fp,H' b=none)->∀ b∈fp,d8 X aa H' b:=λhn b hb=>⟨hn b hb,(f2 b hb).2⟩
 refine codeAny_forLoop_any (λn s'=>∃ i σ' H',Inv X aa σ' H' s'/\tn i s'.heap/\(∀ b∈fp,H' b=none)/\W i n σ' H') ?_ m0 ⟨0,σ,H2,I2,st2,λb hb=>(f2 b hb).1,w0⟩
 rintro n s3 ⟨i,σ3,H3,I3,st3,fr3,w3⟩
 rcases turn i n σ3 H3 w3 with ⟨stop,qn⟩ | ⟨go,N,hN,step⟩
 ·refine RD hp (bJ (T.done X rfl rfl rfl hc i aa s3 σ3 H3 X.xe I3 (stat fr3) st3 stop) λr s4 ⟨hr,I4⟩=>?_)
  subst hr
  exact wpAny_execs_nil ⟨σ3,H3,I4,qn⟩
 ·refine RD hp (bJ (T.item X rfl rfl rfl hc i aa s3 σ3 H3 X.xe I3 (stat fr3) st3 go) λr s4 ⟨u,hr,h4⟩=>?_)
  subst hr
  refine RD hp (bJ h4 λ_ s5 ⟨x,H5,I5,r5,y5,st5,fr5⟩=>?_)
  have I5':=I5.pinned (stat fr5) (T.obj _ _ st5)
  refine RD hp (bJ (hg _ s5 σ3 H5 x u _ I5' r5 (step x H5 y5)) λ_ s6 ⟨σ6,H6,I6,q6⟩=>?_)
  refine RD hp (bJ (hb _ s6 σ6 H6 _ I6 q6) λf s7 q7=>?_)
  have again:∀ {σ7:St} {H7:Hp},Inv X (aa++kq fp s5.heap) σ7 H7 s7->N σ7 H7->∃ m,m<n/\∃ i σ' H',Inv X aa σ' H' s7/\tn i s7.heap/\(∀ b∈fp,H' b=none)/\W i m σ' H':=λ{σ7 H7} I7 n7=>by
   obtain ⟨m',hm,w7⟩:=hN σ7 H7 n7
   refine ⟨m',hm,i+1,σ7,H7,I7.f6,T.keep _ _ _ st5 λb hb o e=>(I7.pin (b,o) (Qs _ (Qs _ (fy hb e)))).1,λb hb=>?_,w7⟩
   obtain ⟨o,e,d⟩:=T.obj _ _ st5 b hb
   exact (I7.pin (b,o) (Qs _ (Qs _ (fy hb e)))).2.1
  cases f with
  | next=>obtain ⟨σ7,H7,I7,n7⟩:=q7; exact again I7 n7
  | cont=>obtain ⟨σ7,H7,I7,n7⟩:=q7; exact again I7 n7
  | brk=>obtain ⟨σ7,H7,I7,q7⟩:=q7; exact ⟨σ7,H7,I7.f6,q7⟩
  | ret v=>obtain ⟨x7,σ7,H7,I7,r7,q7⟩:=q7; exact ⟨x7,σ7,H7,I7.f6,r7,q7⟩
noncomputable abbrev R2:=V->V->Hp->VK->Prop
def fm (X:Cx) (f:Value->Value->Sem Value) (r:R2):Prop :=
 ∀ (aa:List (Addr×Obj)) (s:Shared) (σ:St) (H:Hp) (x y:V) (v u:Value) (Q:VK),Inv X aa σ H s->RelV x v->RelV y u->r x y H Q ->
  wpAny (model X.prog X.w) X.A (f v u) (EP X aa σ Q) X.xe s
def Nk (X:Cx) (f:Value->Sem Value) (r:V->Hp->VK->Prop):Prop :=
 ∀ (aa:List (Addr×Obj)) (s:Shared) (σ:St) (H:Hp) (x:V) (v:Value) (Q:VK),Inv X aa σ H s->RelV x v->r x H Q ->
  wpAny (model X.prog X.w) X.A (f v) (EP X aa σ Q) X.xe s
def fR (X:Cx) (f:Value) (r:List V->Hp->VK->Prop):Prop :=
 ∀ (aa:List (Addr×Obj)) (s:Shared) (σ:St) (H:Hp) (xs:List V) (us:List Value) (Q:VK),Inv X aa σ H s->Vals xs us->r xs H Q ->
  wpAny (model X.prog X.w) X.A (call f us) (EP X aa σ Q) X.xe s
def Nl (X:Cx) (r:V->Hp->(Bool->Hp->Prop)->Prop):Prop :=
 ∀ (aa:List (Addr×Obj)) (s:Shared) (σ:St) (H:Hp) (x:V) (v:Value) (Q:Bool->Hp->Prop),Inv X aa σ H s->RelV x v->r x H Q ->
  wpAny (model X.prog X.w) X.A (truthy v) (TP X aa σ Q) X.xe s
noncomputable def MI (r:R2) (ta tb:TE):TE:=λσ H Q=>ta σ H λx H1=>tb σ H1 λy H2=>r x y H2 Q
noncomputable def Ox (r:V->Hp->VK->Prop) (ta:TE):TE:=λσ H Q=>ta σ H λx H1=>r x H1 Q
noncomputable def rI (C:Int->Int->Prop) (g:Int->Int->V):R2:=λx y H Q=>∃ i j,x=.int i/\y=.int j/\C i j/\Q (g i j) H
noncomputable def x8 (g:Int->Int->V):R2:=λx y H Q=>∃ i j,x=.int i/\y=.int j/\Q (g i j) H
noncomputable def rU (g:Int->V):V->Hp->VK->Prop:=λx H Q=>∃ i,x=.int i/\Q (g i) H
theorem Hx (ha:PE X a ta) (hb:PE X b tb) {R:V->V->Hp->Prop} (I:Inv X aa σ H s)
 (h:ta σ H λx H1=>tb σ H1 λy H2=>R x y H2) {f:Value->Value->Sem Value}
 (hf:∀ v u s2 x y H2,Inv X aa σ H2 s2->RelV x v->RelV y u->R x y H2->wpAny (model X.prog X.w) X.A (f v u) Q X.xe s2) :
 wpAny (model X.prog X.w) X.A (eval a X.env) (λv s₁=>wpAny (model X.prog X.w) X.A (eval b X.env) (λu s₂=>wpAny (model X.prog X.w) X.A (f v u) Q X.xe s₂) X.xe s₁) X.xe s:=by
 refine bJ (ha aa s σ H _ I h) λv s1 ⟨x,H1,I1,r1,q1⟩=>?_
 refine bJ (hb aa s1 σ H1 _ I1 q1) λu s2 ⟨y,H2,I2,r2,q2⟩=>?_
 exact hf v u s2 x y H2 I2 r1 r2 q2
theorem Ge (ho:fm X (binaryOp op) r) (ha:PE X a ta) (hb:PE X b tb):PE X (.BinOp a op b pos) (MI r ta tb):=by
 intro aa s σ H Q I h
 exact wpAny_BinOp (Hx ha hb I h λv u s2 x y H2 I2 rx ry q=>ho aa s2 σ H2 x y v u Q I2 rx ry q)
theorem KJ (ho:Nk X (unaryOp op) r) (ha:PE X a ta):PE X (.UnaryOp op a pos) (Ox r ta):=by
 intro aa s σ H Q I h
 exact UnaryOp_ (bJ (ha aa s σ H _ I h) λv s1 ⟨x,H1,I1,r1,q1⟩=>ho aa s1 σ H1 x v Q I1 r1 q1)
theorem Gf {g:Int->Int->Int}
 (rule:∀ (i j:Int) (t u:Tok) (s:Shared) (Q:Value->Shared->Prop) (E:Value->Shared->Prop),C i j->Q (.int (g i j) s.toks) { s with toks:=s.toks+1 }->wpAny (model X.prog X.w) X.A (f (.int i t) (.int j u)) Q E s) :
 fm X f (rI C λi j=>.int (g i j)):=by
 intro aa s σ H x y v u Q I rx ry h
 obtain ⟨i,j,rfl,rfl,hc,q⟩:=h
 obtain ⟨t,rfl⟩:=rx
 obtain ⟨t',rfl⟩:=ry
 exact rule i j t t' s _ _ hc ⟨.int (g i j),H,I.tok _,⟨_,rfl⟩,q⟩
theorem zR {g:Int->Int->Int}
 (rule:∀ (i j:Int) (t u:Tok) (s:Shared) (Q:Value->Shared->Prop) (E:Value->Shared->Prop),Q (.int (g i j) s.toks) { s with toks:=s.toks+1 }->wpAny (model X.prog X.w) X.A (f (.int i t) (.int j u)) Q E s) :
 fm X f (x8 λi j=>.int (g i j)):=by
 intro aa s σ H x y v u Q I rx ry h
 obtain ⟨i,j,rfl,rfl,q⟩:=h
 obtain ⟨t,rfl⟩:=rx
 obtain ⟨t',rfl⟩:=ry
 exact rule i j t t' s _ _ ⟨.int (g i j),H,I.tok _,⟨_,rfl⟩,q⟩
theorem KL {g:Int->Int->Bool}
 (rule:∀ (i j:Int) (t u:Tok) (s:Shared) (Q:Value->Shared->Prop) (E:Value->Shared->Prop),Q (.bool (g i j)) s->wpAny (model X.prog X.w) X.A (f (.int i t) (.int j u)) Q E s) :
 fm X f (x8 λi j=>.bl (g i j)):=by
 intro aa s σ H x y v u Q I rx ry h
 obtain ⟨i,j,rfl,rfl,q⟩:=h
 obtain ⟨t,rfl⟩:=rx
 obtain ⟨t',rfl⟩:=ry
 exact rule i j t t' s _ _ ⟨.bl (g i j),H,I,rfl,q⟩
def zS (i j:Int):Prop:=0<=j/\j<=1000000/\i.natAbs<2 ^ 64
theorem tT (k):(0:Int)<=2 ^ k:=by
 rw [two_pow_cast]
 exact Vb _
theorem Hy:fm X (binaryOp .Add) (x8 λi j=>.int (i+j)):=zR λ_ _ _ _ _ _ _ q=>add_int q
theorem Hz:fm X (binaryOp .Sub) (x8 λi j=>.int (i - j)):=zR λ_ _ _ _ _ _ _ q=>sub_int q
theorem HA:fm X (binaryOp .Mod) (rI (λ_ j=>0<j) λi j=>.int (i % j)):=Gf λi j _ _ _ _ _ hc q=>by
 have h1:(0:Int)<j:=hc
 exact mod_int' (by lia) (by rw [Int.fmod_eq_emod_of_nonneg i (by lia)]; exact q)
theorem Dz:fm X (binaryOp .Mod) (rI (λ_ j=>j≠0) λi j=>.int (i.fmod j)):=Gf λ_ _ _ _ _ _ _ hc q=>mod_int' hc q
theorem HB:fm X (binaryOp .Pow) (rI zS λi j=>.int (i ^ j.toNat)):=Gf λ_ _ _ _ _ _ _ hc q=>pow_int_small hc.1 hc.2.1 hc.2.2 q
theorem HC:fm X (binaryOp .LShift) (rI zS λi j=>.int (i * 2 ^ j.toNat)):=Gf λ_ _ _ _ _ _ _ hc q=>lshift_int_small hc.1 hc.2.1 hc.2.2 q
theorem HD:fm X (binaryOp .RShift) (rI (λ_ j=>0<=j) λi j=>.int (i / 2 ^ j.toNat)):=Gf λi j _ _ _ _ _ hc q =>
 rshift_int hc (by rw [Tw i (tT _)]; exact q)
theorem HE:fm X (binaryOp .BitAnd) (x8 λi j=>.int (Uk i j)):=zR λ_ _ _ _ _ _ _ q=>and_int q
theorem DA:fm X (inplaceOp .Add) (x8 λi j=>.int (i+j)):=zR λ_ _ _ _ _ _ _ q=>iadd_int q
theorem DB:fm X (inplaceOp .Sub) (x8 λi j=>.int (i - j)):=zR λ_ _ _ _ _ _ _ q=>isub_int q
theorem Oz {g:Int->Int}
 (rule:∀ (i:Int) (t:Tok) (s:Shared) (Q:Value->Shared->Prop) (E:Value->Shared->Prop),Q (.int (g i) s.toks) { s with toks:=s.toks+1 }->wpAny (model X.prog X.w) X.A (f (.int i t)) Q E s) :
 Nk X f (rU λi=>.int (g i)):=by
 intro aa s σ H x v Q I rx h
 obtain ⟨i,rfl,q⟩:=h
 obtain ⟨t,rfl⟩:=rx
 exact rule i t s _ _ ⟨.int (g i),H,I.tok _,⟨_,rfl⟩,q⟩
theorem HF:Nk X (unaryOp .USub) (rU λi=>.int (-i)):=Oz λ_ _ _ _ _ q=>neg_int q
noncomputable def DC:V->V->Bool
 | .non,.non=>true | .non,.int _=>true | .int _,.non=>true | .non,.bl _=>true | .bl _,.non=>true | .non,.str _=>true | .str _,.non=>true
 | .int _,.int _=>true | .bl _,.bl _=>true | .str _,.str _=>true | .byt _,.byt _=>true
 | .int _,.str _=>true | .str _,.int _=>true | .bl _,.str _=>true | .str _,.bl _=>true
 | _,_=>false
noncomputable def OA:R2:=λx y H Q=>DC x y=true/\Q (.bl (decide (x=y))) H
noncomputable def OB:R2:=λx y H Q=>DC x y=true/\Q (.bl (!decide (x=y))) H
theorem vB:decide (V.int i=V.int j)=(i == j):=by
 rw [SW]
 simp
theorem zT:decide (V.bl i=V.bl j)=(i == j):=by
 rw [SW]
 simp
theorem vC:decide (V.str i=V.str j)=(i == j):=by
 rw [SW]
 simp
theorem vD:decide (V.byt i=V.byt j)=(i.toList == j.toList):=by
 rw [SW]
 cases i
 cases j
 simp
theorem bf (I:Inv X aa σ H s) (q:Q (.bl k) H) (e:k=k'):EP X aa σ Q (.bool k') s:=by
 subst e
 exact ⟨.bl k,H,I,rfl,q⟩
theorem KN:fm X (compareOp .Eq) OA:=by
 intro aa s σ H x y v u Q I rx ry h
 obtain ⟨hs,q⟩:=h
 cases x with
 | non =>
  cases rx
  cases y with
  | non=>cases ry; exact PySem.EqNone.eq_none_none (bf I q (by simp))
  | bl j=>cases ry; exact PySem.EqNone.eq_none_bool (bf I q (by simp))
  | int j=>obtain ⟨t',rfl⟩:=ry; exact PySem.EqNone.eq_none_int (bf I q (by simp))
  | str j=>obtain ⟨t',rfl⟩:=ry; exact PySem.EqNone.eq_none_str (bf I q (by simp))
  | _=>exact absurd (show false=true from hs) O5
 | bl i =>
  cases rx
  cases y with
  | non=>cases ry; exact PySem.EqNone.eq_bool_none (bf I q (by simp))
  | bl j=>cases ry; exact eq_bool (bf I q zT)
  | str j=>obtain ⟨t',rfl⟩:=ry; exact PySem.EqMixed.eq_bool_str (bf I q (by simp))
  | _=>exact absurd (show false=true from hs) O5
 | int i =>
  obtain ⟨t,rfl⟩:=rx
  cases y with
  | non=>cases ry; exact PySem.EqNone.eq_int_none (bf I q (by simp))
  | int j=>obtain ⟨t',rfl⟩:=ry; exact eq_int (bf I q vB)
  | str j=>obtain ⟨t',rfl⟩:=ry; exact PySem.EqMixed.eq_int_str (bf I q (by simp))
  | _=>exact absurd (show false=true from hs) O5
 | str i =>
  obtain ⟨t,rfl⟩:=rx
  cases y with
  | non=>cases ry; exact PySem.EqNone.eq_str_none (bf I q (by simp))
  | bl j=>cases ry; exact PySem.EqMixed.eq_str_bool (bf I q (by simp))
  | int j=>obtain ⟨t',rfl⟩:=ry; exact PySem.EqMixed.eq_str_int (bf I q (by simp))
  | str j=>obtain ⟨t',rfl⟩:=ry; exact eq_str (bf I q vC)
  | _=>exact absurd (show false=true from hs) O5
 | byt i =>
  obtain ⟨t,rfl⟩:=rx
  cases y with
  | byt j=>obtain ⟨t',rfl⟩:=ry; exact PySem.W.eq_bytes (bf I q vD)
  | _=>exact absurd (show false=true from hs) O5
 | _=>cases y <;> exact absurd (show false=true from hs) O5
theorem KO:fm X (compareOp .NotEq) OB:=by
 intro aa s σ H x y v u Q I rx ry h
 obtain ⟨hs,q⟩:=h
 cases x with
 | non =>
  cases rx
  cases y with
  | non=>cases ry; exact PySem.EqNone.ne_none_none (bf I q (by simp))
  | bl j=>cases ry; exact PySem.EqNone.ne_none_bool (bf I q (by simp))
  | int j=>obtain ⟨t',rfl⟩:=ry; exact PySem.EqNone.ne_none_int (bf I q (by simp))
  | str j=>obtain ⟨t',rfl⟩:=ry; exact PySem.EqNone.ne_none_str (bf I q (by simp))
  | _=>exact absurd (show false=true from hs) O5
 | bl i =>
  cases rx
  cases y with
  | non=>cases ry; exact PySem.EqNone.ne_bool_none (bf I q (by simp))
  | bl j=>cases ry; exact ne_bool (bf I q (congrArg not zT))
  | str j=>obtain ⟨t',rfl⟩:=ry; exact PySem.EqMixed.ne_bool_str (bf I q (by simp))
  | _=>exact absurd (show false=true from hs) O5
 | int i =>
  obtain ⟨t,rfl⟩:=rx
  cases y with
  | non=>cases ry; exact PySem.EqNone.ne_int_none (bf I q (by simp))
  | int j=>obtain ⟨t',rfl⟩:=ry; exact ne_int (bf I q (congrArg not vB))
  | str j=>obtain ⟨t',rfl⟩:=ry; exact PySem.EqMixed.ne_int_str (bf I q (by simp))
  | _=>exact absurd (show false=true from hs) O5
 | str i =>
  obtain ⟨t,rfl⟩:=rx
  cases y with
  | non=>cases ry; exact PySem.EqNone.ne_str_none (bf I q (by simp))
  | bl j=>cases ry; exact PySem.EqMixed.ne_str_bool (bf I q (by simp))
  | int j=>obtain ⟨t',rfl⟩:=ry; exact PySem.EqMixed.ne_str_int (bf I q (by simp))
  | str j=>obtain ⟨t',rfl⟩:=ry; exact ne_str (bf I q (congrArg not vC))
  | _=>exact absurd (show false=true from hs) O5
 | byt i =>
  obtain ⟨t,rfl⟩:=rx
  cases y with
  | byt j=>obtain ⟨t',rfl⟩:=ry; exact PySem.W.ne_bytes (bf I q (congrArg not vD))
  | _=>exact absurd (show false=true from hs) O5
 | _=>cases y <;> exact absurd (show false=true from hs) O5
theorem KP:fm X (compareOp .Lt) (x8 λi j=>.bl (decide (i<j))):=KL λ_ _ _ _ _ _ _ q=>lt_int q
theorem KQ:fm X (compareOp .Gt) (x8 λi j=>.bl (decide (j<i))):=KL λ_ _ _ _ _ _ _ q=>gt_int q
theorem fm.or (h:fm X f r) (h':fm X f r'):fm X f (λx y H Q=>r x y H Q\/r' x y H Q):=by
 intro aa s σ H x y v u Q I rx ry q
 rcases q with q | q
 ·exact h aa s σ H x y v u Q I rx ry q
 ·exact h' aa s σ H x y v u Q I rx ry q
theorem kr (b) (h:op≠.In:=by decide) (h2:op≠.NotIn:=by decide):behindInMarks op b=false:=by
 have e1:(op == CmpOp.In)=false:=by cases op <;> first | rfl | exact absurd rfl h
 have e2:(op == CmpOp.NotIn)=false:=by cases op <;> first | rfl | exact absurd rfl h2
 cases b <;> simp [behindInMarks,e1,e2]
theorem DE (ho:fm X (compareOp op) r) (ha:PE X a ta) (hb:PE X b tb) (hm:behindInMarks op b=false):PE X (.Compare a [op] [b] pos) (MI r ta tb):=by
 intro aa s σ H Q I h
 exact wpAny_Compare1 (Hx ha hb I h λv u s2 x y H2 I2 rx ry q=>ho aa s2 σ H2 x y v u Q I2 rx ry q) hm
noncomputable def KR (t:TE):TT:=λσ H Q=>t σ H λx H'=>∃ k,x=.bl k/\Q k H'
theorem DF (ho:fm X (compareOp op) r) (ha:PE X a ta) (hb:PE X b tb) (hm:behindInMarks op b=false):PT X (.Compare a [op] [b] pos) (KR (MI r ta tb)):=by
 intro aa s σ H Q I h
 refine wpAny_isTrue_Compare1 (bJ (ha aa s σ H _ I h) λv s1 ⟨x,H1,I1,r1,q1⟩=>bJ (hb aa s1 σ H1 _ I1 q1) λu s2 ⟨y,H2,I2,r2,q2⟩ =>
  bJ (ho aa s2 σ H2 x y v u _ I2 r1 r2 q2) λc s3 ⟨z,H3,I3,r3,k,e,q3⟩=>?_) hm
 subst e
 cases r3
 exact SK ⟨H3,I3,q3⟩
def KS (K:OR) (x:V) (H:Hp) (k:Bool):Prop :=
 match x with
 | .non=>k=false
 | .bl b=>k=b
 | .int i=>k=(i != 0)
 | .str y=>y.length<=sizeLine/\k=((y.length:Int) != 0)
 | .byt y=>y.size<=sizeLine/\k=((y.size:Int) != 0)
 | .ref p=>(∃ xs,fQ K H p xs/\k= !xs.isEmpty)\/(∃ xs,cU K H p xs/\k= !xs.isEmpty)\/∃ kvs,H p=some (.dK kvs)/\k= !kvs.isEmpty
 | _=>False
theorem tU (r:KV kvs vs):(!vs.isEmpty)= !kvs.isEmpty:=by
 cases r <;> rfl
theorem ku (r:Vals xs its):(!its.toArray.isEmpty)= !xs.isEmpty:=by
 cases r <;> simp
theorem oS:(sizeLine:Nat)<2 ^ 63:=by rw [Ri]; decide
theorem HG:Nl X (λx H Q=>∃ k,KS X.K x H k/\Q k H):=by
 intro aa s σ H x v Q I rx h
 obtain ⟨k,e,q⟩:=h
 have hl:=oS
 have hs:sizeLine=16777216:=Ri
 cases x with
 | non =>
  cases rx
  have e':k=false:=e
  subst e'
  exact truthy_none ⟨H,I,q⟩
 | bl b =>
  cases rx
  have e':k=b:=e
  subst e'
  exact SK ⟨H,I,q⟩
 | int i =>
  obtain ⟨t,rfl⟩:=rx
  have e':k=(i != 0):=e
  subst e'
  exact PySem.P.truthy_int ⟨H,I,q⟩
 | str y =>
  obtain ⟨t,rfl⟩:=rx
  obtain ⟨hy,e'⟩:y.length<=sizeLine/\k=((y.length:Int) != 0):=e
  subst e'
  exact PySem.P.truthy_str (by lia) ⟨H,I.tok _,q⟩
 | byt y =>
  obtain ⟨t,rfl⟩:=rx
  obtain ⟨hy,e'⟩:y.size<=sizeLine/\k=((y.size:Int) != 0):=e
  subst e'
  exact PySem.W.truthy_bytes (by lia) ⟨H,I.tok _,q⟩
 | ref p =>
  cases rx
  have e':(∃ xs,fQ X.K H p xs/\k= !xs.isEmpty)\/(∃ xs,cU X.K H p xs/\k= !xs.isEmpty)\/∃ kvs,H p=some (.dK kvs)/\k= !kvs.isEmpty:=e
  rcases e' with ⟨xs,hx,e'⟩ | ⟨xs,hx,e'⟩ | ⟨kvs,hx,e'⟩
  ·subst e'
   obtain ⟨its,r,pl,hz⟩:=I.list hx
   have hlen:=r.length
   exact wpAny_truthy_list pl.isList (by simp only [Pg]; lia) ⟨H,I.tok _,by rw [ku r]; exact q⟩
  ·subst e'
   obtain ⟨its,r,pl,hz⟩:=I.tuple hx
   have hlen:=r.length
   exact truthy_tuple pl (by simp only [Pg]; lia) ⟨H,I.tok _,by rw [ku r]; exact q⟩
  ·subst e'
   obtain ⟨hz,hS,vs,r,m⟩:kvs.length<=sizeLine/\(p == sysModules)=false/\∃ vs,KV kvs vs/\s.heap.DictOf (bK X.prog X.w) p vs:=I.hok p _ hx
   have hlen:kvs.length=vs.length:=Qf r
   exact wpAny_truthy_dict hS m (by lia) ⟨H,I.tok _,by rw [tU r]; exact q⟩
 | _=>exact (show False from e).elim
theorem zU (ha:PE X a ta) (he:∀ whole,isTrue a X.env whole=(do let v <- whole; standAt a.pos; holding [v] (truthy v))) :
 PT X a (λσ H Q=>ta σ H λx H'=>∃ k,KS X.K x H' k/\Q k H'):=by
 intro aa s σ H Q I h
 exact isTrue_plain (bJ (ha aa s σ H _ I h) λv s1 ⟨x,H1,I1,r1,q1⟩=>HG aa s1 σ H1 x v Q I1 r1 q1) (he _)
theorem tV:fm X (binaryOp .Add) (λx y H Q=>∃ i j,x=.str i/\y=.str j/\i.length+j.length<=sizeLine/\Q (.str (i++j)) H):=by
 intro aa s σ H x y v u Q I rx ry h
 obtain ⟨i,j,rfl,rfl,hz,q⟩:=h
 obtain ⟨t,rfl⟩:=rx
 obtain ⟨t',rfl⟩:=ry
 exact add_str (λt' tk=>⟨.str (i++j),H,I.tok _,⟨_,rfl⟩,q⟩) hz
theorem vals1 (r:Vals [x] us):∃ u,us=[u]/\RelV x u:=by
 cases r with
 | cons r1 r2=>cases r2; exact ⟨_,rfl,r1⟩
theorem vals2 (r:Vals [x,y] us):∃ u w',us=[u,w']/\RelV x u/\RelV y w':=by
 cases r with
 | cons r1 r2 =>
  cases r2 with
  | cons r3 r4=>cases r4; exact ⟨_,_,rfl,r1,r3⟩
theorem zV:fR X (.builtin "abs") (λxs H Q=>∃ i,xs=[.int i]/\Q (.int (if i<0 then -i else i)) H):=by
 intro aa s σ H xs us Q I r h
 obtain ⟨i,rfl,q⟩:=h
 obtain ⟨u,rfl,t,rfl⟩:=vals1 r
 exact call_abs_int λu tk=>⟨.int (if i<0 then -i else i),H,I.tok _,⟨_,rfl⟩,q⟩
theorem x9 (hc:X.calm=true):fR X (.builtin "min") (λxs H Q=>∃ i j,xs=[.int i,.int j]/\Q (.int (if j<i then j else i)) H):=by
 intro aa s σ H xs us Q I r h
 obtain ⟨i,j,rfl,q⟩:=h
 obtain ⟨u,w',rfl,⟨t,rfl⟩,⟨t',rfl⟩⟩:=vals2 r
 refine min_two_ints (I.ok.hd hc) λh' tk k=>⟨_,H,I.kept k,?_,q⟩
 by_cases hj:j<i
 ·rw [if_pos hj,if_pos hj]; exact ⟨_,rfl⟩
 ·rw [if_neg hj,if_neg hj]; exact ⟨_,rfl⟩
structure OC (h:Heap) (x dx C:Addr) (mA:Str->Option Value):Prop where
 obj:h.get? x=some (PySem.W.instObj C dx)
 ns:h.Ns1 dx mA
 ne:dx≠x
theorem jR.some_of (r:jR (some v) o):∃ u,o=some u/\RelV v u:=by
 cases o with
 | none=>exact (show False from r).elim
 | some u=>exact ⟨u,rfl,r⟩
structure OD (K:OR) (C:Addr):Prop where
 pg:PySem.W.plainGet K C Str.empty=true
 hd:PySem.W.hasDictIn K C=true
 po:PySem.W.plainOver K C=true
 sa:Ro K (.ref C) "__setattr__"=some (some (.builtin "object.__setattr__"))
structure Con (K:OR) (C:Addr) (f:Str) (v:V) (u:Value):Prop where
 at_:Ro K (.ref C) f=some (some u)
 rel:RelV v u
 get:Vj K u "__get__"=some none
 cp:PySem.W.copiedNames.contains f=false
structure Meth (K:OR) (C:Addr) (m:Str) (f:Addr):Prop where
 at_:Ro K (.ref C) m=some (some (.ref f))
 fn:PySem.W.isFn K (.ref f)=true
 kp:QY K (.ref f)=true
def KU (X:Cx) (op:Operator) (rd:V->V->Hp->VK->Prop):Prop :=
 ∀ (aa:List (Addr×Obj)) (s:Shared) (σ:St) (H:Hp) (x y:V) (u v:Value) (Q:VK),Inv X aa σ H s->RelV x u->RelV y v->rd x y H Q->wpAny (model X.prog X.w) X.A (inplaceOp op u v) (EP X aa σ Q) X.xe s
section
variable {X:Cx} {aa:List (Addr×Obj)} {σ:St} {H:Hp} {s:Shared} {A:Around} {E:Value->Shared->Prop} {Q:Value->Shared->Prop} {c:Value} {b:Bool}
inductive kB (K:OR) (H:Hp):V->Value->Prop where
 | non:kB K H .non (.type "NoneType")
 | bl (x:Bool):kB K H (.bl x) (.type "bool")
 | int (i:Int):kB K H (.int i) (.type "int")
 | str (x:Str):kB K H (.str x) (.type "str")
 | flt (x:UInt64):kB K H (.flt x) (.type "float")
 | lst {a:Addr} {xs:List V} (e:H a=some (.lst xs)):kB K H (.ref a) (.type "list")
 | frz {a:Addr} {o:Obj} {xs:List V} (e:H a=some (.frz o (.lst xs))):kB K H (.ref a) (.type "list")
 | tup {a:Addr} {xs:List V} (e:H a=some (.tup xs)):kB K H (.ref a) (.type "tuple")
 | dK {a:Addr} {kvs:List (Key×V)} (e:H a=some (.dK kvs)):kB K H (.ref a) (.type "dict")
 | dT {a:Addr} {kvs:List (List Key×Addr×V)} (e:H a=some (.dT kvs)):kB K H (.ref a) (.type "dict")
 | ins {a C dx:Addr} {fs:List (Str×V)} (e:H a=some (.ins C dx fs)) (cl:OD K C) (ha:Ro K (.ref C) "__class__"=some (some (.builtin "object.__class__")))
  (hn:Vj K (.builtin "object.__class__") "__get__"=some (some (.builtin "getset_descriptor.__get__"))) (htk:PySem.W.takesIn K (.builtin "object.__class__")=some true)
  (hm:PySem.W.mroIn K C (.type "object")=some true):kB K H (.ref a) (.ref C)
end
structure gK (k:Nat) (A:Around):Prop where
 hd:A.handled=none
 dp:A.depth+3 * k+5<recursionLimit
 un:A.units+16 * k+200<cLine
theorem gK.mono (r:gK k A) (h:j<=k):gK j A:=⟨r.hd,by have:=r.dp; lia,by have:=r.un; lia⟩
theorem gK.deeper (r:gK (k+1) A) (env:Env):gK k (A.deeper env) :=
 ⟨r.hd,by have:=r.dp; show A.depth+1+3 * k+5<_; lia,by have:=r.un; show A.units+3+16 * k+200<_; lia⟩
theorem gK.depth (r:gK k A):A.depth<recursionLimit:=by have:=r.dp; lia
theorem gK.units (r:gK k A):A.units+64<cLine:=by have:=r.un; lia
noncomputable def Nm:TA:=λ_ H Q=>Q [] H
noncomputable def KW (ta:TE) (tr:TA):TA:=λσ H Q=>ta σ H λx H1=>tr σ H1 λxs H2=>Q (x::xs) H2
theorem dh:PA X [] Nm:=λ_ _ _ _ H Q I h=>Calls.spliced_nil ⟨[],H,I,.nil,h⟩
theorem bD (ha:PE X e te) (hr:PA X es t) (hs:starEach (e::es) X.env=(false,eval e X.env)::starEach es X.env:=by rfl):PA X (e::es) (KW te t):=by
 intro pos aa s σ H Q I h
 rw [hs]
 show wpAny _ _ (spliced ((false,eval e X.env)::backTo pos (starEach es X.env))) _ _ s
 refine Ve (bJ (ha aa s σ H _ I h) λu s1 ⟨x,H1,I1,r1,q1⟩=>?_)
 exact bJ (hr pos aa s1 σ H1 _ I1 q1) λus s2 ⟨xs,H2,I2,r2,q2⟩=>⟨x::xs,H2,I2,.cons r1 r2,q2⟩
noncomputable def Np (t:TA):TE:=λσ H Q=>t σ H λxs H1=>xs.length<=sizeLine/\∀ p,H1 p=none->Q (.ref p) (upd H1 p (.tup xs))
noncomputable def Nq (t:TA):TE:=λσ H Q=>t σ H λxs H1=>xs.length<=sizeLine/\∀ p,H1 p=none->Q (.ref p) (upd H1 p (.lst xs))
theorem HH {x1} (h:PA X es t):PE X (.Tuple es x1 pos) (Np t):=by
 intro aa s σ H Q I hq
 refine wpAny_Tuple_spliced (bJ (h pos aa s σ H _ I hq) λus s1 ⟨xs,H1,I1,r,z,q⟩=>⟨by rw [<- r.length]; exact z,?_⟩)
 have hf:H1 s1.heap.objs.size=none:=I1.hok.fresh (OT _)
 refine ⟨.ref s1.heap.objs.size,upd H1 s1.heap.objs.size (.tup xs),I1.laid (t':=s1.toks) (λb u e=>OX _ e) (OT _) ?_,rfl,q _ hf⟩
 exact ⟨z,us,r,⟨_,O7 _ rfl,rfl,_,rfl⟩⟩
theorem HJ (h:PA X es t):PE X (.List es pos) (Nq t):=by
 intro aa s σ H Q I hq
 refine wpAny_List_spliced (bJ (h pos aa s σ H _ I hq) λus s1 ⟨xs,H1,I1,r,z,q⟩=>⟨by rw [<- r.length]; exact z,?_⟩)
 have hf:H1 s1.heap.objs.size=none:=I1.hok.fresh (OT _)
 refine ⟨.ref s1.heap.objs.size,upd H1 s1.heap.objs.size (.lst xs),I1.laid (t':=s1.toks) (λb u e=>OX _ e) (OT _) ?_,rfl,q _ hf⟩
 exact ⟨z,us,0,r,O7 _ rfl⟩
noncomputable abbrev Sp:=List V->Hp->VK->XK->Prop
noncomputable abbrev HK:=List Env->Hp->Shared->XK->Value->Shared->Prop
structure DG (P:Program) (w:World) (K:OR) (mg:Str->Option Value) (base:Heap) (A:Around) (outer:List Env) (s:Shared) (H:Hp):Prop where
 frames:A.frames=some outer
 mod:Mod K mg base
 bs:∀ b o,base.get? b=some o->s.heap.get? b=some o/\H b=none
 bsz:base.objs.size<=s.heap.objs.size
 jf:s.heap.FunFrames base outer
 frf:∀ b∈frs outer,H b=none
 hok:je P w H s.heap
 bare:AllBare s.gens
def CE (outer:List Env) (P:Program) (w:World) (H:Hp) (s:Shared) (Q:VK) (u:Value) (s':Shared):Prop :=
 ∃ v H',s'.os=s.os/\AllBare s'.gens/\Un (frs outer) [] H H' s.heap s'.heap/\je P w H' s'.heap/\RelV v u/\Q v H'
def CR (CX:HK) (outer:List Env) (P:Program) (w:World) (H:Hp) (s:Shared) (Q:VK) (E:XK) (r:Result) (s':Shared):Prop :=
 match r with
 | .ok (.ret u)=>CE outer P w H s Q u s'
 | .ok _=>False
 | .error e=>CX outer H s E e s'
structure bh (P:Program) (w:World) (K:OR) (mg:Str->Option Value) (base:Heap) (CX:HK) (k:Nat) (f:Addr) (fd:FuncData) (ps:List Str) (sp:Sp):Prop where
 len:∀ vs H Q E,sp vs H Q E->vs.length=ps.length
 run:∀ (A:Around) (outer:List Env) (s:Shared) (H:Hp) (args:Args) (us:List Value) (vs:List V) (Q:VK) (E:XK),gK k A->DG P w K mg base A outer s H->BindsTo s fd args (ps.zip us)->Vals vs us->sp vs H Q E ->
  codeAny (model P w) A (.call (.ref f) args) (CR CX outer P w H s Q E) s
theorem bh.mono {K:OR} (F:bh P w K mg base CX j f fd ps sp) (h:j<=k) :
 bh P w K mg base CX k f fd ps sp:=⟨F.len,λA outer s H args us vs Q E hr=>F.run A outer s H args us vs Q E (hr.mono h)⟩
theorem Inv.HL (I:Inv X aa σ H s):DG X.prog X.w X.K X.mg X.base X.A X.stack s H :=
 ⟨I.ok.frames,I.ok.mod,I.bs,O3 I.ok.bsz I.sz,I.stack,I.vv,I.hok,I.bare⟩
theorem Inv.after (I:Inv X aa σ H s) (h:CE X.stack X.prog X.w H s Q u s'):EP X aa σ Q u s':=by
 obtain ⟨v,H',os,bare,un,hok,r,q⟩:=h
 obtain ⟨hh,g,d,t,os'⟩:=s'
 obtain rfl:os'=s.os:=os
 exact ⟨v,H',I.call (h':=hh) (g':=g) (d':=d) (t':=t) (ch:=[]) un hok bare (λb z=>absurd z (by simp)),r,q⟩
def Binds (K:OR) (fd:FuncData) (ps:List Str) (ds:List Value):Prop :=
 ∀ (s:Shared) (us:List Value),K.In s.heap->(us++ds).length=ps.length->BindsTo s fd ⟨us,[]⟩ (ps.zip (us++ds))
theorem Binds.all {K:OR} (h:∀ us:List Value,us.length=ps.length->bindArgs fd ⟨us,[]⟩=pure (ps.zip us)):Binds K fd ps []:=λs us _ hl=>by
 rw [Qd] at hl |-
 exact .of_eq (h us hl)
section
variable {X:Cx} {CX:HK} {k:Nat} {f C:Addr} {fd:FuncData} {ps:List Str} {sp:Sp} {dvs:List V} {ds:List Value} {E:XK} {x m:Str} {p pos apos:Pos} {e o:Expr} {es:List Expr} {ta:TE} {t:TA}
structure Mk (K:OR) (C f:Addr):Prop where
 makes:PySem.W.makesIn K C=true
 init:Ro K (.ref C) "__init__"=some (some (.ref f))
 fn:PySem.W.isFn K (.ref f)=true
 kp:QY K (.ref C)=true
end
section
variable {X:Cx} {CX:HK} {k:Nat} {f C:Addr} {fd:FuncData} {ps ks:List Str} {sp:Sp} {E:XK} {x m:Str} {p pos apos kpos:Pos} {e o:Expr} {es:List Expr} {kws:List Keyword} {te ta:TE} {t tk:TA} {nm:Option Str}
structure Nr (K:OR) (fd:FuncData) (ps ks:List Str) (g:List Value->List Value->List Value) (gV:List V->List V->List V):Prop where
 to:∀ (s:Shared) (us ws:List Value),K.In s.heap->(g us ws).length=ps.length->BindsTo s fd ⟨us,ks.zip ws⟩ (ps.zip (g us ws))
 rel:∀ {vs:List V} {us:List Value} {zs:List V} {ws:List Value},Vals vs us->Vals zs ws->Vals (gV vs zs) (g us ws)
end
structure oU (N P:List Str) (sc:Scope):Prop where
 kind:sc.kind=.function
 co:sc.isCoroutine=false
 gen:sc.isGenerator=false
 nd:N.Nodup
 pre:N.take P.length=P
 par:∀ x∈P,sc.names.lookup x=some .local\/sc.names.lookup x=some .cell
 nofree:∀ y∈sc.names,y.2≠.free
theorem m9 {kindOf:Str->Option NameKind}:∀ {binds:List (Str×Value)} {m:Str->Option Value},(∀ v,(x,v)∉binds)->bindL kindOf binds m x=m x
 | [],_,_=>rfl
 | (n,v)::r,m,h=>by
  unfold bindL
  rw [m9 λw hw=>h w (O1 _ hw)]
  split
  ·have:x≠n:=by rintro rfl; exact h v OY
   simp [this]
  ·rfl
theorem nc {kindOf:Str->Option NameKind}:∀ {binds:List (Str×Value)} {m:Str->Option Value},(∀ v,(x,v)∉binds)->bindC kindOf binds m x=m x
 | [],_,_=>rfl
 | (n,v)::r,m,h=>by
  unfold bindC
  rw [nc λw hw=>h w (O1 _ hw)]
  split
  ·rfl
  ·have:x≠n:=by rintro rfl; exact h v OY
   simp [this]
theorem nh {kindOf:Str->Option NameKind}:∀ {P:List Str} {vs:List Value} {i:Nat} {m:Str->Option Value},P.Nodup->P[i]?=some x->vs[i]?=some v->kindOf x=some .local ->
 bindL kindOf (P.zip vs) m x=some v
 | [],_,_,_,_,h,_,_=>by simp at h
 | _::_,[],_,_,_,_,h,_=>by simp at h
 | p::P,w::vs,0,m,nd,h1,h2,hk=>by
  simp at h1 h2; subst h1; subst h2
  show bindL kindOf ((p,w)::P.zip vs) m p=_
  unfold bindL
  rw [m9 λv hv=>(QJ.mp nd).1 (List.of_mem_zip hv).1,if_pos hk]
  simp
 | p::P,w::vs,i+1,m,nd,h1,h2,hk=>by
  show bindL kindOf ((p,w)::P.zip vs) m x=_
  unfold bindL
  exact nh (i:=i) (QJ.mp nd).2 (by simpa using h1) (by simpa using h2) hk
theorem ni {kindOf:Str->Option NameKind}:∀ {P:List Str} {vs:List Value} {i:Nat} {m:Str->Option Value},P.Nodup->P[i]?=some x->vs[i]?=some v->kindOf x≠some .local ->
 bindC kindOf (P.zip vs) m x=some v
 | [],_,_,_,_,h,_,_=>by simp at h
 | _::_,[],_,_,_,_,h,_=>by simp at h
 | p::P,w::vs,0,m,nd,h1,h2,hk=>by
  simp at h1 h2; subst h1; subst h2
  show bindC kindOf ((p,w)::P.zip vs) m p=_
  unfold bindC
  rw [nc λv hv=>(QJ.mp nd).1 (List.of_mem_zip hv).1,if_neg hk]
  simp
 | p::P,w::vs,i+1,m,nd,h1,h2,hk=>by
  show bindC kindOf ((p,w)::P.zip vs) m x=_
  unfold bindC
  exact ni (i:=i) (QJ.mp nd).2 (by simpa using h1) (by simpa using h2) hk
noncomputable def start (N:List Str) (vs:List V):St:=vs.map some++Pq (N.length - vs.length) none
noncomputable def qI (CX:HK) (P:Program) (w:World) (K:OR) (mg:Str->Option Value) (base:Heap) (N:List Str) (qual:Str) (scope:Scope) (f:Addr) (cd:Value) (A:Around) (outer:List Env) (s:Shared) (H:Hp) (E:XK):Cx where
 prog:=P
 w:=w
 K:=K
 mg:=mg
 base:=base
 A:=A.deeper (envOfC qual scope s.heap.objs.size f cd)
 N:=N
 s₀:=s
 H₀:=H
 env:=envOfC qual scope s.heap.objs.size f cd
 outer:=outer
 stack:=envOfC qual scope s.heap.objs.size f cd::outer
 ex:=[]
 calm:=true
 fn:=λ_=>true
 pn:=[]
 xe:=λe s'=>wpAny (model P w) (A.deeper (envOfC qual scope s.heap.objs.size f cd)) (leaving (envOfC qual scope s.heap.objs.size f cd) e) (λ_ s''=>CX outer H s E e s'') (λe' s''=>CX outer H s E e' s'') s'
theorem qJ {sc:Scope} (h:sc.names.lookup x=some .cell):∃ c,(cellsFrom n sc.names []).lookup x=some c:=by
 have q:=PySem.W.cellsFrom_some sc.names n [] (.inl h)
 exact Option.isSome_iff_exists.mp q
theorem ya {K:OR}
 (S:oU N ps scope) (hd:A.handled=none) (e0:DG P w K mg base A outer s H) (hl:vs.length=ps.length) (r:Vals vs us)
 (x:InCallC s s.heap.objs.size (bindL (envOfC qual scope s.heap.objs.size f cd).kindOf (ps.zip us) λ_=>none) (cellsFrom (s.heap.objs.size+1) scope.names []) (bindC (envOfC qual scope s.heap.objs.size f cd).kindOf (ps.zip us) λ_=>none) s1) :
 Inv (qI CX P w K mg base N qual scope f cd A outer s H E) [] (start N vs) H s1:=by
 have hpl:ps.length<=N.length:=by have:=congrArg So S.pre; rw [PZ] at this; lia
 obtain ⟨h1,tk,rfl,hk⟩:=x.done
 have noA:∀ b:Addr,b∉(qI CX P w K mg base N qual scope f cd A outer s H E).ex:=λb z=>absurd (show b∈([]:List Addr) from z) (by simp)
 refine ⟨⟨e0.mod,S.kind,rfl,rfl,OT _,λy z c h1 h2=>?_,λy hy=>?_,λy c _ h=>?_,λ_=>hd,Around.frames_deeper e0.frames,.inr ⟨rfl,rfl⟩,λb z=>absurd z (noA b),e0.bs,e0.bsz,λb _ _=>noA b,λb z=>absurd z (noA b),e0.jf,e0.frf⟩,
  rfl,e0.bare,Un.kept hk,⟨_,x.toInCall.ns,λi y v h1 h2 h3=>?_⟩,λy c h=>⟨_,x.cell y c h⟩,e0.hok.fresh (OT _),λy c h=>?_,λp hp=>absurd (show p∈([]:List (Addr×Obj)) from hp) (by simp),e0.hok.kept hk,?_⟩
 ·exact name_of_addr x.apart (SH h1) (SH h2)
 ·have hy:scope.names.lookup y=some .cell\/scope.names.lookup y=some .free:=hy
  rcases hy with hy | hy
  ·exact qJ hy
  ·exact absurd rfl (S.nofree _ (SH hy))
 ·exact QC (x.above y c (SH h))
 ·have hi:i<vs.length:=by
   unfold start at h2
   by_cases hi:i<vs.length
   ·exact hi
   ·rw [Rx (by simpa using hi)] at h2
    rw [List.getElem?_replicate] at h2
    split at h2 <;> cases h2
  have ha:vs[i]?=some v:=by
   unfold start at h2
   rw [Q4 (by simpa using hi),O8] at h2
   cases e:vs[i]? with
   | none=>rw [e] at h2; cases h2
   | some a=>rw [e] at h2; cases h2; rfl
  obtain ⟨u,hu,rv⟩:=r.get ha
  have hp:ps[i]?=some y:=by
   rw [<- S.pre,TJ (by lia)]; exact h1
  have ndP:ps.Nodup:=by rw [<- S.pre]; exact S.nd.sublist (T4 _ _)
  refine ⟨u,rv,?_⟩
  rcases S.par y (QG hp) with k | k
  ·exact .inl ⟨k,nh ndP hp hu k⟩
  ·obtain ⟨c,e⟩:=qJ (n:=s.heap.objs.size+1) k
   refine .inr ⟨.inl k,c,e,?_⟩
   have q:=x.cell y c e
   rw [ni ndP hp hu (by show scope.names.lookup y≠_; rw [k]; decide)] at q
   exact q
 ·exact e0.hok.fresh (QC (x.above y c (SH h)))
 ·unfold start
  show _=N.length
  rw [Pr,OW,List.length_replicate]
  lia
theorem zW {K:OR} {dV kV doc pm cdv ct oc:Value}
 (lk:K.lookup f=some ⟨oc,od,.func (Q0 name qual params body scope dV kV doc pm an cdv ct),osl⟩) (hcd:Uj K cdv qual=true) (S:oU N ps scope)
  (len:∀ vs H Q E,sp vs H Q E->vs.length=ps.length)
  (hbody:∀ (A:Around) (outer:List Env) (s:Shared) (H:Hp) (vs:List V) (Q:VK) (E:XK),gK k (A.deeper (envOfC qual scope s.heap.objs.size f cdv))->sp vs H Q E ->
    ∃ t,tH (qI CX P w K mg base N qual scope f cdv A outer s H E) body t/\t { nx:=λ_ H'=>Q .non H',rt:=Q } (start N vs) H) :
  bh P w K mg base CX (k+1) f (Q0 name qual params body scope dV kV doc pm an cdv ct) ps sp:=by
  refine ⟨len,λA outer s H args us vs Q E hr e0 hb r vq=>?_⟩
  have hl:=len _ _ _ _ vq
  have KX:K.In s.heap:=e0.mod.kin.keeps λb o e=>(e0.bs b o e).1
  have lim:s.heap.NoLimit:=e0.mod.nolimit.keeps λb o e=>(e0.bs b o e).1
  have hkind:∀ y∈ps.zip us,scope.names.lookup y.1=some .local\/(scope.names.lookup y.1=some .cell/\((cellsFrom (s.heap.objs.size+1) scope.names []).lookup y.1).isSome=true):=λ⟨n,v⟩ hy=>by
   rcases S.par n (List.of_mem_zip hy).1 with q | q
   ·exact .inl q
   ·exact .inr ⟨q,PySem.W.cellsFrom_some _ _ _ (.inl q)⟩
  refine codeAny_call_function hr.depth (KX _ _ lk) rfl S.co S.gen rfl (PySem.W.codeRec_of KX hcd) (hb _ _ _ _ ?_)
  refine wpAny_newFunctionEnv_cells S.kind hkind λenv he s1 x=>?_
  subst he
  refine ⟨lim.keeps x.toInCall.keep,codeAny_func ?_⟩
  obtain ⟨t,ht,hq⟩:=hbody A outer s H vs Q E (hr.deeper _) vq
  have I:Inv (qI CX P w K mg base N qual scope f cdv A outer s H E) [] (start N vs) H s1:=ya S hr.hd e0 hl r x
  refine P1 (ht [] s1 (start N vs) H _ I hq) (λfl s' hs=>?_) λe s' hs=>hs
  have fin:∀ {σ':St} {H':Hp} {v:V} {u:Value},Inv (qI CX P w K mg base N qual scope f cdv A outer s H E) [] σ' H' s'->RelV v u->Q v H'->CE outer P w H s Q u s' :=
   λ{σ' H' v u} J rv q=>⟨v,H',J.os,J.bare,J.base,J.hok,rv,q⟩
  cases fl with
  | ret u =>
   obtain ⟨v,σ',H',J,rv,q⟩:=hs
   exact fin J rv q
  | next =>
   obtain ⟨σ',H',J,q⟩:=hs
   exact fin (v:=V.non) (u:=Qy) J rfl q
  | brk =>
   obtain ⟨_,_,_,q⟩:=hs
   exact Qi q
  | cont =>
   obtain ⟨_,_,_,q⟩:=hs
   exact Qi q
section
variable {id T:String}
noncomputable def Of (r:List V->Hp->VK->Prop) (t:TA):TE:=λσ H Q=>t σ H λvs H1=>r vs H1 Q
theorem zX (hc:fR X (.builtin id) r) (hg:Gl X x) (hm:X.mg x=none) (hv:bootBuiltins x=some (.builtin id)) (ha:PA X (e::es) t) (hn:x≠"__name__":=by decide) (hdb:(x == ("__debug__":Str))=false:=by decide)
 (he:starEach (e::es) X.env=(false,eval e X.env)::starEach es X.env:=by rfl) (hpl:(backTo pos (starEach es X.env)).any (·.1)=false:=by rfl):PE X (.Call (.Name x p) (e::es) [] pos) (Of r t):=by
 intro aa s σ H Q I h
 refine Q8 (d7 I hg hm hv ?_ hn hdb)
 exact VG (bJ (ha pos aa s σ H _ I h) λus s1 ⟨vs,H1,I1,r1,q1⟩=>hc aa s1 σ H1 vs us Q I1 r1 q1) he hpl
theorem nj (hc:fR X (.type T) r) (hg:Gl X x) (hm:X.mg x=none) (hv:bootBuiltins x=some (.type T)) (ha:PA X (e::es) t) (hn:x≠"__name__":=by decide) (hdb:(x == ("__debug__":Str))=false:=by decide)
 (he:starEach (e::es) X.env=(false,eval e X.env)::starEach es X.env:=by rfl) (hpl:(backTo pos (starEach es X.env)).any (·.1)=false:=by rfl):PE X (.Call (.Name x p) (e::es) [] pos) (Of r t):=by
 intro aa s σ H Q I h
 refine Q8 (d7 I hg hm hv ?_ hn hdb)
 exact Sy (bJ (ha pos aa s σ H _ I h) λus s1 ⟨vs,H1,I1,r1,q1⟩=>hc aa s1 σ H1 vs us Q I1 r1 q1) he hpl
end
end L2
namespace HT
open PySem PyProof.Rows
noncomputable def lexLt:List Int->List Int->Bool
 | [],[]=>false
 | [],_::_=>true
 | _::_,[]=>false
 | x::xs,y::ys=>if x=y then lexLt xs ys else decide (x<y)
theorem cP (x y) (xs ys):lexLt (x::xs) (y::ys)=if x=y then lexLt xs ys else decide (x<y):=rfl
theorem mJ:lexLt [] []=false:=rfl
theorem kC (y) (ys):lexLt [] (y::ys)=true:=rfl
theorem kD (x) (xs):lexLt (x::xs) []=false:=rfl
theorem zY (A:Around) (s) (a) (t:Tok) (c) (u:Tok):∃ e,Ph A s (.int a t) (.int c u) e/\(e=true↔a=c) :=
 ⟨(a == c),Ph.int_int a t c u,by simp⟩
theorem zZ (A:Around) (s) (a) (t:Tok) (c) (u:Tok) (prog) (w) (E) (Q) (h:Q (.bool (decide (a<c))) s) :
 wpAny (model prog w) A (richCompare .Lt (.int a t) (.int c u)) Q E s :=
 (PyProof.Rows.lt_int h:wpAny (model prog w) A (compareOp .Lt (.int a t) (.int c u)) Q E s)
section
open PySem.SeqAt
open PySem.AutoSeq1 (wpAny_loadPart')
open PySem.MeetsSeq PySem.MeetsSeq2 PySem.MeetsSeq3
theorem mK (l b) (items items2) (n n2) (dd dd2) (sl sl2) (ns ms) (hi:IntsAre items.toList ns) (hj:IntsAre items2.toList ms) :
 Meets (Builtin.«tuple.__lt__» ⟨[.ref l,.ref b],[]⟩)
  (λ_ R s=>s.heap.get? l=some { cls:=.type "tuple",dict:=dd,data:=.seq items n,slots:=sl }/\s.heap.get? b=some { cls:=.type "tuple",dict:=dd2,data:=.seq items2 n2,slots:=sl2 } /\
    R (.ok (.ret (.bool (lexLt ns ms)))) s) :=
 .of_wp λprog w A R s h=>by
  obtain ⟨hp,g,d,tk,os⟩:=s; obtain ⟨hl,hb,h⟩:=h
  have f2:=AutoSeq1.sub_tuple_tuple
  have z1:items.size=ns.length:=by rw [<- hi.length]; simp
  have z2:items2.size=ms.length:=by rw [<- hj.length]; simp
  wp_walk using wpAny_loadPart' hl,wpAny_loadPart' hb,wpAny_forIn_list _ (λrest b s'=>b.1=none/\s'=⟨hp,g,d,tk,os⟩/\∃ (vs ws:List Value) (ns' ms':List Int),rest=vs.zip ws /\
   IntsAre vs ns'/\IntsAre ws ms'/\ns'.length+items2.size=ms'.length+items.size/\R (.ok (.ret (.bool (lexLt ns' ms')))) ⟨hp,g,d,tk,os⟩) _
  case turn =>
   rintro ⟨y,x⟩ rest b s' ⟨hb',rfl,vs,ws,ns',ms',hz,hvi,hwi,hlen,hR⟩
   cases hvi with
   | nil=>rw [List.zip_nil_left] at hz; cases hz
   | cons a t hvi' =>
    cases hwi with
    | nil=>rw [List.zip_nil_right] at hz; cases hz
    | cons c u hwi' =>
     rw [List.zip_cons_cons] at hz
     injection hz with hyx hrest
     injection hyx with hy hx
     subst hy hx
     rw [cP] at hR
     simp only [Pu] at hlen
     obtain ⟨e,he,hiff⟩:=zY A.in1 ⟨hp,g,d,tk,os⟩ a t c u
     refine OQ (he prog w _ _ ?_)
     cases e with
     | true =>
      rw [if_pos (hiff.mp rfl)] at hR
      wp_walk
      exact ⟨rfl,rfl,_,_,_,_,hrest,hvi',hwi',by lia,hR⟩
     | false =>
      rw [if_neg (λq=>absurd (hiff.mpr q) O5)] at hR
      have hri:=zZ A.in1 ⟨hp,g,d,tk,os⟩ a t c u prog w
      wp_walk using hri
      exact ⟨_,rfl,by simpa using hR⟩
  case fin =>
   rintro ⟨b1,b2⟩ s' ⟨hb',rfl,vs,ws,ns',ms',hz,hvi,hwi,hlen,hR⟩
   simp only at hb'
   subst hb'
   have hv:lexLt ns' ms'=decide (items.size<items2.size):=by
    cases hvi with
    | nil =>
     cases hwi with
     | nil =>
      simp only [QK] at hlen
      rw [mJ]
      exact (decide_eq_false (by lia)).symm
     | cons c u hw =>
      simp only [QK,Pu] at hlen
      rw [kC]
      exact (decide_eq_true (by lia)).symm
    | cons a t hv =>
     cases hwi with
     | nil =>
      simp only [QK,Pu] at hlen
      rw [kD]
      exact (decide_eq_false (by lia)).symm
     | cons c u hw =>
      rw [List.zip_cons_cons] at hz
      cases hz
   rw [hv] at hR
   wp_walk
   exact ⟨_,rfl,by simpa [Builtin.Tuple.tupleCompareSizes] using hR⟩
  case h =>
   exact ⟨rfl,rfl,items.toList,items2.toList,ns,ms,rfl,hi,hj,by lia,h⟩
end
theorem tW (hl:IsTup s.heap l items) (hb:IsTup s.heap b items2) (hi:IntsAre items.toList ns) (hj:IntsAre items2.toList ms)
 (hu:A.units<cLine) (h:Q (.bool (lexLt ns ms)) s):wpAny (model prog w) A (compareOp .Lt (.ref l) (.ref b)) Q E s:=by
 obtain ⟨⟨cls,dd,data,sl⟩,ho,hc,n,hd⟩:=id hl
 obtain ⟨⟨cls2,dd2,data2,sl2⟩,ho2,hc2,n2,hd2⟩:=id hb
 simp only at hc hd hc2 hd2
 subst hc hd hc2 hd2
 exact richCompare_meets_room (op:=.Lt) ⟨_,ho,rfl⟩ ⟨_,ho2,rfl⟩ PySem.F.slot_tuple_lt PySem.F.entry_tuple_lt (PySem.F.args_tuple_lt_2 _ _) (mK l b items items2 n n2 dd dd2 sl sl2 ns ms hi hj)
  ⟨ho,ho2,show Value.bool (lexLt ns ms)≠Value.notImplemented/\Q (.bool (lexLt ns ms)) s from ⟨(λx=>nomatch x),h⟩⟩ hu
noncomputable def cy (n d:Nat):Option Int->Nat
 | none=>d
 | some v=>if v<0 then (v+(n:Int)).toNat else min v.toNat n
theorem HM (n d) (hd:d<=n) (o):cy n d o<=n:=by
 cases o with
 | none=>exact hd
 | some v =>
  show (if v<0 then (v+(n:Int)).toNat else min v.toNat n)<=n
  by_cases hv:v<0
  ·rw [if_pos hv]; lia
  ·rw [if_neg hv]; exact Nat.min_le_right _ _
theorem vE (v) (n d:Nat):(if v<0 then max (v+(n:Int)) 0 else min v (n:Int))=((cy n d (some v):Nat):Int):=by
 show (if v<0 then max (v+(n:Int)) 0 else min v (n:Int))=(((if v<0 then (v+(n:Int)).toNat else min v.toNat n):Nat):Int)
 by_cases hv:v<0
 ·simp only [if_pos hv]; lia
 ·simp only [if_neg hv]; lia
theorem tX (lo hi) (n:Nat):UI lo hi 1 (n:Int)=(((cy n 0 lo:Nat):Int),((cy n n hi:Nat):Int)):=by
 have h1:¬ ((1:Int)<0):=by lia
 unfold UI
 simp only [h1,if_false]
 refine Prod.ext ?_ ?_
 ·cases lo with
  | none=>rfl
  | some v=>exact vE v n 0
 ·cases hi with
  | none=>rfl
  | some v=>exact vE v n n
theorem tY (i j:Nat):TH (i:Int) (j:Int) 1=j - i:=by
 unfold TH
 have h1:(1:Int)>0:=by lia
 simp only [h1,if_true,Int.ediv_one]
 split <;> lia
theorem kE (p:IsPart v o) (h:Q o s):wpAny (model prog w) A (Builtin.Slice.slicePartIndex v) Q E s:=by
 cases p with
 | none=>exact slicePart_none h
 | int i t=>exact slicePart_int h
theorem eU {sl:Addr} {vl vu:Value} {lo hi:Option Int} {n:Nat} {Q:Int×Int×Nat->Shared->Prop} (hs:s.heap.IsSliceOf sl vl vu .none) (pl:IsPart vl lo) (pu:IsPart vu hi)
 (h:Q (((cy n 0 lo:Nat):Int),1,cy n n hi - cy n 0 lo) s):wpAny (model prog w) A (Builtin.Slice.sliceApplied (.ref sl) (pure (n:Int))) Q E s:=by
 obtain ⟨os,hos,hcs,hds⟩:=id hs
 unfold Builtin.Slice.sliceApplied Builtin.Slice.sliceFields
 refine OQ (OQ (P7 hos hds (x:=vl) rfl (OQ (P7 hos hds (x:=vu) rfl (OQ (P7 hos hds (x:=.none) rfl (OS ?_)))))))
 refine OQ (slicePart_none ?_)
 show wpAny _ _ (if ((1:Int) == 0)=true then _ else _) _ _ s
 rw [if_neg (by decide)]
 refine OQ (kE pl (OQ (kE pu (OQ (OS ?_)))))
 show wpAny _ _ (match UI lo hi 1 (n:Int) with | (lo,hi)=>pure (lo,(1:Int),TH lo hi 1)) _ _ s
 rw [tX lo hi n]
 show wpAny _ _ (pure (((cy n 0 lo:Nat):Int),(1:Int),TH ((cy n 0 lo:Nat):Int) ((cy n n hi:Nat):Int) 1)) _ _ s
 rw [tY]
 exact OS h
theorem Aa (xs:Array Value) (i k:Nat):((Pc k).filterMap λ(m:Nat)=>xs[((i:Int)+(m:Int) * 1).toNat]?).toArray=((xs.toList.drop i).take k).toArray:=by
 have e:(λ(m:Nat)=>xs[((i:Int)+(m:Int) * 1).toNat]?)=λm=>xs[i+m]?:=by
  funext m
  have:((i:Int)+(m:Int) * 1).toNat=i+m:=by lia
  rw [this]
 rw [e]
 have:=pick_run xs i k
 rw [List.filterMap_map] at this
 have e2:((λx=>xs[x]?)∘λx=>i+x)=λm=>xs[i+m]?:=rfl
 rw [e2] at this
 rw [this]
theorem iH {lo hi:Option Int} (ht:IsTup s.heap t items) (hs:s.heap.IsSliceOf sl vl vu .none) (pl:IsPart vl lo) (pu:IsPart vu hi)
 (hw:¬ (cy items.size 0 lo=0/\cy items.size items.size hi=items.size))
 (h:Q (.ref s.heap.objs.size) { s with heap:=s.heap.push { cls:=.type "tuple",data:=.seq ((items.toList.drop (cy items.size 0 lo)).take (cy items.size items.size hi - cy items.size 0 lo)).toArray } })
 (hsz:items.size<=sizeLine):wpAny (model prog w) A (getItem (.ref t) (.ref sl)) Q E s:=by
 have htake:sizeOk (.seq ((items.toList.drop (cy items.size 0 lo)).take (cy items.size items.size hi - cy items.size 0 lo)).toArray):=by
  show ((items.toList.drop (cy items.size 0 lo)).take (cy items.size items.size hi - cy items.size 0 lo)).toArray.size<=sizeLine
  rw [Pg,PZ,Sf,P4]
  lia
 have hj:cy items.size items.size hi<=items.size:=HM _ _ (OT _) hi
 obtain ⟨os,hos,hcs,hds⟩:=id hs
 have hTs:s.TypeIs (.ref sl) "slice":=⟨os,hos,hcs⟩
 unfold getItem
 try with_reducible refine Qx ?_
 first | refine OQ (OS ?_) | skip
 refine OQ (Vf ht.typeIs (by decide) ?_)
 refine OQ (Rj (name:=OP "__getitem__") ht.typeIs RS
  (QV RS ht.typeIs entry_tuple_getitem ?_ (args_tuple_getitem _ _)))
 show wpAny _ _ (Builtin.Tuple.tupleItemsOf (.ref t) >>= _) _ _ s
 refine OQ (tupleItemsOf_ ht ?_)
 refine OQ (Rq hTs ?_)
 rw [if_pos (by decide)]
 refine OQ (eU hs pl pu ?_)
 have hno:¬ ((((cy items.size 0 lo:Nat):Int) == 0 && (1:Int) == 1 && (cy items.size items.size hi - cy items.size 0 lo) == items.size)=true):=by
  intro q
  rw [Sg,Sg] at q
  have q1:((cy items.size 0 lo:Nat):Int)=0:=eq_of_beq q.1.1
  have q2:cy items.size items.size hi - cy items.size 0 lo=items.size:=eq_of_beq q.2
  exact hw ⟨by lia,by lia⟩
 show wpAny _ _ (if (((cy items.size 0 lo:Nat):Int) == 0 && (1:Int) == 1 && (cy items.size items.size hi - cy items.size 0 lo) == items.size)=true then _ else _) _ _ s
 rw [if_neg hno,Aa]
 first
  | exact OQ (m:=TM _) (Qu (OS ⟨_,rfl,OS h⟩) htake)
  | exact OQ (m:=TM _) (Qu (OQ (OS (OS ⟨_,rfl,OS h⟩))) htake)
  | exact OQ (OQ (m:=TM _) (Qu (OS (OS ⟨_,rfl,OS h⟩)) htake))
  | exact OQ (OQ (m:=TM _) (Qu (OS ⟨_,rfl,OS h⟩) htake))
end HT
namespace L2
open PySem PySem.Spec PyProof.Rows
noncomputable abbrev TO:=St->Hp->(Option Int->Hp->Prop)->Prop
def PO (X:Cx) (e:Option Expr) (t:TO):Prop :=
 ∀ (aa:List (Addr×Obj)) (s:Shared) (σ:St) (H:Hp) (Q:Option Int->Hp->Prop),Inv X aa σ H s->t σ H Q ->
  wpAny (model X.prog X.w) X.A (evalPart e X.env) (λu s'=>∃ o H',Inv X aa σ H' s'/\IsPart u o/\Q o H') X.xe s
noncomputable def DH:TO:=λ_ H Q=>Q none H
noncomputable def KY (t:TE):TO:=λσ H Q=>t σ H λx H1=>∃ i,x=.int i/\Q (some i) H1
theorem intsAre_of:∀ {us:List Value},Vals (ns.map V.int) us->IntsAre us ns:=by
 induction ns with
 | nil=>intro us r; rw [Rh] at r; cases r; exact .nil
 | cons n ns ih =>
  intro us r
  rw [O4] at r
  cases r with
  | cons r1 r2 =>
   obtain ⟨t,e⟩:=r1
   subst e
   exact .cons n t (ih r2)
section
variable {lo hi:Option Expr}
theorem DI:PO X none DH:=by
 intro aa s σ H Q I h
 rw [evalPart_none]
 exact OS ⟨none,H,I,.none,h⟩
theorem DJ (h:PE X e te):PO X (some e) (KY te):=by
 intro aa s σ H Q I hw
 rw [evalPart_some]
 refine bJ (h aa s σ H _ I hw) λu s1 ⟨x,H1,I1,r1,q1⟩=>?_
 obtain ⟨i,rfl,q⟩:=q1
 obtain ⟨t,rfl⟩:=r1
 exact ⟨some i,H1,I1,.int i t,q⟩
def Dm (X:Cx) (r:V->Option Int->Option Int->Hp->VK->Prop):Prop :=
 ∀ (aa:List (Addr×Obj)) (s:Shared) (σ:St) (H:Hp) (x:V) (v vl vu:Value) (lo hi:Option Int) (sl:Addr) (Q:VK),Inv X aa σ H s->RelV x v->s.heap.IsSliceOf sl vl vu .none->IsPart vl lo->IsPart vu hi->r x lo hi H Q ->
  ∃ T id,typeLookup (.type T) "__getitem__"=pure (some (.builtin id))/\s.TypeIs v T/\wpAny (model X.prog X.w) X.A (getItem v (.ref sl)) (EP X aa σ Q) X.xe s
theorem Dm.or (h:Dm X r) (h':Dm X r'):Dm X (λx lo hi H Q=>r x lo hi H Q\/r' x lo hi H Q):=by
 intro aa s σ H x v vl vu lo hi sl Q I rx hs pl pu q
 rcases q with q | q
 ·exact h aa s σ H x v vl vu lo hi sl Q I rx hs pl pu q
 ·exact h' aa s σ H x v vl vu lo hi sl Q I rx hs pl pu q
noncomputable def OE (r:V->Option Int->Option Int->Hp->VK->Prop) (te:TE) (tl th:TO):TE:=λσ H Q=>te σ H λx H1=>tl σ H1 λl H2=>th σ H2 λu H3=>r x l u H3 Q
theorem Ab (hr:Dm X r) (he:PE X e te) (hl:PO X lo tl) (hu:PO X hi th):PE X (.Subscript e (.Slice lo hi none p2) pos) (OE r te tl th):=by
 intro aa s σ H Q I h
 refine Subscript_ (bJ (he aa s σ H _ I h) λv s1 ⟨x,H1,I1,r1,q1⟩=>?_)
 refine wpAny_Slice (bJ (hl aa s1 σ H1 _ I1 q1) λvl s2 ⟨l,H2,I2,pl,q2⟩=>bJ (hu aa s2 σ H2 _ I2 q2) λvu s3 ⟨u,H3,I3,pu,q3⟩=>?_)
 rw [evalPart_none]
 refine OS ?_
 have I4:Inv X aa σ H3 { s3 with heap:=s3.heap.push { cls:=.type "slice",data:=.fields #[vl,vu,.none] } }:=I3.kept (t':=s3.toks) λb ob q=>OX _ q
 obtain ⟨T,id,hT,ht,hg⟩:=hr aa { s3 with heap:=s3.heap.push { cls:=.type "slice",data:=.fields #[vl,vu,.none] } } σ H3 x v vl vu l u s3.heap.objs.size Q I4 r1 (Heap.IsSliceOf.new ..) pl pu q3
 show wpAny (model X.prog X.w) X.A (subscriptTail e (.Slice lo hi none p2) v (.ref s3.heap.objs.size)) (EP X aa σ Q) X.xe { s3 with heap:=s3.heap.push { cls:=.type "slice",data:=.fields #[vl,vu,.none] } }
 exact tail_any (ops:=[.ref s3.heap.objs.size,v]) ht hT hg (by walk_at "u")
noncomputable def oV (xs:List V) (lo hi:Option Int):List V:=(xs.drop (HT.cy xs.length 0 lo)).take (HT.cy xs.length xs.length hi - HT.cy xs.length 0 lo)
theorem jH (xs) (lo hi):(oV xs lo hi).length<=xs.length:=by
 unfold oV
 rw [PZ,Sf]
 lia
noncomputable def Nt (K:OR):V->Option Int->Option Int->Hp->VK->Prop:=λx lo hi H Q=>∃ a xs,x=.ref a/\cU K H a xs /\
 ¬ (HT.cy xs.length 0 lo=0/\HT.cy xs.length xs.length hi=xs.length)/\∀ p,H p=none->Q (.ref p) (upd H p (.tup (oV xs lo hi)))
theorem HN:Dm X (Nt X.K):=by
 intro aa s σ H x v vl vu lo hi sl Q I rx hs pl pu h
 obtain ⟨a,xs,rfl,hx,hw,q⟩:=h
 cases rx
 obtain ⟨its,r,ht,hz⟩:=I.tuple hx
 have hlen:its.toArray.size=xs.length:=by rw [Pg]; exact r.length.symm
 refine ⟨"tuple",_,RS.lookup,ht.typeIs,?_⟩
 refine HT.iH ht hs pl pu (by rw [hlen]; exact hw) ?_ (by rw [hlen]; exact hz)
 rw [hlen]
 refine ⟨.ref s.heap.objs.size,_,I.laid (t':=s.toks) (o:=.tup (oV xs lo hi)) (λb ob q=>OX _ q) (OT _) ?_,rfl,q _ (I.hok.fresh (OT _))⟩
 exact ⟨O3 (jH xs lo hi) hz,_,(r.drop (HT.cy xs.length 0 lo)).take (HT.cy xs.length xs.length hi - HT.cy xs.length 0 lo),IsTup.new _ _⟩
theorem Vals.vF (r:Vals xs us):us=[]↔xs=[]:=by
 cases r with
 | nil=>simp
 | cons _ _=>simp
end
noncomputable def Kl (n:Nat) (i:Int):Option Nat:=if 0<=i then (if i<n then some i.toNat else none) else if -(n:Int)<=i then some (i+n).toNat else none
noncomputable def jS {α:Type} (xs:List α) (i:Int):Option α:=(Kl xs.length i).bind λj=>xs[j]?
theorem DK (h:Kl n i=some j):seqIndex? i n=some j/\j<n/\ -(n:Int)<=i/\i<n:=by
 unfold Kl at h
 by_cases h0:0<=i
 ·rw [if_pos h0] at h
  by_cases h1:i<n
  ·rw [if_pos h1] at h
   have e:i.toNat=j:=QI h
   exact ⟨by rw [seqIndex_of h0 h1,e],by lia,by lia,h1⟩
  ·rw [if_neg h1] at h; cases h
 ·rw [if_neg h0] at h
  by_cases h1: -(n:Int)<=i
  ·rw [if_pos h1] at h
   have e:(i+n).toNat=j:=QI h
   exact ⟨by rw [seqIndex_neg (by lia) h1,e],by lia,h1,by lia⟩
  ·rw [if_neg h1] at h; cases h
theorem vG (h:jS xs i=some v):∃ j,seqIndex? i xs.length=some j/\xs[j]?=some v/\j<xs.length/\ -(xs.length:Int)<=i/\i<xs.length:=by
 unfold jS at h
 cases e:Kl xs.length i with
 | none=>rw [e] at h; cases h
 | some j =>
  rw [e] at h
  obtain ⟨h1,h2,h3,h4⟩:=DK e
  exact ⟨j,h1,h,h2,h3,h4⟩
def jY (b:Expr):Prop:=∀ o i,subscripted b false o i=operate [o,i] (getItem o i)
def Gg (X:Cx) (r:R2):Prop :=
 ∀ (value slice:Expr) (aa:List (Addr×Obj)) (s:Shared) (σ:St) (H:Hp) (x y:V) (v u:Value) (Q:VK),Inv X aa σ H s->RelV x v->RelV y u->r x y H Q ->
  subscripted slice false v u=operate [v,u] (getItem v u)->wpAny (model X.prog X.w) X.A (subscriptTail value slice v u) (EP X aa σ Q) X.xe s
def Nu (X:Cx) (id:String) (r:V->List V->Hp->VK->Prop):Prop :=
 ∀ (aa:List (Addr×Obj)) (s:Shared) (σ:St) (H:Hp) (x:V) (xs:List V) (v:Value) (us:List Value) (Q:VK),Inv X aa σ H s->RelV x v->Vals xs us->r x xs H Q ->
  wpAny (model X.prog X.w) X.A (call (.builtin id) (v::us)) (EP X aa σ Q) X.xe s
section
theorem Gg.or (h:Gg X r) (h':Gg X r'):Gg X (λx y H Q=>r x y H Q\/r' x y H Q):=by
 intro value slice aa s σ H x y v u Q I rx ry q hs
 rcases q with q | q
 ·exact h value slice aa s σ H x y v u Q I rx ry q hs
 ·exact h' value slice aa s σ H x y v u Q I rx ry q hs
theorem KZ (hr:Gg X r) (ha:PE X a ta) (hb:PE X b tb) (hs:jY b):PE X (.Subscript a b pos) (MI r ta tb):=by
 intro aa s σ H Q I h
 exact Subscript_ (Hx ha hb I h λv u s2 x y H2 I2 rx ry q=>hr a b aa s2 σ H2 x y v u Q I2 rx ry q (hs _ _))
noncomputable def Nv (K:OR):R2:=λx y H Q=>∃ p xs i v,x=.ref p/\y=.int i/\fQ K H p xs/\jS xs i=some v/\Q v H
noncomputable def Ny (K:OR):R2:=λx y H Q=>∃ p xs i v,x=.ref p/\y=.int i/\cU K H p xs/\jS xs i=some v/\Q v H
theorem DL:Gg X (Nv X.K):=by
 intro value slice aa s σ H x y v u Q I rx ry h hs
 obtain ⟨p,xs,i,z,rfl,rfl,hq,he,q⟩:=h
 cases rx
 obtain ⟨t,rfl⟩:=ry
 obtain ⟨its,r,pl,hz⟩:=I.list hq
 obtain ⟨j,h1,h2,h3,h4,h5⟩:=vG he
 obtain ⟨w,ew,rw'⟩:=r.get h2
 have hl:=r.length
 have hn:=oS
 have fin:EP X aa σ Q w s:=⟨z,H,I,rw',q⟩
 by_cases h0:0<=i
 ·have hj:i.toNat=j:=by
   rw [seqIndex_of h0 h5] at h1
   exact QI h1
  exact item_listR pl.isList h0 (by lia) (by rw [hj]; simpa using ew) fin hs
 ·have hj:(i+(its.toArray.size:Int)).toNat=j:=by
   rw [seqIndex_neg (by lia) h4] at h1
   rw [Pg,<- hl]
   exact QI h1
  exact subscriptTail_builtinR (x:=w) pl.isList.typeIs slot_list_getitem.lookup
   (wpAny_getItem_list_neg (Q:=λr s'=>r=w/\EP X aa σ Q r s') pl.isList (by lia) (by rw [Pg] <;> lia) (by lia) (by rw [hj]; simpa using ew) ⟨rfl,fin⟩) hs
theorem HP:Gg X (Ny X.K):=by
 intro value slice aa s σ H x y v u Q I rx ry h hs
 obtain ⟨p,xs,i,z,rfl,rfl,hq,he,q⟩:=h
 cases rx
 obtain ⟨t,rfl⟩:=ry
 obtain ⟨its,r,pl,hz⟩:=I.tuple hq
 obtain ⟨j,h1,h2,h3,h4,h5⟩:=vG he
 obtain ⟨w,ew,rw'⟩:=r.get h2
 have hl:=r.length
 have hn:=oS
 have fin:EP X aa σ Q w s:=⟨z,H,I,rw',q⟩
 exact subscriptTail_builtinR (x:=w) pl.typeIs slot_tuple_getitem.lookup
  (getItem_tuple (j:=j) (Q:=λr s'=>r=w/\EP X aa σ Q r s') pl (by lia) (by lia) (by rw [Pg,<- hl]; exact h1) (by simpa using ew) ⟨rfl,fin⟩) hs
theorem oW (lo hi) (n):(sliceBounds lo hi none n).1=((HT.cy n 0 lo:Nat):Int)/\(sliceBounds lo hi none n).2.1=((HT.cy n n hi:Nat):Int)/\(sliceBounds lo hi none n).2.2=1:=by
 refine ⟨?_,?_,rfl⟩
 ·cases lo with
  | none=>simp [sliceBounds,HT.cy]
  | some i =>
   simp only [sliceBounds,HT.cy,Option.getD_none,show (1:Int)>0 by decide,if_true]
   by_cases h:i<0
   ·simp only [h,if_true] <;> lia
   ·simp only [h,if_false] <;> lia
 ·cases hi with
  | none=>simp [sliceBounds,HT.cy]
  | some i =>
   simp only [sliceBounds,HT.cy,Option.getD_none,show (1:Int)>0 by decide,if_true]
   by_cases h:i<0
   ·simp only [h,if_true] <;> lia
   ·simp only [h,if_false] <;> lia
theorem mP (its:List Value) (lo hi):slicePick its.toArray lo hi none=((its.drop (HT.cy its.length 0 lo)).take (HT.cy its.length its.length hi - HT.cy its.length 0 lo)).toArray:=by
 obtain ⟨h1,h2,h3⟩:=oW lo hi its.toArray.size
 unfold slicePick
 rw [h1,h2,h3]
 simp only [sliceRange_one,pick_run,Pg] <;> rfl
noncomputable def Nz (K:OR):V->Option Int->Option Int->Hp->VK->Prop:=λx lo hi H Q=>∃ a xs,x=.ref a/\fQ K H a xs/\∀ p,H p=none->Q (.ref p) (upd H p (.lst (oV xs lo hi)))
theorem DM:Dm X (Nz X.K):=by
 intro aa s σ H x v vl vu lo hi sl Q I rx hs pl pu h
 obtain ⟨a,xs,rfl,hx,q⟩:=h
 cases rx
 obtain ⟨its,r,ht,hz⟩:=I.list hx
 have hlen:=r.length
 refine ⟨"list",_,slot_list_getitem.lookup,ht.isList.typeIs,?_⟩
 refine wpAny_getItem_list_slice ht.isList hs pl pu .none (by simp) ?_ (by rw [Pg] <;> lia)
 rw [mP,<- hlen]
 refine ⟨.ref s.heap.objs.size,_,I.laid (t':=s.toks) (o:=.lst (oV xs lo hi)) (λb ob q=>OX _ q) (OT _) ?_,rfl,q _ (I.hok.fresh (OT _))⟩
 exact ⟨O3 (jH xs lo hi) hz,_,0,(r.drop (HT.cy xs.length 0 lo)).take (HT.cy xs.length xs.length hi - HT.cy xs.length 0 lo),O7 _ rfl⟩
theorem oX:fR X (.builtin "len") (λxs H Q=>∃ p ys,xs=[.ref p]/\(fQ X.K H p ys\/cU X.K H p ys)/\Q (.int ys.length) H):=by
 intro aa s σ H xs us Q I r h
 obtain ⟨p,ys,rfl,hq,q⟩:=h
 obtain ⟨u,rfl,rx⟩:=vals1 r
 cases rx
 have hn:=oS
 rcases hq with hq | hq
 ·obtain ⟨its,r',pl,hz⟩:=I.list hq
  have hlen:=r'.length
  exact Calls.call_len_list pl.isList (by simp only [Pg] <;> lia) ⟨.int ys.length,H,I.tok _,⟨s.toks+1,by rw [Pg,hlen]⟩,q⟩
 ·obtain ⟨its,r',pl,hz⟩:=I.tuple hq
  have hlen:=r'.length
  exact len_tuple pl (by simp only [Pg] <;> lia) ⟨.int ys.length,H,I.tok _,⟨s.toks+1,by rw [Pg,hlen]⟩,q⟩
theorem oY:fR X (.type "list") (λxs H Q=>∃ p ys,xs=[.ref p]/\(fQ X.K H p ys\/cU X.K H p ys)/\∀ l,H l=none->Q (.ref l) (upd H l (.lst ys))):=by
 intro aa s σ H xs us Q I r h
 obtain ⟨p,ys,rfl,hq,q⟩:=h
 obtain ⟨u,rfl,rx⟩:=vals1 r
 cases rx
 have fin:∀ (its:List Value),Vals ys its->ys.length<=sizeLine->∀ (h':Heap) (c':Nat),(∀ b o',s.heap.get? b=some o'->h'.get? b=some o') ->
  h'.get? s.heap.objs.size=some { cls:=.type "list",dict:=none,data:=.seq its.toArray c',slots:= #[] }->EP X aa σ Q (.ref s.heap.objs.size) { s with heap:=h' }:=λits r' hz h' c' kp e =>
  ⟨.ref s.heap.objs.size,_,I.laid (t':=s.toks) kp (OT _) (show bx X.prog X.w _ h' _ (.lst ys) from ⟨hz,its,c',r',e⟩),rfl,q _ (I.hok.fresh (OT _))⟩
 rcases hq with hq | hq
 ·obtain ⟨its,r',pl,hz⟩:=I.list hq
  have hlen:=r'.length
  obtain ⟨o,ho,hc,n,hd⟩:=pl.isList
  exact call_list_seq p (.inl rfl) ho hc hd (λh' c' kp e=>fin its r' hz h' c' kp e) (by simp only [Pg] <;> lia)
 ·obtain ⟨its,r',pl,hz⟩:=I.tuple hq
  have hlen:=r'.length
  obtain ⟨o,ho,hc,n,hd⟩:=pl
  exact call_list_seq p (.inr rfl) ho hc hd (λh' c' kp e=>fin its r' hz h' c' kp e) (by simp only [Pg] <;> lia)
theorem mQ:fR X (.type "tuple") (λxs H Q=>∃ p ys,xs=[.ref p]/\((fQ X.K H p ys/\∀ l,H l=none->Q (.ref l) (upd H l (.tup ys)))\/(cU X.K H p ys/\Q (.ref p) H))):=by
 intro aa s σ H xs us Q I r h
 obtain ⟨p,ys,rfl,h⟩:=h
 obtain ⟨u,rfl,rx⟩:=vals1 r
 cases rx
 rcases h with ⟨hq,q⟩ | ⟨hq,q⟩
 ·obtain ⟨its,r',pl,hz⟩:=I.list hq
  have hlen:=r'.length
  refine call_tuple_list pl.isList (λh' kp=>?_) (by simp only [Pg] <;> lia)
  have I1:Inv X aa σ H { s with heap:=h' }:=I.kept (t':=s.toks) kp
  have I2:Inv X aa σ (upd H h'.objs.size (.tup ys)) { s with heap:=h'.push { cls:=.type "tuple",data:=.seq its.toArray } } :=
   I1.laid (t':=s.toks) (λb o e=>OX _ e) (OT _) (show bx X.prog X.w _ _ _ (.tup ys) from ⟨hz,its,r',IsTup.new _ _⟩)
  exact ⟨.ref h'.objs.size,_,I2,rfl,q _ (I1.hok.fresh (OT _))⟩
 ·obtain ⟨its,r',pl,hz⟩:=I.tuple hq
  exact call_tuple_same pl ⟨.ref p,H,I,rfl,q⟩
def NB (K:OR) (T:String) (x:V) (H:Hp):Prop:=match x with
 | .str _=>T="str"
 | .int _=>T="int"
 | .ref p=>(T="list"/\∃ xs,fQ K H p xs)\/(T="tuple"/\∃ o,K.lookup p=some o/\o.cls=.type "tuple"/\o.dict=none) \/
  (T="dict"/\((∃ kvs,H p=some (.dK kvs))\/∃ kvs,H p=some (.dT kvs)))\/(T="set"/\∃ S n,H p=some (.set S n))
 | _=>False
theorem Ac (I:Inv X aa σ H s) (r:RelV x v) (ty:NB X.K T x H) :
 s.TypeIs v T/\∀ a,v=.ref a->∃ ob,s.heap.get? a=some ob/\ob.dict=none:=by
 cases x with
 | str z =>
  obtain ⟨t,rfl⟩:=r
  cases (show T="str" from ty)
  exact ⟨typeIs_str s z t,λ_ e=>nomatch e⟩
 | int i =>
  obtain ⟨t,rfl⟩:=r
  cases (show T="int" from ty)
  exact ⟨typeIs_int s i t,λ_ e=>nomatch e⟩
 | ref p =>
  cases r
  rcases ty with ⟨rfl,xs,hq⟩ | ⟨rfl,o,hk,hc,hd⟩ | ⟨rfl,hk⟩ | ⟨rfl,S,n,hk⟩
  ·obtain ⟨its,_,pl,_⟩:=I.list hq
   refine ⟨pl.isList.typeIs,λa e=>?_⟩
   cases e
   obtain ⟨o,n,e,c,hd,_⟩:=pl
   exact ⟨o,e,hd⟩
  ·refine ⟨⟨o,I.Dl p o hk,hc⟩,λa e=>?_⟩
   cases e
   exact ⟨o,I.Dl _ o hk,hd⟩
  ·have z:∃ o,s.heap.get? p=some o/\o.ExactDict:=by
    rcases hk with ⟨kvs,hk⟩ | ⟨kvs,hk⟩
    ·obtain ⟨_,_,_,_,o,_,_,e,ex,_⟩:=I.hok p _ hk
     exact ⟨o,e,ex⟩
    ·obtain ⟨_,_,_,_,o,_,_,e,ex,_⟩:=I.hok p _ hk
     exact ⟨o,e,ex⟩
   obtain ⟨o,e,ex⟩:=z
   refine ⟨⟨o,e,ex.1⟩,λa e2=>?_⟩
   cases e2
   exact ⟨o,e,ex.2.1⟩
  ·obtain ⟨o,_,_,_,e,ex,_⟩:=I.hok p _ hk
   refine ⟨⟨o,e,ex.1⟩,λa e2=>?_⟩
   cases e2
   exact ⟨o,e,ex.2.1⟩
 | _=>exact Qi ty
noncomputable def NC (K:OR) (T:String) (r:V->List V->Hp->VK->Prop) (to:TE):TE:=λσ H Q=>to σ H λx H1=>NB K T x H1/\r x [] H1 Q
noncomputable def OF (K:OR) (T:String) (r:V->List V->Hp->VK->Prop) (to:TE) (t:TA):TE:=λσ H Q=>to σ H λx H1=>NB K T x H1/\t σ H1 λxs H2=>r x xs H2 Q
variable {T id:String}
theorem tZ (pa:PlainAttrs T) (slot:Slot T name id) (hty:typeOf (.builtin id)=pure (.type "method_descriptor")) (hm:Nu X id r) (ho:PE X o to)
 (hbase:attributeBase o name X.env (eval o X.env)=eval o X.env:=by rfl) (hline:(apos.endLine == cpos.line)=true:=by rfl):PE X (.Call (.Attribute o name apos) [] [] cpos) (NC X.K T r to):=by
 intro aa s σ H Q I h
 refine wpAny_Call_method0_late hbase hline (bJ (ho aa s σ H _ I h) λv s1 ⟨x,H1,I1,r1,ty,q1⟩=>?_)
 obtain ⟨h1,h2⟩:=Ac I1 r1 ty
 exact ⟨T,id,pa,slot,hty,h1,h2,UT rfl (U1 (hm aa s1 σ H1 x [] v [] Q I1 r1 .nil q1))⟩
theorem Gh (pa:PlainAttrs T) (slot:Slot T name id) (hty:typeOf (.builtin id)=pure (.type "method_descriptor")) (hm:Nu X id r) (ho:PE X o to) (ha:PA X (e::es) t)
 (hbase:attributeBase o name X.env (eval o X.env)=eval o X.env:=by rfl)
 (hfew:((backTo cpos (starEach (e::es) X.env)).all (λx=> !x.1) && (backToKw cpos (keywordEach [] X.env)).all (λx=>x.1.isSome)
   && decide ((e::es).length+([]:List Keyword).length+(if ([]:List Keyword).isEmpty then 0 else 1)<30))=true:=by rfl)
 (hline:(apos.endLine == cpos.line)=true:=by rfl) (hs:starEach (e::es) X.env=(false,eval e X.env)::starEach es X.env:=by rfl) (hplain:(backTo cpos (starEach es X.env)).any (·.1)=false:=by rfl) :
 PE X (.Call (.Attribute o name apos) (e::es) [] cpos) (OF X.K T r to t):=by
 intro aa s σ H Q I h
 refine wpAny_Call_method_late hbase hfew hline rfl (bJ (ho aa s σ H _ I h) λv s1 ⟨x,H1,I1,r1,ty,q1⟩=>?_)
 obtain ⟨h1,h2⟩:=Ac I1 r1 ty
 refine ⟨T,id,pa,slot,hty,h1,h2,?_⟩
 have hA:=ha cpos aa s1 σ H1 _ I1 q1
 rw [hs] at hA |-
 refine UT (by show (false || (backTo cpos (starEach es X.env)).any (·.1))=false; rw [hplain] <;> rfl) (Calls.evalArgs_plain ?_)
 exact bJ hA λus s2 ⟨vs,H2,I2,r2,q2⟩=>hm aa s2 σ H2 x vs v us Q I2 r1 r2 q2
end
def ND (X:Cx) (id:String) (r:V->List V->Hp->VK->Prop):Prop :=
 ∀ (aa:List (Addr×Obj)) (s:Shared) (σ:St) (H:Hp) (x:V) (xs:List V) (v:Value) (us:List Value) (Q:VK),Inv X aa σ H s->RelV x v->Vals xs us->r x xs H Q ->
  wpAny (model X.prog X.w) X.A (call (.builtin id) (v::us)) (EP X aa σ Q) X.xe s
theorem Vals.one:∀ {x:V} {us:List Value},Vals [x] us->∃ u,us=[u]/\RelV x u
 | _,_,.cons r .nil=>⟨_,rfl,r⟩
theorem Vals.zero:∀ {us:List Value},Vals [] us->us=[]
 | _,.nil=>rfl
theorem Vals.dropLast (h:Vals xs us):Vals xs.dropLast us.dropLast:=by
 induction h with
 | nil=>exact .nil
 | cons r t ih =>
  cases t with
  | nil=>exact .nil
  | cons q t'=>exact .cons r ih
theorem Vals.rep (h:Vals xs us):∀ k:Nat,Vals (Pq k xs).flatten (Pq k us).flatten
 | 0=>.nil
 | k+1=>by
  rw [Rl,Rl,Se,Se]
  exact Vals.append h (Vals.rep h k)
theorem t6 {α:Type} (l:List α):l.eraseIdx (l.length - 1)=l.dropLast:=by
 induction l with
 | nil=>rfl
 | cons a r ih =>
  cases r with
  | nil=>rfl
  | cons b r =>
   have e:(a::b::r).length - 1=((b::r).length - 1)+1:=by
    have h1:(a::b::r).length=r.length+2:=rfl
    have h2:(b::r).length=r.length+1:=rfl
    lia
   rw [e,List.eraseIdx_cons_succ,ih]
   all_goals rfl
theorem foldl_rep (its):∀ (k:Nat) (acc:List Value),
 Tt (λx1 x2=>x1++x2) acc.toArray (Pq k its.toArray)=(acc++(Pq k its).flatten).toArray
 | 0,acc=>by simp
 | k+1,acc=>by
  have e:acc.toArray++its.toArray=(acc++its).toArray:=by simp
  have e2:(acc++its)++(Pq k its).flatten=acc++(Pq (k+1) its).flatten:=by
   rw [Rl,Se,Pp]
  rw [<- e2,<- foldl_rep its k (acc++its),<- e,Rl,Ra]
theorem Inv.t8 {its its':List Value} (I:Inv X aa σ H s) (hH:H l=some (.lst xs))
 (e:s.heap.get? l=some { cls:=.type "list",data:=.seq its.toArray n }) (hf:f its.toArray=its'.toArray) (hv:Vals ys its') (hz:ys.length<=sizeLine) :
 Inv X aa σ (upd H l (.lst ys)) { s with heap:=s.heap.update l (QD f),toks:=t' }:=by
 have q:=PySem.IsL.update e f
 rw [hf] at q
 refine I.write (x:=l) (e:=l) (by rw [hH]; exact trivial) (.inl rfl) (λb' u hb hu=>(TU s.heap (QD f) (Pe hb)).trans hu) ⟨_,q⟩ ?_
 exact ⟨hz,its',_,hv,q⟩
theorem Inv.HQ (I:Inv X aa σ H s) (hv:Vals ys its) (hz:ys.length<=sizeLine) :
 Inv X aa σ (upd H s.heap.objs.size (.lst ys)) { s with heap:=s.heap.push { cls:=.type "list",data:=.seq its.toArray },toks:=t' } :=
 I.laid (λ_ _ q=>OX _ q) (OT _) ⟨hz,its,0,hv,O7 _ rfl⟩
theorem Inv.fresh (I:Inv X aa σ H s):H s.heap.objs.size=none:=I.hok.fresh (OT _)
theorem Inv.oZ (I:Inv X aa σ H s) (hH:H l=some (.lst xs)):xs.length<=sizeLine/\∃ (its:List Value) (n:Nat),Vals xs its/\xs.length=its.length/\s.heap.get? l=some { cls:=.type "list",data:=.seq its.toArray n }:=by
 obtain ⟨z,its,n,r,e⟩:=I.hok l _ hH
 exact ⟨z,its,n,r,r.length,e⟩
theorem Ad (h:n<=sizeLine):UN n=false:=by
 unfold UN
 exact decide_eq_false (by lia)
noncomputable def DN:V->List V->Hp->VK->Prop:=λx vs H Q=>∃ l xs y,x=.ref l/\vs=[y]/\H l=some (.lst xs)/\xs.length<sizeLine/\Q .non (upd H l (.lst (xs++[y])))
theorem nk:ND X "list.append" DN:=by
 intro aa s σ H x vs v us Q I rx rv h
 obtain ⟨l,xs,y,rfl,rfl,hH,hz,q⟩:=h
 cases rx
 obtain ⟨u,rfl,ru⟩:=rv.one
 obtain ⟨z,its,n,r,hl,e⟩:=I.oZ hH
 refine Ss F.slot_list_append ⟨_,e,rfl⟩ F.entry_list_append (F.args_list_append_2 _ _) (PySem.list_append l its.toArray n u (by rw [Pg]; lia)) ⟨e,?_⟩
 refine ⟨.non,_,I.t8 (its':=its++[u]) hH e (by simp) (r.append (.cons ru .nil)) ?_,rfl,q⟩
 rw [Pr,SD]
 lia
noncomputable def NF:V->List V->Hp->VK->Prop:=λx vs H Q=>∃ l xs y,x=.ref l/\vs=[]/\H l=some (.lst xs)/\xs[xs.length - 1]?=some y/\Q y (upd H l (.lst xs.dropLast))
theorem Ae:ND X "list.pop" NF:=by
 intro aa s σ H x vs v us Q I rx rv h
 obtain ⟨l,xs,y,rfl,rfl,hH,hy,q⟩:=h
 cases rx
 have hus:=rv.zero
 subst hus
 obtain ⟨z,its,n,r,hl,e⟩:=I.oZ hH
 obtain ⟨u,hu,ru⟩:=r.get hy
 have hy':its.toArray[its.toArray.size - 1]?=some u:=by
  show its.toArray[its.length - 1]?=some u
  rw [<- PN,<- hl]
  exact hu
 refine Ss F.slot_list_pop ⟨_,e,rfl⟩ F.entry_list_pop (F.args_list_pop_1 _) (MeetsSeq.list_pop_last l its.toArray n u hy' (by rw [Pg]; lia)) ⟨e,?_⟩
 refine ⟨y,_,I.t8 (its':=its.dropLast) hH e ?_ r.dropLast ?_,ru,q⟩
 ·show its.toArray.eraseIdxIfInBounds (its.toArray.size - 1)=its.dropLast.toArray
  rw [Pg,List.eraseIdxIfInBounds_toArray,t6]
 ·rw [List.length_dropLast]
  lia
noncomputable def NG:R2:=λx y H Q=>∃ l k xs,x=.ref l/\y=.int k/\H l=some (.lst xs)/\ -(2 ^ 63)<=k/\k<2 ^ 63/\xs.length * k.toNat<=sizeLine /\
 ∀ p,H p=none->Q (.ref p) (upd H p (.lst (Pq k.toNat xs).flatten))
theorem len_rep {α:Type} (xs:List α) (k):(Pq k xs).flatten.length=k * xs.length:=by
 induction k with
 | zero=>simp
 | succ k ih=>rw [Rl,Se,Pr,ih,Td,Nat.add_comm]
theorem HR:fm X (binaryOp .Mult) NG:=by
 intro aa s σ H x y v u Q I rx ry h
 obtain ⟨l,k,xs,rfl,rfl,hH,h1,h2,hz,q⟩:=h
 cases rx
 obtain ⟨t,rfl⟩:=ry
 obtain ⟨z,its,n,r,hl,e⟩:=I.oZ hH
 have hlen:its.toArray.size * k.toNat<=sizeLine:=by rw [Pg,<- hl]; exact hz
 have hcap:¬ its.toArray.size * k.toNat>(2 ^ 63 - 1) / 8:=by
  have:(sizeLine:Nat)<=(2 ^ 63 - 1) / 8:=by decide
  lia
 have hfit:¬ (!Builtin.List.listFitsIndex k)=true:=by
  rw [fitsIndex_both h1 h2]
  exact O5
 have hlong:¬ UN (its.toArray.size * k.toNat)=true:=by
  rw [Ad hlen]
  exact O5
 have hnew:Tt (λx1 x2=>x1++x2) #[] (Pq (if its.toArray.isEmpty=true then 0 else k.toNat) its.toArray)=(Pq k.toNat its).flatten.toArray:=by
  have f0:∀ m:Nat,Tt (λx1 x2=>x1++x2) #[] (Pq m its.toArray)=(Pq m its).flatten.toArray:=λm=>by
   have:=foldl_rep its m []
   rw [Ud] at this
   exact this
  rw [f0]
  cases its with
  | nil=>simp
  | cons a r'=>rw [if_neg (by simp)]
 refine wpAny_binaryOp_repeat_ref (T:="list") (U:="int") (by decide) ⟨_,e,rfl⟩ (λs'=>typeIs_int s' k t) noFill_list_mul F.fills_int_mul F.slot_int_rmul repeat_list F.slot_int_index.lookup
  (Ss F.slot_int_rmul (typeIs_int s k t) F.entry_int_rmul (F.args_int_rmul_2 _ _) (int___rmul___int_list k t l its.toArray n)
    ⟨e,rfl,⟨_,e,rfl⟩,Ss F.slot_list_mul ⟨_,e,rfl⟩ F.entry_list_mul (F.args_list_mul_2 _ _) (AutoListH.list___mul___list_int_3 l its.toArray n k t hfit hcap hlong) ⟨e,?_⟩⟩)
 rw [hnew]
 exact ⟨.ref _,_,I.HQ (t':=s.toks) (r.rep k.toNat) (by rw [len_rep,Nat.mul_comm]; exact hz),rfl,q _ I.fresh⟩
section
variable {κ:Type} [DecidableEq κ]
noncomputable def kF (kvs:List (κ×V)) (k:κ):Option V:=(kvs.find? λkv=>decide (kv.1=k)).map (·.2)
noncomputable def putK (kvs:List (κ×V)) (k:κ) (v:V):List (κ×V) :=
 if (kvs.any λkv=>decide (kv.1=k))=true then kvs.map (λkv=>if kv.1=k then (kv.1,v) else kv) else kvs++[(k,v)]
theorem kG {p:κ×V} {r:List (κ×V)} {k:κ} (e:p.1=k):kF (p::r) k=some p.2:=by simp [kF,Qv,e]
theorem kH {p:κ×V} {r:List (κ×V)} {k:κ} (e:¬ p.1=k):kF (p::r) k=kF r k:=by simp [kF,Qv,e]
theorem qK (k:κ):∀ kvs:List (κ×V),(kvs.any λkv=>decide (kv.1=k))=(kF kvs k).isSome
 | []=>rfl
 | p::r=>by
  rw [List.any_cons]
  by_cases e:p.1=k
  ·simp only [kG e,decide_eq_true e,Bool.true_or,Option.isSome_some]
  ·rw [kH e,decide_eq_false e,Bool.false_or]; exact qK k r
theorem jI (kvs) (k:κ) (v):(putK kvs k v).length<=kvs.length+1:=by
 unfold putK
 split
 ·rw [OW]; lia
 ·rw [Pr,Pu,QK]; lia
theorem jR.eV (r:jR o u):o.isSome=u.isSome:=by
 cases o with
 | none=>cases u with
  | none=>rfl
  | some _=>exact (show False from r).elim
 | some _=>cases u with
  | none=>exact (show False from r).elim
  | some _=>rfl
theorem jR.getD (r:jR o u) (rd:RelV d d'):RelV (o.getD d) (u.getD d'):=by
 cases o with
 | none=>cases u with
  | none=>exact rd
  | some _=>exact (show False from r).elim
 | some _=>cases u with
  | none=>exact (show False from r).elim
  | some _=>exact r
theorem KV.val (r:KV kvs vs) (k:κ):jR (kF kvs k) (valueAt vs k):=by
 unfold KV at r
 induction r with
 | nil=>exact RN
 | @cons p q ps qs h t ih =>
  obtain ⟨h1,h2⟩:=h
  by_cases e:p.1=k
  ·have e':q.1=k:=h1.symm.trans e
   have b:valueAt (q::qs) k=some q.2:=by simp [valueAt,Qv,e']
   rw [kG e,b]; exact h2
  ·have e':¬ q.1=k:=λz=>e (h1.trans z)
   have b:valueAt (q::qs) k=valueAt qs k:=by simp [valueAt,Qv,e']
   rw [kH e,b]; exact ih
theorem KV.any (r:KV kvs vs) (k:κ):(kvs.any λkv=>decide (kv.1=k))=vs.any λkv=>decide (kv.1=k):=by
 unfold KV at r
 induction r with
 | nil=>rfl
 | cons h t ih=>rw [List.any_cons,List.any_cons,ih,h.1]
theorem KV.repl (r:KV kvs vs) (k:κ) (ry:RelV y u) :
 KV (kvs.map λkv=>if kv.1=k then (kv.1,y) else kv) (vs.map λkv=>if kv.1=k then (kv.1,u) else kv):=by
 unfold KV at r |-
 induction r with
 | nil=>exact .nil
 | @cons p q ps qs h t ih =>
  rw [O4,O4]
  refine .cons ?_ ih
  obtain ⟨h1,h2⟩:=h
  by_cases e:p.1=k
  ·rw [if_pos e,if_pos (h1.symm.trans e)]; exact ⟨h1,ry⟩
  ·rw [if_neg e,if_neg (λz=>e (h1.trans z))]; exact ⟨h1,h2⟩
theorem KV.put (r:KV kvs vs) (k:κ) (ry:RelV y u):KV (putK kvs k y) (stored vs k u):=by
 unfold putK stored
 rw [r.any k]
 by_cases e:(vs.any λkv=>decide (kv.1=k))=true
 ·rw [if_pos e,if_pos e]; exact r.repl k ry
 ·rw [if_neg e,if_neg e]; exact UA r ⟨rfl,ry⟩
theorem KV.length {kvs:List (κ×V)} {vs:List (κ×Value)} (r:KV kvs vs):kvs.length=vs.length:=Qf r
end
theorem kI (r:RelV (kV k) u):(bK P w).is k u=true:=by
 cases k with
 | inl i=>obtain ⟨t,e⟩:=(show ∃ t,u=RP i t from r); subst e; exact qE P w i t
 | inr x=>obtain ⟨t,e⟩:=(show ∃ t,u=Value.str x t from r); subst e; exact qF P w x t
theorem nq:∀ {ks:List Key} {us:List Value},Vals (ks.map kV) us->ItemsAre (bK P w) ks us
 | [],_,r=>by rw [Rh] at r; cases r; exact .nil
 | k::ks,_,r=>by
  rw [O4] at r
  cases r with
  | cons h t=>exact .cons (kI h) (nq t)
noncomputable abbrev KT:List (List Key×Addr×V)->List (List Key×Addr×Value)->Prop:=Paired λp q=>p.1=q.1/\p.2.1=q.2.1/\RelV p.2.2 q.2.2
noncomputable def atT (kvs:List (List Key×Addr×V)) (k:List Key):Option V:=(kvs.find? λkv=>decide (kv.1=k)).map (·.2.2)
noncomputable def o7 (k:List Key) (v:V) (x:List Key×Addr×V):List Key×Addr×V:=if x.1=k then (x.1,x.2.1,v) else x
noncomputable def qL (kvs:List (List Key×Addr×V)) (k:List Key) (b:Addr) (v:V):List (List Key×Addr×V) :=
 if (atT kvs k).isSome=true then kvs.map (o7 k v) else kvs++[(k,b,v)]
theorem qM (kvs) (k) (b) (v):(qL kvs k b v).length<=kvs.length+1:=by
 unfold qL
 split
 ·rw [OW]; lia
 ·rw [Pr,Pu,QK]; lia
theorem KT.val (r:KT kvs xs) (k):jR (atT kvs k) ((atKey xs k).map (·.2)):=by
 induction r with
 | nil=>exact RN
 | @cons p q ps qs h t ih =>
  obtain ⟨h1,_,h2⟩:=h
  by_cases e:p.1=k
  ·have e':q.1=k:=h1.symm.trans e
   have b:atKey (q::qs) k=some q.2:=by simp [atKey,Qv,e']
   have b2:atT (p::ps) k=some p.2.2:=by simp [atT,Qv,e]
   rw [b2,b]; exact h2
  ·have e':¬ q.1=k:=λz=>e (h1.trans z)
   have b:atKey (q::qs) k=atKey qs k:=by simp [atKey,Qv,e']
   have b2:atT (p::ps) k=atT ps k:=by simp [atT,Qv,e]
   rw [b2,b]; exact ih
theorem KT.repl (r:KT kvs xs) (k) (ry:RelV y u) :
 KT (kvs.map (o7 k y)) (xs.map (putAt k u)):=by
 induction r with
 | nil=>exact .nil
 | @cons p q ps qs h t ih =>
  rw [O4,O4]
  refine .cons ?_ ih
  obtain ⟨h1,h2,h3⟩:=h
  unfold putAt o7
  by_cases e:p.1=k
  ·rw [if_pos e,if_pos (h1.symm.trans e)]; exact ⟨h1,h2,ry⟩
  ·rw [if_neg e,if_neg (λz=>e (h1.trans z))]; exact ⟨h1,h2,h3⟩
theorem KT.put (r:KT kvs xs) (k) (ry:RelV y u) :
 KT (qL kvs k b y) (storedH xs k b u):=by
 have e:(atT kvs k).isSome=(atKey xs k).isSome:=by
  rw [(r.val k).eV,Rm]
 unfold qL storedH
 rw [e]
 by_cases q:(atKey xs k).isSome=true
 ·rw [if_pos q,if_pos q]; exact r.repl k ry
 ·rw [if_neg q,if_neg q]; exact UA r ⟨rfl,rfl,ry⟩
theorem Af (ok:je P w H h) (e:Rd H a u):bx P w H h a u:=e.ok ok
theorem kJ (ok:je P w H h) (e:Rd H a (.dK kvs)):kvs.length<=sizeLine/\(a == sysModules)=false/\∃ vs,KV kvs vs/\h.DictOf (bK P w) a vs :=
 show bx P w H h a (.dK kvs) from Af ok e
theorem Ag (ok:je P w H h) (e:H a=some (.dK kvs)):kvs.length<=sizeLine/\(a == sysModules)=false/\∃ vs,KV kvs vs/\h.DictOf (bK P w) a vs:=kJ ok (.inl e)
theorem ji (I:Inv X aa σ H s) (e:cU X.K H a (ks.map kV)):(tupleKind (bK X.prog X.w)).is s.heap ks a:=by
 obtain ⟨its,r,⟨o,h1,h2,n,h3⟩,_⟩:=I.tuple e
 exact ⟨o,its.toArray,n,h1,h2,h3,by simpa using nq r⟩
theorem nv (I:Inv X aa σ H s) (e:Rd H a (.dT kvs)) (hk:∀ x∈kvs,cU X.K H x.2.1 (x.1.map kV)):kvs.length<=sizeLine/\(a == sysModules)=false /\
 ∃ xs,KT kvs xs/\s.heap.DictOfH (tupleKind (bK X.prog X.w)) a xs:=by
 obtain ⟨z,y,xs,r,o,es,ep,h1,h2,h3,h4,h5⟩:=(show bx X.prog X.w H s.heap a (.dT kvs) from Af I.hok e)
 refine ⟨z,y,xs,r,o,es,ep,h1,h2,h3,h4,?_,h5⟩
 have all:∀ {l:List (List Key×Addr×V)} {m:List (List Key×Addr×Value)},KT l m->(∀ x∈l,cU X.K H x.2.1 (x.1.map kV))->∀ x∈m,(tupleKind (bK X.prog X.w)).is s.heap x.1 x.2.1:=by
  intro l m q
  induction q with
  | nil=>intro _ x hx; exact nomatch hx
  | @cons p q ps qs hq t ih =>
   intro hl x hx
   rcases O2.mp hx with e | hx
   ·subst e
    rw [<- hq.1,<- hq.2.1]
    exact ji I (hl p OY)
   ·exact ih (λy hy=>hl y (O1 _ hy)) x hx
 exact all r hk
def kK (K:OR) (H:Hp) (a:Addr) (y:V) (r:Option V):Prop :=
 (∃ kvs k,Rd H a (.dK kvs)/\y=kV k/\r=kF kvs k)\/∃ kvs k b,Rd H a (.dT kvs)/\(∀ x∈kvs,cU K H x.2.1 (x.1.map kV))/\y=.ref b/\cU K H b (k.map kV)/\r=atT kvs k
def DO (K:OR) (H:Hp) (a:Addr) (y v:V) (H':Hp):Prop :=
 (∃ kvs k,H a=some (.dK kvs)/\y=kV k/\kvs.length<sizeLine/\H'=upd H a (.dK (putK kvs k v))) \/
 ∃ kvs k b,H a=some (.dT kvs)/\(∀ x∈kvs,cU K H x.2.1 (x.1.map kV))/\y=.ref b/\cU K H b (k.map kV)/\kvs.length<sizeLine/\H'=upd H a (.dT (qL kvs k b v))
theorem Inv.big (I:Inv X aa σ H s):sysModules<s.heap.objs.size:=by
 have h:mainGlobals<s.heap.objs.size:=(I.mod.glob.keeps I.bk).lt
 exact Nat.lt_trans (by decide) h
theorem ny (hu:A.units+1<cLine) (I:Inv X aa σ H s) (g:kK X.K H a y (some v)) (ry:RelV y u) (h:∀ w' s',Inv X aa σ H s'->RelV v w'->Q w' s') :
 wpAny (model X.prog X.w) A (getItem (.ref a) u) Q E s:=by
 rcases g with ⟨kvs,k,e,ey,l⟩ | ⟨kvs,k,b,e,hk,ey,eb,l⟩
 ·subst ey
  obtain ⟨z,hd,vs,rel,dd⟩:=kJ I.hok e
  obtain ⟨w',hw,rw'⟩:=jR.some_of (v:=v) (o:=valueAt vs k) (by rw [l]; exact rel.val k)
  exact wpAny_getItem_of (kI ry) dd.mapOf hw (h w' _ (I.tok _) rw')
 ·subst ey
  cases (show u=Po b from ry)
  obtain ⟨z,hd,xs,rel,dd⟩:=nv I e hk
  obtain ⟨w',hw,rw'⟩:=jR.some_of (v:=v) (o:=(atKey xs k).map (·.2)) (by rw [l]; exact rel.val k)
  obtain ⟨p,hp,hp2⟩:=Pf.mp hw
  refine wpAny_getItem_heap (SJ hu) (ji I eb) dd hp ?_
  rw [hp2]
  exact h w' _ (I.tok _) rw'
theorem NH (hu:A.units+1<cLine) (I:Inv X aa σ H s) (g:kK X.K H a y o) (ry:RelV y u) (h:∀ s',Inv X aa σ H s'->Q (.bool o.isSome) s') :
 wpAny (model X.prog X.w) A (compareOp .In u (.ref a)) Q E s:=by
 rcases g with ⟨kvs,k,e,ey,l⟩ | ⟨kvs,k,b,e,hk,ey,eb,l⟩
 ·subst ey
  obtain ⟨z,hd,vs,rel,dd⟩:=kJ I.hok e
  refine wpAny_in_of (kI ry) hd dd.mapOf ?_
  rw [<- (rel.val k).eV,<- l]
  exact h _ (I.tok _)
 ·subst ey
  cases (show u=Po b from ry)
  obtain ⟨z,hd,xs,rel,dd⟩:=nv I e hk
  refine wpAny_in_heap (SJ hu) (ji I eb) hd dd ?_
  have q:=(rel.val k).eV
  rw [Rm] at q
  rw [<- q,<- l]
  exact h _ (I.tok _)
theorem DP (hu:A.units+1<cLine) (I:Inv X aa σ H s) (g:kK X.K H a y o) (ry:RelV y u) (h:∀ s',Inv X aa σ H s'->Q (.bool (!o.isSome)) s') :
 wpAny (model X.prog X.w) A (compareOp .NotIn u (.ref a)) Q E s:=by
 rcases g with ⟨kvs,k,e,ey,l⟩ | ⟨kvs,k,b,e,hk,ey,eb,l⟩
 ·subst ey
  obtain ⟨z,hd,vs,rel,dd⟩:=kJ I.hok e
  refine wpAny_notIn_of (kI ry) hd dd.mapOf ?_
  rw [<- (rel.val k).eV,<- l]
  exact h _ (I.tok _)
 ·subst ey
  cases (show u=Po b from ry)
  obtain ⟨z,hd,xs,rel,dd⟩:=nv I e hk
  refine wpAny_notIn_heap (SJ hu) (ji I eb) hd dd ?_
  have q:=(rel.val k).eV
  rw [Rm] at q
  rw [<- q,<- l]
  exact h _ (I.tok _)
theorem o8 (I:Inv X aa σ H s) (mu:Ks (H a)) (hs:QW a s.heap h') (he:∃ q,h'.get? a=some q) (new:bx X.prog X.w (upd H a ob) h' a ob) :
 Inv X aa σ (upd H a ob) { s with heap:=h',toks:=t' } :=
 I.write (x:=a) (e:=a) mu (.inl rfl) (λb q hb z=>(hs.2 b hb).trans z) he new
theorem Ah (z:kvs.length<=sizeLine) (hd:(a == sysModules)=false) (rel:KV kvs vs) (dd:h'.DictOf (bK P w) a vs) :
 bx P w H' h' a (.dK kvs):=⟨z,hd,vs,rel,dd⟩
theorem nD (hu:A.units+1<cLine) (I:Inv X aa σ H s) (g:DO X.K H a y v H') (ry:RelV y u) (rv:RelV v r) (h:∀ s',Inv X aa σ H' s'->Q () s') :
 wpAny (model X.prog X.w) A (setItem (.ref a) u r) Q E s:=by
 rcases g with ⟨kvs,k,e,ey,l,eH⟩ | ⟨kvs,k,b,e,hk,ey,eb,l,eH⟩
 ·subst ey eH
  obtain ⟨z,hd,vs,rel,dd⟩:=Ag I.hok e
  have hz:vs.length<=sizeLine:=by rw [<- rel.length]; exact z
  have hl:(putK kvs k v).length<=sizeLine:=by have:=jI kvs k v; lia
  refine wpAny_setItem_pairs (hsz:=hz) (kI ry) dd λh' dd' hs=>h _ ?_
  have he:∃ q,h'.get? a=some q:=let ⟨q,_,_,hq,_⟩:=dd'; ⟨q,hq⟩
  exact o8 I (by rw [e]; exact RN) hs he (Ah hl hd (rel.put k rv) dd')
 ·subst ey eH
  cases (show u=Po b from ry)
  obtain ⟨z,hd,xs,rel,dd⟩:=nv I (.inl e) hk
  have hz:xs.length<=sizeLine:=by rw [<- Qf rel]; exact z
  have hl:(qL kvs k b v).length<=sizeLine:=by have:=qM kvs k b v; lia
  refine wpAny_setItem_heap (hsz:=hz) (SJ hu) (ji I eb) dd λh' dd' hs=>h _ ?_
  obtain ⟨q,es,ep,hq,h2,h3,h4,_,h5⟩:=dd'
  exact o8 I (by rw [e]; exact RN) hs ⟨q,hq⟩ ⟨hl,hd,_,rel.put k rv,q,es,ep,hq,h2,h3,h4,h5⟩
def DQ (i:Expr):Prop:=∀ ov iv,subscripted i false ov iv=operate [ov,iv] (getItem ov iv)
theorem DR {T id:String}
 (hl:typeLookup (.type T) "__getitem__"=pure (some (.builtin id))) (hs:DQ slice)
 (h:wpAny (model prog w) A (eval value env) (λo s₁=>wpAny (model prog w) A (eval slice env) (λi s₂=>s₂.TypeIs o T/\wpAny (model prog w) A (getItem o i) Q E s₂) E s₁) E s) :
 wpAny (model prog w) A (eval (.Subscript value slice pos) env) Q E s:=by
 refine Subscript_ (P1 h (λo s₁ h₁=>P1 h₁ (λi s₂ h₂=>?_) λ_ _ x=>x) λ_ _ x=>x)
 obtain ⟨hT,h₂⟩:=h₂
 unfold subscriptTail
 refine OQ ?_
 rw [getitemInPython_of_ne hT.not_modules]
 refine OQ (wpAny_specialOf hT hl ?_)
 have fin:wpAny (model prog w) A (subscripted slice false o i) (λr s₃=>wpAny (model prog w) A (letTemporaryGo value o r >>= λ_=>pure r) Q E s₃) E s₂:=by
  rw [hs o i]
  exact wpAny_operating (P1 h₂ (λr s₃ h₃=>OQ (wpAny_letTemporaryGo (OS h₃))) λ_ _ x=>x)
 first
  | exact OS (OQ fin)
  | exact OQ (OS (OQ fin))
  | exact OQ fin
theorem qN (I:Inv X aa σ H s) (g:kK X.K H a y o):s.TypeIs (.ref a) "dict":=by
 rcases g with ⟨kvs,k,e,_,_⟩ | ⟨kvs,k,b,e,hk,_,_,_⟩
 ·obtain ⟨_,_,vs,_,dd⟩:=kJ I.hok e
  exact dd.typeIs
 ·obtain ⟨_,_,xs,_,dd⟩:=nv I e hk
  exact dd.typeIs
noncomputable def K0 (X:Cx) (td ty:TE):TE:=λσ H Q=>td σ H λx H1=>ty σ H1 λy H2=>∃ a v,x=.ref a/\kK X.K H2 a y (some v)/\Q v H2
noncomputable def NI (X:Cx) (ty td:TE):TE:=λσ H Q=>ty σ H λy H1=>td σ H1 λx H2=>∃ a o,x=.ref a/\kK X.K H2 a y o/\Q (.bl o.isSome) H2
noncomputable def DS (X:Cx) (ty td:TE):TE:=λσ H Q=>ty σ H λy H1=>td σ H1 λx H2=>∃ a o,x=.ref a/\kK X.K H2 a y o/\Q (.bl (!o.isSome)) H2
noncomputable def K1 (X:Cx) (td ty tv:TE):TS:=λD σ H=>tv σ H λv H1=>td σ H1 λx H2=>ty σ H2 λy H3=>∃ a H4,x=.ref a/\DO X.K H3 a y v H4/\D.nx σ H4
noncomputable def K2 (X:Cx) (td ty tv:TE) (rd:V->V->Hp->VK->Prop):TS:=λD σ H=>td σ H λx H1=>ty σ H1 λy H2=>∃ a v,x=.ref a/\kK X.K H2 a y (some v) /\
 tv σ H2 λy2 H3=>rd v y2 H3 λz H4=>∃ H5,DO X.K H4 a y z H5/\D.nx σ H5
theorem vH (hu:X.A.units+1<cLine) (ho:PE X o td) (hi:PE X i ty) (hs:DQ i):PE X (.Subscript o i pos) (K0 X td ty):=by
 intro aa s σ H Q I h
 refine DR PySem.F.slot_dict_getitem.lookup hs (bJ (ho aa s σ H _ I h) λu s1 ⟨x,H1,I1,rx,q1⟩=>bJ (hi aa s1 σ H1 _ I1 q1) λiv s2 ⟨y,H2,I2,ry,a,v,ex,g,q2⟩=>?_)
 subst ex
 obtain rfl:u=Po a:=rx
 exact ⟨qN I2 g,ny hu I2 g ry λw' s3 I3 rw'=>⟨v,H2,I3,rw',q2⟩⟩
theorem HU (hu:X.A.units+1<cLine) (hi:PE X i ty) (ho:PE X o td):PC X .In i o (NI X ty td):=by
 intro aa s σ H Q I h
 refine bJ (hi aa s σ H _ I h) λiv s1 ⟨y,H1,I1,ry,q1⟩=>bJ (ho aa s1 σ H1 _ I1 q1) λu s2 ⟨x,H2,I2,rx,a,ov,ex,g,q2⟩=>?_
 subst ex
 obtain rfl:u=Po a:=rx
 exact NH hu I2 g ry λs3 I3=>⟨.bl ov.isSome,H2,I3,rfl,q2⟩
theorem yb (hu:X.A.units+1<cLine) (hi:PE X i ty) (ho:PE X o td):PC X .NotIn i o (DS X ty td):=by
 intro aa s σ H Q I h
 refine bJ (hi aa s σ H _ I h) λiv s1 ⟨y,H1,I1,ry,q1⟩=>bJ (ho aa s1 σ H1 _ I1 q1) λu s2 ⟨x,H2,I2,rx,a,ov,ex,g,q2⟩=>?_
 subst ex
 obtain rfl:u=Po a:=rx
 exact DP hu I2 g ry λs3 I3=>⟨.bl (!ov.isSome),H2,I3,rfl,q2⟩
theorem DT (hu:X.A.units+1<cLine) (ho:PE X o td) (hi:PE X i ty) (hv:PE X value tv) (hs:swapsWith value (some (.Subscript o i pos')) pos.line X.env=pure false) :
 PS X (.Assign [.Subscript o i pos'] value pos) (K1 X td ty tv):=by
 intro aa s σ H D I h
 refine wpAny_Assign_Subscript (bJ (hv aa s σ H _ I h) λr s1 ⟨v,H1,I1,rv,q1⟩=>bJ (ho aa s1 σ H1 _ I1 q1) λu s2 ⟨x,H2,I2,rx,q2⟩=>bJ (hi aa s2 σ H2 _ I2 q2) λiv s3 ⟨y,H3,I3,ry,a,H4,ex,g,q3⟩=>?_) hs
 subst ex
 obtain rfl:u=Po a:=rx
 exact nD hu I3 g ry rv λs4 I4=>⟨σ,H4,I4,q3⟩
theorem DU (hu:X.A.units+1<cLine) (ho:PE X o td) (hi:PE X i ty) (hv:PE X value tv) (hop:KU X op rd)
 (ha:∀ ov iv new,augStore i ov iv new=(do holding [new,ov,iv] (setItem ov iv new); release [new,ov,iv] []; pure .next)):PS X (.AugAssign (.Subscript o i tpos) op value pos) (K2 X td ty tv rd):=by
 intro aa s σ H D I h
 refine wpAny_AugAssign_SubscriptAny (bJ (ho aa s σ H _ I h) λu s1 ⟨x,H1,I1,rx,q1⟩=>bJ (hi aa s1 σ H1 _ I1 q1) λiv s2 ⟨y,H2,I2,ry,a,v,ex,g,q2⟩=>?_) ha
 subst ex
 obtain rfl:u=Po a:=rx
 refine ny hu I2 g ry λw' s3 I3 rw'=>bJ (hv aa s3 σ H2 _ I3 q2) λw2 s4 ⟨y2,H3,I4,ry2,q3⟩=>bJ (hop aa s4 σ H3 v y2 w' w2 _ I4 rw' ry2 q3) λw3 s5 ⟨z,H4,I5,rz,H5,g5,q4⟩=>?_
 exact nD hu I5 g5 ry rz λs6 I6=>⟨σ,H5,I6,q4⟩
theorem qO (h:Heap) (hb:sysModules<h.objs.size):bx P w H (h.push { cls:=.type "dict",data:=.dict #[] }) h.objs.size (.dK []) :=
 ⟨PK _,beq_eq_false_iff_ne.mpr (Pe (Px hb)),[],.nil,Heap.DictOf.new h⟩
theorem Ai (h:Heap) (hb:sysModules<h.objs.size):bx P w H (h.push { cls:=.type "dict",data:=.dict #[] }) h.objs.size (.dT []) :=
 ⟨PK _,beq_eq_false_iff_ne.mpr (Pe (Px hb)),[],.nil,_,#[],0,O7 _ rfl,⟨rfl,rfl,rfl⟩,rfl,rfl,List.nodup_nil⟩
noncomputable def HV:TE:=λ_ H Q=>∀ p,H p=none->Q (.ref p) (upd H p (.dK []))
noncomputable def HW:TE:=λ_ H Q=>∀ p,H p=none->Q (.ref p) (upd H p (.dT []))
theorem Aj:PE X (.Dict [] [] pos) HV:=λaa s σ H Q I h =>
 wpAny_Dict_empty ⟨.ref s.heap.objs.size,_,I.laid (a:=s.heap.objs.size) (o:=.dK []) (t':=s.toks) (λ_ _ q=>OX _ q) (OT _) (qO s.heap I.big),rfl,h _ (I.hok.fresh (OT _))⟩
theorem Ak:PE X (.Dict [] [] pos) HW:=λaa s σ H Q I h =>
 wpAny_Dict_empty ⟨.ref s.heap.objs.size,_,I.laid (a:=s.heap.objs.size) (o:=.dT []) (t':=s.toks) (λ_ _ q=>OX _ q) (OT _) (Ai s.heap I.big),rfl,h _ (I.hok.fresh (OT _))⟩
noncomputable def cB (kvs more:List (Key×V)):List (Key×V):=more.foldl (λacc kv=>putK acc kv.1 kv.2) kvs
theorem gR:∀ (more kvs:List (Key×V)),(cB kvs more).length<=kvs.length+more.length
 | [],kvs=>by show kvs.length<=kvs.length+0; lia
 | p::r,kvs=>by
  have h1:=gR r (putK kvs p.1 p.2)
  have h2:=jI kvs p.1 p.2
  show (cB (putK kvs p.1 p.2) r).length<=_
  rw [Pu]; lia
structure M1 (X:Cx) (o:Expr) (m:Str) (apos:Pos) (e:Expr) (cpos:Pos):Prop where
 base:attributeBase o m X.env (eval o X.env)=eval o X.env
 few:((backTo cpos (starEach [e] X.env)).all (λx=> !x.1) && (backToKw cpos (keywordEach [] X.env)).all (λx=>x.1.isSome)
  && decide (([e]:List Expr).length+([]:List Keyword).length+(if ([]:List Keyword).isEmpty then 0 else 1)<30))=true
 line:(apos.endLine == cpos.line)=true
 trees:backTo cpos (starEach [e] X.env)=[(false,eval e X.env)]
structure M2 (X:Cx) (o:Expr) (m:Str) (apos:Pos) (e f:Expr) (cpos:Pos):Prop where
 base:attributeBase o m X.env (eval o X.env)=eval o X.env
 few:((backTo cpos (starEach [e,f] X.env)).all (λx=> !x.1) && (backToKw cpos (keywordEach [] X.env)).all (λx=>x.1.isSome)
  && decide (([e,f]:List Expr).length+([]:List Keyword).length+(if ([]:List Keyword).isEmpty then 0 else 1)<30))=true
 line:(apos.endLine == cpos.line)=true
 trees:backTo cpos (starEach [e,f] X.env)=[(false,eval e X.env),(false,eval f X.env)]
def NJ (H:Hp) (a:Addr):Prop:=(∃ kvs,Rd H a (.dK kvs))\/∃ kvs,Rd H a (.dT kvs)
theorem HX (I:Inv X aa σ H s) (d:NJ H a) :
 s.TypeIs (.ref a) "dict"/\(∀ b,Po a=.ref b->∃ ob,s.heap.get? b=some ob/\ob.dict=none)/\(a == sysModules)=false:=by
 rcases d with ⟨kvs,e⟩ | ⟨kvs,e⟩
 ·obtain ⟨_,hd,vs,_,dd⟩:=kJ I.hok e
  refine ⟨dd.typeIs,λb q=>?_,hd⟩
  cases q
  obtain ⟨ob,_,_,h1,h2,_⟩:=dd
  exact ⟨ob,h1,h2.2.1⟩
 ·obtain ⟨_,hd,xs,_,ob,es,ep,h1,h2,_⟩:=(show bx X.prog X.w H s.heap a (.dT kvs) from Af I.hok e)
  refine ⟨⟨ob,h1,h2.1⟩,λb q=>?_,hd⟩
  cases q
  exact ⟨ob,h1,h2.2.1⟩
theorem HY (hu:A.units+1<cLine) (I:Inv X aa σ H s) (g:kK X.K H a y o) (ry:RelV y u) (rd:RelV d r) (h:∀ w' s',Inv X aa σ H s'->RelV (o.getD d) w'->Q w' s') :
 wpAny (model X.prog X.w) A (call (.builtin "dict.get") [.ref a,u,r]) Q E s:=by
 rcases g with ⟨kvs,k,e,ey,l⟩ | ⟨kvs,k,b,e,hk,ey,eb,l⟩
 ·subst ey
  obtain ⟨z,hd,vs,rel,dd⟩:=kJ I.hok e
  refine call_meetsIn UX dd.typeIs PySem.F.entry_dict_get (PySem.F.args_dict_get_3 _ _ _) (meets_dict_get_default (bK X.prog X.w) a (kI ry) hd r) ⟨_,dd.mapOf,h _ _ (I.tok _) ?_⟩
  rw [l]
  exact (rel.val k).getD rd
 ·subst ey
  cases (show u=Po b from ry)
  obtain ⟨z,hd,xs,rel,dd⟩:=nv I e hk
  refine call_meetsIn UX dd.typeIs PySem.F.entry_dict_get (PySem.F.args_dict_get_3 _ _ _) (meetsH_dict_get_default (tupleKind (bK X.prog X.w)) a b hd r) ⟨SJ hu,k,xs,ji I eb,dd,h _ _ (I.tok _) ?_⟩
  rw [l]
  exact (rel.val k).getD rd
noncomputable def HZ (X:Cx) (td ty tx:TE):TE:=λσ H Q=>td σ H λx H1=>∃ a,x=.ref a/\NJ H1 a/\ty σ H1 λy H2=>tx σ H2 λz H3=>∃ o,kK X.K H3 a y o/\Q (o.getD z) H3
theorem Al (hu:X.A.units+1<cLine) (ho:PE X o td) (he:PE X e ty) (hf:PE X f tx) (m:M2 X o "get" apos e f cpos):PE X (.Call (.Attribute o "get" apos) [e,f] [] cpos) (HZ X td ty tx):=by
 intro aa s σ H Q I h
 refine Vh m.base m.few m.line PySem.F.plainAttrs_dict UX PySem.F.type_dict_get (bJ (ho aa s σ H _ I h) λu s1 ⟨x,H1,I1,rx,a,ex,d,q1⟩=>?_)
 subst ex
 obtain rfl:u=Po a:=rx
 obtain ⟨t1,t2,_⟩:=HX I1 d
 refine ⟨t1,t2,?_⟩
 rw [m.trees]
 refine UT rfl (Calls.evalArgs_plain (Ve (bJ (he aa s1 σ H1 _ I1 q1) λiv s2 ⟨y,H2,I2,ry,q2⟩ =>
  Ve (bJ (hf aa s2 σ H2 _ I2 q2) λfv s3 ⟨z,H3,I3,rz,ov,g,q3⟩=>Calls.spliced_nil ?_))))
 exact HY hu I3 g ry rz λw' s4 I4 rw'=>⟨_,H3,I4,rw',q3⟩
end L2
namespace Att
open PySem PySem.W PySem.Calls PyProof.Rows
theorem jT:∀ (ns:List Int) (vs:List Value),WellAll P h vs (ns.map WData.int)->IntsAre vs ns:=by
 intro ns
 induction ns with
 | nil =>
  intro vs w
  rw [Rh] at w
  cases w
  exact .nil
 | cons n ns ih =>
  intro vs w
  rw [O4] at w
  cases w with
  | cons a b =>
   cases a
   exact .cons _ _ (ih _ b)
theorem yc {l:OpenLaw} (hn:l.most=some n)
 (hpre:l.row.toRowW.claim.pre args=true) (hwl:WellAll P h vals args) :
 ∃ a vs ns,vals=[Po a]/\args=[WData.list (ns.map WData.int)]/\h.get? a=some { cls:=.type "list",data:=.seq vs.toArray }/\IntsAre vs ns/\ns.length<=n:=by
 have hsh:WShape.hasAll [] args [.list .int]=true:=(pre_splitW hpre).1
 have hc:l.pre.holds [] { args:=args }=true:=(pre_splitW hpre).2
 obtain ⟨d,r,rfl,h1,h2⟩:=hasAllW_cons hsh
 obtain rfl:=hasAllW_nil h2
 obtain ⟨xs,rfl,h3⟩:=hasW_list h1
 obtain ⟨ns,rfl⟩:=items_int h3
 have hlen:ns.length<=n:=by
  unfold OpenLaw.pre at hc
  have h4:(WTm.not (.lt (.lit (.int (n:Int))) (.len (.arg 0)))).holds [] { args:=[.list (ns.map .int)] }=true:=by
   have h4:=(holds_andW hc).1
   rw [hn] at h4
   exact h4
  have h5:=condW_of h4 (w_not (w_lt w_lit (w_len_list (w_arg rfl))))
  rw [OW] at h5
  refine Nat.le_of_not_lt λq=>?_
  have q':(n:Int)<((ns.length:Nat):Int):=by lia
  first
   | (rw [decide_eq_true q'] at h5; exact absurd h5 (by decide))
   | (simp at h5; lia)
 cases hwl with
 | cons w1 w2 =>
  cases w2
  cases w1 with
  | list ho hall=>exact ⟨_,_,ns,rfl,rfl,ho,jT ns _ hall,hlen⟩
theorem yd (l:OpenLaw) (args):l.row.toRowW.claim.post args (.bool true) args=true :=
 postW_of (r:=l.row.toRowW) (X:=(true == true))
  (show WShape.has [] (.bool true) .bool=true by first | rfl | decide | simp [WShape.has,WShape.arms,WShape.armsAll])
  (show (WTm.eq .res (.lit (.bool true))).value [] { args:=args,res:=some (.bool true),after:=args }=some (.bool (true == true)) from w_eq_bool (w_res rfl) w_lit) rfl
theorem qP {l:OpenLaw}
 (hn:l.most=some n) (hdf:d.params.defaults=[])
 (call:∀ (w:World) (s₀ s₁:Shared) (mg mb:Str->Option Value) (fa:Addr) (o:Obj) (pm cd doc:Value) (a:Addr) (vs:List Value) (ns:List Int),
   Ground q loose [] XP w s₀ mg mb s₁.heap->YP w s₁.heap ->
   s₁.heap.get? fa=some o->o.data=.func (docDef d.name d.params d.body d.scope pm cd doc)->s₁.heap.CodeRec cd d.name->mg d.name=some (.ref fa) ->
   s₁.heap.get? a=some { cls:=.type "list",data:=.seq vs.toArray }->IntsAre vs ns->ns.length<=n->s₁.gens= #[] ->
   codeAny (model l.prog w) callerA (.call (.ref fa) ⟨[.ref a],[]⟩) (λr s'=>r=.ok (.ret (.bool true))/\OldK s₁.heap s'.heap/\s'.os=s₁.os/\AllBare s'.gens) s₁) :
 WalkO q loose XP YP l.row.toRowW d [] (λf vs=>PySem.call f vs):=by
 intro w s₀ s₁ mg mb G Y fa o pm cd doc dV kV ho hd hcd hD hmg hg args vals as hpre hlay hrd hwl hlo
 obtain rfl:dV=.none:=Dflts.none hD hdf
 obtain rfl:kV=.none:=Dflts.noKw hD
 obtain ⟨a,vs,ns,rfl,rfl,hobj,hints,hlen⟩:=yc hn hpre hwl
 refine enter_call (Tc (call w s₀ s₁ mg mb fa o pm cd doc a vs ns G Y ho (fd_plain hd) hcd hmg hobj hints hlen hg) λr s' hq=>?_)
 obtain ⟨rfl,h2,h3,h4⟩:=hq
 exact ⟨.inl ⟨.bool true,.bool true,[],rfl,λ_=>rfl,.bool true,yd l _,λ_=>⟨SN,λ_ hm=>(nomatch hm)⟩⟩,h2,h3,h4⟩
end Att
namespace L2
open PySem PySem.Spec PyProof.Rows
theorem nE:∀ {vs:List Value} {ns:List Int},IntsAre vs ns->Vals (ns.map V.int) vs
 | _,_,.nil=>.nil
 | _,_,.cons n t h=>.cons ⟨t,rfl⟩ (nE h)
def Ia (H:Hp):Prop:=∀ b,H b=none\/∃ o xs,H b=some (.frz o (.lst xs))
theorem Am {K:OR}
 (KX:K.In s₁.heap) (hns:s₁.heap.Ns mainGlobals mg) (hb:s₁.heap.Ns builtinsNs mb) (hbb:∀ x:Str,x≠"__name__"->mb x=bootBuiltins x) (hlim:s₁.heap.NoLimit) (hg:s₁.gens= #[])
 (ha:s₁.heap.get? a=some { cls:=.type "list",data:=.seq vs.toArray }) (hi:IntsAre vs ns) (hl:ns.length<=sizeLine) (hr:gK k callerA)
 (F:∀ base:Heap,K.In base->base.Ns mainGlobals mg->bh P w K mg base CX k fa fd [x] sp) (hbind:∀ (s:Shared) (u:Value),BindsTo s fd ⟨[u],[]⟩ [(x,u)])
 (vq:∀ H:Hp,Ia H->fQ K H a (ns.map V.int)->sp [.ref a] H (λv _=>v=.bl true) λ_ _ _=>False)
 (hCX:∀ H e s',CX [] H s₁ (λ_ _ _=>False) e s'->False) :
 codeAny (model P w) callerA (.call (.ref fa) ⟨[.ref a],[]⟩) (λr s'=>r=.ok (.ret (.bool true))/\OldK s₁.heap s'.heap/\s'.os=s₁.os/\AllBare s'.gens) s₁:=by
 have rv:=nE hi
 have lenV:=hi.length
 have core:∀ H:Hp,Ia H->fQ K H a (ns.map V.int)->je P w H s₁.heap->(∀ b,H b≠none->b=a)->(H a≠none->K.lookup a=none) ->
  codeAny (model P w) callerA (.call (.ref fa) ⟨[.ref a],[]⟩) (λr s'=>r=.ok (.ret (.bool true))/\OldK s₁.heap s'.heap/\s'.os=s₁.os/\AllBare s'.gens) s₁:=by
  intro H hO hS hok hA hK
  have base_of:∀ {b:Addr} {o:Obj},s₁.heap.get? b=some o->H b=none->(oR s₁.heap H).get? b=some o:=λe n=>zG e n
  have noA:∀ {b:Addr} {o:Obj} {es:Array DictEntry} {ep:Nat},s₁.heap.get? b=some o->o.data=.dict es ep->H b=none:=λ{b o es ep} e d=>by
   cases q:H b with
   | none=>rfl
   | some u =>
    have e':b=a:=hA b (by rw [q]; simp)
    subst e'
    rw [ha] at e; cases e
    have d':Data.seq vs.toArray _=Data.dict es ep:=d
    cases d'
  have nsK:∀ {b:Addr} {m:Str->Option Value},s₁.heap.Ns b m->(oR s₁.heap H).Ns b m:=λ{b m} ⟨o,es,ep,e,d,r⟩=>⟨o,es,ep,base_of e (noA e d),d,r⟩
  have hKb:K.In (oR s₁.heap H):=λb o e=>base_of (KX b o e) (by
   cases q:H b with
   | none=>rfl
   | some u =>
    have e':b=a:=hA b (by rw [q]; simp)
    subst e'
    rw [hK (by rw [q]; simp)] at e; cases e)
  have hM:Mod K mg (oR s₁.heap H):=⟨hKb,nsK hns,⟨mb,nsK hb,hbb⟩,let ⟨mc,h1,h2⟩:=hlim; ⟨mc,nsK h1,h2⟩⟩
  have e0:DG P w K mg (oR s₁.heap H) callerA [] s₁ H:=⟨rfl,hM,λb o e=>Dt e,Nat.le_of_eq (xW _ _),trivial,λb hb=>absurd (show b∈([]:List Addr) from hb) (by simp),hok,.of_eq hg⟩
  refine Tc ((F _ hKb (nsK hns)).run callerA [] s₁ H ⟨[.ref a],[]⟩ [.ref a] [.ref a] _ _ hr e0 (hbind s₁ (.ref a)) (.cons rfl .nil) (vq H hO hS)) λr s' h=>?_
  cases r with
  | error e=>exact (hCX H e s' h).elim
  | ok fl =>
   cases fl with
   | next=>exact Qi h
   | brk=>exact Qi h
   | cont=>exact Qi h
   | ret u =>
    obtain ⟨v,H',os,bare,un,hok',r',q⟩:=h
    have q':v=.bl true:=q
    subst q'
    obtain rfl:u=Value.bool true:=r'
    refine ⟨rfl,OldK.of_keep λb o e=>?_,os,bare⟩
    cases q:H b with
    | none=>exact un.keep b o e q (by intro z; exact absurd (show b∈([]:List Addr) from z) (by simp)) (by simp)
    | some u =>
     rcases hO b with z | ⟨ob,xs,z⟩
     ·rw [q] at z; cases z
     ·have z2:=un.frzs b ob _ z
      obtain ⟨e1,_⟩:=hok b _ z
      obtain ⟨e2,_⟩:=hok' b _ z2
      rw [e] at e1; cases e1
      exact e2
 cases hk:K.lookup a with
 | some o =>
  have e:=KX a o hk
  rw [ha] at e
  cases e
  refine core (λ_=>none) (λ_=>.inl rfl) (.inr ⟨_,vs.toArray,_,hk,rfl,rfl,rfl,by rw [Pg,lenV]; exact hl,by simpa using rv⟩) (λb u z=>by have z':(none:Option HO)=some u:=z; cases z') (λb z=>absurd rfl z) λz=>absurd rfl z
 | none =>
  refine core (λb=>if b=a then some (.frz { cls:=.type "list",data:=.seq vs.toArray } (.lst (ns.map V.int))) else none) (λb=>?_) (.inl (.inr ⟨{ cls:=.type "list",data:=.seq vs.toArray },if_pos rfl⟩)) (λb u z=>?_) (λb z=>?_) λ_=>hk
  ·by_cases hb:b=a
   ·exact .inr ⟨_,_,if_pos hb⟩
   ·exact .inl (if_neg hb)
  ·by_cases hb:b=a
   ·have z':=(if_pos hb).symm.trans z
    cases z'
    subst hb
    exact ⟨ha,by rw [OW]; exact hl,vs,_,rv,ha⟩
   ·have z':=(if_neg hb).symm.trans z
    cases z'
  ·by_cases hb:b=a
   ·exact hb
   ·exact absurd (if_neg hb) z
noncomputable abbrev fS {K:OR} {h:Heap} (_:K.In h):OR:=K
theorem DV {l:PySem.W.OpenLaw} {K:Params->OR} {CX:World->HK} {sp:World->Sp}
 (hn:l.most=some n) (hn2:n<=sizeLine) (hdf:d.params.defaults=[]) (hr:gK k callerA)
 (hY:∀ (w:World) (h:Heap),YP w h->(K w.params).In h)
 (F:∀ (w:World) (mg:Str->Option Value) (fa:Addr) (h:Heap),(K w.params).In h->h.Ns mainGlobals mg->mg d.name=some (.ref fa) ->
   ∃ fd:FuncData,(∀ (s:Shared) (u:Value),BindsTo s fd ⟨[u],[]⟩ [(x,u)]) /\
    ∀ base:Heap,(K w.params).In base->base.Ns mainGlobals mg->bh l.prog w (K w.params) mg base (CX w) k fa fd [x] (sp w))
 (vq:∀ (w:World) (H:Hp) (a:Addr) (ns:List Int),ns.length<=n->Ia H->fQ (K w.params) H a (ns.map V.int)->sp w [.ref a] H (λv _=>v=.bl true) λ_ _ _=>False)
 (hCX:∀ (w:World) (H:Hp) (s:Shared) (e:Value) (s':Shared),CX w [] H s (λ_ _ _=>False) e s'->False) :
 PySem.W.WalkO q loose XP YP l.row.toRowW d [] (λf vs=>PySem.call f vs):=by
 refine Att.qP hn hdf λw s₀ s₁ mg mb fa o pm cd doc a vs ns G Y ho hd hcd hmg hobj hints hlen hg=>?_
 have KX:=hY w _ Y
 obtain ⟨fd,hb,hF⟩:=F w mg fa _ KX G.T.g hmg
 exact Am KX G.T.g G.T.b G.T.builtins G.T.nolimit hg hobj hints (O3 hlen hn2) hr hF hb (λH hO hS=>vq w H a ns hlen hO hS) λH e s'=>hCX w H s₁ e s'
end L2
namespace L2
open PySem PySem.Spec PyProof.Rows
noncomputable def dQ (s:Stmt):Arguments:=match s with
 | .FunctionDef _ a _ _ _ _ _ _ _ _=>a
 | _=>{ posonlyargs:=[],args:=[],vararg:=none,kwonlyargs:=[],kw_defaults:=[],kwarg:=none,defaults:=[] }
noncomputable def av (s:Stmt):List Stmt:=match s with
 | .FunctionDef _ _ b _ _ _ _ _ _ _=>b
 | _=>[]
noncomputable def aP (s:Stmt):Scope:=match s with
 | .FunctionDef _ _ _ _ _ _ sc _ _ _=>sc
 | _=>{ kind:=.function,names:=[],isGenerator:=false,isCoroutine:=false }
structure dO (K:OR) (x qual:Str) (st:Stmt) (f:Addr) (fd:FuncData):Prop where
 ex:∃ (oc:Value) (od:Option Addr) (kV doc pm:Value) (an:Option Addr) (cdv ct:Value) (osl:Array (Option Value)),
  fd=Q0 x qual (dQ st) (av st) (aP st) .none kV doc pm an cdv ct/\K.lookup f=some ⟨oc,od,.func fd,osl⟩/\Uj K cdv qual=true
 kp:QY K (.ref f)=true
section
variable {K:OR}
theorem dO.binds {st:Stmt} (F:dO K x qual st f fd)
 (h:∀ (kV doc pm:Value) (an:Option Addr) (cdv ct:Value) (us:List Value),us.length=ps.length->bindArgs (Q0 x qual (dQ st) (av st) (aP st) .none kV doc pm an cdv ct) ⟨us,[]⟩=pure (ps.zip us)):Binds K fd ps []:=by
 obtain ⟨oc,od,kV,doc,pm,an,cdv,ct,osl,rfl,lk,hcd⟩:=F.ex
 exact .all (h kV doc pm an cdv ct)
theorem Ib {st:Stmt} {kV doc pm cdv ct:Value} (l:K.lookup f=some ⟨oc,od,.func (Q0 x qual (dQ st) (av st) (aP st) .none kV doc pm an cdv ct),osl⟩)
 (c:Uj K cdv qual=true) (k:QY K (.ref f)=true):dO K x qual st f (Q0 x qual (dQ st) (av st) (aP st) .none kV doc pm an cdv ct):=⟨⟨oc,od,kV,doc,pm,an,cdv,ct,osl,rfl,l,c⟩,k⟩
end
theorem K3 (hr:gK k A):A.units+1<cLine:=QH (Nat.add_le_add_left (by decide:1<=64) _) hr.units
theorem ye (h:n<=1000):n<sizeLine:=QH h (by decide)
def aN (H H':Hp):Prop:=∀ b o,H b=some o->H' b=some o
theorem aN.refl (H):aN H H:=λ_ _ h=>h
theorem aN.trans (a:aN H H1) (b:aN H1 H2):aN H H2:=λc o h=>b c o (a c o h)
theorem aN.free (e:aN H H') (h:H' l=Option.none):H l=Option.none:=by
 cases q:H l with
 | none=>rfl
 | some o =>
  rw [e l o q] at h
  cases h
theorem aN.seq {K:OR} (e:aN H H') (h:fQ K H a xs):fQ K H' a xs:=by
 rcases h with (h | ⟨o,h⟩) | h
 ·exact .inl (.inl (e _ _ h))
 ·exact .inl (.inr ⟨o,e _ _ h⟩)
 ·exact .inr h
section
variable {κ:Type} [DecidableEq κ]
end
end L2
namespace EV
open PySem PySem.Spec PyProof.Rows L2
inductive D where
 | non | bl (b:Bool) | int (i:Int) | str (x:Str) | tup (ds:List D) | lst (ds:List D) | exc (C:Addr)
 | fdK (ks:List Key) (ds:List D) | fdT (ks:List (List Key)) (ds:List D) | adr (a:Addr)
noncomputable def K4 (a C:Addr):Heap->Prop:=λh=>∃ o,h.get? a=some o/\o.cls=.ref C/\∃ vs,o.data=.fields vs
mutual
def Rep (K:OR) (H:Hp):D->V->Prop
 | .non,v=>v=.non
 | .bl b,v=>v=.bl b
 | .int i,v=>v=.int i
 | .str x,v=>v=.str x
 | .tup ds,v=>∃ a xs,v=.ref a/\cU K H a xs/\aq K H ds xs
 | .lst ds,v=>∃ a xs,v=.ref a/\fQ K H a xs/\aq K H ds xs
 | .exc C,v=>∃ a,v=.ref a/\H a=some (.ext (K4 a C))
 | .fdK ks ds,v=>∃ a ys o,v=.ref a/\H a=some (.frz o (.dK ys))/\ys.map (·.1)=ks/\aq K H ds (ys.map (·.2))
 | .fdT ks ds,v=>∃ a ys o,v=.ref a/\H a=some (.frz o (.dT ys))/\ys.map (·.1)=ks/\(∀ y∈ys,cU K H y.2.1 (y.1.map kV))/\aq K H ds (ys.map (·.2.2))
 | .adr a,v=>v=.ref a
def aq (K:OR) (H:Hp):List D->List V->Prop
 | [],xs=>xs=[]
 | d::ds,xs=>∃ x r,xs=x::r/\Rep K H d x/\aq K H ds r
end
theorem az {K:OR} (e:aN H H') (h:cU K H a xs):cU K H' a xs:=by
 rcases h with (h | ⟨o,h⟩) | h
 ·exact .inl (.inl (e _ _ h))
 ·exact .inl (.inr ⟨o,e _ _ h⟩)
 ·exact .inr h
mutual
theorem Rep.mono {K:OR} {H H':Hp} (e:aN H H'):∀ (d:D) {v:V},Rep K H d v->Rep K H' d v
 | .non,_,h=>by simpa [Rep] using h
 | .bl b,_,h=>by simpa [Rep] using h
 | .int i,_,h=>by simpa [Rep] using h
 | .str x,_,h=>by simpa [Rep] using h
 | .tup ds,_,h=>by
  simp only [Rep] at h |-
  obtain ⟨a,xs,e1,h1,h2⟩:=h
  exact ⟨a,xs,e1,az e h1,aq.mono e ds h2⟩
 | .lst ds,_,h=>by
  simp only [Rep] at h |-
  obtain ⟨a,xs,e1,h1,h2⟩:=h
  exact ⟨a,xs,e1,e.seq h1,aq.mono e ds h2⟩
 | .exc C,_,h=>by
  simp only [Rep] at h |-
  obtain ⟨a,e1,h1⟩:=h
  exact ⟨a,e1,e _ _ h1⟩
 | .fdK ks ds,_,h=>by
  simp only [Rep] at h |-
  obtain ⟨a,ys,o,e1,h1,h2,h3⟩:=h
  exact ⟨a,ys,o,e1,e _ _ h1,h2,aq.mono e ds h3⟩
 | .fdT ks ds,_,h=>by
  simp only [Rep] at h |-
  obtain ⟨a,ys,o,e1,h1,h2,h3,h4⟩:=h
  exact ⟨a,ys,o,e1,e _ _ h1,h2,λy hy=>az e (h3 y hy),aq.mono e ds h4⟩
 | .adr a,_,h=>by simpa [Rep] using h
theorem aq.mono {K:OR} {H H':Hp} (e:aN H H'):∀ (ds:List D) {xs:List V},aq K H ds xs->aq K H' ds xs
 | [],_,h=>by simpa [aq] using h
 | d::ds,_,h=>by
  simp only [aq] at h |-
  obtain ⟨x,r,e1,h1,h2⟩:=h
  exact ⟨x,r,e1,Rep.mono e d h1,aq.mono e ds h2⟩
end
section
variable {K:OR}
theorem au:Rep K H (.int i) v↔v=.int i:=by simp only [Rep]
theorem f7:Rep K H (.bl i) v↔v=.bl i:=by simp only [Rep]
theorem bL:Rep K H .non v↔v=.non:=by simp only [Rep]
theorem dR:Rep K H (.str i) v↔v=.str i:=by simp only [Rep]
theorem aO:Rep K H (.tup ds) v↔∃ a xs,v=.ref a/\cU K H a xs/\aq K H ds xs:=by simp only [Rep]
theorem br:Rep K H (.lst ds) v↔∃ a xs,v=.ref a/\fQ K H a xs/\aq K H ds xs:=by simp only [Rep]
theorem fC:Rep K H (.fdK ks ds) v↔∃ a ys o,v=.ref a/\H a=some (.frz o (.dK ys))/\ys.map (·.1)=ks/\aq K H ds (ys.map (·.2)):=by simp only [Rep]
theorem jZ:Rep K H (.fdT ks ds) v↔∃ a ys o,v=.ref a/\H a=some (.frz o (.dT ys))/\ys.map (·.1)=ks/\(∀ y∈ys,cU K H y.2.1 (y.1.map kV))/\aq K H ds (ys.map (·.2.2)):=by simp only [Rep]
theorem An:Rep K H (.adr a) v↔v=.ref a:=by simp only [Rep]
theorem DW:Rep K H (.exc C) v↔∃ a,v=.ref a/\H a=some (.ext (K4 a C)):=by simp only [Rep]
theorem aF:aq K H [] xs↔xs=[]:=by simp only [aq]
theorem aG:aq K H (d::ds) xs↔∃ x r,xs=x::r/\Rep K H d x/\aq K H ds r:=by simp only [aq]
theorem aq.length:∀ {ds:List D} {xs:List V},aq K H ds xs->ds.length=xs.length
 | [],_,h=>by rw [aF] at h; subst h; rfl
 | d::ds,_,h=>by
  rw [aG] at h
  obtain ⟨x,r,rfl,_,h2⟩:=h
  simp [aq.length h2]
theorem aq.get:∀ {ds:List D} {xs:List V} {i:Nat} {d:D},aq K H ds xs->ds[i]?=some d->∃ x,xs[i]?=some x/\Rep K H d x
 | [],_,_,_,_,e=>by simp at e
 | d::ds,_,i,d',h,e=>by
  rw [aG] at h
  obtain ⟨x,r,rfl,h1,h2⟩:=h
  cases i with
  | zero=>simp at e; subst e; exact ⟨x,by simp,h1⟩
  | succ i =>
   obtain ⟨y,e2,h3⟩:=aq.get (i:=i) (d:=d') h2 (by simpa using e)
   exact ⟨y,by simpa using e2,h3⟩
theorem aq.get':∀ {ds:List D} {xs:List V} {i:Nat} {x:V},aq K H ds xs->xs[i]?=some x->∃ d,ds[i]?=some d/\Rep K H d x:=λ{ds xs i x} h e=>by
 have hl:=h.length
 have hi:i<xs.length:=(O6.mp e).1
 obtain ⟨y,e2,h2⟩:=h.get (i:=i) (d:=ds[i]'(by lia)) (by simp)
 rw [e] at e2; cases e2
 exact ⟨_,by simp,h2⟩
theorem aq.append:∀ {ds es:List D} {xs ys:List V},aq K H ds xs->aq K H es ys->aq K H (ds++es) (xs++ys)
 | [],_,_,_,h,g=>by rw [aF] at h; subst h; exact g
 | d::ds,_,_,_,h,g=>by
  rw [aG] at h
  obtain ⟨x,r,rfl,h1,h2⟩:=h
  exact aG.mpr ⟨x,r++_,rfl,h1,aq.append h2 g⟩
theorem aq.drop:∀ (n:Nat) {ds:List D} {xs:List V},aq K H ds xs->aq K H (ds.drop n) (xs.drop n)
 | 0,_,_,h=>h
 | n+1,[],_,h=>by rw [aF] at h; subst h; exact aF.mpr rfl
 | n+1,d::ds,_,h=>by
  rw [aG] at h
  obtain ⟨x,r,rfl,h1,h2⟩:=h
  exact aq.drop n h2
theorem aq.take:∀ (n:Nat) {ds:List D} {xs:List V},aq K H ds xs->aq K H (ds.take n) (xs.take n)
 | 0,_,_,h=>aF.mpr rfl
 | n+1,[],_,h=>by rw [aF] at h; subst h; exact aF.mpr rfl
 | n+1,d::ds,_,h=>by
  rw [aG] at h
  obtain ⟨x,r,rfl,h1,h2⟩:=h
  exact aG.mpr ⟨x,r.take n,rfl,h1,aq.take n h2⟩
theorem aq.dropLast (h:aq K H ds xs):aq K H ds.dropLast xs.dropLast:=by
 rw [List.dropLast_eq_take,List.dropLast_eq_take,h.length]; exact h.take _
theorem aq.one (h:Rep K H d v):aq K H [d] [v]:=aG.mpr ⟨v,[],rfl,h,aF.mpr rfl⟩
theorem aq.cons (h:Rep K H d v) (t:aq K H ds xs):aq K H (d::ds) (v::xs):=aG.mpr ⟨v,xs,rfl,h,t⟩
theorem nF:∀ (ns:List Int),aq K H (ns.map D.int) (ns.map V.int)
 | []=>aF.mpr rfl
 | n::ns=>.cons (au.mpr rfl) (nF ns)
end
inductive Sh where
 | v (d:D) | l (ds:List D) | la (a:Addr) (ds:List D) | t (ss:List Sh) | ls (ss:List Sh)
noncomputable def pl (p:Addr) (xs:List V):HO:=.ext λh=>xs.length<=sizeLine/\∃ (its:List Value) (n:Nat),Vals xs its/\h.get? p=some { cls:=.type "list",data:=.seq its.toArray n }
mutual
def di (K:OR) (H Hf:Hp):Sh->V->List (Addr×List V)->Prop
 | .v d,v,fp=>Rep K Hf d v/\fp=[]
 | .l ds,v,fp=>∃ p xs,v=.ref p/\H p=some (pl p xs)/\Hf p=none/\aq K Hf ds xs/\fp=[(p,xs)]
 | .la p ds,v,fp=>∃ xs,v=.ref p/\H p=some (pl p xs)/\Hf p=none/\aq K Hf ds xs/\fp=[(p,xs)]
 | .t ss,v,fp=>∃ a xs,v=.ref a/\cU K Hf a xs/\bg K H Hf ss xs fp
 | .ls ss,v,fp=>∃ p xs fq,v=.ref p/\H p=some (pl p xs)/\Hf p=none/\bg K H Hf ss xs fq/\fp=(p,xs)::fq
def bg (K:OR) (H Hf:Hp):List Sh->List V->List (Addr×List V)->Prop
 | [],xs,fp=>xs=[]/\fp=[]
 | s::ss,xs,fp=>∃ x r f1 f2,xs=x::r/\di K H Hf s x f1/\bg K H Hf ss r f2/\fp=f1++f2
end
def Ao (H:Hp) (q:Addr):Prop:=∃ xs,H q=some (pl q xs)
mutual
theorem di.mv {K:OR} {H Hf H' aj:Hp} (sf:aN Hf aj):∀ (s:Sh) {v:V} {fp:List (Addr×List V)},(∀ q∈fp,H q.1=some (pl q.1 q.2)->Hf q.1=none->H' q.1=some (pl q.1 q.2)/\aj q.1=none)->di K H Hf s v fp->di K H' aj s v fp
 | .v d,_,_,_,h=>by simp only [di] at h |-; exact ⟨h.1.mono sf d,h.2⟩
 | .l ds,_,_,hk,h=>by
  simp only [di] at h |-
  obtain ⟨p,xs,e,h1,h2,h3,rfl⟩:=h
  obtain ⟨q1,q2⟩:=hk _ OY h1 h2
  exact ⟨p,xs,e,q1,q2,h3.mono sf ds,rfl⟩
 | .la p ds,_,_,hk,h=>by
  simp only [di] at h |-
  obtain ⟨xs,e,h1,h2,h3,rfl⟩:=h
  obtain ⟨q1,q2⟩:=hk _ OY h1 h2
  exact ⟨xs,e,q1,q2,h3.mono sf ds,rfl⟩
 | .t ss,_,_,hk,h=>by
  simp only [di] at h |-
  obtain ⟨a,xs,e,h1,h2⟩:=h
  exact ⟨a,xs,e,az sf h1,bg.mv sf ss hk h2⟩
 | .ls ss,_,_,hk,h=>by
  simp only [di] at h |-
  obtain ⟨p,xs,fq,e,h1,h2,h3,rfl⟩:=h
  obtain ⟨q1,q2⟩:=hk _ OY h1 h2
  exact ⟨p,xs,fq,e,q1,q2,bg.mv sf ss (λq hq=>hk q (O1 _ hq)) h3,rfl⟩
theorem bg.mv {K:OR} {H Hf H' aj:Hp} (sf:aN Hf aj):∀ (ss:List Sh) {xs:List V} {fp:List (Addr×List V)},(∀ q∈fp,H q.1=some (pl q.1 q.2)->Hf q.1=none->H' q.1=some (pl q.1 q.2)/\aj q.1=none)->bg K H Hf ss xs fp->bg K H' aj ss xs fp
 | [],_,_,_,h=>by simpa only [bg] using h
 | s::ss,_,_,hk,h=>by
  simp only [bg] at h |-
  obtain ⟨x,r,f1,f2,e,h1,h2,rfl⟩:=h
  exact ⟨x,r,f1,f2,e,di.mv sf s (λq hq=>hk q (Qk _ hq)) h1,bg.mv sf ss (λq hq=>hk q (Qs _ hq)) h2,rfl⟩
end
inductive Sl where
 | un
 | va (d:D)
 | ow (ds:List D)
 | oT (kvs:List (List Key×D))
 | oK (kvs:List (Key×D))
 | aw (a:Addr) (ds:List D)
 | aT (a:Addr) (kvs:List (List Key×D))
 | aK (a:Addr) (kvs:List (Key×D))
 | fo (s:Sh)
noncomputable def gW (K:OR) (H:Hp) {κ:Type}:List (κ×D)->List (κ×V)->Prop:=Paired λa b=>a.1=b.1/\Rep K H a.2 b.2
theorem gW.mono {K:OR} (e:aN H H') (h:gW K H ks xs):gW K H' ks xs :=
 Paired.G5 h λa b z=>⟨z.1,Rep.mono e _ z.2⟩
noncomputable def mF (K:OR) (H:Hp):List (List Key×D)->List (List Key×Addr×V)->Prop:=Paired λa b=>a.1=b.1/\cU K H b.2.1 (a.1.map kV)/\Rep K H a.2 b.2.2
theorem mF.mono {K:OR} (e:aN H H') (h:mF K H ks xs):mF K H' ks xs :=
 Paired.G5 h λa b z=>⟨z.1,az e z.2.1,Rep.mono e _ z.2.2⟩
noncomputable def bz (K:OR) (fr:Addr->Prop) (H Hf:Hp):Sl->V->Prop
 | .un,_=>False
 | .va d,v=>Rep K Hf d v
 | .ow ds,v=>∃ p xs,v=.ref p/\fr p/\H p=some (.lst xs)/\Hf p=none/\aq K Hf ds xs
 | .oT kvs,v=>∃ p xs,v=.ref p/\fr p/\H p=some (.dT xs)/\Hf p=none/\mF K Hf kvs xs
 | .oK kvs,v=>∃ p xs,v=.ref p/\fr p/\H p=some (.dK xs)/\Hf p=none/\gW K Hf kvs xs
 | .aw a ds,v=>∃ p xs,v=.ref p/\(fr p/\p=a)/\H p=some (.lst xs)/\Hf p=none/\aq K Hf ds xs
 | .aT a kvs,v=>∃ p xs,v=.ref p/\(fr p/\p=a)/\H p=some (.dT xs)/\Hf p=none/\mF K Hf kvs xs
 | .aK a kvs,v=>∃ p xs,v=.ref p/\(fr p/\p=a)/\H p=some (.dK xs)/\Hf p=none/\gW K Hf kvs xs
 | .fo s,v=>∃ fp,di K H Hf s v fp/\(fp.map (·.1)).Nodup/\∀ a∈fp,fr a.1
noncomputable def Sl.owned:Sl->Bool
 | .ow _=>true | .oT _=>true | .oK _=>true | .aw _ _=>true | .aT _ _=>true | .aK _ _=>true | _=>false
structure bw (H Hf H' aj:Hp):Prop where
 s:aN H H'
 f:aN Hf aj
 b:aN aj H'
 n:∀ b,Hf b=none->H b≠none->(∀ xs,H b≠some (.tup xs))->aj b=none
theorem bw.refl (b:aN Hf H):bw H Hf H Hf:=⟨.refl _,.refl _,b,λ_ h _ _=>h⟩
theorem bw.trans (a:bw H Hf H1 aV) (b:bw H1 aV H2 cN):bw H Hf H2 cN :=
 ⟨a.s.trans b.s,a.f.trans b.f,b.b,λc h1 h2 h3=>by
   cases q:H c with
   | none=>exact absurd q h2
   | some o =>
    have e:=a.s c o q
    exact b.n c (a.n c h1 h2 h3) (by rw [e]; simp) (by intro xs; rw [e,<- q]; exact h3 xs)⟩
theorem bw.new (b:aN Hf H) (hp:H p=none):bw H Hf (upd H p o) (upd Hf p o):=by
 have hf:Hf p=none:=b.free hp
 refine ⟨λc u h=>?_,λc u h=>?_,λc u h=>?_,λc h1 h2 _=>?_⟩
 ·rw [ai (aD h hp)]; exact h
 ·rw [ai (aD h hf)]; exact h
 ·by_cases e:c=p
  ·subst e; rw [af] at h |-; exact h
  ·rw [ai e] at h |-; exact b c u h
 ·by_cases e:c=p
  ·subst e; exact absurd hp h2
  ·rw [ai e]; exact h1
theorem bw.fU (b:aN Hf H) (hp:H p=none):bw H Hf (upd H p o) Hf :=
 ⟨(bw.new b hp (o:=o)).s,.refl _,λc u h=>(bw.new b hp (o:=o)).s c u (b c u h),λ_ h _ _=>h⟩
inductive At {α:Type}:List α->Nat->α->Prop where
 | z {x:α} {l:List α}:At (x::l) 0 x
 | s {x y:α} {l:List α} {i:Nat}:At l i x->At (y::l) (i+1) x
theorem At.get (h:At l i x):l[i]?=some x:=by
 induction h with
 | z=>rfl
 | s _ ih=>simpa using ih
theorem At.mem (h:At l i x):x∈l:=QG h.get
inductive SSet {α:Type}:List α->Nat->α->List α->Prop where
 | z {x r:α} {l:List α}:SSet (x::l) 0 r (r::l)
 | s {r y:α} {l l':List α} {i:Nat}:SSet l i r l'->SSet (y::l) (i+1) r (y::l')
theorem SSet.eq (h:SSet l i r l'):l'=l.set i r:=by
 induction h with
 | z=>rfl
 | s _ ih=>simp [ih]
structure d9 (K:OR) (H₀ eT:Hp) (σ:L2.St) (H Hf:Hp) (ρ:List Sl):Prop where
 bas:bw H₀ eT H Hf
 len:σ.length=ρ.length
 at_:∀ (i:Nat) (r:Sl),ρ[i]?=some r->r≠.un->∃ v,σ[i]?=some (some v)/\bz K (λp=>H₀ p=none) H Hf r v
 sep:∀ (i j:Nat) (r r':Sl) (p:Addr),i≠j->ρ[i]?=some r->ρ[j]?=some r'->r.owned=true->r'.owned=true->σ[i]?=some (some (.ref p))->σ[j]?≠some (some (.ref p))
structure K5 (P:Program) (w:World) (outer:List Env) (H:Hp) (s:Shared) (a C:Addr) (H':Hp) (s':Shared):Prop where
 os:s'.os=s.os
 bare:AllBare s'.gens
 un:Un (frs outer) [] H H' s.heap s'.heap
 hok:je P w H' s'.heap
 new:s.heap.get? a=none
 free:H' a=none
 fly:∃ (t:Addr) (B:Heap),Heap.FlyingW B outer a (.ref C) (.ref t) s'.heap/\(∀ b o,s.heap.get? b=some o->b∉frs outer->∃ o',s'.heap.get? b=some o'/\B.get? b=some o') /\
  ∀ b o,H' b≠none->s'.heap.get? b=some o->B.get? b=some o
noncomputable def cV (P:Program) (w:World):HK:=λouter H s E e s'=>∃ a C H',e=.ref a/\K5 P w outer H s a C H' s'/\E (.ref C) (some a) H'
set_option genInjectivity false in
structure Ctx (P:Program) (w:World) (K:OR) (mg:Str->Option Value) (base:Heap) (k:Nat) (N:List Str) (sc:Scope) (bk:Bool) where
 X:Cx
 eP:X.prog=P
 ew:X.w=w
 eK:X.K=K
 emg:X.mg=mg
 eb:X.base=base
 eN:X.N=N
 esc:X.env.scope=sc
 calm:X.calm=true
 top:bk=false->X.stack=X.env::X.outer/\X.env.frame=some X.env.locals/\X.ex=[]
 cb:bk=false->∀ (aa:List (Addr×Obj)) (σ:L2.St) (H:Hp) (s:Shared),Inv X aa σ H s->∀ (x:Str) (c:Addr),X.env.cells.lookup x=some c->X.s₀.heap.objs.size<=c
 fn:∀ x,bk=false\/sc.names.lookup x=some .local->X.fn x=true\/X.env.scope.names.lookup x=some .local
 room:gK k X.A
 nd:N.Nodup
 vis:∀ x∈N,Loc sc x
 Hf:Hp
 B:Hp
 RX:Addr->List Sl->Prop
 exc:∀ (C a:Addr) (aa:List (Addr×Obj)) (σ:L2.St) (H aj:Hp) (ρ:List Sl) (s:Shared) (H':Hp) (s':Shared),Inv X aa σ H s->d9 X.K B Hf σ H aj ρ->RX C ρ->K5 X.prog X.w X.stack H s a C H' s'->aN H H'->X.xe (.ref a) s'
 RM:Addr->List Sl->Prop
 mde:∀ (C a:Addr) (aa:List (Addr×Obj)) (σ:L2.St) (H aj:Hp) (ρ:List Sl) (s:Shared) (h':Heap) (us:List Value),Inv X aa σ H s->d9 X.K B Hf σ H aj ρ->RM C ρ->Heap.MadeExcOf s.heap h' a (.ref C) us->X.xe (.ref a) { s with heap:=h' }
noncomputable def Sl.NK:Sl->Bool | .fo _=>true | _=>false
abbrev qB {α:Type} (fr:Addr->Prop) (H Hf:Hp) (o:α->HO) (R:α->Prop) (v:V):Prop:=∃ (p:Addr) (xs:α),v=.ref p/\fr p/\H p=some (o xs)/\Hf p=none/\R xs
theorem qB.Km (h:qB fr H Hf o R v) (hk:∀ p,v=.ref p->∀ u,(∀ ys,u≠.tup ys)->H p=some u->Hf p=none->H' p=some u/\aj p=none) (ho:∀ xs ys,o xs≠.tup ys) (hR:∀ xs,R xs->R' xs):qB fr H' aj o R' v:=by
 obtain ⟨p,xs,e,f,h1,h2,h3⟩:=h
 exact ⟨p,xs,e,f,(hk p e _ (ho xs) h1 h2).1,(hk p e _ (ho xs) h1 h2).2,hR xs h3⟩
theorem qB.Kn (h:qB fr H Hf o R v) (hf:∀ p,fr p->fr' p):qB fr' H Hf o R v :=
 let ⟨p,xs,e,f,h⟩:=h; ⟨p,xs,e,hf p f,h⟩
theorem bz.mv {K:OR} {B:Addr->Prop} (sf:aN Hf aj) (hk:∀ q o,¬ B q->H q=some o->(∀ xs,o≠.tup xs)->Hf q=none->H' q=some o/\aj q=none):∀ {r:Sl} {v:V},
 (r.NK=true->∀ q,B q->¬ Ao H q)->(r.owned=true->∀ q,v=.ref q->¬ B q)->bz K fr H Hf r v->bz K fr H' aj r v
 | .un,_,_,_,h=>h
 | .va d,_,_,_,h=>Rep.mono sf d h
 | .ow ds,_,_,hv,h=>qB.Km h (λp e o z ho hf=>hk p o (hv rfl p e) ho z hf) (λ_ _ z=>by cases z) λ_ h=>h.mono sf
 | .oT kvs,_,_,hv,h=>qB.Km h (λp e o z ho hf=>hk p o (hv rfl p e) ho z hf) (λ_ _ z=>by cases z) λ_ h=>h.mono sf
 | .oK kvs,_,_,hv,h=>qB.Km h (λp e o z ho hf=>hk p o (hv rfl p e) ho z hf) (λ_ _ z=>by cases z) λ_ h=>h.mono sf
 | .aw a ds,_,_,hv,h=>qB.Km h (λp e o z ho hf=>hk p o (hv rfl p e) ho z hf) (λ_ _ z=>by cases z) λ_ h=>h.mono sf
 | .aT a kvs,_,_,hv,h=>qB.Km h (λp e o z ho hf=>hk p o (hv rfl p e) ho z hf) (λ_ _ z=>by cases z) λ_ h=>h.mono sf
 | .aK a kvs,_,_,hv,h=>qB.Km h (λp e o z ho hf=>hk p o (hv rfl p e) ho z hf) (λ_ _ z=>by cases z) λ_ h=>h.mono sf
 | .fo s,_,hB,_,⟨fp,h1,h2,h3⟩=>⟨fp,di.mv sf s (λq _ e1 e2=>hk q.1 _ (λb=>hB rfl q.1 b ⟨q.2,e1⟩) e1 (by intro ys z; cases z) e2) h1,h2,h3⟩
theorem bz.cC {K:OR} (g:bw H Hf H' aj) (h:bz K fr H Hf r v):bz K fr H' aj r v :=
 bz.mv (B:=λ_=>False) g.f (λq o _ e1 e2 e3=>⟨g.s _ _ e1,g.n q e3 (by rw [e1]; simp) λxs z=>e2 xs (by rw [e1] at z; exact QI z)⟩) (λ_ _ z=>z.elim) (λ_ _ _ z=>z) h
theorem bz.weak {K:OR} (hf:∀ p,fr p->fr' p):∀ {r:Sl} {v:V},bz K fr H Hf r v->bz K fr' H Hf r v
 | .un,_,h=>h
 | .va d,_,h=>h
 | .ow ds,_,h=>qB.Kn h hf
 | .oT ds,_,h=>qB.Kn h hf
 | .oK ds,_,h=>qB.Kn h hf
 | .aw a ds,_,h=>qB.Kn h λp f=>⟨hf p f.1,f.2⟩
 | .aT a ds,_,h=>qB.Kn h λp f=>⟨hf p f.1,f.2⟩
 | .aK a ds,_,h=>qB.Kn h λp f=>⟨hf p f.1,f.2⟩
 | .fo s,_,⟨fp,h1,h2,h3⟩=>⟨fp,h1,h2,λa ha=>hf _ (h3 a ha)⟩
section
variable {K:OR}
def Ctx.fr (c:Ctx P w K mg base k N sc bk) (p:Addr):Prop:=c.B p=none
abbrev bF (c:Ctx P w K mg base k N sc bk) (σ:L2.St) (H Hf:Hp) (ρ:List Sl):Prop:=d9 c.X.K c.B c.Hf σ H Hf ρ
theorem d9.cC (S:d9 K H₀ eT σ H Hf ρ) (g:bw H Hf H' aj):d9 K H₀ eT σ H' aj ρ :=
 ⟨S.bas.trans g,S.len,λi r h hr=>let ⟨v,e,q⟩:=S.at_ i r h hr; ⟨v,e,q.cC g⟩,S.sep⟩
theorem d9.sb (S:d9 K H₀ eT σ H Hf ρ):aN Hf H:=S.bas.b
theorem d9.va (S:d9 K H₀ eT σ H Hf ρ) {i:Nat} (h:ρ[i]?=some (.va d)):∃ v,σ[i]?=some (some v)/\Rep K Hf d v:=S.at_ i _ h (by simp)
theorem d9.set (S:d9 K H₀ eT σ H Hf ρ) (g:bw H Hf H1 aV) (hr:bz K (λp=>H p=none) H1 aV r v) :
 d9 K H₀ eT (σ.set i (some v)) H1 aV (ρ.set i r):=by
 have S1:=S.cC g
 have fr0:∀ p,H p=none->H₀ p=none:=λp h=>S.bas.s.free h
 have fresh:∀ p,r.owned=true->v=.ref p->H p=none:=λp ho e=>by
  subst e
  cases r with
  | un=>cases ho
  | va d=>cases ho
  | ow ds=>obtain ⟨p',xs,e,h,_⟩:=hr; cases e; exact h
  | oT ds=>obtain ⟨p',xs,e,h,_⟩:=hr; cases e; exact h
  | oK ds=>obtain ⟨p',xs,e,h,_⟩:=hr; cases e; exact h
  | aw a ds=>obtain ⟨p',xs,e,h,_⟩:=hr; cases e; exact h.1
  | aT a ds=>obtain ⟨p',xs,e,h,_⟩:=hr; cases e; exact h.1
  | aK a ds=>obtain ⟨p',xs,e,h,_⟩:=hr; cases e; exact h.1
  | fo s=>cases ho
 have old:∀ (j:Nat) (r':Sl) (p:Addr),ρ[j]?=some r'->r'.owned=true->σ[j]?=some (some (.ref p))->H p≠none:=λj r' p h ho hs=>by
  obtain ⟨v',e,q⟩:=S.at_ j r' h (by rintro rfl; cases ho)
  rw [hs] at e; cases e
  cases r' with
  | un=>cases ho
  | va d=>cases ho
  | ow ds=>obtain ⟨p',xs,e,_,h,_⟩:=q; cases e; rw [h]; simp
  | oT ds=>obtain ⟨p',xs,e,_,h,_⟩:=q; cases e; rw [h]; simp
  | oK ds=>obtain ⟨p',xs,e,_,h,_⟩:=q; cases e; rw [h]; simp
  | aw a ds=>obtain ⟨p',xs,e,_,h,_⟩:=q; cases e; rw [h]; simp
  | aT a ds=>obtain ⟨p',xs,e,_,h,_⟩:=q; cases e; rw [h]; simp
  | aK a ds=>obtain ⟨p',xs,e,_,h,_⟩:=q; cases e; rw [h]; simp
  | fo s=>cases ho
 refine ⟨S1.bas,by simp [S.len],λj r' hj hu=>?_,λj j' r1 r2 p hne h1 h2 o1 o2 e1 e2=>?_⟩
 ·by_cases q:j=i
  ·subst q
   have hi:j<ρ.length:=by
    have:=(O6.mp hj).1
    simpa using this
   rw [Qq hi] at hj; cases hj
   exact ⟨v,Qq (by rw [S.len]; exact hi),hr.weak fr0⟩
  ·rw [Qn (Pe q)] at hj |-
   exact S1.at_ j r' hj hu
 ·have hlt:∀ {j:Nat} {r:Sl},(ρ.set i r)[j]?=some r->j<ρ.length:=λ{j r} h=>by
   have:=(O6.mp h).1
   simpa using this
  by_cases q1:j=i
  ·subst q1
   have hi:j<ρ.length:=by have:=(O6.mp h1).1; simpa using this
   rw [Qq hi] at h1; cases h1
   rw [Qq (by rw [S.len]; exact hi)] at e1
   rw [Qn hne] at h2 e2
   exact old j' r2 p h2 o2 e2 (fresh p o1 (by simpa using e1))
  ·by_cases q2:j'=i
   ·subst q2
    have hi:j'<ρ.length:=by have:=(O6.mp h2).1; simpa using this
    rw [Qq hi] at h2; cases h2
    rw [Qq (by rw [S.len]; exact hi)] at e2
    rw [Qn (Pe hne)] at h1 e1
    exact old j r1 p h1 o1 e1 (fresh p o2 (by simpa using e2))
   ·rw [Qn (Pe q1)] at h1 e1
    rw [Qn (Pe q2)] at h2 e2
    exact S.sep j j' r1 r2 p hne h1 h2 o1 o2 e1 e2
theorem d9.weak (S:d9 K H₀ eT σ H Hf ρ) (hl:ρ'.length=ρ.length) (h:∀ (i:Nat) (r:Sl),ρ'[i]?=some r->r≠.un->ρ[i]?=some r):d9 K H₀ eT σ H Hf ρ' :=
 ⟨S.bas,by rw [S.len,hl],λi r e hu=>S.at_ i r (h i r e hu) hu,λi j r r' p hne h1 h2 o1 o2=>S.sep i j r r' p hne (h i r h1 (by rintro rfl; cases o1)) (h j r' h2 (by rintro rfl; cases o2)) o1 o2⟩
end
section
variable {P:Program} {w:World} {K:OR} {mg:Str->Option Value} {base:Heap} {k:Nat} {N:List Str} {sc:Scope} {bk:Bool}
noncomputable def bE (X:Cx) (e:Expr):TE:=λσ H Q=>∀ aa s,Inv X aa σ H s->wpAny (model X.prog X.w) X.A (eval e X.env) (EP X aa σ Q) X.xe s
theorem cG:PE X e (bE X e):=λaa s σ H Q I h=>h aa s I
theorem ck (h:PE X e t) (q:t σ H Q):bE X e σ H Q:=λaa s I=>h aa s σ H Q I q
noncomputable def bT (X:Cx) (e:Expr):TT:=λσ H Q=>∀ aa s,Inv X aa σ H s->wpAny (model X.prog X.w) X.A (isTrue e X.env (eval e X.env)) (TP X aa σ Q) X.xe s
theorem Gi:PT X e (bT X e):=λaa s σ H Q I h=>h aa s I
theorem kL (h:PT X e t) (q:t σ H Q):bT X e σ H Q:=λaa s I=>h aa s σ H Q I q
noncomputable def bA (X:Cx) (es:List Expr):TA:=λσ H Q=>∀ pos aa s,Inv X aa σ H s->wpAny (model X.prog X.w) X.A (spliced (backTo pos (starEach es X.env))) (AP X aa σ Q) X.xe s
theorem Gj:PA X es (bA X es):=λpos aa s σ H Q I h=>h pos aa s I
theorem vI (h:PA X es t) (q:t σ H Q):bA X es σ H Q:=λpos aa s I=>h pos aa s σ H Q I q
noncomputable def bS (X:Cx) (st:Stmt):TS:=λD σ H=>∀ aa s,Inv X aa σ H s->wpAny (model X.prog X.w) X.A (exec st X.env) (SP X aa D) X.xe s
theorem OG {st:Stmt}:PS X st (bS X st):=λaa s σ H D I h=>h aa s I
theorem cW {st:Stmt} (h:PS X st t) {D:Ends} (q:t D σ H):bS X st D σ H:=λaa s I=>h aa s σ H D I q
noncomputable def Ic (X:Cx) (st:List Stmt):TS:=λD σ H=>∀ aa s,Inv X aa σ H s->wpAny (model X.prog X.w) X.A (execs st X.env) (SP X aa D) X.xe s
theorem qQ {st:List Stmt}:tH X st (Ic X st):=λaa s σ H D I h=>h aa s I
theorem Aq {st:List Stmt} (h:tH X st t) {D:Ends} (q:t D σ H):Ic X st D σ H:=λaa s I=>h aa s σ H D I q
noncomputable def bG (X:Cx) (tg:Expr):TG:=λv σ H Q=>∀ aa s u,Inv X aa σ H s->RelV v u->wpAny (model X.prog X.w) X.A (assign tg X.env u) (λ_ s'=>∃ σ' H',Inv X aa σ' H' s'/\Q σ' H') X.xe s
theorem OH:PG X tg (bG X tg):=λaa s σ H v u Q I r h=>h aa s u I r
theorem Gk (h:PG X tg t) (q:t v σ H Q):bG X tg v σ H Q:=λaa s u I r=>h aa s σ H v u Q I r q
variable (c:Ctx P w K mg base k N sc bk)
def dP (e:Expr) (ρ:List Sl) (R:Sl->Prop):Prop :=
 ∀ (σ:L2.St) (H Hf:Hp) (Q:VK),bF c σ H Hf ρ->(∀ r v H' aj,R r->bz c.X.K (λp=>H p=none) H' aj r v->bw H Hf H' aj->Q v H')->bE c.X e σ H Q
def aJ (e:Expr) (ρ:List Sl) (R:D->Prop):Prop :=
 ∀ (σ:L2.St) (H Hf:Hp) (Q:VK),bF c σ H Hf ρ->(∀ d v H' aj,R d->Rep c.X.K aj d v->bw H Hf H' aj->Q v H')->bE c.X e σ H Q
def gX (e:Expr) (ρ:List Sl) (R:Bool->Prop):Prop :=
 ∀ (σ:L2.St) (H Hf:Hp) (Q:Bool->Hp->Prop),bF c σ H Hf ρ->(∀ b H' aj,R b->bw H Hf H' aj->Q b H')->bT c.X e σ H Q
def qR (es:List Expr) (ρ:List Sl) (R:List D->Prop):Prop :=
 ∀ (σ:L2.St) (H Hf:Hp) (Q:List V->Hp->Prop),bF c σ H Hf ρ->(∀ ds vs H' aj,R ds->aq c.X.K aj ds vs->bw H Hf H' aj->Q vs H')->bA c.X es σ H Q
structure Pt where
 rt:Sl->Prop
 bk:List Sl->Prop:=λ_=>False
 ct:List Sl->Prop:=λ_=>False
structure Ar (nx:List Sl->Prop) (p:Pt) (D:Ends):Prop where
 nx:∀ σ H Hf ρ,bF c σ H Hf ρ->nx ρ->D.nx σ H
 rt:∀ r v H Hf,bw c.B c.Hf H Hf->bz c.X.K c.fr H Hf r v->p.rt r->D.rt v H
 bk:∀ σ H Hf ρ,bF c σ H Hf ρ->p.bk ρ->D.bk σ H
 ct:∀ σ H Hf ρ,bF c σ H Hf ρ->p.ct ρ->D.ct σ H
def fX (st:Stmt) (ρ:List Sl) (nx:List Sl->Prop) (p:Pt):Prop :=
 ∀ (σ:L2.St) (H Hf:Hp) (D:Ends),bF c σ H Hf ρ->Ar c nx p D->bS c.X st D σ H
def aH (st:List Stmt) (ρ:List Sl) (nx:List Sl->Prop) (p:Pt):Prop :=
 ∀ (σ:L2.St) (H Hf:Hp) (D:Ends),bF c σ H Hf ρ->Ar c nx p D->Ic c.X st D σ H
def o9 (tg:Expr) (d:D) (ρ:List Sl) (R:List Sl->Prop):Prop :=
 ∀ (σ:L2.St) (H Hf:Hp) (v:V) (Q:L2.St->Hp->Prop),bF c σ H Hf ρ->Rep c.X.K Hf d v->(∀ σ' H' aj ρ',bF c σ' H' aj ρ'->bw H Hf H' aj->R ρ'->Q σ' H')->bG c.X tg v σ H Q
variable {c}
noncomputable def Sl.fz:Sl->Option D
 | .va d=>some d
 | .ow ds=>some (.lst ds)
 | _=>none
def Ie (R:D->Prop) (r:Sl):Prop:=∃ d,r.fz=some d/\R d
theorem Ig (e:r.fz=some d) (h:bz K (λp=>H p=none) H' aj r v) (g:bw H Hf H' aj) :
 ∃ cN,Rep K cN d v/\bw H Hf H' cN:=by
 cases r with
 | un=>cases e
 | va d'=>cases e; exact ⟨aj,h,g⟩
 | oT _=>cases e
 | oK _=>cases e
 | aw _ _=>cases e
 | aT _ _=>cases e
 | aK _ _=>cases e
 | fo _=>cases e
 | ow ds =>
  cases e
  obtain ⟨p,xs,rfl,hp,h1,h2,h3⟩:=h
  have sf:aN aj (upd aj p (.lst xs)):=λb o e=>by rw [ai (aD e h2)]; exact e
  have sb:aN (upd aj p (.lst xs)) H':=λb o e=>by
   by_cases q:b=p
   ·subst q; rw [af] at e; rw [h1]; exact e
   ·rw [ai q] at e; exact g.b b o e
  refine ⟨upd aj p (.lst xs),br.mpr ⟨p,xs,rfl,.inl (.inl af),h3.mono sf⟩,g.s,g.f.trans sf,sb,λb q1 q2 q3=>?_⟩
  have e:=g.n b q1 q2 q3
  by_cases q:b=p
  ·subst q; exact absurd hp q2
  ·rw [ai q]; exact e
theorem e_x (h:dP c e ρ (Ie R)):aJ c e ρ R:=λσ H Hf Q S q =>
 h σ H Hf Q S λr v H' aj ⟨d,e1,rd⟩ rs g=>let ⟨cN,h1,g2⟩:=Ig e1 rs g; q d v H' cN rd h1 g2
theorem K6 (h:aJ c e ρ λd=>R (.va d)):dP c e ρ R:=λσ H Hf Q S q =>
 h σ H Hf Q S λd v H' aj rd h1 g=>q (.va d) v H' aj rd h1 g
theorem aJ.imp (h:aJ c e ρ R) (hi:∀ d,R d->R' d):aJ c e ρ R':=λσ H Hf Q S q=>h σ H Hf Q S λd v H' aj rd=>q d v H' aj (hi d rd)
theorem dP.imp (h:dP c e ρ R) (hi:∀ d,R d->R' d):dP c e ρ R':=λσ H Hf Q S q=>h σ H Hf Q S λd v H' aj rd=>q d v H' aj (hi d rd)
theorem gX.imp (h:gX c e ρ R) (hi:∀ d,R d->R' d):gX c e ρ R':=λσ H Hf Q S q=>h σ H Hf Q S λd H' aj rd=>q d H' aj (hi d rd)
theorem vJ (hN:At N i x) (hs:At ρ i (.va d)) (hR:R d)
 (hd:(x == ("__debug__":Str))=false:=by decide) (hcd:(x == ("__classdict__":Str))=false:=by decide) :
 aJ c (.Name x pos) ρ R:=λσ H Hf Q S q=>by
 obtain ⟨v,e,r⟩:=S.va hs.get
 exact ck (tP (X:=c.X) (i:=i) (by rw [c.eN]; exact hN.get) (by rw [c.esc]; rcases c.vis x hN.mem with h | h; exact .inl h; exact .inr (.inl h)) hd hcd) ⟨v,e,q d v H Hf hR r (.refl S.sb)⟩
theorem K7 (hR:R (.int i)):aJ c (.Constant (.int i) j pos) ρ R:=λσ H Hf Q S q =>
 ck G7 (q _ _ H Hf hR (au.mpr rfl) (.refl S.sb))
theorem K8 (hR:R .non):aJ c (.Constant .none j pos) ρ R:=λσ H Hf Q S q =>
 ck G8 (q _ _ H Hf hR (bL.mpr rfl) (.refl S.sb))
theorem kM (hm:mg x=some (.int i t)) (hR:R (.int i)) (hg:sc.names.lookup x=some .globalImplicit:=by walk_at "u") (hd:(x == ("__debug__":Str))=false:=by decide) :
 aJ c (.Name x pos) ρ R:=λσ H Hf Q S q =>
 ck (Du (X:=c.X) (v:=.int i) (u:=.int i t) (by unfold Gl P8; rw [c.esc]; exact hg) (by rw [c.emg]; exact hm) ⟨t,rfl⟩ hd) (q _ _ H Hf hR (au.mpr rfl) (.refl S.sb))
def MJ (K:OR) (r:R2) (p:D->D->(Sl->Prop)->Prop):Prop :=
 ∀ (x y:D) (v u:V) (H Hf:Hp) (Q:VK) (R:Sl->Prop),aN Hf H->Rep K Hf x v->Rep K Hf y u->p x y R ->
  (∀ z v' H' aj,R z->bz K (λp=>H p=none) H' aj z v'->bw H Hf H' aj->Q v' H')->r v u H Q
theorem kN (ho:fm c.X (binaryOp op) r) (hd:MJ c.X.K r p)
 (h:aJ c a ρ λx=>aJ c b ρ λy=>p x y R):dP c (.BinOp a op b pos) ρ R:=λσ H Hf Q S q =>
 ck (Ge ho cG cG) (h σ H Hf _ S λx v1 H1 aV h1 r1 g1=>h1 σ H1 aV _ (S.cC g1) λy v2 H2 cN h2 r2 g2 =>
  hd x y v1 v2 H2 cN Q R g2.b (Rep.mono g2.f x r1) r2 h2 λz v' H' aj hz rz g3 =>
   q z v' H' aj hz (rz.weak λp hp=>(g1.trans g2).s.free hp) ((g1.trans g2).trans g3))
theorem jJ {f:Int->Int->Int}:MJ K (rI C λi j=>.int (f i j)) λx y R=>∃ i j,x=.int i/\y=.int j/\C i j/\R (.va (.int (f i j))):=by
 rintro x y v u H Hf Q R s rx ry ⟨i,j,rfl,rfl,hC,hR⟩ q
 rw [au] at rx ry
 exact ⟨i,j,rx,ry,hC,q (.va (.int (f i j))) _ H Hf hR (show Rep K Hf (.int (f i j)) _ from au.mpr rfl) (.refl s)⟩
theorem As {f:Int->Int->Int}:MJ K (x8 λi j=>.int (f i j)) λx y R=>∃ i j,x=.int i/\y=.int j/\R (.va (.int (f i j))):=by
 rintro x y v u H Hf Q R s rx ry ⟨i,j,rfl,rfl,hR⟩ q
 rw [au] at rx ry
 exact ⟨i,j,rx,ry,q (.va (.int (f i j))) _ H Hf hR (show Rep K Hf (.int (f i j)) _ from au.mpr rfl) (.refl s)⟩
theorem f9 (h:dP c e ρ λr=>∃ d,r=.va d/\R d):aJ c e ρ R:=e_x (h.imp λr ⟨d,e,hr⟩=>⟨d,by subst e; rfl,hr⟩)
noncomputable def jK:D->D->Bool
 | .non,.non=>true | .non,.int _=>true | .int _,.non=>true | .non,.bl _=>true | .bl _,.non=>true | .non,.str _=>true | .str _,.non=>true
 | .int _,.int _=>true | .bl _,.bl _=>true | .str _,.str _=>true | .int _,.str _=>true | .str _,.int _=>true | .bl _,.str _=>true | .str _,.bl _=>true
 | _,_=>false
noncomputable instance:DecidableEq D:=λ_ _=>Classical.propDecidable _
inductive mR:Nat->D->D->Prop where
 | sc {n:Nat} {x y:D} (h:jK x y=true):mR n x y
 | tup {n:Nat} {ds es:List D} (h:∀ (i:Nat) (d e:D),ds[i]?=some d->es[i]?=some e->mR n d e):mR (n+1) (.tup ds) (.tup es)
 | lst {n:Nat} {ds es:List D} (h:∀ (i:Nat) (d e:D),ds[i]?=some d->es[i]?=some e->mR n d e):mR (n+1) (.lst ds) (.lst es)
 | ln {n:Nat} {ds:List D}:mR n (.lst ds) .non
 | nl {n:Nat} {ds:List D}:mR n .non (.lst ds)
 | tn {n:Nat} {ds:List D}:mR n (.tup ds) .non
 | nt {n:Nat} {ds:List D}:mR n .non (.tup ds)
def uc (ds es:List D):Prop:=∀ (i:Nat) (d e:D),ds[i]?=some d->es[i]?=some e->mR 40 d e
def K9 (x y:D):Prop:=jK x y=true\/∃ ds es,((x=.tup ds/\y=.tup es)\/(x=.lst ds/\y=.lst es))/\uc ds es
section
variable {a b:Expr} {pos:Pos} {ρ:List Sl} {R:D->Prop}
structure Sd (A B:Prop):Prop where
 s:A
 r:B
structure iF (A B:Prop) (x:Bool):Prop where
 t:x=true->A
 f:x=false->B
theorem if2 (h1:x=true->A) (h2:x=false->B):iF A B x:=⟨h1,h2⟩
theorem La (h1:A):iF A B true:=⟨λ_=>h1,λh=>by cases h⟩
theorem Lb (h1:B):iF A B false:=⟨λh=>(by cases h),λ_=>h1⟩
theorem DX (h1:p->A) (h2:¬ p->B):iF A B (@decide p i):=⟨λh=>h1 (of_decide_eq_true h),λh=>h2 (of_decide_eq_false h)⟩
theorem DY (h:iF B A x):iF A B (!x):=⟨λe=>h.f (by simpa using e),λe=>h.t (by simpa using e)⟩
def yf (x y:D) (T:Bool->Prop):Prop:=K9 x y/\T (decide (x=y))
theorem DZ (h:T (decide (i=j))):yf (.int i) (.int j) T:=⟨.inl rfl,by
 have e:decide (D.int i=D.int j)=decide (i=j):=by simp
 rw [e]; exact h⟩
theorem D3 (h:Sd (uc ds es) (T (decide (ds=es)))):yf (.tup ds) (.tup es) T:=⟨.inr ⟨ds,es,.inl ⟨rfl,rfl⟩,h.s⟩,by
 have e:decide (D.tup ds=D.tup es)=decide (ds=es):=by simp
 rw [e]; exact h.r⟩
theorem vK (h:Sd (uc ds es) (T (decide (ds=es)))):yf (.lst ds) (.lst es) T:=⟨.inr ⟨ds,es,.inr ⟨rfl,rfl⟩,h.s⟩,by
 have e:decide (D.lst ds=D.lst es)=decide (ds=es):=by simp
 rw [e]; exact h.r⟩
noncomputable def I2 (k:Int->Int->Prop):D->D->Prop:=λx y=>∃ i j,x=.int i/\y=.int j/\k i j
theorem i2 {k:Int->Int->Prop} (h:k i j):I2 k (.int i) (.int j):=⟨i,j,rfl,rfl,h⟩
noncomputable def I1 (k:Int->Prop):D->Prop:=λx=>∃ i,x=.int i/\k i
theorem i1 {k:Int->Prop} (h:k i):I1 k (.int i):=⟨i,rfl,h⟩
noncomputable def B1 (k:Bool->Prop):D->Prop:=λx=>∃ i,x=.bl i/\k i
theorem b1 {k:Bool->Prop} (h:k i):B1 k (.bl i):=⟨i,rfl,h⟩
theorem Gm (h:aJ c a ρ λx=>aJ c b ρ λy=>I2 (λi j=>R (.int (i - j))) x y):aJ c (.BinOp a .Sub b pos) ρ R :=
 f9 (kN Hz As (h.imp λx hx=>hx.imp λy ⟨i,j,e1,e2,r⟩=>⟨i,j,e1,e2,_,rfl,r⟩))
def MulOk (i j:Int):Prop:=IntMulOk i j
def Au (j:Int):Prop:=0<j/\j.natAbs.log2<9000
theorem D9:fm c.X (binaryOp .Mult) (rI MulOk λi j=>.int (i * j)):=Gf λ_ _ _ _ _ _ _ hc q=>mul_int q hc
theorem Av:fm c.X (binaryOp .FloorDiv) (rI (λ_ j=>Au j) λi j=>.int (i / j)):=Gf λi j _ _ _ _ _ hc q=>by
 have h1:(0:Int)<j:=hc.1
 exact floordiv_int (by lia) (by rw [Tw i (by lia)]; exact q) (.inl (UK hc.2))
theorem Aw:fm c.X (binaryOp .FloorDiv) (rI (λ_ j=>j≠0/\j.natAbs.log2<9000) λi j=>.int (i.fdiv j)):=Gf λi j _ _ _ _ _ hc q =>
 floordiv_int hc.1 q (.inl (UK hc.2))
theorem Lc (h:aJ c a ρ λx=>aJ c b ρ λy=>I2 (λi j=>Sd (MulOk i j) (R (.int (i * j)))) x y):aJ c (.BinOp a .Mult b pos) ρ R :=
 f9 (kN D9 jJ (h.imp λx hx=>hx.imp λy ⟨i,j,e1,e2,⟨hc,r⟩⟩=>⟨i,j,e1,e2,hc,_,rfl,r⟩))
theorem Ih (h:aJ c a ρ λx=>aJ c b ρ λy=>I2 (λi j=>Sd (Au j) (R (.int (i / j)))) x y):aJ c (.BinOp a .FloorDiv b pos) ρ R :=
 f9 (kN Av jJ (h.imp λx hx=>hx.imp λy ⟨i,j,e1,e2,⟨hc,r⟩⟩=>⟨i,j,e1,e2,hc,_,rfl,r⟩))
theorem vM (h:aJ c a ρ λx=>aJ c b ρ λy=>I2 (λi j=>Sd ((j≠0/\j.natAbs.log2<9000)) (R (.int (i.fdiv j)))) x y):aJ c (.BinOp a .FloorDiv b pos) ρ R :=
 f9 (kN Aw jJ (h.imp λx hx=>hx.imp λy ⟨i,j,e1,e2,⟨hc,r⟩⟩=>⟨i,j,e1,e2,hc,_,rfl,r⟩))
theorem Ld (h:aJ c a ρ λx=>aJ c b ρ λy=>I2 (λi j=>Sd (0<j) (R (.int (i % j)))) x y):aJ c (.BinOp a .Mod b pos) ρ R :=
 f9 (kN HA jJ (h.imp λx hx=>hx.imp λy ⟨i,j,e1,e2,⟨hc,r⟩⟩=>⟨i,j,e1,e2,hc,_,rfl,r⟩))
theorem Le (h:aJ c a ρ λx=>aJ c b ρ λy=>I2 (λi j=>Sd (zS i j) (R (.int (i ^ j.toNat)))) x y):aJ c (.BinOp a .Pow b pos) ρ R :=
 f9 (kN HB jJ (h.imp λx hx=>hx.imp λy ⟨i,j,e1,e2,⟨hc,r⟩⟩=>⟨i,j,e1,e2,hc,_,rfl,r⟩))
theorem Lf (h:aJ c a ρ (I1 λi=>R (.int (-i)))):aJ c (.UnaryOp .USub a pos) ρ R:=λσ H Hf Q S q =>
 ck (KJ HF cG) (h σ H Hf _ S λx v H' aj hx r g=>by
  obtain ⟨i,rfl,hR⟩:=hx
  rw [au] at r
  exact ⟨i,r,q _ _ H' aj hR (au.mpr rfl) g⟩)
def Ax (K:OR) (r:R2) (p:D->D->(Bool->Prop)->Prop):Prop :=
 ∀ (x y:D) (v u:V) (H Hf:Hp) (Q:VK) (R:Bool->Prop),aN Hf H->Rep K Hf x v->Rep K Hf y u->p x y R->(∀ b,R b->Q (.bl b) H)->r v u H Q
theorem Lg (ho:fm c.X (compareOp op) r) (hd:Ax c.X.K r p) (h:aJ c a ρ λx=>aJ c b ρ λy=>p x y λz=>R (.bl z))
 (hm:behindInMarks op b=false):aJ c (.Compare a [op] [b] pos) ρ R:=λσ H Hf Q S q =>
 ck (DE ho cG cG hm) (h σ H Hf _ S λx v1 H1 aV h1 r1 g1=>h1 σ H1 aV _ (S.cC g1) λy v2 H2 cN h2 r2 g2 =>
  hd x y v1 v2 H2 cN Q _ g2.b (Rep.mono g2.f x r1) r2 h2 λz hz=>q _ _ H2 cN hz (f7.mpr rfl) (g1.trans g2))
theorem vN (ho:fm c.X (compareOp op) r) (hd:Ax c.X.K r p) (h:aJ c a ρ λx=>aJ c b ρ λy=>p x y T)
 (hm:behindInMarks op b=false):gX c (.Compare a [op] [b] pos) ρ T:=λσ H Hf Q S q =>
 kL (DF ho cG cG hm) (h σ H Hf _ S λx v1 H1 aV h1 r1 g1=>h1 σ H1 aV _ (S.cC g1) λy v2 H2 cN h2 r2 g2 =>
  hd x y v1 v2 H2 cN _ T g2.b (Rep.mono g2.f x r1) r2 h2 λz hz=>⟨z,rfl,q _ H2 cN hz (g1.trans g2)⟩)
theorem Gn {f:Int->Int->Bool}:Ax K (x8 λi j=>.bl (f i j)) λx y R=>I2 (λi j=>R (f i j)) x y:=by
 rintro x y v u H Hf Q R s rx ry ⟨i,j,rfl,rfl,hR⟩ q
 rw [au] at rx ry
 exact ⟨i,j,rx,ry,q _ hR⟩
theorem vO (h:jK x y=true) (rx:Rep K H x v) (ry:Rep K H y u):DC v u=true/\decide (v=u)=decide (x=y):=by
 cases x <;> cases y <;> simp [jK] at h <;> simp only [au,f7,bL,dR] at rx ry <;> subst rx <;> subst ry <;> simp [DC]
theorem NL (h:aJ c a ρ λx=>aJ c b ρ λy=>I2 (λi j=>T (decide (i<j))) x y):gX c (.Compare a [.Lt] [b] pos) ρ T:=vN KP Gn h (kr b)
theorem NN (h:aJ c a ρ λx=>aJ c b ρ λy=>I2 (λi j=>T (decide (j<i))) x y):gX c (.Compare a [.Gt] [b] pos) ρ T:=vN KQ Gn h (kr b)
end
end
section
variable {K:OR} {c:Ctx P w K mg base k N sc bk}
variable {es rest:List Expr}
noncomputable def bW (X:Cx) (e:Expr):TT:=λσ H Q=>∀ whole aa s,Inv X aa σ H s->wpAny (model X.prog X.w) X.A (isTrue e X.env whole) (TP X aa σ Q) X.xe s
theorem Og:PW X e (bW X e):=λwhole aa s σ H Q I h=>h whole aa s I
theorem vP (h:PW X e t) (q:t σ H Q):bW X e σ H Q:=λwhole aa s I=>h whole aa s σ H Q I q
def Gp (c:Ctx P w K mg base k N sc bk) (e:Expr) (ρ:List Sl) (R:Bool->Prop):Prop :=
 ∀ (σ:L2.St) (H Hf:Hp) (Q:Bool->Hp->Prop),bF c σ H Hf ρ->(∀ b H' aj,R b->bw H Hf H' aj->Q b H')->bW c.X e σ H Q
theorem Oh (h:Gp c e ρ T):gX c e ρ T:=λσ H Hf Q S q aa s I=>h σ H Hf Q S q _ aa s I
theorem Ii (h:gX c a ρ T):Gp c (.BoolOp .And [a] pos) ρ T:=λσ H Hf Q S q=>vP (pw_and1 Gi) (h σ H Hf Q S q)
theorem Lh (h:gX c a ρ T):Gp c (.BoolOp .Or [a] pos) ρ T:=λσ H Hf Q S q=>vP (pw_or1 Gi) (h σ H Hf Q S q)
theorem w_and (h:gX c a ρ (iF (Gp c (.BoolOp .And (b::rest) pos) ρ T) (T false))):Gp c (.BoolOp .And (a::b::rest) pos) ρ T:=λσ H Hf Q S q =>
 vP (pw_and Gi Og) (h σ H Hf _ S λx H' aj hx g=>by
  cases x with
  | true=>exact hx.t rfl σ H' aj Q (S.cC g) λy H2 cN hy g2=>q y H2 cN hy (g.trans g2)
  | false=>exact q false H' aj (hx.f rfl) g)
theorem w_or (h:gX c a ρ (iF (T true) (Gp c (.BoolOp .Or (b::rest) pos) ρ T))):Gp c (.BoolOp .Or (a::b::rest) pos) ρ T:=λσ H Hf Q S q =>
 vP (pw_or Gi Og) (h σ H Hf _ S λx H' aj hx g=>by
  cases x with
  | false=>exact hx.f rfl σ H' aj Q (S.cC g) λy H2 cN hy g2=>q y H2 cN hy (g.trans g2)
  | true=>exact q true H' aj (hx.t rfl) g)
theorem Li (h:gX c a ρ λx=>T (!x)):gX c (.UnaryOp .Not a pos) ρ T:=λσ H Hf Q S q =>
 kL (Hh Gi) (h σ H Hf _ S λx H' aj hx g=>q _ H' aj hx g)
theorem Lj (h:aJ c a ρ R):aJ c (.BoolOp op [a] pos) ρ R:=λσ H Hf Q S q=>ck (Hi cG) (h σ H Hf Q S q)
theorem Lk (h:aJ c a ρ (B1 (iF (aJ c (.BoolOp .And (b::rest) pos) ρ R) (R (.bl false))))):aJ c (.BoolOp .And (a::b::rest) pos) ρ R:=λσ H Hf Q S q =>
 ck (Hj cG cG) (h σ H Hf _ S λx v H' aj ⟨k,e,h1⟩ r g=>by
  subst e
  rw [f7] at r
  refine ⟨k,r,?_⟩
  cases k with
  | true=>rw [if_pos rfl]; exact h1.t rfl σ H' aj Q (S.cC g) λy v2 H2 cN hy r2 g2=>q y v2 H2 cN hy r2 (g.trans g2)
  | false=>rw [if_neg O5]; exact q _ _ H' aj (h1.f rfl) (f7.mpr rfl) g)
theorem Ea {R:Sl->Prop} (h:gX c t ρ (iF (dP c a ρ R) (dP c b ρ R))):dP c (.IfExp t a b pos) ρ R:=λσ H Hf Q S q =>
 ck (zK Gi cG cG) (h σ H Hf _ S λx H' aj hx g=>by
  cases x with
  | true=>rw [if_pos rfl]; exact hx.t rfl σ H' aj Q (S.cC g) λy v2 H2 cN hy r2 g2=>q y v2 H2 cN hy (r2.weak λp hp=>g.s.free hp) (g.trans g2)
  | false=>rw [if_neg O5]; exact hx.f rfl σ H' aj Q (S.cC g) λy v2 H2 cN hy r2 g2=>q y v2 H2 cN hy (r2.weak λp hp=>g.s.free hp) (g.trans g2))
theorem Eb (h:gX c t ρ (iF (aJ c a ρ R) (aJ c b ρ R))):aJ c (.IfExp t a b pos) ρ R :=
 f9 (Ea (h.imp λx hx=>⟨λe=>K6 ((hx.t e).imp λd h=>⟨d,rfl,h⟩),λe=>K6 ((hx.f e).imp λd h=>⟨d,rfl,h⟩)⟩))
theorem Ll (h:aJ c e ρ (B1 T)) (he:∀ (env:Env) whole,isTrue e env whole=(do let v <- whole; standAt e.pos; holding [v] (truthy v)):=by intro _ _; walk_at "u"):gX c e ρ T:=λσ H Hf Q S q =>
 kL (Hg cG (he _)) (h σ H Hf _ S λx v H' aj ⟨k,e,h1⟩ r g=>by
  subst e; rw [f7] at r
  exact ⟨k,r,q k H' aj h1 g⟩)
theorem jL {R:List D->Prop} (h:R []):qR c [] ρ R:=λσ H Hf Q S q=>vI dh (q [] [] H Hf h (aF.mpr rfl) (.refl S.sb))
theorem eE {R:List D->Prop} (h:aJ c e ρ λd=>qR c es ρ λds=>R (d::ds)) (hs:∀ env,starEach (e::es) env=(false,eval e env)::starEach es env:=by intro _; walk_at "u"):qR c (e::es) ρ R:=λσ H Hf Q S q =>
 vI (bD cG Gj (hs _)) (h σ H Hf _ S λd v H1 aV h1 r1 g1=>h1 σ H1 aV _ (S.cC g1) λds vs H2 cN h2 r2 g2=>q _ _ H2 cN h2 (.cons (Rep.mono g2.f d r1) r2) (g1.trans g2))
theorem Ln (h:qR c es ρ λds=>Sd (ds.length<=sizeLine) (R (.tup ds))):aJ c (.Tuple es j pos) ρ R:=λσ H Hf Q S q =>
 ck (HH Gj) (h σ H Hf _ S λds vs H' aj ⟨hl,hR⟩ r g=>⟨by rw [<- r.length]; exact hl,λp hp=>by
  have g2:=bw.new g.b hp (o:=.tup vs)
  exact q _ _ _ _ hR (aO.mpr ⟨p,vs,rfl,.inl (.inl af),r.mono g2.f⟩) (g.trans g2)⟩)
theorem Gq {R:Sl->Prop} (h:qR c es ρ λds=>Sd (ds.length<=sizeLine) (R (.ow ds))):dP c (.List es pos) ρ R:=λσ H Hf Q S q =>
 ck (HJ Gj) (h σ H Hf _ S λds vs H' aj ⟨hl,hR⟩ r g=>⟨by rw [<- r.length]; exact hl,λp hp=>by
  have g2:=bw.fU g.b hp (o:=.lst vs)
  exact q _ _ _ _ hR ⟨p,vs,rfl,g.s.free hp,af,g.b.free hp,r⟩ (g.trans g2)⟩)
variable {st:Stmt}
theorem eF (h:nx ρ):aH c [] ρ nx p:=λσ H Hf D S o=>Aq Dw (o.nx σ H Hf ρ S h)
theorem ak (h:fX c st ρ (λρ'=>aH c sts ρ' nx p) p):aH c (st::sts) ρ nx p:=λσ H Hf D S o =>
 Aq (zL OG qQ) (h σ H Hf { D with nx:=Ic c.X sts D } S ⟨λσ' H' aj ρ' S' q=>q σ' H' aj D S' o,o.rt,o.bk,o.ct⟩)
theorem nG (h:dP c e ρ p.rt):fX c (.Return (some e) pos) ρ nx p:=λσ H Hf D S o =>
 cW (zM cG) (h σ H Hf _ S λr v H' aj hr rs g=>o.rt r v H' aj (S.bas.trans g) (rs.weak λp hp=>S.bas.s.free hp) hr)
theorem qS (hN:At N i x) (hi:At ρ i r) (hu:r.owned=true) (h:p.rt r)
 (hd:(x == ("__debug__":Str))=false:=by decide) (hcd:(x == ("__classdict__":Str))=false:=by decide) :
 fX c (.Return (some (.Name x pos2)) pos) ρ nx p:=λσ H Hf D S o=>by
 obtain ⟨v,e,rs⟩:=S.at_ i r hi.get (by rintro rfl; cases hu)
 exact cW (zM (tP (X:=c.X) (i:=i) (by rw [c.eN]; exact hN.get) (by rw [c.esc]; rcases c.vis x hN.mem with h | h; exact .inl h; exact .inr (.inl h)) hd hcd)) ⟨v,e,o.rt r v H Hf S.bas rs h⟩
theorem Ij (h:gX c t ρ (iF (aH c A ρ nx p) (aH c B ρ nx p))):fX c (.If t A B pos) ρ nx p:=λσ H Hf D S o =>
 cW (KA Gi qQ qQ) (h σ H Hf _ S λx H' aj hx g=>by
  cases x with
  | true=>rw [if_pos rfl]; exact hx.t rfl σ H' aj D (S.cC g) o
  | false=>rw [if_neg O5]; exact hx.f rfl σ H' aj D (S.cC g) o)
def Nx (ρ:List Sl) (i:Nat) (R:List Sl->Prop) (r:Sl):Prop:=∃ ρ',SSet ρ i r ρ'/\R ρ'
theorem qC {R:List Sl->Prop} (h:SSet ρ i r ρ') (hr:R ρ'):Nx ρ i R r:=⟨ρ',h,hr⟩
theorem qT (hN:At N i x) (h:dP c e ρ (Nx ρ i nx))
 (hs:∀ env,swapsWith e (some (.Name x pos2)) pos.line env=pure false:=by intro _; walk_at "u") (hf:bk=false\/sc.names.lookup x=some .local:=by first | exact .inl rfl | exact .inr (by walk_at "u")):fX c (.Assign [.Name x pos2] e pos) ρ nx p:=λσ H Hf D S o =>
 cW (zO (X:=c.X) (i:=i) (by rw [c.eN]; exact c.nd) (by rw [c.eN]; exact hN.get) (by rw [c.esc]; exact c.vis x hN.mem) cG (hs _) (c.fn x hf)) (h σ H Hf _ S λr v H' aj ⟨ρ',hs,hx⟩ rs g=>o.nx _ H' aj _ (hs.eq ▸ S.set g rs) hx)
theorem eG {R:List Sl->Prop} (hN:At N i x) (h:Nx ρ i R (.va d)) (hf:bk=false\/sc.names.lookup x=some .local:=by first | exact .inl rfl | exact .inr (by walk_at "u")):o9 c (.Name x pos) d ρ R:=λσ H Hf v Q S r q=>by
 obtain ⟨ρ',hs,h⟩:=h
 exact Gk (vA (X:=c.X) (i:=i) (by rw [c.eN]; exact c.nd) (by rw [c.eN]; exact hN.get) (by rw [c.esc]; exact c.vis x hN.mem) (c.fn x hf)) (q _ H Hf _ (hs.eq ▸ S.set (.refl S.sb) (r:=.va d) r) (.refl S.sb) h)
def yg (c:Ctx P w K mg base k N sc bk) (ts:List Expr) (ds:List D) (ρ:List Sl) (R:List Sl->Prop):Prop :=
 ∀ (σ:L2.St) (H Hf:Hp) (vs:List V) (Q:L2.St->Hp->Prop),bF c σ H Hf ρ->aq c.X.K Hf ds vs->(∀ σ' H' aj ρ',bF c σ' H' aj ρ'->bw H Hf H' aj->R ρ'->Q σ' H') ->
  ∀ aa s us,Inv c.X aa σ H s->Vals vs us->wpAny (model c.X.prog c.X.w) c.X.A (assignInOrder ((assignEach ts c.X.env).map (·.2)) us) (λ_ s'=>∃ σ' H',Inv c.X aa σ' H' s'/\Q σ' H') c.X.xe s
theorem Ay {R:List Sl->Prop} (h:R ρ):yg c [] [] ρ R:=λσ H Hf vs Q S r q aa s us I rv=>by
 rw [aF] at r; subst r
 exact Dy aa s σ H [] us Q I rv ⟨rfl,q σ H Hf ρ S (.refl S.sb) h⟩
theorem pe {R:List Sl->Prop} (hN:At N i x) (h:Nx ρ i (λρ'=>yg c ts ds ρ' R) (.va d))
 (hs:∀ env,(assignEach (.Name x pos::ts) env).map (·.2)=assign (.Name x pos) env::(assignEach ts env).map (·.2):=by intro _; walk_at "u") (hf:bk=false\/sc.names.lookup x=some .local:=by first | exact .inl rfl | exact .inr (by walk_at "u")):yg c (.Name x pos::ts) (d::ds) ρ R:=λσ H Hf vs Q S r q aa s us I rv=>by
 obtain ⟨ρ',hs',h⟩:=h
 rw [aG] at r
 obtain ⟨v,vr,rfl,r1,r2⟩:=r
 have hp:Kh c.X ts (λvs' σ' H' Q'=>∀ aa s us,Inv c.X aa σ' H' s->Vals vs' us->wpAny (model c.X.prog c.X.w) c.X.A (assignInOrder ((assignEach ts c.X.env).map (·.2)) us) (λ_ s'=>∃ σ'' H'',Inv c.X aa σ'' H'' s'/\Q' σ'' H'') c.X.xe s) :=
  λaa s σ H vs us Q I r h=>h aa s us I r
 refine zN (vA (X:=c.X) (i:=i) (by rw [c.eN]; exact c.nd) (by rw [c.eN]; exact hN.get) (by rw [c.esc]; exact c.vis x hN.mem) (c.fn x hf)) hp (hs _) aa s σ H _ us Q I rv ⟨v,vr,rfl,?_⟩
 have S1:=S.set (i:=i) (.refl S.sb) (r:=.va d) (v:=v) r1
 rw [<- hs'.eq] at S1
 exact h _ H Hf vr Q S1 r2 q
theorem Az {R:List Sl->Prop} (he:d=.tup ds) (hl:ds.length=ts.length) (h:yg c ts ds ρ R)
 (hn:∀ env,(assignEach ts env).length=ts.length:=by intro _; walk_at "u") (hst:∀ env,(assignEach ts env).findIdx? (·.1)=none:=by intro _; walk_at "u"):o9 c (.Tuple ts j pos) d ρ R:=λσ H Hf v Q S r q=>by
 subst he
 rw [aO] at r
 obtain ⟨a,xs,rfl,h1,h2⟩:=r
 have hp:Kh c.X ts (λvs' σ' H' Q'=>∀ aa s us,Inv c.X aa σ' H' s->Vals vs' us->wpAny (model c.X.prog c.X.w) c.X.A (assignInOrder ((assignEach ts c.X.env).map (·.2)) us) (λ_ s'=>∃ σ'' H'',Inv c.X aa σ'' H'' s'/\Q' σ'' H'') c.X.xe s) :=
  λaa s σ H vs us Q I r h=>h aa s us I r
 refine Gk (Ho (X:=c.X) (k:=j) (n:=ts.length) c.calm hp (hn _) (hst _)) ⟨a,xs,rfl,az S.sb h1,by rw [<- h2.length,hl],?_⟩
 exact h σ H Hf xs Q S h2 λσ' H' aj ρ' S' g' hR=>q σ' H' aj ρ' S' g' hR
theorem Lo (hNi:At N i x) (hNj:At N j y) (hij:i≠j) (h:aJ c a ρ λd1=>aJ c b ρ λd2=>Nx ρ i (λρ'=>Nx ρ' j nx (.va d2)) (.va d1))
 (hx:sc.names.lookup x=some .local:=by walk_at "u") (hy:sc.names.lookup y=some .local:=by walk_at "u")
 (hw:∀ env:Env,env.scope=sc->swappedStores [.Tuple [.Name x px,.Name y py] kt pt] (.Tuple [a,b] k2 pt2) env=pure (some [x,y]):=by (intro env he; cases env; cases he; walk_at "u"))
 (hs:∀ env,swapsWithSole [.Tuple [.Name x px,.Name y py] kt pt] (.Tuple [a,b] k2 pt2) pos.line env=pure false:=by intro _; walk_at "u")
 (hst:∀ env,starEach [a,b] env=(false,eval a env)::starEach [b] env:=by intro _; walk_at "u") (hst2:∀ env,starEach [b] env=[(false,eval b env)]:=by intro _; walk_at "u") :
 fX c (.Assign [.Tuple [.Name x px,.Name y py] kt pt] (.Tuple [a,b] k2 pt2) pos) ρ nx p:=λσ H Hf D S o =>
 cW (Hs (X:=c.X) (i:=i) (j:=j) c.calm (by rw [c.eN]; exact c.nd) (by rw [c.eN]; exact hNi.get) (by rw [c.eN]; exact hNj.get) hij (by rw [c.esc]; exact hx) (by rw [c.esc]; exact hy) (bD cG (bD cG dh (hst2 _)) (hst _)) (hw _ c.esc) (hs _))
  (h σ H Hf _ S λd1 v1 H1 aV h1 r1 g1=>h1 σ H1 aV _ (S.cC g1) λd2 v2 H2 cN ⟨ρ1,hs1,ρ2,hs2,h2⟩ r2 g2=>⟨v1,v2,rfl,by
    have S2:=(S.cC (g1.trans g2)).set (i:=i) (.refl g2.b) (r:=.va d1) (v:=v1) (Rep.mono g2.f d1 r1)
    rw [<- hs1.eq] at S2
    have S3:=S2.set (i:=j) (.refl g2.b) (r:=.va d2) (v:=v2) r2
    rw [<- hs2.eq] at S3
    exact o.nx _ H2 cN _ S3 h2⟩)
theorem Lq {f:Int->Int->Int} (ho:fm c.X (inplaceOp op) (rI C λi j=>.int (f i j))) (hN:At N i x) (hi:At ρ i (.va (.int m)))
 (h:aJ c e ρ (I1 λj=>Sd (C m j) (Nx ρ i nx (.va (.int (f m j)))))) (hf:bk=false\/sc.names.lookup x=some .local:=by first | exact .inl rfl | exact .inr (by walk_at "u")):fX c (.AugAssign (.Name x pos2) op e pos) ρ nx p:=λσ H Hf D S o=>by
 obtain ⟨v,e1,r1⟩:=S.va hi.get
 rw [au] at r1; subst r1
 have hip:Oe c.X op (rI C λi j=>.int (f i j)):=λaa s σ H x y v u Q I rx ry h=>ho aa s σ H x y v u Q I rx ry h
 refine cW (Ht (X:=c.X) (i:=i) (by rw [c.eN]; exact c.nd) (by rw [c.eN]; exact hN.get) (by rw [c.esc]; exact c.vis x hN.mem) cG hip (c.fn x hf)) ⟨_,e1,h σ H Hf _ S λd v H' aj ⟨j,ed,⟨hC,ρ',hs,hn⟩⟩ r g=>?_⟩
 subst ed; rw [au] at r
 have S2:=S.set g (i:=i) (r:=.va (.int (f m j))) (show Rep c.X.K aj (.int (f m j)) (.int (f m j)) from au.mpr rfl)
 rw [<- hs.eq] at S2
 exact ⟨m,j,rfl,r,hC,o.nx _ H' aj _ S2 hn⟩
theorem Ik (hN:At N i x) (hi:At ρ i (.va (.int m))) (h:aJ c e ρ (I1 λj=>Nx ρ i nx (.va (.int (m - j))))) (hf:bk=false\/sc.names.lookup x=some .local:=by first | exact .inl rfl | exact .inr (by walk_at "u")) :
 fX c (.AugAssign (.Name x pos2) .Sub e pos) ρ nx p :=
 Lq (C:=λ_ _=>True) (f:=λi j=>i - j) (λaa s σ H x y v u Q I rx ry ⟨i,j,e1,e2,_,q⟩=>DB aa s σ H x y v u Q I rx ry ⟨i,j,e1,e2,q⟩) hN hi (h.imp λd ⟨j,e,q⟩=>⟨j,e,trivial,q⟩) hf
theorem fD (hq:c.X.xe=λ_ _=>False) (I:Nat->List Sl->Prop) (h0:I m₀ ρ)
 (h:∀ m ρ',I m ρ'->gX c t ρ' (iF (aH c body ρ' (λr=>∃ m',m'<m/\I m' r) { ct:=λr=>∃ m',m'<m/\I m' r,bk:=nx,rt:=p.rt }) (nx ρ'))) :
 fX c (.While t body [] pos) ρ nx p:=λσ H Hf D S o =>
 cW (zP (by rw [hq]; exact PassesOwn.never) Gi qQ) ⟨λm σ H=>∃ Hf ρ',bF c σ H Hf ρ'/\I m ρ',⟨m₀,Hf,ρ,S,h0⟩,λm σ H ⟨Hf,ρ',S,hI⟩=>h m ρ' hI σ H Hf _ S λx H' aj hx g=>by
  cases x with
  | false=>rw [if_neg O5]; exact o.nx σ H' aj ρ' (S.cC g) (hx.f rfl)
  | true =>
   rw [if_pos rfl]
   refine ⟨λσ' H'=>∃ m',m'<m/\∃ Hf ρ',bF c σ' H' Hf ρ'/\I m' ρ',λσ' H' ⟨m',hl,hh⟩=>⟨m',hl,hh⟩,?_⟩
   exact hx.t rfl σ H' aj _ (S.cC g) ⟨λσ H Hf ρ S ⟨m',hl,hi⟩=>⟨m',hl,Hf,ρ,S,hi⟩,o.rt,λσ H Hf ρ S q=>o.nx σ H Hf ρ S q,λσ H Hf ρ S ⟨m',hl,hi⟩=>⟨m',hl,Hf,ρ,S,hi⟩⟩⟩
end
theorem qU (h:n<=1000):n<=sizeLine:=QC (ye h)
theorem AA (h:0<j) (h2:j.natAbs.log2<9000):Au j:=⟨h,h2⟩
inductive Res where
 | ok (r:Sl)
 | ex (C:Addr)
noncomputable abbrev Fn:=List D->Res->Prop
noncomputable def eS (K:OR) (F:Fn):Sp:=λvs H Q E=>∃ Hf ds r,aN Hf H/\aq K Hf ds vs/\F ds r/\match r with
 | .ok sl=>∀ v H' aj,bw H Hf H' aj->bz K (λp=>H p=none) H' aj sl v->Q v H'
 | .ex C=>∀ a H',aN H H'->E (.ref C) (some a) H'
structure cQ (P:Program) (w:World) (K:OR) (mg:Str->Option Value) (base:Heap) (k:Nat) (x:Str) (F:Fn):Prop where
 ex:∃ f fd ps,mg x=some (.ref f)/\QY K (.ref f)=true/\Binds K fd ps []/\bh P w K mg base (cV P w) k f fd ps (eS K F)
section
variable {K:OR} {c:Ctx P w K mg base k N sc bk}
noncomputable def Lr (c:Ctx P w K mg base k N sc bk) (ρ:List Sl) (R:Sl->Prop):Res->Prop
 | .ok sl=>R sl
 | .ex C=>c.RX C ρ
theorem Ec (h:cQ P w K mg base j x F) (hj:j<=k):∃ f,mg x=some (.ref f)/\QY K (.ref f)=true /\
 ∀ (aa:List (Addr×Obj)) (σ:L2.St) (H Hf:Hp) (s:Shared) (us:List Value) (vs:List V) (ds:List D) (r:Res) (Q:VK),Inv c.X aa σ H s->bF c σ H Hf ρ->Vals vs us->aq c.X.K Hf ds vs->F ds r ->
  (∀ sl v H' aj,r=.ok sl->bz c.X.K (λp=>H p=none) H' aj sl v->bw H Hf H' aj->Q v H')->(∀ C,r=.ex C->c.RX C ρ)->wpAny (model c.X.prog c.X.w) c.X.A (call (.ref f) us) (EP c.X aa σ Q) c.X.xe s:=by
 obtain ⟨f,fd,ps,hm,hk,hb,hF⟩:=h.ex
 refine ⟨f,hm,hk,λaa σ H Hf s us vs ds r Q I S rv rs hr q hx=>?_⟩
 have hF':bh c.X.prog c.X.w c.X.K c.X.mg c.X.base (cV c.X.prog c.X.w) k f fd ps (eS c.X.K F):=by rw [c.eP,c.ew,c.eK,c.emg,c.eb]; exact hF.mono hj
 have vq:eS c.X.K F vs H Q (λcv ao H'=>∃ C,r=.ex C/\cv=.ref C/\aN H H'):=by
  refine ⟨Hf,ds,r,S.bas.b,rs,hr,?_⟩
  cases r with
  | ok sl=>exact λv H' aj g rs2=>q sl v H' aj rfl rs2 g
  | ex C=>exact λa H' s2=>⟨C,rfl,rfl,s2⟩
 have hl:us.length=ps.length:=by rw [<- rv.length]; exact hF'.len _ _ _ _ vq
 have hb':Binds c.X.K fd ps []:=by rw [c.eK]; exact hb
 have hb2:=hb' s us I.Dl (by simpa using hl)
 rw [Qd] at hb2
 refine wpAny_call (Tc (hF'.run c.X.A c.X.stack s H ⟨us,[]⟩ us vs Q _ c.room I.HL hb2 rv vq) λr' s' hq=>?_)
 cases r' with
 | error e =>
  obtain ⟨a,C,H',rfl,hE,C',e1,e2,sm⟩:=hq
  cases e2
  exact c.exc C a aa σ H Hf ρ s H' s' I S (hx C e1) hE sm
 | ok fl =>
  cases fl with
  | ret u=>exact I.after hq
  | next=>exact Qi hq
  | brk=>exact Qi hq
  | cont=>exact Qi hq
theorem x_call {R:Sl->Prop} (h:cQ P w K mg base j x F) (hj:j<=k)
 (ha:qR c (e::es) ρ λds=>∃ r,F ds r/\Lr c ρ R r)
 (hg:sc.names.lookup x=some .globalImplicit:=by walk_at "u") (hdb:(x == ("__debug__":Str))=false:=by decide) (he:∀ env,starEach (e::es) env=(false,eval e env)::starEach es env:=by intro _; walk_at "u")
 (hpl:∀ env,(backTo pos (starEach es env)).any (·.1)=false:=by intro _; walk_at "u"):dP c (.Call (.Name x p) (e::es) [] pos) ρ R:=λσ H Hf Q S q aa s I=>by
 obtain ⟨f,hm,hk,run⟩:=Ec (c:=c) (ρ:=ρ) h hj
 refine Q8 (jX I (by unfold Gl P8; rw [c.esc]; exact hg) (by rw [c.emg]; exact hm) ?_ hdb)
 refine U8 (h₀:=c.X.base) I.ok.mod.kin (by rw [c.eK]; exact hk) (bJ (ha σ H Hf (λvs H1=>∃ aV ds,(∃ r,F ds r/\Lr c ρ R r)/\aq c.X.K aV ds vs/\bw H Hf H1 aV) S (λds vs H1 aV hr rs g=>⟨aV,ds,hr,rs,g⟩) pos aa s I) λus s1 hh=>z2 hh λvs H1 hh=>w3 hh λI1 rv hh=>z2 hh λaV ds hh=>w3 hh λhh rs g=>hh.elim λr hh=>w2 hh λhF hR=>⟨I1.Dl,?_⟩) (he _) (hpl _)
 refine run aa σ H1 aV s1 us vs ds r Q I1 (S.cC g) rv rs hF (λsl v H' aj e1 rs2 g2=>?_) λC e1=>?_
 ·subst e1
  exact q sl v H' aj hR (rs2.weak λp hp=>g.s.free hp) (g.trans g2)
 ·subst e1
  exact hR
theorem aM (h:cQ P w K mg base j x F) (hj:j<=k)
 (ha:qR c (e::es) ρ λds=>∃ r,F ds r/\Lr c ρ (Ie R) r)
 (hg:sc.names.lookup x=some .globalImplicit:=by walk_at "u") (hdb:(x == ("__debug__":Str))=false:=by decide) (he:∀ env,starEach (e::es) env=(false,eval e env)::starEach es env:=by intro _; walk_at "u")
 (hpl:∀ env,(backTo pos (starEach es env)).any (·.1)=false:=by intro _; walk_at "u"):aJ c (.Call (.Name x p) (e::es) [] pos) ρ R:=e_x (x_call h hj ha hg hdb he hpl)
noncomputable def gY (N:List Str) (ds:List D):List Sl:=ds.map .va++Pq (N.length - ds.length) .un
theorem AB (r:aq K eT ds vs) (sb:aN eT H₀):d9 K H₀ eT (L2.start N vs) H₀ eT (gY N ds):=by
 have hl:=r.length
 refine ⟨.refl sb,by simp [L2.start,gY,hl],λi r' h hu=>?_,λi j r1 r2 p hne h1 h2 o1 o2=>?_⟩
 ·by_cases q:i<ds.length
  ·have e:(gY N ds)[i]?=some (.va ds[i]):=by
    unfold gY
    rw [Q4 (by simpa using q)]; simp [q]
   rw [e] at h; cases h
   obtain ⟨x,e2,rx⟩:=r.get (i:=i) (d:=ds[i]) (by simp)
   refine ⟨x,?_,rx⟩
   unfold L2.start
   rw [Q4 (by simp; lia)]
   simp [e2]
  ·unfold gY at h
   rw [Rx (by simp; lia)] at h
   have:=QG h
   exact absurd (TL this) hu
 ·exfalso
  unfold gY at h1
  by_cases q:i<(ds.map Sl.va).length
  ·rw [Q4 q] at h1
   rw [O8] at h1
   cases z:ds[i]? with
   | none=>rw [z] at h1; cases h1
   | some d=>rw [z] at h1; cases h1; cases o1
  ·rw [Rx (by lia)] at h1
   have e3:=TL (QG h1)
   subst e3; cases o1
abbrev FS (N P:List Str) (st:Stmt):Prop:=(aP st).kind=.function/\(aP st).isCoroutine=false/\(aP st).isGenerator=false/\N.Nodup/\N.take P.length=P/\(∀ x∈P,(aP st).names.lookup x=some .local\/(aP st).names.lookup x=some .cell)/\(∀ y∈(aP st).names,y.2≠.free)/\∀ x∈N,(aP st).names.lookup x=some .local\/(aP st).names.lookup x=some .cell
theorem AD {N P:List Str} {st:Stmt} (h:FS N P st):oU N P (aP st)/\∀ x∈N,Loc (aP st) x:=⟨⟨h.1,h.2.1,h.2.2.1,h.2.2.2.1,h.2.2.2.2.1,h.2.2.2.2.2.1,h.2.2.2.2.2.2.1⟩,h.2.2.2.2.2.2.2⟩
theorem cD {st:Stmt} (Fu:dO K x qual st f fd) (SV:FS N ps st) (ar:∀ ds r,F ds r->ds.length=ps.length)
 (hok:∀ ds r,F ds r->∃ sl,r=.ok sl)
 (body:∀ (c:Ctx P w K mg base k N (aP st) false),c.X.xe=(λ_ _=>False)->∀ ds sl,F ds (.ok sl)->aH c (av st) (gY N ds) (λ_=>sl=.va .non) { rt:=λr=>r=sl }) :
 bh P w K mg base (cV P w) (k+1) f fd ps (eS K F):=by
 obtain ⟨Sc,Vi⟩:=AD SV
 obtain ⟨oc,od,kV,doc,pm,an,cdv,ct,osl,rfl,lk,hcd⟩:=Fu.ex
 refine zW lk hcd Sc (λvs H Q E ⟨Hf,ds,r,_,rs,hF,_⟩=>by rw [<- rs.length]; exact ar _ _ hF) λA outer s H vs Q E hr ⟨Hf,ds,r,sb,rs,hF,hq⟩=>?_
 obtain ⟨sl,rfl⟩:=hok _ _ hF
 let X:Cx:=(qI (cV P w) P w K mg base N qual (aP st) f cdv A outer s H E).Ga
 let c:Ctx P w K mg base k N (aP st) false :=
  { X:=X,eP:=rfl,ew:=rfl,eK:=rfl,emg:=rfl,eb:=rfl,eN:=rfl,esc:=rfl,calm:=rfl,top:=λ_=>⟨rfl,rfl,rfl⟩,cb:=λ_ _ _ _ _ I x c h=>I.ok.cab x c rfl h,fn:=λ_ _=>.inl rfl,B:=H,room:=hr,nd:=Sc.nd,vis:=Vi,Hf:=Hf,RX:=λ_ _=>False,
    exc:=λ_ _ _ _ _ _ _ _ _ _ _ _ h _ _=>h.elim,RM:=λ_ _=>False,mde:=λ_ _ _ _ _ _ _ _ _ _ _ _ h _=>h.elim }
 refine ⟨_,tH.Ga (t:=Ic X (av st)) (qQ (X:=X)),?_⟩
 refine body c rfl ds sl hF (L2.start N vs) H Hf _ (AB rs sb) ⟨λσ H' aj ρ S e=>?_,λr v H' aj g rv e=>?_,λ_ _ _ _ _ h=>h.elim,λ_ _ _ _ _ h=>h.elim⟩
 ·subst e
  exact hq .non H' aj S.bas (show Rep K aj .non .non from bL.mpr rfl)
 ·have e:r=sl:=e
  subst e
  exact hq v H' aj g rv
def Ls (K:OR) (r:List V->Hp->VK->Prop) (p:List D->(Sl->Prop)->Prop):Prop :=
 ∀ (ds:List D) (vs:List V) (H Hf:Hp) (Q:VK) (R:Sl->Prop),aN Hf H->aq K Hf ds vs->p ds R->(∀ z v' H' aj,R z->bz K (λp=>H p=none) H' aj z v'->bw H Hf H' aj->Q v' H')->r vs H Q
theorem Gr {id:String} {R:Sl->Prop} (hc:fR c.X (.type id) r) (hd:Ls c.X.K r q) (hm:mg x=none) (hv:bootBuiltins x=some (.type id))
 (ha:qR c (e::es) ρ λds=>q ds R) (hg:sc.names.lookup x=some .globalImplicit:=by walk_at "u") (hn:x≠"__name__":=by decide) (hdb:(x == ("__debug__":Str))=false:=by decide)
 (he:∀ env,starEach (e::es) env=(false,eval e env)::starEach es env:=by intro _; walk_at "u") (hpl:∀ env,(backTo pos (starEach es env)).any (·.1)=false:=by intro _; walk_at "u"):dP c (.Call (.Name x p) (e::es) [] pos) ρ R:=λσ H Hf Q S qq =>
 ck (nj hc (by unfold Gl P8; rw [c.esc]; exact hg) (by rw [c.emg]; exact hm) hv Gj hn hdb (he _) (hpl _))
  (ha σ H Hf _ S λds vs H1 aV h1 rs g=>hd ds vs H1 aV Q R g.b rs h1 λz v' H' aj hz rz g2=>qq z v' H' aj hz (rz.weak λp hp=>g.s.free hp) (g.trans g2))
theorem kO (h:aq K H [d] vs):∃ v,vs=[v]/\Rep K H d v:=by
 rw [aG] at h
 obtain ⟨x,r,rfl,h1,h2⟩:=h
 rw [aF] at h2; subst h2
 exact ⟨x,rfl,h1⟩
theorem Lu (h:aq K H [d,d'] vs):∃ v v',vs=[v,v']/\Rep K H d v/\Rep K H d' v':=by
 rw [aG] at h
 obtain ⟨x,r,rfl,h1,h2⟩:=h
 obtain ⟨y,rfl,h3⟩:=kO h2
 exact ⟨x,y,rfl,h1,h3⟩
def yh (K:OR) (r:List V->Hp->VK->Prop) (p:List D->(D->Prop)->Prop):Prop :=
 ∀ (ds:List D) (vs:List V) (H Hf:Hp) (Q:VK) (R:D->Prop),aN Hf H->aq K Hf ds vs->p ds R->(∀ d v H' aj,R d->Rep K aj d v->bw H Hf H' aj->Q v H')->r vs H Q
theorem vQ {id:String} (hc:fR c.X (.builtin id) r) (hd:yh c.X.K r q) (hm:mg x=none) (hv:bootBuiltins x=some (.builtin id))
 (ha:qR c (e::es) ρ λds=>q ds R) (hg:sc.names.lookup x=some .globalImplicit) (hn:x≠"__name__") (hdb:(x == ("__debug__":Str))=false)
 (he:∀ env,starEach (e::es) env=(false,eval e env)::starEach es env) (hpl:∀ env,(backTo pos (starEach es env)).any (·.1)=false):aJ c (.Call (.Name x p) (e::es) [] pos) ρ R:=λσ H Hf Q S qq =>
 ck (zX hc (by unfold Gl P8; rw [c.esc]; exact hg) (by rw [c.emg]; exact hm) hv Gj hn hdb (he _) (hpl _))
  (ha σ H Hf _ S λds vs H1 aV h1 rs g=>hd ds vs H1 aV Q R g.b rs h1 λz v' H' aj hz rz g2=>qq z v' H' aj hz rz (g.trans g2))
theorem Lv {id:String} (hc:fR c.X (.type id) r) (hd:yh c.X.K r q) (hm:mg x=none) (hv:bootBuiltins x=some (.type id))
 (ha:qR c (e::es) ρ λds=>q ds R) (hg:sc.names.lookup x=some .globalImplicit) (hn:x≠"__name__") (hdb:(x == ("__debug__":Str))=false)
 (he:∀ env,starEach (e::es) env=(false,eval e env)::starEach es env) (hpl:∀ env,(backTo pos (starEach es env)).any (·.1)=false):aJ c (.Call (.Name x p) (e::es) [] pos) ρ R:=λσ H Hf Q S qq =>
 ck (nj hc (by unfold Gl P8; rw [c.esc]; exact hg) (by rw [c.emg]; exact hm) hv Gj hn hdb (he _) (hpl _))
  (ha σ H Hf _ S λds vs H1 aV h1 rs g=>hd ds vs H1 aV Q R g.b rs h1 λz v' H' aj hz rz g2=>qq z v' H' aj hz rz (g.trans g2))
theorem Il {f:Int->D} {g:Int->V} (hf:∀ i H,Rep K H (f i) (g i)):yh K (λxs H Q=>∃ i,xs=[V.int i]/\Q (g i) H) (λds R=>∃ i,ds=[.int i]/\R (f i)):=by
 rintro ds vs H Hf Q R s rs ⟨i,rfl,hR⟩ q
 obtain ⟨v,rfl,rv⟩:=kO rs
 rw [au] at rv; subst rv
 exact ⟨i,rfl,q _ _ H Hf hR (hf i Hf) (.refl s)⟩
theorem Lw (hm:mg "abs"=none) (h:aJ c e ρ (I1 λi=>R (.int (if i<0 then -i else i)))) (hg:sc.names.lookup (OP "abs")=some .globalImplicit:=by walk_at "u")
 (he:∀ env,starEach [e] env=(false,eval e env)::starEach [] env:=by intro _; walk_at "u"):aJ c (.Call (.Name "abs" p) [e] [] pos) ρ R :=
 vQ zV (Il (f:=λi=>.int (if i<0 then -i else i)) λi H=>au.mpr rfl) hm PyProof.Rows.boot_abs (eE (h.imp λd ⟨i,e,r⟩=>jL ⟨i,by rw [e],r⟩) he) hg (by decide) (by decide) he (by intro _; rfl)
end
end EV
namespace EV
open PySem PySem.Spec PySem.Calls PyProof.Rows L2
theorem Im (x:bx P w H h a o):∃ u,h.get? a=some u:=by
 cases o with
 | lst xs=>obtain ⟨_,_,_,_,e⟩:=x; exact ⟨_,e⟩
 | tup xs=>obtain ⟨_,_,_,ob,e,_⟩:=x; exact ⟨_,e⟩
 | dK kvs=>obtain ⟨_,_,_,_,o,_,_,e,_⟩:=x; exact ⟨_,e⟩
 | dT kvs=>obtain ⟨_,_,_,_,o,_,_,e,_⟩:=x; exact ⟨_,e⟩
 | set S n=>obtain ⟨o,_,_,_,e,_⟩:=x; exact ⟨_,e⟩
 | ins C dx fs=>obtain ⟨_,_,_,e,_⟩:=x; exact ⟨_,e⟩
 | own y=>exact x
 | xd fs=>obtain ⟨_,⟨_,_,_,e,_⟩,_⟩:=x; exact ⟨_,e⟩
 | rng lo hi=>obtain ⟨_,_,_,e⟩:=x; exact ⟨_,e⟩
 | frz ob u=>obtain ⟨e,_⟩:=x; exact ⟨_,e⟩
 | tbl ps=>exact ⟨_,x⟩
 | met f y=>exact ⟨_,x⟩
 | ext φ =>exact x.2.1
section
variable {K:OR}
end
open PySem.W Builtin Builtin.ObjectAttr Builtin.Getset_descriptor
structure OI (K:OR) (C:Addr):Prop where
 ga:Ro K (.ref C) "__getattribute__"=some (some (.builtin "BaseException.__getattribute__"))
 hk:Ro K (.ref C) "__getattr__"=some none
 ca:Ro K (.ref C) "__class__"=some (some (.builtin "object.__class__"))
 gt:Vj K (.builtin "object.__class__") "__get__"=some (some (.builtin "getset_descriptor.__get__"))
 tk:PySem.W.takesIn K (.builtin "object.__class__")=some true
 mo:PySem.W.mroIn K C (.type "object")=some true
 mb:PySem.W.mroIn K C (.type "BaseException")=some true
inductive Gs (K:OR):D->Value->Prop where
 | non:Gs K .non (.type "NoneType")
 | bl {x:Bool}:Gs K (.bl x) (.type "bool")
 | int {i:Int}:Gs K (.int i) (.type "int")
 | str {x:Str}:Gs K (.str x) (.type "str")
 | lst {ds:List EV.D}:Gs K (.lst ds) (.type "list")
 | tup {ds:List EV.D}:Gs K (.tup ds) (.type "tuple")
 | exc {C:Addr} (k:OI K C):Gs K (.exc C) (.ref C)
section
variable {K:OR}
end
section
variable {X:Cx}
theorem pq (I:Inv X aa σ H s) (sb:aN Hf H):∀ (n:Nat) (d e:D) (v:V),mR n d e->Rep X.K Hf d v->Rep X.K Hf e v->d=e:=by
 intro n
 induction n with
 | zero =>
  intro d e v h r1 r2
  cases h with
  | sc h=>cases d <;> cases e <;> simp [jK] at h <;> simp_all [Rep]
  | ln=>rw [bL] at r2; subst r2; rw [br] at r1; obtain ⟨_,_,e,_⟩:=r1; cases e
  | nl=>rw [bL] at r1; subst r1; rw [br] at r2; obtain ⟨_,_,e,_⟩:=r2; cases e
  | tn=>rw [bL] at r2; subst r2; rw [aO] at r1; obtain ⟨_,_,e,_⟩:=r1; cases e
  | nt=>rw [bL] at r1; subst r1; rw [aO] at r2; obtain ⟨_,_,e,_⟩:=r2; cases e
 | succ n ih =>
  have els:∀ (ds es:List D) (xs:List V),(∀ (i:Nat) (d e:D),ds[i]?=some d->es[i]?=some e->mR n d e)->aq X.K Hf ds xs->aq X.K Hf es xs->ds=es:=λds es xs h q1 q2=>by
   apply T7
   intro i
   cases a:ds[i]? with
   | none =>
    have:ds.length<=i:=by simpa using a
    symm
    rw [List.getElem?_eq_none_iff,q2.length,<- q1.length]; exact this
   | some d =>
    obtain ⟨x,ex,rx⟩:=q1.get a
    obtain ⟨e,ee,re⟩:=q2.get' ex
    rw [ee,ih d e x (h i d e a ee) rx re]
  intro d e v h r1 r2
  cases h with
  | sc h=>cases d <;> cases e <;> simp [jK] at h <;> simp_all [Rep]
  | ln=>rw [bL] at r2; subst r2; rw [br] at r1; obtain ⟨_,_,e,_⟩:=r1; cases e
  | nl=>rw [bL] at r1; subst r1; rw [br] at r2; obtain ⟨_,_,e,_⟩:=r2; cases e
  | tn=>rw [bL] at r2; subst r2; rw [aO] at r1; obtain ⟨_,_,e,_⟩:=r1; cases e
  | nt=>rw [bL] at r1; subst r1; rw [aO] at r2; obtain ⟨_,_,e,_⟩:=r2; cases e
  | tup h =>
   rw [aO] at r1 r2
   obtain ⟨a,xs,rfl,p1,q1⟩:=r1
   obtain ⟨a',ys,e',p2,q2⟩:=r2
   cases e'
   have:=I.jg (az sb p1) (az sb p2)
   subst this
   rw [els _ _ _ h q1 q2]
  | lst h =>
   rw [br] at r1 r2
   obtain ⟨a,xs,rfl,p1,q1⟩:=r1
   obtain ⟨a',ys,e',p2,q2⟩:=r2
   cases e'
   have:=I.ko (sb.seq p1) (sb.seq p2)
   subst this
   rw [els _ _ _ h q1 q2]
theorem pA {α:Type} [BEq α] [LawfulBEq α] {a b:α} {i:Decidable (a=b)}:(a == b)=@decide (a=b) i:=by
 by_cases h:a=b
 ·subst h; simp
 ·simp [h]
theorem all_range {ds es:List D} (hn:ds.length=n) (hm:es.length=m) (h:n=m):((Pc n).all λj=>decide (ds[j]?=es[j]?))=decide (ds=es):=by
 rw [SW,List.all_eq_true]
 simp only [SX,decide_eq_true_eq]
 constructor
 ·intro q
  apply T7
  intro i
  by_cases hi:i<n
  ·exact q i hi
  ·rw [RA (by lia),RA (by lia)]
 ·rintro rfl; intro _ _; rfl
theorem vR (h:jK x y=true) (r1:Rep X.K Hf x v) (r2:Rep X.K Hf y v') (e1:RelV v u) (e2:RelV v' u'):Ph A s u u' (decide (x=y)):=by
 cases x <;> cases y <;> simp [jK] at h <;> simp only [au,f7,bL,dR] at r1 r2 <;> subst r1 <;> subst r2
 case non.non=>cases e1; cases e2; simpa using Ph.same _
 case non.bl b=>cases e1; cases e2; simpa using Ph.none_bool (A:=A) (s:=s) b
 case non.int i=>cases e1; obtain ⟨t,rfl⟩:=e2; simpa using Ph.none_int (A:=A) (s:=s) i t
 case non.str i=>cases e1; obtain ⟨t,rfl⟩:=e2; simpa using Ph.none_str (A:=A) (s:=s) i t
 case bl.non b=>cases e1; cases e2; simpa using Ph.bool_none (A:=A) (s:=s) b
 case bl.bl a b=>cases e1; cases e2; have q:=Ph.bool_bool (A:=A) (s:=s) a b; rw [pA (i:=inferInstance)] at q; simpa using q
 case bl.str a b=>cases e1; obtain ⟨t,rfl⟩:=e2; simpa using Ph.bool_str (A:=A) (s:=s) a b t
 case int.non a=>obtain ⟨t,rfl⟩:=e1; cases e2; simpa using Ph.int_none (A:=A) (s:=s) a t
 case int.int a b=>obtain ⟨t,rfl⟩:=e1; obtain ⟨t',rfl⟩:=e2; have q:=Ph.int_int (A:=A) (s:=s) a t b t'; rw [pA (i:=inferInstance)] at q; simpa using q
 case int.str a b=>obtain ⟨t,rfl⟩:=e1; obtain ⟨t',rfl⟩:=e2; simpa using Ph.int_str (A:=A) (s:=s) a t b t'
 case str.non a=>obtain ⟨t,rfl⟩:=e1; cases e2; simpa using Ph.str_none (A:=A) (s:=s) a t
 case str.bl a b=>obtain ⟨t,rfl⟩:=e1; cases e2; simpa using Ph.str_bool (A:=A) (s:=s) a t b
 case str.int a b=>obtain ⟨t,rfl⟩:=e1; obtain ⟨t',rfl⟩:=e2; simpa using Ph.str_int (A:=A) (s:=s) a t b t'
 case str.str a b=>obtain ⟨t,rfl⟩:=e1; obtain ⟨t',rfl⟩:=e2; have q:=Ph.str_str (A:=A) (s:=s) a t b t'; rw [pA (i:=inferInstance)] at q; simpa using q
theorem in1_units (A:Around):A.in1.units=A.units+1:=rfl
theorem vS:decide (D.tup ds=D.tup es)=decide (ds=es):=by simp
theorem j0:decide (D.lst ds=D.lst es)=decide (ds=es):=by simp
theorem pB (I:Inv X aa σ H s) {A:Around} (h:∀ (i:Nat) (d e:D),ds[i]?=some d->es[i]?=some e->mR n d e)
 (ih:∀ (d e:D) (v v':V) (u u':Value) (A:Around),mR n d e->Rep X.K Hf d v->Rep X.K Hf e v'->RelV v u->RelV v' u'->A.units+n<cLine->Ph A s u u' (decide (d=e)))
 (q1:aq X.K Hf ds xs) (q2:aq X.K Hf es ys) (r1:Vals xs us) (r2:Vals ys ws) (hu:A.in1.units+n<cLine) :
 ∀ j (h1:j<us.toArray.size) (h2:j<ws.toArray.size),Ph A.in1 s us.toArray[j] ws.toArray[j] (decide (ds[j]?=es[j]?)):=λj h1 h2=>by
 have l1:=q1.length
 have l2:=q2.length
 have m1:=r1.length
 have m2:=r2.length
 simp only [Pg] at h1 h2
 have hd:ds[j]?=some ds[j]:=Pk (by lia)
 have he:es[j]?=some es[j]:=Pk (by lia)
 obtain ⟨x,ex,rx⟩:=q1.get hd
 obtain ⟨y,ey,ry⟩:=q2.get he
 obtain ⟨u,eu,ru⟩:=r1.get ex
 obtain ⟨u',eu',ru'⟩:=r2.get ey
 have z1:us.toArray[j]=u:=by
  have:=Pk h1
  rw [this] at eu
  simpa using eu
 have z2:ws.toArray[j]=u':=by
  have:=Pk h2
  rw [this] at eu'
  simpa using eu'
 rw [z1,z2,hd,he]
 have q:=ih _ _ x y u u' A.in1 (h j _ _ hd he) rx ry ru ru' hu
 simpa using q
theorem nH (I:Inv X aa σ H s) (sb:aN Hf H):∀ (n:Nat) (d e:D) (v v':V) (u u':Value) (A:Around),mR n d e->Rep X.K Hf d v->Rep X.K Hf e v'->RelV v u->RelV v' u'->A.units+n<cLine->Ph A s u u' (decide (d=e)):=by
 have non:∀ (n:Nat) (d e:D) (v v':V) (u u':Value) (A:Around),A.units<cLine->Rep X.K Hf d v->Rep X.K Hf e v'->RelV v u->RelV v' u' ->
  ((∃ ds,d=.lst ds/\e=.non)\/(∃ ds,d=.non/\e=.lst ds)\/(∃ ds,d=.tup ds/\e=.non)\/(∃ ds,d=.non/\e=.tup ds))->Ph A s u u' (decide (d=e)):=by
  intro n d e v v' u u' A hu r1 r2 e1 e2 h
  rcases h with ⟨ds,rfl,rfl⟩ | ⟨ds,rfl,rfl⟩ | ⟨ds,rfl,rfl⟩ | ⟨ds,rfl,rfl⟩
  ·rw [bL] at r2; subst r2; rw [br] at r1; obtain ⟨a,xs,rfl,p,_⟩:=r1; cases e1; cases e2
   obtain ⟨its,_,q,_⟩:=I.list (sb.seq p)
   simpa using Ph.list_none (A:=A) q.isList hu
  ·rw [bL] at r1; subst r1; rw [br] at r2; obtain ⟨a,xs,rfl,p,_⟩:=r2; cases e1; cases e2
   obtain ⟨its,_,q,_⟩:=I.list (sb.seq p)
   simpa using Ph.none_list (A:=A) q.isList hu
  ·rw [bL] at r2; subst r2; rw [aO] at r1; obtain ⟨a,xs,rfl,p,_⟩:=r1; cases e1; cases e2
   obtain ⟨its,_,q,_⟩:=I.tuple (az sb p)
   simpa using Ph.tuple_none (A:=A) (show s.heap.IsTuple a its.toArray from q) hu
  ·rw [bL] at r1; subst r1; rw [aO] at r2; obtain ⟨a,xs,rfl,p,_⟩:=r2; cases e1; cases e2
   obtain ⟨its,_,q,_⟩:=I.tuple (az sb p)
   simpa using Ph.none_tuple (A:=A) (show s.heap.IsTuple a its.toArray from q) hu
 intro n
 induction n with
 | zero =>
  intro d e v v' u u' A h r1 r2 e1 e2 hu
  cases h with
  | sc h=>exact vR h r1 r2 e1 e2
  | ln=>exact non 0 _ _ _ _ _ _ A (by lia) r1 r2 e1 e2 (.inl ⟨_,rfl,rfl⟩)
  | nl=>exact non 0 _ _ _ _ _ _ A (by lia) r1 r2 e1 e2 (.inr (.inl ⟨_,rfl,rfl⟩))
  | tn=>exact non 0 _ _ _ _ _ _ A (by lia) r1 r2 e1 e2 (.inr (.inr (.inl ⟨_,rfl,rfl⟩)))
  | nt=>exact non 0 _ _ _ _ _ _ A (by lia) r1 r2 e1 e2 (.inr (.inr (.inr ⟨_,rfl,rfl⟩)))
 | succ n ih =>
  intro d e v v' u u' A h r1 r2 e1 e2 hu
  cases h with
  | sc h=>exact vR h r1 r2 e1 e2
  | ln=>exact non 0 _ _ _ _ _ _ A (by lia) r1 r2 e1 e2 (.inl ⟨_,rfl,rfl⟩)
  | nl=>exact non 0 _ _ _ _ _ _ A (by lia) r1 r2 e1 e2 (.inr (.inl ⟨_,rfl,rfl⟩))
  | tn=>exact non 0 _ _ _ _ _ _ A (by lia) r1 r2 e1 e2 (.inr (.inr (.inl ⟨_,rfl,rfl⟩)))
  | nt=>exact non 0 _ _ _ _ _ _ A (by lia) r1 r2 e1 e2 (.inr (.inr (.inr ⟨_,rfl,rfl⟩)))
  | @tup _ ds es h =>
   have hh:=mR.tup h
   have r1':=r1; have r2':=r2
   rw [aO] at r1 r2
   obtain ⟨a,xs,rfl,p1,q1⟩:=r1
   obtain ⟨b,ys,rfl,p2,q2⟩:=r2
   cases e1; cases e2
   by_cases hab:a=b
   ·subst hab
    have:=pq I sb _ _ _ _ hh r1' r2'
    rw [this]
    simpa using Ph.same _
   ·obtain ⟨us,v1,t1,_⟩:=I.tuple (az sb p1)
    obtain ⟨ws,v2,t2,_⟩:=I.tuple (az sb p2)
    have key:=RO.tuples (A:=A) (s:=s) (show s.heap.IsTuple a us.toArray from t1) (show s.heap.IsTuple b ws.toArray from t2) (by lia) (pB I h ih q1 q2 v1 v2 (by rw [in1_units]; lia))
    have hl1:us.toArray.size=ds.length:=by simp [<- v1.length,q1.length]
    have hl2:ws.toArray.size=es.length:=by simp [<- v2.length,q2.length]
    have e:((Pc (min us.toArray.size ws.toArray.size)).all (λj=>decide (ds[j]?=es[j]?)) && us.toArray.size == ws.toArray.size)=decide (D.tup ds=D.tup es):=by
     rw [vS,hl1,hl2]
     by_cases hl:ds.length=es.length
     ·rw [hl,Nat.min_self]
      simp only [beq_self_eq_true,Bool.and_true]
      exact all_range hl rfl rfl
     ·have:¬ ds=es:=λz=>hl (by rw [z])
      simp [hl,this]
    rw [e] at key
    exact .of_refs hab key
  | @lst _ ds es h =>
   have hh:=mR.lst h
   have r1':=r1; have r2':=r2
   rw [br] at r1 r2
   obtain ⟨a,xs,rfl,p1,q1⟩:=r1
   obtain ⟨b,ys,rfl,p2,q2⟩:=r2
   cases e1; cases e2
   by_cases hab:a=b
   ·subst hab
    have:=pq I sb _ _ _ _ hh r1' r2'
    rw [this]
    simpa using Ph.same _
   ·obtain ⟨us,v1,t1,_⟩:=I.list (sb.seq p1)
    obtain ⟨ws,v2,t2,_⟩:=I.list (sb.seq p2)
    have hl1:us.toArray.size=ds.length:=by simp [<- v1.length,q1.length]
    have hl2:ws.toArray.size=es.length:=by simp [<- v2.length,q2.length]
    by_cases hl:ds.length=es.length
    ·have key:=RO.lists (A:=A) (s:=s) t1.isList t2.isList (by rw [hl1,hl2,hl]) (by lia) (pB I h ih q1 q2 v1 v2 (by rw [in1_units]; lia))
     rw [hl1,all_range rfl hl.symm rfl,<- j0] at key
     exact .of_refs hab key
    ·have key:=RO.lists_lengths (A:=A) (s:=s) t1.isList t2.isList (by rw [hl1,hl2]; simpa using hl) (by lia)
     have e:decide (D.lst ds=D.lst es)=false:=by
      rw [j0]; exact decide_eq_false λz=>hl (by rw [z])
     rw [e]
     exact .of_refs hab key
theorem qV (I:Inv X aa σ H s) (sb:aN Hf H) (hu:A.units+50<cLine) (hk:(d=.tup ds/\e=.tup es)\/(d=.lst ds/\e=.lst es)) (h:uc ds es)
 (r1:Rep X.K Hf d v) (r2:Rep X.K Hf e v') (e1:RelV v u) (e2:RelV v' u'):RO A s u u' (decide (d=e))/\Uu A s u u' (!decide (d=e)):=by
 have ih:=nH I sb 40
 rcases hk with ⟨rfl,rfl⟩ | ⟨rfl,rfl⟩
 ·rw [aO] at r1 r2
  obtain ⟨a,xs,rfl,p1,q1⟩:=r1
  obtain ⟨b,ys,rfl,p2,q2⟩:=r2
  cases e1; cases e2
  obtain ⟨us,v1,t1,_⟩:=I.tuple (az sb p1)
  obtain ⟨ws,v2,t2,_⟩:=I.tuple (az sb p2)
  have els:=pB (A:=A) I h ih q1 q2 v1 v2 (by rw [in1_units]; lia)
  have key:=RO.tuples (A:=A) (s:=s) (show s.heap.IsTuple a us.toArray from t1) (show s.heap.IsTuple b ws.toArray from t2) (by lia) els
  have key2:=Uu.tuples (A:=A) (s:=s) (show s.heap.IsTuple a us.toArray from t1) (show s.heap.IsTuple b ws.toArray from t2) (by lia) els
  have hl1:us.toArray.size=ds.length:=by simp [<- v1.length,q1.length]
  have hl2:ws.toArray.size=es.length:=by simp [<- v2.length,q2.length]
  have e:((Pc (min us.toArray.size ws.toArray.size)).all (λj=>decide (ds[j]?=es[j]?)) && us.toArray.size == ws.toArray.size)=decide (D.tup ds=D.tup es):=by
   rw [vS,hl1,hl2]
   by_cases hl:ds.length=es.length
   ·rw [hl,Nat.min_self]
    simp only [beq_self_eq_true,Bool.and_true]
    exact all_range hl rfl rfl
   ·have:¬ ds=es:=λz=>hl (by rw [z])
    simp [hl,this]
  rw [e] at key key2
  exact ⟨key,key2⟩
 ·rw [br] at r1 r2
  obtain ⟨a,xs,rfl,p1,q1⟩:=r1
  obtain ⟨b,ys,rfl,p2,q2⟩:=r2
  cases e1; cases e2
  obtain ⟨us,v1,t1,_⟩:=I.list (sb.seq p1)
  obtain ⟨ws,v2,t2,_⟩:=I.list (sb.seq p2)
  have hl1:us.toArray.size=ds.length:=by simp [<- v1.length,q1.length]
  have hl2:ws.toArray.size=es.length:=by simp [<- v2.length,q2.length]
  by_cases hl:ds.length=es.length
  ·have els:=pB (A:=A) I h ih q1 q2 v1 v2 (by rw [in1_units]; lia)
   have key:=RO.lists (A:=A) (s:=s) t1.isList t2.isList (by rw [hl1,hl2,hl]) (by lia) els
   have key2:=Uu.lists (A:=A) (s:=s) t1.isList t2.isList (by rw [hl1,hl2,hl]) (by lia) els
   rw [hl1,all_range rfl hl.symm rfl,<- j0] at key key2
   exact ⟨key,key2⟩
  ·have key:=RO.lists_lengths (A:=A) (s:=s) t1.isList t2.isList (by rw [hl1,hl2]; simpa using hl) (by lia)
   have key2:=Uu.lists_lengths (A:=A) (s:=s) t1.isList t2.isList (by rw [hl1,hl2]; simpa using hl) (by lia)
   have e:decide (D.lst ds=D.lst es)=false:=by
    rw [j0]; exact decide_eq_false λz=>hl (by rw [z])
   rw [e]
   exact ⟨key,key2⟩
end
section
variable {K:OR} {c:Ctx P w K mg base k N sc bk}
noncomputable def Ed (K:OR) (neg:Bool):R2:=λv u H Q=>∃ x y Hf,aN Hf H/\Rep K Hf x v/\Rep K Hf y u/\K9 x y/\Q (.bl (if neg then !decide (x=y) else decide (x=y))) H
theorem AE:fm c.X (compareOp .Eq) (Ed c.X.K false):=λaa s σ H v u v' u' Q I rv ru ⟨x,y,Hf,sb,rx,ry,ok,q⟩=>by
 rcases ok with h | ⟨ds,es,hk,hi⟩
 ·obtain ⟨z1,z2⟩:=vO h rx ry
  exact KN aa s σ H v u v' u' Q I rv ru ⟨z1,by rw [z2]; exact q⟩
 ·exact (qV I sb (by have:=c.room.un; lia) hk hi rx ry rv ru).1 _ _ _ _ ⟨.bl (decide (x=y)),H,I,rfl,q⟩
theorem Io:fm c.X (compareOp .NotEq) (Ed c.X.K true):=λaa s σ H v u v' u' Q I rv ru ⟨x,y,Hf,sb,rx,ry,ok,q⟩=>by
 rcases ok with h | ⟨ds,es,hk,hi⟩
 ·obtain ⟨z1,z2⟩:=vO h rx ry
  exact KO aa s σ H v u v' u' Q I rv ru ⟨z1,by rw [z2]; exact q⟩
 ·exact (qV I sb (by have:=c.room.un; lia) hk hi rx ry rv ru).2 _ _ _ _ ⟨.bl (!decide (x=y)),H,I,rfl,q⟩
theorem AF:Ax K (Ed K false) λx y R=>yf x y R:=λx y v u H Hf Q R s rx ry ⟨h1,h2⟩ q=>⟨x,y,Hf,s,rx,ry,h1,q _ h2⟩
theorem Ip:Ax K (Ed K true) λx y R=>yf x y λb=>R (!b):=λx y v u H Hf Q R s rx ry ⟨h1,h2⟩ q=>⟨x,y,Hf,s,rx,ry,h1,q _ h2⟩
theorem NO (h:aJ c a ρ λx=>aJ c b ρ λy=>yf x y T):gX c (.Compare a [.Eq] [b] pos) ρ T:=vN AE AF h (kr b)
theorem NP (h:aJ c a ρ λx=>aJ c b ρ λy=>yf x y λb=>T (!b)):gX c (.Compare a [.NotEq] [b] pos) ρ T:=vN Io Ip h (kr b)
theorem NQ (h:aJ c a ρ λx=>aJ c b ρ λy=>yf x y λb=>R (.bl b)):aJ c (.Compare a [.Eq] [b] pos) ρ R:=Lg AE AF h (kr b)
end
section
variable {P:Program} {w:World} {K:OR} {mg:Str->Option Value} {base:Heap} {k:Nat} {N:List Str} {sc:Scope} {bk:Bool} {c:Ctx P w K mg base k N sc bk} {ρ:List Sl} {pos:Pos} {a b e:Expr} {es:List Expr} {R:D->Prop} {T:Bool->Prop}
theorem ud:∀ {d:D} {v:V},Rep K H d v->decide (v=.non)=decide (d=.non)
 | .non,_,h=>by rw [bL] at h; subst h; simp
 | .bl _,_,h=>by rw [f7] at h; subst h; simp
 | .int _,_,h=>by rw [au] at h; subst h; simp
 | .str _,_,h=>by rw [dR] at h; subst h; simp
 | .tup _,_,h=>by rw [aO] at h; obtain ⟨_,_,rfl,_⟩:=h; simp
 | .lst _,_,h=>by rw [br] at h; obtain ⟨_,_,rfl,_⟩:=h; simp
 | .exc _,_,h=>by rw [DW] at h; obtain ⟨_,rfl,_⟩:=h; simp
 | .fdK _ _,_,h=>by rw [fC] at h; obtain ⟨_,_,_,rfl,_⟩:=h; simp
 | .fdT _ _,_,h=>by rw [jZ] at h; obtain ⟨_,_,_,rfl,_⟩:=h; simp
 | .adr _,_,h=>by rw [An] at h; subst h; simp
def Ko (x:D) (T:Bool->Prop):Prop:=T (decide (x=.non))
theorem Lx (h:T true):Ko .non T:=by unfold Ko; simpa using h
theorem Gu (hx:x≠.non) (h:T false):Ko x T:=by unfold Ko; rw [decide_eq_false hx]; exact h
theorem Ly (h:aJ c a ρ λx=>Ko x T):gX c (.Compare a [.Is] [.Constant .none j p2] pos) ρ T:=λσ H Hf Q S q =>
 kL (tQ (G9 cG)) (h σ H Hf _ S λx v H' aj hx r g=>by
  have e:=ud r
  exact ⟨_,rfl,by rw [e]; exact q _ H' aj hx g⟩)
noncomputable def D.row:D->Option (List D)
 | .lst ds=>some ds
 | .tup ds=>some ds
 | _=>none
theorem iI (e:d.row=some ds) (h:Rep K H d v):∃ p xs,v=.ref p/\aq K H ds xs/\((d=.lst ds/\fQ K H p xs)\/(d=.tup ds/\cU K H p xs)):=by
 cases d with
 | lst _=>cases e; rw [br] at h; obtain ⟨p,xs,rfl,h1,h2⟩:=h; exact ⟨p,xs,rfl,h2,.inl ⟨rfl,h1⟩⟩
 | tup _=>cases e; rw [aO] at h; obtain ⟨p,xs,rfl,h1,h2⟩:=h; exact ⟨p,xs,rfl,h2,.inr ⟨rfl,h1⟩⟩
 | _=>cases e
def Kp (x y:D) (R:D->Prop):Prop:=∃ ds i d,x.row=some ds/\y=.int i/\jS ds i=some d/\R d
theorem iJ (h:jS ds i=some d) (hR:R d):Kp (.lst ds) (.int i) R:=⟨ds,i,d,rfl,rfl,h,hR⟩
theorem Gv (h:jS ds i=some d) (hR:R d):Kp (.tup ds) (.int i) R:=⟨ds,i,d,rfl,rfl,h,hR⟩
theorem AG (h:aq K H ds xs) (e:jS ds i=some d):∃ x,jS xs i=some x/\Rep K H d x:=by
 unfold jS at e |-
 rw [<- h.length]
 obtain ⟨j,e1,e2⟩:=Option.bind_eq_some_iff.mp e
 obtain ⟨x,e3,rx⟩:=h.get e2
 exact ⟨x,by rw [e1]; exact e3,rx⟩
theorem Lz (h:aJ c a ρ λx=>aJ c b ρ λy=>Kp x y R) (hs:jY b:=by intro _ _; walk_at "u"):aJ c (.Subscript a b pos) ρ R:=λσ H Hf Q S q =>
 ck (KZ (Gg.or DL HP) cG cG hs) (h σ H Hf _ S λx v H1 aV h1 r1 g1=>h1 σ H1 aV _ (S.cC g1) λy u H2 cN ⟨ds,i,d,e1,e2,e3,hR⟩ r2 g2=>by
  subst e2
  rw [au] at r2; subst r2
  obtain ⟨p,xs,rfl,hr,hk⟩:=iI e1 (Rep.mono g2.f x r1)
  obtain ⟨z,ez,rz⟩:=AG hr e3
  have fin:=q d z H2 cN hR rz (g1.trans g2)
  rcases hk with ⟨_,hk⟩ | ⟨_,hk⟩
  ·exact .inl ⟨p,xs,i,z,rfl,rfl,g2.b.seq hk,ez,fin⟩
  ·exact .inr ⟨p,xs,i,z,rfl,rfl,az g2.b hk,ez,fin⟩)
theorem vU (sb:aN Hf H) {d:D} (h:(d=.lst ds/\fQ K Hf p xs)\/(d=.tup ds/\cU K Hf p xs)):fQ K H p xs\/cU K H p xs:=h.elim (λz=>.inl (sb.seq z.2)) λz=>.inr (az sb z.2)
theorem AH:yh K (λxs H Q=>∃ p ys,xs=[.ref p]/\(fQ K H p ys\/cU K H p ys)/\Q (.int ys.length) H) (λds R=>∃ x,ds=[x]/\∃ ys,x.row=some ys/\R (.int ys.length)):=by
 rintro ds vs H Hf Q R s rs ⟨x,rfl,ys,e,hR⟩ q
 obtain ⟨v,rfl,rv⟩:=kO rs
 obtain ⟨p,xs,rfl,hr,hk⟩:=iI e rv
 exact ⟨p,xs,rfl,vU s hk,q _ _ H Hf hR (by rw [hr.length]; exact au.mpr rfl) (.refl s)⟩
theorem e_len (hm:mg "len"=none) (h:aJ c e ρ λx=>∃ ys,x.row=some ys/\R (.int ys.length)) (hg:sc.names.lookup (OP "len")=some .globalImplicit:=by walk_at "u")
 (he:∀ env,starEach [e] env=(false,eval e env)::starEach [] env:=by intro _; walk_at "u"):aJ c (.Call (.Name "len" p) [e] [] pos) ρ R :=
 vQ oX AH hm PySem.boot_len (eE (h.imp λd hd=>jL ⟨d,rfl,hd⟩) he) hg (by decide) (by decide) he (by intro _; walk_at "u")
theorem Iq {R:Sl->Prop} (hm:mg "list"=none) (h:aJ c e ρ λx=>∃ ys,x.row=some ys/\R (.ow ys)) (hg:sc.names.lookup (OP "list")=some .globalImplicit:=by walk_at "u")
 (he:∀ env,starEach [e] env=(false,eval e env)::starEach [] env:=by intro _; walk_at "u"):dP c (.Call (.Name "list" p) [e] [] pos) ρ R :=
 Gr oY (q:=λds R=>∃ x ys,ds=[x]/\x.row=some ys/\R (.ow ys)) (λds vs H Hf Q R s rs ⟨x,ys,e1,e2,hR⟩ q=>by
  subst e1
  obtain ⟨v,rfl,rv⟩:=kO rs
  obtain ⟨p,xs,rfl,hr,hk⟩:=iI e2 rv
  exact ⟨p,xs,rfl,vU s hk,λl hl=>by
   have g2:=bw.fU s hl (o:=.lst xs)
   exact q _ _ _ _ hR ⟨l,xs,rfl,hl,af,s.free hl,hr⟩ g2⟩) hm PyProof.Rows.boot_list (eE (h.imp λd ⟨ys,h1,h2⟩=>jL ⟨d,ys,rfl,h1,h2⟩) he) hg (by decide) (by decide) he (by intro _; walk_at "u")
theorem vV (hm:mg "tuple"=none) (h:aJ c e ρ λx=>∃ ys,x.row=some ys/\R (.tup ys)) (hg:sc.names.lookup (OP "tuple")=some .globalImplicit:=by walk_at "u")
 (he:∀ env,starEach [e] env=(false,eval e env)::starEach [] env:=by intro _; walk_at "u"):aJ c (.Call (.Name "tuple" p) [e] [] pos) ρ R :=
 Lv mQ (q:=λds R=>∃ x ys,ds=[x]/\x.row=some ys/\R (.tup ys)) (λds vs H Hf Q R s rs ⟨x,ys,e1,e2,hR⟩ q=>by
  subst e1
  obtain ⟨v,rfl,rv⟩:=kO rs
  obtain ⟨p,xs,rfl,hr,hk⟩:=iI e2 rv
  rcases hk with ⟨_,hk⟩ | ⟨_,hk⟩
  ·exact ⟨p,xs,rfl,.inl ⟨s.seq hk,λl hl=>by
    have g2:=bw.new s hl (o:=.tup xs)
    exact q _ _ _ _ hR (aO.mpr ⟨l,xs,rfl,.inl (.inl af),hr.mono g2.f⟩) g2⟩⟩
  ·exact ⟨p,xs,rfl,.inr ⟨az s hk,q _ _ H Hf hR (aO.mpr ⟨p,xs,rfl,hk,hr⟩) (.refl s)⟩⟩) hm PyProof.Rows.boot_tuple (eE (h.imp λd ⟨ys,h1,h2⟩=>jL ⟨d,ys,rfl,h1,h2⟩) he) hg (by decide) (by decide) he (by intro _; walk_at "u")
noncomputable def Gw (K:OR):R2:=λx y H Q=>∃ l b xs zs,x=.ref l/\y=.ref b/\fQ K H l xs/\fQ K H b zs/\xs.length+zs.length<=sizeLine/\∀ p,H p=none->Q (.ref p) (upd H p (.lst (xs++zs)))
theorem Ef:fm X (binaryOp .Add) (Gw X.K):=by
 intro aa s σ H x y v u Q I rx ry h
 obtain ⟨l,b,xs,zs,rfl,rfl,hH,hB,hz,q⟩:=h
 cases rx
 cases ry
 obtain ⟨its,r,hl,z⟩:=I.list hH
 obtain ⟨its2,r2,hl2,z2⟩:=I.list hB
 have e1:=r.length
 have e2:=r2.length
 obtain ⟨⟨cls,dd,data,sl⟩,n,p1,p2,p3,p4⟩:=hl
 obtain ⟨⟨cls2,dd2,data2,sl2⟩,n',q1,q2,q3,q4⟩:=hl2
 simp only at p2 p3 p4 q2 q3 q4
 subst p2 p3 p4 q2 q3 q4
 have ea:its.toArray++its2.toArray=(its++its2).toArray:=by simp
 refine Ut ⟨_,p1,rfl⟩ ⟨_,q1,rfl⟩ noFill_list_add seq_list_add PySem.F.slot_list_add PySem.F.entry_list_add (PySem.F.args_list_add_2 _ _) (list_addW l b its.toArray its2.toArray n n' none none sl sl2 (by simp; lia)) ⟨p1,q1,?_⟩
 rw [ea]
 exact ⟨.ref _,_,I.HQ (t':=s.toks) (r.append r2) (by rw [Pr]; lia),rfl,q _ I.fresh⟩
noncomputable def AI (K:OR):R2:=λx y H Q=>∃ a b xs ys,x=.ref a/\y=.ref b/\cU K H a xs/\cU K H b ys/\xs.length+ys.length<=sizeLine /\
 (xs=[]->Q (.ref b) H)/\(ys=[]->Q (.ref a) H)/\∀ p,H p=none->Q (.ref p) (upd H p (.tup (xs++ys)))
theorem AJ:fm X (binaryOp .Add) (AI X.K):=by
 intro aa s σ H x y v u Q I rx ry h
 obtain ⟨t,b,xs,ys,rfl,rfl,hH,hB,hz,c1,c2,q⟩:=h
 cases rx
 cases ry
 obtain ⟨vs,r,ht,z⟩:=I.tuple hH
 obtain ⟨ws,r2,hb,z2⟩:=I.tuple hB
 obtain ⟨⟨cls,dd,data,sl⟩,ho,hc,n,hd⟩:=id ht
 obtain ⟨⟨cls2,dd2,data2,sl2⟩,ho2,hc2,n2,hd2⟩:=id hb
 simp only at hc hd hc2 hd2
 subst hc hd hc2 hd2
 have e:vs.toArray++ws.toArray=(vs++ws).toArray:=by simp
 have e1:=r.length
 have e2:=r2.length
 by_cases hv:vs=[]
 ·exact Ut ⟨_,ho,rfl⟩ ⟨_,ho2,rfl⟩ Vt seq_tuple_add UR UO (UJ _ _)
   (tuple_addW0 t b vs.toArray ws.toArray n n2 dd dd2 sl sl2 (by simp [hv])) ⟨ho,ho2,⟨.ref b,H,I,rfl,c1 (by rw [Vals.vF r] at hv; exact hv)⟩⟩
 ·by_cases hw:ws=[]
  ·exact Ut ⟨_,ho,rfl⟩ ⟨_,ho2,rfl⟩ Vt seq_tuple_add UR UO (UJ _ _)
    (tuple_addW1 t b vs.toArray ws.toArray n n2 dd dd2 sl sl2 (by simpa using hv) (by simp [hw])) ⟨ho,ho2,⟨.ref t,H,I,rfl,c2 (by rw [Vals.vF r2] at hw; exact hw)⟩⟩
  ·refine Ut ⟨_,ho,rfl⟩ ⟨_,ho2,rfl⟩ Vt seq_tuple_add UR UO (UJ _ _)
    (tuple_addW2 t b vs.toArray ws.toArray n n2 dd dd2 sl sl2 (by simpa using hv) (by simpa using hw) (by rw [Pg,Pg]; lia)) ⟨ho,ho2,?_⟩
   rw [e]
   refine ⟨.ref s.heap.objs.size,_,I.laid (t':=s.toks) (o:=.tup (xs++ys)) (λb ob q=>OX _ q) (OT _) ?_,rfl,q _ (I.hok.fresh (OT _))⟩
   exact ⟨by rw [Pr]; exact hz,_,r.append r2,IsTup.new _ _⟩
inductive mS:D->D->(Sl->Prop)->Prop where
 | int {i j:Int} {R:Sl->Prop} (h:R (.va (.int (i+j)))):mS (.int i) (.int j) R
 | lst {ds es:List D} {R:Sl->Prop} (h:Sd (ds.length+es.length<=sizeLine) (R (.ow (ds++es)))):mS (.lst ds) (.lst es) R
 | tup {ds es:List D} {R:Sl->Prop} (h:Sd (ds.length+es.length<=sizeLine) (R (.va (.tup (ds++es))))):mS (.tup ds) (.tup es) R
 | str {x y:Str} {R:Sl->Prop} (h:Sd (x.length+y.length<=sizeLine) (R (.va (.str (x++y))))):mS (.str x) (.str y) R
theorem jM (h:aq K H ds []):ds=[]:=by
 have:=h.length; cases ds with
 | nil=>rfl
 | cons _ _=>simp at this
theorem Eg:MJ K (λx y H Q=>(((x8 λi j=>V.int (i+j)) x y H Q\/Gw K x y H Q)\/AI K x y H Q)\/∃ i j,x=.str i/\y=.str j/\i.length+j.length<=sizeLine/\Q (.str (i++j)) H) mS:=by
 rintro x y v u H Hf Q R s rx ry h q
 cases h with
 | @int i j _ h =>
  rw [au] at rx ry
  exact .inl (.inl (.inl ⟨i,j,rx,ry,q (.va (.int (i+j))) _ H Hf h (show Rep K Hf (.int (i+j)) _ from au.mpr rfl) (.refl s)⟩))
 | @lst ds es _ h =>
  rw [br] at rx ry
  obtain ⟨a,xs,rfl,h1,h2⟩:=rx
  obtain ⟨b,ys,rfl,h3,h4⟩:=ry
  refine .inl (.inl (.inr ⟨a,b,xs,ys,rfl,rfl,s.seq h1,s.seq h3,by rw [<- h2.length,<- h4.length]; exact h.s,λp hp=>?_⟩))
  exact q (.ow (ds++es)) _ _ _ h.r ⟨p,xs++ys,rfl,hp,af,s.free hp,h2.append h4⟩ (bw.fU s hp)
 | @tup ds es _ h =>
  rw [aO] at rx ry
  obtain ⟨a,xs,rfl,h1,h2⟩:=rx
  obtain ⟨b,ys,rfl,h3,h4⟩:=ry
  refine .inl (.inr ⟨a,b,xs,ys,rfl,rfl,az s h1,az s h3,by rw [<- h2.length,<- h4.length]; exact h.s,λe=>?_,λe=>?_,λp hp=>?_⟩)
  ·subst e
   have:=jM h2
   subst this
   exact q (.va (.tup ([]++es))) _ H Hf h.r (show Rep K Hf (.tup ([]++es)) _ from aO.mpr ⟨b,ys,rfl,h3,h4⟩) (.refl s)
  ·subst e
   have:=jM h4
   subst this
   exact q (.va (.tup (ds++[]))) _ H Hf h.r (show Rep K Hf (.tup (ds++[])) _ from aO.mpr ⟨a,xs,rfl,h1,by rw [Qd]; exact h2⟩) (.refl s)
  ·have g:=bw.new s hp (o:=.tup (xs++ys))
   exact q (.va (.tup (ds++es))) _ _ _ h.r (show Rep K _ (.tup (ds++es)) _ from aO.mpr ⟨p,xs++ys,rfl,.inl (.inl af),(h2.append h4).mono g.f⟩) g
 | @str x y _ h =>
  rw [dR] at rx ry
  exact .inr ⟨x,y,rx,ry,h.s,q (.va (.str (x++y))) _ H Hf h.r (show Rep K Hf (.str (x++y)) _ from dR.mpr rfl) (.refl s)⟩
theorem Gx {R:Sl->Prop} (h:aJ c a ρ λx=>aJ c b ρ λy=>mS x y R):dP c (.BinOp a .Add b pos) ρ R :=
 kN (fm.or (fm.or (fm.or Hy Ef) AJ) tV) Eg h
noncomputable def cutD {α:Type} (xs:List α) (lo hi:Option Int):List α:=(xs.drop (HT.cy xs.length 0 lo)).take (HT.cy xs.length xs.length hi - HT.cy xs.length 0 lo)
theorem qW (h:aq K H ds xs) (lo hi):aq K H (cutD ds lo hi) (oV xs lo hi):=by
 unfold cutD oV
 rw [h.length]
 exact (h.drop _).take _
noncomputable def bP (X:Cx) (e:Option Expr):TO:=λσ H Q=>∀ aa s,Inv X aa σ H s->wpAny (model X.prog X.w) X.A (evalPart e X.env) (λu s'=>∃ o H',Inv X aa σ H' s'/\IsPart u o/\Q o H') X.xe s
theorem Oi {X:Cx} {e:Option Expr}:PO X e (bP X e):=λaa s σ H Q I h=>h aa s I
def Ir (c:Ctx P w K mg base k N sc bk) (e:Option Expr) (ρ:List Sl) (R:Option Int->Prop):Prop :=
 ∀ (σ:L2.St) (H Hf:Hp) (Q:Option Int->Hp->Prop),bF c σ H Hf ρ->(∀ o H' aj,R o->bw H Hf H' aj->Q o H')->bP c.X e σ H Q
theorem Iu {R:Option Int->Prop} (h:R none):Ir c none ρ R:=λσ H Hf Q S q aa s I=>DI aa s σ H Q I (q none H Hf h (.refl S.sb))
theorem Iv {R:Option Int->Prop} (h:aJ c e ρ (I1 λi=>R (some i))):Ir c (some e) ρ R:=λσ H Hf Q S q aa s I =>
 DJ cG aa s σ H Q I (h σ H Hf _ S λd v H' aj ⟨i,e,hR⟩ r g=>by subst e; rw [au] at r; exact ⟨i,r,q _ H' aj hR g⟩)
noncomputable def LA (K:OR):V->Option Int->Option Int->Hp->VK->Prop:=λx lo hi H Q=>∃ a xs,x=.ref a/\cU K H a xs /\
 (HT.cy xs.length 0 lo=0/\HT.cy xs.length xs.length hi=xs.length)/\Q (.ref a) H
theorem gM {lo hi:Option Int} (ht:IsTup s.heap t items) (hs:s.heap.IsSliceOf sl vl vu .none) (pl:IsPart vl lo) (pu:IsPart vu hi)
 (hw:HT.cy items.size 0 lo=0/\HT.cy items.size items.size hi=items.size) (h:Q (.ref t) s):wpAny (model prog w) A (getItem (.ref t) (.ref sl)) Q E s:=by
 obtain ⟨os,hos,hcs,hds⟩:=id hs
 have hTs:s.TypeIs (.ref sl) "slice":=⟨os,hos,hcs⟩
 unfold getItem
 try with_reducible refine Qx ?_
 first | refine OQ (OS ?_) | skip
 refine OQ (Vf ht.typeIs (by decide) ?_)
 refine OQ (Rj (name:=OP "__getitem__") ht.typeIs RS
  (QV RS ht.typeIs entry_tuple_getitem ?_ (args_tuple_getitem _ _)))
 show wpAny _ _ (Builtin.Tuple.tupleItemsOf (.ref t) >>= _) _ _ s
 refine OQ (tupleItemsOf_ ht ?_)
 refine OQ (Rq hTs ?_)
 rw [if_pos (by decide)]
 refine OQ (HT.eU hs pl pu ?_)
 have hyes:((((HT.cy items.size 0 lo:Nat):Int) == 0 && (1:Int) == 1 && (HT.cy items.size items.size hi - HT.cy items.size 0 lo) == items.size)=true):=by
  rw [hw.1,hw.2]; simp
 show wpAny _ _ (if (((HT.cy items.size 0 lo:Nat):Int) == 0 && (1:Int) == 1 && (HT.cy items.size items.size hi - HT.cy items.size 0 lo) == items.size)=true then _ else _) _ _ s
 rw [if_pos hyes]
 obtain ⟨⟨cls,dd,data,sl'⟩,ho,hc,n,hd⟩:=id ht
 simp only at hc hd
 subst hc hd
 unfold Builtin.Tuple.tupleIsExact
 wp_walk using TN ho
 exact ⟨_,rfl,OS h⟩
theorem AK:Dm X (LA X.K):=by
 intro aa s σ H x v vl vu lo hi sl Q I rx hs pl pu h
 obtain ⟨a,xs,rfl,hx,hw,q⟩:=h
 cases rx
 obtain ⟨its,r,ht,hz⟩:=I.tuple hx
 have hlen:its.toArray.size=xs.length:=by rw [Pg]; exact r.length.symm
 refine ⟨"tuple",_,RS.lookup,ht.typeIs,?_⟩
 exact gM ht hs pl pu (by rw [hlen]; exact hw) ⟨.ref a,H,I,rfl,q⟩
inductive Iw:D->Option Int->Option Int->(Sl->Prop)->Prop where
 | lst {ds:List D} {lo hi:Option Int} {R:Sl->Prop} (h:R (.ow (cutD ds lo hi))):Iw (.lst ds) lo hi R
 | tup {ds:List D} {lo hi:Option Int} {R:Sl->Prop} (h:R (.va (.tup (cutD ds lo hi)))):Iw (.tup ds) lo hi R
theorem yi {lo hi:Option Int} (h:HT.cy xs.length 0 lo=0/\HT.cy xs.length xs.length hi=xs.length):cutD xs lo hi=xs:=by
 unfold cutD; rw [h.1,h.2]; simp
theorem vW {lo hi:Option Expr} {R:Sl->Prop} (h:aJ c e ρ λx=>Ir c lo ρ λl=>Ir c hi ρ λu=>Iw x l u R):dP c (.Subscript e (.Slice lo hi none p2) pos) ρ R:=λσ H Hf Q S q =>
 ck (Ab (Dm.or (Dm.or DM HN) AK) cG Oi Oi) (h σ H Hf _ S λx v H1 aV h1 r1 g1=>h1 σ H1 aV _ (S.cC g1) λl H2 cN h2 g2=>h2 σ H2 cN _ (S.cC (g1.trans g2)) λu H3 Hf3 h3 g3=>by
  have r3:=Rep.mono g3.f x (Rep.mono g2.f x r1)
  have g:=(g1.trans g2).trans g3
  cases h3 with
  | lst h =>
   rw [br] at r3
   obtain ⟨a,xs,rfl,k1,k2⟩:=r3
   refine .inl (.inl ⟨a,xs,rfl,g3.b.seq k1,λp hp=>?_⟩)
   exact q _ _ _ _ h ⟨p,_,rfl,g.s.free hp,af,g3.b.free hp,qW k2 l u⟩ (g.trans (bw.fU g3.b hp))
  | tup h =>
   rw [aO] at r3
   obtain ⟨a,xs,rfl,k1,k2⟩:=r3
   by_cases hw:HT.cy xs.length 0 l=0/\HT.cy xs.length xs.length u=xs.length
   ·refine .inr ⟨a,xs,rfl,az g3.b k1,hw,?_⟩
    refine q _ _ _ _ h (show Rep c.X.K Hf3 _ _ from aO.mpr ⟨a,xs,rfl,k1,?_⟩) g
    rw [yi (by rw [k2.length]; exact hw)]; exact k2
   ·refine .inl (.inr ⟨a,xs,rfl,az g3.b k1,hw,λp hp=>?_⟩)
    have g4:=bw.new g3.b hp (o:=.tup (oV xs l u))
    exact q _ _ _ _ h (show Rep c.X.K _ _ _ from aO.mpr ⟨p,_,rfl,.inl (.inl af),(qW k2 l u).mono g4.f⟩) (g.trans g4))
theorem AL (a:bw H₀ eT H1 aV) (b:bw H₀ aV H Hf):bw H₀ eT H Hf :=
 ⟨b.s,a.f.trans b.f,b.b,λc h1 h2 h3=>b.n c (a.n c h1 h2 h3) h2 h3⟩
theorem d9.re (a:bw H₀ eT H1 aV) (S:d9 K H₀ aV σ H Hf ρ):d9 K H₀ eT σ H Hf ρ:=⟨AL a S.bas,S.len,S.at_,S.sep⟩
theorem d9.anew (S:d9 K H₀ eT σ H Hf ρ):d9 K H₀ Hf σ H Hf ρ:=⟨⟨S.bas.s,.refl _,S.bas.b,λ_ h _ _=>h⟩,S.len,S.at_,S.sep⟩
noncomputable def Ctx.at_ (c:Ctx P w K mg base k N sc bk) {H1 aV:Hp} (a:bw c.B c.Hf H1 aV):Ctx P w K mg base k N sc bk :=
 { X:=c.X,eP:=c.eP,ew:=c.ew,eK:=c.eK,emg:=c.emg,eb:=c.eb,eN:=c.eN,esc:=c.esc,calm:=c.calm,top:=c.top,cb:=c.cb,fn:=c.fn,room:=c.room,nd:=c.nd,vis:=c.vis,B:=c.B,Hf:=aV,RX:=c.RX,RM:=c.RM,
   exc:=λC x aa σ H aj ρ s H' s' I S h X sm=>c.exc C x aa σ H aj ρ s H' s' I (S.re a) h X sm,mde:=λC x aa σ H aj ρ s h' us I S h hx=>c.mde C x aa σ H aj ρ s h' us I (S.re a) h hx }
theorem Ar.at_ {nx:List Sl->Prop} {p:Pt} {D:Ends} {H1 aV:Hp} (a:bw c.B c.Hf H1 aV) (o:Ar c nx p D):Ar (c.at_ a) nx p D :=
 ⟨λσ H Hf ρ S q=>o.nx σ H Hf ρ (d9.re a S) q,λr v H Hf g rv q=>o.rt r v H Hf (AL a g) rv q,λσ H Hf ρ S q=>o.bk σ H Hf ρ (d9.re a S) q,λσ H Hf ρ S q=>o.ct σ H Hf ρ (d9.re a S) q⟩
noncomputable def bI (X:Cx) (tg iter:Expr):TI:=λσ H R=>∀ aa s,Inv X aa σ H s->wpAny (model X.prog X.w) X.A (eval iter X.env) (λv s1=>wpAny (model X.prog X.w) X.A (pyIter v) (Ng X aa σ tg R) X.xe s1) X.xe s
theorem OJ {X:Cx} {tg iter:Expr}:PI X tg iter (bI X tg iter):=λaa s σ H R I h=>h aa s I
structure jj (K:OR) (J:It) (ds:List D) (eT:Hp):Prop where
 go:∀ i d H Hf,aN eT Hf->aN Hf H->ds[i]?=some d->J.go i H/\∀ x H',J.yld i H x H'->∃ aj,bw H Hf H' aj/\Rep K aj d x
 stop:∀ i H Hf,aN eT Hf->aN Hf H->ds.length<=i->J.stop i H
def AM (c:Ctx P w K mg base k N sc bk) (tg iter:Expr) (ρ:List Sl) (R:List D->Prop):Prop :=
 ∀ (σ:L2.St) (H Hf:Hp) (Q:It->Hp->Prop),bF c σ H Hf ρ->(∀ ds J H' aj,R ds->bw H Hf H' aj->jj c.X.K J ds aj->Q J H')->bI c.X tg iter σ H Q
theorem yj {K:OR} {ds:List D} {xs:List V} {p:Addr} {eT:Hp} (h:fQ K eT p xs) (r:aq K eT ds xs):jj K (Nh K p) ds eT where
 go:=λi d H Hf s1 s2 e=>by
  obtain ⟨x,ex,rx⟩:=r.get e
  refine ⟨⟨xs,x,(s1.trans s2).seq h,ex⟩,λy H' ⟨e1,e2⟩=>?_⟩
  subst e1
  have:=e2 xs ((s1.trans s2).seq h)
  rw [ex] at this; cases this
  exact ⟨Hf,.refl s2,Rep.mono s1 d rx⟩
 stop:=λi H Hf s1 s2 e=>⟨xs,(s1.trans s2).seq h,by rw [<- r.length]; exact e⟩
theorem AN {K:OR} {ds:List D} {xs:List V} {p:Addr} {eT:Hp} (h:cU K eT p xs) (r:aq K eT ds xs):jj K (Ni K p) ds eT where
 go:=λi d H Hf s1 s2 e=>by
  obtain ⟨x,ex,rx⟩:=r.get e
  refine ⟨⟨xs,x,az (s1.trans s2) h,ex⟩,λy H' ⟨e1,e2⟩=>?_⟩
  subst e1
  have:=e2 xs (az (s1.trans s2) h)
  rw [ex] at this; cases this
  exact ⟨Hf,.refl s2,Rep.mono s1 d rx⟩
 stop:=λi H Hf s1 s2 e=>⟨xs,az (s1.trans s2) h,by rw [<- r.length]; exact e⟩
noncomputable def NR (K:OR) (tl:TE):TI:=λσ H R=>tl σ H λx H1=>∃ a,x=.ref a/\(((∃ xs,fQ K H1 a xs)/\R (Nh K a) H1)\/((∃ xs,cU K H1 a xs)/\R (Ni K a) H1))
theorem Iz (hl:PE X l tl):PI X tg l (NR X.K tl):=by
 intro aa s σ H R I h
 refine bJ (hl aa s σ H _ I h) λv s1 ⟨x,H1,I1,r1,q1⟩=>?_
 obtain ⟨a,e,h⟩:=q1
 subst e
 cases r1
 rcases h with ⟨⟨xs,hq⟩,q⟩ | ⟨⟨xs,hq⟩,q⟩
 ·obtain ⟨its,rv,p,hz⟩:=I1.list hq
  refine SM p.isList ?_
  refine ⟨s1.heap.objs.size,[s1.heap.objs.size],_,_,H1,rfl,I1.kept (t':=s1.toks) λb o e=>OX _ e,xY a _,⟨_,O7 _ rfl,rfl,rfl⟩,λb hb=>?_,q⟩
  have e:b=s1.heap.objs.size:=by simpa using hb
  subst e
  exact I1.jh (OT _) (I1.hok.fresh (OT _))
 ·obtain ⟨its,rv,p,hz⟩:=I1.tuple hq
  refine U6 (show s1.heap.IsTuple a its.toArray from p) ?_
  refine ⟨s1.heap.objs.size,[s1.heap.objs.size],_,_,H1,rfl,I1.kept (t':=s1.toks) λb o e=>OX _ e,tR a _,⟨_,O7 _ rfl,rfl,rfl⟩,λb hb=>?_,q⟩
  have e:b=s1.heap.objs.size:=by simpa using hb
  subst e
  exact I1.jh (OT _) (I1.hok.fresh (OT _))
theorem dS {R:List D->Prop} (h:aJ c e ρ λd=>∃ ds,d.row=some ds/\R ds):AM c tg e ρ R:=λσ H Hf Q S q aa s I =>
 Iz cG aa s σ H Q I (h σ H Hf _ S λd v H' aj ⟨ds,er,hR⟩ r g=>by
  obtain ⟨p,xs,rfl,hr,hk⟩:=iI er r
  refine ⟨p,rfl,?_⟩
  rcases hk with ⟨_,hk⟩ | ⟨_,hk⟩
  ·exact .inl ⟨⟨xs,g.b.seq hk⟩,q ds _ H' aj hR g (yj hk hr)⟩
  ·exact .inr ⟨⟨xs,az g.b hk⟩,q ds _ H' aj hR g (AN hk hr)⟩)
noncomputable def mT (lo:Int) (n:Nat):List D:=(Pc n).map λ(i:Nat)=>D.int (lo+(i:Int))
theorem AO {K:OR} {lo:Int} {n:Nat} {eT:Hp}:jj K (MH lo n) (mT lo n) eT where
 go:=λi d H Hf s1 s2 e=>by
  unfold mT at e
  rw [O8] at e
  obtain ⟨j,e1,e2⟩:=Pf.mp e
  have hi:i<n:=by
   have:=(O6.mp e1).1
   simpa using this
  have:j=i:=by
   rw [SI hi] at e1; cases e1; rfl
  subst this
  refine ⟨hi,λx H' ⟨e3,e4⟩=>?_⟩
  subst e3 e4 e2
  exact ⟨Hf,.refl s2,au.mpr rfl⟩
 stop:=λi H Hf s1 s2 e=>by
  show n<=i
  simpa [mT] using e
def AQ (i:Int):Prop:= -(2 ^ 62)<=i/\i<2 ^ 62
theorem dD {R:List D->Prop} (hm:mg "range"=none) (h:aJ c e ρ (I1 λj=>Sd (AQ j) (R (mT 0 j.toNat)))) (hg:sc.names.lookup (OP "range")=some .globalImplicit:=by walk_at "u")
 (hs:∀ env,starEach [e] env=(false,eval e env)::starEach [] env:=by intro _; walk_at "u"):AM c tg (.Call (.Name "range" p) [e] [] pos) ρ R:=λσ H Hf Q S q aa s I =>
 xZ (by unfold Gl P8; rw [c.esc]; exact hg) (by rw [c.emg]; exact hm) (bD cG dh (hs _)) (hs _) aa s σ H Q I (h σ H Hf _ S λd v H' aj ⟨j,ed,⟨hj,hR⟩⟩ r g=>by
  subst ed; rw [au] at r; subst r
  exact ⟨j,rfl,hj.1,hj.2,q _ _ H' aj hR g AO⟩)
theorem cX {tg iter:Expr} {body:List Stmt} {nx:List Sl->Prop} {p:Pt} (hq:c.X.xe=λ_ _=>False)
 (h:AM c tg iter ρ λds=>∃ I:Nat->List Sl->Prop,I 0 ρ /\
   (∀ c':Ctx P w K mg base k N sc bk,c'.X=c.X->c'.RX=c.RX->c'.RM=c.RM->∀ i d ρ',ds[i]?=some d->I i ρ'->o9 c' tg d ρ' λρ''=>aH c' body ρ'' (I (i+1)) { rt:=p.rt,bk:=nx,ct:=I (i+1) })/\∀ ρ',I ds.length ρ'->nx ρ')
 (hs:∀ env x,foldedSetIterable iter env x=pure x:=by intro _ _; walk_at "u"):fX c (.For tg iter body [] pos) ρ nx p:=λσ H Hf D S o =>
 cW (Hw (by rw [hq]; exact PassesOwn.never) c.calm OJ OH qQ (hs _)) (h σ H Hf _ S λds J H1 aV ⟨I,h0,hb,he⟩ g io=>by
  have S1:=S.cC g
  have gb:bw c.B c.Hf H1 aV:=S1.bas
  refine ⟨λi m σ H=>m=ds.length - i/\i<=ds.length/\∃ Hf ρ',bF (c.at_ gb) σ H Hf ρ'/\I i ρ',⟨_,rfl,PK _,aV,ρ,S1.anew,h0⟩,?_⟩
  rintro i m σ H ⟨rfl,hi,Hf,ρ',S',hI⟩
  by_cases hlt:i<ds.length
  ·have ed:ds[i]?=some ds[i]:=Pk hlt
   obtain ⟨hgo,hy⟩:=io.go i _ H Hf S'.bas.f S'.bas.b ed
   refine .inr ⟨hgo,λσ' H'=>∃ aj ρ'',bF (c.at_ gb) σ' H' aj ρ''/\I (i+1) ρ'',λσ' H' ⟨aj,ρ'',S'',hI'⟩=>⟨_,by omega,rfl,hlt,aj,ρ'',S'',hI'⟩,λx H' hx=>?_⟩
   obtain ⟨aj,g',rx⟩:=hy x H' hx
   refine hb (c.at_ gb) rfl rfl rfl i _ ρ' ed hI σ H' aj x _ (S'.cC g') rx λσ2 H2 cN ρ2 S2 _ hbody=>?_
   exact hbody σ2 H2 cN _ S2 ⟨λσ H Hf ρ S q=>⟨Hf,ρ,S,q⟩,(o.at_ gb).rt,λσ H Hf ρ S q=>(o.at_ gb).nx σ H Hf ρ S q,λσ H Hf ρ S q=>⟨Hf,ρ,S,q⟩⟩
  ·have e:i=ds.length:=by omega
   subst e
   exact .inl ⟨io.stop _ H Hf S'.bas.f S'.bas.b (OT _),(o.at_ gb).nx σ H Hf ρ' S' (he ρ' hI)⟩)
end
section
variable {K:OR}
end
section
variable {K:OR}
theorem nI (h:R d):Ie R (.va d):=⟨d,rfl,h⟩
theorem gS (h:R (.lst ds)):Ie R (.ow ds):=⟨.lst ds,rfl,h⟩
theorem IB (h:aJ c a ρ λx=>aJ c b ρ λy=>mS x y (Ie R)):aJ c (.BinOp a .Add b pos) ρ R:=e_x (Gx h)
theorem qR.imp {R R':List D->Prop} (h:qR c es ρ R) (hi:∀ d,R d->R' d):qR c es ρ R':=λσ H Hf Q S q=>h σ H Hf Q S λd v H' aj rd=>q d v H' aj (hi d rd)
theorem IC (h:qR c es ρ λds=>Sd (ds.length<=sizeLine) (R (.lst ds))):aJ c (.List es pos) ρ R:=e_x (Gq (h.imp λds hd=>⟨hd.s,gS hd.r⟩))
theorem AR {lo hi:Option Expr} (h:aJ c e ρ λx=>Ir c lo ρ λl=>Ir c hi ρ λu=>Iw x l u (Ie R)):aJ c (.Subscript e (.Slice lo hi none p2) pos) ρ R:=e_x (vW h)
theorem AS {R:Sl->Prop} (h:R (.va (.int (i+j)))):mS (.int i) (.int j) R:=.int h
theorem AU {ds es:List D} {R:Sl->Prop} (h:Sd (ds.length+es.length<=sizeLine) (R (.ow (ds++es)))):mS (.lst ds) (.lst es) R:=.lst h
theorem nJ (h:aJ c a ρ λx=>aJ c b ρ λy=>Kp x y R) (hs:jY b:=by with_unfolding_all exact λ_ _=>rfl):aJ c (.Subscript a b pos) ρ R:=Lz h hs
theorem ID {x:D} {Q:List D->Prop} (e:x.row=some ds) (h:Q ds):∃ ys,x.row=some ys/\Q ys:=⟨ds,e,h⟩
theorem aC {F:Fn} {R:Sl->Prop} (h:F ds (.ok sl)) (r:R sl):∃ r,F ds r/\Lr c ρ R r:=⟨_,h,r⟩
end
section
variable {K:OR}
end
noncomputable def del (H:Hp) (p:Addr):Hp:=λb=>if b=p then none else H b
theorem eX:del H p p=none:=if_pos rfl
theorem bN (h:b≠p):del H p b=H b:=if_neg h
theorem AV (h:H₀ p=none) (s:aN H₀ H):aN H₀ (del H p):=λb o e=>by
 rw [bN (aD e h)]; exact s b o e
theorem dF (h:del H p b=some o):b≠p/\H b=some o:=by
 by_cases e:b=p
 ·subst e; rw [eX] at h; cases h
 ·rw [bN e] at h; exact ⟨e,h⟩
theorem dU (sb:aN Hf H) (hp:Hf p=none):bw (del H p) Hf (upd H p o) Hf :=
 ⟨λb u e=>by obtain ⟨h1,h2⟩:=dF e; rw [ai h1]; exact h2,.refl _,λb u e=>by rw [ai (aD e hp)]; exact sb b u e,λ_ h _ _=>h⟩
section
variable {K:OR}
theorem bz.Gy (ho:r.owned=true) (h:bz K fr H Hf r v):∃ p o,v=.ref p/\fr p/\H p=some o/\Hf p=none/\¬ Ao H p:=by
 have nf:∀ {p:Addr} {u:HO},H p=some u->(∀ φ,u≠.ext φ)->¬ Ao H p:=λe k ⟨z,e2⟩=>by rw [e] at e2; exact k _ (QI e2)
 cases r with
 | un=>cases ho
 | va d=>cases ho
 | fo s=>cases ho
 | ow ds=>obtain ⟨p,xs,rfl,f,h1,h2,_⟩:=h; exact ⟨p,_,rfl,f,h1,h2,nf h1 (by intro _ z; cases z)⟩
 | oT ds=>obtain ⟨p,xs,rfl,f,h1,h2,_⟩:=h; exact ⟨p,_,rfl,f,h1,h2,nf h1 (by intro _ z; cases z)⟩
 | oK ds=>obtain ⟨p,xs,rfl,f,h1,h2,_⟩:=h; exact ⟨p,_,rfl,f,h1,h2,nf h1 (by intro _ z; cases z)⟩
 | aw a ds=>obtain ⟨p,xs,rfl,f,h1,h2,_⟩:=h; exact ⟨p,_,rfl,f.1,h1,h2,nf h1 (by intro _ z; cases z)⟩
 | aT a ds=>obtain ⟨p,xs,rfl,f,h1,h2,_⟩:=h; exact ⟨p,_,rfl,f.1,h1,h2,nf h1 (by intro _ z; cases z)⟩
 | aK a ds=>obtain ⟨p,xs,rfl,f,h1,h2,_⟩:=h; exact ⟨p,_,rfl,f.1,h1,h2,nf h1 (by intro _ z; cases z)⟩
theorem bz.qX (ho:r.owned=true) (h:bz K fr H Hf r v):∃ p o,v=.ref p/\fr p/\H p=some o/\Hf p=none :=
 let ⟨p,o,a,b,c,d,_⟩:=h.Gy ho; ⟨p,o,a,b,c,d⟩
theorem bz.LB (nf:¬ Ao H p) (hv:r.owned=true->v≠.ref p) (h:bz K fr H Hf r v):bz K fr (del H p) Hf r v :=
 bz.mv (B:=λq=>q=p) (.refl _) (λq o hq e1 _ e3=>⟨by rw [bN hq]; exact e1,e3⟩) (λ_ q e=>by subst e; exact nf) (λho q z e=>by subst e; exact hv ho z) h
theorem d9.own (S:d9 K H₀ eT σ H Hf ρ) {i:Nat} (hi:ρ[i]?=some r) (ho:r.owned=true):∃ p,σ[i]?=some (some (.ref p))/\bz K (λp=>H₀ p=none) H Hf r (.ref p):=by
 obtain ⟨v,e,q⟩:=S.at_ i r hi (by rintro rfl; cases ho)
 obtain ⟨p,o,rfl,_⟩:=q.qX ho
 exact ⟨p,e,q⟩
theorem d9.upd (S:d9 K H₀ eT σ H Hf ρ) (hi:ρ[i]?=some r) (ho:r.owned=true) (hp:σ[i]?=some (some (.ref p))) (g:bw (del H p) Hf H1 aV)
 (hr:bz K (λq=>q=p) H1 aV r' (.ref p)) (ho':r'.owned=true):d9 K H₀ eT σ H1 aV (ρ.set i r'):=by
 obtain ⟨p',ep,q⟩:=S.own hi ho
 rw [hp] at ep; cases ep
 obtain ⟨_,o,e,fp,hHp,hfp,nfz⟩:=q.Gy ho
 cases e
 have hlt:i<ρ.length:=(O6.mp hi).1
 refine ⟨⟨(AV fp S.bas.s).trans g.s,S.bas.f.trans g.f,g.b,λb h1 h2 h3=>?_⟩,by simp [S.len],λj r1 hj hu=>?_,λj j' r1 r2 q' hne h1 h2 o1 o2=>?_⟩
 ·have hb:b≠p:=λz=>by subst z; exact h2 fp
  cases z:H₀ b with
  | none=>exact absurd z h2
  | some o1 =>
   have e1:=S.bas.s b o1 z
   refine g.n b (S.bas.n b h1 h2 h3) (by rw [bN hb,e1]; simp) λxs=>?_
   rw [bN hb,e1,<- z]; exact h3 xs
 ·by_cases e:j=i
  ·subst e
   rw [Qq hlt] at hj; cases hj
   exact ⟨_,hp,hr.weak λq' z=>by subst z; exact fp⟩
  ·rw [Qn (Pe e)] at hj
   obtain ⟨v,e1,e2⟩:=S.at_ j r1 hj hu
   exact ⟨v,e1,(e2.LB (p:=p) nfz λow z=>by subst z; exact S.sep i j _ _ p (Pe e) hi hj ho ow hp e1).cC g⟩
 ·have out:∀ {j:Nat} {r1:Sl},(ρ.set i r')[j]?=some r1->r1.owned=true->∃ r2,ρ[j]?=some r2/\r2.owned=true:=λ{j r1} hj how=>by
   by_cases e:j=i
   ·subst e; exact ⟨r,hi,ho⟩
   ·rw [Qn (Pe e)] at hj; exact ⟨r1,hj,how⟩
  obtain ⟨r3,a1,a2⟩:=out h1 o1
  obtain ⟨r4,b1,b2⟩:=out h2 o2
  exact S.sep j j' r3 r4 q' hne a1 b1 a2 b2
end
section
variable {K:OR} {c:Ctx P w K mg base k N sc bk}
theorem Ctx.iK (c:Ctx P w K mg base k N sc bk) (hN:At N i x) (hd:(x == ("__debug__":Str))=false) (hcd:(x == ("__classdict__":Str))=false):PE c.X (.Name x px) (Kw i) :=
 tP (X:=c.X) (i:=i) (by rw [c.eN]; exact hN.get) (by rw [c.esc]; rcases c.vis x hN.mem with h | h; exact .inl h; exact .inr (.inl h)) hd hcd
noncomputable def Sl.getL:Sl->Option (List D) | .ow ds=>some ds | .aw _ ds=>some ds | _=>none
noncomputable def Sl.putL:Sl->List D->Sl | .ow _,es=>.ow es | .aw a _,es=>.aw a es | s,_=>s
theorem bq {r:Sl} (h:r.getL=some ds):r.owned=true:=by cases r <;> first | rfl | cases h
theorem cR {r:Sl} {ds es:List D} (h:r.getL=some ds):(r.putL es).owned=true:=by cases r <;> first | rfl | cases h
theorem yk {p:Addr} (h:r.getL=some ds) (q:bz K fr H Hf r (.ref p)):∃ xs,H p=some (.lst xs)/\Hf p=none/\aq K Hf ds xs:=by
 cases r with
 | ow es=>cases h; obtain ⟨_,xs,e,_,h1,h2,h3⟩:=q; cases e; exact ⟨xs,h1,h2,h3⟩
 | aw a es=>cases h; obtain ⟨_,xs,e,_,h1,h2,h3⟩:=q; cases e; exact ⟨xs,h1,h2,h3⟩
 | _=>cases h
theorem eY {ds es:List D} {p:Addr} (h:r.getL=some ds) (q:bz K fr H Hf r (.ref p)) (h1:H1 p=some (.lst ys)) (h2:aV p=none) (h3:aq K aV es ys) :
 bz K (λq=>q=p) H1 aV (r.putL es) (.ref p):=by
 cases r with
 | ow _=>exact ⟨p,ys,rfl,rfl,h1,h2,h3⟩
 | aw a _=>obtain ⟨_,xs,e,f,_⟩:=q; cases e; exact ⟨p,ys,rfl,⟨rfl,f.2⟩,h1,h2,h3⟩
 | _=>cases h
theorem ue (hN:At N i x) (hi:At ρ i r) (hr:r.getL=some ds) (h:aJ c e ρ λd=>Sd (ds.length<sizeLine) (Nx ρ i nx (r.putL (ds++[d]))))
 (hs:∀ env,swapsWith (.Call (.Attribute (.Name x px) "append" ap) [e] [] cp) none pos.line env=pure false:=by intro _; walk_at "u") (hd:(x == ("__debug__":Str))=false:=by decide) (hcd:(x == ("__classdict__":Str))=false:=by decide)
 (hbase:∀ env,attributeBase (.Name x px) "append" env (eval (.Name x px) env)=eval (.Name x px) env:=by intro _; walk_at "u")
 (hfew:∀ env,((backTo cp (starEach [e] env)).all (λx=> !x.1) && (backToKw cp (keywordEach [] env)).all (λx=>x.1.isSome)
   && decide (([e]:List Expr).length+([]:List Keyword).length+(if ([]:List Keyword).isEmpty then 0 else 1)<30))=true:=by intro _; walk_at "u")
 (hline:(ap.endLine == cp.line)=true:=by walk_at "u") (he:∀ env,starEach [e] env=(false,eval e env)::starEach [] env:=by intro _; walk_at "u") (hpl:∀ env,(backTo cp (starEach [] env)).any (·.1)=false:=by intro _; walk_at "u") :
 fX c (.Expr (.Call (.Attribute (.Name x px) "append" ap) [e] [] cp) pos) ρ nx p:=λσ H Hf D S o=>by
 obtain ⟨q,eq,rq⟩:=S.own hi.get (bq hr)
 obtain ⟨xs,h1,h2,h3⟩:=yk hr rq
 refine cW (iG (Gh TQ PySem.F.slot_list_append PySem.F.type_list_append nk (c.iK hN hd hcd) (bD cG dh (he _)) (hbase _) (hfew _) hline (he _) (hpl _)) (hs _)) ⟨_,eq,.inl ⟨rfl,xs,.inl (.inl h1)⟩,?_⟩
 refine h σ H Hf _ S λd v H' aj ⟨hz,ρ',hs',hn⟩ rd g=>?_
 have S':=S.cC g
 have e1:H' q=some (.lst xs):=g.s _ _ h1
 have e2:aj q=none:=g.n q h2 (by rw [h1]; simp) (by intro ys; rw [h1]; simp)
 refine ⟨q,xs,v,rfl,rfl,e1,by rw [<- h3.length]; exact hz,?_⟩
 refine o.nx _ _ aj ρ' ?_ hn
 rw [hs'.eq]
 have rq':=rq.cC g
 exact S'.upd hi.get (bq hr) eq (dU g.b e2) (eY hr rq' af e2 ((h3.mono g.f).append (.one rd))) (cR hr)
end
section
variable {κ β:Type} [DecidableEq κ]
noncomputable def ay (kvs:List (κ×β)) (k:κ):Option β:=(kvs.find? λkv=>decide (kv.1=k)).map (·.2)
noncomputable def putD (kvs:List (κ×β)) (k:κ) (v:β):List (κ×β) :=
 if (ay kvs k).isSome=true then kvs.map (λkv=>if kv.1=k then (kv.1,v) else kv) else kvs++[(k,v)]
theorem aL {q:κ×β} {r:List (κ×β)} {k:κ} (e:q.1=k):ay (q::r) k=some q.2:=by simp [ay,Qv,e]
theorem aB {q:κ×β} {r:List (κ×β)} {k:κ} (e:¬ q.1=k):ay (q::r) k=ay r k:=by simp [ay,Qv,e]
end
noncomputable def D.yl:D->Option Key | .int i=>some (.inl i) | .str x=>some (.inr x) | _=>none
noncomputable def D.keys:List D->Option (List Key)
 | []=>some []
 | d::r=>match d.yl,D.keys r with | some k,some ks=>some (k::ks) | _,_=>none
theorem iL {K:OR} (h:d.yl=some k) (r:Rep K H d v):v=kV k:=by
 cases d with
 | int i=>cases h; exact au.mp r
 | str x=>cases h; exact dR.mp r
 | _=>cases h
theorem jk {K:OR}:∀ {ds:List D} {ks:List Key} {xs:List V},D.keys ds=some ks->aq K H ds xs->xs=ks.map kV
 | [],ks,xs,h,r=>by cases h; rw [aF.mp r]; rfl
 | d::ds,ks,xs,h,r=>by
  obtain ⟨x,t,rfl,r1,r2⟩:=aG.mp r
  unfold D.keys at h
  cases e1:d.yl with
  | none=>rw [e1] at h; cases h
  | some k =>
   cases e2:D.keys ds with
   | none=>rw [e1,e2] at h; cases h
   | some ks' =>
    rw [e1,e2] at h; cases h
    rw [iL e1 r1,jk e2 r2]; rfl
noncomputable def Sl.Gz:Sl->Bool | .oK _=>true | .aK _ _=>true | .oT _=>true | .aT _ _=>true | _=>false
theorem qY {r:Sl} (h:r.Gz=true):r.owned=true:=by cases r <;> first | rfl | cases h
noncomputable def Sl.qZ:Sl->Option (List (Key×D)) | .oK kvs=>some kvs | .aK _ kvs=>some kvs | _=>none
noncomputable def Sl.jN:Sl->List (Key×D)->Sl | .oK _,es=>.oK es | .aK a _,es=>.aK a es | s,_=>s
noncomputable def Sl.ym:Sl->Option (List (List Key×D)) | .oT kvs=>some kvs | .aT _ kvs=>some kvs | _=>none
noncomputable def Sl.AW:Sl->List (List Key×D)->Sl | .oT _,es=>.oT es | .aT a _,es=>.aT a es | s,_=>s
theorem fE {r:Sl} (h:r.qZ=some kvs):r.owned=true:=by cases r <;> first | rfl | cases h
theorem gZ {r:Sl} (h:r.qZ=some kvs):(r.jN es).owned=true:=by cases r <;> first | rfl | cases h
theorem uf {r:Sl} (h:r.ym=some kvs):(r.AW es).owned=true:=by cases r <;> first | rfl | cases h
section
variable {K:OR} {fr:Addr->Prop} {H Hf H1 aV:Hp} {r:Sl} {p:Addr}
theorem ug (h:r.qZ=some kvs) (q:bz K fr H Hf r (.ref p)):∃ xs,H p=some (.dK xs)/\Hf p=none/\gW K Hf kvs xs:=by
 cases r with
 | oK es=>cases h; obtain ⟨_,xs,e,_,h1,h2,h3⟩:=q; cases e; exact ⟨xs,h1,h2,h3⟩
 | aK a es=>cases h; obtain ⟨_,xs,e,_,h1,h2,h3⟩:=q; cases e; exact ⟨xs,h1,h2,h3⟩
 | _=>cases h
theorem Eh (h:r.ym=some kvs) (q:bz K fr H Hf r (.ref p)):∃ xs,H p=some (.dT xs)/\Hf p=none/\mF K Hf kvs xs:=by
 cases r with
 | oT es=>cases h; obtain ⟨_,xs,e,_,h1,h2,h3⟩:=q; cases e; exact ⟨xs,h1,h2,h3⟩
 | aT a es=>cases h; obtain ⟨_,xs,e,_,h1,h2,h3⟩:=q; cases e; exact ⟨xs,h1,h2,h3⟩
 | _=>cases h
theorem kP (h:r.qZ=some kvs) (q:bz K fr H Hf r (.ref p)) (h1:H1 p=some (.dK ys)) (h2:aV p=none) (h3:gW K aV es ys):bz K (λq=>q=p) H1 aV (r.jN es) (.ref p):=by
 cases r with
 | oK _=>exact ⟨p,ys,rfl,rfl,h1,h2,h3⟩
 | aK a _=>obtain ⟨_,xs,e,f,_⟩:=q; cases e; exact ⟨p,ys,rfl,⟨rfl,f.2⟩,h1,h2,h3⟩
 | _=>cases h
theorem AX (h:r.ym=some kvs) (q:bz K fr H Hf r (.ref p)) (h1:H1 p=some (.dT ys)) (h2:aV p=none) (h3:mF K aV es ys):bz K (λq=>q=p) H1 aV (r.AW es) (.ref p):=by
 cases r with
 | oT _=>exact ⟨p,ys,rfl,rfl,h1,h2,h3⟩
 | aT a _=>obtain ⟨_,xs,e,f,_⟩:=q; cases e; exact ⟨p,ys,rfl,⟨rfl,f.2⟩,h1,h2,h3⟩
 | _=>cases h
noncomputable def AY (K:OR) (Hf:Hp):Option D->Option V->Prop
 | none,none=>True
 | some d,some v=>Rep K Hf d v
 | _,_=>False
theorem gW.val (h:gW K Hf kvs xs) (k:Key):AY K Hf (ay kvs k) (kF xs k):=by
 unfold gW at h
 induction h with
 | nil=>exact RN
 | @cons a b as bs h t ih =>
  by_cases e:a.1=k
  ·rw [aL e,kG (h.1.symm.trans e)]; exact h.2
  ·rw [aB e,kH (λz=>e (h.1.trans z))]; exact ih
theorem AY.isSome (h:AY K Hf o u):o.isSome=u.isSome:=by
 cases o <;> cases u <;> first | rfl | exact h.elim
theorem gW.put (h:gW K Hf kvs xs) (k:Key) (rd:Rep K Hf d v):gW K Hf (putD kvs k d) (putK xs k v):=by
 have e:=(h.val k).isSome
 unfold putD putK
 rw [e,qK]
 by_cases q:(kF xs k).isSome=true
 ·rw [if_pos q,if_pos q]
  unfold gW at h |-
  clear e q
  induction h with
  | nil=>exact .nil
  | @cons a b as bs h t ih =>
   rw [O4,O4]
   refine .cons ?_ ih
   by_cases e:a.1=k
   ·rw [if_pos e,if_pos (h.1.symm.trans e)]; exact ⟨h.1,rd⟩
   ·rw [if_neg e,if_neg (λz=>e (h.1.trans z))]; exact h
 ·rw [if_neg q,if_neg q]; exact UA h ⟨rfl,rd⟩
theorem mF.val (h:mF K Hf kvs xs) (k):AY K Hf (ay kvs k) (atT xs k):=by
 unfold mF at h
 induction h with
 | nil=>exact RN
 | @cons a b as bs h t ih =>
  by_cases e:a.1=k
  ·have z:L2.atT (b::bs) k=some b.2.2:=by simp [L2.atT,Qv,h.1.symm.trans e]
   rw [aL e,z]; exact h.2.2
  ·have z:L2.atT (b::bs) k=L2.atT bs k:=by
    have:¬ b.1=k:=λz=>e (h.1.trans z)
    simp [L2.atT,Qv,this]
   rw [aB e,z]; exact ih
theorem mF.put (h:mF K Hf kvs xs) (k) (hb:cU K Hf b (k.map kV)) (rd:Rep K Hf d v):mF K Hf (putD kvs k d) (qL xs k b v):=by
 have e:=(h.val k).isSome
 unfold putD qL
 rw [e]
 by_cases q:(atT xs k).isSome=true
 ·rw [if_pos q,if_pos q]
  unfold mF at h |-
  clear e q
  induction h with
  | nil=>exact .nil
  | @cons a b' as bs h t ih =>
   rw [O4,O4]
   refine .cons ?_ ih
   unfold o7
   by_cases e:a.1=k
   ·rw [if_pos e,if_pos (h.1.symm.trans e)]; exact ⟨h.1,h.2.1,rd⟩
   ·rw [if_neg e,if_neg (λz=>e (h.1.trans z))]; exact h
 ·rw [if_neg q,if_neg q]; exact UA h ⟨rfl,hb,rd⟩
theorem mF.AZ (h:mF K Hf kvs xs):∀ x∈xs,cU K Hf x.2.1 (x.1.map kV):=by
 unfold mF at h
 induction h with
 | nil=>intro x hx; cases hx
 | @cons a b as bs h t ih =>
  intro x hx
  rcases O2.mp hx with e | hx
  ·subst e; rw [<- h.1]; exact h.2.1
  ·exact ih x hx
inductive zD:Sl->D->Option D->Prop
 | k {r:Sl} {kvs:List (Key×D)} {d:D} {k:Key} (h:r.qZ=some kvs) (hk:d.yl=some k):zD r d (ay kvs k)
 | t {r:Sl} {kvs:List (List Key×D)} {ds:List D} {k:List Key} (h:r.ym=some kvs) (hk:D.keys ds=some k):zD r (.tup ds) (ay kvs k)
inductive Ei:Sl->D->D->Sl->Prop
 | k {r:Sl} {kvs:List (Key×D)} {d e:D} {k:Key} (h:r.qZ=some kvs) (hk:d.yl=some k) (hz:kvs.length<sizeLine):Ei r d e (r.jN (putD kvs k e))
 | t {r:Sl} {kvs:List (List Key×D)} {ds:List D} {e:D} {k:List Key} (h:r.ym=some kvs) (hk:D.keys ds=some k) (hz:kvs.length<sizeLine):Ei r (.tup ds) e (r.AW (putD kvs k e))
theorem Ei.owned' (h:Ei r d e r'):r'.owned=true:=by cases h with | k h _ _=>exact gZ h | t h _ _=>exact uf h
theorem zD.get (h:zD r d o) (q:bz K fr H Hf r (.ref p)) (rv:Rep K Hf d v) (sb:aN Hf H):∃ u,kK K H p v u/\AY K Hf o u:=by
 cases h with
 | k h hk =>
  obtain ⟨xs,h1,_,h3⟩:=ug h q
  rw [iL hk rv]
  exact ⟨_,.inl ⟨xs,_,.inl h1,rfl,rfl⟩,h3.val _⟩
 | t h hk =>
  obtain ⟨xs,h1,_,h3⟩:=Eh h q
  obtain ⟨a,ys,rfl,h4,h5⟩:=aO.mp rv
  have:=jk hk h5
  subst this
  exact ⟨_,.inr ⟨xs,_,a,.inl h1,λx hx=>az sb (h3.AZ x hx),rfl,az sb h4,rfl⟩,h3.val _⟩
theorem gW.length (h:gW K Hf kvs xs):kvs.length=xs.length:=Qf h
theorem mF.length (h:mF K Hf kvs xs):kvs.length=xs.length:=Qf h
theorem Ei.put (h:Ei r d e r') (q:bz K fr H Hf r (.ref p)) (rv:Rep K Hf d v) (ry:Rep K Hf e y) (sb:aN Hf H) :
 ∃ o,DO K H p v y (upd H p o)/\bz K (λq=>q=p) (upd H p o) Hf r' (.ref p):=by
 cases h with
 | k h hk hz =>
  obtain ⟨xs,h1,h2,h3⟩:=ug h q
  rw [iL hk rv]
  exact ⟨_,.inl ⟨xs,_,h1,rfl,by rw [<- h3.length]; exact hz,rfl⟩,kP h q af h2 (h3.put _ ry)⟩
 | t h hk hz =>
  obtain ⟨xs,h1,h2,h3⟩:=Eh h q
  obtain ⟨a,ys,rfl,h4,h5⟩:=aO.mp rv
  have:=jk hk h5
  subst this
  exact ⟨_,.inr ⟨xs,_,a,h1,λx hx=>az sb (h3.AZ x hx),rfl,az sb h4,by rw [<- h3.length]; exact hz,rfl⟩,AX h q af h2 (h3.put _ h4 ry)⟩
end
section
variable {K:OR} {c:Ctx P w K mg base k N sc bk}
theorem Ctx.hu (c:Ctx P w K mg base k N sc bk):c.X.A.units+1<cLine:=K3 c.room
theorem vX {R:Sl->Prop} (h:R (.oK [])):dP c (.Dict [] [] pos) ρ R:=λσ H Hf Q S q =>
 ck Aj λp hp=>q (.oK []) (.ref p) _ Hf h ⟨p,[],rfl,hp,af,S.sb.free hp,.nil⟩ (bw.fU S.sb hp)
theorem Ej {R:Sl->Prop} (h:R (.oT [])):dP c (.Dict [] [] pos) ρ R:=λσ H Hf Q S q =>
 ck Ak λp hp=>q (.oT []) (.ref p) _ Hf h ⟨p,[],rfl,hp,af,S.sb.free hp,.nil⟩ (bw.fU S.sb hp)
theorem vY (hN:At N i x) (hi:At ρ i r) (h:aJ c e ρ λdk=>∃ d,zD r dk (some d)/\R d) (hs:DQ e:=by intro _ _; walk_at "u") (hd:(x == ("__debug__":Str))=false:=by decide) (hcd:(x == ("__classdict__":Str))=false:=by decide) (ho:r.owned=true:=by rfl) :
 aJ c (.Subscript (.Name x px) e pos) ρ R:=λσ H Hf Q S q=>by
 obtain ⟨p,ep,rp⟩:=S.own hi.get ho
 refine ck (vH c.hu (c.iK hN hd hcd) cG hs) ⟨_,ep,h σ H Hf _ S λdk v H' aj ⟨d,lk,hR⟩ rv g=>?_⟩
 obtain ⟨u,dg,rel⟩:=lk.get (rp.cC g) rv g.b
 cases u with
 | none=>exact rel.elim
 | some u=>exact ⟨p,u,rfl,dg,q d u H' aj hR rel g⟩
theorem IE (hN:At N i x) (hi:At ρ i r) (h:aJ c e ρ λdk=>aJ c f ρ λdf=>∃ o,zD r dk o/\R (o.getD df)) (hd:(x == ("__debug__":Str))=false:=by decide) (hcd:(x == ("__classdict__":Str))=false:=by decide) (ho:r.Gz=true:=by rfl)
 (m1:∀ env,attributeBase (.Name x px) "get" env (eval (.Name x px) env)=eval (.Name x px) env:=by intro _; walk_at "u")
 (m2:∀ env,((backTo cp (starEach [e,f] env)).all (λx=> !x.1) && (backToKw cp (keywordEach [] env)).all (λx=>x.1.isSome)
   && decide (([e,f]:List Expr).length+([]:List Keyword).length+(if ([]:List Keyword).isEmpty then 0 else 1)<30))=true:=by intro _; walk_at "u")
 (m3:(ap.endLine == cp.line)=true:=by walk_at "u") (m4:∀ env,backTo cp (starEach [e,f] env)=[(false,eval e env),(false,eval f env)]:=by intro _; walk_at "u") :
 aJ c (.Call (.Attribute (.Name x px) "get" ap) [e,f] [] cp) ρ R:=λσ H Hf Q S q=>by
 obtain ⟨p,ep,rp⟩:=S.own hi.get (qY ho)
 have isd:NJ H p:=by
  cases r with
  | oK kvs=>obtain ⟨xs,h1,_⟩:=ug (r:=.oK kvs) rfl rp; exact .inl ⟨xs,.inl h1⟩
  | aK a kvs=>obtain ⟨xs,h1,_⟩:=ug (r:=.aK a kvs) rfl rp; exact .inl ⟨xs,.inl h1⟩
  | oT kvs=>obtain ⟨xs,h1,_⟩:=Eh (r:=.oT kvs) rfl rp; exact .inr ⟨xs,.inl h1⟩
  | aT a kvs=>obtain ⟨xs,h1,_⟩:=Eh (r:=.aT a kvs) rfl rp; exact .inr ⟨xs,.inl h1⟩
  | _=>cases ho
 refine ck (Al c.hu (c.iK hN hd hcd) cG cG ⟨m1 _,m2 _,m3,m4 _⟩) ⟨_,ep,p,rfl,isd,h σ H Hf _ S λdk v H1 aV h1 rv g1=>h1 σ H1 aV _ (S.cC g1) λdf y H2 cN ⟨o,lk,hR⟩ ry g2=>?_⟩
 obtain ⟨u,dg,rel⟩:=lk.get (rp.cC (g1.trans g2)) (Rep.mono g2.f _ rv) g2.b
 refine ⟨u,dg,?_⟩
 cases o with
 | none=>cases u with
  | none=>exact q df y H2 cN hR ry (g1.trans g2)
  | some _=>exact rel.elim
 | some d=>cases u with
  | none=>exact rel.elim
  | some v'=>exact q d v' H2 cN hR rel (g1.trans g2)
theorem A0 (hN:At N i x) (hi:At ρ i r) (h:aJ c e ρ λdv=>aJ c b ρ λdk=>∃ r',Ei r dk dv r'/\Nx ρ i nx r') (ho:r.owned=true:=by rfl)
 (hs:∀ env,swapsWith e (some (.Subscript (.Name x px) b tp)) pos.line env=pure false:=by intro _; walk_at "u") (hd:(x == ("__debug__":Str))=false:=by decide) (hcd:(x == ("__classdict__":Str))=false:=by decide) :
 fX c (.Assign [.Subscript (.Name x px) b tp] e pos) ρ nx p:=λσ H Hf D S o=>by
 obtain ⟨p,ep,rp⟩:=S.own hi.get ho
 refine cW (DT c.hu (c.iK hN hd hcd) cG cG (hs _)) (h σ H Hf _ S λdv v H1 aV h1 rv g1=>⟨_,ep,h1 σ H1 aV _ (S.cC g1) λdk y H2 cN ⟨r',pt,ρ',hs',hn⟩ ry g2=>?_⟩)
 have g:=g1.trans g2
 obtain ⟨ob,dp,rp'⟩:=pt.put (rp.cC g) ry (Rep.mono g2.f _ rv) g.b
 refine ⟨p,_,rfl,dp,o.nx _ _ cN ρ' ?_ hn⟩
 rw [hs'.eq]
 obtain ⟨_,_,e0,_,_,hf⟩:=(rp.cC g).qX ho
 cases e0
 exact (S.cC g).upd hi.get ho ep (dU g.b hf) rp' pt.owned'
theorem vZ (hN:At N i x) (hi:At ρ i r) (h:aJ c b ρ λdk=>∃ m:Int,zD r dk (some (.int m))/\aJ c e ρ (I1 λj=>∃ r',Ei r dk (.int (m+j)) r'/\Nx ρ i nx r')) (ho:r.owned=true:=by rfl)
 (ha:∀ ov iv new,augStore b ov iv new=(do holding [new,ov,iv] (setItem ov iv new); release [new,ov,iv] []; pure .next):=by intro _ _ _; walk_at "u") (hd:(x == ("__debug__":Str))=false:=by decide) (hcd:(x == ("__classdict__":Str))=false:=by decide) :
 fX c (.AugAssign (.Subscript (.Name x px) b tp) .Add e pos) ρ nx p:=λσ H Hf D S o=>by
 obtain ⟨p,ep,rp⟩:=S.own hi.get ho
 have hop:KU c.X .Add (x8 λi j=>.int (i+j)):=DA
 refine cW (DU c.hu (c.iK hN hd hcd) cG cG hop ha) ⟨_,ep,h σ H Hf _ S λdk y H1 aV ⟨m,lk,h1⟩ ry g1=>?_⟩
 obtain ⟨u,dg,rel⟩:=lk.get (rp.cC g1) ry g1.b
 cases u with
 | none=>exact rel.elim
 | some u =>
  have eu:u=V.int m:=(au (K:=c.X.K) (H:=aV)).mp rel
  subst eu
  refine ⟨p,_,rfl,dg,h1 σ H1 aV _ (S.cC g1) λdj y2 H2 cN ⟨j,ej,r',pt,ρ',hs',hn⟩ ry2 g2=>?_⟩
  subst ej
  rw [au.mp ry2]
  have g:=g1.trans g2
  obtain ⟨ob,dp,rp'⟩:=pt.put (rp.cC g) (Rep.mono g2.f _ ry) (v:=y) (y:=.int (m+j)) (au.mpr rfl) g.b
  refine ⟨m,j,rfl,rfl,_,dp,o.nx _ _ cN ρ' ?_ hn⟩
  rw [hs'.eq]
  obtain ⟨_,_,e0,_,_,hf⟩:=(rp.cC g).qX ho
  cases e0
  exact (S.cC g).upd hi.get ho ep (dU g.b hf) rp' pt.owned'
theorem GA (hN:At N i x) (hi:At ρ i r) (h:aJ c e ρ λdk=>∃ o,zD r dk o/\T o.isSome) (ho:r.owned=true:=by rfl) (hm:behindInMarks CmpOp.In (.Name x px)=false:=by walk_at "u")
 (hd:(x == ("__debug__":Str))=false:=by decide) (hcd:(x == ("__classdict__":Str))=false:=by decide):gX c (.Compare e [.In] [.Name x px] pos) ρ T:=λσ H Hf Q S q=>by
 obtain ⟨p,ep,rp⟩:=S.own hi.get ho
 refine kL (tQ (HU c.hu cG (c.iK hN hd hcd)) hm) (h σ H Hf _ S λdk y H1 aV ⟨o,lk,hT⟩ ry g=>⟨_,ep,?_⟩)
 obtain ⟨u,dg,rel⟩:=lk.get (rp.cC g) ry g.b
 refine ⟨p,u,rfl,dg,u.isSome,rfl,q _ H1 aV ?_ g⟩
 rw [<- rel.isSome]; exact hT
theorem kQ (hN:At N i x) (hi:At ρ i r) (h:aJ c e ρ λdk=>∃ o,zD r dk o/\T (!o.isSome)) (ho:r.owned=true:=by rfl) (hm:behindInMarks CmpOp.NotIn (.Name x px)=false:=by walk_at "u")
 (hd:(x == ("__debug__":Str))=false:=by decide) (hcd:(x == ("__classdict__":Str))=false:=by decide):gX c (.Compare e [.NotIn] [.Name x px] pos) ρ T:=λσ H Hf Q S q=>by
 obtain ⟨p,ep,rp⟩:=S.own hi.get ho
 refine kL (tQ (yb c.hu cG (c.iK hN hd hcd)) hm) (h σ H Hf _ S λdk y H1 aV ⟨o,lk,hT⟩ ry g=>⟨_,ep,?_⟩)
 obtain ⟨u,dg,rel⟩:=lk.get (rp.cC g) ry g.b
 refine ⟨p,u,rfl,dg,!u.isSome,rfl,q _ H1 aV ?_ g⟩
 rw [<- rel.isSome]; exact hT
end
noncomputable abbrev jl:Value->Shared->Prop:=λ_ _=>False
section
variable {prog:Program} {w:World} {A:Around} {R:Result->Shared->Prop} {s:Shared}
theorem pC {elt target iter:Expr} {ifs:List Expr} {scope:Scope} {pos:Pos} {it acc:Value} {env:Env} (I:Nat->Shared->Prop)
 (turn:∀ n s,I n s->wpAny (model prog w) A (pyNext it) (λr s₁=>match r with
   | none=>R (.ok .next) s₁
   | some v=>wpAny (model prog w) A (letOwnedTupleGo target it v) (λ_ s₁'=>wpAny (model prog w) A (assign target env v) (λ_ s₂ =>
    wpAny (model prog w) A (forIn ifs true λc r=>if r=true then do let ok <- isTrue c env (eval c env); pure (PU ok) else pure (PU r)) (λok s₃ =>
     if ok=true then wpAny (model prog w) A (eval elt env) (λx s₄ =>
      wpAny (model prog w) A (call (.builtin "list.append") [acc,x]) (λ_ s₅=>∃ m,m<n/\I m s₅) jl s₄) jl s₃
     else ∃ m,m<n/\I m s₃) jl s₂) jl s₁') jl s₁) jl s)
 (n:Nat) (h:I n s) :
 codeAny (model prog w) A (.compLoop (.ListComp elt [⟨target,iter,ifs,0⟩] scope pos) 0 it acc env) R s:=by
 refine codeAny_loop rfl I (λn s hI=>?_) n h
 show wpAny _ A ((compTurn (.ListComp elt [⟨target,iter,ifs,0⟩] scope pos) 0 it acc env).onRaise (λx=>do noteFrame x env; theTreesLotGoes x)) _ _ s
 refine wpAny_noted ?_
 rw [compTurn_list]
 refine OQ (wpAny_standAt (OQ (P1 (turn n s hI) (λr s₁ h₁=>?_) λ_ _ f=>f.elim)))
 cases r with
 | none=>exact OS h₁
 | some v =>
  refine OQ (P1 h₁ (λ_ s₁' h₁'=>?_) λ_ _ f=>f.elim)
  refine OQ (P1 h₁' (λ_ s₂ h₂=>OQ (P1 h₂ (λok s₃ h₃=>?_) λ_ _ f=>f.elim)) λ_ _ f=>f.elim)
  cases ok with
  | false=>exact OS ⟨rfl,h₃⟩
  | true =>
   exact OQ (OQ (P1 h₃ (λx s₄ h₄=>OQ (P1 h₄ (λ_ s₅ h₅=>OS (OS ⟨rfl,h₅⟩)) λ_ _ f=>f.elim)) λ_ _ f=>f.elim))
theorem jO:∀ (ifs:List Expr),Q false s ->
 wpAny (model prog w) A (forIn ifs false λc r=>if r=true then do let ok <- isTrue c env (eval c env); pure (PU ok) else pure (PU r)) Q E s
 | [],h=>OS h
 | t::ts,h=>by
  simp only [RE,P5,if_false]
  exact OQ (OS (jO ts h))
theorem uh
 (h:wpAny (model prog w) A (isTrue t env (eval t env)) (λb s'=>if b=true then wpAny (model prog w) A (forIn ts true λc r=>if r=true then do let ok <- isTrue c env (eval c env); pure (PU ok) else pure (PU r)) Q E s' else Q false s') E s) :
 wpAny (model prog w) A (forIn (t::ts) true λc r=>if r=true then do let ok <- isTrue c env (eval c env); pure (PU ok) else pure (PU r)) Q E s:=by
 simp only [RE,if_true]
 refine OQ (OQ (P1 h (λb s' hb=>OS ?_) λ_ _ x=>x))
 cases b with
 | true=>exact hb
 | false=>exact jO ts hb
end
noncomputable def bZ (scope sc:Scope):Scope:={ scope with names:=scope.names.map λ(n,k)=>if (k == .free && sc.kind == .function && sc.names.lookup n == some .cell) then (n,.cell) else (n,k) }
theorem q8 (h:env.scope=sc):relabel scope env=bZ scope sc:=by
 subst h; rfl
noncomputable def Sl.tag (a:Addr):Sl->Sl
 | .ow ds=>.aw a ds | .oT ds=>.aT a ds | .oK ds=>.aK a ds
 | .aw b ds=>.aw b ds | .aT b ds=>.aT b ds | .aK b ds=>.aK b ds | .fo s=>.fo s
 | .un=>.un | .va d=>.va d
inductive zE (t:Str->Addr) (nm:List (Str×NameKind)) (N:List Str) (ρ:List Sl):List Str->List Sl->Prop
 | nil:zE t nm N ρ [] []
 | un {y:Str} {M:List Str} {r:List Sl}:zE t nm N ρ M r->zE t nm N ρ (y::M) (.un::r)
 | fr {y:Str} {i:Nat} {s s':Sl} {M:List Str} {r:List Sl} (hN:At N i y) (hs:At ρ i s) (hy:(y,Rf)∈nm) (ht:s.tag (t y)=s'):zE t nm N ρ M r->zE t nm N ρ (y::M) (s'::r)
theorem zE.len (h:zE t nm N ρ M r):M.length=r.length:=by
 induction h with
 | nil=>rfl
 | un t ih=>simp [ih]
 | fr hN hs hy ht t ih=>simp [ih]
inductive Dn:List Sl->List Sl->Prop
 | nil:Dn [] []
 | un {r:Sl} {a b:List Sl}:Dn a b->Dn (.un::a) (r::b)
 | same {r:Sl} {a b:List Sl}:Dn a b->Dn (r::a) (r::b)
theorem Dn.weak (h:Dn a b):a.length=b.length/\∀ (i:Nat) (r:Sl),a[i]?=some r->r≠.un->b[i]?=some r:=by
 induction h with
 | nil=>exact ⟨rfl,λi r e=>by simp at e⟩
 | un t ih=>exact ⟨by simp [ih.1],λi r e hu=>by cases i with | zero=>simp at e; exact absurd e.symm hu | succ i=>simpa using ih.2 i r (by simpa using e) hu⟩
 | same t ih=>exact ⟨by simp [ih.1],λi r e hu=>by cases i with | zero=>simpa using e | succ i=>simpa using ih.2 i r (by simpa using e) hu⟩
section
variable {K:OR}
noncomputable def nK (c:Ctx P w K mg base k N sc bk):List Expr->List Sl->(Bool->Prop)->Prop
 | [],_,T=>T true
 | t::ts,ρ,T=>gX c t ρ (iF (nK c ts ρ T) (T false))
theorem nL (hq:c.X.xe=jl):∀ (ifs:List Expr) {H Hf:Hp} {s:Shared},bF c σ H Hf ρ->nK c ifs ρ T->(∀ b H' aj,T b->bw H Hf H' aj->Q b H')->Inv c.X aa σ H s ->
 wpAny (model c.X.prog c.X.w) c.X.A (forIn ifs true λt r=>if r=true then do let ok <- isTrue t c.X.env (eval t c.X.env); pure (PU ok) else pure (PU r)) (TP c.X aa σ Q) jl s
 | [],H,Hf,s,S,h,q,I=>wpAny_tests_nil ⟨H,I,q true H Hf h (.refl S.sb)⟩
 | t::ts,H,Hf,s,S,h,q,I=>by
  have h0:=h σ H Hf (λb H'=>∃ aj,iF (nK c ts ρ T) (T false) b/\bw H Hf H' aj) S (λb H' aj hb g=>⟨aj,hb,g⟩) aa s I
  rw [hq] at h0
  refine uh (bJ h0 λb s' ⟨H',I',aj,hb,g⟩=>?_)
  cases b with
  | true=>exact nL hq ts (S.cC g) (hb.t rfl) (λb H2 cN hT g2=>q b H2 cN hT (g.trans g2)) I'
  | false=>exact ⟨H',I',q false H' aj (hb.f rfl) g⟩
end
theorem kR:∀ (names:List (Str×NameKind)) (cs:List (Str×Addr)),(∀ x∈names,x.2=.free->∃ a,env.cells.lookup x.1=some a) ->
 ∃ cl,(forIn names cs (λ(x:Str×NameKind) (r:List (Str×Addr))=>(if (x.2 == Rf)=true then do let a <- cellOf env x.1; pure (PU ((x.1,a)::r)) else pure (PU r):Sem (ForInStep (List (Str×Addr))))))=(pure cl:Sem (List (Str×Addr))) /\
  (∀ y a,cl.lookup y=some a->cs.lookup y=some a\/env.cells.lookup y=some a/\(y,Rf)∈names)/\(∀ y a,(y,Rf)∈names\/(∃ b,cs.lookup y=some b/\env.cells.lookup y=some b)->env.cells.lookup y=some a->cl.lookup y=some a)
 | [],cs,_=>⟨cs,rfl,λy a e=>.inl e,λy a h e=>by
  rcases h with h | ⟨b,h1,h2⟩
  ·cases h
  ·rw [e] at h2; cases h2; exact h1⟩
 | (n,kd)::r,cs,h=>by
  by_cases hk:kd=.free
  ·subst hk
   obtain ⟨a,ea⟩:=h (n,.free) OY rfl
   obtain ⟨cl,e1,e2,e3⟩:=kR r ((n,a)::cs) λx hx=>h x (O1 _ hx)
   refine ⟨cl,?_,λy b e=>?_,λy b hy e=>?_⟩
   ·rw [RE]
    simp only [beq_self_eq_true,if_true,cellOf,ea,pure_bind]
    exact e1
   ·rcases e2 y b e with z | ⟨z1,z2⟩
    ·rw [Vv] at z
     cases q:(y == n) with
     | true =>
      rw [q] at z; cases z
      have:y=n:=by simpa using q
      subst this
      exact .inr ⟨ea,OY⟩
     | false=>rw [q] at z; exact .inl z
    ·exact .inr ⟨z1,O1 _ z2⟩
   ·refine e3 y b ?_ e
    rcases hy with hy | ⟨b',h1,h2⟩
    ·rcases O2.mp hy with z | z
     ·cases z; exact .inr ⟨a,by simp,ea⟩
     ·exact .inl z
    ·refine .inr ⟨b',?_,h2⟩
     rw [Vv]
     cases q:(y == n) with
     | true =>
      have:y=n:=by simpa using q
      subst this
      rw [ea] at h2; exact h2
     | false=>exact h1
  ·have hb:(kd == Rf)=false:=by simpa using hk
   obtain ⟨cl,e1,e2,e3⟩:=kR r cs λx hx=>h x (O1 _ hx)
   refine ⟨cl,?_,λy b e=>?_,λy b hy e=>?_⟩
   ·rw [RE]
    simp only [hb,P5,if_false,pure_bind]
    exact e1
   ·rcases e2 y b e with z | ⟨z1,z2⟩
    ·exact .inl z
    ·exact .inr ⟨z1,O1 _ z2⟩
   ·refine e3 y b ?_ e
    rcases hy with hy | hy
    ·rcases O2.mp hy with z | z
     ·cases z; exact absurd rfl hk
     ·exact .inl z
    ·exact .inr hy
theorem Ek (h:∀ x∈scope.names,x.2=.free->∃ a,env.cells.lookup x.1=some a) :
 ∃ cl,closureFor scope env=pure cl/\(∀ y a,cl.lookup y=some a->env.cells.lookup y=some a/\(y,Rf)∈scope.names)/\(∀ y a,(y,Rf)∈scope.names->env.cells.lookup y=some a->cl.lookup y=some a):=by
 obtain ⟨cl,e1,e2,e3⟩:=kR scope.names [] h
 refine ⟨cl,?_,λy a e=>?_,λy a hy e=>e3 y a (.inl hy) e⟩
 ·unfold closureFor
  have e1':=congrArg (· >>= λcs=>(pure cs:Sem _)) e1
  simp only [pure_bind] at e1'
  exact e1'
 ·rcases e2 y a e with z | z
  ·simp at z
  ·exact z
section
variable {P:Program} {w:World} {K:OR} {mg:Str->Option Value} {base:Heap} {k:Nat} {N:List Str} {sc:Scope} {bk:Bool} {c:Ctx P w K mg base k N sc bk} {ρ:List Sl} {pos:Pos}
def A1 (c:Ctx P w K mg base k N sc bk) (tg:Expr) (ifs:List Expr) (elt:Expr) (ρ0:List Sl) (d:D) (o:Option D):Prop :=
 o9 c tg d ρ0 λρ1=>Dn ρ0 ρ1/\nK c ifs ρ1 (iF (aJ c elt ρ1 λe=>o=some e) (o=none))
theorem iM {nm:List (Str×NameKind)}:∀ {y:Str} {kd:NameKind},(nm.map λ(x:Str×NameKind)=>match x with | (n,k)=>(if (k == .free && sc.kind == .function && sc.names.lookup n == some .cell)=true then (n,NameKind.cell) else (n,k))).lookup y=some kd->∃ k0,(y,k0)∈nm/\(kd=k0\/kd=.cell/\k0=.free):=by
 induction nm with
 | nil=>intro y kd h; simp at h
 | cons x r ih =>
  obtain ⟨n,k0⟩:=x
  intro y kd h
  rw [O4,Vv] at h
  by_cases e:(k0 == .free && sc.kind == .function && sc.names.lookup n == some .cell)=true
  ·simp only [e,if_true] at h
   cases q:(y == n) with
   | true =>
    rw [q] at h; cases h
    have:y=n:=by simpa using q
    subst this
    have hf:k0=.free:=by simp only [Sg,beq_iff_eq] at e; exact e.1.1
    exact ⟨k0,OY,.inr ⟨rfl,hf⟩⟩
   | false=>rw [q] at h; obtain ⟨k1,h1,h2⟩:=ih h; exact ⟨k1,O1 _ h1,h2⟩
  ·simp only [e,P5,if_false] at h
   cases q:(y == n) with
   | true =>
    rw [q] at h; cases h
    have:y=n:=by simpa using q
    subst this
    exact ⟨k0,OY,.inl rfl⟩
   | false=>rw [q] at h; obtain ⟨k1,h1,h2⟩:=ih h; exact ⟨k1,O1 _ h1,h2⟩
theorem zE.start {σ:L2.St} (h:zE t nm N ρ M r) (hσ:∀ (i:Nat) (s:Sl),ρ[i]?=some s->s≠.un->∃ v,σ[i]?=some (some v)) :
 ∃ σ0:L2.St,σ0.length=r.length/\∀ (j:Nat) (s:Sl),r[j]?=some s->(s=.un/\σ0[j]?=some none)\/∃ (i:Nat) (y:Str) (v:V) (s0:Sl),M[j]?=some y/\(y,Rf)∈nm/\N[i]?=some y/\ρ[i]?=some s0/\s=s0.tag (t y)/\s0≠.un/\σ[i]?=some (some v)/\σ0[j]?=some (some v):=by
 induction h with
 | nil=>exact ⟨[],rfl,λj s e=>by simp at e⟩
 | un t ih =>
  obtain ⟨σ0,hl,h0⟩:=ih
  refine ⟨none::σ0,by simp [hl],λj s e=>?_⟩
  cases j with
  | zero=>simp at e; exact .inl ⟨e.symm,by simp⟩
  | succ j =>
   rcases h0 j s (by simpa using e) with ⟨h1,h2⟩ | ⟨i,y,v,s0,h1,h2,h3,h4,h5,h6,h7,h8⟩
   ·exact .inl ⟨h1,by simpa using h2⟩
   ·exact .inr ⟨i,y,v,s0,by simpa using h1,h2,h3,h4,h5,h6,h7,by simpa using h8⟩
 | @fr y i s' s'' M r hN hs hy ht t ih =>
  obtain ⟨σ0,hl,h0⟩:=ih
  by_cases hu:s'=.un
  ·refine ⟨none::σ0,by simp [hl],λj s e=>?_⟩
   cases j with
   | zero=>simp at e; subst hu; exact .inl ⟨e.symm.trans ht.symm,by simp⟩
   | succ j =>
    rcases h0 j s (by simpa using e) with ⟨h1,h2⟩ | ⟨i,y,v,s0,h1,h2,h3,h4,h5,h6,h7,h8⟩
    ·exact .inl ⟨h1,by simpa using h2⟩
    ·exact .inr ⟨i,y,v,s0,by simpa using h1,h2,h3,h4,h5,h6,h7,by simpa using h8⟩
  ·obtain ⟨v,ev⟩:=hσ i s' hs.get hu
   refine ⟨some v::σ0,by simp [hl],λj s e=>?_⟩
   cases j with
   | zero=>simp at e; subst e; exact .inr ⟨i,y,v,s',by simp,hy,hN.get,hs.get,ht.symm,hu,ev,by simp⟩
   | succ j =>
    rcases h0 j s (by simpa using e) with ⟨h1,h2⟩ | ⟨i,y,v,s0,h1,h2,h3,h4,h5,h6,h7,h8⟩
    ·exact .inl ⟨h1,by simpa using h2⟩
    ·exact .inr ⟨i,y,v,s0,by simpa using h1,h2,h3,h4,h5,h6,h7,by simpa using h8⟩
noncomputable def Sl.adr:Sl->Option Addr | .aw a _=>some a | .aT a _=>some a | .aK a _=>some a | _=>none
theorem nM {s:Sl}:(s.tag a).owned=s.owned:=by cases s <;> rfl
theorem El {s:Sl} (h:s.owned=true):∃ b,(s.tag a).adr=some b:=by cases s <;> first | exact ⟨_,rfl⟩ | cases h
theorem v5 (hv:s.owned=true->v=.ref a) (h:bz K fr H Hf s v):bz K fr H Hf (s.tag a) v:=by
 cases s with
 | ow ds=>obtain ⟨p,xs,e,f,r⟩:=h; exact ⟨p,xs,e,⟨f,by have:=hv rfl; rw [e] at this; cases this; rfl⟩,r⟩
 | oT ds=>obtain ⟨p,xs,e,f,r⟩:=h; exact ⟨p,xs,e,⟨f,by have:=hv rfl; rw [e] at this; cases this; rfl⟩,r⟩
 | oK ds=>obtain ⟨p,xs,e,f,r⟩:=h; exact ⟨p,xs,e,⟨f,by have:=hv rfl; rw [e] at this; cases this; rfl⟩,r⟩
 | _=>exact h
theorem v7 (hb:s.adr=some b) (h:bz K fr H Hf s (.ref p)):p=b:=by
 cases s with
 | aw a ds=>cases hb; obtain ⟨q,xs,e,f,r⟩:=h; cases e; exact f.2
 | aT a ds=>cases hb; obtain ⟨q,xs,e,f,r⟩:=h; cases e; exact f.2
 | aK a ds=>cases hb; obtain ⟨q,xs,e,f,r⟩:=h; cases e; exact f.2
 | _=>cases hb
theorem d9.apart (S:d9 K H₀ eT σ H Hf ρ) (h0:H₀ a=none) (hf:Hf a=none) (nf:¬ Ao H a) (ha:∀ (i:Nat) (r:Sl),ρ[i]?=some r->r.owned=true->σ[i]?≠some (some (.ref a))):d9 K H₀ eT σ (L2.upd H a o) Hf ρ :=
 ⟨⟨λb u e=>by rw [L2.ai (aD e h0)]; exact S.bas.s b u e,S.bas.f,λb u e=>by rw [L2.ai (aD e hf)]; exact S.bas.b b u e,S.bas.n⟩,S.len,λi r hi hu=>by
   obtain ⟨v,e,q⟩:=S.at_ i r hi hu
   refine ⟨v,e,?_⟩
   have hg:bw (del H a) Hf (L2.upd H a o) Hf:=dU S.bas.b hf
   exact (q.LB (p:=a) nf λow z=>by subst z; exact ha i r hi ow e).cC hg,S.sep⟩
theorem v8 (g:bw H1 aV H' aj) (h1:H1 a=none) (hf:aj a=none):bw H1 aV (upd H' a o) aj :=
 ⟨λb u e=>by rw [ai (aD e h1)]; exact g.s b u e,g.f,λb u e=>by rw [ai (aD e hf)]; exact g.b b u e,g.n⟩
section
variable {K:OR} {H Hf H' aj:Hp}
noncomputable abbrev Fp:=List (Addr×List V)
mutual
theorem di.fz:∀ (s:Sh) {v:V} {fp:Fp},di K H Hf s v fp->∀ a∈fp,H a.1=some (pl a.1 a.2)/\Hf a.1=none
 | .v d,_,_,h=>by simp only [di] at h; obtain ⟨_,rfl⟩:=h; intro a ha; cases ha
 | .l ds,_,_,h=>by
  simp only [di] at h
  obtain ⟨p,xs,e,h1,h2,h3,rfl⟩:=h
  intro a ha
  obtain rfl:=Pa.mp ha
  exact ⟨h1,h2⟩
 | .la p ds,_,_,h=>by
  simp only [di] at h
  obtain ⟨xs,e,h1,h2,h3,rfl⟩:=h
  intro a ha
  obtain rfl:=Pa.mp ha
  exact ⟨h1,h2⟩
 | .t ss,_,_,h=>by
  simp only [di] at h
  obtain ⟨a,xs,e,h1,h2⟩:=h
  exact bg.fz ss h2
 | .ls ss,_,_,h=>by
  simp only [di] at h
  obtain ⟨p,xs,fq,e,h1,h2,h3,rfl⟩:=h
  intro a ha
  rcases O2.mp ha with rfl | ha
  ·exact ⟨h1,h2⟩
  ·exact bg.fz ss h3 a ha
theorem bg.fz:∀ (ss:List Sh) {xs:List V} {fp:Fp},bg K H Hf ss xs fp->∀ a∈fp,H a.1=some (pl a.1 a.2)/\Hf a.1=none
 | [],_,_,h=>by simp only [bg] at h; obtain ⟨_,rfl⟩:=h; intro a ha; cases ha
 | s::ss,_,_,h=>by
  simp only [bg] at h
  obtain ⟨x,r,f1,f2,e,h1,h2,rfl⟩:=h
  intro a ha
  rcases Pb.mp ha with ha | ha
  ·exact di.fz s h1 a ha
  ·exact bg.fz ss h2 a ha
end
end
noncomputable def Sl.sh:Sl->Option Sh | .va d=>some (.v d) | .fo s=>some s | _=>none
theorem IF {H H' aj:Hp} (e:r.sh=some s) (h:bz K (λp=>H p=none) H' aj r v):∃ fp,di K H' aj s v fp/\(fp.map (·.1)).Nodup/\∀ a∈fp,H a.1=none:=by
 cases r with
 | va d=>cases e; exact ⟨[],by simp only [di]; exact ⟨h,trivial⟩,by simp,by intro a ha; cases ha⟩
 | fo s=>cases e; exact h
 | _=>cases e
theorem bg.snoc (h:di K H Hf s v fp):∀ {ss:List Sh} {vs:List V} {fq:Fp},bg K H Hf ss vs fq->bg K H Hf (ss++[s]) (vs++[v]) (fq++fp)
 | [],_,_,q=>by
  simp only [bg] at q
  obtain ⟨rfl,rfl⟩:=q
  simp only [Ud,bg]
  exact ⟨v,[],fp,[],rfl,h,⟨rfl,rfl⟩,(Qd _).symm⟩
 | s'::ss,_,_,q=>by
  simp only [bg] at q
  obtain ⟨x,r,f1,f2,rfl,h1,h2,rfl⟩:=q
  have:=bg.snoc h h2
  simp only [RC,bg]
  exact ⟨x,r++[v],f1,f2++fp,rfl,h1,this,Pp _ _ _⟩
def A2 (c:Ctx P w K mg base k N sc bk) (tg:Expr) (ifs:List Expr) (elt:Expr) (ρ0:List Sl) (d:D) (o:Option Sh):Prop :=
 o9 c tg d ρ0 λρ1=>Dn ρ0 ρ1/\nK c ifs ρ1 (iF (dP c elt ρ1 λr=>∃ z,o=some z/\r.sh=some z) (o=none))
abbrev NS (scope sc:Scope) (N':List Str):Prop:=scope.kind=.function/\(∀ x∈scope.names,x.2≠.cell)/\(∀ x∈scope.names,x.2=.local->scope.names.lookup x.1=some .local)/\(∀ x∈scope.names,x.2=.free->sc.names.lookup x.1=some .cell)/\N'.Nodup/\(∀ x∈N',(bZ scope sc).names.lookup x=some .local\/(bZ scope sc).names.lookup x=some .cell)/\∀ x∈scope.names,x.2=.free->(bZ scope sc).names.lookup x.1=some .cell
theorem Em {elt tg iter:Expr} {ifs:List Expr} {scope:Scope} {N':List Str} {ρ0:(Str->Addr)->List Sl} {R:List Sh->Prop} (hq:c.X.xe=jl) (hfr:∀ t,zE t scope.names N ρ N' (ρ0 t))
 (h:AM c tg iter ρ λds=>Sd (ds.length<=sizeLine) (∃ os:List (Option Sh),os.length=ds.length /\
   (∀ c':Ctx P w K mg base k N' (bZ scope sc) true,c'.X.xe=jl->∀ (t:Str->Addr) (i:Nat) (d:D) (o:Option Sh),ds[i]?=some d->os[i]?=some o->A2 c' tg ifs elt (ρ0 t) d o)/\R (os.filterMap id)))
 (hcp:NS scope sc N':=by decide +kernel)
 (hs:∀ env v,foldedSetIterable iter env v=pure v:=by intro _ _; walk_at "u")
 {σ:L2.St} {H Hf:Hp} (S:bF c σ H Hf ρ) {aa:List (Addr×Obj)} {s:Shared} (I:Inv c.X aa σ H s) {use:Option (Value->Sem Unit)} {QQ:Value->Shared->Prop}
 (kont:∀ (s':Shared) (H' aj:Hp) (a C:Addr) (ss:List Sh) (vs:List V) (fq:Fp),R ss->(∃ m,s'.heap.Ns C m)->C∉c.X.fs->d8 c.X aa H' C->H a=none->H' a=some (.lst vs)->aj a=none->bg c.X.K H' aj ss vs fq->(fq.map (·.1)).Nodup->(∀ b∈fq,H b.1=none)->bw H Hf H' aj->(∀ h5,QW C s'.heap h5->Inv c.X aa σ H' { s' with heap:=h5 })->compPost (model c.X.prog c.X.w) c.X.A jl use QQ (.ref a) C (.ok .next) s') :
 wpAny (model c.X.prog c.X.w) c.X.A (comprehension (.ListComp elt [⟨tg,iter,ifs,0⟩] scope pos) scope c.X.env (firstIterPos [⟨tg,iter,ifs,0⟩] pos) (newList []) (firstAsync [⟨tg,iter,ifs,0⟩]) (firstIter [⟨tg,iter,ifs,0⟩] c.X.env) use) QQ jl s:=by
 obtain ⟨hk,hnc,hnl,hfree,hnd,hv,hvf⟩:=hcp
 have hI:=h σ H Hf (λJ H1=>∃ ds aV,Sd (ds.length<=sizeLine) (∃ os:List (Option Sh),os.length=ds.length /\
  (∀ c':Ctx P w K mg base k N' (bZ scope sc) true,c'.X.xe=jl->∀ (t:Str->Addr) (i:Nat) (d:D) (o:Option Sh),ds[i]?=some d->os[i]?=some o->A2 c' tg ifs elt (ρ0 t) d o)/\R (os.filterMap id))/\bw H Hf H1 aV/\jj c.X.K J ds aV) S (λds J H' aj hR g io=>⟨ds,aj,hR,g,io⟩) aa s I
 rw [hq] at hI
 have hcells:∀ x∈scope.names,x.2=.free->∃ a,c.X.env.cells.lookup x.1=some a:=λx hx hf=>I.ok.has x.1 (.inl (by unfold P8; rw [c.esc]; exact hfree x hx hf))
 obtain ⟨cl,hclos,zB,hcl2⟩:=Ek hcells
 refine wpAny_comprehension_free (cl:=cl) (use:=use) rfl (hs _) hclos hk hnl ?_
 refine bJ (show wpAny _ _ (eval iter c.X.env) _ _ _ from hI) λv s1 h1=>bJ h1 λitv s2 hh=>z5 hh λit fp tn J H1 hh=>w6 hh λe0 I1 Tn t0 hfp hh=>z2 hh λds aV hh=>w3 hh λhz g io=>?_
 obtain ⟨hz,os,hh⟩:=hz
 refine w3 hh λhol hb hR=>?_
 subst e0
 have hcell':∀ y∈scope.names,y.2≠.cell:=hnc
 refine Qu (wpAny_newFunctionEnv hcell' (by intro y hy; simp at hy) (λh4 hns hsb=>?_) hk)
 dsimp only at hns hsb |-
 generalize hDe:s2.heap.objs.size=Da at *
 have k3:∀ b u,s2.heap.get? b=some u->(s2.heap.push { cls:=.type "list",dict:=none,data:=.seq ([]:List Value).toArray }).get? b=some u:=λb u e=>OX _ e
 generalize hH3:s2.heap.push { cls:=.type "list",dict:=none,data:=.seq ([]:List Value).toArray }=h3 at *
 have hCe:h3.objs.size=Da+1:=by rw [<- hH3,QZ,hDe]
 have hgD:h3.get? Da=some { cls:=.type "list",dict:=none,data:=.seq ([]:List Value).toArray }:=by rw [<- hH3,<- hDe]; exact O7 _ rfl
 have vt:H1 Da=none:=by rw [<- hDe]; exact I1.hok.fresh (OT _)
 have I3:Inv c.X aa σ (upd H1 Da (.lst [])) { s2 with heap:=h3,toks:=s2.toks }:=I1.laid (a:=Da) (o:=.lst []) (t':=s2.toks) k3 (by rw [hDe]; exact OT _) ⟨PK _,[],0,.nil,hgD⟩
 have fpne:∀ b∈fp,b≠Da:=λb hb z=>by
  obtain ⟨o,e,_⟩:=Tn.obj _ _ t0 b hb
  subst z
  exact absurd (OZ e) (by rw [hDe]; exact QB _)
 have fplt:∀ b∈fp,b<h3.objs.size:=λb hb=>by
  obtain ⟨o,e,_⟩:=Tn.obj _ _ t0 b hb
  exact OZ (k3 b o e)
 let s3:Shared:={ s2 with heap:=h3,toks:=s2.toks }
 let H2:Hp:=upd H1 Da (.lst [])
 let X':Cx:={ prog:=c.X.prog,w:=c.X.w,K:=c.X.K,mg:=c.X.mg,base:=c.X.base,A:=c.X.A,N:=N',s₀:=s3,H₀:=H2,env:=compEnvC scope cl h3.objs.size c.X.env,outer:=c.X.stack,stack:=c.X.stack,ex:=fp,fn:=λ_=>false,calm:=true,pn:=[],xe:=jl }
 have S1:=S.cC g
 have S2:bF c σ H2 aV ρ:=S1.cC (bw.fU g.b vt)
 obtain ⟨t,ht⟩:∃ t:Str->Addr,∀ (i:Nat) (y:Str) (p:Addr),N[i]?=some y->σ[i]?=some (some (.ref p))->t y=p:=by
  classical
  refine ⟨λy=>if h:∃ (i:Nat) (p:Addr),N[i]?=some y/\σ[i]?=some (some (.ref p)) then h.choose_spec.choose else 0,λi y p e1 e2=>?_⟩
  have h:∃ (i:Nat) (p:Addr),N[i]?=some y/\σ[i]?=some (some (.ref p)):=⟨i,p,e1,e2⟩
  show (if h:_ then _ else _)=p
  rw [dif_pos h]
  obtain ⟨e3,e4⟩:=h.choose_spec.choose_spec
  have hi:h.choose<N.length:=(O6.mp e3).1
  have e5:h.choose=i:=(List.getElem?_inj hi c.nd).mp (e3.trans e1.symm)
  have e6:=(congrArg (λz=>σ[z]?) e5).symm.trans e4
  rw [show σ[i]?=some (some (.ref p)) from e2] at e6
  have e4:=e6
  exact (V.ref.inj (QI (QI e4))).symm
 have hfr:=hfr t
 generalize hρ:ρ0 t=ρt at hfr
 obtain ⟨σ0,hσl,hσ0⟩:=hfr.start (σ:=σ) λi s e hu=>let ⟨v,e2,_⟩:=S2.at_ i s e hu; ⟨v,e2⟩
 have k4:∀ b u,h3.get? b=some u->h4.get? b=some u:=λb u e=>hsb.extBut b u (Px (OZ e)) (OX _ e)
 have hsc:X'.env.scope=bZ scope sc:=q8 c.esc
 have okX:X'.Ok:={
  mod:=I3.ok.mod
  kind:=hk
  glob:=I3.ok.glob
  blt:=I3.ok.blt
  above:=OT _
  inj:=λx y a e1 e2=>I3.ok.inj x y a (zB x a e1).1 (zB y a e2).1
  has:=λx hx=>by
   have key:(x,Rf)∈scope.names:=by
    have hx':(bZ scope sc).names.lookup x=some .cell\/(bZ scope sc).names.lookup x=some .free:=by
     unfold P8 at hx; rw [hsc] at hx; exact hx
    rcases hx' with hx' | hx'
    ·obtain ⟨k0,h1,h2⟩:=iM hx'
     rcases h2 with h2 | ⟨_,h2⟩
     ·subst h2; exact absurd rfl (hnc _ h1)
     ·subst h2; exact h1
    ·obtain ⟨k0,h1,h2⟩:=iM hx'
     rcases h2 with h2 | ⟨h2,_⟩
     ·subst h2; exact h1
     ·cases h2
   obtain ⟨a,ea⟩:=hcells _ key rfl
   exact ⟨a,hcl2 x a key ea⟩
  cab:=λx a hf=>by cases hf
  hd:=λ_=>I3.ok.hd c.calm
  frames:=I3.ok.frames
  stk:=.inl rfl
  exf:=λb hb=>⟨Px (fplt b hb),λx a ea=>(hfp b hb).2.2.2.2.1 x a (zB x a ea).1⟩
  bs:=I3.bs
  bsz:=O3 I3.ok.bsz I3.sz
  noex:=λb o e hb=>by
   rcases (hfp b hb).2.2.2.1 with z | z
   ·exact I3.ok.noex b o e z
   ·exact absurd (PJ (OZ e) (O3 I3.ok.bsz z)) (QB _)
  exfs:=λb hb m=>by
   rcases O2.mp (I3.tO b m) with z | z
   ·exact (hfp b hb).2.1 z
   ·exact (hfp b hb).2.2.1 z
  jf:=I3.stack
  frf:=I3.vv }
 have I4:Inv X' [] σ0 H2 { s2 with heap:=h4,toks:=s2.toks+([]:List (Str×Value)).length }:={
  ok:=okX
  os:=rfl
  bare:=I3.bare
  base:=Un.kept k4
  loc:=⟨_,hns,λj y v hy hv' _=>by
   have hj:j<ρt.length:=by
    have:=(O6.mp hv').1
    rw [hσl] at this; exact this
   rcases hσ0 j ρt[j] (Pk hj) with ⟨_,z⟩ | hh
   ·rw [z] at hv'; cases hv'
   ·refine z4 hh λi y' v' s0 hh=>w8 hh λh1 h2 h3' h4' hs5 hs6 h5 h6=>?_
    rw [h6] at hv'; cases hv'
    have hy':N'[j]?=some y:=hy
    rw [h1] at hy'; cases hy'
    obtain ⟨m0,hm0,hl⟩:=I3.loc
    have hkc:c.X.env.kindOf y=some .cell:=by unfold P8; rw [c.esc]; exact hfree _ h2 rfl
    obtain ⟨u,r,lk⟩:=hl i y v (by rw [c.eN]; exact h3') h5 (.inr (.inl hkc))
    refine ⟨u,r,?_⟩
    rcases lk with ⟨q1,_⟩ | ⟨_,a,e1,e2⟩
    ·rw [hkc] at q1; cases q1
    ·refine .inr ⟨.inl ?_,a,hcl2 _ a h2 e1,?_⟩
     ·show List.lookup y X'.env.scope.names=_
      rw [hsc]; exact hvf _ h2 rfl
     ·obtain ⟨oc,e3,e4⟩:=e2
      exact ⟨oc,k4 _ _ e3,e4⟩⟩
  cell:=λx a ea=>by
   obtain ⟨v',oc,e3,e4⟩:=I3.cell x a (zB x a ea).1
   exact ⟨v',oc,k4 _ _ e3,e4⟩
  free:=I3.hok.fresh (OT _)
  freeC:=λx a ea=>I3.freeC x a (zB x a ea).1
  pin:=λq hq'=>by simp at hq'; cases hq'
  hok:=I3.hok.kept k4
  len:=by rw [hσl]; exact hfr.len.symm }
 let c':Ctx P w K mg base k N' (bZ scope sc) true :=
  { X:=X',eP:=c.eP,ew:=c.ew,eK:=c.eK,emg:=c.emg,eb:=c.eb,eN:=rfl,esc:=hsc,calm:=rfl,top:=λz=>(by cases z),cb:=λz=>(by cases z),fn:=λx hx=>.inr (by rw [hsc]; exact hx.resolve_left (λz=>by cases z)),room:=c.room,nd:=hnd,vis:=hv,
    Hf:=c.Hf,B:=c.B,RX:=λ_ _=>False,exc:=λ_ _ _ _ _ _ _ _ _ _ _ _ h _ _=>h.elim,RM:=λ_ _=>False,mde:=λ_ _ _ _ _ _ _ _ _ _ _ _ h _=>h.elim }
 have hN0:N'.length=ρt.length:=hfr.len
 have S4:bF c' σ0 H2 aV ρt:=by
  refine ⟨S2.bas,hσl,λj r hj hu=>?_,λj j' r r' p hne e1 e2 o1 o2 f1 f2=>?_⟩
  ·rcases hσ0 j r hj with ⟨z,_⟩ | hh
   ·exact absurd z hu
   ·refine z4 hh λi y v s0 hh=>w8 hh λh1 h2 h3' h4' hs5 hs6 h5 h6=>?_
    obtain ⟨v',e3,q3⟩:=S2.at_ i s0 h4' hs6
    rw [h5] at e3; cases e3
    subst hs5
    exact ⟨v,h6,v5 (λow=>by
     obtain ⟨p,_,rfl,_⟩:=q3.qX ow
     rw [ht i y p h3' h5]) q3⟩
  ·have u1:r≠.un:=by rintro rfl; cases o1
   have u2:r'≠.un:=by rintro rfl; cases o2
   rcases hσ0 j r e1 with ⟨z,_⟩ | hh
   ·exact u1 z
   rcases hσ0 j' r' e2 with ⟨z,_⟩ | hh'
   ·exact u2 z
   refine z4 hh λi y v s0 hh=>w8 hh λh1 h2 h3' h4' hs5 hs6 h5 h6=>z4 hh' λi' y' v' s0' hh'=>w8 hh' λh1' h2' h3'' h4'' hs5' hs6' h5' h6'=>?_
   rw [f1] at h6; cases h6
   rw [f2] at h6'; cases h6'
   have hii:i≠i':=λz=>by
    subst z
    rw [h3'] at h3''; cases h3''
    have a1:j<N'.length:=(O6.mp h1).1
    exact hne ((List.getElem?_inj a1 hnd).mp (h1.trans h1'.symm))
   subst hs5; subst hs5'
   rw [nM] at o1 o2
   exact S2.sep i i' s0 s0' p hii h4' h4'' o1 o2 h5 h5'
 have howA:∀ (j:Nat) (r:Sl),ρt[j]?=some r->r.owned=true->∃ b,r.adr=some b/\b≠Da:=λj r hj ho=>by
  rcases hσ0 j r hj with ⟨z,_⟩ | hh
  ·subst z; cases ho
  ·refine z4 hh λi y v s0 hh=>w8 hh λh1 h2 h3' h4' hs5 hs6 h5 h6=>?_
   subst hs5
   rw [nM] at ho
   obtain ⟨b,eb⟩:=El (a:=t y) ho
   refine ⟨b,eb,λz=>?_⟩
   obtain ⟨v',e3,q3⟩:=S1.at_ i s0 h4' hs6
   obtain ⟨p,o,e4,_,e5,_⟩:=q3.qX ho
   subst e4
   have q4:=v5 (a:=t y) (λ_=>by rw [ht i y p h3' e3]) q3
   have:=v7 eb q4
   rw [this,z,vt] at e5; cases e5
 have hB0:c.B Da=none:=S1.bas.s.free vt
 have fps:∀ {H':Hp},(∀ b∈fp,H' b=none)->∀ b∈fp,d8 X' [] H' b:=λhn b hb =>
  ⟨hn b hb,Px (fplt b hb),okX.exfs b hb,.inl hb,λx a ea=>(hfp b hb).2.2.2.2.1 x a (zB x a ea).1,λp hp=>by cases hp⟩
 have fin:∀ (s':Shared) (σ':L2.St) (H' aj:Hp) (vs:List V) (fq:Fp),Inv X' [] σ' H' s'->bw H1 aV H' aj->H' Da=some (.lst vs)->aj Da=none->bg c.X.K H' aj (os.filterMap id) vs fq->(fq.map (·.1)).Nodup->(∀ b∈fq,H1 b.1=none) ->
  compPost (model c.X.prog c.X.w) c.X.A jl use QQ (.ref Da) h3.objs.size (.ok .next) s':=λs' σ' H' aj vs fq I' g' hD hfD hr hnd2 hfr2=>by
  obtain ⟨m,hm,_⟩:=I'.loc
  have hCX:h3.objs.size∉c.X.fs:=I3.Ku (OT _)
  have hCf:d8 c.X aa H' h3.objs.size:=by
   refine ⟨I'.free,λz=>?_,hCX,.inr I3.sz,λx a ea z=>?_,λp hp z=>?_⟩
   ·obtain ⟨m0,hm0,_⟩:=I3.loc
    obtain ⟨o,_,_,e,_⟩:=hm0
    exact absurd (OZ e) (by rw [<- z]; exact QB _)
   ·obtain ⟨v',oc,e,_⟩:=I3.cell x a ea
    exact absurd (OZ e) (by rw [z]; exact QB _)
   ·exact absurd (OZ (I3.pin p hp).1) (by rw [z]; exact QB _)
  refine kont s' H' aj Da h3.objs.size (os.filterMap id) vs fq hR ⟨m,hm⟩ hCX hCf (g.s.free vt) hD hfD hr hnd2 (λb hb=>g.s.free (hfr2 b hb)) (g.trans g') λh5 zC=>?_
  have ub:Un (frs c.X.stack) fp H2 H' s3.heap h5:=by
   have u:=I'.base
   have ne:∀ b o,s3.heap.get? b=some o->b≠h3.objs.size:=λb o e=>Px (OZ e)
   refine ⟨λb o e n hf hx=>(zC.2 b (ne b o e)).trans (u.keep b o e n hf hx),λb o e n hf hx=>?_,u.free,λb o e hx=>?_,u.tups,u.frzs,u.tbls⟩
   ·obtain ⟨sl,e2⟩:=u.slot b o e n hf hx
    exact ⟨sl,(zC.2 b (ne b o e)).trans e2⟩
   ·obtain ⟨o',e2⟩:=u.there b o e hx
    exact ⟨o',(zC.2 b (ne b o e)).trans e2⟩
  have hokf:je c.X.prog c.X.w H' h5:=λb u e=>(I'.hok b u e).stay (λa o ha e2=>by
   refine (zC.2 a ?_).trans e2
   intro z; subst z
   have hfree':H' h3.objs.size=none:=I'.free
   rcases ha with z | z
   ·subst z; rw [hfree'] at e; cases e
   ·rw [hfree'] at z; cases z) (λ_ z=>z) λ_ _ z=>z
  exact I3.Kv (ch:=fp) I'.os ub hokf I'.bare λb hb=>⟨(hfp b hb).2.2.2.1,(hfp b hb).2.1,(hfp b hb).2.2.2.2.1,(hfp b hb).2.2.2.2.2⟩
 have loop:codeAny (model c.X.prog c.X.w) c.X.A (.compLoop (.ListComp elt [⟨tg,iter,ifs,0⟩] scope pos) 0 (.ref it) (.ref Da) X'.env) (compPost (model c.X.prog c.X.w) c.X.A jl use QQ (.ref Da) h3.objs.size) { s2 with heap:=h4,toks:=s2.toks+([]:List (Str×Value)).length }:=by
  refine pC (λn s'=>∃ (i:Nat) (σ':L2.St) (H' aj:Hp) (vs:List V) (fq:Fp),n=ds.length - i/\i<=ds.length/\Inv X' [] σ' H' s'/\tn i s'.heap/\bF c' σ' H' aj ρt/\bw H1 aV H' aj/\H' Da=some (.lst vs)/\aj Da=none/\bg c.X.K H' aj ((os.take i).filterMap id) vs fq/\(fq.map (·.1)).Nodup/\(∀ b∈fq,H1 b.1=none)/\vs.length<=i/\∀ b∈fp,H' b=none) ?_ ds.length
   ⟨0,σ0,H2,aV,[],[],by simp,PK _,I4,Tn.keep _ _ _ t0 λb hb o e=>k4 b o (k3 b o e),S4,bw.fU g.b vt,af,g.b.free vt,by simp [bg],List.nodup_nil,(λb hb=>by cases hb),OT _,λb hb=>by show upd H1 Da _ b=none; rw [ai (fpne b hb)]; exact (hfp b hb).1⟩
  refine λn s5 hh=>z5 hh λi σ5 H5 Hf5 vs hh=>hh.elim λfq hh=>w6 hh λen hi I5 t5 S5 hh=>w6 hh λg5 hD5 hfD5 hr5 hnd5 hh=>w3 hh λhfr5 hlv fr5=>?_
  subst en
  by_cases hlt:i<ds.length
  ·have ed:ds[i]?=some ds[i]:=Pk hlt
   have eo:os[i]?=some (os[i]'(by rw [hol]; exact hlt)):=Pk _
   generalize ds[i]=d at ed
   generalize os[i]'(by rw [hol]; exact hlt)=o at eo
   obtain ⟨hgo,hy⟩:=io.go i d H5 Hf5 g5.f g5.b ed
   refine bJ (Tn.item X' rfl rfl rfl rfl i [] s5 σ5 H5 jl I5 (fps fr5) t5 hgo) λr s6 hh=>hh.elim λu hh=>w2 hh λhr h6=>?_
   subst hr
   refine bJ h6 λ_ s7 hh=>z2 hh λx H7 hh=>w5 hh λI7 rx y7 t7 fr7=>?_
   obtain ⟨Hf7,g7,rx7⟩:=hy x H7 y7
   have I7':=I7.pinned (fps fr7) (Tn.obj _ _ t7)
   have S7:bF c' σ5 H7 Hf7 ρt:=S5.cC g7
   have hasg0:=hb c' rfl t i d o ed eo
   rw [hρ] at hasg0
   have hasg:=hasg0 σ5 H7 Hf7 x (λσ2 H2'=>∃ cN ρ1,bF c' σ2 H2' cN ρ1/\bw H7 Hf7 H2' cN/\Dn ρt ρ1/\nK c' ifs ρ1 (iF (dP c' elt ρ1 λr=>∃ z,o=some z/\r.sh=some z) (o=none))) S7 rx7 (λσ2 H2' cN ρ1 S' g' hw=>⟨cN,ρ1,S',g',hw⟩) _ s7 u I7' rx
   refine bJ (show wpAny _ _ _ _ jl _ from hasg) λ_ s8 hh=>z2 hh λσ8 H8 hh=>w2 hh λI8 hh=>z2 hh λHf8 ρ8 hh=>w4 hh λS8 g8 w8 hC8=>?_
   refine bJ (nL (c:=c') rfl ifs S8 hC8 (Q:=λb H'=>∃ aj,iF (dP c' elt ρ8 λr=>∃ z,o=some z/\r.sh=some z) (o=none) b/\bw H8 Hf8 H' aj) (λb H' aj hb' g'=>⟨aj,hb',g'⟩) I8) λb s9 hh=>hh.elim λH9 hh=>w2 hh λI9 hh=>hh.elim λHf9 hh=>w2 hh λhb9 g9=>?_
   have g79:=(g7.trans g8).trans g9
   have hD9:H9 Da=some (.lst vs):=g79.s _ _ hD5
   have hfD9:Hf9 Da=none:=g79.n Da hfD5 (by rw [hD5]; simp) (by intro ys; rw [hD5]; simp)
   have keepT:∀ {σ':L2.St} {H':Hp} {s':Shared},Inv X' ([]++kq fp s7.heap) σ' H' s'->tn (i+1) s'.heap/\∀ b∈fp,H' b=none:=λ{σ' H' s'} I' =>
    ⟨Tn.keep _ _ _ t7 λb hb' ob e=>(I'.pin (b,ob) (Qs _ (Qs _ (fy hb' e)))).1,λb hb'=>by
      obtain ⟨ob,e,_⟩:=Tn.obj _ _ t7 b hb'
      exact (I'.pin (b,ob) (Qs _ (Qs _ (fy hb' e)))).2.1⟩
   have wk:∀ {σ':L2.St} {H' aj:Hp},bF c' σ' H' aj ρ8->bF c' σ' H' aj ρt:=λS'=>d9.weak S' w8.weak.1 w8.weak.2
   have tk:(os.take (i+1)).filterMap id=(os.take i).filterMap id++o.toList:=by
    rw [T5,eo,List.filterMap_append]
    cases o <;> rfl
   cases b with
   | false =>
    have eo':=hb9.f rfl
    subst eo'
    rw [if_neg O5]
    obtain ⟨t9,fr9⟩:=keepT I9
    have hr9:bg c.X.K H9 Hf9 ((os.take i).filterMap id) vs fq:=bg.mv g79.f _ (λa _ e1 e2=>⟨g79.s _ _ e1,g79.n a.1 e2 (by rw [e1]; simp) (by intro ys z; rw [e1] at z; cases z)⟩) hr5
    exact ⟨_,Nat.sub_lt_sub_left hlt (RB i),i+1,σ8,H9,Hf9,vs,fq,rfl,hlt,I9.f6,t9,wk (S8.cC g9),g5.trans g79,hD9,hfD9,by rw [tk]; simpa using hr9,hnd5,hfr5,Vm hlv,fr9⟩
   | true =>
    rw [if_pos rfl]
    have hev:=hb9.t rfl σ8 H9 Hf9 (λv H'=>∃ aj r,(∃ z,o=some z/\r.sh=some z)/\bz c.X.K (λp=>H9 p=none) H' aj r v/\bw H9 Hf9 H' aj) (S8.cC g9) (λr v H' aj he r' g'=>⟨aj,r,he,r',g'⟩) _ s9 I9
    refine bJ (show wpAny _ _ _ _ jl _ from hev) λu2 s10 hh=>z2 hh λv2 H10 hh=>w3 hh λI10 r10 hh=>z2 hh λHf10 r hh=>w3 hh λeo0 re g10=>?_
    obtain ⟨z,rfl,eo'⟩:=eo0
    obtain ⟨f1,rf1,nd1,fr1⟩:=IF eo' re
    have z1:=di.fz z rf1
    have z0:=bg.fz _ hr5
    have g510:=g79.trans g10
    have hr10:bg c.X.K H10 Hf10 ((os.take i).filterMap id) vs fq:=bg.mv g510.f _ (λa _ e1 e2=>⟨g510.s _ _ e1,g510.n a.1 e2 (by rw [e1]; simp) (by intro ys z; rw [e1] at z; cases z)⟩) hr5
    have hD10:H10 Da=some (.lst vs):=g10.s _ _ hD9
    have hfD10:Hf10 Da=none:=g10.n Da hfD9 (by rw [hD9]; simp) (by intro ys; rw [hD9]; simp)
    have app:=nk (X:=X') _ s10 σ8 H10 (.ref Da) [v2] (.ref Da) [u2] (λ_ H'=>H'=upd H10 Da (.lst (vs++[v2]))) I10 rfl (.cons r10 .nil) ⟨Da,vs,v2,rfl,rfl,hD10,PJ (QH hlv hlt) hz,rfl⟩
    refine bJ (show wpAny _ _ _ _ jl _ from app) λ_ s11 ⟨_,H11,I11,_,e11⟩=>?_
    subst e11
    obtain ⟨t11,fr11⟩:=keepT I11
    have S10:bF c' σ8 H10 Hf10 ρ8:=(S8.cC g9).cC g10
    have gA:bw H1 aV (upd H10 Da (.lst (vs++[v2]))) Hf10:=v8 ((g5.trans g79).trans g10) vt hfD10
    refine ⟨_,Nat.sub_lt_sub_left hlt (RB i),i+1,σ8,_,Hf10,vs++[v2],fq++f1,rfl,hlt,I11.f6,t11,?_,gA,af,hfD10,?_,?_,?_,by rw [Pr]; exact SO hlv,fr11⟩
    ·refine (wk S10).apart hB0 hfD10 (λ⟨_,z⟩=>by rw [hD10] at z; cases z) λj r hj ho=>λz=>?_
     obtain ⟨b,eb,nb⟩:=howA j r hj ho
     obtain ⟨v',e3,q3⟩:=(wk S10).at_ j r hj (by rintro rfl; cases ho)
     rw [z] at e3; cases e3
     exact nb (v7 eb q3).symm
    ·rw [tk]
     refine bg.mv (.refl _) _ (λa ha e1 e2=>⟨?_,e2⟩) (bg.snoc rf1 hr10)
     rw [ai λz=>by rw [z,hD10] at e1; cases e1]; exact e1
    ·rw [PR,T6]
     refine ⟨hnd5,nd1,λa ha b hb z=>?_⟩
     subst z
     obtain ⟨p,hp,ep⟩:=Pn.mp ha
     obtain ⟨q,hq',eq⟩:=Pn.mp hb
     have e1:=g79.s _ _ (z0 p hp).1
     have e2:=fr1 q hq'
     rw [eq,<- ep,e1] at e2; cases e2
    ·intro b hb
     rcases Pb.mp hb with hb | hb
     ·exact hfr5 b hb
     ·exact (g5.trans g79).s.free (fr1 b hb)
  ·have e:i=ds.length:=Nat.le_antisymm hi (Nat.le_of_not_lt hlt)
   subst e
   refine bJ (Tn.done X' rfl rfl rfl rfl ds.length [] s5 σ5 H5 jl I5 (fps fr5) t5 (io.stop _ H5 Hf5 g5.f g5.b (OT _))) λr s6 ⟨hr,I6⟩=>?_
   subst hr
   refine fin s6 σ5 H5 Hf5 vs fq I6 g5 hD5 hfD5 ?_ hnd5 hfr5
   rw [SA (by rw [hol]; exact OT _)] at hr5
   exact hr5
 exact codeAny_compStart_list loop (Tn.self _ 0 _ _ _ (Tn.keep _ _ _ t0 λb hb o e=>k4 b o (k3 b o e)) loop)
theorem v9:∀ {ds:List D} {vs:List V} {fq:Fp},bg K H Hf (ds.map .v) vs fq->aq K Hf ds vs
 | [],_,_,h=>by simp only [Rh,bg] at h; exact aF.mpr h.1
 | d::ds,_,_,h=>by
  simp only [O4,bg,di] at h
  obtain ⟨x,r,f1,f2,rfl,h1,h2,-⟩:=h
  exact aq.cons h1.1 (v9 h2)
theorem IG:∀ os:List (Option D),(os.map (Option.map Sh.v)).filterMap id=(os.filterMap id).map Sh.v
 | []=>rfl
 | none::os=>IG os
 | some d::os=>congrArg (Sh.v d:: ·) (IG os)
theorem nK.imp (h:∀ b,T b->T' b):∀ {ifs:List Expr} {ρ:List Sl},nK c ifs ρ T->nK c ifs ρ T'
 | [],_,q=>h _ q
 | _::_,_,q=>λσ H Hf Q S z=>q σ H Hf Q S λb H' aj hb g=>z b H' aj ⟨λe=>nK.imp h (hb.t e),λe=>h _ (hb.f e)⟩ g
theorem A3 (h:A1 c tg ifs elt ρ0 d o):A2 c tg ifs elt ρ0 d (o.map .v):=λσ H Hf v Q S r q=>h σ H Hf v Q S r λσ' H' aj ρ' S' g hw=>q σ' H' aj ρ' S' g ⟨hw.1,nK.imp (λb hb=>⟨λe=>λσ2 H2 cN Q2 S2 q2=>hb.t e σ2 H2 cN Q2 S2 λd2 v2 H3 Hf3 ed rv g3=>q2 (.va d2) v2 H3 Hf3 ⟨.v d2,by rw [ed]; rfl,rfl⟩ rv g3,λe=>by rw [hb.f e]; rfl⟩) hw.2⟩
theorem En {elt tg iter:Expr} {ifs:List Expr} {scope:Scope} {N':List Str} {ρ0:(Str->Addr)->List Sl} {R:Sl->Prop} (hq:c.X.xe=jl) (hfr:∀ t,zE t scope.names N ρ N' (ρ0 t))
 (h:AM c tg iter ρ λds=>Sd (ds.length<=sizeLine) (∃ os:List (Option D),os.length=ds.length /\
   (∀ c':Ctx P w K mg base k N' (bZ scope sc) true,c'.X.xe=jl->∀ (t:Str->Addr) (i:Nat) (d:D) (o:Option D),ds[i]?=some d->os[i]?=some o->A1 c' tg ifs elt (ρ0 t) d o)/\R (.ow (os.filterMap id))))
 (hcp:NS scope sc N':=by decide +kernel)
 (hs:∀ env v,foldedSetIterable iter env v=pure v:=by intro _ _; walk_at "u")
 {σ:L2.St} {H Hf:Hp} (S:bF c σ H Hf ρ) {aa:List (Addr×Obj)} {s:Shared} (I:Inv c.X aa σ H s) {use:Option (Value->Sem Unit)} {QQ:Value->Shared->Prop}
 (kont:∀ (s':Shared) (H' aj:Hp) (a C:Addr) (r:Sl),R r->(∃ m,s'.heap.Ns C m)->C∉c.X.fs->d8 c.X aa H' C->bz c.X.K (λp=>H p=none) H' aj r (.ref a)->bw H Hf H' aj->(∀ h5,QW C s'.heap h5->Inv c.X aa σ H' { s' with heap:=h5 })->compPost (model c.X.prog c.X.w) c.X.A jl use QQ (.ref a) C (.ok .next) s') :
 wpAny (model c.X.prog c.X.w) c.X.A (comprehension (.ListComp elt [⟨tg,iter,ifs,0⟩] scope pos) scope c.X.env (firstIterPos [⟨tg,iter,ifs,0⟩] pos) (newList []) (firstAsync [⟨tg,iter,ifs,0⟩]) (firstIter [⟨tg,iter,ifs,0⟩] c.X.env) use) QQ jl s:=by
 refine Em (R:=λss=>∃ os:List D,ss=os.map .v/\R (.ow os)) hq hfr (λσ' H' aj Q S' q=>h σ' H' aj Q S' λds J H1 aV hd=>q ds J H1 aV ⟨hd.1,hd.2.elim λos ho=>⟨os.map (Option.map .v),by rw [OW]; exact ho.1,λc' hc t i d o e1 e2=>?_,os.filterMap id,?_,ho.2.2⟩⟩) hcp hs S I λs' H' aj a C ss vs fq hR hC1 hC2 zA ha h1 h2 r nd fr g hJ=>?_
 ·rw [O8,Pf] at e2
  obtain ⟨o',e3,rfl⟩:=e2
  exact A3 (ho.2.1 c' hc t i d o' e1 e3)
 ·exact IG os
 ·obtain ⟨os,rfl,hR⟩:=hR
  exact kont s' H' aj a C (.ow os) hR hC1 hC2 zA ⟨a,vs,rfl,ha,h1,h2,v9 r⟩ g hJ
theorem gc {elt tg iter:Expr} {ifs:List Expr} {scope:Scope} {N':List Str} {ρ0:(Str->Addr)->List Sl} {R:Sl->Prop} (hq:c.X.xe=jl) (hfr:∀ t,zE t scope.names N ρ N' (ρ0 t))
 (h:AM c tg iter ρ λds=>Sd (ds.length<=sizeLine) (∃ os:List (Option D),os.length=ds.length /\
   (∀ c':Ctx P w K mg base k N' (bZ scope sc) true,c'.X.xe=jl->∀ (t:Str->Addr) (i:Nat) (d:D) (o:Option D),ds[i]?=some d->os[i]?=some o->A1 c' tg ifs elt (ρ0 t) d o)/\R (.ow (os.filterMap id))))
 (hcp:NS scope sc N':=by decide +kernel)
 (hs:∀ env v,foldedSetIterable iter env v=pure v:=by intro _ _; walk_at "u"):dP c (.ListComp elt [⟨tg,iter,ifs,0⟩] scope pos) ρ R:=λσ H Hf Q S q aa s I=>by
 rw [hq]
 rw [show (eval (.ListComp elt [⟨tg,iter,ifs,0⟩] scope pos) c.X.env)=comprehension (.ListComp elt [⟨tg,iter,ifs,0⟩] scope pos) scope c.X.env (firstIterPos [⟨tg,iter,ifs,0⟩] pos) (newList []) (firstAsync [⟨tg,iter,ifs,0⟩]) (firstIter [⟨tg,iter,ifs,0⟩] c.X.env) from rfl]
 exact En hq hfr h hcp hs S I λs' H' aj a C r hr ⟨m,hm⟩ _ _ hrep g hJ=>⟨m,hm,λh5 zC=>⟨.ref a,H',hJ h5 zC,rfl,q r _ H' aj hr hrep g⟩⟩
end
mutual
def D.nl:D->Prop
 | .lst _=>False
 | .fdK _ _=>False
 | .fdT _ _=>False
 | .tup ds=>D.uo ds
 | _=>True
def D.uo:List D->Prop
 | []=>True
 | d::ds=>d.nl/\D.uo ds
end
theorem wc:∀ {ds:List D},D.uo ds↔∀ d∈ds,d.nl
 | []=>by simp [D.uo]
 | d::ds=>by simp [D.uo,wc (ds:=ds)]
theorem gy {α:Type} {f:α->D} {l:List α} (h:∀ x∈l,(f x).nl):D.uo (l.map f):=wc.mpr λd hd=>by
 obtain ⟨x,hx,rfl⟩:=Pn.mp hd
 exact h x hx
theorem pD:(D.int i).nl:=by simp [D.nl]
theorem pF (l:List Int):D.uo (l.map D.int):=gy λx _=>pD
theorem uq (h:D.uo ds):(D.tup ds).nl:=by simpa [D.nl] using h
noncomputable def HO.mt:HO->Prop | .lst _=>True | .dK _=>True | .dT _=>True | _=>False
theorem yo {K:OR} (hp:Hf p=some o) (hm:HO.mt o) (h:cU K Hf a xs):cU K (del Hf p) a xs:=by
 rcases h with (h | ⟨o',h⟩) | h
 ·exact .inl (.inl (by rw [bN (by rintro rfl; rw [hp] at h; cases h; exact hm)]; exact h))
 ·exact .inl (.inr ⟨o',by rw [bN (by rintro rfl; rw [hp] at h; cases h; exact hm)]; exact h⟩)
 ·exact .inr h
mutual
theorem A4 {K:OR} {Hf:Hp} {p:Addr} {o:HO} (hp:Hf p=some o) (hm:HO.mt o):∀ (d:D) {v:V},d.nl->Rep K Hf d v->Rep K (del Hf p) d v
 | .non,_,_,h=>by simpa [Rep] using h
 | .bl _,_,_,h=>by simpa [Rep] using h
 | .int _,_,_,h=>by simpa [Rep] using h
 | .str _,_,_,h=>by simpa [Rep] using h
 | .adr _,_,_,h=>by simpa [Rep] using h
 | .tup ds,v,f,h=>by
  simp only [Rep] at h |-
  obtain ⟨a,xs,e,h1,h2⟩:=h
  exact ⟨a,xs,e,yo hp hm h1,we hp hm ds (by simpa [D.nl] using f) h2⟩
 | .lst _,_,f,_=>by simp [D.nl] at f
 | .fdK _ _,_,f,_=>by simp [D.nl] at f
 | .fdT _ _,_,f,_=>by simp [D.nl] at f
 | .exc C,_,_,h=>by
  simp only [Rep] at h |-
  obtain ⟨a,e,h⟩:=h
  exact ⟨a,e,by rw [bN (by rintro rfl; rw [hp] at h; cases h; exact hm)]; exact h⟩
theorem we {K:OR} {Hf:Hp} {p:Addr} {o:HO} (hp:Hf p=some o) (hm:HO.mt o):∀ (ds:List D) {xs:List V},D.uo ds->aq K Hf ds xs->aq K (del Hf p) ds xs
 | [],_,_,h=>by simpa [aq] using h
 | d::ds,xs,f,h=>by
  simp only [aq] at h |-
  simp only [D.uo] at f
  obtain ⟨x,r,e,h1,h2⟩:=h
  exact ⟨x,r,e,A4 hp hm d f.1 h1,we hp hm ds f.2 h2⟩
end
noncomputable def Sl.nl:Sl->Prop
 | .va d=>d.nl
 | .ow ds=>D.uo ds
 | _=>False
section
variable {P:Program} {w:World} {K:OR} {mg:Str->Option Value} {base:Heap} {k:Nat} {N:List Str} {sc:Scope} {bk:Bool} {c:Ctx P w K mg base k N sc bk} {ρ ρ':List Sl} {pos ap cp px tp:Pos} {a b e f:Expr} {es:List Expr} {R:D->Prop} {T:Bool->Prop} {nx:List Sl->Prop} {p:Pt} {x:Str} {i:Nat} {r:Sl} {ds:List D}
noncomputable def Sl.mU:Sl->Option D
 | .ow ds=>some (.lst ds) | .aw _ ds=>some (.lst ds)
 | _=>none
theorem kT (h:r.mU=some d):r.owned=true:=by cases r <;> first | rfl | cases h
theorem iN {κ:Type} {Hf:Hp} {kvs:List (κ×D)} {xs:List (κ×V)} (h:gW K Hf kvs xs):xs.map (·.1)=kvs.map (·.1)/\aq K Hf (kvs.map (·.2)) (xs.map (·.2)):=by
 unfold gW at h
 induction h with
 | nil=>exact ⟨rfl,aF.mpr rfl⟩
 | cons h t ih=>exact ⟨by rw [O4,O4,ih.1,h.1],.cons h.2 ih.2⟩
theorem eZ (h:mF K Hf kvs xs):xs.map (·.1)=kvs.map (·.1)/\(∀ y∈xs,cU K Hf y.2.1 (y.1.map kV))/\aq K Hf (kvs.map (·.2)) (xs.map (·.2.2)):=by
 refine ⟨?_,h.AZ,?_⟩
 ·unfold mF at h
  induction h with
  | nil=>rfl
  | cons h t ih=>rw [O4,O4,ih,h.1]
 ·unfold mF at h
  induction h with
  | nil=>exact aF.mpr rfl
  | cons h t ih=>exact .cons h.2.2 ih
theorem bz.mU (h:r.mU=some d) (q:bz K fr H Hf r v):∃ p o,v=.ref p/\fr p/\H p=some o/\Hf p=none/\HO.mt o/\Rep K (upd Hf p o) d v:=by
 have sf:∀ {p:Addr} {o:HO},Hf p=none->aN Hf (upd Hf p o):=λhp b u e=>by rw [ai (aD e hp)]; exact e
 cases r with
 | ow ds=>cases h; obtain ⟨p,xs,rfl,f,h1,h2,h3⟩:=q; exact ⟨p,_,rfl,f,h1,h2,trivial,br.mpr ⟨p,xs,rfl,.inl (.inl af),h3.mono (sf h2)⟩⟩
 | aw a ds=>cases h; obtain ⟨p,xs,rfl,f,h1,h2,h3⟩:=q; exact ⟨p,_,rfl,f.1,h1,h2,trivial,br.mpr ⟨p,xs,rfl,.inl (.inl af),h3.mono (sf h2)⟩⟩
 | _=>cases h
theorem d9.wg (S:d9 K H₀ eT σ H Hf ρ) (h:ρ[i]?=some r) (hr:r.mU=some d) :
 ∃ q o,H q=some o/\Hf q=none/\HO.mt o/\d9 K H₀ eT σ H (L2.upd Hf q o) (ρ.set i (.va d)):=by
 obtain ⟨q,ev,rq⟩:=S.own h (kT hr)
 obtain ⟨_,o,e0,fq,hq,vo,hm,rd⟩:=rq.mU hr
 cases e0
 have hi:i<ρ.length:=(O6.mp h).1
 have hown:=kT hr
 have sf:aN Hf (L2.upd Hf q o):=λb u e=>by rw [L2.ai (aD e vo)]; exact e
 have sb:aN (L2.upd Hf q o) H:=λb u e=>by
  by_cases z:b=q
  ·subst z; rw [L2.af] at e; rw [hq]; exact e
  ·rw [L2.ai z] at e; exact S.sb b u e
 refine ⟨q,o,hq,vo,hm,⟨S.bas.s,S.bas.f.trans sf,sb,λb h1 h2 h3=>?_⟩,by simp [S.len],λj r' hj hu=>?_,λj j' r1 r2 q' hne h1 h2 o1 o2=>?_⟩
 ·have e:=S.bas.n b h1 h2 h3
  by_cases z:b=q
  ·subst z; exact absurd fq h2
  ·rw [L2.ai z]; exact e
 ·by_cases z:j=i
  ·subst z
   rw [Qq hi] at hj
   cases hj
   exact ⟨_,ev,rd⟩
  ·rw [Qn (Pe z)] at hj
   obtain ⟨v,e1,e2⟩:=S.at_ j r' hj hu
   refine ⟨v,e1,?_⟩
   have key:r'.owned=true->v≠.ref q:=λho z=>by
    subst z
    exact S.sep i j _ _ q (Pe ‹_›) h hj hown ho ev e1
   exact bz.mv (B:=λz=>z=q) sf (λz u hz e1 _ e3=>⟨e1,by rw [L2.ai hz]; exact e3⟩) (by rintro _ z rfl ⟨ys,e9⟩; rw [hq] at e9; cases e9; exact hm) (λho z e=>by rintro rfl; exact key ho e) e2
 ·have out:∀ {j:Nat} {r:Sl},(ρ.set i (.va d))[j]?=some r->r.owned=true->ρ[j]?=some r:=λ{j r} hj ho=>by
   by_cases z:j=i
   ·subst z; rw [Qq hi] at hj; cases hj; cases ho
   ·rw [Qn (Pe z)] at hj; exact hj
  exact S.sep j j' r1 r2 q' hne (out h1 o1) (out h2 o2) o1 o2
theorem A5 (sb:aN Hf H) (hq:H q=some o) (vo:Hf q=none) (g:bw H (upd Hf q o) H' aj):bw H Hf H' (del aj q) :=
 ⟨g.s,λb o e=>by rw [bN (aD e vo)]; exact g.f b o (by rw [ai (aD e vo)]; exact e),λb o e=>by obtain ⟨_,e2⟩:=dF e; exact g.b b o e2,λb h1 h2 h3=>by
   by_cases z:b=q
   ·subst z; exact eX
   ·rw [bN z]; exact g.n b (by rw [ai z]; exact h1) h2 h3⟩
theorem wj (i) (hi:At ρ i r) (hr:r.mU=some d0) (hs:SSet ρ i (.va d0) ρ') (h:aJ c e ρ' λd=>Sd d.nl (R d)):aJ c e ρ R:=λσ H Hf Q S q=>by
 obtain ⟨a,o,ha,Kr,hm,S1⟩:=S.wg hi.get hr
 rw [<- hs.eq] at S1
 exact h σ H _ Q S1 λd v H' aj ⟨fl,rd⟩ rv g=>q d v H' _ rd (A4 (g.f a _ af) hm d fl rv) (A5 S.sb ha Kr g)
theorem jm {st:List Stmt} (i) (hi:At ρ i r) (hr:r.mU=some d0) (hs:SSet ρ i (.va d0) ρ') (h:aH c st ρ' nx p):aH c st ρ nx p:=λσ H Hf D S o=>by
 obtain ⟨a,ob,ha,Kr,hm,S1⟩:=S.wg hi.get hr
 rw [<- hs.eq] at S1
 exact h σ H _ D S1 o
theorem LC (hN:At N i x) (hi:At ρ i r) (hr:r.mU=some (.lst ds)) (hs:SSet ρ i (.va (.lst ds)) ρ') (h:aJ c b ρ' λy=>Sd y.nl (∃ j d,y=.int j/\jS ds j=some d/\Sd d.nl (R d))) (hx:At ρ' i (.va (.lst ds)))
 (hd:(x == ("__debug__":Str))=false:=by decide) (hcd:(x == ("__classdict__":Str))=false:=by decide) (hp:jY b:=by with_unfolding_all exact λ_ _=>rfl):aJ c (.Subscript (.Name x p2) b pos) ρ R :=
 wj i hi hr hs (Lz (vJ hN hx (h.imp λy ⟨_,j,d,e1,e2,e3⟩=>⟨ds,j,d,rfl,e1,e2,e3⟩) hd hcd) hp)
theorem SSet.at (h:SSet l i r l'):At l' i r:=by
 induction h with
 | z=>exact .z
 | s _ ih=>exact .s ih
theorem II (hm:mg "len"=none) (hN:At N i x) (hi:At ρ i r) (hr:r.mU=some (.lst ds)) (hs:SSet ρ i (.va (.lst ds)) ρ') (h:R (.int ds.length)) (hg:sc.names.lookup (OP "len")=some .globalImplicit:=by walk_at "u")
 (hd:(x == ("__debug__":Str))=false:=by decide) (hcd:(x == ("__classdict__":Str))=false:=by decide)
 (he:∀ env,starEach [.Name x p2] env=(false,eval (.Name x p2) env)::starEach [] env:=by intro _; walk_at "u"):aJ c (.Call (.Name "len" p1) [.Name x p2] [] pos) ρ R :=
 wj i hi hr hs (e_len hm (vJ hN hs.at ⟨ds,rfl,pD,h⟩ hd hcd) hg he)
theorem A6 (hm:mg "tuple"=none) (hN:At N i x) (hi:At ρ i r) (hr:r.mU=some (.lst ds)) (hs:SSet ρ i (.va (.lst ds)) ρ') (h:Sd (D.uo ds) (R (.tup ds))) (hg:sc.names.lookup (OP "tuple")=some .globalImplicit:=by walk_at "u")
 (hd:(x == ("__debug__":Str))=false:=by decide) (hcd:(x == ("__classdict__":Str))=false:=by decide)
 (he:∀ env,starEach [.Name x p2] env=(false,eval (.Name x p2) env)::starEach [] env:=by intro _; walk_at "u"):aJ c (.Call (.Name "tuple" p1) [.Name x p2] [] pos) ρ R :=
 wj i hi hr hs (vV hm (vJ hN hs.at ⟨ds,rfl,uq h.s,h.r⟩ hd hcd) hg he)
end
end EV
set_option maxHeartbeats 0
namespace EV
open PySem PySem.Spec PyProof.Rows L2
section
variable {P:Program} {w:World} {K:OR} {mg:Str->Option Value} {base h:Heap}
def aA (K:OR) (mg:Str->Option Value) (x:Str) (st:Stmt):Prop:=∃ f fd,mg x=some (.ref f)/\dO K x x st f fd
theorem IJ {st:Stmt} {kV doc pm cdv ct:Value} (KX:K.In h) (G:h.Ns mainGlobals mg) (a:P0 K mainGlobals x=some (some (.ref f)))
 (l:K.lookup f=some ⟨oc,od,.func (Q0 x x (dQ st) (av st) (aP st) .none kV doc pm an cdv ct),osl⟩) (c:Uj K cdv x=true) (k:QY K (.ref f)=true):aA K mg x st :=
 ⟨f,_,PySem.W.mg_of KX G a,Ib l c k⟩
theorem IK (e:(t == Qh T)=false) (m:PySem.W.kitMeta T=true) (s:PySem.W.subIn K t (.type T)=some b):PySem.W.kitOne K t (.type T)=some b:=by
 unfold PySem.W.kitOne PySem.W.kitCls
 simp [e,m,s]
structure Txt (K:OR) (mg:Str->Option Value):Prop where
 abs:mg "abs"=none
 len:mg "len"=none
 isin:mg "isinstance"=none
 range:mg "range"=none
 int:mg "int"=none
 bool:mg "bool"=none
 tuple:mg "tuple"=none
 list:mg "list"=none
 max:mg "max"=none
 min:mg "min"=none
 sum:mg "sum"=none
 sorted:mg "sorted"=none
 zip:mg "zip"=none
 enum:mg "enumerate"=none
 all:mg "all"=none
 any:mg "any"=none
 dict:mg "dict"=none
 ib:PySem.W.kitOne K (.type "int") (.type "bool")=some false
theorem IL (KX:K.In h) (G:h.Ns mainGlobals mg)
 (z1:P0 K mainGlobals "abs"=some none)
 (z2:P0 K mainGlobals "len"=some none)
 (z3:P0 K mainGlobals "isinstance"=some none)
 (z4:P0 K mainGlobals "range"=some none)
 (z5:P0 K mainGlobals "int"=some none)
 (z6:P0 K mainGlobals "bool"=some none)
 (z7:P0 K mainGlobals "tuple"=some none)
 (z8:P0 K mainGlobals "list"=some none)
 (z9:P0 K mainGlobals "max"=some none)
 (z10:P0 K mainGlobals "min"=some none)
 (z11:P0 K mainGlobals "sum"=some none)
 (z12:P0 K mainGlobals "sorted"=some none)
 (z13:P0 K mainGlobals "zip"=some none)
 (z14:P0 K mainGlobals "enumerate"=some none)
 (z15:P0 K mainGlobals "all"=some none)
 (z16:P0 K mainGlobals "any"=some none)
 (z17:P0 K mainGlobals "dict"=some none)
 (sib:PySem.W.subIn K (.type "int") (.type "bool")=some false):Txt K mg :=
 ⟨Qa KX G z1,Qa KX G z2,Qa KX G z3,Qa KX G z4,Qa KX G z5,Qa KX G z6,Qa KX G z7,Qa KX G z8,
  Qa KX G z9,Qa KX G z10,Qa KX G z11,Qa KX G z12,Qa KX G z13,Qa KX G z14,Qa KX G z15,Qa KX G z16,Qa KX G z17,
  IK (by decide) (by decide) sib⟩
theorem LD {α:Type} (us:List α) (h:us.length=1):∃ a,us=[a]:=by match us,h with | [a],_=>exact ⟨a,rfl⟩
theorem LF {α:Type} (us:List α) (h:us.length=2):∃ a b,us=[a,b]:=by match us,h with | [a,b],_=>exact ⟨a,b,rfl⟩
theorem LG {α:Type} (us:List α) (h:us.length=3):∃ a b c,us=[a,b,c]:=by match us,h with | [a,b,c],_=>exact ⟨a,b,c,rfl⟩
theorem LH {α:Type} (us:List α) (h:us.length=4):∃ a b c d,us=[a,b,c,d]:=by match us,h with | [a,b,c,d],_=>exact ⟨a,b,c,d,rfl⟩
theorem IM {α:Type} (us:List α) (h:us.length=5):∃ a b c d e,us=[a,b,c,d,e]:=by match us,h with | [a,b,c,d,e],_=>exact ⟨a,b,c,d,e,rfl⟩
theorem aY (P) (w) (base) {st:Stmt} (D:aA K mg x st) (ok:∀ {f:Addr} {fd:FuncData},dO K x x st f fd->bh P w K mg base (cV P w) k f fd ps (eS K F))
 (hb:∀ (kV doc pm:Value) (an:Option Addr) (cdv ct:Value) (us:List Value),us.length=ps.length->bindArgs (Q0 x x (dQ st) (av st) (aP st) .none kV doc pm an cdv ct) ⟨us,[]⟩=pure (ps.zip us):=by intro _ _ _ _ _ _ us hl; first | (obtain ⟨a,rfl⟩:=LD us hl; rfl) | (obtain ⟨a,b,rfl⟩:=LF us hl; rfl) | (obtain ⟨a,b,c,rfl⟩:=LG us hl; rfl) | (obtain ⟨a,b,c,d,rfl⟩:=LH us hl; rfl) | (obtain ⟨a,b,c,d,e,rfl⟩:=IM us hl; rfl) | (obtain ⟨a,b,c,d,e,f,rfl⟩:=len6 us hl; rfl) | (obtain rfl:=len0 us hl; rfl)):cQ P w K mg base k x F :=
 let ⟨f,fd,m,Fu⟩:=D; ⟨f,fd,ps,m,Fu.kp,Fu.binds hb,ok Fu⟩
noncomputable def A7:Fn:=λds r=>∃ ns:List Int,ns.length<=63/\ds=[.lst (ns.map D.int)]/\r=.ok (.va (.bl true))
theorem IP (H) (a) (ns:List Int) (hl:ns.length<=63) (hS:fQ K H a (ns.map V.int)):eS K A7 [.ref a] H (λv _=>v=.bl true) λ_ _ _=>False :=
 ⟨H,[.lst (ns.map D.int)],.ok (.va (.bl true)),.refl H,.cons (br.mpr ⟨a,_,rfl,hS,nF ns⟩) (aF.mpr rfl),⟨ns,hl,rfl,rfl⟩,λv H' aj _ r=>(f7 (K:=K) (H:=aj)).mp r⟩
theorem walk {l:PySem.W.OpenLaw} {K:Params->OR} (hk:k<=20) (hn:l.most=some 63) (hdf:d.params.defaults=[])
 (hY:∀ (w:World) (h:Heap),YP w h->(K w.params).In h)
 (F:∀ (w:World) (mg:Str->Option Value) (fa:Addr) (h:Heap),(K w.params).In h->h.Ns mainGlobals mg->mg d.name=some (.ref fa) ->
   ∃ fd:FuncData,(∀ (s:Shared) (u:Value),BindsTo s fd ⟨[u],[]⟩ [("_law_script",u)])/\∀ base:Heap,(K w.params).In base->base.Ns mainGlobals mg->bh l.prog w (K w.params) mg base (cV l.prog w) 20 fa fd ["_law_script"] (eS (K w.params) A7)) :
 PySem.W.WalkO q loose XP YP l.row.toRowW d [] (λf vs=>PySem.call f vs) :=
 L2.DV (n:=63) (k:=20) (x:="_law_script") (CX:=λw=>cV l.prog w) (sp:=λw=>eS (K w.params) A7) hn (by decide) hdf ⟨rfl,by decide,by decide⟩ hY F (λ_ H a ns hl _ hS=>IP H a ns hl hS) λ_ _ _ _ _ ⟨_,_,_,_,_,q⟩=>q
end
theorem q9 (x y):O0 y (x % y)=O0 x y:=by
 have h:O0 y (y * (x / y)+x % y)=O0 y (x % y):=by simp
 rw [Int.mul_ediv_add_emod] at h
 rw [<- h,Int.gcd_comm]
theorem nN {j:Int} (h:j.natAbs<10 ^ n) (hn:n<=2700):j.natAbs.log2<9000:=by
 by_cases z:j.natAbs=0
 ·rw [z]; decide
 ·refine (Tj z).mpr (PJ h ?_)
  calc 10 ^ n<=10 ^ 2700:=QF (by decide) hn
   _<=2 ^ 9000:=by decide +kernel
@[irreducible] def Zs (n:Nat) (a:Int):Prop:=a.natAbs<10 ^ n
theorem gh:Zs n a↔a.natAbs<10 ^ n:=by unfold Zs; exact Iff.rfl
abbrev Pz (a:Int):Prop:=Zs 2600 a
abbrev Sz (a:Int):Prop:=Zs 1299 a
noncomputable def cH (a b:Int):Int:=if b<0 then 0 - (O0 a b:Int) else O0 a b
noncomputable def nT (a b:Int):Int:=a.fdiv (cH a b)
noncomputable def nB (a b:Int):Int:=b.fdiv (cH a b)
noncomputable abbrev dG (a b:Int):D:=.tup [.int (nT a b),.int (nB a b)]
theorem wm (h:Pz b) (hb:b≠0):(O0 a b:Int).natAbs.log2<9000:=by
 refine nN (n:=2600) ?_ (by decide)
 have:O0 a b<=b.natAbs:=Nat.le_of_dvd (by lia) (Int.gcd_dvd_natAbs_right a b)
 simp only [Int.natAbs_natCast]
 have h:=gh.mp h
 lia
theorem A8 (h:b<0):D.tup [.int ((-a) / (O0 (-a) (-b))),.int ((-b) / (O0 (-a) (-b)))]=dG a b:=by
 have hp:(0:Int)<O0 a b:=by have:=RU a (show b≠0 by lia); lia
 have key:∀ x:Int,(O0 a b:Int) ∣ x->(-x) / (O0 a b:Int)=x.fdiv (0 - (O0 a b:Int)):=λx ⟨q,hq⟩=>by
  rw [hq,show (0:Int) - (O0 a b:Int)= -(O0 a b:Int) by lia]
  rw [show -((O0 a b:Int) * q)=(O0 a b:Int) * (-q) by rw [Int.mul_neg],Int.mul_ediv_cancel_left _ (by lia)]
  rw [show (O0 a b:Int) * q=(-q) * (-(O0 a b:Int)) by rw [Int.neg_mul_neg,Q3],TZ _ (by lia)]
 unfold dG nT nB cH
 rw [if_pos h]
 simp only [Tp,To]
 rw [key a (Vz ..),key b (Vq ..)]
theorem A9 (h:0<b):D.tup [.int (a / (O0 a b)),.int (b / (O0 a b))]=dG a b:=by
 unfold dG nT nB cH
 rw [if_neg (by lia),Tw _ (by lia),Tw _ (by lia)]
theorem uu (a b):cH a b ∣ a:=by
 unfold cH; split
 ·rw [show (0:Int) - (O0 a b:Int)= -(O0 a b:Int) by lia]; exact Int.neg_dvd.mpr (Vz ..)
 ·exact Vz ..
theorem uw (a b):cH a b ∣ b:=by
 unfold cH; split
 ·rw [show (0:Int) - (O0 a b:Int)= -(O0 a b:Int) by lia]; exact Int.neg_dvd.mpr (Vq ..)
 ·exact Vq ..
theorem j3 (hb:b≠0):cH a b≠0:=by
 have hp:0<O0 a b:=RU a hb
 unfold cH; split <;> lia
theorem uz (hb:b≠0):a=cH a b * nT a b:=by
 obtain ⟨q,hq⟩:=uu a b
 have h0:=j3 (a:=a) hb
 have:nT a b=q:=by
  unfold nT
  rw [show a.fdiv (cH a b)=(q * cH a b).fdiv (cH a b) by rw [Q3 q,<- hq],TZ _ h0]
 rw [this]; exact hq
theorem pG (hb:b≠0):b=cH a b * nB a b:=by
 obtain ⟨q,hq⟩:=uw a b
 have h0:=j3 (a:=a) hb
 have:nB a b=q:=by
  unfold nB
  rw [show b.fdiv (cH a b)=(q * cH a b).fdiv (cH a b) by rw [Q3 q,<- hq],TZ _ h0]
 rw [this]; exact hq
theorem Ba (hb:b≠0):0<nB a b:=by
 have h:=pG (a:=a) hb
 have hp:(0:Int)<O0 a b:=by have:=RU a hb; lia
 by_cases s:b<0
 ·have e:cH a b= -(O0 a b:Int):=by unfold cH; rw [if_pos s]; lia
  rw [e] at h
  by_cases z:0<nB a b
  ·exact z
  ·exfalso
   have:=SY (Qm hp) (show 0<= -nB a b by lia)
   have e2:(O0 a b:Int) * -nB a b= -(O0 a b:Int) * nB a b:=by rw [Int.mul_neg,UC]
   lia
 ·have e:cH a b=(O0 a b:Int):=by unfold cH; rw [if_neg s]
  rw [e] at h
  by_cases z:0<nB a b
  ·exact z
  ·exfalso
   have:=SY (Qm hp) (show 0<= -nB a b by lia)
   have e2:(O0 a b:Int) * -nB a b= -((O0 a b:Int) * nB a b):=by rw [Int.mul_neg]
   lia
theorem Eo (hb:b≠0):nT a b * b=a * nB a b:=by
 have h1:=uz (a:=a) hb
 have h2:=pG (a:=a) hb
 generalize nT a b=t at *
 generalize nB a b=u at *
 generalize cH a b=g at *
 subst h1; subst h2
 rw [Q3 g t,Sm t g u]
theorem GB (hb:b≠0):O0 (nT a b) (nB a b)=1:=by
 have h1:=uz (a:=a) hb
 have h2:=pG (a:=a) hb
 have hp:0<O0 a b:=RU a hb
 have hg:(cH a b).natAbs=O0 a b:=by unfold cH; split <;> lia
 have e:O0 a b=(cH a b).natAbs * O0 (nT a b) (nB a b):=by
  have z:O0 a b=O0 (cH a b * nT a b) (cH a b * nB a b):=by rw [<- h1,<- h2]
  rw [z,Int.gcd_mul_left]
 rw [hg] at e
 exact Nat.eq_of_mul_eq_mul_left hp (by lia)
theorem wo (hb:b≠0):(nT a b).natAbs<=a.natAbs:=by
 have h:=uz (a:=a) hb
 have h0:=j3 (a:=a) hb
 conv=>rhs; rw [h,RH]
 exact Nat.le_mul_of_pos_left _ (by lia)
theorem wu (hb:b≠0):(nB a b).natAbs<=b.natAbs:=by
 have h:=pG (a:=a) hb
 have h0:=j3 (a:=a) hb
 conv=>rhs; rw [h,RH]
 exact Nat.le_mul_of_pos_left _ (by lia)
theorem Bb (g:O0 p q=1) (h:q ∣ p * x):q ∣ x:=by
 have h2:q.natAbs ∣ p.natAbs * x.natAbs:=by rw [<- RH]; exact Int.natAbs_dvd_natAbs.mpr h
 have c:Nat.Coprime q.natAbs p.natAbs:=by rw [Nat.coprime_comm]; exact g
 exact Int.natAbs_dvd_natAbs.mp (c.dvd_of_dvd_mul_left h2)
theorem Ep (hq:0<q) (hq':0<q') (g:O0 p q=1) (g':O0 p' q'=1) (h:p * q'=p' * q):p=p'/\q=q':=by
 have d1:q ∣ q':=by
  have:q ∣ p * q':=⟨p',by rw [h,Q3]⟩
  exact Bb g this
 have d2:q' ∣ q:=by
  have:q' ∣ p' * q:=⟨p,by rw [<- h,Q3]⟩
  exact Bb g' this
 have e:q=q':=by
  have a1:=Int.le_of_dvd hq' d1
  have a2:=Int.le_of_dvd hq d2
  lia
 subst e
 exact ⟨Int.eq_of_mul_eq_mul_right (by lia) h,rfl⟩
theorem ri {a b c d e f:Int} (hd:d≠0) (h1:a * d=c * b) (h2:c * f=e * d):a * f=e * b:=by
 refine Int.eq_of_mul_eq_mul_right hd ?_
 calc a * f * d=a * d * f:=by rw [Vc]
  _=c * b * f:=by rw [h1]
  _=c * f * b:=by rw [Vc]
  _=e * d * b:=by rw [h2]
  _=e * b * d:=by rw [Vc]
theorem kU (f:α->β) (xs) (lo hi):EV.cutD (xs.map f) lo hi=(EV.cutD xs lo hi).map f:=by
 unfold EV.cutD; simp only [OW,List.map_take,List.map_drop]
theorem fF (h0:0<=j) (h1:j<xs.length):jS xs j=xs[j.toNat]?:=by
 unfold jS Kl
 rw [if_pos h0,if_pos h1]; rfl
theorem Er {j:Int} (h0:j<0) (h1:0<=j+xs.length):jS xs j=xs[(j+xs.length).toNat]?:=by
 unfold jS Kl
 rw [if_neg (by lia)]
 rw [if_pos (by lia)]; rfl
theorem Bc (h:a.natAbs<2 ^ 63):PY a<=64:=by
 unfold PY
 by_cases z:a=0
 ·subst z; decide
 ·have e:(a == 0)=false:=by simpa using z
  rw [e,if_neg O5]
  have:=(Tj (n:=a.natAbs) (k:=63) (by lia)).mpr h
  lia
theorem kW (h:a.natAbs<2 ^ 63):EV.MulOk a b:=IntMulOk.of_left (Bc h)
theorem fG (h:(mT 0 n)[i]?=some d):i<n/\d=.int (i:Int):=by
 unfold mT at h
 simp only [O8,Pf] at h
 obtain ⟨j,h1,rfl⟩:=h
 obtain ⟨hj,rfl⟩:=O6.mp h1
 simp at hj
 exact ⟨hj,by simp⟩
section
variable {K:OR}
theorem LI (I) (h:gX c t ρ (iF (aH c A ρ I p) (aH c B ρ I p))) (hI:∀ ρ',I ρ'->nx ρ'):fX c (.If t A B pos) ρ nx p :=
 Ij (h.imp λx hx=>⟨λe σ H Hf D S o=>hx.t e σ H Hf D S ⟨λσ H Hf ρ S q=>o.nx σ H Hf ρ S (hI _ q),o.rt,o.bk,o.ct⟩,λe σ H Hf D S o=>hx.f e σ H Hf D S ⟨λσ H Hf ρ S q=>o.nx σ H Hf ρ S (hI _ q),o.rt,o.bk,o.ct⟩⟩)
end
end EV
namespace EV
open PySem PySem.Spec PySem.Calls PyProof.Rows L2
noncomputable def HO.dct:HO->Prop | .dK _=>True | .dT _=>True | _=>False
theorem Be (I:Inv X aa σ H s) (hu:H a=some u) (nu:∀ xs,u≠.tup xs) (nw:∀ y,u≠.own y) (nt:∀ ps,u≠.tbl ps) (nf:∀ o z,X.H₀ a≠some (.frz o z))
 (hv:bx X.prog X.w H s.heap a v):Inv X aa σ (upd H a v) s:=by
 have hne:∀ {b:Addr} {z:HO},H b=some z->z≠u->b≠a:=λe d q=>by subst q; rw [hu] at e; cases e; exact d rfl
 have hno:∀ {b:Addr},H b=none->b≠a:=λe q=>by subst q; rw [hu] at e; cases e
 have hst:∀ {b:Addr} {z:HO},bx X.prog X.w H s.heap b z->bx X.prog X.w (upd H a v) s.heap b z:=λq =>
  q.stay (λ_ _ _ e=>e) (λb e=>by rw [ai (hne e (Pe (nw _)))]; exact e) λb xs e=>by rw [ai (hne e (Pe (nu xs)))]; exact e
 have fr:=I.free
 exact {
  ok:=I.ok,os:=I.os,bare:=I.bare,loc:=I.loc,cell:=I.cell,len:=I.len
  base:=⟨I.base.keep,I.base.slot,λb o h1 h2 h3=>by have e:=I.base.free b o h1 h2 h3; rw [ai (hno e)]; exact e,I.base.there,
   λb xs e=>by have q:=I.base.tups b xs e; rw [ai (hne q (Pe (nu xs)))]; exact q,
   λb o z e=>by
    have q:=I.base.frzs b o z e
    by_cases w:b=a
    ·subst w; exact absurd e (nf o z)
    ·rw [ai w]; exact q,
   λb ps e=>by obtain ⟨m,q⟩:=I.base.tbls b ps e; exact ⟨m,by rw [ai (hne q (Pe (nt _)))]; exact q⟩⟩
  free:=by rw [ai (hno I.free)]; exact I.free
  freeC:=λx c e=>by have q:=I.freeC x c e; rw [ai (hno q)]; exact q
  pin:=λq hq=>by obtain ⟨h1,h2,h3⟩:=I.pin q hq; exact ⟨h1,by rw [ai (hno h2)]; exact h2,h3⟩
  hok:=λb z e=>by
   by_cases w:b=a
   ·subst w; rw [af] at e; cases e; exact hst hv
   ·rw [ai w] at e; exact hst (I.hok b z e) }
theorem wz (I:Inv X aa σ H s) (hu:H a=some u) (hd:HO.dct u) :
 ∃ o,Inv X aa σ (upd H a (.frz o u)) s/\∀ o z,X.H₀ a≠some (.frz o z):=by
 obtain ⟨o,ho⟩:=Im (I.hok a u hu)
 have nf:∀ o z,X.H₀ a≠some (.frz o z):=λo z e=>by
  have q:=I.base.frzs a o z e
  rw [hu] at q; cases q; exact hd
 exact ⟨o,Be I hu (by rintro xs rfl; exact hd) (by rintro y rfl; exact hd) (by rintro ps rfl; exact hd) nf ⟨ho,I.hok a u hu⟩,nf⟩
theorem Bf (I:Inv X aa σ H s) (hu:H a=some (.frz o u)) (nf:∀ o z,X.H₀ a≠some (.frz o z)):Inv X aa σ (upd H a u) s :=
 Be I hu (by intro xs z; cases z) (by intro y z; cases z) (by intro ps z; cases z) nf (I.hok a _ hu).2
noncomputable def Sl.mV:Sl->Option D
 | .oK kvs=>some (.fdK (kvs.map (·.1)) (kvs.map (·.2))) | .aK _ kvs=>some (.fdK (kvs.map (·.1)) (kvs.map (·.2)))
 | .oT kvs=>some (.fdT (kvs.map (·.1)) (kvs.map (·.2))) | .aT _ kvs=>some (.fdT (kvs.map (·.1)) (kvs.map (·.2)))
 | _=>none
theorem kX {r:Sl} (h:r.mV=some d):r.owned=true:=by cases r <;> first | rfl | cases h
section
variable {K:OR}
theorem bz.mV (h:r.mV=some d) (q:bz K fr H Hf r v):∃ p u,v=.ref p/\fr p/\H p=some u/\Hf p=none/\HO.dct u/\∀ o,Rep K (L2.upd Hf p (.frz o u)) d v:=by
 have sf:∀ {p:Addr} {o:HO},Hf p=none->aN Hf (L2.upd Hf p o):=λhp b u e=>by rw [ai (aD e hp)]; exact e
 cases r with
 | oK ds=>cases h; obtain ⟨p,xs,rfl,f,h1,h2,h3⟩:=q; exact ⟨p,_,rfl,f,h1,h2,trivial,λo=>fC.mpr ⟨p,xs,o,rfl,af,(iN h3).1,(iN h3).2.mono (sf h2)⟩⟩
 | aK a ds=>cases h; obtain ⟨p,xs,rfl,f,h1,h2,h3⟩:=q; exact ⟨p,_,rfl,f.1,h1,h2,trivial,λo=>fC.mpr ⟨p,xs,o,rfl,af,(iN h3).1,(iN h3).2.mono (sf h2)⟩⟩
 | oT ds=>cases h; obtain ⟨p,xs,rfl,f,h1,h2,h3⟩:=q; exact ⟨p,_,rfl,f,h1,h2,trivial,λo=>jZ.mpr ⟨p,xs,o,rfl,af,(eZ h3).1,λy hy=>az (sf h2) ((eZ h3).2.1 y hy),(eZ h3).2.2.mono (sf h2)⟩⟩
 | aT a ds=>cases h; obtain ⟨p,xs,rfl,f,h1,h2,h3⟩:=q; exact ⟨p,_,rfl,f.1,h1,h2,trivial,λo=>jZ.mpr ⟨p,xs,o,rfl,af,(eZ h3).1,λy hy=>az (sf h2) ((eZ h3).2.1 y hy),(eZ h3).2.2.mono (sf h2)⟩⟩
 | _=>cases h
theorem d9.wA (S:d9 K H₀ eT σ H Hf ρ) (h:ρ[i]?=some r) (hr:r.mV=some d) :
 ∃ q u,H q=some u/\Hf q=none/\HO.dct u/\∀ o,d9 K H₀ eT σ (L2.upd H q (.frz o u)) (L2.upd Hf q (.frz o u)) (ρ.set i (.va d)):=by
 obtain ⟨q,ev,rq⟩:=S.own h (kX hr)
 obtain ⟨_,u,e0,fq,hq,vo,hd,rd⟩:=rq.mV hr
 cases e0
 have hi:i<ρ.length:=(O6.mp h).1
 have hown:=kX hr
 refine ⟨q,u,hq,vo,hd,λo=>⟨⟨λb z e=>?_,λb z e=>?_,λb z e=>?_,λb h1 h2 h3=>?_⟩,by simp [S.len],λj r' hj hu=>?_,λj j' r1 r2 q' hne h1 h2 o1 o2=>?_⟩⟩
 ·rw [L2.ai (aD e fq)]; exact S.bas.s b z e
 ·have e2:=S.bas.f b z e
  rw [L2.ai (aD e2 vo)]; exact e2
 ·by_cases w:b=q
  ·subst w; rw [L2.af] at e |-; exact e
  ·rw [L2.ai w] at e |-; exact S.sb b z e
 ·have e:=S.bas.n b h1 h2 h3
  by_cases z:b=q
  ·subst z; exact absurd fq h2
  ·rw [L2.ai z]; exact e
 ·have sf:aN Hf (L2.upd Hf q (.frz o u)):=λb z e=>by rw [L2.ai (aD e vo)]; exact e
  by_cases z:j=i
  ·subst z
   rw [Qq hi] at hj
   cases hj
   exact ⟨_,ev,rd o⟩
  ·rw [Qn (Pe z)] at hj
   obtain ⟨v,e1,e2⟩:=S.at_ j r' hj hu
   refine ⟨v,e1,?_⟩
   have key:r'.owned=true->v≠.ref q:=λho z=>by
    subst z
    exact S.sep i j _ _ q (Pe ‹_›) h hj hown ho ev e1
   exact bz.mv (B:=λz=>z=q) sf (λz w hz e1 _ e3=>⟨by rw [L2.ai hz]; exact e1,by rw [L2.ai hz]; exact e3⟩) (by rintro _ z rfl ⟨ys,e9⟩; rw [hq] at e9; cases e9; exact hd) (λho z e=>by rintro rfl; exact key ho e) e2
 ·have out:∀ {j:Nat} {r:Sl},(ρ.set i (.va d))[j]?=some r->r.owned=true->ρ[j]?=some r:=λ{j r} hj ho=>by
   by_cases z:j=i
   ·subst z; rw [Qq hi] at hj; cases hj; cases ho
   ·rw [Qn (Pe z)] at hj; exact hj
  exact S.sep j j' r1 r2 q' hne (out h1 o1) (out h2 o2) o1 o2
end
theorem yr (sb:aN Hf H) (hq:H q=some u) (vo:Hf q=none) (g:bw (upd H q (.frz o u)) (upd Hf q (.frz o u)) H' aj):bw H Hf (upd H' q u) (del aj q) :=
 ⟨λb z e=>by
   by_cases w:b=q
   ·subst w; rw [af]; rw [hq] at e; exact e
   ·rw [ai w]; exact g.s b z (by rw [ai w]; exact e),
   λb z e=>by rw [bN (aD e vo)]; exact g.f b z (by rw [ai (aD e vo)]; exact e),
   λb z e=>by obtain ⟨w,e2⟩:=dF e; rw [ai w]; exact g.b b z e2,λb h1 h2 h3=>by
   by_cases w:b=q
   ·subst w; exact eX
   ·rw [bN w]; exact g.n b (by rw [ai w]; exact h1) (by rw [ai w]; exact h2) λxs=>by rw [ai w]; exact h3 xs⟩
theorem Es {K:OR} (hp:Hf p=some (.frz o u)) (hd:HO.dct u) (h:cU K Hf a xs):cU K (del Hf p) a xs:=by
 rcases h with (h | ⟨o',h⟩) | h
 ·exact .inl (.inl (by rw [bN (by rintro rfl; rw [hp] at h; cases h)]; exact h))
 ·exact .inl (.inr ⟨o',by rw [bN (by rintro rfl; rw [hp] at h; cases h; exact hd)]; exact h⟩)
 ·exact .inr h
mutual
theorem Bg {K:OR} {Hf:Hp} {p:Addr} {o:Obj} {u:HO} (hp:Hf p=some (.frz o u)) (hd:HO.dct u):∀ (d:D) {v:V},d.nl->Rep K Hf d v->Rep K (del Hf p) d v
 | .non,_,_,h=>by simpa [Rep] using h
 | .bl _,_,_,h=>by simpa [Rep] using h
 | .int _,_,_,h=>by simpa [Rep] using h
 | .str _,_,_,h=>by simpa [Rep] using h
 | .adr _,_,_,h=>by simpa [Rep] using h
 | .tup ds,v,f,h=>by
  simp only [Rep] at h |-
  obtain ⟨a,xs,e,h1,h2⟩:=h
  exact ⟨a,xs,e,Es hp hd h1,pH hp hd ds (by simpa [D.nl] using f) h2⟩
 | .lst _,_,f,_=>by simp [D.nl] at f
 | .fdK _ _,_,f,_=>by simp [D.nl] at f
 | .fdT _ _,_,f,_=>by simp [D.nl] at f
 | .exc C,_,_,h=>by
  simp only [Rep] at h |-
  obtain ⟨a,e,h⟩:=h
  exact ⟨a,e,by rw [bN (by rintro rfl; rw [hp] at h; cases h)]; exact h⟩
theorem pH {K:OR} {Hf:Hp} {p:Addr} {o:Obj} {u:HO} (hp:Hf p=some (.frz o u)) (hd:HO.dct u):∀ (ds:List D) {xs:List V},D.uo ds->aq K Hf ds xs->aq K (del Hf p) ds xs
 | [],_,_,h=>by simpa [aq] using h
 | d::ds,xs,f,h=>by
  simp only [aq] at h |-
  simp only [D.uo] at f
  obtain ⟨x,r,e,h1,h2⟩:=h
  exact ⟨x,r,e,Bg hp hd d f.1 h1,pH hp hd ds f.2 h2⟩
end
section
variable {K:OR}
theorem Bh (S:bF c σ H Hf ρ) (hi:At ρ i r) (hr:r.mV=some d0) (hs:SSet ρ i (.va d0) ρ')
 (h:∀ q u o,H q=some u->Hf q=none->HO.dct u->bF c σ (upd H q (.frz o u)) (upd Hf q (.frz o u)) ρ'->bE c.X e σ (upd H q (.frz o u)) λv H'=>∃ aj,bw (upd H q (.frz o u)) (upd Hf q (.frz o u)) H' aj/\Q v (upd H' q u)):bE c.X e σ H Q:=by
 obtain ⟨q,u,hq,vo,hd,S1⟩:=S.wA hi.get hr
 intro aa s I
 obtain ⟨o,I1,nf⟩:=wz I hq hd
 have S2:=S1 o
 rw [<- hs.eq] at S2
 refine bJ (h q u o hq vo hd S2 aa s I1) λv s' ⟨x,H',I',rv,aj,g,hQ⟩=>⟨x,_,Bf I' (g.s q _ af) nf,rv,hQ⟩
theorem pI (i) {R:Sl->Prop} (hi:At ρ i r) (hr:r.mV=some d0) (hs:SSet ρ i (.va d0) ρ') (h:dP c e ρ' λd=>Sd d.nl (R d)):dP c e ρ R:=λσ H Hf Q S q=>by
 refine Bh S hi hr hs λa u o ha Kr hd S1=>h σ _ _ _ S1 λr1 v H' aj ⟨fl,rd⟩ rv g=>⟨aj,g,?_⟩
 have hp:=g.f a _ af
 refine q r1 v _ (del aj a) rd ?_ (yr S.sb ha Kr g)
 have hH:H' a=some (.frz o u):=g.s a _ af
 cases r1 with
 | va d=>exact Bg hp hd d fl rv
 | ow ds =>
  obtain ⟨b,xs,rfl,fb,h1,h2,h3⟩:=rv
  have nb:b≠a:=by rintro rfl; rw [show (upd H b (.frz o u)) b=_ from af] at fb; cases fb
  exact ⟨b,xs,rfl,by rw [ai nb] at fb; exact fb,by rw [ai nb]; exact h1,by rw [bN nb]; exact h2,pH hp hd ds fl h3⟩
 | _=>exact fl.elim
end
def Bj (h:Heap) (it d:Addr) (i n ep:Nat):Prop :=
 ∃ (x:Value) (f:Bool) (k v:Value),h.get? it=some { cls:=.type "dict_itemiterator",dict:=none,data:=.fields #[x,.bool f,.ref d,.int i 0,.int n 0,.int ep 0,k,v],slots:= #[] }/\(x=.none\/∃ a:Addr,x=rawInt a)
section
variable {s:Shared} {i n ep:Nat}
theorem pJ:Builtin.Dict_items.ownsTuple "dict_itemiterator"=true:=by decide
theorem rj (h:Q (s.heap.get? a) s):wpAny M A (loadIfAlive a) Q E s:=λΓ p z=>by
 show Sem.wp M Γ (Sem.loadIfAlive a Sem.pure) _ _ p s
 rw [Sem.wp_loadIfAlive,Sem.wp]
 exact h
theorem Bk (hs:s.heap=h) (hit:h.get? it=some { cls:=.type "dict_itemiterator",dict:=none,data:=.fields #[x,.bool f,.ref d,.int i 0,.int n 0,.int ep 0,k,v],slots:= #[] }) (hx:x=.none\/∃ a:Addr,x=rawInt a)
 (hQ:∀ h',Bj h' it d i n ep->h'.get? h.objs.size=some { cls:=.type "tuple",data:=.seq #[a,b] }->h'.objs.size=h.objs.size+1->(∀ c o,c≠it->h.get? c=some o->h'.get? c=some o)->Q (.ref h.objs.size) { s with heap:=h' }) :
 wpAny (model prog w) A (UD (.ref it) 6 a b) Q E s:=by
 subst hs
 have lt:it<s.heap.objs.size:=OZ hit
 have ne:s.heap.objs.size≠it:=RI lt
 unfold UD
 refine OQ (wpAny_newTuple ?_)
 have tG:=OX ({ cls:=.type "tuple",data:=.seq [a,b].toArray }:Obj) hit
 have htu:(s.heap.push { cls:=.type "tuple",data:=.seq [a,b].toArray }).get? s.heap.objs.size=some { cls:=.type "tuple",data:=.seq #[a,b] }:=O7 _ rfl
 have hsz:(s.heap.push { cls:=.type "tuple",data:=.seq [a,b].toArray }).objs.size=s.heap.objs.size+1:=QZ ..
 have hold:∀ c o,s.heap.get? c=some o->(s.heap.push { cls:=.type "tuple",data:=.seq [a,b].toArray }).get? c=some o:=λc o e=>OX _ e
 generalize (s.heap.push { cls:=.type "tuple",data:=.seq [a,b].toArray })=h2 at tG htu hsz hold |-
 have free:wpAny (model prog w) A (do
  let old:=[<- field (.ref it) 6,<- field (.ref it) (6+1)]
  setField (.ref it) 6 a; setField (.ref it) (6+1) b
  setField (.ref it) 0 (rawInt s.heap.objs.size); setField (.ref it) 1 (.bool false)
  letGo old [.ref s.heap.objs.size]
  pure (Po s.heap.objs.size)) Q E { s with heap:=h2 }:=by
  refine OQ (P7 tG rfl (x:=k) rfl (OQ (P7 tG rfl (x:=v) rfl ?_)))
  refine OQ (Qt tG (by simp) λh3 e3 s3=>?_)
  refine OQ (Qt e3 (by simp) λh4 e4 s4=>?_)
  refine OQ (Qt e4 (by simp) λh5 e5 s5=>?_)
  refine OQ (Qt e5 (by simp) λh6 e6 s6=>?_)
  have keep:∀ c o,c≠it->h2.get? c=some o->h6.get? c=some o:=λc o hc e=>s6.extBut c o hc (s5.extBut c o hc (s4.extBut c o hc (s3.extBut c o hc e)))
  refine OQ (Ux (OS (hQ h6 ⟨_,_,_,_,e6,.inr ⟨_,rfl⟩⟩ (keep _ _ ne htu) ?_ λc o hc e=>keep c o hc (hold c o e))))
  rw [s6.1,s5.1,s4.1,s3.1,hsz]
 have told:∀ (h3:Heap) (x:Value) (f:Bool),h3.get? it=some { cls:=.type "dict_itemiterator",dict:=none,data:=.fields #[x,.bool f,.ref d,.int i 0,.int n 0,.int ep 0,k,v],slots:= #[] }->(x=.none\/∃ a:Addr,x=rawInt a) ->
  QW it h2 h3->Q (.ref s.heap.objs.size) { s with heap:=h3 }:=λh3 x f e hx' s3 =>
  hQ h3 ⟨x,f,k,v,e,hx'⟩ (s3.extBut _ _ ne htu) (by rw [s3.1,hsz]) λc o hc e=>s3.extBut c o hc (hold c o e)
 show wpAny _ _ (VC (.ref it) >>= _) _ _ _
 unfold VC
 refine OQ (OQ (P7 tG rfl (x:=x) rfl ?_))
 rcases hx with rfl | ⟨a0,rfl⟩
 ·exact OS free
 ·show wpAny _ _ (loadIfAlive (a0:Int).toNat >>= _) _ _ _
  refine OQ (rj ?_)
  split
  ·exact OS free
  ·refine OQ ?_
   refine P7 tG rfl (x:=.bool f) rfl ?_
   cases f with
   | true =>
    dsimp only
    rw [if_neg (by decide)]
    exact OS (OS (told h2 _ _ tG (.inr ⟨a0,rfl⟩) (.refl ..)))
   | false =>
    dsimp only
    rw [if_pos (by decide)]
    refine OQ (Qt tG (by simp) λh3 e3 s3=>?_)
    exact OS (OS (told h3 _ true e3 (.inr ⟨a0,rfl⟩) s3))
theorem Bj.IQ (h:Bj s.heap it d i n ep):s.TypeIs (.ref it) "dict_itemiterator":=let ⟨_,_,_,_,e,_⟩:=h; ⟨_,e,rfl⟩
theorem next_item (hit:Bj s.heap it d i es.size ep) (hod:s.heap.get? d=some od) (hdd:od.data=.dict es ep) (hx:es[i]?=some e)
 (hQ:∀ h',Bj h' it d (i+1) es.size ep->h'.get? s.heap.objs.size=some { cls:=.type "tuple",data:=.seq #[e.key,e.val] }->h'.objs.size=s.heap.objs.size+1->(∀ c o,c≠it->s.heap.get? c=some o->h'.get? c=some o)->Q (some (.ref s.heap.objs.size)) { s with heap:=h' }) :
 wpAny (model prog w) A (pyNext (.ref it)) Q E s:=by
 have hT:=hit.IQ
 obtain ⟨x,f,k,v,hat,hxx⟩:=hit
 have hlt:i<es.size:=(RY.mp hx).1
 unfold pyNext
 refine OQ (S0 (Rj (name:=OP "__next__") hT RT (QV RT hT VH ?_ (VE _))))
 refine OQ (OS (OQ (OQ ?_)))
 first | refine OQ (Tv hT (OS ?_)) | refine OQ (Tz hT (OS ?_))
 refine OQ (wpAny_fieldsOf hat rfl ?_)
 simp only [pJ,if_true]
 show wpAny _ _ (if (Po d == Qy)=true then _ else _) _ _ _
 rw [if_neg (show ¬ (Po d == Qy)=true from O5)]
 refine OQ (OS (OQ (Vg hod hdd ?_)))
 rw [if_neg (by simp)]
 refine OQ (OS (OQ (wpAny_dictEpoch hod hdd ?_)))
 rw [if_neg (by simp)]
 refine OS ?_
 simp only [show ¬ ((i:Int)<0) from by lia,if_false,P6,hx]
 refine OQ ?_
 first | refine OQ (Tv hT (OS ?_)) | refine OQ (Tz hT (OS ?_))
 refine OQ (UP hT ?_)
 show wpAny _ _ (setField (.ref it) 3 (rawInt ((i:Int)+1)) >>= _) _ _ s
 refine OQ (Qt hat (by simp) λh1 e1 s1=>?_)
 have e1':h1.get? it=some { cls:=.type "dict_itemiterator",dict:=none,data:=.fields #[x,.bool f,.ref d,.int ((i+1:Nat):Int) 0,.int es.size 0,.int ep 0,k,v],slots:= #[] }:=by
  have q:((i+1:Nat):Int)=(i:Int)+1:=by lia
  rw [q]; simpa [rawInt] using e1
 have hT1:Shared.TypeIs { s with heap:=h1 } (.ref it) "dict_itemiterator":=⟨_,e1',rfl⟩
 refine OQ (Qx ?_)
 refine OQ (UP hT1 (OQ (UP hT1 ?_)))
 show wpAny _ _ (UD (.ref it) 6 e.key e.val) _ _ { s with heap:=h1 }
 have z1:h1.objs.size=s.heap.objs.size:=s1.1
 refine Bk (s:={ s with heap:=h1 }) rfl e1' hxx λh2 g2 t2 z2 k2=>?_
 rw [z1] at t2 z2 |-
 exact OS ⟨_,rfl,OS (hQ h2 g2 t2 z2 λc o hc q=>k2 c o hc (s1.extBut c o hc q))⟩
theorem next_end (hh:A.handled=none) (hit:Bj s.heap it d i es.size ep) (hod:s.heap.get? d=some od) (hdd:od.data=.dict es ep) (hx:es.size<=i)
 (hQ:∀ h',Rt it s.heap h'->Q none { s with heap:=h' }):wpAny (model prog w) A (pyNext (.ref it)) Q E s:=by
 have hT:=hit.IQ
 obtain ⟨x,f,k,v,hat,hxx⟩:=hit
 unfold pyNext
 refine OQ (S0 (Rj (name:=OP "__next__") hT RT (QV RT hT VH ?_ (VE _))))
 refine OQ (OS (OQ (OQ ?_)))
 first | refine OQ (Tv hT (OS ?_)) | refine OQ (Tz hT (OS ?_))
 refine OQ (wpAny_fieldsOf hat rfl ?_)
 simp only [pJ,if_true]
 show wpAny _ _ (if (Po d == Qy)=true then _ else _) _ _ _
 rw [if_neg (show ¬ (Po d == Qy)=true from O5)]
 refine OQ (OS (OQ (Vg hod hdd ?_)))
 rw [if_neg (by simp)]
 refine OQ (OS (OQ (wpAny_dictEpoch hod hdd ?_)))
 rw [if_neg (by simp)]
 refine OS ?_
 simp only [show ¬ ((i:Int)<0) from by lia,if_false,P6,UW hx]
 refine OQ ?_
 first | refine OQ (Tv hT (OS ?_)) | refine OQ (Tz hT (OS ?_))
 show wpAny _ _ (setField (.ref it) 2 .none >>= _) _ _ s
 refine OQ (wpAny_setField hat rfl (by simp) (OQ ?_))
 simp only [newExc,newTuple]
 refine OQ (Qu ?_ (by size_fits))
 refine OQ (m:=firstArgMember _ _) (wpAny_of_eq (a:=Qy) (by first | rfl | (simp only [firstArgMember]; rfl)) ?_)
 refine Qu ?_ (by size_fits)
 simp only [raiseNew]
 refine OQ (wpAny_handled ?_)
 rw [show A.in1.handled=none from hh]
 refine OQ (OS (wpAny_throw ?_))
 refine OQ (Ua (T:="StopIteration") (b:=true) ⟨_,O7 _ rfl,rfl⟩ isSubtype_stop ?_)
 exact OS (hQ _ (((U5 ..).extBut.push _).push _))
theorem Et (hit:Bj s.heap it d i n ep) (h:∀ h',Bj h' it d i n ep->QW it s.heap h'->Q () { s with heap:=h' }):wpAny (model prog w) A (letOwnedTupleGo tg (.ref it) (.ref a)) Q E s:=by
 have stay:Q () s:=h s.heap hit (.refl ..)
 obtain ⟨x,f,k,v,hat,hxx⟩:=hit
 have part:wpAny (model prog w) A (do
  let o <- load it
  match o.cls,o.data with
  | .type n,.fields vs =>
   if (["enumerate","zip","dict_itemiterator","dict_reverseitemiterator","odict_iterator","itertools.zip_longest","itertools.pairwise"].contains n && vs[0]? == some (rawInt a))=true then do
    rule "for.unpacks-the-owned-tuple"
    updateField it 0 .none
   else pure ()
  | _,_=>pure ()) Q E s:=by
  refine OQ (wpAny_load hat ?_)
  dsimp only
  split
  ·refine OQ (Qg ?_)
   show wpAny _ _ (setField (.ref it) 0 .none) Q E s
   exact Qt hat (by simp) λh' e' s'=>h h' ⟨_,_,_,_,e',.inl rfl⟩ s'
  ·exact OS stay
 unfold letOwnedTupleGo
 cases tg <;> first
  | exact OS stay
  | exact part
end
noncomputable def cE:HO->List (V×V)
 | .dK ys=>ys.map λy=>(kV y.1,y.2)
 | .dT ys=>ys.map λy=>(.ref y.2.1,y.2.2)
 | _=>[]
theorem wB (h:kj k v=true):RelV (kV k) v:=by
 rcases bH h with ⟨i,t,rfl,rfl⟩ | ⟨x,t,rfl,rfl⟩
 ·exact ⟨t,rfl⟩
 ·exact ⟨t,rfl⟩
theorem cY (ok:bx P w H h d u) (hd:HO.dct u) (ho:h.get? d=some o) :
 o.ExactDict/\∃ es ep,o.data=.dict es ep/\Paired (λ(a:V×V) (e:DictEntry)=>RelV a.1 e.key/\RelV a.2 e.val) (cE u) es.toList/\(d == sysModules)=false/\(cE u).length<=sizeLine:=by
 cases u with
 | dK ys =>
  obtain ⟨z,y,vs,kv,o',es,ep,h1,h2,h3,h4,h5,h6⟩:=ok
  rw [ho] at h1; cases h1
  refine ⟨h2,es,ep,h3,?_,y,by simpa [cE] using z⟩
  show Paired _ (ys.map _) _
  clear h3 h4 h6 z
  generalize es.toList=l at h5 |-
  unfold KV at kv
  induction kv generalizing l with
  | nil=>cases h5; exact .nil
  | @cons a b as bs q t ih =>
   cases h5 with
   | cons r t' t''=>exact .cons ⟨by show L2.RelV (kV a.1) _; rw [q.1]; exact wB r,by rw [t']; exact q.2⟩ (ih hd _ t'')
 | dT ys =>
  obtain ⟨z,y,xs,kv,o',es,ep,h1,h2,h3,h4,h5⟩:=ok
  rw [ho] at h1; cases h1
  refine ⟨h2,es,ep,h3,?_,y,by simpa [cE] using z⟩
  rw [h4]
  show Paired _ (ys.map _) _
  clear h3 h4 h5 z
  induction kv with
  | nil=>exact .nil
  | @cons a b as bs q t ih =>
   rw [O4,O4]
   refine .cons ⟨?_,q.2.2⟩ (ih hd)
   show Po b.2.1=Po a.2.1
   rw [q.2.1]
 | _=>exact hd.elim
theorem dH:∀ {l:List α} {m:List β} {i:Nat} {a:α},Paired F l m->l[i]?=some a->∃ b,m[i]?=some b/\F a b
 | _,_,_,_,.nil,e=>by simp at e
 | _,_,0,_,.cons r _,e=>by simp at e; subst e; exact ⟨_,rfl,r⟩
 | _,_,i+1,a,.cons _ t,e=>by
  obtain ⟨b,h1,h2⟩:=dH (i:=i) t (by simpa using e)
  exact ⟨b,by simpa using h1,h2⟩
noncomputable def MK (d:Addr) (o:Obj) (u:HO):It :=
 ⟨λi H=>H d=some (.frz o u)/\i<(cE u).length,λi H x H'=>∃ p kv,(cE u)[i]?=some kv/\x=.ref p/\H p=none/\H'=upd H p (.tup [kv.1,kv.2]),λi H=>H d=some (.frz o u)/\(cE u).length<=i⟩
theorem yt:entryFor table "dict_itemiterator.__iter__"=some Builtin.«dict_keyiterator.__iter__» :=entryFor_alias (id':="dict_keyiterator.__iter__") (by kernel_rfl) rfl (by decide +kernel) (by kernel_rfl)
theorem kY {P:Program} {w:World} {K:OR} {tg:Expr} {d it:Addr} {o:Obj} {u:HO} {es:Array DictEntry} {ep:Nat} (hd:HO.dct u) (hod:o.data=.dict es ep) (hne:it≠d) (hes:es.size=(cE u).length) :
 Turn P w K tg (MK d o u) [it] it (λi h=>Bj h it d i es.size ep) where
 mem:=by simp
 obj:=λi h st b hb=>by
  have e:b=it:=by simpa using hb
  subst e
  obtain ⟨x,f,k,v,e,_⟩:=st
  exact ⟨_,e,λv z=>by
   have z':Tq _=RQ v:=z
   cases z'⟩
 keep:=λi h h' st k=>by
  obtain ⟨x,f,kk,v,e,hx⟩:=st
  exact ⟨x,f,kk,v,k it (by simp) _ e,hx⟩
 item:=by
  intro X hP hw hK hc i aa s σ H E I hf st hg
  subst hP hw hK
  obtain ⟨hH,hi⟩:=hg
  obtain ⟨f0,f1,f2,f3,f4,f5⟩:=hf it (by simp)
  obtain ⟨ho,ok⟩:=(show bx X.prog X.w H s.heap d (.frz o u) from I.hok d _ hH)
  obtain ⟨_,es',ep',e1,e2,_⟩:=cY ok hd ho
  rw [hod] at e1; cases e1
  obtain ⟨e,he,re⟩:=dH e2 (Pk hi)
  have he':es[i]?=some e:=by simpa using he
  refine next_item st ho hod he' λh1 g1 t1 z1 k1=>?_
  have hil:it<s.heap.objs.size:=by
   obtain ⟨_,_,_,_,q,_⟩:=st
   exact OZ q
  have Hp:H s.heap.objs.size=none:=I.hok.fresh (OT _)
  have hit0:it≠s.heap.objs.size:=Px hil
  generalize hkv:(cE u)[i]=kv at re
  have IA:Inv X aa σ (upd H s.heap.objs.size (.tup [kv.1,kv.2])) { s with heap:=s.heap.push { cls:=.type "tuple",data:=.seq #[e.key,e.val] },toks:=s.toks } :=
   I.laid (a:=s.heap.objs.size) (o:=.tup [kv.1,kv.2]) (λ_ _ q=>OX _ q) (OT _) ⟨by show 2<=sizeLine; decide,[e.key,e.val],.cons re.1 (.cons re.2 .nil),_,O7 _ rfl,rfl,0,rfl⟩
  have g0:upd H s.heap.objs.size (.tup [kv.1,kv.2]) it=none:=by rw [ai hit0]; exact f0
  have I1:Inv X aa σ (upd H s.heap.objs.size (.tup [kv.1,kv.2])) { s with heap:=h1,toks:=s.toks }:=IA.turned (λb o hb q=>by
   by_cases z:b=s.heap.objs.size
   ·subst z
    rw [O7 _ rfl] at q; cases q; exact t1
   ·have lt:b<s.heap.objs.size:=by
     have:=OZ q
     rw [QZ] at this
     exact Nat.lt_of_le_of_ne (Nat.le_of_lt_succ this) z
    refine k1 b o hb ?_
    rw [Vr _ _ _ z] at q; exact q) g0 f1 f3 f4 f5
  refine ⟨_,rfl,Et (s:={ s with heap:=h1 }) g1 λh2 g2 s2=>?_⟩
  refine ⟨.ref s.heap.objs.size,_,I1.turned (t':=s.toks) (λb o hb q=>(s2.2 b hb).trans q) g0 f1 f3 f4 f5,rfl,⟨_,kv,by rw [Pk hi,hkv],rfl,Hp,rfl⟩,g2,λb hb=>?_⟩
  have e:b=it:=by simpa using hb
  rw [e]; exact g0
 done:=by
  intro X hP hw hK hc i aa s σ H E I hf st hg
  subst hP hw hK
  obtain ⟨hH,hi⟩:=hg
  obtain ⟨f0,f1,f2,f3,f4,f5⟩:=hf it (by simp)
  obtain ⟨ho,ok⟩:=(show bx X.prog X.w H s.heap d (.frz o u) from I.hok d _ hH)
  exact next_end (I.ok.hd hc) st ho hod (by lia) λh' eb=>⟨rfl,I.turned (t':=s.toks) (λb o hb e=>eb b o hb e) f0 f1 f3 f4 f5⟩
 self:=by
  intro A i s Q E st h
  have hT:=st.IQ
  refine wpAny_pyIter_slot hT VJ (QV VJ hT yt ?_ (F.args_dict_itemiterator_iter_1 _))
  show wpAny _ _ (ret (.ref it)) _ _ s
  exact OS ⟨_,rfl,"dict_itemiterator",_,hT,RT.lookup,h⟩
theorem jP (d) (hd:(d == sysModules)=false) :
 MeetsIn prog w (Builtin.«dict.items» ⟨[.ref d],[]⟩) (λ_ R s=>s.TypeIs (.ref d) "dict"/\R (.ok (.ret (.ref s.heap.objs.size))) { s with heap:=s.heap.push { cls:=.type "dict_items",data:=.fields #[.ref d] } }) :=
 .of_wp λA R s ⟨hT,h⟩=>by
  unfold Builtin.«dict.items»
  refine OQ ?_
  unfold Builtin.Dict.noArgs
  refine OQ (wpAny_notOrdered_dict hT (show wpAny _ _ (pure d) _ _ s from OS ?_))
  show wpAny _ _ (Builtin.Dict.showsAll d >>= _) _ _ s
  unfold Builtin.Dict.showsAll
  rw [if_neg (by rw [hd]; exact O5)]
  exact OQ (OS (OQ (Qu (OS ⟨_,rfl,h⟩))))
theorem nP (hv:s.heap.IsItemsView v d) (hod:s.heap.get? d=some od) (hdd:od.data=.dict es ep)
 (hQ:Q (.ref s.heap.objs.size) { s with heap:=s.heap.push { cls:=.type "dict_itemiterator",data:=.fields #[.none,.bool false,.ref d,.int 0 0,.int es.size 0,.int ep 0,.none,.none] } }) :
 wpAny (model prog w) A (pyIter (.ref v)) Q E s:=by
 obtain ⟨ov,hov,hcv,hdv⟩:=id hv
 refine wpAny_pyIter_slot hv.typeIs F.slot_dict_items_iter (QV F.slot_dict_items_iter hv.typeIs F.entry_dict_items_iter ?_ (F.args_dict_items_iter_1 _))
 unfold Builtin.«dict_items.__iter__»
 refine OQ (OS (OQ ?_))
 unfold Builtin.Dict_items.dictOf
 refine OQ (P7 hov hdv (x:=.ref d) rfl (OS (OQ ?_)))
 unfold Builtin.Dict_items.newIterator
 refine OQ (Vg hod hdd (OQ (wpAny_dictEpoch hod hdd ?_)))
 simp only [pJ,if_true]
 refine Qu (OS ⟨_,rfl,"dict_itemiterator",_,⟨_,O7 _ rfl,rfl⟩,RT.lookup,?_⟩)
  (by simp only [sizeOk,VD,Pg,Pr,Pu,QK,Ri]; lia)
 simpa [rawInt,VD] using hQ
noncomputable def rm:Key->D | .inl i=>.int i | .inr x=>.str x
noncomputable def D.pairs:D->Option (List D)
 | .fdK ks ds=>some (Te (λk d=>D.tup [rm k,d]) ks ds)
 | .fdT ks ds=>some (Te (λk d=>D.tup [.tup (k.map rm),d]) ks ds)
 | _=>none
noncomputable def IS (te:TE):TI:=λσ H R=>te σ H λx H1=>∃ d o u,x=.ref d/\H1 d=some (.frz o u)/\HO.dct u/\∀ v,H1 v=none->R (MK d o u) (upd H1 v (.ext λh=>h.IsItemsView v d))
theorem Bl (he:PE X e te) (hbase:attributeBase e "items" X.env (eval e X.env)=eval e X.env) (hline:(ap.endLine == cp.line)=true):PI X tg (.Call (.Attribute e "items" ap) [] [] cp) (IS te):=by
 intro aa s σ H R I h
 refine Vh (T:="dict") (id:="dict.items") hbase rfl hline F.plainAttrs_dict T9 F.type_dict_items (bJ (he aa s σ H _ I h) λv s1 hh=>z2 hh λx H1 hh=>w3 hh λI1 r1 hh=>z3 hh λd o u hh=>w4 hh λex hH hd q=>?_)
 subst ex
 cases r1
 obtain ⟨ho,ok⟩:=(show bx X.prog X.w H1 s1.heap d (.frz o u) from I1.hok d _ hH)
 obtain ⟨hx,es,ep,hod,hp,hs,hz⟩:=cY ok hd ho
 have hT:s1.TypeIs (.ref d) "dict":=⟨o,ho,hx.1⟩
 refine ⟨hT,λb z=>by cases z; exact ⟨o,ho,hx.2.1⟩,?_⟩
 show wpAny _ _ (callWith cp (.builtin "dict.items") [.ref d] [] []) _ _ s1
 refine method_meetsIn T9 F.entry_dict_items rfl (U1 ⟨rfl,hT,F.args_dict_items_1 _,_,jP d hs,hT,?_⟩)
 have Hv:H1 s1.heap.objs.size=none:=I1.hok.fresh (OT _)
 have hve:(s1.heap.push { cls:=.type "dict_items",data:=.fields #[.ref d] }).IsItemsView s1.heap.objs.size d:=⟨_,O7 _ rfl,rfl,rfl⟩
 have I2:Inv X aa σ (upd H1 s1.heap.objs.size (.ext λh=>h.IsItemsView s1.heap.objs.size d)) { s1 with heap:=s1.heap.push { cls:=.type "dict_items",data:=.fields #[.ref d] },toks:=s1.toks } :=
  I1.laid (a:=s1.heap.objs.size) (λ_ _ q=>OX _ q) (OT _) ⟨hve,⟨_,O7 _ rfl⟩,λh1 h2 ⟨o,e,r⟩ k=>⟨o,k o e,r⟩⟩
 refine nP hve (OX _ ho) hod ?_
 have hsz:es.size=(cE u).length:=by rw [Qf hp]; simp
 have I3:=I2.kept (t':=s1.toks) (h':=(s1.heap.push { cls:=.type "dict_items",data:=.fields #[.ref d] }).push { cls:=.type "dict_itemiterator",data:=.fields #[.none,.bool false,.ref d,.int 0 0,.int es.size 0,.int ep 0,.none,.none] }) λb o e=>OX _ e
 refine ⟨_,[_],_,_,_,rfl,I3,kY (o:=o) (u:=u) (es:=es) (ep:=ep) hd hod (λz=>?_) hsz,⟨.none,false,.none,.none,O7 _ rfl,.inl rfl⟩,λb hb=>?_,q _ Hv⟩
 ·have lt:=OZ (OX ({ cls:=.type "dict_items",data:=.fields #[.ref d] }:Obj) ho)
  rw [z] at lt
  exact absurd lt (QB _)
 ·have e:b=(s1.heap.push { cls:=.type "dict_items",data:=.fields #[.ref d] }).objs.size:=by simpa using hb
  subst e
  exact I2.jh (OT _) (I2.hok.fresh (OT _))
section
variable {K:OR} {Hf:Hp}
theorem rA:Rep K Hf (rm k) (kV k):=by
 cases k with
 | inl i=>exact au.mpr rfl
 | inr x=>exact dR.mpr rfl
theorem nQ:∀ {ks:List Key},aq K Hf (ks.map rm) (ks.map kV)
 | []=>aF.mpr rfl
 | k::ks=>.cons rA nQ
def kZ (K:OR) (Hf:Hp) (d:D) (kv:V×V):Prop:=∃ k e,d=.tup [k,e]/\Rep K Hf k kv.1/\Rep K Hf e kv.2
theorem wC:∀ {ys:List (Key×V)} {vs:List D},aq K Hf vs (ys.map (·.2))->Paired (kZ K Hf) (Te (λk d=>D.tup [rm k,d]) (ys.map (·.1)) vs) (ys.map λy=>(kV y.1,y.2))
 | [],vs,h=>by
  cases vs with
  | nil=>exact .nil
  | cons d ds=>obtain ⟨x,r,e,_⟩:=aG.mp h; cases e
 | y::ys,vs,h=>by
  cases vs with
  | nil=>rw [aF] at h; cases h
  | cons d ds =>
   obtain ⟨x,r,e,h1,h2⟩:=aG.mp h
   cases e
   exact .cons ⟨_,_,rfl,rA,h1⟩ (wC h2)
theorem wD:∀ {ys:List (List Key×Addr×V)} {vs:List D},(∀ y∈ys,cU K Hf y.2.1 (y.1.map kV))->aq K Hf vs (ys.map (·.2.2))->Paired (kZ K Hf) (Te (λk d=>D.tup [.tup (k.map rm),d]) (ys.map (·.1)) vs) (ys.map λy=>(.ref y.2.1,y.2.2))
 | [],vs,_,h=>by
  cases vs with
  | nil=>exact .nil
  | cons d ds=>obtain ⟨x,r,e,_⟩:=aG.mp h; cases e
 | y::ys,vs,hk,h=>by
  cases vs with
  | nil=>rw [aF] at h; cases h
  | cons d ds =>
   obtain ⟨x,r,e,h1,h2⟩:=aG.mp h
   cases e
   exact .cons ⟨_,_,rfl,aO.mpr ⟨_,_,rfl,hk y OY,nQ⟩,h1⟩ (wD (λz hz=>hk z (O1 _ hz)) h2)
theorem nR (hp:d.pairs=some ds) (h:Rep K Hf d v):∃ a o u,v=.ref a/\Hf a=some (.frz o u)/\HO.dct u/\Paired (kZ K Hf) ds (cE u):=by
 cases d with
 | fdK ks vs =>
  cases hp
  obtain ⟨a,ys,o,rfl,h1,h2,h3⟩:=fC.mp h
  subst h2
  exact ⟨a,o,_,rfl,h1,trivial,wC h3⟩
 | fdT ks vs =>
  cases hp
  obtain ⟨a,ys,o,rfl,h1,h2,h3,h4⟩:=jZ.mp h
  subst h2
  exact ⟨a,o,_,rfl,h1,trivial,wD h3 h4⟩
 | _=>cases hp
theorem k9 {ds:List D} {a:Addr} {o:Obj} {u:HO} (h:Hf a=some (.frz o u)) (hp:Paired (kZ K Hf) ds (cE u)):jj K (MK a o u) ds Hf where
 go:=λi d H aV s1 s2 e=>by
  obtain ⟨kv,ekv,k,dd,rfl,r1,r2⟩:=dH hp e
  refine ⟨⟨s2 _ _ (s1 _ _ h),(O6.mp ekv).1⟩,λx H' ⟨p,kv',e1,e2,e3,e4⟩=>?_⟩
  rw [ekv] at e1; cases e1
  subst e2 e4
  have g:=bw.new s2 e3 (o:=.tup [kv.1,kv.2])
  exact ⟨upd aV p (.tup [kv.1,kv.2]),g,aO.mpr ⟨p,_,rfl,.inl (.inl af),.cons (Rep.mono (s1.trans g.f) _ r1) (.cons (Rep.mono (s1.trans g.f) _ r2) (aF.mpr rfl))⟩⟩
 stop:=λi H aV s1 s2 e=>⟨s2 _ _ (s1 _ _ h),by rw [<- Qf hp]; exact e⟩
end
section
variable {K:OR}
theorem Eu (h:aJ c e ρ λd=>∃ ds,d.pairs=some ds/\R ds)
 (hb:∀ env,attributeBase e "items" env (eval e env)=eval e env:=by intro _; walk_at "u") (hl:(ap.endLine == cp.line)=true:=by walk_at "u") :
 AM c tg (.Call (.Attribute e "items" ap) [] [] cp) ρ R:=λσ H Hf Q S q aa s I =>
 Bl (cG (X:=c.X)) (hb _) hl aa s σ H Q I (h σ H Hf _ S λd v H1 aV ⟨ds,hp,hR⟩ rv g=>by
  obtain ⟨a,o,u,e1,e2,e3,e4⟩:=nR hp rv
  refine ⟨a,o,u,e1,g.b _ _ e2,e3,λvw hv=>?_⟩
  exact q ds _ _ aV hR (g.trans (bw.fU g.b hv)) (k9 e2 e4))
theorem IT {x:D} {Q:List D->Prop} (e:x.pairs=some ds) (h:Q ds):∃ ys,x.pairs=some ys/\Q ys:=⟨ds,e,h⟩
end
end EV
namespace SR
open PySem PyProof.Rows
noncomputable def cI:Bool->Keyed->Array Keyed->Nat->Nat->Nat->StateT SortSt Sem (Option Nat):=sortPriv% PySem.Builtin.gallop
noncomputable def cF:Nat->StateT SortSt Sem Unit:=sortPriv% PySem.Builtin.setMinGallop
noncomputable def dw (left:Bool) (key:Keyed) (arr:Array Keyed) (base i:Nat):StateT SortSt Sem (Option Bool):=do
 let x <- elem' arr (base+i)
 if left then lt' x key else return (<- lt' key x).map (!·)
noncomputable abbrev rB:=Option (Option Nat)×Nat×Nat
noncomputable def lg (bey:Nat->StateT SortSt Sem (Option Bool)) (n lo hi:Nat):StateT SortSt Sem (Option Nat):=do
 let __s <- forIn [0:n] ((none,lo,hi):rB) λ_ __s =>
  if __s.snd.fst>=__s.snd.snd then pure (Qw (none,__s.snd.fst,__s.snd.snd))
  else do
   let __x <- bey (__s.snd.fst+(__s.snd.snd - __s.snd.fst) / 2)
   match __x with
   | some more=>if more=true then pure (PU (none,__s.snd.fst+(__s.snd.snd - __s.snd.fst) / 2+1,__s.snd.snd)) else pure (PU (none,__s.snd.fst,__s.snd.fst+(__s.snd.snd - __s.snd.fst) / 2))
   | _=>pure (Qw (some none,__s.snd.fst,__s.snd.snd))
 match __s.fst with
 | some r=>pure r
 | none=>pure (some __s.snd.snd)
noncomputable def Bm (bey:Nat->StateT SortSt Sem (Option Bool)) (n hint maxofs:Nat):StateT SortSt Sem rB :=
 forIn [0:n] ((none,0,1):rB) λ_ __s =>
  if __s.snd.snd>=maxofs then pure (Qw (none,__s.snd.fst,__s.snd.snd))
  else do
   let __x <- bey (hint+__s.snd.snd)
   match __x with
   | some more=>if (!more)=true then pure (Qw (none,__s.snd.fst,__s.snd.snd)) else pure (PU (none,__s.snd.snd,2 * __s.snd.snd+1))
   | _=>pure (Qw (some none,__s.snd.fst,__s.snd.snd))
noncomputable def Bo (bey:Nat->StateT SortSt Sem (Option Bool)) (n hint maxofs:Nat):StateT SortSt Sem rB :=
 forIn [0:n] ((none,0,1):rB) λ_ __s =>
  if __s.snd.snd>=maxofs then pure (Qw (none,__s.snd.fst,__s.snd.snd))
  else do
   let __x <- bey (hint - __s.snd.snd)
   match __x with
   | some found=>if found=true then pure (Qw (none,__s.snd.fst,__s.snd.snd)) else pure (PU (none,__s.snd.snd,2 * __s.snd.snd+1))
   | _=>pure (Qw (some none,__s.snd.fst,__s.snd.snd))
local macro_rules | `(tactic| walk_at "dl gallop")=>do
 let i:=RJ (Ry `PySem.Builtin.List.W1All `PySem.Builtin.gallop)
 `(tactic| delta $i)
theorem uA (left) (key) (arr) (base n hint):cI left key arr base n hint=(do
 let __x <- dw left key arr base hint
 match __x with
 | some right =>
  if right=true then do
   let __s <- Bm (dw left key arr base) n hint (n - hint)
   match __s.fst with
   | some r=>pure r
   | none=>lg (dw left key arr base) n (hint+__s.snd.fst+1) (hint+min __s.snd.snd (n - hint))
  else do
   let __s <- Bo (dw left key arr base) n hint (hint+1)
   match __s.fst with
   | some r=>pure r
   | none=>lg (dw left key arr base) n (hint+1 - min __s.snd.snd (hint+1)) (hint - __s.snd.fst)
 | _=>pure none):=by
 unfold cI
 walk_at "dl gallop"
 unfold Bm Bo lg dw
 dsimp only
 congr 1
 funext x
 cases x with
 | none=>rfl
 | some right =>
  dsimp only
  cases right with
  | true =>
   rw [if_pos rfl,if_pos rfl]
   congr 1
   funext c
   obtain ⟨r,l,o⟩:=c
   cases r with
   | some r=>rfl
   | none =>
    dsimp only
    congr 1
    funext c
    obtain ⟨r,l,o⟩:=c
    cases r <;> rfl
  | false =>
   rw [if_neg O5,if_neg O5]
   congr 1
   funext c
   obtain ⟨r,l,o⟩:=c
   cases r with
   | some r=>rfl
   | none =>
    dsimp only
    congr 1
    funext c
    obtain ⟨r,l,o⟩:=c
    cases r <;> rfl
def iO (prog:Program) (w:World) (A:Around) (s:Shared) (κ:SortKind) (rk:Keyed->Int) (L:List Keyed):Prop :=
 ∀ x∈L,∀ y∈L,∀ (E:Value->Shared->Prop) (Q:Bool->Shared->Prop),Q (decide (rk x<rk y)) s->wpAny (model prog w) A (keyLt' κ x.1 y.1) Q E s
noncomputable def R (rk:Keyed->Int) (xs:Array Keyed) (i:Nat):Int:=match xs[i]? with | some p=>rk p | none=>0
theorem dz (h:xs[i]?=some p):R rk xs i=rk p:=by unfold R; rw [h]
theorem cu (h:xs[i]?=ys[j]?):R rk xs i=R rk ys j:=by unfold R; rw [h]
theorem lu {st:SortSt} (hC:iO prog w A s κ rk L) (hk:kindOf st=κ) (hx:x∈L) (hy:y∈L) (h:Q (some (decide (rk x<rk y))) st):wpS (model prog w) A E s (lt' x y) Q st:=by
 rw [lt'_eq]
 refine OU (Qz ?_)
 rw [hk]
 refine OU (Rv (S0 (hC x hx y hy _ _ ⟨rfl,?_⟩)))
 exact OV h
theorem aW {st:SortSt} (hi:arr[i]?=some p) (h:Q p st):wpS (model prog w) A E s (elem' arr i) Q st:=by
 rw [elem'_eq,hi]; exact OV h
theorem yu {st:SortSt} (hC:iO prog w A s κ rk L) (hk:kindOf st=κ) (hi:(arrOf st)[i]?=some p) (hj:(arrOf st)[j]?=some q) (hp:p∈L) (hq:q∈L)
 (h:Q (some (decide (R rk (arrOf st) i<R rk (arrOf st) j))) st):wpS (model prog w) A E s (ltAt' i j) Q st:=by
 rw [ltAt'_eq]
 refine OU (Qz ?_)
 show wpS _ _ _ _ (do let x <- elem' (arrOf st) i; let y <- elem' (arrOf st) j; lt' x y) Q st
 refine OU (aW hi (OU (aW hj (lu hC hk hp hq ?_))))
 rw [dz hi,dz hj] at h
 exact h
theorem uB {st:SortSt} (hC:iO prog w A s κ rk L) (hk:kindOf st=κ) (hkey:key∈L) (hi:arr[base+i]?=some p) (hp:p∈L)
 (hb:(if left=true then rk p<rk key else rk p<=rk key)↔i<k) (h:Q (some (decide (i<k))) st):wpS (model prog w) A E s (dw left key arr base i) Q st:=by
 unfold dw
 refine OU (aW hi ?_)
 cases left with
 | true =>
  simp only [if_true] at hb |-
  refine lu hC hk hp hkey ?_
  rw [decide_eq_decide.mpr hb]; exact h
 | false =>
  simp only [P5,if_false] at hb |-
  refine OU (lu hC hk hkey hp (OV ?_))
  have e:(!decide (rk key<rk p))=decide (i<k):=by
   rw [<- decide_not]; exact decide_eq_decide.mpr (by rw [<- hb]; omega)
  rw [Option.map_some,e]; exact h
theorem ly {st:SortSt} {n lo hi k:Nat} (hb:∀ i,i<n->∀ (Q:Option Bool->SortSt->Prop),Q (some (decide (i<k))) st->wpS (model prog w) A E s (bey i) Q st)
 (h1:lo<=k) (h2:k<=hi) (h3:hi<=n) (h:Q (some k) st):wpS (model prog w) A E s (lg bey n lo hi) Q st:=by
 unfold lg
 refine OU (PD (Qc (I:=λx c st'=>st'=st/\∃ l r,c=(none,l,r)/\l<=k/\k<=r/\r<=n/\r - l<=n - x) (Q:=λc st'=>st'=st/\∃ l,c=(none,l,k)) ?step ?fin ⟨rfl,lo,hi,rfl,h1,h2,h3,by omega⟩) ?post)
 case fin =>
  rintro c st' ⟨rfl,l,r,rfl,a1,a2,a3,a4⟩
  have:r=k:=by omega
  subst this
  exact ⟨rfl,l,rfl⟩
 case step =>
  rintro x c st' _ hx ⟨rfl,l,r,rfl,a1,a2,a3,a4⟩
  dsimp only
  by_cases hge:l>=r
  ·rw [if_pos hge]
   have:r=k:=by omega
   subst this
   exact OV ⟨rfl,l,rfl⟩
  ·rw [if_neg hge]
   refine OU (hb _ (by omega) _ ?_)
   dsimp only
   by_cases hm:l+(r - l) / 2<k
   ·rw [decide_eq_true hm,if_pos rfl]
    exact OV ⟨rfl,_,_,rfl,by omega,by omega,by omega,by omega⟩
   ·rw [decide_eq_false hm,if_neg O5]
    exact OV ⟨rfl,_,_,rfl,by omega,by omega,by omega,by omega⟩
 case post =>
  rintro c st' ⟨rfl,l,rfl⟩
  exact OV h
theorem fH {st:SortSt} (hC:iO prog w A s κ rk L) (hk:kindOf st=κ) (hkey:key∈L) (harr:∀ i,i<n->∃ p,arr[base+i]?=some p/\p∈L)
 (hb:∀ i,i<n->((if left=true then R rk arr (base+i)<rk key else R rk arr (base+i)<=rk key)↔i<k)) (hkn:k<=n) (hh:hint<n) (h:Q (some k) st):wpS (model prog w) A E s (cI left key arr base n hint) Q st:=by
 have bey:∀ i,i<n->∀ (Q:Option Bool->SortSt->Prop),Q (some (decide (i<k))) st->wpS (model prog w) A E s (dw left key arr base i) Q st:=λi hi Q hQ=>by
  obtain ⟨p,e,hp⟩:=harr i hi
  refine uB hC hk hkey e hp ?_ hQ
  have:=hb i hi
  rw [dz e] at this
  exact this
 rw [uA]
 refine OU (bey hint hh _ ?_)
 dsimp only
 by_cases hr:hint<k
 ·rw [decide_eq_true hr,if_pos rfl]
  unfold Bm
  refine OU (PD (Qc (I:=λx c st'=>st'=st/\∃ l o,c=(none,l,o)/\hint+l<k/\x<o) (Q:=λc st'=>st'=st/\∃ l o,c=(none,l,o)/\hint+l<k/\(k<=hint+o\/n - hint<=o)) ?step ?fin ⟨rfl,0,1,rfl,hr,by omega⟩) ?post)
  case fin =>
   rintro c st' ⟨rfl,l,o,rfl,a1,a2⟩
   exact ⟨rfl,l,o,rfl,a1,.inr (by omega)⟩
  case step =>
   rintro x c st' _ hx ⟨rfl,l,o,rfl,a1,a2⟩
   dsimp only
   by_cases hge:o>=n - hint
   ·rw [if_pos hge]; exact OV ⟨rfl,l,o,rfl,a1,.inr hge⟩
   ·rw [if_neg hge]
    refine OU (bey _ (by omega) _ ?_)
    dsimp only
    by_cases hm:hint+o<k
    ·rw [decide_eq_true hm]; simp only [Rp,P5,if_false]
     exact OV ⟨rfl,o,2 * o+1,rfl,hm,by omega⟩
    ·rw [decide_eq_false hm]; simp only [Bool.not_false,if_true]
     exact OV ⟨rfl,l,o,rfl,a1,.inl (by omega)⟩
  case post =>
   rintro c st' ⟨rfl,l,o,rfl,a1,a2⟩
   dsimp only
   exact ly bey (by omega) (by omega) (by omega) h
 ·rw [decide_eq_false hr,if_neg O5]
  unfold Bo
  refine OU (PD (Qc (I:=λx c st'=>st'=st/\∃ l o,c=(none,l,o)/\l<=hint/\k<=hint - l/\x<o) (Q:=λc st'=>st'=st/\∃ l o,c=(none,l,o)/\l<=hint/\k<=hint - l/\(hint+1<=k+o\/hint+1<=o)) ?step ?fin ⟨rfl,0,1,rfl,by omega,by omega,by omega⟩) ?post)
  case fin =>
   rintro c st' ⟨rfl,l,o,rfl,a1,a2,a3⟩
   exact ⟨rfl,l,o,rfl,a1,a2,.inr (by omega)⟩
  case step =>
   rintro x c st' _ hx ⟨rfl,l,o,rfl,a1,a2,a3⟩
   dsimp only
   by_cases hge:o>=hint+1
   ·rw [if_pos hge]; exact OV ⟨rfl,l,o,rfl,a1,a2,.inr hge⟩
   ·rw [if_neg hge]
    refine OU (bey _ (by omega) _ ?_)
    dsimp only
    by_cases hm:hint - o<k
    ·rw [decide_eq_true hm,if_pos rfl]
     exact OV ⟨rfl,l,o,rfl,a1,a2,.inl (by omega)⟩
    ·rw [decide_eq_false hm,if_neg O5]
     exact OV ⟨rfl,o,2 * o+1,rfl,by omega,by omega,by omega⟩
  case post =>
   rintro c st' ⟨rfl,l,o,rfl,a1,a2,a3⟩
   dsimp only
   exact ly bey (by omega) (by omega) (by omega) h
noncomputable def lz:Array Keyed->Array Keyed->StateT SortSt Sem (Array Keyed):=sortPriv% PySem.Builtin.mergeLo
theorem fJ {st:SortSt} (h:Q () (Tr (kindOf st) (arrOf st) (pendingOf st) g (failedOf st))):wpS M A E s (cF g) Q st :=
 QN (f:=λst=>Tr (kindOf st) (arrOf st) (pendingOf st) g (failedOf st)) h
section
variable {rk:Keyed->Int} {a b:Array Keyed}
def Bp (rk:Keyed->Int) (xs:List Keyed):Prop:=xs.Pairwise λp q=>rk p<=rk q
theorem wF (h:xs.length<=1):Bp rk xs:=by
 cases xs with
 | nil=>exact SN
 | cons x xs =>
  cases xs with
  | nil=>exact R0 _ _
  | cons y ys=>simp at h
def Res (rk:Keyed->Int) (a b r:Array Keyed):Prop:=r.toList.Perm (a.toList++b.toList)/\Bp rk r.toList
structure WL (rk:Keyed->Int) (a b:Array Keyed) (out:Array Keyed) (ia ib:Nat):Prop where
 pa:ia<=a.size
 pb:ib<=b.size
 pm:out.toList.Perm (a.toList.take ia++b.toList.take ib)
 sr:Bp rk out.toList
 ha:∀ p∈out.toList,∀ (j:Nat) (q:Keyed),ia<=j->a[j]?=some q->rk p<=rk q
 hb:∀ p∈out.toList,∀ (j:Nat) (q:Keyed),ib<=j->b[j]?=some q->rk p<=rk q
def Up (rk:Keyed->Int) (a:Array Keyed):Prop:=∀ (i j:Nat) (p q:Keyed),i<=j->a[i]?=some p->a[j]?=some q->rk p<=rk q
theorem jn (h:Up rk a):Bp rk a.toList:=by
 unfold Bp
 rw [UH]
 intro i j hi hj hij
 exact h i j _ _ (QC hij) (by simp at hi |-) (by simp at hj |-)
theorem IU (h:Bp rk a.toList):Up rk a:=λi j p q hij e1 e2=>by
 rw [<- PN] at e1 e2
 obtain ⟨h1,r1⟩:=O6.mp e1
 obtain ⟨h2,r2⟩:=O6.mp e2
 subst r1 r2
 rcases Nat.lt_or_eq_of_le hij with z | z
 ·exact (UH.mp h) i j h1 h2 z
 ·subst z; exact PV _
theorem bQ (h1:Bp rk xs) (h2:Bp rk ys) (h3:∀ p∈xs,∀ q∈ys,rk p<=rk q):Bp rk (xs++ys):=R4.mpr ⟨h1,h2,h3⟩
theorem dI (xs:Array Keyed) (i j):(xs.extract i j).toList=(xs.toList.take j).drop i:=by
 rw [List.drop_take]; simp [List.extract_eq_take_drop]
theorem gz (xs:Array Keyed) (i):(xs.extract i xs.size).toList=xs.toList.drop i:=by
 rw [dI,SA (by simp)]
theorem iP (xs:Array Keyed) (i):(xs.extract i i).toList=[]:=by
 rw [dI,List.drop_take]; simp
theorem wG {xs:Array Keyed} (h:q∈(xs.extract i j).toList):∃ k,i<=k/\k<j/\xs[k]?=some q:=by
 obtain ⟨n,hn⟩:=R5 h
 rw [PN,TV] at hn
 split at hn
 ·rename_i z
  exact ⟨i+n,by lia,by lia,hn⟩
 ·cases hn
theorem WL.jo (h:WL rk a b out ia ib) (ua:Up rk a) (e:ib=b.size):Res rk a b (out++a.extract ia a.size++b.extract ib b.size):=by
 subst e
 have e0:(out++a.extract ia a.size++b.extract b.size b.size).toList=out.toList++a.toList.drop ia:=by
  rw [Ql,Ql,gz,gz,List.drop_of_length_le (show b.toList.length<=b.size by simp),Qd]
 refine ⟨?_,?_⟩
 ·rw [e0]
  have hp:=h.pm
  rw [SA (show b.toList.length<=b.size by simp)] at hp
  refine (hp.append_right _).trans ?_
  have:(a.toList.take ia++b.toList++a.toList.drop ia).Perm (a.toList.take ia++a.toList.drop ia++b.toList):=by
   rw [Pp,Pp]
   exact R3 _ Rz
  rw [Q5] at this
  exact this
 ·rw [e0]
  refine bQ h.sr ((jn ua).sublist (T8 _ _)) λp hp q hq=>?_
  obtain ⟨n,hn⟩:=R5 hq
  rw [R9] at hn
  exact h.ha p hp (ia+n) q (by lia) (by rw [<- PN]; exact hn)
theorem WL.jq (h:WL rk a b out ia ib) (ub:Up rk b) (e:ia=a.size):Res rk a b (out++a.extract ia a.size++b.extract ib b.size):=by
 subst e
 have e0:(out++a.extract a.size a.size++b.extract ib b.size).toList=out.toList++b.toList.drop ib:=by
  rw [Ql,Ql,gz,gz,List.drop_of_length_le (show a.toList.length<=a.size by simp),Qd]
 refine ⟨?_,?_⟩
 ·rw [e0]
  have hp:=h.pm
  rw [SA (show a.toList.length<=a.size by simp)] at hp
  refine (hp.append_right _).trans ?_
  rw [Pp,Q5]
 ·rw [e0]
  refine bQ h.sr ((jn ub).sublist (T8 _ _)) λp hp q hq=>?_
  obtain ⟨n,hn⟩:=R5 hq
  rw [R9] at hn
  exact h.hb p hp (ib+n) q (by lia) (by rw [<- PN]; exact hn)
theorem WL.last (h:WL rk a b out ia ib) (ub:Up rk b) (e:ia+1=a.size) (hl:∀ (j:Nat) (p q:Keyed),a[ia]?=some p->b[j]?=some q->rk q<=rk p) :
 Res rk a b (out++b.extract ib b.size++a.extract ia a.size):=by
 have e0:(out++b.extract ib b.size++a.extract ia a.size).toList=out.toList++(b.toList.drop ib++a.toList.drop ia):=by
  rw [Ql,Ql,gz,gz,Pp]
 refine ⟨?_,?_⟩
 ·rw [e0]
  refine (h.pm.append_right _).trans ?_
  have:(a.toList.take ia++b.toList.take ib++(b.toList.drop ib++a.toList.drop ia)).Perm (a.toList.take ia++a.toList.drop ia++(b.toList.take ib++b.toList.drop ib)):=by
   rw [Pp,Pp]
   refine R3 _ ?_
   rw [<- Pp]
   exact Rz
  rw [Q5,Q5] at this
  exact this
 ·rw [e0]
  have ml:∀ q∈b.toList.drop ib,∃ j,ib<=j/\b[j]?=some q:=λq hq=>by
   obtain ⟨n,hn⟩:=R5 hq
   rw [R9] at hn
   exact ⟨ib+n,by lia,by rw [<- PN]; exact hn⟩
  have ml2:∀ q∈a.toList.drop ia,a[ia]?=some q:=λq hq=>by
   obtain ⟨n,hn⟩:=R5 hq
   rw [R9] at hn
   have:=(O6.mp hn).1
   have hn0:n=0:=by simp at this; lia
   subst hn0
   rw [<- PN]; exact hn
  refine bQ h.sr (bQ ((jn ub).sublist (T8 _ _)) ?_ λp hp q hq=>?_) λp hp q hq=>?_
  ·exact wF (by simp; lia)
  ·obtain ⟨j,_,e1⟩:=ml p hp
   exact hl j q p (ml2 q hq) e1
  ·rcases Pb.mp hq with z | z
   ·obtain ⟨j,h1,e1⟩:=ml q z
    exact h.hb p hp j q h1 e1
   ·exact h.ha p hp ia q (OT _) (ml2 q z)
theorem cJ {xs:Array Keyed} (h:xs[i]?=some p):xs.toList.take (i+1)=xs.toList.take i++[p]:=by
 rw [T5,PN,h]; rfl
theorem WL.gi {out:Array Keyed} {ia ib:Nat} {p:Keyed} (h:WL rk a b out ia ib) (ub:Up rk b) (e:b[ib]?=some p) (hl:∀ (j:Nat) (q:Keyed),ia<=j->a[j]?=some q->rk p<=rk q):WL rk a b (out.push p) ia (ib+1) where
 pa:=h.pa
 pb:=(RY.mp e).1
 pm:=by
  rw [PF,cJ e,<- Pp]
  exact h.pm.append_right _
 sr:=by
  rw [PF]
  exact bQ h.sr (R0 _ _) λq hq r hr=>by
   rw [Pa.mp hr]; exact h.hb q hq ib p (OT _) e
 ha:=λq hq j r hj er=>by
  rw [PF] at hq
  rcases Pb.mp hq with z | z
  ·exact h.ha q z j r hj er
  ·rw [Pa.mp z]; exact hl j r hj er
 hb:=λq hq j r hj er=>by
  rw [PF] at hq
  rcases Pb.mp hq with z | z
  ·exact h.hb q z j r (by lia) er
  ·rw [Pa.mp z]; exact ub ib j p r (by lia) e er
theorem WL.gj {out:Array Keyed} {ia ib:Nat} {p:Keyed} (h:WL rk a b out ia ib) (ua:Up rk a) (e:a[ia]?=some p) (hl:∀ (j:Nat) (q:Keyed),ib<=j->b[j]?=some q->rk p<=rk q):WL rk a b (out.push p) (ia+1) ib where
 pa:=(RY.mp e).1
 pb:=h.pb
 pm:=by
  rw [PF,cJ e]
  refine (h.pm.append_right _).trans ?_
  rw [Pp,Pp]
  exact R3 _ Rz
 sr:=by
  rw [PF]
  exact bQ h.sr (R0 _ _) λq hq r hr=>by
   rw [Pa.mp hr]; exact h.ha q hq ia p (OT _) e
 hb:=λq hq j r hj er=>by
  rw [PF] at hq
  rcases Pb.mp hq with z | z
  ·exact h.hb q z j r hj er
  ·rw [Pa.mp z]; exact hl j r hj er
 ha:=λq hq j r hj er=>by
  rw [PF] at hq
  rcases Pb.mp hq with z | z
  ·exact h.ha q z j r (by lia) er
  ·rw [Pa.mp z]; exact ua ia j p r (by lia) e er
theorem WL.rC (h:WL rk a b out ia ib) (ua:Up rk a):∀ (k:Nat),ia+k<=a.size->(∀ (i j:Nat) (p q:Keyed),ia<=i->i<ia+k->ib<=j->a[i]?=some p->b[j]?=some q->rk p<=rk q)->WL rk a b (out++a.extract ia (ia+k)) (ia+k) ib
 | 0,_,_=>by
  have:out++a.extract ia (ia+0)=out:=by
   apply Ru
   rw [Ql,Nat.add_zero,iP,Qd]
  rw [this]; exact h
 | k+1,hk,hl=>by
  have ih:=h.rC ua k (by lia) λi j p q h1 h2=>hl i j p q h1 (by lia)
  have e:a[ia+k]?=some (a[ia+k]'(by lia)):=Pj _
  have z:=ih.gj ua e λj q hj eq=>hl _ j _ q (by lia) (by lia) hj e eq
  have:out++a.extract ia (ia+(k+1))=(out++a.extract ia (ia+k)).push (a[ia+k]'(by lia)):=by
   apply Ru
   simp only [Ql,PF,dI]
   rw [show ia+(k+1)=(ia+k)+1 by lia,cJ e,VI (by simp; lia),Pp]
  rw [this]; exact z
theorem WL.rD (h:WL rk a b out ia ib) (ub:Up rk b):∀ (k:Nat),ib+k<=b.size->(∀ (i j:Nat) (p q:Keyed),ib<=i->i<ib+k->ia<=j->b[i]?=some p->a[j]?=some q->rk p<=rk q)->WL rk a b (out++b.extract ib (ib+k)) ia (ib+k)
 | 0,_,_=>by
  have:out++b.extract ib (ib+0)=out:=by
   apply Ru
   rw [Ql,Nat.add_zero,iP,Qd]
  rw [this]; exact h
 | k+1,hk,hl=>by
  have ih:=h.rD ub k (by lia) λi j p q h1 h2=>hl i j p q h1 (by lia)
  have e:b[ib+k]?=some (b[ib+k]'(by lia)):=Pj _
  have z:=ih.gi ub e λj q hj eq=>hl _ j _ q (by lia) (by lia) hj e eq
  have:out++b.extract ib (ib+(k+1))=(out++b.extract ib (ib+k)).push (b[ib+k]'(by lia)):=by
   apply Ru
   simp only [Ql,PF,dI]
   rw [show ib+(k+1)=(ib+k)+1 by lia,cJ e,VI (by simp; lia),Pp]
  rw [this]; exact z
end
section
variable {prog:Program} {w:World} {A:Around} {E:Value->Shared->Prop} {s:Shared} {L:List Keyed} {κ:SortKind} {rk:Keyed->Int} {a b:Array Keyed}
theorem lB (f:Nat->Int) (c):∀ n,(∀ i j,i<=j->j<n->f i<=f j)->∃ k,k<=n/\∀ i,i<n->(f i<=c↔i<k)
 | 0,_=>⟨0,OT _,λi hi=>by lia⟩
 | n+1,hm=>by
  obtain ⟨k,h1,h2⟩:=lB f c n λi j hij hj=>hm i j hij (by lia)
  by_cases hc:f n<=c
  ·refine ⟨n+1,OT _,λi hi=>⟨λ_=>hi,λ_=>?_⟩⟩
   exact PB (hm i n (by lia) (by lia)) hc
  ·refine ⟨k,by lia,λi hi=>?_⟩
   by_cases hin:i<n
   ·exact h2 i hin
   ·have:i=n:=by lia
    subst this
    exact ⟨λz=>absurd z hc,λz=>by lia⟩
theorem lC (f:Nat->Int) (c):∀ n,(∀ i j,i<=j->j<n->f i<=f j)->∃ k,k<=n/\∀ i,i<n->(f i<c↔i<k)
 | 0,_=>⟨0,OT _,λi hi=>by lia⟩
 | n+1,hm=>by
  obtain ⟨k,h1,h2⟩:=lC f c n λi j hij hj=>hm i j hij (by lia)
  by_cases hc:f n<c
  ·refine ⟨n+1,OT _,λi hi=>⟨λ_=>hi,λ_=>?_⟩⟩
   exact T3 (hm i n (by lia) (by lia)) hc
  ·refine ⟨k,by lia,λi hi=>?_⟩
   by_cases hin:i<n
   ·exact h2 i hin
   ·have:i=n:=by lia
    subst this
    exact ⟨λz=>absurd z hc,λz=>by lia⟩
theorem LJ (h:Up rk a) (hij:i<=j) (hj:j<a.size):R rk a i<=R rk a j:=by
 have e1:a[i]?=some (a[i]'(by lia)):=Pj _
 have e2:a[j]?=some a[j]:=Pj _
 rw [dz e1,dz e2]
 exact h i j _ _ hij e1 e2
structure cK (st st':SortSt):Prop where
 k:kindOf st'=kindOf st
 a:arrOf st'=arrOf st
 p:pendingOf st'=pendingOf st
 f:failedOf st'=failedOf st
theorem cK.refl (st:SortSt):cK st st:=⟨rfl,rfl,rfl,rfl⟩
theorem cK.min {st st':SortSt} (h:cK st st') (g):cK st (Tr (kindOf st') (arrOf st') (pendingOf st') g (failedOf st')):=⟨h.k,h.a,h.p,h.f⟩
theorem cK.trans (h:cK s1 s2) (g:cK s2 s3):cK s1 s3:=⟨g.k.trans h.k,g.a.trans h.a,g.p.trans h.p,g.f.trans h.f⟩
theorem rE {st:SortSt} (hC:iO prog w A s κ rk L) (hk:kindOf st=κ) (hkey:key∈L) (mx:∀ (i:Nat) (p:Keyed),xs[i]?=some p->p∈L) (ux:Up rk xs) (n) (hn:base+n<=xs.size) (hh:hint<n)
 (h:∀ k,k<=n->(∀ (i:Nat) (p:Keyed),i<k->xs[base+i]?=some p->rk p<=rk key)->(∀ (i:Nat) (p:Keyed),k<=i->base+i<base+n->xs[base+i]?=some p->rk key<rk p)->Q (some k) st) :
 wpS (model prog w) A E s (cI false key xs base n hint) Q st:=by
 obtain ⟨k,h1,h2⟩:=lB (λi=>R rk xs (base+i)) (rk key) n λi j hij hj=>LJ ux (by lia) (by lia)
 refine fH hC hk hkey (λi hi=>⟨xs[base+i]'(by lia),Pj _,mx _ _ (Pj _)⟩) (λi hi=>by simp only [P5,if_false]; exact h2 i hi) h1 hh (h k h1 (λi p hi e=>?_) λi p hi hb e=>?_)
 ·have:=(h2 i (by lia)).mpr hi
  rw [dz e] at this; exact this
 ·have:=mt (h2 i (by lia)).mp (by lia)
  rw [dz e] at this; lia
theorem rF {st:SortSt} (hC:iO prog w A s κ rk L) (hk:kindOf st=κ) (hkey:key∈L) (mx:∀ (i:Nat) (p:Keyed),xs[i]?=some p->p∈L) (ux:Up rk xs) (n) (hn:base+n<=xs.size) (hh:hint<n)
 (h:∀ k,k<=n->(∀ (i:Nat) (p:Keyed),i<k->xs[base+i]?=some p->rk p<rk key)->(∀ (i:Nat) (p:Keyed),k<=i->base+i<base+n->xs[base+i]?=some p->rk key<=rk p)->Q (some k) st) :
 wpS (model prog w) A E s (cI true key xs base n hint) Q st:=by
 obtain ⟨k,h1,h2⟩:=lC (λi=>R rk xs (base+i)) (rk key) n λi j hij hj=>LJ ux (by lia) (by lia)
 refine fH hC hk hkey (λi hi=>⟨xs[base+i]'(by lia),Pj _,mx _ _ (Pj _)⟩) (λi hi=>by simp only [if_true]; exact h2 i hi) h1 hh (h k h1 (λi p hi e=>?_) λi p hi hb e=>?_)
 ·have:=(h2 i (by lia)).mpr hi
  rw [dz e] at this; exact this
 ·have:=mt (h2 i (by lia)).mp (by lia)
  rw [dz e] at this; lia
structure mW (rk:Keyed->Int) (a b out:Array Keyed) (ia ib:Nat):Prop where
 w:WL rk a b out ia ib
 la:ia+1<a.size
 lb:ib<b.size
end
section
local macro_rules | `(tactic| walk_at "dl mergeLo")=>do
 let i:=RJ (Ry `PySem.Builtin.List.W1All `PySem.Builtin.mergeLo)
 `(tactic| delta $i)
noncomputable abbrev Bq:=Option (Array Keyed)×Array Keyed×Nat×Nat×Nat×Nat×Nat
noncomputable def GC (a b out:Array Keyed) (ia ib:Nat):Array Keyed:=out++a.extract ia a.size++b.extract ib b.size
noncomputable def Dp (a b out:Array Keyed) (ia ib:Nat):Array Keyed:=out++b.extract ib b.size++a.extract ia a.size
noncomputable def wH (a b:Array Keyed) (mg ac bc ia ib:Nat) (out:Array Keyed):StateT SortSt Sem (ForInStep Bq):=do
 let p <- elem' a ia
 if (ia+1+1 == a.size)=true then pure (.done (some (Dp a b (out.push p) (ia+1) ib),out.push p,ia+1,ib,mg,ac,bc))
 else if (decide (ac<7) && decide (bc<7))=true then pure (.done (none,out.push p,ia+1,ib,mg,ac,bc))
 else pure (.yield (none,out.push p,ia+1,ib,mg,ac,bc))
noncomputable def wI (a b:Array Keyed) (mg ac bc ia ib:Nat) (out:Array Keyed):StateT SortSt Sem (ForInStep Bq):=do
 let q <- elem' b ib
 if (ib+1 == b.size)=true then pure (.done (some (GC a b (out.push q) ia (ib+1)),out.push q,ia,ib+1,mg,ac,bc))
 else do
  let p <- elem' a ia
  let x <- cI true p b (ib+1) (b.size - (ib+1)) 0
  match x with
  | some k=>(if k>0 then
   (if (ib+1+k == b.size)=true then pure (.done (some (GC a b (out.push q++b.extract (ib+1) (ib+1+k)) ia (ib+1+k)),out.push q++b.extract (ib+1) (ib+1+k),ia,ib+1+k,mg,ac,k))
    else wH a b mg ac k ia (ib+1+k) (out.push q++b.extract (ib+1) (ib+1+k)))
   else wH a b mg ac k ia (ib+1) (out.push q))
  | _=>pure (.done (some (GC a b (out.push q) ia (ib+1)),out.push q,ia,ib+1,mg,ac,bc))
noncomputable def wJ (a b:Array Keyed) (mg ac bc ia ib:Nat) (out:Array Keyed):StateT SortSt Sem (ForInStep Bq):=do
 cF mg
 let q <- elem' b ib
 let x <- cI false q a ia (a.size - ia) 0
 match x with
 | some k=>(if k>0 then
  (if (ia+k+1 == a.size)=true then pure (.done (some (Dp a b (out++a.extract ia (ia+k)) (ia+k) ib),out++a.extract ia (ia+k),ia+k,ib,mg,k,bc))
   else if (ia+k == a.size)=true then pure (.done (some (GC a b (out++a.extract ia (ia+k)) (ia+k) ib),out++a.extract ia (ia+k),ia+k,ib,mg,k,bc))
   else wI a b mg k bc (ia+k) ib (out++a.extract ia (ia+k)))
  else wI a b mg k bc ia ib out)
 | _=>pure (.done (some (GC a b out ia ib),out,ia,ib,mg,ac,bc))
noncomputable def Bt (a b:Array Keyed) (c:Bq):StateT SortSt Sem (ForInStep Bq) :=
 if c.2.2.2.2.1>1 then wJ a b (c.2.2.2.2.1 - 1) c.2.2.2.2.2.1 c.2.2.2.2.2.2 c.2.2.1 c.2.2.2.1 c.2.1 else wJ a b c.2.2.2.2.1 c.2.2.2.2.2.1 c.2.2.2.2.2.2 c.2.2.1 c.2.2.2.1 c.2.1
noncomputable abbrev IV:=Option (Array Keyed)×Array Keyed×Nat×Nat×Nat×Nat
noncomputable def Bu (a b:Array Keyed) (mg:Nat) (c:IV):StateT SortSt Sem (ForInStep IV):=do
 let q <- elem' b c.2.2.2.1
 let p <- elem' a c.2.2.1
 let x <- lt' q p
 match x with
 | some y=>(if y=true then (do
  let q <- elem' b c.2.2.2.1
  if (c.2.2.2.1+1 == b.size)=true then pure (.done (some (GC a b (c.2.1.push q) c.2.2.1 (c.2.2.2.1+1)),c.2.1.push q,c.2.2.1,c.2.2.2.1+1,0,c.2.2.2.2.2+1))
  else if c.2.2.2.2.2+1>=mg then pure (.done (none,c.2.1.push q,c.2.2.1,c.2.2.2.1+1,0,c.2.2.2.2.2+1))
  else pure (.yield (none,c.2.1.push q,c.2.2.1,c.2.2.2.1+1,0,c.2.2.2.2.2+1)))
  else (do
   let p <- elem' a c.2.2.1
   if (c.2.2.1+1+1 == a.size)=true then pure (.done (some (Dp a b (c.2.1.push p) (c.2.2.1+1) c.2.2.2.1),c.2.1.push p,c.2.2.1+1,c.2.2.2.1,c.2.2.2.2.1+1,0))
   else if c.2.2.2.2.1+1>=mg then pure (.done (none,c.2.1.push p,c.2.2.1+1,c.2.2.2.1,c.2.2.2.2.1+1,0))
   else pure (.yield (none,c.2.1.push p,c.2.2.1+1,c.2.2.2.1,c.2.2.2.2.1+1,0))))
 | _=>pure (.done (some (GC a b c.2.1 c.2.2.1 c.2.2.2.1),c.2.1,c.2.2.1,c.2.2.2.1,c.2.2.2.2.1,c.2.2.2.2.2))
noncomputable abbrev Ew:=Option (Array Keyed)×Array Keyed×Nat×Nat×Nat
noncomputable def pK (a b:Array Keyed) (c:Ew):StateT SortSt Sem (ForInStep Ew):=do
 let s <- forIn [:a.size+b.size] ((none,c.2.1,c.2.2.1,c.2.2.2.1,0,0):IV) λ_ s=>Bu a b c.2.2.2.2 s
 match s.1 with
 | some r=>pure (.done (some r,s.2.1,s.2.2.1,s.2.2.2.1,c.2.2.2.2))
 | none=>do
  liftM (rule "list.sort.gallop")
  let t <- forIn [:a.size+b.size] ((none,s.2.1,s.2.2.1,s.2.2.2.1,c.2.2.2.2+1,s.2.2.2.2.1,s.2.2.2.2.2):Bq) λ_ t=>Bt a b t
  match t.1 with
  | some r=>pure (.done (some r,t.2.1,t.2.2.1,t.2.2.2.1,t.2.2.2.2.1))
  | none=>do
   cF (t.2.2.2.2.1+1)
   pure (.yield (none,t.2.1,t.2.2.1,t.2.2.2.1,t.2.2.2.2.1+1))
theorem rG (a b):lz a b=(do
 liftM (rule "list.sort.merge-lo")
 let p <- elem' b 0
 if (1 == b.size)=true then pure (GC a b #[p] 0 1)
 else if (0+1 == a.size)=true then pure (Dp a b #[p] 0 1)
 else do
  let st <- get
  let s <- forIn [:a.size+b.size] ((none,#[p],0,1,gallopOf st):Ew) λ_ c=>pK a b c
  match s.1 with
  | some r=>pure r
  | none=>liftM (unsupported (α:=Array Keyed) "internal:list.sort.merge-bound")):=by
 unfold lz
 walk_at "dl mergeLo"
 dsimp only
 refine congrArg _ (funext λ_=>?_)
 refine congrArg _ (funext λp=>?_)
 refine congrArg _ (congrArg _ ?_)
 refine congrArg _ (funext λst=>?_)
 have e:∀ (f g:Nat->Ew->StateT SortSt Sem (ForInStep Ew)) (c:Ew) (k:Ew->StateT SortSt Sem (Array Keyed)),f=g->(forIn [:a.size+b.size] c f >>= k)=(forIn [:a.size+b.size] c g >>= k):=λ_ _ _ _ h=>by rw [h]
 refine (e _ _ _ _ (funext λ_=>funext λc=>?_)).trans (congrArg _ (funext λs=>?_))
 ·obtain ⟨o,out,ia,ib,mg⟩:=c
  unfold pK
  dsimp only
  have e2:∀ (f g:Nat->IV->StateT SortSt Sem (ForInStep IV)) (c:IV) (k l:IV->StateT SortSt Sem (ForInStep Ew)),f=g->k=l->(forIn [:a.size+b.size] c f >>= k)=(forIn [:a.size+b.size] c g >>= l):=λ_ _ _ _ _ h h2=>by rw [h,h2]
  refine e2 _ _ _ _ _ (funext λ_=>funext λc=>?_) (funext λs=>?_)
  ·rfl
  ·obtain ⟨o,out,ia,ib,ac,bc⟩:=s
   cases o with
   | some r=>rfl
   | none =>
    dsimp only
    refine congrArg _ (funext λ_=>?_)
    have e3:∀ (f g:Nat->Bq->StateT SortSt Sem (ForInStep Bq)) (c:Bq) (k l:Bq->StateT SortSt Sem (ForInStep Ew)),f=g->k=l->(forIn [:a.size+b.size] c f >>= k)=(forIn [:a.size+b.size] c g >>= l):=λ_ _ _ _ _ h h2=>by rw [h,h2]
    refine e3 _ _ _ _ _ (funext λ_=>funext λc=>?_) (funext λs=>?_)
    ·rfl
    ·obtain ⟨o,s⟩:=s
     cases o <;> rfl
 ·obtain ⟨o,s⟩:=s
  cases o <;> rfl
end
theorem some_at {xs:Array Keyed} (h:i<xs.size):∃ p,xs[i]?=some p:=⟨xs[i],Pj h⟩
def Ey (rk:Keyed->Int) (a b:Array Keyed) (n:Nat) (o:Option (Array Keyed)) (ia ib:Nat) (out:Array Keyed):Prop:=(∃ r,o=some r/\Res rk a b r)\/(o=none/\mW rk a b out ia ib/\n<=ia+ib)
noncomputable def Ez (rk:Keyed->Int) (a b:Array Keyed) (n:Nat):ForInStep Bq->Prop
 | .done c=>Ey rk a b n c.1 c.2.2.1 c.2.2.2.1 c.2.1
 | .yield c=>c.1=none/\mW rk a b c.2.1 c.2.2.1 c.2.2.2.1/\n<=c.2.2.1+c.2.2.2.1
theorem nS {st:SortSt} (lA:∀ {out:Array Keyed} {ia ib:Nat},WL rk a b out ia ib->ia+1=a.size->Res rk a b (Dp a b out ia ib)) (W:WL rk a b out ia ib) (ua:Up rk a) (la:ia+1<a.size) (lb:ib<b.size) (ep:a[ia]?=some p)
 (hl:∀ (j:Nat) (r:Keyed),ib<=j->b[j]?=some r->rk p<=rk r) (hn:n<=ia+1+ib) (hQ:∀ x,Ez rk a b n x->Q x st):wpS (model prog w) A E s (wH a b mg ac bc ia ib out) Q st:=by
 unfold wH
 have W4:=W.gj ua ep hl
 refine OU (aW ep ?_)
 by_cases e9:ia+1+1=a.size
 ·rw [if_pos (by simpa using e9)]
  exact OV (hQ _ (.inl ⟨_,rfl,lA W4 e9⟩))
 rw [if_neg (by simpa using e9)]
 have hL:mW rk a b (out.push p) (ia+1) ib:=⟨W4,Nat.lt_of_le_of_ne la e9,lb⟩
 split
 ·exact OV (hQ _ (.inr ⟨rfl,hL,hn⟩))
 ·exact OV (hQ _ ⟨rfl,hL,hn⟩)
theorem pM {xs:Array Keyed} {i j:Nat} (h:i<=j) (e:xs[j]?=some p):xs[i+(j - i)]?=some p:=by rw [U3 h]; exact e
theorem nU {st:SortSt} (hC:iO prog w A s κ rk L) (hk:kindOf st=κ) (ma:∀ (i:Nat) (p:Keyed),a[i]?=some p->p∈L) (mb:∀ (i:Nat) (p:Keyed),b[i]?=some p->p∈L)
 (lA:∀ {out:Array Keyed} {ia ib:Nat},WL rk a b out ia ib->ia+1=a.size->Res rk a b (Dp a b out ia ib)) (W:WL rk a b out ia ib) (ua:Up rk a) (ub:Up rk b) (la:ia+1<a.size) (lb:ib<b.size) (eq:b[ib]?=some q)
 (hl:∀ (j:Nat) (r:Keyed),ia<=j->a[j]?=some r->rk q<=rk r) (hn:n<=ia+ib+2) (hQ:∀ x,Ez rk a b n x->Q x st):wpS (model prog w) A E s (wI a b mg ac bc ia ib out) Q st:=by
 unfold wI
 have W2:=W.gi ub eq hl
 refine OU (aW eq ?_)
 by_cases e5:ib+1=b.size
 ·rw [if_pos (by simpa using e5)]
  exact OV (hQ _ (.inl ⟨_,rfl,W2.jo ua e5⟩))
 rw [if_neg (by simpa using e5)]
 obtain ⟨p,ep⟩:=some_at (xs:=a) (i:=ia) (by lia)
 refine OU (aW ep ?_)
 refine OU (rF hC hk (ma _ _ ep) mb ub _ (by lia) (by lia) λk hj1 hj2 hj3=>?_)
 dsimp only
 have W3:=W2.rD ub k (by lia) λi j r p' z1 z2 z3 e6 e7=>PB (Qm (hj2 (i - (ib+1)) r (by lia) (pM z1 e6))) (ua ia j p p' z3 ep e7)
 have bwd:∀ (j:Nat) (r:Keyed),ib+1+k<=j->b[j]?=some r->rk p<=rk r:=λj r hj e6=>hj3 (j - (ib+1)) r (by lia) (by have:=(RY.mp e6).1; lia) (pM (O3 (Q9 _ _) hj) e6)
 by_cases hj0:k>0
 ·rw [if_pos hj0]
  by_cases e8:ib+1+k=b.size
  ·rw [if_pos (by simpa using e8)]
   exact OV (hQ _ (.inl ⟨_,rfl,W3.jo ua e8⟩))
  rw [if_neg (by simpa using e8)]
  exact nS lA W3 ua la (by lia) ep bwd (by lia) hQ
 ·rw [if_neg hj0]
  exact nS lA W2 ua la (by lia) ep (λj r hj e6=>bwd j r (by lia) e6) (by lia) hQ
theorem nV {st:SortSt} (hC:iO prog w A s κ rk L) (hk:kindOf st=κ) (ma:∀ (i:Nat) (p:Keyed),a[i]?=some p->p∈L) (mb:∀ (i:Nat) (p:Keyed),b[i]?=some p->p∈L)
 (lA:∀ {out:Array Keyed} {ia ib:Nat},WL rk a b out ia ib->ia+1=a.size->Res rk a b (Dp a b out ia ib)) (ua:Up rk a) (ub:Up rk b) (hL:mW rk a b out ia ib) (hn:n<=ia+ib) (hQ:∀ x st',cK st st'->Ez rk a b n x->Q x st') :
 wpS (model prog w) A E s (wJ a b mg ac bc ia ib out) Q st:=by
 unfold wJ
 have W:=hL.w
 have la:=hL.la
 have lb:=hL.lb
 obtain ⟨q,eq⟩:=some_at (xs:=b) lb
 refine OU (fJ ?_)
 have G0:=λx=>hQ x _ ((cK.refl st).min mg)
 refine OU (aW eq ?_)
 refine OU (rE hC (by exact hk) (mb _ _ eq) ma ua _ (by lia) (by lia) λk hk1 hk2 hk3=>?_)
 dsimp only
 have Wk:=W.rC ua k (by lia) λi j p r z1 z2 z3 e3 e4=>PB (hk2 (i - ia) p (by lia) (pM z1 e3)) (ub ib j q r z3 eq e4)
 have fwd:∀ (j:Nat) (r:Keyed),ia+k<=j->a[j]?=some r->rk q<=rk r:=λj r hj e3=>Qm (hk3 (j - ia) r (by lia) (by have:=(RY.mp e3).1; lia) (pM (O3 (Q9 _ _) hj) e3))
 by_cases hk0:k>0
 ·rw [if_pos hk0]
  by_cases e3:ia+k+1=a.size
  ·rw [if_pos (by simpa using e3)]
   exact OV (G0 _ (.inl ⟨_,rfl,lA Wk e3⟩))
  rw [if_neg (by simpa using e3)]
  by_cases e4:ia+k=a.size
  ·rw [if_pos (by simpa using e4)]
   exact OV (G0 _ (.inl ⟨_,rfl,Wk.jq ub e4⟩))
  rw [if_neg (by simpa using e4)]
  exact nU hC (by exact hk) ma mb lA Wk ua ub (by lia) lb eq fwd (by lia) G0
 ·rw [if_neg hk0]
  exact nU hC (by exact hk) ma mb lA W ua ub la lb eq (λj r hj e3=>fwd j r (by lia) e3) (by lia) G0
theorem yv {st:SortSt} (hC:iO prog w A s κ rk L) (hk:kindOf st=κ) (ma:∀ (i:Nat) (p:Keyed),a[i]?=some p->p∈L) (mb:∀ (i:Nat) (p:Keyed),b[i]?=some p->p∈L)
 (lA:∀ {out:Array Keyed} {ia ib:Nat},WL rk a b out ia ib->ia+1=a.size->Res rk a b (Dp a b out ia ib)) (ua:Up rk a) (ub:Up rk b) (hL:mW rk a b c.2.1 c.2.2.1 c.2.2.2.1) (hn:n<=c.2.2.1+c.2.2.2.1+1)
 (hQ:∀ o ia ib out z y,Ey rk a b n o ia ib out->Q (.done (o,out,ia,ib,z)) st/\(o=none->Q (.yield (none,out,ia,ib,y)) st)):wpS (model prog w) A E s (Bu a b mg c) Q st:=by
 obtain ⟨_,out,ia,ib,ac,bc⟩:=c
 unfold Bu
 dsimp only at hL hn |-
 have W:=hL.w
 have la:=hL.la
 have lb:=hL.lb
 obtain ⟨q,eq⟩:=some_at (xs:=b) lb
 obtain ⟨p,ep⟩:=some_at (xs:=a) (Nat.lt_of_succ_lt la)
 refine OU (aW eq (OU (aW ep (OU (lu hC hk (mb _ _ eq) (ma _ _ ep) ?_)))))
 dsimp only
 by_cases hw:rk q<rk p
 ·rw [decide_eq_true hw,if_pos rfl]
  have W1:=W.gi ub eq λj r hj e=>PB (Qm hw) (ua ia j p r hj ep e)
  refine OU (aW eq ?_)
  by_cases e3:ib+1=b.size
  ·rw [if_pos (by simpa using e3)]
   exact OV (hQ _ _ _ _ _ (0,0) (.inl ⟨_,rfl,W1.jo ua e3⟩)).1
  rw [if_neg (by simpa using e3)]
  have z:=hQ none ia (ib+1) (out.push q) (0,bc+1) (0,bc+1) (.inr ⟨rfl,⟨W1,la,by lia⟩,by lia⟩)
  split
  ·exact OV z.1
  ·exact OV (z.2 rfl)
 ·rw [decide_eq_false hw,if_neg O5]
  have W1:=W.gj ua ep λj r hj e=>PB (Sv.mp hw) (ub ib j q r hj eq e)
  refine OU (aW ep ?_)
  by_cases e3:ia+1+1=a.size
  ·rw [if_pos (by simpa using e3)]
   exact OV (hQ _ _ _ _ _ (0,0) (.inl ⟨_,rfl,lA W1 e3⟩)).1
  rw [if_neg (by simpa using e3)]
  have z:=hQ none (ia+1) ib (out.push p) (ac+1,0) (ac+1,0) (.inr ⟨rfl,⟨W1,by lia,lb⟩,by lia⟩)
  split
  ·exact OV z.1
  ·exact OV (z.2 rfl)
theorem uC {st:SortSt} (hC:iO prog w A s κ rk L) (hk:kindOf st=κ) (ma:∀ (i:Nat) (p:Keyed),a[i]?=some p->p∈L) (mb:∀ (i:Nat) (p:Keyed),b[i]?=some p->p∈L)
 (lA:∀ {out:Array Keyed} {ia ib:Nat},WL rk a b out ia ib->ia+1=a.size->Res rk a b (Dp a b out ia ib)) (ua:Up rk a) (ub:Up rk b) (hL:mW rk a b c.2.1 c.2.2.1 c.2.2.2.1) (hn:n<=c.2.2.1+c.2.2.2.1+1)
 (h1:∀ r z st',cK st st'->Res rk a b r->Q (.done (some r,z)) st') (h2:∀ ia ib out g st',cK st st'->mW rk a b out ia ib->n<=ia+ib->Q (.yield (none,out,ia,ib,g)) st'):wpS (model prog w) A E s (pK a b c) Q st:=by
 unfold pK
 refine OU (PD (Qc (I:=λy c st'=>st'=st/\c.1=none/\mW rk a b c.2.1 c.2.2.1 c.2.2.2.1/\n+y<=c.2.2.1+c.2.2.2.1+1) (Q:=λc st'=>st'=st/\Ey rk a b n c.1 c.2.2.1 c.2.2.2.1 c.2.1) ?step ?fin ⟨rfl,rfl,hL,hn⟩) ?post)
 case fin =>
  rintro c st' ⟨rfl,hc,hL',hx⟩
  exact ⟨rfl,.inr ⟨hc,hL',by have:=hL'.la; have:=hL'.lb; lia⟩⟩
 case step =>
  rintro y c st' _ hy ⟨rfl,_,hL',hx⟩
  refine yv (n:=n+y) hC hk ma mb lA ua ub hL' hx λo ia ib out z y hR=>⟨?_,?_⟩
  ·refine ⟨rfl,?_⟩
   rcases hR with hR | ⟨q1,q2,q3⟩
   ·exact .inl hR
   ·exact .inr ⟨q1,q2,O3 (Q9 _ _) q3⟩
  ·rintro rfl
   rcases hR with ⟨_,q,_⟩ | ⟨q1,q2,q3⟩
   ·cases q
   ·exact ⟨rfl,rfl,q2,SO q3⟩
 case post =>
  rintro ⟨o,out,ia,ib,ac,bc⟩ st' ⟨rfl,hR⟩
  dsimp only at hR |-
  rcases hR with ⟨r,rfl,hr⟩ | ⟨rfl,hL2,hn2⟩
  ·exact OV (h1 r _ _ (.refl _) hr)
  refine OU (Rv (Qg ⟨rfl,?_⟩))
  refine OU (PD (Qc (I:=λy c st''=>cK st' st''/\c.1=none/\mW rk a b c.2.1 c.2.2.1 c.2.2.2.1/\n<=c.2.2.1+c.2.2.2.1) (Q:=λc st''=>cK st' st''/\Ey rk a b n c.1 c.2.2.1 c.2.2.2.1 c.2.1) ?gstep ?gfin ⟨.refl _,rfl,hL2,hn2⟩) ?gpost)
  case gfin=>exact λc st'' ⟨q1,q2,q3,q4⟩=>⟨q1,.inr ⟨q2,q3,q4⟩⟩
  case gstep =>
   rintro y c st'' _ _ ⟨q1,q2,q3,q4⟩
   have key:wpS (model prog w) A E s (Bt a b c) (λx st3=>cK st'' st3/\Ez rk a b n x) st'':=by
    unfold Bt
    split
    ·exact nV hC (q1.k.trans hk) ma mb lA ua ub q3 q4 λx st3 k h=>⟨k,h⟩
    ·exact nV hC (q1.k.trans hk) ma mb lA ua ub q3 q4 λx st3 k h=>⟨k,h⟩
   refine PD key λx st3 ⟨k,h⟩=>?_
   cases x with
   | done c=>exact ⟨q1.trans k,h⟩
   | yield c=>exact ⟨q1.trans k,h⟩
  case gpost =>
   rintro ⟨o,out,ia,ib,g,ac,bc⟩ st'' ⟨q1,hR⟩
   dsimp only at hR |-
   rcases hR with ⟨r,rfl,hr⟩ | ⟨rfl,hL3,hn3⟩
   ·exact OV (h1 r _ _ q1 hr)
   ·exact OU (fJ (OV (h2 _ _ _ _ _ (q1.min _) hL3 hn3)))
theorem rH {st:SortSt} (hC:iO prog w A s κ rk L) (hk:kindOf st=κ) (ma:∀ (i:Nat) (p:Keyed),a[i]?=some p->p∈L) (mb:∀ (i:Nat) (p:Keyed),b[i]?=some p->p∈L) (ua:Up rk a) (ub:Up rk b) (na:1<=a.size) (nb:1<=b.size)
 (h0:∀ p q,a[0]?=some p->b[0]?=some q->rk q<=rk p) (hl:∀ (j:Nat) (p q:Keyed),a[a.size - 1]?=some p->b[j]?=some q->rk q<=rk p) (h:∀ r st',Res rk a b r->cK st st'->Q r st'):wpS (model prog w) A E s (lz a b) Q st:=by
 have lastA:∀ {out:Array Keyed} {ia ib:Nat},WL rk a b out ia ib->ia+1=a.size->Res rk a b (Dp a b out ia ib):=λhw e=>hw.last ub e λj p q e1 e2=>hl j p q (by rw [<- e]; exact e1) e2
 obtain ⟨q0,eq0⟩:=some_at (xs:=b) (i:=0) nb
 obtain ⟨p0,ep0⟩:=some_at (xs:=a) (i:=0) na
 have W0:WL rk a b #[q0] 0 1:=by
  have z:WL rk a b #[] 0 0:=⟨PK _,PK _,by simp,SN,by simp,by simp⟩
  exact z.gi ub eq0 λj q _ e=>PB (h0 p0 q0 ep0 eq0) (ua 0 j p0 q (PK _) ep0 e)
 rw [rG]
 refine OU (Rv (Qg ⟨rfl,?_⟩))
 refine OU (aW eq0 ?_)
 by_cases e1:1=b.size
 ·rw [if_pos (by simpa using e1)]
  exact OV (h _ _ (W0.jo ua e1) (.refl _))
 rw [if_neg (by simpa using e1)]
 by_cases e2:0+1=a.size
 ·rw [if_pos (by simpa using e2)]
  exact OV (h _ _ (lastA W0 e2) (.refl _))
 rw [if_neg (by simpa using e2)]
 refine OU (Qz ?_)
 refine OU (PD (Qc (I:=λx c st'=>cK st st'/\c.1=none/\mW rk a b c.2.1 c.2.2.1 c.2.2.2.1/\x+1<=c.2.2.1+c.2.2.2.1) (Q:=λc st'=>cK st st'/\∃ r,c.1=some r/\Res rk a b r) ?step ?fin ⟨.refl _,rfl,⟨W0,by dsimp only; lia,by dsimp only; lia⟩,by dsimp only; lia⟩) ?post)
 case fin =>
  rintro c st' ⟨hK,hc,hL,hx⟩
  have h1:=hL.la
  have h2:=hL.lb
  lia
 case post =>
  rintro c st' ⟨hK,r,hc,hr⟩
  rw [hc]
  exact OV (h r st' hr hK)
 case step =>
  rintro x c st1 _ hx ⟨hK,_,hL,hn⟩
  exact uC (n:=x+2) hC (hK.k.trans hk) ma mb lastA ua ub hL (SO hn) (λr z st' k hr=>⟨hK.trans k,r,rfl,hr⟩) λia ib out g st' k q1 q2=>⟨hK.trans k,rfl,q1,q2⟩
noncomputable def lD:Array Keyed->Array Keyed->StateT SortSt Sem (Array Keyed):=sortPriv% PySem.Builtin.mergeHi
local macro_rules | `(tactic| walk_at "dl mergeHi")=>do
 let i:=RJ (Ry `PySem.Builtin.List.W1All `PySem.Builtin.mergeHi)
 `(tactic| delta $i)
section
variable {rk:Keyed->Int} {a b:Array Keyed}
structure WH (rk:Keyed->Int) (a b:Array Keyed) (out:Array Keyed) (na nb:Nat):Prop where
 pa:na<=a.size
 pb:nb<=b.size
 pm:out.toList.Perm (a.toList.drop na++b.toList.drop nb)
 sr:Bp rk out.toList.reverse
 ha:∀ p∈out.toList,∀ (j:Nat) (q:Keyed),j<na->a[j]?=some q->rk q<=rk p
 hb:∀ p∈out.toList,∀ (j:Nat) (q:Keyed),j<nb->b[j]?=some q->rk q<=rk p
theorem cZ (xs:Array Keyed) (i):(xs.extract 0 i).toList=xs.toList.take i:=by rw [dI,List.drop_zero]
theorem iQ {xs:Array Keyed} (h:q∈xs.toList.take i):∃ j,j<i/\xs[j]?=some q:=by
 obtain ⟨n,hn⟩:=R5 h
 have hl:=(O6.mp hn).1
 rw [PZ] at hl
 rw [TJ (by lia)] at hn
 exact ⟨n,by lia,by rw [<- PN]; exact hn⟩
theorem WH.res (h:WH rk a b out na nb) (x) (hx:x.toList.Perm (a.toList.take na++b.toList.take nb)) (hs:Bp rk x.toList):Res rk a b (x++out.reverse):=by
 have e0:(x++out.reverse).toList=x.toList++out.toList.reverse:=by simp
 refine ⟨?_,?_⟩
 ·rw [e0]
  refine (hx.append ((Vn _).trans h.pm)).trans ?_
  have:(a.toList.take na++b.toList.take nb++(a.toList.drop na++b.toList.drop nb)).Perm (a.toList.take na++a.toList.drop na++(b.toList.take nb++b.toList.drop nb)):=by
   rw [Pp,Pp]
   refine R3 _ ?_
   rw [<- Pp,<- Pp]
   exact List.Perm.append_right _ Rz
  rw [Q5,Q5] at this
  exact this
 ·rw [e0]
  refine bQ hs h.sr λp hp q hq=>?_
  have hq':q∈out.toList:=by simpa using hq
  rcases Pb.mp (hx.mem_iff.mp hp) with z | z
  ·obtain ⟨j,h1,e⟩:=iQ z
   exact h.ha q hq' j p h1 e
  ·obtain ⟨j,h1,e⟩:=iQ z
   exact h.hb q hq' j p h1 e
theorem WH.jq (h:WH rk a b out na nb) (ub:Up rk b) (e:na=0):Res rk a b (a.extract 0 na++b.extract 0 nb++out.reverse):=by
 subst e
 refine h.res _ ?_ ?_
 ·simp [cZ]
 ·have:(a.extract 0 0++b.extract 0 nb).toList=b.toList.take nb:=by rw [Ql,cZ,cZ]; simp
  rw [this]; exact (jn ub).sublist (T4 _ _)
theorem WH.jo (h:WH rk a b out na nb) (ua:Up rk a) (e:nb=0):Res rk a b (a.extract 0 na++b.extract 0 nb++out.reverse):=by
 subst e
 refine h.res _ ?_ ?_
 ·simp [cZ]
 ·have:(a.extract 0 na++b.extract 0 0).toList=a.toList.take na:=by rw [Ql,cZ,cZ]; simp
  rw [this]; exact (jn ua).sublist (T4 _ _)
theorem WH.first (h:WH rk a b out na nb) (ua:Up rk a) (e:nb=1) (hf:∀ (j:Nat) (p q:Keyed),a[j]?=some p->b[0]?=some q->rk q<=rk p) :
 Res rk a b (b.extract 0 nb++a.extract 0 na++out.reverse):=by
 subst e
 have e1:(b.extract 0 1++a.extract 0 na).toList=b.toList.take 1++a.toList.take na:=by rw [Ql,cZ,cZ]
 refine h.res _ ?_ ?_
 ·rw [e1]; exact Rz
 ·rw [e1]
  refine bQ ?_ ((jn ua).sublist (T4 _ _)) λp hp q hq=>?_
  ·exact wF (by simp; lia)
  ·obtain ⟨j,h1,e2⟩:=iQ hp
   obtain ⟨j2,h2,e3⟩:=iQ hq
   have:j=0:=by lia
   subst this
   exact hf j2 q p e3 e2
theorem nW {xs:Array Keyed} (hi:1<=i) (h:xs[i - 1]?=some p):xs.toList.drop (i - 1)=p::xs.toList.drop i:=by
 rw [<- PN] at h
 obtain ⟨h1,h2⟩:=O6.mp h
 rw [List.drop_eq_getElem_cons h1,h2,show i - 1+1=i by lia]
theorem WH.gj {out:Array Keyed} {na nb:Nat} {p:Keyed} (h:WH rk a b out na nb) (ua:Up rk a) (hn:1<=na) (e:a[na - 1]?=some p) (hl:∀ (j:Nat) (q:Keyed),j<nb->b[j]?=some q->rk q<=rk p):WH rk a b (out.push p) (na - 1) nb where
 pa:=by have:=h.pa; lia
 pb:=h.pb
 pm:=by
  rw [PF,nW hn e]
  refine (h.pm.append_right _).trans ?_
  rw [RC]
  exact Rz
 sr:=by
  rw [PF,U4]
  exact bQ (R0 _ _) h.sr λr hr q hq=>by
   have hr':r=p:=by simpa using hr
   rw [hr']
   exact h.ha q (by simpa using hq) (na - 1) p (by lia) e
 ha:=λq hq j r hj er=>by
  rw [PF] at hq
  rcases Pb.mp hq with z | z
  ·exact h.ha q z j r (by lia) er
  ·rw [Pa.mp z]; exact ua j (na - 1) r p (by lia) er e
 hb:=λq hq j r hj er=>by
  rw [PF] at hq
  rcases Pb.mp hq with z | z
  ·exact h.hb q z j r hj er
  ·rw [Pa.mp z]; exact hl j r hj er
theorem WH.gi {out:Array Keyed} {na nb:Nat} {p:Keyed} (h:WH rk a b out na nb) (ub:Up rk b) (hn:1<=nb) (e:b[nb - 1]?=some p) (hl:∀ (j:Nat) (q:Keyed),j<na->a[j]?=some q->rk q<=rk p):WH rk a b (out.push p) na (nb - 1) where
 pa:=h.pa
 pb:=by have:=h.pb; lia
 pm:=by
  rw [PF,nW hn e]
  refine (h.pm.append_right _).trans ?_
  rw [Pp]
  exact R3 _ Rz
 sr:=by
  rw [PF,U4]
  exact bQ (R0 _ _) h.sr λr hr q hq=>by
   have hr':r=p:=by simpa using hr
   rw [hr']
   exact h.hb q (by simpa using hq) (nb - 1) p (by lia) e
 hb:=λq hq j r hj er=>by
  rw [PF] at hq
  rcases Pb.mp hq with z | z
  ·exact h.hb q z j r (by lia) er
  ·rw [Pa.mp z]; exact ub j (nb - 1) r p (by lia) er e
 ha:=λq hq j r hj er=>by
  rw [PF] at hq
  rcases Pb.mp hq with z | z
  ·exact h.ha q z j r hj er
  ·rw [Pa.mp z]; exact hl j r hj er
theorem wK {xs:Array Keyed} (h:m<n) (e:xs[m]?=some p):(xs.extract m n).reverse=(xs.extract (m+1) n).reverse.push p:=by
 apply Ru
 rw [PF,R6,R6,dI,dI]
 rw [<- PN] at e
 obtain ⟨h1,h2⟩:=O6.mp e
 have h3:m<(xs.toList.take n).length:=by rw [PZ]; lia
 rw [List.drop_eq_getElem_cons h3,Vo,List.getElem_take,h2]
theorem rJ (xs ys:Array Keyed) (p):xs++ys.push p=(xs++ys).push p:=by
 apply Ru; simp
theorem WH.rC (h:WH rk a b out na nb) (ua:Up rk a):∀ (k m:Nat),m+k=na->(∀ (i j:Nat) (p q:Keyed),m<=i->i<na->j<nb->a[i]?=some p->b[j]?=some q->rk q<=rk p)->WH rk a b (out++(a.extract m na).reverse) m nb
 | 0,m,hm,_=>by
  have e:m=na:=by lia
  subst e
  have:out++(a.extract m m).reverse=out:=by
   apply Ru
   rw [Ql,R6,iP,List.reverse_nil,Qd]
  rw [this]; exact h
 | k+1,m,hm,hl=>by
  have hp:=h.pa
  have ih:=h.rC ua k (m+1) (by lia) λi j p q h1 h2=>hl i j p q (by lia) h2
  have e:a[m+1 - 1]?=some (a[m]'(by lia)):=Pj (show m<a.size by lia)
  have z:=ih.gj ua (by lia) e λj q hj eq=>hl m j _ q (OT _) (by lia) hj (Pj (show m<a.size by lia)) eq
  rw [wK (show m<na by lia) (Pj (show m<a.size by lia)),rJ]
  exact z
theorem WH.rD (h:WH rk a b out na nb) (ub:Up rk b):∀ (k m:Nat),m+k=nb->(∀ (i j:Nat) (p q:Keyed),m<=i->i<nb->j<na->b[i]?=some p->a[j]?=some q->rk q<=rk p)->WH rk a b (out++(b.extract m nb).reverse) na m
 | 0,m,hm,_=>by
  have e:m=nb:=by lia
  subst e
  have:out++(b.extract m m).reverse=out:=by
   apply Ru
   rw [Ql,R6,iP,List.reverse_nil,Qd]
  rw [this]; exact h
 | k+1,m,hm,hl=>by
  have hp:=h.pb
  have ih:=h.rD ub k (m+1) (by lia) λi j p q h1 h2=>hl i j p q (by lia) h2
  have e:b[m+1 - 1]?=some (b[m]'(by lia)):=Pj (show m<b.size by lia)
  have z:=ih.gi ub (by lia) e λj q hj eq=>hl m j _ q (OT _) (by lia) hj (Pj (show m<b.size by lia)) eq
  rw [wK (show m<nb by lia) (Pj (show m<b.size by lia)),rJ]
  exact z
structure gT (rk:Keyed->Int) (a b out:Array Keyed) (na nb:Nat):Prop where
 w:WH rk a b out na nb
 la:1<=na
 lb:2<=nb
end
noncomputable abbrev Bv:=Option (Array Keyed)×Nat×Nat×Array Keyed×Nat×Nat×Nat
noncomputable def GD (a b out:Array Keyed) (na nb:Nat):Array Keyed:=a.extract 0 na++b.extract 0 nb++out.reverse
noncomputable def EA (a b out:Array Keyed) (na nb:Nat):Array Keyed:=b.extract 0 nb++a.extract 0 na++out.reverse
noncomputable def wL (a b:Array Keyed) (mg ac bc na nb:Nat) (out:Array Keyed):StateT SortSt Sem (ForInStep Bv):=do
 let p <- elem' a (na - 1)
 if (na - 1 == 0)=true then pure (.done (some (GD a b (out.push p) (na - 1) nb),na - 1,nb,out.push p,mg,ac,bc))
 else if (decide (ac<7) && decide (bc<7))=true then pure (.done (none,na - 1,nb,out.push p,mg,ac,bc))
 else pure (.yield (none,na - 1,nb,out.push p,mg,ac,bc))
noncomputable def wM (a b:Array Keyed) (mg ac bc na nb:Nat) (out:Array Keyed):StateT SortSt Sem (ForInStep Bv):=do
 let q <- elem' b (nb - 1)
 if (nb - 1 == 1)=true then pure (.done (some (EA a b (out.push q) na (nb - 1)),na,nb - 1,out.push q,mg,ac,bc))
 else do
  let p <- elem' a (na - 1)
  let x <- cI true p b 0 (nb - 1) (nb - 1 - 1)
  match x with
  | some k=>(if nb - 1 - k>0 then
   (if (k == 1)=true then pure (.done (some (EA a b (out.push q++(b.extract k (nb - 1)).reverse) na k),na,k,out.push q++(b.extract k (nb - 1)).reverse,mg,ac,nb - 1 - k))
    else if (k == 0)=true then pure (.done (some (GD a b (out.push q++(b.extract k (nb - 1)).reverse) na k),na,k,out.push q++(b.extract k (nb - 1)).reverse,mg,ac,nb - 1 - k))
    else wL a b mg ac (nb - 1 - k) na k (out.push q++(b.extract k (nb - 1)).reverse))
   else wL a b mg ac (nb - 1 - k) na (nb - 1) (out.push q))
  | _=>pure (.done (some (GD a b (out.push q) na (nb - 1)),na,nb - 1,out.push q,mg,ac,bc))
noncomputable def wN (a b:Array Keyed) (mg ac bc na nb:Nat) (out:Array Keyed):StateT SortSt Sem (ForInStep Bv):=do
 cF mg
 let q <- elem' b (nb - 1)
 let x <- cI false q a 0 na (na - 1)
 match x with
 | some k=>(if na - k>0 then
  (if (k == 0)=true then pure (.done (some (GD a b (out++(a.extract k na).reverse) k nb),k,nb,out++(a.extract k na).reverse,mg,na - k,bc))
   else wM a b mg (na - k) bc k nb (out++(a.extract k na).reverse))
  else wM a b mg (na - k) bc na nb out)
 | _=>pure (.done (some (GD a b out na nb),na,nb,out,mg,ac,bc))
noncomputable def Bw (a b:Array Keyed) (c:Bv):StateT SortSt Sem (ForInStep Bv) :=
 if c.2.2.2.2.1>1 then wN a b (c.2.2.2.2.1 - 1) c.2.2.2.2.2.1 c.2.2.2.2.2.2 c.2.1 c.2.2.1 c.2.2.2.1 else wN a b c.2.2.2.2.1 c.2.2.2.2.2.1 c.2.2.2.2.2.2 c.2.1 c.2.2.1 c.2.2.2.1
noncomputable abbrev IW:=Option (Array Keyed)×Nat×Nat×Array Keyed×Nat×Nat
noncomputable def Bx (a b:Array Keyed) (mg:Nat) (c:IW):StateT SortSt Sem (ForInStep IW):=do
 let q <- elem' b (c.2.2.1 - 1)
 let p <- elem' a (c.2.1 - 1)
 let x <- lt' q p
 match x with
 | some y=>(if y=true then (do
  let p <- elem' a (c.2.1 - 1)
  if (c.2.1 - 1 == 0)=true then pure (.done (some (GD a b (c.2.2.2.1.push p) (c.2.1 - 1) c.2.2.1),c.2.1 - 1,c.2.2.1,c.2.2.2.1.push p,c.2.2.2.2.1+1,0))
  else if c.2.2.2.2.1+1>=mg then pure (.done (none,c.2.1 - 1,c.2.2.1,c.2.2.2.1.push p,c.2.2.2.2.1+1,0))
  else pure (.yield (none,c.2.1 - 1,c.2.2.1,c.2.2.2.1.push p,c.2.2.2.2.1+1,0)))
  else (do
   let q <- elem' b (c.2.2.1 - 1)
   if (c.2.2.1 - 1 == 1)=true then pure (.done (some (EA a b (c.2.2.2.1.push q) c.2.1 (c.2.2.1 - 1)),c.2.1,c.2.2.1 - 1,c.2.2.2.1.push q,0,c.2.2.2.2.2+1))
   else if c.2.2.2.2.2+1>=mg then pure (.done (none,c.2.1,c.2.2.1 - 1,c.2.2.2.1.push q,0,c.2.2.2.2.2+1))
   else pure (.yield (none,c.2.1,c.2.2.1 - 1,c.2.2.2.1.push q,0,c.2.2.2.2.2+1))))
 | _=>pure (.done (some (GD a b c.2.2.2.1 c.2.1 c.2.2.1),c.2.1,c.2.2.1,c.2.2.2.1,c.2.2.2.2.1,c.2.2.2.2.2))
noncomputable abbrev Dq:=Option (Array Keyed)×Nat×Nat×Array Keyed×Nat
noncomputable def jr (a b:Array Keyed) (c:Dq):StateT SortSt Sem (ForInStep Dq):=do
 let s <- forIn [:a.size+b.size] ((none,c.2.1,c.2.2.1,c.2.2.2.1,0,0):IW) λ_ s=>Bx a b c.2.2.2.2 s
 match s.1 with
 | some r=>pure (.done (some r,s.2.1,s.2.2.1,s.2.2.2.1,c.2.2.2.2))
 | none=>do
  liftM (rule "list.sort.gallop")
  let t <- forIn [:a.size+b.size] ((none,s.2.1,s.2.2.1,s.2.2.2.1,c.2.2.2.2+1,s.2.2.2.2.1,s.2.2.2.2.2):Bv) λ_ t=>Bw a b t
  match t.1 with
  | some r=>pure (.done (some r,t.2.1,t.2.2.1,t.2.2.2.1,t.2.2.2.2.1))
  | none=>do
   cF (t.2.2.2.2.1+1)
   pure (.yield (none,t.2.1,t.2.2.1,t.2.2.2.1,t.2.2.2.2.1+1))
theorem rK (a b):lD a b=(do
 liftM (rule "list.sort.merge-hi")
 let p <- elem' a (a.size - 1)
 if (a.size - 1 == 0)=true then pure (GD a b #[p] (a.size - 1) b.size)
 else if (b.size == 1)=true then pure (EA a b #[p] (a.size - 1) b.size)
 else do
  let st <- get
  let s <- forIn [:a.size+b.size] ((none,a.size - 1,b.size,#[p],gallopOf st):Dq) λ_ c=>jr a b c
  match s.1 with
  | some r=>pure r
  | none=>liftM (unsupported (α:=Array Keyed) "internal:list.sort.merge-bound")):=by
 unfold lD
 walk_at "dl mergeHi"
 dsimp only
 refine congrArg _ (funext λ_=>?_)
 refine congrArg _ (funext λp=>?_)
 refine congrArg _ (congrArg _ ?_)
 refine congrArg _ (funext λst=>?_)
 have h1:∀ (c:Dq),jr a b c=jr a b c:=λ_=>rfl
 have e:∀ (f g:Nat->Dq->StateT SortSt Sem (ForInStep Dq)) (c:Dq) (k:Dq->StateT SortSt Sem (Array Keyed)),f=g->(forIn [:a.size+b.size] c f >>= k)=(forIn [:a.size+b.size] c g >>= k):=λ_ _ _ _ h=>by rw [h]
 refine (e _ _ _ _ (funext λ_=>funext λc=>?_)).trans (congrArg _ (funext λs=>?_))
 ·obtain ⟨o,na,nb,out,mg⟩:=c
  unfold jr
  dsimp only
  have e2:∀ (f g:Nat->IW->StateT SortSt Sem (ForInStep IW)) (c:IW) (k l:IW->StateT SortSt Sem (ForInStep Dq)),f=g->k=l->(forIn [:a.size+b.size] c f >>= k)=(forIn [:a.size+b.size] c g >>= l):=λ_ _ _ _ _ h h2=>by rw [h,h2]
  refine e2 _ _ _ _ _ (funext λ_=>funext λc=>?_) (funext λs=>?_)
  ·rfl
  ·obtain ⟨o,na,nb,out,ac,bc⟩:=s
   cases o with
   | some r=>rfl
   | none =>
    dsimp only
    refine congrArg _ (funext λ_=>?_)
    have e3:∀ (f g:Nat->Bv->StateT SortSt Sem (ForInStep Bv)) (c:Bv) (k l:Bv->StateT SortSt Sem (ForInStep Dq)),f=g->k=l->(forIn [:a.size+b.size] c f >>= k)=(forIn [:a.size+b.size] c g >>= l):=λ_ _ _ _ _ h h2=>by rw [h,h2]
    refine e3 _ _ _ _ _ (funext λ_=>funext λc=>?_) (funext λs=>?_)
    ·rfl
    ·obtain ⟨o,s⟩:=s
     cases o <;> rfl
 ·obtain ⟨o,s⟩:=s
  cases o <;> rfl
def EB (rk:Keyed->Int) (a b:Array Keyed) (n:Nat) (o:Option (Array Keyed)) (na nb:Nat) (out:Array Keyed):Prop:=(∃ r,o=some r/\Res rk a b r)\/(o=none/\gT rk a b out na nb/\na+nb<=n)
noncomputable def EC (rk:Keyed->Int) (a b:Array Keyed) (n:Nat):ForInStep Bv->Prop
 | .done c=>EB rk a b n c.1 c.2.1 c.2.2.1 c.2.2.2.1
 | .yield c=>c.1=none/\gT rk a b c.2.2.2.1 c.2.1 c.2.2.1/\c.2.1+c.2.2.1<=n
theorem nX {st:SortSt} (W:WH rk a b out na nb) (ua:Up rk a) (ub:Up rk b) (la:1<=na) (lb:2<=nb) (ep:a[na - 1]?=some p)
 (hl:∀ (j:Nat) (r:Keyed),j<nb->b[j]?=some r->rk r<=rk p) (hn:na - 1+nb<=n) (hQ:∀ x,EC rk a b n x->Q x st):wpS (model prog w) A E s (wL a b mg ac bc na nb out) Q st:=by
 unfold wL
 have W4:=W.gj ua la ep hl
 refine OU (aW ep ?_)
 by_cases e9:na - 1=0
 ·rw [if_pos (by simpa using e9)]
  exact OV (hQ _ (.inl ⟨_,rfl,W4.jq ub e9⟩))
 rw [if_neg (by simpa using e9)]
 have hL:gT rk a b (out.push p) (na - 1) nb:=⟨W4,US.mpr e9,lb⟩
 split
 ·exact OV (hQ _ (.inr ⟨rfl,hL,hn⟩))
 ·exact OV (hQ _ ⟨rfl,hL,hn⟩)
theorem nY {st:SortSt} (hC:iO prog w A s κ rk L) (hk:kindOf st=κ) (ma:∀ (i:Nat) (p:Keyed),a[i]?=some p->p∈L) (mb:∀ (i:Nat) (p:Keyed),b[i]?=some p->p∈L)
 (fB:∀ {out:Array Keyed} {na nb:Nat},WH rk a b out na nb->nb=1->Res rk a b (EA a b out na nb)) (W:WH rk a b out na nb) (ua:Up rk a) (ub:Up rk b) (la:1<=na) (lb:2<=nb) (eq:b[nb - 1]?=some q)
 (hl:∀ (j:Nat) (r:Keyed),j<na->a[j]?=some r->rk r<=rk q) (hn:na+nb<=n+2) (hQ:∀ x,EC rk a b n x->Q x st):wpS (model prog w) A E s (wM a b mg ac bc na nb out) Q st:=by
 unfold wM
 have W2:=W.gi ub (Nat.le_of_succ_le lb) eq hl
 have hpa:=W.pa
 have hpb:=W.pb
 refine OU (aW eq ?_)
 by_cases e5:nb - 1=1
 ·rw [if_pos (by simpa using e5)]
  exact OV (hQ _ (.inl ⟨_,rfl,fB W2 e5⟩))
 rw [if_neg (by simpa using e5)]
 have lb1:2<=nb - 1:=by lia
 obtain ⟨p,ep⟩:=some_at (xs:=a) (i:=na - 1) (by lia)
 refine OU (aW ep ?_)
 refine OU (rF hC hk (ma _ _ ep) mb ub _ (by lia) (by lia) λk hj1 hj2 hj3=>?_)
 dsimp only
 have dn2:∀ (i:Nat) (r:Keyed),i<k->b[i]?=some r->rk r<rk p:=λi r z1 e6=>hj2 i r z1 (by rw [Rg]; exact e6)
 by_cases hj0:nb - 1 - k>0
 ·rw [if_pos hj0]
  have W3:=W2.rD ub (nb - 1 - k) k (U3 hj1) λi j r p' z1 z2 z3 e6 e7=>PB (ua j (na - 1) p' p (TX z3) e7 ep) (hj3 i r z1 (Nat.add_lt_add_left z2 0) (by rw [Rg]; exact e6))
  by_cases e8:k=1
  ·rw [if_pos (by simpa using e8)]
   exact OV (hQ _ (.inl ⟨_,rfl,fB W3 e8⟩))
  rw [if_neg (by simpa using e8)]
  by_cases e10:k=0
  ·rw [if_pos (by simpa using e10)]
   exact OV (hQ _ (.inl ⟨_,rfl,W3.jo ua e10⟩))
  rw [if_neg (by simpa using e10)]
  exact nX W3 ua ub la (by lia) ep (λj r hj e6=>Qm (dn2 j r hj e6)) (by lia) hQ
 ·rw [if_neg hj0]
  exact nX W2 ua ub la lb1 ep (λj r hj e6=>Qm (dn2 j r (by lia) e6)) (by lia) hQ
theorem nZ {st:SortSt} (hC:iO prog w A s κ rk L) (hk:kindOf st=κ) (ma:∀ (i:Nat) (p:Keyed),a[i]?=some p->p∈L) (mb:∀ (i:Nat) (p:Keyed),b[i]?=some p->p∈L)
 (fB:∀ {out:Array Keyed} {na nb:Nat},WH rk a b out na nb->nb=1->Res rk a b (EA a b out na nb)) (ua:Up rk a) (ub:Up rk b) (hL:gT rk a b out na nb) (hn:na+nb<=n) (hQ:∀ x st',cK st st'->EC rk a b n x->Q x st') :
 wpS (model prog w) A E s (wN a b mg ac bc na nb out) Q st:=by
 unfold wN
 have W:=hL.w
 have la:=hL.la
 have lb:=hL.lb
 have hpa:=W.pa
 have hpb:=W.pb
 obtain ⟨q,eq⟩:=some_at (xs:=b) (i:=nb - 1) (by lia)
 refine OU (fJ ?_)
 have G0:=λx=>hQ x _ ((cK.refl st).min mg)
 refine OU (aW eq ?_)
 refine OU (rE hC (by exact hk) (mb _ _ eq) ma ua _ (by lia) (by lia) λk hk1 hk2 hk3=>?_)
 dsimp only
 have dn1:∀ (i:Nat) (p:Keyed),i<k->a[i]?=some p->rk p<=rk q:=λi p z1 e3=>hk2 i p z1 (by rw [Rg]; exact e3)
 by_cases hk0:na - k>0
 ·rw [if_pos hk0]
  have Wk:=W.rC ua (na - k) k (U3 hk1) λi j p r z1 z2 z3 e3 e4=>PB (ub j (nb - 1) r q (TX z3) e4 eq) (Qm (hk3 i p z1 (Nat.add_lt_add_left z2 0) (by rw [Rg]; exact e3)))
  by_cases e4:k=0
  ·rw [if_pos (by simpa using e4)]
   exact OV (G0 _ (.inl ⟨_,rfl,Wk.jq ub e4⟩))
  rw [if_neg (by simpa using e4)]
  exact nY hC (by exact hk) ma mb fB Wk ua ub (US.mpr e4) lb eq dn1 (by lia) G0
 ·rw [if_neg hk0]
  exact nY hC (by exact hk) ma mb fB W ua ub la lb eq (λj r hj e3=>dn1 j r (by lia) e3) (by lia) G0
theorem yw {st:SortSt} (hC:iO prog w A s κ rk L) (hk:kindOf st=κ) (ma:∀ (i:Nat) (p:Keyed),a[i]?=some p->p∈L) (mb:∀ (i:Nat) (p:Keyed),b[i]?=some p->p∈L)
 (fB:∀ {out:Array Keyed} {na nb:Nat},WH rk a b out na nb->nb=1->Res rk a b (EA a b out na nb)) (ua:Up rk a) (ub:Up rk b) (hL:gT rk a b c.2.2.2.1 c.2.1 c.2.2.1) (hn:c.2.1+c.2.2.1<=n+1)
 (hQ:∀ o na nb out z y,EB rk a b n o na nb out->Q (.done (o,na,nb,out,z)) st/\(o=none->Q (.yield (none,na,nb,out,y)) st)):wpS (model prog w) A E s (Bx a b mg c) Q st:=by
 obtain ⟨_,na,nb,out,ac,bc⟩:=c
 unfold Bx
 dsimp only at hL hn |-
 have W:=hL.w
 have la:=hL.la
 have lb:=hL.lb
 have hpa:=W.pa
 have hpb:=W.pb
 obtain ⟨q,eq⟩:=some_at (xs:=b) (i:=nb - 1) (by lia)
 obtain ⟨p,ep⟩:=some_at (xs:=a) (i:=na - 1) (by lia)
 refine OU (aW eq (OU (aW ep (OU (lu hC hk (mb _ _ eq) (ma _ _ ep) ?_)))))
 dsimp only
 by_cases hw:rk q<rk p
 ·rw [decide_eq_true hw,if_pos rfl]
  have W1:=W.gj ua la ep λj r hj e=>PB (ub j (nb - 1) r q (TX hj) e eq) (Qm hw)
  refine OU (aW ep ?_)
  by_cases e3:na - 1=0
  ·rw [if_pos (by simpa using e3)]
   exact OV (hQ _ _ _ _ _ (0,0) (.inl ⟨_,rfl,W1.jq ub e3⟩)).1
  rw [if_neg (by simpa using e3)]
  have z:=hQ none (na - 1) nb (out.push p) (ac+1,0) (ac+1,0) (.inr ⟨rfl,⟨W1,US.mpr e3,lb⟩,by lia⟩)
  split
  ·exact OV z.1
  ·exact OV (z.2 rfl)
 ·rw [decide_eq_false hw,if_neg O5]
  have W1:=W.gi ub (Nat.le_of_succ_le lb) eq λj r hj e=>PB (ua j (na - 1) r p (TX hj) e ep) (Sv.mp hw)
  refine OU (aW eq ?_)
  by_cases e3:nb - 1=1
  ·rw [if_pos (by simpa using e3)]
   exact OV (hQ _ _ _ _ _ (0,0) (.inl ⟨_,rfl,fB W1 e3⟩)).1
  rw [if_neg (by simpa using e3)]
  have z:=hQ none na (nb - 1) (out.push q) (0,bc+1) (0,bc+1) (.inr ⟨rfl,⟨W1,la,by lia⟩,by lia⟩)
  split
  ·exact OV z.1
  ·exact OV (z.2 rfl)
theorem uD {st:SortSt} (hC:iO prog w A s κ rk L) (hk:kindOf st=κ) (ma:∀ (i:Nat) (p:Keyed),a[i]?=some p->p∈L) (mb:∀ (i:Nat) (p:Keyed),b[i]?=some p->p∈L)
 (fB:∀ {out:Array Keyed} {na nb:Nat},WH rk a b out na nb->nb=1->Res rk a b (EA a b out na nb)) (ua:Up rk a) (ub:Up rk b) (hL:gT rk a b c.2.2.2.1 c.2.1 c.2.2.1) (hn:c.2.1+c.2.2.1<=n+1) (hm:n+1<=a.size+b.size)
 (h1:∀ r z st',cK st st'->Res rk a b r->Q (.done (some r,z)) st') (h2:∀ na nb out g st',cK st st'->gT rk a b out na nb->na+nb<=n->Q (.yield (none,na,nb,out,g)) st'):wpS (model prog w) A E s (jr a b c) Q st:=by
 unfold jr
 refine OU (PD (Qc (I:=λy c st'=>st'=st/\c.1=none/\gT rk a b c.2.2.2.1 c.2.1 c.2.2.1/\y+c.2.1+c.2.2.1<=n+1) (Q:=λc st'=>st'=st/\EB rk a b n c.1 c.2.1 c.2.2.1 c.2.2.2.1) ?step ?fin ⟨rfl,rfl,hL,by dsimp only; lia⟩) ?post)
 case fin =>
  rintro c st' ⟨rfl,hc,hL',hx⟩
  exact ⟨rfl,.inr ⟨hc,hL',by lia⟩⟩
 case step =>
  rintro y c st' _ hy ⟨rfl,_,hL',hx⟩
  refine yw (n:=n - y) hC hk ma mb fB ua ub hL' (by have:=hL'.la; have:=hL'.lb; lia) λo na nb out z y hR=>⟨?_,?_⟩
  ·refine ⟨rfl,?_⟩
   rcases hR with hR | ⟨q1,q2,q3⟩
   ·exact .inl hR
   ·exact .inr ⟨q1,q2,by dsimp only; lia⟩
  ·rintro rfl
   rcases hR with ⟨_,q,_⟩ | ⟨q1,q2,q3⟩
   ·cases q
   ·exact ⟨rfl,rfl,q2,by have:=q2.la; have:=q2.lb; dsimp only; lia⟩
 case post =>
  rintro ⟨o,na,nb,out,ac,bc⟩ st' ⟨rfl,hR⟩
  dsimp only at hR |-
  rcases hR with ⟨r,rfl,hr⟩ | ⟨rfl,hL2,hn2⟩
  ·exact OV (h1 r _ _ (.refl _) hr)
  refine OU (Rv (Qg ⟨rfl,?_⟩))
  refine OU (PD (Qc (I:=λy c st''=>cK st' st''/\c.1=none/\gT rk a b c.2.2.2.1 c.2.1 c.2.2.1/\c.2.1+c.2.2.1<=n) (Q:=λc st''=>cK st' st''/\EB rk a b n c.1 c.2.1 c.2.2.1 c.2.2.2.1) ?gstep ?gfin ⟨.refl _,rfl,hL2,hn2⟩) ?gpost)
  case gfin=>exact λc st'' ⟨q1,q2,q3,q4⟩=>⟨q1,.inr ⟨q2,q3,q4⟩⟩
  case gstep =>
   rintro y c st'' _ _ ⟨q1,q2,q3,q4⟩
   have key:wpS (model prog w) A E s (Bw a b c) (λx st3=>cK st'' st3/\EC rk a b n x) st'':=by
    unfold Bw
    split
    ·exact nZ hC (q1.k.trans hk) ma mb fB ua ub q3 q4 λx st3 k h=>⟨k,h⟩
    ·exact nZ hC (q1.k.trans hk) ma mb fB ua ub q3 q4 λx st3 k h=>⟨k,h⟩
   refine PD key λx st3 ⟨k,h⟩=>?_
   cases x with
   | done c=>exact ⟨q1.trans k,h⟩
   | yield c=>exact ⟨q1.trans k,h⟩
  case gpost =>
   rintro ⟨o,na,nb,out,g,ac,bc⟩ st'' ⟨q1,hR⟩
   dsimp only at hR |-
   rcases hR with ⟨r,rfl,hr⟩ | ⟨rfl,hL3,hn3⟩
   ·exact OV (h1 r _ _ q1 hr)
   ·exact OU (fJ (OV (h2 _ _ _ _ _ (q1.min _) hL3 hn3)))
theorem rL {st:SortSt} (hC:iO prog w A s κ rk L) (hk:kindOf st=κ) (ma:∀ (i:Nat) (p:Keyed),a[i]?=some p->p∈L) (mb:∀ (i:Nat) (p:Keyed),b[i]?=some p->p∈L) (ua:Up rk a) (ub:Up rk b) (na1:1<=a.size) (nb1:1<=b.size)
 (h0:∀ p q,a[0]?=some p->b[0]?=some q->rk q<=rk p) (hl:∀ (j:Nat) (p q:Keyed),a[a.size - 1]?=some p->b[j]?=some q->rk q<=rk p) (h:∀ r st',Res rk a b r->cK st st'->Q r st'):wpS (model prog w) A E s (lD a b) Q st:=by
 obtain ⟨p0,ep0⟩:=some_at (xs:=a) (i:=0) na1
 have firstB:∀ {out:Array Keyed} {na nb:Nat},WH rk a b out na nb->nb=1->Res rk a b (EA a b out na nb):=λhw e=>hw.first ua e λj p q e1 e2=>PB (h0 p0 q ep0 e2) (ua 0 j p0 p (PK _) ep0 e1)
 obtain ⟨pl,epl⟩:=some_at (xs:=a) (i:=a.size - 1) (by lia)
 have W0:WH rk a b #[pl] (a.size - 1) b.size:=by
  have z:WH rk a b #[] a.size b.size:=⟨OT _,OT _,by simp,SN,by simp,by simp⟩
  exact z.gj ua na1 epl λj q _ e=>hl j pl q epl e
 rw [rK]
 refine OU (Rv (Qg ⟨rfl,?_⟩))
 refine OU (aW epl ?_)
 by_cases e1:a.size - 1=0
 ·rw [if_pos (by simpa using e1)]
  exact OV (h _ _ (W0.jq ub e1) (.refl _))
 rw [if_neg (by simpa using e1)]
 by_cases e2:b.size=1
 ·rw [if_pos (by simpa using e2)]
  exact OV (h _ _ (firstB W0 e2) (.refl _))
 rw [if_neg (by simpa using e2)]
 refine OU (Qz ?_)
 refine OU (PD (Qc (I:=λx c st'=>cK st st'/\c.1=none/\gT rk a b c.2.2.2.1 c.2.1 c.2.2.1/\x+c.2.1+c.2.2.1<a.size+b.size) (Q:=λc st'=>cK st st'/\∃ r,c.1=some r/\Res rk a b r) ?step ?fin ⟨.refl _,rfl,⟨W0,by dsimp only; lia,by dsimp only; lia⟩,by dsimp only; lia⟩) ?post)
 case fin =>
  rintro c st' ⟨hK,hc,hL,hx⟩
  have h1:=hL.la
  lia
 case post =>
  rintro c st' ⟨hK,r,hc,hr⟩
  rw [hc]
  exact OV (h r st' hr hK)
 case step =>
  rintro x c st1 _ hx ⟨hK,_,hL,hn⟩
  have l1:=hL.la
  have l2:=hL.lb
  exact uD (n:=a.size+b.size - x - 2) hC (hK.k.trans hk) ma mb firstB ua ub hL (by lia) (by lia) (λr z st' k hr=>⟨hK.trans k,r,rfl,hr⟩) λna nb out g st' k q1 q2=>⟨hK.trans k,rfl,q1,by have:=q1.la; dsimp only; lia⟩
def Seg (rk:Keyed->Int) (xs:Array Keyed) (lo hi:Nat):Prop:=∀ i j,lo<=i->i<=j->j<hi->R rk xs i<=R rk xs j
def GF (rk:Keyed->Int) (xs:Array Keyed) (lo hi:Nat):Prop:=∀ i j,lo<=i->i<=j->j<hi->R rk xs j<=R rk xs i
structure Bs (κ:SortKind) (L:List Keyed) (st:SortSt):Prop where
 perm:(arrOf st).toList.Perm L
 kind:kindOf st=κ
 failed:failedOf st=none
structure Mv (st st':SortSt) (lo hi:Nat):Prop where
 out:∀ i,i<lo\/hi<=i->(arrOf st')[i]?=(arrOf st)[i]?
 pend:pendingOf st'=pendingOf st
section
variable {st st' st'':SortSt} {lo hi:Nat}
theorem Bs.size (h:Bs κ L st):(arrOf st).size=L.length:=by simpa using h.perm.length_eq
theorem Bs.at (h:Bs κ L st) (hi:i<L.length):∃ p,(arrOf st)[i]?=some p/\p∈L:=by
 have hs:=h.size
 refine ⟨(arrOf st)[i]'(by lia),Pj _,h.perm.mem_iff.mp ?_⟩
 rw [U0]; exact Vs _
theorem Bs.arr (h:Bs κ L st) (hp:xs.toList.Perm (arrOf st).toList):Bs κ L (setArr st xs):=⟨hp.trans h.perm,h.kind,h.failed⟩
theorem Mv.refl:Mv st st lo hi:=⟨λ_ _=>rfl,rfl⟩
theorem Mv.trans (a:Mv st st' lo hi) (b:Mv st' st'' lo hi):Mv st st'' lo hi:=⟨λi h=>(b.out i h).trans (a.out i h),b.pend.trans a.pend⟩
theorem By (hj:j<=xs.size) (k):R rk (mirror xs i j ((j - i) / 2)) k=if i<=k/\k<j then R rk xs (i+j - 1 - k) else R rk xs k:=by
 have e:=getElem?_mirror_all (i:=i) hj k
 by_cases h:i<=k/\k<j
 ·rw [if_pos h] at e |-; exact cu e
 ·rw [if_neg h] at e |-; exact cu e
theorem lE (hj:j<=(arrOf st).size) (h1:lo<=i) (h2:j<=hi):Mv st (setArr st (mirror (arrOf st) i j ((j - i) / 2))) lo hi :=
 ⟨λk hk=>by
   have e:=getElem?_mirror_all (i:=i) hj k
   rw [if_neg (by lia)] at e; exact e,rfl⟩
theorem ED (i) (xs):Seg rk xs i (i+1):=λa b h1 h2 h3=>by
 have:a=b:=by lia
 subst this; exact PV _
theorem BA (h:Seg rk xs lo (lo+n)) (hn:1<=n) (hl:¬ R rk xs (lo+n)<R rk xs (lo+n - 1)):Seg rk xs lo (lo+(n+1)):=λa b h1 h2 h3=>by
 by_cases hb:b<lo+n
 ·exact h a b h1 h2 hb
 ·have e:b=lo+n:=by lia
  subst e
  by_cases ha:a=lo+n
  ·subst ha; exact PV _
  ·exact PB (h a (lo+n - 1) h1 (by lia) (by lia)) (Sv.mp hl)
theorem gm (h:GF rk xs lo (lo+n)) (hn:1<=n) (hl:R rk xs (lo+n)<=R rk xs (lo+n - 1)):GF rk xs lo (lo+(n+1)):=λa b h1 h2 h3=>by
 by_cases hb:b<lo+n
 ·exact h a b h1 h2 hb
 ·have e:b=lo+n:=by lia
  subst e
  by_cases ha:a=lo+n
  ·subst ha; exact PV _
  ·exact PB hl (h a (lo+n - 1) h1 (by lia) (by lia))
end
section
variable {st:SortSt} {lo nrem:Nat}
theorem lF (hC:iO prog w A s κ rk L) (hB:Bs κ L st) (hi:i<L.length) (hj:j<L.length) (h:Q (some (decide (R rk (arrOf st) i<R rk (arrOf st) j))) st):wpS (model prog w) A E s (ltAt' i j) Q st:=by
 obtain ⟨p,ep,hp⟩:=hB.at hi
 obtain ⟨q,eq,hq⟩:=hB.at hj
 exact yu hC hB.kind ep eq hp hq h
theorem dW (h:Q () (setArr st (mirror (arrOf st) i j ((j - i) / 2)))):wpS (model prog w) A E s (reverseSlice' i j) Q st :=
 QN (f:=λs=>setArr s (mirror (arrOf s) i j ((j - i) / 2))) h
noncomputable abbrev LK:=Option (Option Nat)×Nat
noncomputable def asc (lo a nrem:Nat):StateT SortSt Sem LK :=
 forIn [a:nrem] ((none,a):LK) λ_ c=>ltAt' (lo+c.2) (lo+c.2 - 1) >>= λx=>match x with
  | some smaller=>if smaller=true then pure (Qw (none,c.2)) else pure (PU (none,c.2+1))
  | _=>pure (Qw (some none,c.2))
theorem wO (hC:iO prog w A s κ rk L) (hB:Bs κ L st) (hn:lo+nrem<=L.length) (h1:1<=a) (h2:a<=nrem) (hs:Seg rk (arrOf st) lo (lo+a))
 (h:∀ n,a<=n->n<=nrem->Seg rk (arrOf st) lo (lo+n)->(n=nrem\/R rk (arrOf st) (lo+n)<R rk (arrOf st) (lo+n - 1))->Q (none,n) st):wpS (model prog w) A E s (asc lo a nrem) Q st:=by
 unfold asc
 refine Qc (I:=λx c st'=>st'=st/\c=(none,x)/\Seg rk (arrOf st) lo (lo+x)) ?step ?fin ⟨rfl,rfl,hs⟩
 case fin =>
  rintro c st' ⟨rfl,rfl,hs'⟩
  rw [show max a nrem=nrem by lia] at hs' |-
  exact h nrem h2 (OT _) hs' (.inl rfl)
 case step =>
  rintro x c st' hax hxn ⟨rfl,rfl,hs'⟩
  refine OU (lF hC hB (by dsimp only; lia) (by dsimp only; lia) ?_)
  dsimp only
  by_cases hl:R rk (arrOf st') (lo+x)<R rk (arrOf st') (lo+x - 1)
  ·rw [decide_eq_true hl,if_pos rfl]
   exact OV (h x hax (by lia) hs' (.inr hl))
  ·rw [decide_eq_false hl,if_neg O5]
   exact OV ⟨rfl,rfl,BA hs' (by lia) hl⟩
noncomputable abbrev LL:=Option (Option Nat)×Nat×Nat
noncomputable def LM (lo n nrem:Nat):StateT SortSt Sem LL :=
 forIn [n:nrem] ((none,n,0):LL) λ_ c=>ltAt' (lo+c.2.1) (lo+c.2.1 - 1) >>= λx=>match x with
  | some smaller=>if smaller=true then
   (if c.2.2>0 then reverseSlice' (lo+c.2.1 - (c.2.2+1)) (lo+c.2.1) >>= λ_=>pure (PU (none,c.2.1+1,0)) else pure (PU (none,c.2.1+1,0)))
   else ltAt' (lo+c.2.1 - 1) (lo+c.2.1) >>= λy=>match y with
    | some larger=>if larger=true then pure (Qw (none,c.2.1,c.2.2)) else pure (PU (none,c.2.1+1,c.2.2+1))
    | _=>pure (Qw (some none,c.2.1,c.2.2))
  | _=>pure (Qw (some none,c.2.1,c.2.2))
theorem iR (hj:j<=xs.size) (he:∀ k,i<=k->k<j->R rk xs k=R rk xs (j - 1)) (k):R rk (mirror xs i j ((j - i) / 2)) k=R rk xs k:=by
 rw [By hj]
 split
 ·rw [he _ (by lia) (by lia),he k (by lia) (by lia)]
 ·rfl
theorem EE (hC:iO prog w A s κ rk L) (hB:Bs κ L st) (hn:lo+nrem<=L.length) (h1:1<=n) (h2:n<=nrem) (hs:GF rk (arrOf st) lo (lo+n))
 (h:∀ m neq st',Bs κ L st'->Mv st st' lo (lo+nrem)->n<=m->m<=nrem->GF rk (arrOf st') lo (lo+m)->neq+1<=m->(∀ i,lo+m - (neq+1)<=i->i<lo+m->R rk (arrOf st') i=R rk (arrOf st') (lo+m - 1))->Q (none,m,neq) st') :
 wpS (model prog w) A E s (LM lo n nrem) Q st:=by
 unfold LM
 refine Qc (I:=λx c st'=>∃ neq,c=(none,x,neq)/\Bs κ L st'/\Mv st st' lo (lo+nrem)/\GF rk (arrOf st') lo (lo+x)/\neq+1<=x/\(∀ i,lo+x - (neq+1)<=i->i<lo+x->R rk (arrOf st') i=R rk (arrOf st') (lo+x - 1))) ?step ?fin
  ⟨0,rfl,hB,.refl,hs,h1,λi a1 a2=>by congr 1; lia⟩
 case fin =>
  rintro c st' ⟨neq,rfl,jG,hM',hs',hq,he⟩
  rw [show max n nrem=nrem by lia] at hs' hq he |-
  exact h nrem neq st' jG hM' h2 (OT _) hs' hq he
 case step =>
  rintro x c st' hax hxn ⟨neq,rfl,jG,hM',hs',hq,he⟩
  have hsz:=jG.size
  refine OU (lF hC jG (by dsimp only; lia) (by dsimp only; lia) ?_)
  dsimp only
  by_cases hl:R rk (arrOf st') (lo+x)<R rk (arrOf st') (lo+x - 1)
  ·rw [decide_eq_true hl,if_pos rfl]
   by_cases hq0:neq>0
   ·rw [if_pos hq0]
    have key:=iR (rk:=rk) (xs:=arrOf st') (i:=lo+x - (neq+1)) (j:=lo+x) (by lia) he
    refine OU (dW (OV ⟨0,rfl,jG.arr (RW.mp (Ti _ _ _ _)),hM'.trans (lE (by lia) (by lia) (by lia)),?_,by lia,λi a1 a2=>by congr 1; lia⟩))
    refine gm (λa b z1 z2 z3=>?_) (by lia) ?_
    ·show R rk (mirror _ _ _ _) b<=R rk (mirror _ _ _ _) a
     rw [key,key]; exact hs' a b z1 z2 z3
    ·show R rk (mirror _ _ _ _) _<=R rk (mirror _ _ _ _) _
     rw [key,key]; lia
   ·rw [if_neg hq0]
    exact OV ⟨0,rfl,jG,hM',gm hs' (by lia) (by lia),by lia,λi a1 a2=>by congr 1; lia⟩
  ·rw [decide_eq_false hl,if_neg O5]
   refine OU (lF hC jG (by lia) (by lia) ?_)
   dsimp only
   by_cases hg:R rk (arrOf st') (lo+x - 1)<R rk (arrOf st') (lo+x)
   ·rw [decide_eq_true hg,if_pos rfl]
    exact OV (h x neq st' jG hM' hax (by lia) hs' hq he)
   ·rw [decide_eq_false hg,if_neg O5]
    have heq:R rk (arrOf st') (lo+x)=R rk (arrOf st') (lo+x - 1):=by lia
    refine OV ⟨neq+1,rfl,jG,hM',gm hs' (by lia) (by lia),by lia,λi a1 a2=>?_⟩
    rw [show lo+(x+1) - 1=lo+x by lia]
    by_cases hi:i=lo+x
    ·rw [hi]
    ·rw [heq]; exact he i (by lia) (by lia)
noncomputable def countRun':Nat->Nat->StateT SortSt Sem (Option Nat):=sortPriv% PySem.Builtin.countRun
theorem iS {Q:Option Nat->SortSt->Prop} (hC:iO prog w A s κ rk L) (hB:Bs κ L st) (hn:lo+nrem<=L.length) (h1:1<=n) (h2:n<=nrem) (hs:GF rk (arrOf st) lo (lo+n))
 (h:∀ m st',Bs κ L st'->Mv st st' lo (lo+nrem)->1<=m->m<=nrem->Seg rk (arrOf st') lo (lo+m)->Q (some m) st') :
 wpS (model prog w) A E s (asc lo n nrem) (λc st'=>c.1=none/\Q (some c.2) st') (setArr st (mirror (arrOf st) lo (lo+n) ((lo+n - lo) / 2))):=by
 have hsz:=hB.size
 have jG:=hB.arr (RW.mp (Ti (arrOf st) lo (lo+n) ((lo+n - lo) / 2)))
 refine wO hC jG hn h1 h2 (λa b z1 z2 z3=>?_) λm m1 m2 ms _=>⟨rfl,h m _ jG (lE (by lia) (OT _) (by lia)) (by lia) m2 ms⟩
 show R rk (mirror _ _ _ _) a<=R rk (mirror _ _ _ _) b
 rw [By (by lia),By (by lia),if_pos (by lia),if_pos (by lia)]
 exact hs _ _ (by lia) (by lia) (by lia)
local macro_rules | `(tactic| walk_at "dl countRun")=>do
 let i:=RJ (Ry `PySem.Builtin.List.W1All `PySem.Builtin.countRun)
 `(tactic| delta $i)
theorem wpS_countRun (hC:iO prog w A s κ rk L) (hB:Bs κ L st) (hn:lo+nrem<=L.length) (h1:1<=nrem)
 (h:∀ m st',Bs κ L st'->Mv st st' lo (lo+nrem)->1<=m->m<=nrem->Seg rk (arrOf st') lo (lo+m)->Q (some m) st'):wpS (model prog w) A E s (countRun' lo nrem) Q st:=by
 unfold countRun'
 walk_at "dl countRun"
 dsimp only
 have hsz:=hB.size
 refine OU (show wpS _ _ _ _ (asc lo 1 nrem) _ _ from wO hC hB hn (OT _) h1 (ED lo _) λn n1 n2 ns nor=>?_)
 dsimp only
 by_cases hnn:n=nrem
 ·rw [if_pos (by simpa using hnn)]
  exact OV (h n st hB .refl n1 n2 ns)
 rw [if_neg (by simpa using hnn)]
 have hlt:=nor.resolve_left hnn
 have rest:∀ (st1:SortSt),Bs κ L st1->Mv st st1 lo (lo+nrem)->GF rk (arrOf st1) lo (lo+(n+1))->wpS (model prog w) A E s (LM lo (n+1) nrem) (λc st2=>Bs κ L st2/\Mv st st2 lo (lo+nrem)/\c.1=none/\n+1<=c.2.1/\c.2.1<=nrem/\GF rk (arrOf st2) lo (lo+c.2.1)/\c.2.2+1<=c.2.1/\(∀ i,lo+c.2.1 - (c.2.2+1)<=i->i<lo+c.2.1->R rk (arrOf st2) i=R rk (arrOf st2) (lo+c.2.1 - 1))) st1 :=
  λst1 hB1 hM1 hs1=>EE hC hB1 hn (by lia) (by lia) hs1 λm neq st2 a1 a2 a3 a4 a5 a6 a7=>⟨a1,hM1.trans a2,rfl,a3,a4,a5,a6,a7⟩
 by_cases hgt:n>1
 ·rw [if_pos hgt]
  refine OU (lF hC hB (by lia) (by lia) ?_)
  dsimp only
  by_cases hrose:R rk (arrOf st) lo<R rk (arrOf st) (lo+n - 1)
  ·rw [decide_eq_true hrose,if_pos rfl]
   exact OV (h n st hB .refl n1 n2 ns)
  ·rw [decide_eq_false hrose,if_neg O5]
   have hall:∀ k,lo<=k->k<lo+n->R rk (arrOf st) k=R rk (arrOf st) (lo+n - 1):=λk z1 z2=>by
    have a1:=ns lo k (OT _) z1 z2
    have a2:=ns k (lo+n - 1) z1 (by lia) (by lia)
    lia
   have key:=iR (rk:=rk) (xs:=arrOf st) (i:=lo) (j:=lo+n) (by lia) hall
   refine OU (dW ?_)
   refine OU (Rv (Qg ⟨rfl,?_⟩))
   refine OU (PD (show wpS _ _ _ _ (LM lo (n+1) nrem) _ _ from rest _ (hB.arr (RW.mp (Ti _ _ _ _))) (lE (by lia) (OT _) (by lia)) (gm (λa b z1 z2 z3=>?_) (by lia) ?_)) λc st2 hc=>?_)
   ·show R rk (mirror _ _ _ _) b<=R rk (mirror _ _ _ _) a
    rw [key,key,hall b (by lia) z3,hall a z1 (by lia)]; exact PV _
   ·show R rk (mirror _ _ _ _) _<=R rk (mirror _ _ _ _) _
    rw [key,key]; lia
   ·obtain ⟨r,m,neq⟩:=c
    obtain ⟨b1,b2,b3,b4,b5,b6,b7,b8⟩:=hc
    dsimp only at b3 b4 b5 b6 b7 b8 |-
    rw [b3]
    dsimp only
    by_cases hq0:neq>0
    ·rw [if_pos hq0]
     have hsz2:=b1.size
     have key2:=iR (rk:=rk) (xs:=arrOf st2) (i:=lo+m - (neq+1)) (j:=lo+m) (by lia) b8
     refine OU (dW (OU (dW (OU (PD (show wpS _ _ _ _ (asc lo m nrem) _ _ from iS (Q:=Q) hC (b1.arr (RW.mp (Ti _ _ _ _))) hn (by lia) b5 (λa b z1 z2 z3=>?_) λk st3 c1 c2 c3 c4 c5=>h k st3 c1 ((b2.trans (lE (by lia) (by lia) (by lia))).trans c2) c3 c4 c5) λc st4 hc=>?_)))))
     ·show R rk (mirror _ _ _ _) b<=R rk (mirror _ _ _ _) a
      rw [key2,key2]; exact b6 a b z1 z2 z3
     ·obtain ⟨r,k⟩:=c
      obtain ⟨e,hQ⟩:=hc
      dsimp only at e hQ |-
      rw [e]
      exact OV hQ
    ·rw [if_neg hq0]
     refine OU (dW (OU (PD (show wpS _ _ _ _ (asc lo m nrem) _ _ from iS (Q:=Q) hC b1 hn (by lia) b5 b6 λk st3 c1 c2 c3 c4 c5=>h k st3 c1 (b2.trans c2) c3 c4 c5) λc st4 hc=>?_)))
     obtain ⟨r,k⟩:=c
     obtain ⟨e,hQ⟩:=hc
     dsimp only at e hQ |-
     rw [e]
     exact OV hQ
 ·rw [if_neg hgt]
  have e1:n=1:=by lia
  subst e1
  refine OU (Rv (Qg ⟨rfl,?_⟩))
  refine OU (PD (show wpS _ _ _ _ (LM lo (1+1) nrem) _ _ from rest st hB .refl (gm (λa b z1 z2 z3=>?_) (OT _) (Qm hlt))) λc st2 hc=>?_)
  ·have:a=b:=by lia
   subst this; exact PV _
  ·obtain ⟨r,m,neq⟩:=c
   obtain ⟨b1,b2,b3,b4,b5,b6,b7,b8⟩:=hc
   dsimp only at b3 b4 b5 b6 b7 b8 |-
   rw [b3]
   dsimp only
   by_cases hq0:neq>0
   ·rw [if_pos hq0]
    have hsz2:=b1.size
    have key2:=iR (rk:=rk) (xs:=arrOf st2) (i:=lo+m - (neq+1)) (j:=lo+m) (by lia) b8
    refine OU (dW (OU (dW (OU (PD (show wpS _ _ _ _ (asc lo m nrem) _ _ from iS (Q:=Q) hC (b1.arr (RW.mp (Ti _ _ _ _))) hn (by lia) b5 (λa b z1 z2 z3=>?_) λk st3 c1 c2 c3 c4 c5=>h k st3 c1 ((b2.trans (lE (by lia) (by lia) (by lia))).trans c2) c3 c4 c5) λc st4 hc=>?_)))))
    ·show R rk (mirror _ _ _ _) b<=R rk (mirror _ _ _ _) a
     rw [key2,key2]; exact b6 a b z1 z2 z3
    ·obtain ⟨r,k⟩:=c
     obtain ⟨e,hQ⟩:=hc
     dsimp only at e hQ |-
     rw [e]
     exact OV hQ
   ·rw [if_neg hq0]
    refine OU (dW (OU (PD (show wpS _ _ _ _ (asc lo m nrem) _ _ from iS (Q:=Q) hC b1 hn (by lia) b5 b6 λk st3 c1 c2 c3 c4 c5=>h k st3 c1 (b2.trans c2) c3 c4 c5) λc st4 hc=>?_)))
    obtain ⟨r,k⟩:=c
    obtain ⟨e,hQ⟩:=hc
    dsimp only at e hQ |-
    rw [e]
    exact OV hQ
end
section
variable {st:SortSt} {lo:Nat}
theorem GG (hs:src<xs.size) (hd:d<=src) (k):R rk (bubble xs src d) k=if k=src - d then R rk xs src else if src - d<k/\k<=src then R rk xs (k - 1) else R rk xs k:=by
 have e:=getElem?_bubble hs d hd k
 by_cases h1:k=src - d
 ·rw [if_pos h1] at e |-; exact cu e
 ·rw [if_neg h1] at e |-
  by_cases h2:src - d<k/\k<=src
  ·rw [if_pos h2] at e |-; exact cu e
  ·rw [if_neg h2] at e |-; exact cu e
theorem BB (h:Q () (setArr st (bubble (arrOf st) i (i - j)))):wpS (model prog w) A E s (moveDown' i j) Q st :=
 QN (f:=λs=>setArr s (bubble (arrOf s) i (i - j))) h
noncomputable def binarySort':Nat->Nat->Nat->StateT SortSt Sem Bool:=sortPriv% PySem.Builtin.binarySort
local macro_rules | `(tactic| walk_at "dl binarySort")=>do
 let i:=RJ (Ry `PySem.Builtin.List.W1All `PySem.Builtin.binarySort)
 `(tactic| delta $i)
theorem wpS_binarySort (hC:iO prog w A s κ rk L) (hB:Bs κ L st) (hn:lo+n<=L.length) (hok:ok<=n) (hs:Seg rk (arrOf st) lo (lo+ok))
 (h:∀ st',Bs κ L st'->Mv st st' lo (lo+n)->Seg rk (arrOf st') lo (lo+n)->Q true st'):wpS (model prog w) A E s (binarySort' lo n ok) Q st:=by
 unfold binarySort'
 walk_at "dl binarySort"
 dsimp only
 refine OU (PD (Qc (I:=λk c st'=>c.1=none/\Bs κ L st'/\Mv st st' lo (lo+n)/\Seg rk (arrOf st') lo (lo+min k n)) (Q:=λc st'=>c.1=none/\Bs κ L st'/\Mv st st' lo (lo+n)/\Seg rk (arrOf st') lo (lo+n)) ?step ?fin ?init) ?post)
 case post =>
  rintro ⟨c,u⟩ st' ⟨hc,jG,hM',hs'⟩
  dsimp only at hc |-
  rw [hc]
  exact OV (h st' jG hM' hs')
 case init =>
  refine ⟨rfl,hB,.refl,λa b z1 z2 z3=>?_⟩
  by_cases h1:ok=0
  ·have:a=b:=by lia
   subst this; exact PV _
  ·exact hs a b z1 z2 (by lia)
 case fin =>
  rintro c st' ⟨hc,jG,hM',hs'⟩
  rw [show min (max (max ok 1) n) n=n by lia] at hs'
  exact ⟨hc,jG,hM',hs'⟩
 case step =>
  rintro k ⟨c,u⟩ st' hak hkn ⟨rfl,jG,hM',hs'⟩
  rw [show min k n=k by lia] at hs'
  have hsz:=jG.size
  refine OU (PD (Qc (I:=λx c st2=>st2=st'/\∃ l r,c=(none,l,r)/\l<=r/\r<=k/\r - l<=k - x/\(∀ i,i<l->R rk (arrOf st') (lo+i)<=R rk (arrOf st') (lo+k))/\(∀ i,r<=i->i<k->R rk (arrOf st') (lo+k)<R rk (arrOf st') (lo+i)))
   (Q:=λc st2=>st2=st'/\∃ l r,c=(none,l,r)/\l<=k/\(∀ i,i<l->R rk (arrOf st') (lo+i)<=R rk (arrOf st') (lo+k))/\(∀ i,l<=i->i<k->R rk (arrOf st') (lo+k)<R rk (arrOf st') (lo+i))) ?istep ?ifin ⟨rfl,0,k,rfl,by lia,by lia,by lia,λi hi=>by lia,λi h1 h2=>by lia⟩) ?ipost)
  case ifin =>
   rintro c st2 ⟨rfl,l,r,rfl,a1,a2,a3,a4,a5⟩
   have:l=r:=by lia
   subst this
   exact ⟨rfl,l,l,rfl,a2,a4,a5⟩
  case istep =>
   rintro x c st2 _ hx ⟨rfl,l,r,rfl,a1,a2,a3,a4,a5⟩
   dsimp only
   by_cases hge:l>=r
   ·rw [if_pos hge]
    have:l=r:=by lia
    subst this
    exact OV ⟨rfl,l,l,rfl,a2,a4,a5⟩
   ·rw [if_neg hge]
    refine OU (lF hC jG (by lia) (by lia) ?_)
    dsimp only
    by_cases hl:R rk (arrOf st2) (lo+k)<R rk (arrOf st2) (lo+(l+r) / 2)
    ·rw [decide_eq_true hl,if_pos rfl]
     refine OV ⟨rfl,l,(l+r) / 2,rfl,by lia,by lia,by lia,a4,λi h1 h2=>?_⟩
     exact Int.lt_of_lt_of_le hl (hs' _ _ (by lia) (by lia) (by lia))
    ·rw [decide_eq_false hl,if_neg O5]
     refine OV ⟨rfl,(l+r) / 2+1,r,rfl,by lia,by lia,by lia,λi h1=>?_,a5⟩
     exact PB (hs' (lo+i) (lo+(l+r) / 2) (by lia) (by lia) (by lia)) (Sv.mp hl)
  case ipost =>
   rintro c st2 ⟨rfl,l,r,rfl,hlk,a4,a5⟩
   dsimp only
   have e1:lo+k - (lo+l)=k - l:=by lia
   refine OU (BB (OV ⟨rfl,jG.arr (RW.mp (bubble_perm _ _ _)),?_,?_⟩))
   ·refine hM'.trans ⟨λi hi=>?_,rfl⟩
    have e:=getElem?_bubble (xs:=arrOf st2) (src:=lo+k) (by lia) (lo+k - (lo+l)) (by lia) i
    rw [if_neg (by lia),if_neg (by lia)] at e
    exact e
   ·rw [show min (k+1) n=k+1 by lia]
    intro i j hi hij hj
    show R rk (bubble (arrOf st2) (lo+k) (lo+k - (lo+l))) i<=R rk (bubble (arrOf st2) (lo+k) (lo+k - (lo+l))) j
    rw [GG (by lia) (by lia),GG (by lia) (by lia),e1]
    have sub:∀ i,lo<=i->lo+(i - lo)=i:=λi hi=>by lia
    have f4:∀ i,lo<=i->i<lo+l->R rk (arrOf st2) i<=R rk (arrOf st2) (lo+k):=λi h1 h2=>by have:=a4 (i - lo) (by lia); rwa [sub i h1] at this
    have f5:∀ i,lo+l<=i->i<lo+k->R rk (arrOf st2) (lo+k)<R rk (arrOf st2) i:=λi h1 h2=>by have:=a5 (i - lo) (by lia) (by lia); rwa [sub i (by lia)] at this
    repeat' split
    all_goals first
     | (exfalso; lia)
     | exact PV _
     | exact f4 _ (by lia) (by lia)
     | exact Qm (f5 _ (by lia) (by lia))
     | exact hs' _ _ (by lia) (by lia) (by lia)
theorem n5:∀ (l:List Keyed) (k sa:Nat) (A:Array Keyed),sa+k+l.length<=A.size->((l.zipIdx k).foldl (λa (x:Keyed×Nat)=>a.setIfInBounds (sa+x.2) x.1) A).size=A.size /\
 ∀ i:Nat,((l.zipIdx k).foldl (λa (x:Keyed×Nat)=>a.setIfInBounds (sa+x.2) x.1) A)[i]?=if sa+k<=i/\i<sa+k+l.length then l[i - (sa+k)]? else A[i]?
 | [],k,sa,A,h=>⟨rfl,λi=>by rw [if_neg (by simp only [QK]; lia)]; rfl⟩
 | x::l,k,sa,A,h=>by
  rw [Pu] at h
  obtain ⟨h1,h2⟩:=n5 l (k+1) sa (A.setIfInBounds (sa+k) x) (by rw [Array.size_setIfInBounds]; lia)
  rw [Vu,Ra]
  refine ⟨by rw [h1,Array.size_setIfInBounds],λi=>?_⟩
  rw [h2 i,Pu]
  by_cases c1:sa+(k+1)<=i/\i<sa+(k+1)+l.length
  ·rw [if_pos c1,if_pos (by lia),show i - (sa+k)=i - (sa+(k+1))+1 by lia,List.getElem?_cons_succ]
  ·rw [if_neg c1]
   by_cases c2:i=sa+k
   ·subst c2
    rw [if_pos (by lia),Nat.sub_self,List.getElem?_cons_zero,Array.getElem?_setIfInBounds_self_of_lt (by lia)]
   ·rw [if_neg (by lia),Array.getElem?_setIfInBounds_ne (by lia)]
end
noncomputable def g6:Nat->StateT SortSt Sem Bool:=sortPriv% PySem.Builtin.mergeAt
local macro_rules | `(tactic| walk_at "dl mergeAt")=>do
 let i:=RJ (Ry `PySem.Builtin.List.W1All `PySem.Builtin.mergeAt)
 `(tactic| delta $i)
section
variable {st:SortSt}
theorem EF (h:Q ⟨⟩ st1):wpS M A E s (set st1:StateT SortSt Sem PUnit) Q st:=by
 unfold wpS; rw [StateT.run_set]; exact OS ⟨rfl,h⟩
theorem yx (hC:iO prog w A s κ rk L) (hk:kindOf st=κ) (hkey:key∈L) (mx:∀ (i:Nat) (p:Keyed),xs[i]?=some p->p∈L) (hn:base+n<=xs.size) (us:Seg rk xs base (base+n)) (hh:hint<n)
 (h:∀ k,k<=n->(∀ i,base<=i->i<base+k->R rk xs i<=rk key)->(∀ i,base+k<=i->i<base+n->rk key<R rk xs i)->Q (some k) st):wpS (model prog w) A E s (cI false key xs base n hint) Q st:=by
 obtain ⟨k,h1,h2⟩:=lB (λi=>R rk xs (base+i)) (rk key) n λi j hij hj=>us _ _ (by lia) (by lia) (by lia)
 refine fH hC hk hkey (λi hi=>⟨xs[base+i]'(by lia),Pj _,mx _ _ (Pj _)⟩) (λi hi=>by simp only [P5,if_false]; exact h2 i hi) h1 hh (h k h1 (λi hi hk=>?_) λi hi hk=>?_)
 ·have:=(h2 (i - base) (by lia)).mpr (by lia)
  rwa [show base+(i - base)=i by lia] at this
 ·have:=mt (h2 (i - base) (by lia)).mp (by lia)
  rw [show base+(i - base)=i by lia] at this
  lia
theorem yy (hC:iO prog w A s κ rk L) (hk:kindOf st=κ) (hkey:key∈L) (mx:∀ (i:Nat) (p:Keyed),xs[i]?=some p->p∈L) (hn:base+n<=xs.size) (us:Seg rk xs base (base+n)) (hh:hint<n)
 (h:∀ k,k<=n->(∀ i,base<=i->i<base+k->R rk xs i<rk key)->(∀ i,base+k<=i->i<base+n->rk key<=R rk xs i)->Q (some k) st):wpS (model prog w) A E s (cI true key xs base n hint) Q st:=by
 obtain ⟨k,h1,h2⟩:=lC (λi=>R rk xs (base+i)) (rk key) n λi j hij hj=>us _ _ (by lia) (by lia) (by lia)
 refine fH hC hk hkey (λi hi=>⟨xs[base+i]'(by lia),Pj _,mx _ _ (Pj _)⟩) (λi hi=>by simp only [if_true]; exact h2 i hi) h1 hh (h k h1 (λi hi hk=>?_) λi hi hk=>?_)
 ·have:=(h2 (i - base) (by lia)).mpr (by lia)
  rwa [show base+(i - base)=i by lia] at this
 ·have:=mt (h2 (i - base) (by lia)).mp (by lia)
  rw [show base+(i - base)=i by lia] at this
  lia
theorem dX {xs:Array Keyed} (h:(xs.extract i j)[m]?=some p):xs[i+m]?=some p/\i+m<j:=by
 rw [TV] at h
 split at h
 ·exact ⟨h,by lia⟩
 ·cases h
theorem wQ {lo hi i j:Nat} (h:Seg rk xs lo hi) (h1:lo<=i) (h2:j<=hi):Up rk (xs.extract i j):=λa b p q hab e1 e2=>by
 obtain ⟨f1,g1⟩:=dX e1
 obtain ⟨f2,g2⟩:=dX e2
 have:=h (i+a) (i+b) (by lia) (by lia) (by lia)
 rwa [dz f1,dz f2] at this
theorem rM (hC:iO prog w A s κ rk L) (hB:Bs κ L st) (p1:(pendingOf st)[i]?=some (sa,na,pw)) (p2:(pendingOf st)[i+1]?=some (sa+na,nb,pw2)) (h1:1<=na) (h2:1<=nb) (hz:sa+na+nb<=L.length)
 (s1:Seg rk (arrOf st) sa (sa+na)) (s2:Seg rk (arrOf st) (sa+na) (sa+na+nb))
 (h:∀ st',Bs κ L st'->(∀ j,j<sa\/sa+na+nb<=j->(arrOf st')[j]?=(arrOf st)[j]?)->pendingOf st'=((pendingOf st).setIfInBounds i (sa,na+nb,pw)).eraseIdxIfInBounds (i+1)->Seg rk (arrOf st') sa (sa+na+nb)->Q true st') :
 wpS (model prog w) A E s (g6 i) Q st:=by
 unfold g6
 walk_at "dl mergeAt"
 dsimp only
 refine OU (Qz ?_)
 rw [p1,p2]
 dsimp only
 have hsz:=hB.size
 have mL:∀ (i:Nat) (p:Keyed),(arrOf st)[i]?=some p->p∈L:=λi p e=>hB.perm.mem_iff.mp (by
  obtain ⟨h1,h2⟩:=RY.mp e
  rw [<- h2,U0]; exact Vs _)
 refine OU (EF ?_)
 obtain ⟨key,ek,hkL⟩:=hB.at (i:=sa+na) (by lia)
 refine OU (aW ek ?_)
 have rkey:R rk (arrOf st) (sa+na)=rk key:=dz ek
 refine OU (yx hC hB.kind hkL mL (by show _<=(arrOf st).size; lia) s1 (by lia) λk k1 k2 k3=>?_)
 dsimp only
 by_cases e0:na - k=0
 ·rw [if_pos (by simpa using e0)]
  refine OV (h _ ⟨hB.perm,hB.kind,hB.failed⟩ (λ_ _=>rfl) rfl λa b z1 z2 z3=>?_)
  by_cases hb:b<sa+na
  ·exact s1 a b z1 z2 hb
  ·by_cases ha:sa+na<=a
   ·exact s2 a b ha z2 z3
   ·refine PB (k2 a z1 (by lia)) ?_
    rw [<- rkey]; exact s2 (sa+na) b (OT _) (by lia) z3
 rw [if_neg (by simpa using e0)]
 obtain ⟨key2,ek2,hk2L⟩:=hB.at (i:=sa+k+(na - k) - 1) (by lia)
 have rkey2:R rk (arrOf st) (sa+na - 1)=rk key2:=by rw [<- dz (rk:=rk) ek2]; congr 1; lia
 refine OU (aW ek2 ?_)
 refine OU (yy hC (by exact hB.kind) hk2L mL (by show _<=(arrOf st).size; lia) s2 (by lia) λm m1 m2 m3=>?_)
 dsimp only
 by_cases e1:m=0
 ·exfalso
  have a1:=m3 (sa+na) (by lia) (by lia)
  have a2:=k3 (sa+na - 1) (by lia) (by lia)
  rw [rkey2] at a2; rw [rkey] at a1; lia
 rw [if_neg (by simpa using e1)]
 have mx:∀ (i:Nat) (p:Keyed),((arrOf st).extract (sa+k) (sa+na))[i]?=some p->p∈L:=λi p e=>mL _ p (dX e).1
 have my:∀ (i:Nat) (p:Keyed),((arrOf st).extract (sa+na) (sa+na+m))[i]?=some p->p∈L:=λi p e=>mL _ p (dX e).1
 have ux:Up rk ((arrOf st).extract (sa+k) (sa+na)):=wQ s1 (by lia) (OT _)
 have uy:Up rk ((arrOf st).extract (sa+na) (sa+na+m)):=wQ s2 (OT _) (by lia)
 have zx:((arrOf st).extract (sa+k) (sa+na)).size=na - k:=by rw [Array.size_extract]; lia
 have zy:((arrOf st).extract (sa+na) (sa+na+m)).size=m:=by rw [Array.size_extract]; lia
 have h0:∀ p q,((arrOf st).extract (sa+k) (sa+na))[0]?=some p->((arrOf st).extract (sa+na) (sa+na+m))[0]?=some q->rk q<=rk p:=λp q e2 e3=>by
  obtain ⟨f1,g1⟩:=dX e2
  obtain ⟨f2,g2⟩:=dX e3
  have a1:=k3 (sa+k+0) (by lia) (by lia)
  rw [dz f1] at a1
  have a2:rk q=rk key:=by rw [<- rkey,<- dz (rk:=rk) f2]; rfl
  lia
 have hl:∀ (j:Nat) (p q:Keyed),((arrOf st).extract (sa+k) (sa+na))[((arrOf st).extract (sa+k) (sa+na)).size - 1]?=some p->((arrOf st).extract (sa+na) (sa+na+m))[j]?=some q->rk q<=rk p:=λj p q e2 e3=>by
  rw [zx] at e2
  obtain ⟨f1,g1⟩:=dX e2
  obtain ⟨f2,g2⟩:=dX e3
  have a1:=m2 (sa+na+j) (by lia) (by lia)
  rw [dz f2] at a1
  have a2:rk p=rk key2:=by rw [<- rkey2,<- dz (rk:=rk) f1]; congr 1; lia
  lia
 have fin:∀ (r:Array Keyed) (st2:SortSt),Res rk ((arrOf st).extract (sa+k) (sa+na)) ((arrOf st).extract (sa+na) (sa+na+m)) r->kindOf st2=kindOf st->arrOf st2=arrOf st->pendingOf st2=((pendingOf st).setIfInBounds i (sa,na+nb,pw)).eraseIdxIfInBounds (i+1)->failedOf st2=failedOf st ->
  Q true (setArr st2 (Tt (λa (x:Keyed×Nat)=>a.setIfInBounds (sa+k+x.2) x.1) (arrOf st2) r.toList.zipIdx)):=λr st2 hr e2 e3 e4 e5=>by
  have hlen:r.toList.length=na - k+m:=by
   have:=hr.1.length_eq
   simp only [Pr,P4,zx,zy] at this |-
   exact this
  obtain ⟨w1,w2⟩:=n5 r.toList 0 (sa+k) (arrOf st) (by lia)
  generalize hW:Tt (λa (x:Keyed×Nat)=>a.setIfInBounds (sa+k+x.2) x.1) (arrOf st) r.toList.zipIdx=W at w1 w2
  rw [e3,hW]
  have rW:∀ i,sa+k<=i->i<sa+na+m->R rk W i=R rk r (i - (sa+k)):=λi z1 z2=>by
   refine cu ?_
   rw [w2,if_pos (by lia),PN]; rfl
  have rO:∀ i,(i<sa+k\/sa+na+m<=i)->R rk W i=R rk (arrOf st) i:=λi z=>by
   refine cu ?_
   rw [w2,if_neg (by lia)]
  have elt:∀ i,sa+k<=i->i<sa+na+m->∃ t,sa+k<=t/\t<sa+na+m/\R rk W i=R rk (arrOf st) t:=λi z1 z2=>by
   have hi:i - (sa+k)<r.size:=by rw [<- P4]; lia
   have e6:r[i - (sa+k)]?=some r[i - (sa+k)]:=Pj hi
   have hm:r[i - (sa+k)]∈r.toList:=by rw [U0]; exact Vs _
   rw [rW i z1 z2,dz e6]
   rcases Pb.mp (hr.1.mem_iff.mp hm) with z | z
   ·obtain ⟨t,t1,t2,t3⟩:=wG z
    exact ⟨t,t1,by lia,(dz t3).symm⟩
   ·obtain ⟨t,t1,t2,t3⟩:=wG z
    exact ⟨t,by lia,by lia,(dz t3).symm⟩
  have ur:=IU hr.2
  refine h _ ⟨?_,e2.trans hB.kind,e5.trans hB.failed⟩ (λj hj=>?_) e4 λa b z1 z2 z3=>?_
  ·
   refine List.Perm.trans ?_ hB.perm
   have eW:W.toList=(arrOf st).toList.take (sa+k)++r.toList++(arrOf st).toList.drop (sa+na+m):=by
    apply T7
    intro j
    rw [PN,w2,Pp,SG,SG,PZ,R9,SQ (by rw [P4]; lia)]
    by_cases c1:j<sa+k
    ·rw [if_neg (by lia),if_pos c1,TJ c1,PN]
    ·rw [if_neg c1]
     by_cases c2:j - (sa+k)<r.toList.length
     ·rw [if_pos (by lia),if_pos c2]; rfl
     ·rw [if_neg (by lia),if_neg c2,PN]; congr 1; lia
   have eA:(arrOf st).toList=(arrOf st).toList.take (sa+k)++(((arrOf st).extract (sa+k) (sa+na)).toList++((arrOf st).extract (sa+na) (sa+na+m)).toList)++(arrOf st).toList.drop (sa+na+m):=by
    apply T7
    intro j
    rw [Pp,Pp,SG,SG,SG,PZ,P4,P4,P4,zx,zy,R9,SQ (by lia)]
    by_cases c1:j<sa+k
    ·rw [if_pos c1,TJ c1]
    ·rw [if_neg c1]
     by_cases c2:j - (sa+k)<na - k
     ·rw [if_pos c2,PN,PN,TV,if_pos (by lia)]; congr 1; lia
     ·rw [if_neg c2]
      by_cases c3:j - (sa+k) - (na - k)<m
      ·rw [if_pos c3,PN,PN,TV,if_pos (by lia)]; congr 1; lia
      ·rw [if_neg c3]; congr 1; lia
   show W.toList.Perm _
   rw [eW]
   conv=>rhs; rw [eA]
   exact (R3 _ hr.1).append_right _
  ·show W[j]?=_
   rw [w2,if_neg (by lia)]
  ·show R rk W a<=R rk W b
   have kk:∀ t,sa+na<=t->t<sa+na+nb->rk key<=R rk (arrOf st) t:=λt t1 t2=>by rw [<- rkey]; exact s2 _ t (OT _) t1 t2
   have kk2:∀ t,sa<=t->t<sa+na->R rk (arrOf st) t<=rk key2:=λt t1 t2=>by rw [<- rkey2]; exact s1 t _ t1 (by lia) (by lia)
   by_cases c1:a<sa+k
   ·rw [rO a (.inl c1)]
    have la:=k2 a z1 c1
    by_cases d1:b<sa+k
    ·rw [rO b (.inl d1)]; exact s1 a b z1 z2 (by lia)
    ·by_cases d2:b<sa+na+m
     ·obtain ⟨t,t1,t2,t3⟩:=elt b (by lia) d2
      rw [t3]
      by_cases d3:t<sa+na
      ·exact s1 a t z1 (by lia) d3
      ·exact PB la (kk t (by lia) (by lia))
     ·rw [rO b (.inr (by lia))]
      exact PB la (kk b (by lia) z3)
   ·by_cases c2:a<sa+na+m
    ·by_cases d2:b<sa+na+m
     ·rw [rW a (by lia) c2,rW b (by lia) d2]
      have f1:r[a - (sa+k)]?=some (r[a - (sa+k)]'(by rw [<- P4]; lia)):=Pj _
      have f2:r[b - (sa+k)]?=some (r[b - (sa+k)]'(by rw [<- P4]; lia)):=Pj _
      rw [dz f1,dz f2]
      exact ur _ _ _ _ (by lia) f1 f2
     ·obtain ⟨t,t1,t2,t3⟩:=elt a (by lia) c2
      rw [t3,rO b (.inr (by lia))]
      by_cases d3:t<sa+na
      ·exact PB (kk2 t (by lia) d3) (m3 b (by lia) z3)
      ·exact s2 t b (by lia) (by lia) z3
    ·rw [rO a (.inr (by lia)),rO b (.inr (by lia))]
     exact s2 a b (by lia) z2 z3
 have post:∀ (r:Array Keyed) (st2:SortSt),failedOf st2=failedOf st->(failedOf st2).isNone=true:=λr st2 e=>by rw [e,hB.failed]; rfl
 by_cases hle:na - k<=m
 ·rw [if_pos hle]
  refine OU (rH hC (by exact hB.kind) mx my ux uy (by show 1<=((arrOf st).extract (sa+k) (sa+na)).size; lia) (by show 1<=((arrOf st).extract (sa+na) (sa+na+m)).size; lia) h0 hl λr st2 hr hK=>?_)
  refine OU (QN (OU (Qz ?_)))
  have e9:failedOf st2=none:=hK.f.trans hB.failed
  have z:=fin r st2 hr hK.k hK.a hK.p hK.f
  refine OV ?_
  show Q (failedOf st2).isNone _
  rw [e9]; exact z
 ·rw [if_neg hle]
  refine OU (rL hC (by exact hB.kind) mx my ux uy (by show 1<=((arrOf st).extract (sa+k) (sa+na)).size; lia) (by show 1<=((arrOf st).extract (sa+na) (sa+na+m)).size; lia) h0 hl λr st2 hr hK=>?_)
  refine OU (QN (OU (Qz ?_)))
  have e9:failedOf st2=none:=hK.f.trans hB.failed
  have z:=fin r st2 hr hK.k hK.a hK.p hK.f
  refine OV ?_
  show Q (failedOf st2).isNone _
  rw [e9]; exact z
end
noncomputable abbrev LN:Nat->Nat->Nat->Nat:=sortPriv% PySem.Builtin.minRun
noncomputable def rN:StateT SortSt Sem Unit:=sortPriv% PySem.Builtin.sortRuns
local macro_rules | `(tactic| walk_at "dl sortRuns")=>do
 let i:=RJ (Ry `PySem.Builtin.List.W1All `PySem.Builtin.sortRuns)
 `(tactic| delta $i)
noncomputable def fc (rk:Keyed->Int) (xs:Array Keyed):Nat->List (Nat×Nat×Nat)->Nat->Prop
 | a,[],b=>a=b
 | a,p::r,b=>p.1=a/\1<=p.2.1/\Seg rk xs a (a+p.2.1)/\fc rk xs (a+p.2.1) r b
theorem fc.le:∀ {ps:List (Nat×Nat×Nat)} {a b:Nat},fc rk xs a ps b->a+ps.length<=b
 | [],a,b,h=>by have:a=b:=h; simp; lia
 | p::r,a,b,h=>by
  obtain ⟨_,h1,_,h2⟩:=h
  have:=h2.le
  rw [Pu]; lia
theorem fc.app:∀ {ps qs:List (Nat×Nat×Nat)} {a b:Nat},fc rk xs a (ps++qs) b↔∃ m,fc rk xs a ps m/\fc rk xs m qs b
 | [],qs,a,b=>⟨λh=>⟨a,rfl,h⟩,λ⟨m,h1,h2⟩=>by have:a=m:=h1; subst this; exact h2⟩
 | p::r,qs,a,b=>by
  constructor
  ·rintro ⟨h1,h2,h3,h4⟩
   obtain ⟨m,h5,h6⟩:=fc.app.mp h4
   exact ⟨m,⟨h1,h2,h3,h5⟩,h6⟩
  ·rintro ⟨m,⟨h1,h2,h3,h5⟩,h6⟩
   exact ⟨h1,h2,h3,fc.app.mpr ⟨m,h5,h6⟩⟩
theorem fc.congr:∀ {ps:List (Nat×Nat×Nat)} {a b:Nat},fc rk xs a ps b->(∀ i,a<=i->i<b->R rk ys i=R rk xs i)->fc rk ys a ps b
 | [],a,b,h,_=>h
 | p::r,a,b,h,e=>by
  obtain ⟨h1,h2,h3,h4⟩:=h
  have hl:=h4.le
  refine ⟨h1,h2,λi j z1 z2 z3=>?_,h4.congr λi z1 z2=>e i (by lia) z2⟩
  rw [e i z1 (by lia),e j (by lia) (by lia)]
  exact h3 i j z1 z2 z3
theorem fc.mod (f) (hf:∀ p,(f p).1=p.1/\(f p).2.1=p.2.1):∀ {ps:List (Nat×Nat×Nat)} {a b:Nat} (i:Nat),fc rk xs a ps b->fc rk xs a (ps.modify i f) b
 | [],a,b,i,h=>by simpa using h
 | p::r,a,b,0,h=>by
  obtain ⟨h1,h2,h3,h4⟩:=h
  rw [List.modify_zero_cons]
  refine ⟨(hf p).1.trans h1,by rw [(hf p).2]; exact h2,by rw [(hf p).2]; exact h3,by rw [(hf p).2]; exact h4⟩
 | p::r,a,b,i+1,h=>by
  obtain ⟨h1,h2,h3,h4⟩:=h
  rw [List.modify_succ_cons]
  exact ⟨h1,h2,h3,h4.mod f hf i⟩
theorem fc.two:∀ {ps:List (Nat×Nat×Nat)} {a b:Nat} (i:Nat),fc rk xs a ps b->i+1<ps.length->∃ s n pw m pw2,ps[i]?=some (s,n,pw)/\ps[i+1]?=some (s+n,m,pw2)/\1<=n/\1<=m/\a<=s/\s+n+m<=b/\Seg rk xs s (s+n)/\Seg rk xs (s+n) (s+n+m) /\
 ∀ ys:Array Keyed,(∀ j,j<s\/s+n+m<=j->R rk ys j=R rk xs j)->Seg rk ys s (s+n+m)->fc rk ys a ((ps.set i (s,n+m,pw)).eraseIdx (i+1)) b
 | [],a,b,i,h,hi=>by simp at hi
 | [p],a,b,i,h,hi=>by simp at hi
 | p::q::r,a,b,0,h,hi=>by
  obtain ⟨h1,h2,h3,h4,h5,h6,h7⟩:=h
  obtain ⟨s,n,pw⟩:=p
  obtain ⟨s',m,pw2⟩:=q
  dsimp only at h1 h2 h3 h4 h5 h6 h7
  subst h1; subst h4
  have hl:=h7.le
  refine ⟨s,n,pw,m,pw2,rfl,rfl,h2,h5,OT _,by lia,h3,h6,λys e hs=>?_⟩
  refine ⟨rfl,by dsimp only; lia,by dsimp only; rw [<- S9]; exact hs,?_⟩
  dsimp only
  rw [<- S9]
  exact h7.congr λi z1 z2=>e i (.inr z1)
 | p::q::r,a,b,i+1,h,hi=>by
  obtain ⟨h1,h2,h3,h4⟩:=h
  obtain ⟨s,n,pw,m,pw2,e1,e2,a1,a2,a3,a4,a5,a6,a7⟩:=h4.two i (by simpa using hi)
  refine ⟨s,n,pw,m,pw2,by simpa using e1,by simpa using e2,a1,a2,by lia,a4,a5,a6,λys e hs=>?_⟩
  rw [List.set_cons_succ,List.eraseIdx_cons_succ]
  refine ⟨h1,h2,λj j' z1 z2 z3=>?_,a7 ys e hs⟩
  rw [e j (.inl (by lia)),e j' (.inl (by lia))]
  exact h3 j j' z1 z2 z3
section
variable {st:SortSt}
theorem ic (hC:iO prog w A s κ rk L) (hB:Bs κ L st) (hc:fc rk (arrOf st) 0 (pendingOf st).toList b) (hb:b<=L.length) (hi:i+1<(pendingOf st).size)
 (h:∀ st',Bs κ L st'->fc rk (arrOf st') 0 (pendingOf st').toList b->(∀ j,b<=j->(arrOf st')[j]?=(arrOf st)[j]?)->(pendingOf st').size+1=(pendingOf st).size->Q true st'):wpS (model prog w) A E s (g6 i) Q st:=by
 obtain ⟨sa,n,pw,m,pw2,e1,e2,a1,a2,a3,a4,a5,a6,a7⟩:=hc.two i (by rw [P4]; exact hi)
 rw [PN] at e1 e2
 refine rM hC hB e1 e2 a1 a2 (by lia) a5 a6 λst' b1 b2 b3 b4=>h st' b1 ?_ (λj hj=>b2 j (.inr (by lia))) ?_
 ·rw [b3,VF,Array.toList_setIfInBounds]
  exact a7 _ (λj hj=>cu (b2 j hj)) b4
 ·rw [b3,<- P4,VF,Array.toList_setIfInBounds,List.length_eraseIdx,List.length_set,P4,if_pos hi]; lia
theorem wpS_sortRuns (hC:iO prog w A s κ rk L) (hB:Bs κ L st) (hp:pendingOf st= #[]) (h:∀ st',Bs κ L st'->Seg rk (arrOf st') 0 L.length->Q () st'):wpS (model prog w) A E s rN Q st:=by
 unfold rN
 walk_at "dl sortRuns"
 dsimp only
 refine OU (Qz ?_)
 have hsz:=hB.size
 rw [hsz]
 obtain ⟨mr,hmr⟩:∃ mr,LN L.length L.length 0=mr:=⟨_,rfl⟩
 delta LN at hmr
 rw [hmr]
 refine OU (PD (Qc (I:=λx c st'=>c.1=none/\Bs κ L st'/\fc rk (arrOf st') 0 (pendingOf st').toList c.2/\c.2<=L.length/\(x<=c.2\/L.length<=c.2)) (Q:=λc st'=>c.1=none/\Bs κ L st'/\fc rk (arrOf st') 0 (pendingOf st').toList L.length) ?step ?fin ?init) ?post)
 case init=>exact ⟨rfl,hB,by rw [hp]; rfl,PK _,.inl (OT _)⟩
 case fin =>
  rintro ⟨c,lo⟩ st' ⟨rfl,jG,hC',h1,h2⟩
  dsimp only at hC' h1 h2 |-
  have e:lo=L.length:=by
   rcases h2 with z | z
   ·lia
   ·lia
  subst e
  exact ⟨rfl,jG,hC'⟩
 case step =>
  rintro x ⟨c,lo⟩ st' _ hx ⟨rfl,jG,hC',h1,h2⟩
  dsimp only at hC' h1 h2 |-
  by_cases hge:lo>=L.length
  ·rw [if_pos hge]
   have e:lo=L.length:=by lia
   subst e
   exact OV ⟨rfl,jG,hC'⟩
  rw [if_neg hge]
  refine OU (show wpS _ _ _ _ (countRun' lo (L.length - lo)) _ _ from wpS_countRun hC jG (by lia) (by lia) λm st1 hB1 hM1 m1 m2 ms=>?_)
  have hC1:fc rk (arrOf st1) 0 (pendingOf st1).toList lo:=by
   rw [hM1.pend]; exact hC'.congr λi _ z=>cu (hM1.out i (.inl z))
  dsimp only
  by_cases hmin:m<mr
  ·rw [if_pos (show m<_ from hmin)]
   refine OU (Rv (Qg ⟨rfl,?_⟩))
   have hf1:m<=min (L.length - lo) mr:=by lia
   have hf2:lo+min (L.length - lo) mr<=L.length:=by lia
   refine OU (show wpS _ _ _ _ (binarySort' lo (min (L.length - lo) mr) m) _ _ from wpS_binarySort hC hB1 hf2 hf1 ms λst2 hB2 hM2 hS2=>?_)
   have hC2:fc rk (arrOf st2) 0 (pendingOf st2).toList lo:=by
    rw [hM2.pend]; exact hC1.congr λi _ z=>cu (hM2.out i (.inl z))
   simp only [Rp,P5,if_false]
   generalize hF:min (L.length - lo) mr=F at hf1 hf2 hS2
   have hF':=hF
   clear hM2 hM1
   refine OU (Qz ?_)
   rcases hbk:(pendingOf st2).back? with _ | ⟨q1,q2,q3⟩
   ·dsimp only
    refine OU (QN (OV ⟨rfl,⟨hB2.perm,hB2.kind,hB2.failed⟩,?_,by dsimp only; lia,by dsimp only; lia⟩))
    show fc rk (arrOf st2) 0 ((pendingOf st2).push (lo,F,0)).toList (lo+(F))
    rw [PF]
    exact fc.app.mpr ⟨lo,hC2,rfl,by dsimp only; lia,hS2,rfl⟩
   ·dsimp only
    refine OU (PD (Qc (I:=λy c st'=>c.1=none/\Bs κ L st'/\fc rk (arrOf st') 0 (pendingOf st').toList lo/\Seg rk (arrOf st') lo (lo+(F))) (Q:=λc st'=>c.1=none/\Bs κ L st'/\fc rk (arrOf st') 0 (pendingOf st').toList lo/\Seg rk (arrOf st') lo (lo+(F))) ?_ (λ_ _ z=>z) ⟨rfl,hB2,hC2,hS2⟩) ?_)
    ·rintro y ⟨c,u⟩ st3 _ hy ⟨rfl,vp,zA,Dk⟩
     refine OU (Qz ?_)
     by_cases hs1:(pendingOf st3).size>1
     ·rw [if_pos hs1]
      obtain ⟨⟨r1,r2,r3⟩,er⟩:∃ t,(pendingOf st3)[(pendingOf st3).size - 2]?=some t:=⟨_,Pj (show (pendingOf st3).size - 2<(pendingOf st3).size by lia)⟩
      rw [er]
      dsimp only
      split
      ·exact OV ⟨rfl,vp,zA,Dk⟩
      ·refine OU (show wpS _ _ _ _ (g6 ((pendingOf st3).size - 2)) _ _ from ic hC vp zA (by lia) (by lia) λst4 hB4 hC4 ho4 hz4=>?_)
       simp only [Rp,P5,if_false]
       exact OV ⟨rfl,hB4,hC4,λa b z1 z2 z3=>by rw [cu (ho4 a z1),cu (ho4 b (by lia))]; exact Dk a b z1 z2 z3⟩
     ·rw [if_neg hs1]
      exact OV ⟨rfl,vp,zA,Dk⟩
    ·rintro ⟨c,u⟩ st3 ⟨hc,vp,zA,Dk⟩
     dsimp only at hc |-
     rw [hc]
     dsimp only
     refine OU (QN (OU (QN (OV ⟨rfl,⟨vp.perm,vp.kind,vp.failed⟩,?_,by dsimp only; lia,by dsimp only; lia⟩))))
     show fc rk (arrOf st3) 0 (((pendingOf st3).modify ((pendingOf st3).size - 1) _).push (lo,F,0)).toList (lo+(F))
     rw [PF,Array.toList_modify]
     refine fc.app.mpr ⟨lo,?_,rfl,by dsimp only; lia,Dk,rfl⟩
     refine fc.mod _ (λp=>?_) _ zA
     exact ⟨rfl,rfl⟩
  ·rw [if_neg (show ¬ m<_ from hmin)]
   refine OU (Qz ?_)
   rcases hbk:(pendingOf st1).back? with _ | ⟨q1,q2,q3⟩
   ·dsimp only
    refine OU (QN (OV ⟨rfl,⟨hB1.perm,hB1.kind,hB1.failed⟩,?_,by dsimp only; lia,by dsimp only; lia⟩))
    show fc rk (arrOf st1) 0 ((pendingOf st1).push (lo,m,0)).toList (lo+(m))
    rw [PF]
    exact fc.app.mpr ⟨lo,hC1,rfl,by dsimp only; lia,ms,rfl⟩
   ·dsimp only
    refine OU (PD (Qc (I:=λy c st'=>c.1=none/\Bs κ L st'/\fc rk (arrOf st') 0 (pendingOf st').toList lo/\Seg rk (arrOf st') lo (lo+(m))) (Q:=λc st'=>c.1=none/\Bs κ L st'/\fc rk (arrOf st') 0 (pendingOf st').toList lo/\Seg rk (arrOf st') lo (lo+(m))) ?_ (λ_ _ z=>z) ⟨rfl,hB1,hC1,ms⟩) ?_)
    ·rintro y ⟨c,u⟩ st3 _ hy ⟨rfl,vp,zA,Dk⟩
     refine OU (Qz ?_)
     by_cases hs1:(pendingOf st3).size>1
     ·rw [if_pos hs1]
      obtain ⟨⟨r1,r2,r3⟩,er⟩:∃ t,(pendingOf st3)[(pendingOf st3).size - 2]?=some t:=⟨_,Pj (show (pendingOf st3).size - 2<(pendingOf st3).size by lia)⟩
      rw [er]
      dsimp only
      split
      ·exact OV ⟨rfl,vp,zA,Dk⟩
      ·refine OU (show wpS _ _ _ _ (g6 ((pendingOf st3).size - 2)) _ _ from ic hC vp zA (by lia) (by lia) λst4 hB4 hC4 ho4 hz4=>?_)
       simp only [Rp,P5,if_false]
       exact OV ⟨rfl,hB4,hC4,λa b z1 z2 z3=>by rw [cu (ho4 a z1),cu (ho4 b (by lia))]; exact Dk a b z1 z2 z3⟩
     ·rw [if_neg hs1]
      exact OV ⟨rfl,vp,zA,Dk⟩
    ·rintro ⟨c,u⟩ st3 ⟨hc,vp,zA,Dk⟩
     dsimp only at hc |-
     rw [hc]
     dsimp only
     refine OU (QN (OU (QN (OV ⟨rfl,⟨vp.perm,vp.kind,vp.failed⟩,?_,by dsimp only; lia,by dsimp only; lia⟩))))
     show fc rk (arrOf st3) 0 (((pendingOf st3).modify ((pendingOf st3).size - 1) _).push (lo,m,0)).toList (lo+(m))
     rw [PF,Array.toList_modify]
     refine fc.app.mpr ⟨lo,?_,rfl,by dsimp only; lia,Dk,rfl⟩
     refine fc.mod _ (λp=>?_) _ zA
     exact ⟨rfl,rfl⟩
 case post =>
  rintro ⟨c,lo⟩ st' ⟨hc,jG,hC'⟩
  dsimp only at hc |-
  rw [hc]
  dsimp only
  have hl0:=hC'.le
  rw [P4] at hl0
  refine OU (PD (Qc (I:=λx c st2=>c.1=none/\Bs κ L st2/\fc rk (arrOf st2) 0 (pendingOf st2).toList L.length/\((pendingOf st2).size<=1\/(pendingOf st2).size+x<=L.length)) (Q:=λc st2=>c.1=none/\Bs κ L st2/\fc rk (arrOf st2) 0 (pendingOf st2).toList L.length/\(pendingOf st2).size<=1) ?mstep ?mfin ⟨rfl,jG,hC',.inr (by lia)⟩) ?mpost)
  case mfin =>
   rintro c2 st2 ⟨a1,a2,a3,a4⟩
   exact ⟨a1,a2,a3,by lia⟩
  case mpost =>
   rintro ⟨c2,u⟩ st2 ⟨a1,a2,a3,a4⟩
   dsimp only at a1 |-
   rw [a1]
   refine OV (h st2 a2 ?_)
   rw [<- P4] at a4
   match e:(pendingOf st2).toList,a4 with
   | [],_ =>
    rw [e] at a3
    have z:0=L.length:=a3
    intro i j _ _ hj; lia
   | [p],_ =>
    rw [e] at a3
    obtain ⟨b1,b2,b3,b4⟩:=a3
    have z:0+p.2.1=L.length:=b4
    rw [<- z]; exact b3
  case mstep =>
   rintro x ⟨c2,u⟩ st2 _ hx ⟨a1,a2,a3,a4⟩
   refine OU (Qz ?_)
   by_cases hs1:(pendingOf st2).size<=1
   ·rw [if_pos hs1]
    exact OV ⟨rfl,a2,a3,hs1⟩
   ·rw [if_neg hs1]
    have key:∀ i,i+1<(pendingOf st2).size->wpS (model prog w) A E s (g6 i) (λr st3=>r=true/\Bs κ L st3/\fc rk (arrOf st3) 0 (pendingOf st3).toList L.length/\(pendingOf st3).size+1=(pendingOf st2).size) st2:=λi hi =>
     ic hC a2 a3 (OT _) hi λst3 b1 b2 _ b3=>⟨rfl,b1,b2,b3⟩
    refine OU (PD (show wpS _ _ _ _ (g6 _) _ _ from key _ ?_) λr st3 hr=>?_)
    ·unfold pendingOf at hs1 |-
     repeat' split
     all_goals lia
    ·obtain ⟨rfl,b1,b2,b3⟩:=hr
     simp only [Rp,P5,if_false]
     exact OV ⟨rfl,b1,b2,.inr (by lia)⟩
end
end SR
namespace SR
open PySem PyProof.Rows
noncomputable def dup (vs:List Value):List Keyed:=vs.map λv=>(v,v)
theorem wR (vs):(vs.toArray.zip vs.toArray).toList=dup vs:=by
 unfold dup
 rw [Array.toList_zip]
 induction vs with
 | nil=>rfl
 | cons v vs ih=>simpa using ih
def Ord (rk:Keyed->Int) (b:Bool) (out:List Value):Prop:=out.Pairwise λx y=>if b then rk (y,y)<=rk (x,x) else rk (x,x)<=rk (y,y)
theorem rP {xs:Array Keyed} (h:xs.toList.Perm (dup vs)):(xs.toList.map (·.2)).Perm vs/\∀ p∈xs.toList,p=(p.2,p.2):=by
 refine ⟨?_,λp hp=>?_⟩
 ·have q:=h.map (·.2)
  have e:(dup vs).map (·.2)=vs:=by
   unfold dup
   rw [Py]
   exact List.map_id' vs
  rwa [e] at q
 ·have:=h.mem_iff.mp hp
  simp only [dup,Pn] at this
  obtain ⟨v,_,rfl⟩:=this
  rfl
theorem EG {st:SortSt} (hp:(arrOf st).toList.Perm (dup vs)) (hs:Seg rk (arrOf st) 0 (dup vs).length) (b) :
 ((if b=true then ((arrOf st).map (·.2)).reverse else (arrOf st).map (·.2)).toList).Perm vs/\Ord rk b (if b=true then ((arrOf st).map (·.2)).reverse else (arrOf st).map (·.2)).toList:=by
 obtain ⟨h1,h2⟩:=rP hp
 have up:((arrOf st).toList.map (·.2)).Pairwise λx y=>rk (x,x)<=rk (y,y):=by
  rw [Sa]
  refine UH.mpr λi j hi hj hij=>?_
  have l:=hp.length_eq
  simp only [P4] at hi hj l
  have z:=hs i j (PK _) (QC hij) (by lia)
  have ei:(arrOf st)[i]?=some ((arrOf st).toList[i]'(by simpa using hi)):=by simp [hi]
  have ej:(arrOf st)[j]?=some ((arrOf st).toList[j]'(by simpa using hj)):=by simp [hj]
  rw [dz ei,dz ej] at z
  have e1:=h2 _ (Pw (show i<(arrOf st).toList.length by simpa using hi))
  have e2:=h2 _ (Pw (show j<(arrOf st).toList.length by simpa using hj))
  rw [e1,e2] at z
  exact z
 cases b with
 | false=>simp only [P5,if_false,Array.toList_map]; exact ⟨h1,up.imp λh=>by simpa using h⟩
 | true =>
  simp only [if_true,R6,Array.toList_map]
  refine ⟨(Vn _).trans h1,?_⟩
  unfold Ord
  rw [List.pairwise_reverse]
  exact up.imp λh=>by simpa using h
def NT (prog:Program) (w:World) (A:Around) (s:Shared) (a:Addr) (vs:List Value) (κ:SortKind) (rk:Keyed->Int):Prop :=
 ∀ h':Heap,(∀ c o,c≠a->s.heap.get? c=some o->h'.get? c=some o) ->
  (∀ (Q:SortKind->Shared->Prop) (E:Value->Shared->Prop),2<=vs.length->Q κ { s with heap:=h' }->wpAny (model prog w) A (keyKind' vs.toArray) Q E { s with heap:=h' })/\iO prog w A { s with heap:=h' } κ rk (dup vs)
theorem n6 (ho:s.heap.get? a=some (seqObj "list" vs.toArray n)) (hk:NT prog w A s a vs κ rk) (hz:vs.length<=sizeLine)
 (h:∀ out:Array Value,out.toList.Perm vs->Ord rk b out.toList->P (.done (.ret .none)) { s with heap:=sortedHeap s.heap a vs out }) :
 wpAny (model prog w) A (Builtin.«list.sort» ⟨[.ref a],[(OP "reverse",.bool b)]⟩) P E s:=by
 rw [list_sort_rev]
 have lta:a<s.heap.objs.size:=OZ ho
 refine OQ (Ur ho rfl (OQ (Sk ho rfl ?_ (by simpa using hz))))
 obtain ⟨e1,ho1⟩:∃ e1,(s.heap.update a (QD λ_=> #[])).get? a=some (seqObj "list" #[] e1):=⟨_,get?_update_seq ho (λ_=> #[])⟩
 have oth:∀ c o,c≠a->s.heap.get? c=some o->(s.heap.update a (QD λ_=> #[])).get? c=some o:=λc o hc q=>by rw [Heap.get?_update_ne _ _ _ _ hc]; exact q
 have sz1:(s.heap.update a (QD λ_=> #[])).objs.size=s.heap.objs.size:=Heap.size_update ..
 refine OQ (seqEpoch_at ho1 rfl (OQ (wpAny_newTuple ?_ (by simpa using hz))))
 refine OQ (wpAny_newList (Qx ?_))
 show wpAny (model prog w) A _ P E { s with heap:=((s.heap.update a (QD λ_=> #[])).push (seqObj "tuple" vs.toArray 0)).push (seqObj "list" #[] 0) }
 have ho6:(((s.heap.update a (QD λ_=> #[])).push (seqObj "tuple" vs.toArray 0)).push (seqObj "list" #[] 0)).get? a=some (seqObj "list" #[] e1):=OX _ (OX _ ho1)
 obtain ⟨hkk,hC⟩:=hk (((s.heap.update a (QD λ_=> #[])).push (seqObj "tuple" vs.toArray 0)).push (seqObj "list" #[] 0)) λc o hc q=>OX _ (OX _ (oth c o hc q))
 have fin:∀ st':SortSt,(arrOf st').toList.Perm (dup vs)->Seg rk (arrOf st') 0 (dup vs).length ->
  P (.done (.ret .none)) { s with heap:=sortedHeap s.heap a vs (if b then ((arrOf st').map (·.2)).reverse else (arrOf st').map (·.2)) }:=λst' hp hs =>
  let ⟨q1,q2⟩:=EG hp hs b; h _ q1 q2
 have hstart:(if b=true then (vs.toArray.zip vs.toArray).reverse else vs.toArray.zip vs.toArray).toList.Perm (dup vs):=by
  cases b with
  | false=>rw [if_neg O5,wR]
  | true=>rw [if_pos rfl,R6,wR]; exact Vn _
 dsimp only
 have told:∀ t:Sem Fin,wpAny (model prog w) A t P E { s with heap:=((s.heap.update a (QD λ_=> #[])).push (seqObj "tuple" vs.toArray 0)).push (seqObj "list" #[] 0) } ->
  wpAny (model prog w) A (if b=true then (do let _ <- rule "list.sort.reverse"; t) else t) P E { s with heap:=((s.heap.update a (QD λ_=> #[])).push (seqObj "tuple" vs.toArray 0)).push (seqObj "list" #[] 0) }:=λt ht=>by
  split
  ·exact OQ (Qg ht)
  ·exact ht
 refine told _ ?_
 have hlen:∀ {xs:Array Keyed},xs.toList.Perm (dup vs)->(if b=true then (Array.map (λx=>x.snd) xs).reverse else Array.map (λx=>x.snd) xs).size<=sizeLine+1:=λ{xs} hp=>by
  have l:=hp.length_eq
  simp only [P4,dup,OW] at l
  split
  ·rw [Array.size_reverse,Array.size_map]; lia
  ·rw [Array.size_map]; lia
 by_cases h2:vs.toArray.size<2
 ·rw [if_pos h2,if_pos h2]
  refine OQ (OS ?_)
  rw [StateT.run_pure]
  refine OQ (OS ?_)
  dsimp only
  refine OQ (seqEpoch_at ho6 rfl (OQ (Sk ho6 rfl ?_ (hsz2:=hlen hstart))))
  simp only [bne_self_eq_false,P5,if_false]
  refine OS (fin (Tr general' (if b=true then (vs.toArray.zip vs.toArray).reverse else vs.toArray.zip vs.toArray) #[] 7 none) hstart ?_)
  intro i j _ hij hj
  have hl:(dup vs).length<2:=by simpa [dup] using h2
  have:i=j:=by lia
  subst this; exact PV _
 ·rw [if_neg h2,if_neg h2]
  refine OQ (hkk _ _ (by simpa using h2) ?_)
  refine OQ (P1 (wpS_sortRuns (κ:=κ) (rk:=rk) (L:=dup vs) (st:=Tr κ (if b=true then (vs.toArray.zip vs.toArray).reverse else vs.toArray.zip vs.toArray) #[] 7 none)
   (Q:=λ_ st'=>(arrOf st').toList.Perm (dup vs)/\failedOf st'=none/\Seg rk (arrOf st') 0 (dup vs).length) hC ⟨hstart,rfl,rfl⟩ rfl λst' a1 a2=>⟨a1.perm,a1.failed,a2⟩) ?_ λ_ _ e=>e)
  rintro ⟨⟨⟩,st'⟩ s' ⟨rfl,hp,hf,hs⟩
  dsimp only
  refine OQ (seqEpoch_at ho6 rfl (OQ (Sk ho6 rfl ?_ (hsz2:=hlen hp))))
  rw [hf]
  simp only [bne_self_eq_false,P5,if_false]
  exact OS (fin st' hp hs)
section
variable {α:Type} {lt:α->α->Bool} {L:List α}
theorem filter_le:∀ {l:List α},(∀ z∈l,p z=true->q z=true)->(l.filter p).length<=(l.filter q).length
 | [],_=>OT _
 | x::l,h=>by
  have ih:=filter_le (l:=l) λz hz=>h z (O1 _ hz)
  have hx:=h x OY
  cases e:p x with
  | false =>
   rw [R1 (by simp [e])]
   by_cases e2:q x=true
   ·rw [Rk e2]; exact Vm ih
   ·rw [R1 e2]; exact ih
  | true =>
   rw [Rk e,Rk (hx e)]
   exact SO ih
theorem filter_lt:∀ {l:List α},(∀ z∈l,p z=true->q z=true)->(∃ z∈l,q z=true/\p z=false)->(l.filter p).length<(l.filter q).length
 | [],_,h=>by obtain ⟨z,h,_⟩:=h; cases h
 | x::l,h,g=>by
  have h':∀ z∈l,p z=true->q z=true:=λz hz=>h z (O1 _ hz)
  have hx:=h x OY
  by_cases e:p x=true
  ·rw [Rk e,Rk (hx e)]
   obtain ⟨z,hz,z1,z2⟩:=g
   rcases O2.mp hz with rfl | hz
   ·rw [e] at z2; cases z2
   ·exact Nat.succ_lt_succ (filter_lt h' ⟨z,hz,z1,z2⟩)
  ·rw [R1 e]
   by_cases e2:q x=true
   ·rw [Rk e2]; exact Nat.lt_succ_of_le (filter_le h')
   ·rw [R1 e2]
    obtain ⟨z,hz,z1,z2⟩:=g
    rcases O2.mp hz with rfl | hz
    ·exact absurd z1 e2
    ·exact filter_lt h' ⟨z,hz,z1,z2⟩
structure IX (lt:α->α->Bool) (L:List α):Prop where
 irr:∀ x∈L,lt x x=false
 tr:∀ x∈L,∀ y∈L,∀ z∈L,lt x y=true->lt y z=true->lt x z=true
 tot:∀ x∈L,∀ y∈L,x≠y->lt x y=true\/lt y x=true
noncomputable def rank (lt:α->α->Bool) (L:List α) (x:α):Int:=((L.filter λz=>lt z x).length:Int)
theorem j4 (h:IX lt L) (hx:x∈L) (hy:y∈L) (e:lt x y=true):rank lt L x<rank lt L y:=by
 have q:=filter_lt (l:=L) (p:=λz=>lt z x) (q:=λz=>lt z y) (λz hz hzx=>h.tr z hz x hx y hy hzx e) ⟨x,hx,e,h.irr x hx⟩
 unfold rank; lia
theorem EH (h:IX lt L) (hx:x∈L) (hy:y∈L):decide (rank lt L x<rank lt L y)=lt x y:=by
 classical
 cases e:lt x y with
 | true=>exact decide_eq_true (j4 h hx hy e)
 | false =>
  refine decide_eq_false λz=>?_
  by_cases w:x=y
  ·subst w; exact absurd z (Int.lt_irrefl _)
  ·rcases h.tot x hx y hy w with q | q
   ·rw [e] at q; cases q
   ·have:=j4 h hy hx q; lia
theorem rQ (hp:n.Perm m):∀ {l:List α},Paired S l m->∃ l',l'.Perm l/\Paired S l' n:=by
 induction hp with
 | nil=>intro l h; exact ⟨l,.refl _,h⟩
 | cons x _ ih =>
  intro l h
  cases h with
  | cons r t=>obtain ⟨l',h1,h2⟩:=ih t; exact ⟨_::l',h1.cons _,.cons r h2⟩
 | swap x y l' =>
  intro l h
  cases h with
  | cons r t=>cases t with | cons r2 t2=>exact ⟨_,.swap _ _ _,.cons r2 (.cons r t2)⟩
 | trans _ _ ih1 ih2 =>
  intro l h
  obtain ⟨l1,h1,h2⟩:=ih2 h
  obtain ⟨l2,h3,h4⟩:=ih1 h2
  exact ⟨l2,h3.trans h1,h4⟩
theorem lG (h:Paired S l m):∀ u∈m,∃ x∈l,S x u:=by
 induction h with
 | nil=>intro u hu; cases hu
 | cons r t ih =>
  intro u hu
  rcases O2.mp hu with rfl | hu
  ·exact ⟨_,OY,r⟩
  ·obtain ⟨x,h1,h2⟩:=ih u hu; exact ⟨x,O1 _ h1,h2⟩
open Classical in
noncomputable def yz {β:Type} (S:α->Value->Prop) (lt:α->α->Bool) (L:List α) (p:Value×β):Int:=if h:∃ x,x∈L/\S x p.1 then rank lt L h.choose else 0
theorem j5 (inj:∀ x y u,S x u->S y u->x=y) (hx:x∈L) (h:S x p.1):yz S lt L p=rank lt L x:=by
 have e:∃ x,x∈L/\S x p.1:=⟨x,hx,h⟩
 unfold yz
 rw [dif_pos e,inj _ _ _ e.choose_spec.2 h]
theorem rR (inj:∀ x y u,S x u->S y u->x=y) (h:IX lt L) (nd:L.Nodup) (hL:Paired S L us) (hp:out.Perm us) (ho:Ord (yz S lt L) b out) :
 ∃ L',L'.Perm L/\L'.Pairwise (λx y=>if b then lt y x=true else lt x y=true)/\Paired S L' out:=by
 obtain ⟨L',h1,h2⟩:=rQ hp hL
 refine ⟨L',h1,?_,h2⟩
 have hm:∀ x∈L',x∈L:=λx hx=>h1.mem_iff.mp hx
 have nd':L'.Nodup:=h1.nodup_iff.mpr nd
 clear h1 hp hL nd
 unfold Ord at ho
 induction h2 with
 | nil=>exact .nil
 | @cons x u xs us r t ih =>
  obtain ⟨q1,q2⟩:=QU.mp ho
  obtain ⟨n1,n2⟩:=QJ.mp nd'
  refine .cons (λy hy=>?_) (ih q2 (λz hz=>hm z (O1 _ hz)) n2)
  have hx:=hm x OY
  have hyL:=hm y (O1 _ hy)
  obtain ⟨v,hv,sv⟩:∃ v∈us,S y v:=by
   clear ih ho q1 q2 n1 n2 hm nd'
   induction t with
   | nil=>cases hy
   | cons r t ih2 =>
    rcases O2.mp hy with rfl | hy
    ·exact ⟨_,OY,r⟩
    ·obtain ⟨v,h1,h2⟩:=ih2 hy; exact ⟨v,O1 _ h1,h2⟩
  have q:=q1 v hv
  rw [j5 inj hx (p:=(u,u)) r,j5 inj hyL (p:=(v,v)) sv] at q
  have ne:x≠y:=λz=>n1 (z ▸ hy)
  cases b with
  | true =>
   simp only [if_true] at q |-
   rcases h.tot x hx y hyL ne with w | w
   ·have:=j4 h hx hyL w; lia
   ·exact w
  | false =>
   simp only [P5,if_false] at q |-
   rcases h.tot x hx y hyL ne with w | w
   ·exact w
   ·have:=j4 h hyL hx w; lia
end
theorem BC (inj:∀ x y u,S x u->S y u->x=y) (h:IX lt L) (hL:Paired S L us)
 (hk:∀ x∈L,∀ y∈L,∀ u v,S x u->S y v->∀ (E:Value->Shared->Prop) (Q:Bool->Shared->Prop),Q (lt x y) s->wpAny (model prog w) A (keyLt' κ u v) Q E s):iO prog w A s κ (yz S lt L) (dup us):=by
 intro p hp q hq E Q hQ
 simp only [dup,Pn] at hp hq
 obtain ⟨u,hu,rfl⟩:=hp
 obtain ⟨v,hv,rfl⟩:=hq
 obtain ⟨x,hx,sx⟩:=lG hL u hu
 obtain ⟨y,hy,sy⟩:=lG hL v hv
 refine hk x hx y hy u v sx sy E Q ?_
 rw [j5 inj hx (p:=(u,u)) sx,j5 inj hy (p:=(v,v)) sy,EH h hx hy] at hQ
 exact hQ
end SR
namespace SR
open PySem PySem.Calls PyProof.Rows L2 EV
end SR
namespace EV
open PySem PySem.Spec PySem.Calls PyProof.Rows L2
theorem yC (b) (x y):keyLt' (tuples' b) x y=(do
 let xs <- UU x
 let ys <- UU y
 for ((p,q),i) in (xs.toList.zip ys.toList).zipIdx do
  if !(<- eqBool p q) then return <- oneLt' (b && i == 0) p q
 return decide (xs.size<ys.size)):=rfl
theorem wU:∀ l:List Int,HT.lexLt l l=false
 | []=>rfl
 | x::l=>by rw [HT.cP,if_pos rfl]; exact wU l
theorem BD:∀ {a b c:List Int},HT.lexLt a b=true->HT.lexLt b c=true->HT.lexLt a c=true
 | [],[],_,h,_=>by cases h
 | [],_::_,[],_,h=>by cases h
 | [],_::_,_::_,_,_=>rfl
 | _::_,[],_,h,_=>by cases h
 | _::_,_::_,[],_,h=>by cases h
 | x::a,y::b,z::c,h,g=>by
  rw [HT.cP] at h g |-
  by_cases e:x=y
  ·subst e
   rw [if_pos rfl] at h
   by_cases f:x=z
   ·subst f; rw [if_pos rfl] at g |-; exact BD h g
   ·rw [if_neg f] at g |-; exact g
  ·rw [if_neg e] at h
   have h:=of_decide_eq_true h
   by_cases f:y=z
   ·subst f; rw [if_neg e]; exact decide_eq_true h
   ·rw [if_neg f] at g
    have g:=of_decide_eq_true g
    rw [if_neg (by lia)]; exact decide_eq_true (by lia)
theorem pN:∀ {a b:List Int},a≠b->HT.lexLt a b=true\/HT.lexLt b a=true
 | [],[],h=>absurd rfl h
 | [],_::_,_=>.inl rfl
 | _::_,[],_=>.inr rfl
 | x::a,y::b,h=>by
  rw [HT.cP,HT.cP]
  by_cases e:x=y
  ·subst e
   rw [if_pos rfl,if_pos rfl]
   exact pN λz=>h (by rw [z])
  ·rw [if_neg e,if_neg (Pe e)]
   rcases Int.lt_or_gt_of_ne e with z | z
   ·exact .inl (decide_eq_true z)
   ·exact .inr (decide_eq_true z)
noncomputable abbrev aI:=List Int×Int
noncomputable def cA (x y:aI):Bool:=if x.1=y.1 then decide (x.2<y.2) else HT.lexLt x.1 y.1
theorem j6 (L:List aI):SR.IX cA L where
 irr:=λx _=>by unfold cA; rw [if_pos rfl]; exact decide_eq_false (Int.lt_irrefl _)
 tr:=λx _ y _ z _ h g=>by
  unfold cA at *
  by_cases e:x.1=y.1
  ·rw [if_pos e] at h
   by_cases f:y.1=z.1
   ·rw [if_pos f] at g; rw [if_pos (e.trans f)]
    exact decide_eq_true (Int.lt_trans (of_decide_eq_true h) (of_decide_eq_true g))
   ·rw [if_neg f] at g; rw [if_neg (λw=>f (e.symm.trans w)),e]; exact g
  ·rw [if_neg e] at h
   by_cases f:y.1=z.1
   ·rw [if_neg (λw=>e (w.trans f.symm)),<- f]; exact h
   ·rw [if_neg f] at g
    have q:=BD h g
    rw [if_neg λw=>by rw [w,wU] at q; cases q]; exact q
 tot:=λx _ y _ h=>by
  unfold cA
  by_cases e:x.1=y.1
  ·rw [if_pos e,if_pos e.symm]
   have:x.2≠y.2:=λz=>h (Prod.ext e z)
   rcases Int.lt_or_gt_of_ne this with z | z
   ·exact .inl (decide_eq_true z)
   ·exact .inr (decide_eq_true z)
  ·rw [if_neg e,if_neg (Pe e)]
   exact pN e
noncomputable abbrev ah (t:aI):D:=.tup [.tup (t.1.map .int),.int t.2]
section
variable {X:Cx}
def j7 (K:OR) (Hf:Hp) (d:D) (u:Value):Prop:=∃ v,RelV v u/\Rep K Hf d v
theorem rT (l m:List Int):mR 1 (.tup (l.map .int)) (.tup (m.map .int)):=.tup λi d e h1 h2=>by
 simp only [O8,Pf] at h1 h2
 obtain ⟨x,_,rfl⟩:=h1
 obtain ⟨y,_,rfl⟩:=h2
 exact .sc rfl
theorem EI (x y):mR 2 (ah x) (ah y):=.tup λi d e h1 h2=>by
 rcases i with _ | _ | i
 ·simp at h1 h2; subst h1 h2; exact rT _ _
 ·simp at h1 h2; subst h1 h2; exact .sc rfl
 ·simp at h1
theorem BE (h:ah x=ah y):x=y:=by
 simp only [D.tup.injEq,List.cons.injEq,D.int.injEq,and_true] at h
 have e:x.1=y.1:=by
  exact (List.map_inj_right (f:=D.int) (λa b e=>by injection e)).mp h.1
 exact Prod.ext e h.2
theorem iT:∀ {l:List Int} {ys:List V},aq X.K Hf (l.map D.int) ys->ys=l.map V.int
 | [],ys,h=>aF.mp h
 | n::l,ys,h=>by
  obtain ⟨y,r,rfl,z1,z2⟩:=aG.mp h
  rw [au] at z1; subst z1
  rw [iT z2]; rfl
theorem EJ (I:Inv X aa σ H s) (sb:aN Hf H) (h1:j7 X.K Hf (ah x) u) (h2:j7 X.K Hf (ah y) u):x=y:=by
 obtain ⟨v,r1,q1⟩:=h1
 obtain ⟨v',r2,q2⟩:=h2
 have:=r1.inj r2
 subst this
 exact BE (pq I sb 2 _ _ _ (EI x y) q1 q2)
theorem pO (I:Inv X aa σ H s) (sb:aN Hf H) (h:j7 X.K Hf (ah x) u):∃ a b its t,u=.ref a/\IsTup s.heap a #[.ref b,.int x.2 t]/\IsTup s.heap b its/\IntsAre its.toList x.1/\j7 X.K Hf (.tup (x.1.map .int)) (.ref b):=by
 obtain ⟨v,rv,q⟩:=h
 obtain ⟨a,xs,rfl,h1,h2⟩:=aO.mp q
 cases rv
 obtain ⟨p,r,rfl,q1,q2⟩:=aG.mp h2
 obtain ⟨p2,r2,rfl,q3,q4⟩:=aG.mp q2
 rw [aF] at q4; subst q4
 rw [au] at q3; subst q3
 obtain ⟨its,rel,tu,_⟩:=I.tuple (az sb h1)
 cases rel with
 | cons r1 t1=>cases t1 with
  | cons r2 t2 =>
   cases t2
   obtain ⟨t,rfl⟩:=r2
   obtain ⟨b,ys,rfl,h3,h4⟩:=aO.mp q1
   cases r1
   obtain ⟨its2,rel2,tu2,_⟩:=I.tuple (az sb h3)
   refine ⟨a,b,its2.toArray,t,rfl,tu,tu2,?_,.ref b,rfl,aO.mpr ⟨b,ys,rfl,h3,h4⟩⟩
   have e:=iT h4
   subst e
   exact intsAre_of rel2
theorem ie:∀ (l:List α) (r:List β) {Q:List β->Shared->Prop},Paired (λa b=>∀ (Q:β->Shared->Prop),Q b s->wpAny M A (f a) Q E s) l r->Q r s->wpAny M A (l.mapM f) Q E s
 | _,_,Q,.nil,h=>by rw [List.mapM_nil]; exact OS h
 | _,_,Q,.cons q t,h=>by
  rw [List.mapM_cons]
  exact OQ (q _ (OQ (ie _ _ t (OS h))))
theorem BF (I:Inv X aa σ H s) (sb:aN Hf H) (h:Paired (λx u=>j7 X.K Hf (ah x) u) L us) (h2:2<=us.length) (hQ:Q (tuples' false) s):wpAny (model X.prog X.w) A (keyKind' us.toArray) Q E s:=by
 have key:∃ fs:List Value,fs.length=us.length/\(∀ f∈fs,s.TypeIs f "tuple")/\Paired (λu o=>∀ (Q:Option Value->Shared->Prop),Q o s->wpAny (model X.prog X.w) A (firstOfTuple' u) Q E s) us (fs.map some):=by
  clear h2 hQ
  induction h with
  | nil=>exact ⟨[],rfl,by simp,.nil⟩
  | @cons x u L us r t ih =>
   obtain ⟨fs,e1,e2,e3⟩:=ih
   obtain ⟨a,b,its,tk,rfl,t1,t2,_⟩:=pO I sb r
   refine ⟨.ref b::fs,by simp [e1],λf hf=>?_,.cons (λQ hQ=>?_) e3⟩
   ·rcases O2.mp hf with rfl | hf
    ·obtain ⟨o,ho,hc,_⟩:=t2; exact ⟨o,ho,hc⟩
    ·exact e2 f hf
   ·obtain ⟨o,ho,hc,n,hd⟩:=t1
    show wpAny _ _ (do
     if (<- typeOf (.ref a)) != .type "tuple" then return none
     return (<- UU (.ref a))[0]?) _ _ _
    refine OQ (Rq (T:="tuple") ⟨o,ho,hc⟩ ?_)
    rw [if_neg (by simp)]
    exact OQ (Ur ho hd (OS hQ))
 obtain ⟨fs,e1,e2,e3⟩:=key
 rw [keyKind'_eq,List.mapM_toArray]
 simp only [bind_map_left]
 refine OQ (ie _ _ e3 ?_)
 rw [if_pos (by simp)]
 refine OQ (Qg ?_)
 have e4:(List.map some fs).toArray.filterMap id=fs.toArray:=by simp
 rw [e4,oneTypeOnly'_eq,List.mapM_toArray]
 simp only [bind_map_left]
 have e5:Paired (λu o=>∀ (Q:Value->Shared->Prop),Q o s->wpAny (model X.prog X.w) A (typeOf u) Q E s) fs (fs.map λ_=>Qh "tuple"):=by
  clear e1 e3 e4
  induction fs with
  | nil=>exact .nil
  | cons f fs ih=>exact .cons (λQ hQ=>Rq (e2 f OY) hQ) (ih λg hg=>e2 g (O1 _ hg))
 refine OQ (OQ (ie _ _ e5 ?_))
 obtain ⟨f,fs',rfl⟩:∃ f fs',fs=f::fs':=by
  match fs,e1 with
  | [],e1=>simp at e1; lia
  | f::fs',_=>exact ⟨f,fs',rfl⟩
 have h0:(List.map (λ_=>Qh "tuple") (f::fs')).toArray[0]?=some (Qh "tuple"):=by simp
 rw [h0]
 dsimp only
 rw [if_pos (by simp)]
 refine OS (OS ?_)
 have e6:(some (Qh "tuple")).any (λx=>x != Qh "tuple")=false:=by simp
 rw [e6]
 exact hQ
theorem IY (I:Inv X aa σ H s) (sb:aN Hf H) (hA:A.units+10<cLine) (hx:j7 X.K Hf (ah x) u) (hy:j7 X.K Hf (ah y) v) (hQ:Q (cA x y) s):wpAny (model X.prog X.w) A (keyLt' (tuples' false) u v) Q E s:=by
 obtain ⟨a,b,its,t,rfl,⟨o,ho,hc,n,hd⟩,t2,i2,z1⟩:=pO I sb hx
 obtain ⟨a',b',its',t',rfl,⟨o',ho',hc',n',hd'⟩,t2',i2',z2⟩:=pO I sb hy
 rw [yC]
 refine OQ (Ur ho hd (OQ (Ur ho' hd' ?_)))
 obtain ⟨w1,r1,q1⟩:=z1
 obtain ⟨w2,r2,q2⟩:=z2
 have e1:Ph A s (.ref b) (.ref b') (decide (D.tup (x.1.map .int)=D.tup (y.1.map .int))):=nH I sb 1 _ _ _ _ _ _ A (rT x.1 y.1) q1 q2 r1 r2 (by lia)
 have e2:decide (D.tup (x.1.map D.int)=D.tup (y.1.map D.int))=decide (x.1=y.1):=by
  by_cases z:x.1=y.1
  ·rw [z]; simp
  ·have:¬ D.tup (x.1.map D.int)=D.tup (y.1.map D.int):=λw=>by
    injection w with w
    exact z ((List.map_inj_right (f:=D.int) (λa b e=>by injection e)).mp w)
   rw [decide_eq_false this,decide_eq_false z]
 rw [e2] at e1
 have ez:((#[Po b,RP x.2 t]:Array Value).toList.zip (#[Po b',RP y.2 t']:Array Value).toList).zipIdx=[((Po b,Po b'),0),((RP x.2 t,RP y.2 t'),1)]:=rfl
 rw [ez]
 have lti:∀ (bb:Bool) (m n:Int) (t u:Tok) (Q:Bool->Shared->Prop),Q (decide (m<n)) s->wpAny (model X.prog X.w) A (oneLt' (false && bb) (.int m t) (.int n u)) Q E s:=λbb m n t u Q h=>by
  rw [Bool.false_and,oneLt'_eq,if_neg O5]
  exact OQ (lt_int (OS h))
 simp only [RE,List.forIn_nil]
 refine OQ (OQ (OQ (e1 _ _ _ _ ?_)))
 unfold cA at hQ
 by_cases z:x.1=y.1
 ·rw [if_pos z] at hQ
  rw [decide_eq_true z]
  simp only [Rp,P5,if_false]
  refine OS ?_
  dsimp only
  refine OQ (OQ ?_)
  refine wpAny_eqBool_int ?_
  by_cases w:x.2=y.2
  ·rw [show (x.2 == y.2)=true by simpa using w]
   simp only [Rp,P5,if_false]
   refine OS (OS ?_)
   dsimp only
   refine OS ?_
   rw [w] at hQ
   simpa using hQ
  ·rw [show (x.2 == y.2)=false by simpa using w]
   simp only [Bool.not_false,if_true]
   refine OQ (lti _ _ _ _ _ _ (OS ?_))
   dsimp only
   exact OS (OS hQ)
 ·rw [if_neg z] at hQ
  rw [decide_eq_false z]
  simp only [Bool.not_false,if_true]
  refine OQ ?_
  rw [Bool.false_and,oneLt'_eq,if_neg O5]
  refine OQ (HT.tW (s:=s) t2 t2' i2 i2' (by lia) ?_)
  refine OS (OS ?_)
  dsimp only
  exact OS (OS hQ)
end
noncomputable abbrev EK (X:Cx) (A:Around):Cx:={ X with A:=A }
theorem GH (ok:X.Ok) (h1:X.calm=true->A.handled=none) (h2:A.frames=some X.stack):(EK X A).Ok :=
 ⟨ok.mod,ok.kind,ok.glob,ok.blt,ok.above,ok.inj,ok.has,ok.cab,h1,h2,ok.stk,ok.exf,ok.bs,ok.bsz,ok.noex,ok.exfs,ok.jf,ok.frf⟩
theorem ju (I:Inv X aa σ H s) (h1:X.calm=true->A.handled=none) (h2:A.frames=some X.stack):Inv (EK X A) aa σ H s :=
 ⟨GH I.ok h1 h2,I.os,I.bare,I.base,I.loc,I.cell,I.free,I.freeC,I.pin,I.hok,I.len⟩
theorem fh (ok:X.Ok) (I:Inv (EK X A) aa σ H s):Inv X aa σ H s :=
 ⟨ok,I.os,I.bare,I.base,I.loc,I.cell,I.free,I.freeC,I.pin,I.hok,I.len⟩
theorem EL {fp:List Addr} (h:∀ b∈fp,d8 X aa H b) (n:∀ b∈fp,H' b=none):∀ b∈fp,d8 X aa H' b:=λb hb=>⟨n b hb,(h b hb).2⟩
theorem BG (hc:X.calm=true) (Tn:Turn X.prog X.w X.K (.Name nm np) J fp it tn) (io:jj X.K J ds Ds)
 (hS0:Hb S=none) (hSf:S∉fp) (hn:ds.length<=sizeLine) (okX:X.Ok) (h1:X.A.in1.handled=none) (h2:X.A.in1.frames=some X.stack)
 (fin:∀ (s':Shared) (H' aj:Hp) (xs:List V),Inv X aa σ H' s'->H' S=some (.lst xs)->aj S=none->aq X.K aj ds xs->bw Hb Ds H' aj->R (.ok (.ret res)) s') :
 ∀ (k i:Nat) (s:Shared) (H Hf:Hp) (xs:List V),ds.length - i=k->i<=ds.length->Inv X aa σ H s->tn i s.heap->(∀ b∈fp,d8 X aa H b)->H S=some (.lst xs)->Hf S=none->aq X.K Hf (ds.take i) xs->bw Hb Ds H Hf ->
  codeAny (model X.prog X.w) X.A (.builtin "list.extend.loop" ⟨[.ref S,.ref it,res],[]⟩) R s:=by
 intro k
 induction k with
 | zero =>
  intro i s H Hf xs hk hi I t hf hS hfS hr g
  have e:i=ds.length:=by omega
  subst e
  rw [Qo] at hr
  refine Si PySem.F.entry_extend_loop ?_
  rw [R7 TF _]
  show wpAny _ X.A.in1 (pyNext (.ref it) >>= _) _ _ s
  refine OQ (P1 (Tn.done (EK X X.A.in1) rfl rfl rfl hc _ aa s σ H _ (ju I (λ_=>h1) h2) hf t (io.stop _ H Hf g.f g.b (OT _))) (λr s' ⟨e,I'⟩=>?_) λ_ _ x=>x)
  subst e
  exact OS (fin s' H Hf xs (fh okX I') hS hfS hr g)
 | succ k ih =>
  intro i s H Hf xs hk hi I t hf hS hfS hr g
  have lt:i<ds.length:=by omega
  have ed:ds[i]?=some ds[i]:=Pk lt
  obtain ⟨hgo,hy⟩:=io.go i ds[i] H Hf g.f g.b ed
  refine Si PySem.F.entry_extend_loop ?_
  rw [R7 TF _]
  show wpAny _ X.A.in1 (pyNext (.ref it) >>= _) _ _ s
  refine OQ (P1 (Tn.item (EK X X.A.in1) rfl rfl rfl hc i aa s σ H _ (ju I (λ_=>h1) h2) hf t hgo) (λr s1 ⟨u,e,hu⟩=>?_) λ_ _ x=>x)
  subst e
  show wpAny _ X.A.in1 (letOwnedTupleGo (.Name nm np) (.ref it) u >>= λ_=>(Builtin.List.listUpdate (.ref S) (·.push u) >>= λ_=>again (.builtin "list.extend.loop" ⟨[.ref S,.ref it,res],[]⟩))) _ _ s1
  refine OQ (P1 hu (λ_ s2 ⟨x,H',I2,rx,y,t2,n2⟩=>?_) λ_ _ x=>x)
  have I2:=fh okX I2
  obtain ⟨aj,g',rd⟩:=hy x H' y
  have hS':H' S=some (.lst xs):=g'.s _ _ hS
  have hfS':aj S=none:=g'.n S hfS (by rw [hS]; simp) (by intro ys; rw [hS]; simp)
  obtain ⟨z,its,n,rv,el,eo⟩:=I2.oZ hS'
  have hx:xs.length=i:=by rw [<- hr.length,PZ]; omega
  have hz:(xs++[x]).length<=sizeLine:=by simp only [Pr,Pu,QK]; omega
  refine OQ (Sk eo rfl ?_ (by simp; omega) (by simp; omega))
  have ef:(λa:Array Value=>a.push u) its.toArray=(its++[u]).toArray:=by simp
  have I3:=I2.t8 (f:=λa=>a.push u) (t':=s2.toks) hS' eo ef (rv.append (.cons rx .nil)) hz
  refine OS ⟨S6 TF _,ih (i+1) _ (upd H' S (.lst (xs++[x]))) aj (xs++[x]) (by omega) lt I3 (Tn.keep _ _ _ t2 λb hb o e=>?_) (EL hf λb hb=>?_) af hfS' ?_ (v8 (g.trans g') hS0 hfS')⟩
  ·exact (TU _ _ (λw:S=b=>hSf (w ▸ hb))).trans e
  ·rw [ai (λw:b=S=>hSf (w ▸ hb))]; exact n2 b hb
  ·rw [T5,ed]
   exact (hr.mono g'.f).append (aq.one rd)
theorem yD (hT:s.TypeIs (.ref v) "dict_items") (hQ:Q false s):wpAny (model prog w) A (RV (.ref v)) Q E s:=by
 unfold RV
 refine OQ (wpAny_specialOf hT PySem.F.slot_dict_items_len.lookup ?_)
 have e:splitId "dict_items.__len__"=some ("dict_items","__len__"):=by decide +kernel
 dsimp only
 rw [e]
 dsimp only
 refine OQ (Ua (b:=true) hT (by rw [isSubtype_type]; kernel_rfl) ?_)
 rw [if_neg (by decide)]
 exact OQ (Rq hT (OS hQ))
theorem EM (I:Inv X aa σ H s) (hv:s.heap.IsItemsView v d) (hH:H d=some (.frz o u)) (hd:HO.dct u) :
 wpAny (model X.prog X.w) A (pyIter (.ref v)) (λitv s2=>∃ (it:Addr) (es:Array DictEntry) (ep:Nat),itv=.ref it/\s.heap.objs.size<=it/\Inv X aa σ H s2/\Turn X.prog X.w X.K tg (MK d o u) [it] it (λi h=>Bj h it d i es.size ep)/\Bj s2.heap it d 0 es.size ep/\(∀ b∈[it],d8 X aa H b) /\
  (∀ b o,s.heap.get? b=some o->s2.heap.get? b=some o)) E s:=by
 obtain ⟨ho,ok⟩:=(show bx X.prog X.w H s.heap d (.frz o u) from I.hok d _ hH)
 obtain ⟨hx,es,ep,hod,hp,hs,hz⟩:=cY ok hd ho
 refine nP hv ho hod ?_
 have hsz:es.size=(cE u).length:=by rw [Qf hp]; simp
 refine ⟨_,es,ep,rfl,OT _,I.kept (t':=s.toks) λb o e=>OX _ e,kY (o:=o) (u:=u) (es:=es) (ep:=ep) hd hod (λz=>?_) hsz,⟨.none,false,.none,.none,O7 _ rfl,.inl rfl⟩,λb hb=>?_,λb o e=>OX _ e⟩
 ·have lt:=OZ ho
  rw [<- z] at lt
  exact absurd lt (QB _)
 ·have e:b=s.heap.objs.size:=by simpa using hb
  subst e
  exact I.jh (OT _) (I.hok.fresh (OT _))
theorem yE (hc:X.calm=true) (h1:X.A.in1.handled=none) (h2:X.A.in1.frames=some X.stack) (I1:Inv X aa σ (upd H S (.lst [])) s) (sb:aN Hf H) (HS:H S=none) (hvS:S≠src) (hltS:S<s.heap.objs.size) (hn:ds.length<=sizeLine)
 (hT:(false || Qh T == Qh "list" || Qh T == Qh "tuple")=false) (ty:∀ s':Shared,(∀ b o,s.heap.get? b=some o->s'.heap.get? b=some o)->s'.TypeIs (.ref src) T)
 (hint:∀ (A:Around) (s':Shared) (Q:Bool->Shared->Prop) (E:Value->Shared->Prop),s'.TypeIs (.ref src) T->Q false s'->wpAny (model X.prog X.w) A (RV (.ref src)) Q E s')
 (iter:wpAny (model X.prog X.w) X.A.in1 (pyIter (.ref src)) (λitv s2=>∃ (it:Addr) (tn:Nat->Heap->Prop) (J:It),itv=.ref it /\
   s.heap.objs.size<=it/\Inv X aa σ (upd H S (.lst [])) s2/\Turn X.prog X.w X.K (.Name "x" ⟨0,0,0,0⟩) J [it] it tn/\tn 0 s2.heap/\(∀ b∈[it],d8 X aa (upd H S (.lst [])) b)/\(∀ b o,s.heap.get? b=some o->s2.heap.get? b=some o)/\jj X.K J ds Hf) E s)
 (hR:∀ (s':Shared) (H' aj:Hp) (xs:List V),Inv X aa σ H' s'->H' S=some (.lst xs)->aj S=none->aq X.K aj ds xs->bw H Hf H' aj->R (.ok (.ret res)) s') :
 wpAny (model X.prog X.w) X.A.in1 (UE (.ref S) (.ref src) res) (λfin s'=>match fin with | .done f=>R (.ok f) s' | .again c=>c.quiet=true/\codeAny (model X.prog X.w) X.A c R s') E s:=by
 unfold UE
 have ne:Builtin.List.listSameRef (.ref S) (.ref src)=false:=by simp [Builtin.List.listSameRef,hvS]
 refine OQ (Rq (ty s λ_ _ e=>e) ?_)
 rw [if_neg (by rw [ne,hT]; decide)]
 refine OQ (P1 iter (λitv s2 hh=>z3 hh λit tn J hh=>w8 hh λe hit I2 Tn t0 hf k2 io=>?_) λ_ _ x=>x)
 subst e
 refine OQ (Qx (hint _ s2 _ _ (ty s2 k2) ?_))
 have hSne:it≠S:=RI (PJ hltS hit)
 have g0:bw H Hf (upd H S (.lst [])) Hf:=bw.fU sb HS
 have fin:∀ s3:Shared,Inv X aa σ (upd H S (.lst [])) s3->tn 0 s3.heap->wpAny (model X.prog X.w) X.A.in1 (again (.builtin "list.extend.loop" ⟨[.ref S,.ref it,res],[]⟩)) (λfin s'=>match fin with | .done f=>R (.ok f) s' | .again c=>c.quiet=true/\codeAny (model X.prog X.w) X.A c R s') E s3:=λs3 I3 t3 =>
  OS ⟨S6 TF _,BG (X:=X) (Hb:=H) (Ds:=Hf) hc Tn io HS (λm=>hSne (Pa.mp m).symm) hn I1.ok h1 h2 hR ds.length 0 s3 _ Hf [] (by simp) (PK _) I3 t3 hf af (sb.free HS) (aF.mpr rfl) g0⟩
 obtain ⟨_,its,n,rv,el,eo⟩:=I2.oZ (l:=S) (xs:=[]) af
 cases rv
 split
 ·refine OQ (Qg ?_)
  unfold Builtin.List.listTouch
  refine OQ (OQ (Sk eo rfl ?_))
  have I3:=I2.t8 (f:=λa=>a.push .none) (its':=[.none]) (ys:=[.non]) (t':=s2.toks) af eo (by simp) (.cons rfl .nil) (by show 1<=sizeLine; decide)
  obtain ⟨_,its3,n3,rv3,el3,eo3⟩:=I3.oZ (l:=S) (xs:=[.non]) af
  cases rv3 with
  | cons r3 t3 =>
   cases t3
   cases r3
   refine Sk eo3 rfl ?_
   have I4:=I3.t8 (f:=λa=>a.pop) (its':=[]) (ys:=[]) (t':=s2.toks) af eo3 (by simp) .nil (PK _)
   rw [oQ,oQ] at I4
   refine fin _ I4 (Tn.keep 0 _ _ t0 λb hb o e=>?_)
   have hbS:S≠b:=λw=>hSne (by rw [Pa.mp hb] at w; exact w.symm)
   exact (TU _ _ hbS).trans ((TU _ _ hbS).trans e)
 ·exact fin s2 I2 t0
theorem ig (hc:X.calm=true) (h1:X.A.in1.handled=none) (h2:X.A.in1.frames=some X.stack) (I:Inv X aa σ H s) (sb:aN Hf H) (hlt:src<s.heap.objs.size) (hn:ds.length<=sizeLine) (hT:(false || Qh T == Qh "list" || Qh T == Qh "tuple")=false)
 (ty:∀ s':Shared,(∀ b o,s.heap.get? b=some o->s'.heap.get? b=some o)->s'.TypeIs (.ref src) T)
 (hint:∀ (A:Around) (s':Shared) (Q:Bool->Shared->Prop) (E:Value->Shared->Prop),s'.TypeIs (.ref src) T->Q false s'->wpAny (model X.prog X.w) A (RV (.ref src)) Q E s')
 (iter:∀ (A:Around) (s1:Shared) (H1:Hp) (E:Value->Shared->Prop),Inv X aa σ H1 s1->aN Hf H1->(∀ b o,s.heap.get? b=some o->s1.heap.get? b=some o)->wpAny (model X.prog X.w) A (pyIter (.ref src)) (λitv s2=>∃ (it:Addr) (tn:Nat->Heap->Prop) (J:It),itv=.ref it /\
   s1.heap.objs.size<=it/\Inv X aa σ H1 s2/\Turn X.prog X.w X.K (.Name "x" ⟨0,0,0,0⟩) J [it] it tn/\tn 0 s2.heap/\(∀ b∈[it],d8 X aa H1 b)/\(∀ b o,s1.heap.get? b=some o->s2.heap.get? b=some o)/\jj X.K J ds Hf) E s1)
 (hQ:∀ (us:List Value) (s':Shared) (H' aj:Hp) (xs:List V),Inv X aa σ H' s'->Vals xs us->aq X.K aj ds xs->bw H Hf H' aj->ds.length<=sizeLine->Q us s'):wpAny (model X.prog X.w) X.A (collect (.ref src)) Q E s:=by
 unfold collect
 refine OQ (wpAny_runValue (Si PySem.F.entry_proto_collect ?_))
 rw [R7 PySem.F.plain_proto_collect _]
 show wpAny _ X.A.in1 (newList [] >>= λl=>again (.builtin "list.__iadd__" ⟨[l,.ref src],[]⟩)) _ _ s
 have HS:H s.heap.objs.size=none:=I.hok.fresh (OT _)
 have hvS:s.heap.objs.size≠src:=RI hlt
 refine OQ (Qu (OS ⟨S6 PySem.F.plain_list_iadd _,Si PySem.F.entry_list_iadd ?_⟩))
 rw [R7 PySem.F.plain_list_iadd _]
 generalize hS:s.heap.objs.size=S at *
 have I1:Inv X aa σ (upd H S (.lst [])) { s with heap:=s.heap.push { cls:=.type "list",data:=.seq ([]:List Value).toArray },toks:=s.toks }:=by
  have:=I.HQ (t':=s.toks) (ys:=[]) (its:=[]) .nil (PK _)
  rw [hS] at this
  exact this
 show wpAny _ X.A.in1 (UE (.ref S) (.ref src) (.ref S)) _ _ { s with heap:=s.heap.push { cls:=.type "list",data:=.seq ([]:List Value).toArray } }
 have k1:∀ b o,s.heap.get? b=some o->(s.heap.push { cls:=.type "list",data:=.seq ([]:List Value).toArray }).get? b=some o:=λb o e=>OX _ e
 generalize hs1:({ s with heap:=s.heap.push { cls:=.type "list",data:=.seq ([]:List Value).toArray } }:Shared)=s1
 replace I1:Inv X aa σ (upd H S (.lst [])) s1:=by rw [<- hs1]; exact I1
 replace k1:∀ b o,s.heap.get? b=some o->s1.heap.get? b=some o:=by rw [<- hs1]; exact k1
 have hltS:S<s1.heap.objs.size:=by rw [<- hs1,<- hS]; show _<(Heap.push _ _).objs.size; rw [QZ]; exact RB _
 refine yE (R:=λr s'=>match r with
  | .ok (.ret v)=>wpAny (model X.prog X.w) X.A (do
   let .ref a:=v | unsupported "internal:collect"
   let o <- load a
   match o.data with
   | .seq xs _=>pure xs.toList
   | _=>unsupported "internal:collect") Q E s'
  | .ok _=>False
  | .error e=>E e s') hc h1 h2 I1 sb HS hvS hltS hn hT (λs' k=>ty s' λb o e=>k b o (k1 b o e)) hint (iter _ s1 _ _ I1 (bw.fU sb HS (o:=.lst [])).b k1) λs' H' aj xs I' hS' _ hr g=>?_
 obtain ⟨_,its,n,rv,el,eo⟩:=I'.oZ hS'
 exact OQ (wpAny_load eo (OS (hQ its s' H' aj xs I' rv hr g hn)))
theorem pP (hc:X.calm=true) (h1:X.A.in1.handled=none) (h2:X.A.in1.frames=some X.stack) (I:Inv X aa σ H s) (sb:aN Hf H) (hv:s.heap.IsItemsView v d) (hH:Hf d=some (.frz o u)) (hd:HO.dct u)
 (hp:Paired (kZ X.K Hf) ds (cE u))
 (hQ:∀ (us:List Value) (s':Shared) (H' aj:Hp) (xs:List V),Inv X aa σ H' s'->Vals xs us->aq X.K aj ds xs->bw H Hf H' aj->ds.length<=sizeLine->Q us s'):wpAny (model X.prog X.w) X.A (collect (.ref v)) Q E s:=by
 obtain ⟨ho,ok⟩:=(show bx X.prog X.w H s.heap d (.frz o u) from I.hok d _ (sb _ _ hH))
 obtain ⟨_,_,_,_,_,_,hz⟩:=cY ok hd ho
 have up:∀ s':Shared,(∀ b o,s.heap.get? b=some o->s'.heap.get? b=some o)->s'.heap.IsItemsView v d:=λs' k=>by obtain ⟨q,q1,q2⟩:=hv; exact ⟨q,k _ _ q1,q2⟩
 refine ig (T:="dict_items") hc h1 h2 I sb (by obtain ⟨_,q,_⟩:=hv; exact OZ q) (by rw [Qf hp]; exact hz) (by decide) (λs' k=>(up s' k).typeIs) (λA s' Q E q h=>yD q h) (λA s1 H1 E I1 sb1 k1=>?_) hQ
 refine P1 (EM (tg:=.Name "x" ⟨0,0,0,0⟩) I1 (up s1 k1) (sb1 _ _ hH) hd) (λitv s2 ⟨it,es,ep,e,hit,I2,Tn,t0,hf,k2⟩=>?_) λ_ _ x=>x
 exact ⟨it,_,_,e,hit,I2,Tn,t0,hf,k2,k9 hH hp⟩
noncomputable def IZ (te:TE):TE:=λσ H Q=>te σ H λx H1=>∃ d o u,x=.ref d/\H1 d=some (.frz o u)/\HO.dct u/\∀ v,H1 v=none->Q (.ref v) (upd H1 v (.ext λh=>h.IsItemsView v d))
theorem BH (he:PE X e te) (hbase:attributeBase e "items" X.env (eval e X.env)=eval e X.env) (hline:(ap.endLine == cp.line)=true):PE X (.Call (.Attribute e "items" ap) [] [] cp) (IZ te):=by
 intro aa s σ H Q I h
 refine Vh (T:="dict") (id:="dict.items") hbase rfl hline F.plainAttrs_dict T9 F.type_dict_items (bJ (he aa s σ H _ I h) λv s1 ⟨x,H1,I1,r1,d,o,u,ex,hH,hd,q⟩=>?_)
 subst ex
 cases r1
 obtain ⟨ho,ok⟩:=(show bx X.prog X.w H1 s1.heap d (.frz o u) from I1.hok d _ hH)
 obtain ⟨hx,es,ep,hod,hp,hs,hz⟩:=cY ok hd ho
 have hT:s1.TypeIs (.ref d) "dict":=⟨o,ho,hx.1⟩
 refine ⟨hT,λb z=>by cases z; exact ⟨o,ho,hx.2.1⟩,?_⟩
 show wpAny _ _ (callWith cp (.builtin "dict.items") [.ref d] [] []) _ _ s1
 refine method_meetsIn T9 F.entry_dict_items rfl (U1 ⟨rfl,hT,F.args_dict_items_1 _,_,jP d hs,hT,?_⟩)
 have Hv:H1 s1.heap.objs.size=none:=I1.hok.fresh (OT _)
 have hve:(s1.heap.push { cls:=.type "dict_items",data:=.fields #[.ref d] }).IsItemsView s1.heap.objs.size d:=⟨_,O7 _ rfl,rfl,rfl⟩
 have I2:Inv X aa σ (upd H1 s1.heap.objs.size (.ext λh=>h.IsItemsView s1.heap.objs.size d)) { s1 with heap:=s1.heap.push { cls:=.type "dict_items",data:=.fields #[.ref d] },toks:=s1.toks } :=
  I1.laid (a:=s1.heap.objs.size) (λ_ _ q=>OX _ q) (OT _) ⟨hve,⟨_,O7 _ rfl⟩,λh1 h2 ⟨o,e,r⟩ k=>⟨o,k o e,r⟩⟩
 exact ⟨.ref s1.heap.objs.size,_,I2,rfl,q _ Hv⟩
section
variable {X:Cx} {aa:List (Addr×Obj)} {σ:L2.St} {H Hf:Hp} {s:Shared} {E:Value->Shared->Prop} {α:Type} {enc:α->D} {lt:α->α->Bool} {κ:SortKind}
theorem lH {K:OR}:∀ {L:List α} {xs:List V} {us:List Value},aq K Hf (L.map enc) xs->Vals xs us->Paired (λx u=>j7 K Hf (enc x) u) L us
 | [],xs,us,h,v=>by rw [Rh,aF] at h; subst h; cases v; exact .nil
 | t::L,xs,us,h,v=>by
  rw [O4] at h
  obtain ⟨x,r,rfl,h1,h2⟩:=aG.mp h
  cases v with
  | cons r1 r2=>exact .cons ⟨x,r1,h1⟩ (lH h2 r2)
theorem lI {K:OR}:∀ {L:List α} {us:List Value},Paired (λx u=>j7 K Hf (enc x) u) L us->∃ xs,aq K Hf (L.map enc) xs/\Vals xs us
 | _,_,.nil=>⟨[],aF.mpr rfl,.nil⟩
 | _,_,.cons ⟨x,r1,h1⟩ t=>by
  obtain ⟨xs,h2,h3⟩:=lI t
  exact ⟨x::xs,.cons h1 h2,.cons r1 h3⟩
structure I0 (X:Cx) (enc:α->D) (lt:α->α->Bool) (κ:SortKind):Prop where
 lin:∀ L:List α,SR.IX lt L
 inj:∀ (aa:List (Addr×Obj)) (σ:L2.St) (H Hf:Hp) (s:Shared),Inv X aa σ H s->aN Hf H->∀ x y u,j7 X.K Hf (enc x) u->j7 X.K Hf (enc y) u->x=y
 kind:∀ (aa:List (Addr×Obj)) (σ:L2.St) (H Hf:Hp) (s:Shared) (A:Around) (E:Value->Shared->Prop),Inv X aa σ H s->aN Hf H->∀ (L:List α) (us:List Value),Paired (λx u=>j7 X.K Hf (enc x) u) L us->2<=us.length->∀ Q:SortKind->Shared->Prop,Q κ s->wpAny (model X.prog X.w) A (keyKind' us.toArray) Q E s
 cmp:∀ (aa:List (Addr×Obj)) (σ:L2.St) (H Hf:Hp) (s:Shared) (A:Around) (E:Value->Shared->Prop),Inv X aa σ H s->aN Hf H->A.units+10<cLine->∀ (x y:α) (u v:Value),j7 X.K Hf (enc x) u->j7 X.K Hf (enc y) v->∀ Q:Bool->Shared->Prop,Q (lt x y) s->wpAny (model X.prog X.w) A (keyLt' κ u v) Q E s
theorem wV:I0 X ah cA (tuples' false) :=
 ⟨j6,λ_ _ _ _ _ I sb _ _ _ h1 h2=>EJ I sb h1 h2,λ_ _ _ _ _ _ _ I sb _ _ p h2 _ hQ=>BF I sb p h2 hQ,λ_ _ _ _ _ _ _ I sb hA _ _ _ _ hx hy _ hQ=>IY I sb hA hx hy hQ⟩
def gn (lt:α->α->Bool) (b:Bool) (L:List α):Prop:=L.Pairwise λx y=>if b then lt y x=true else lt x y=true
abbrev fV (b:Bool) (L:List aI):Prop:=gn cA b L
theorem lJ {Q:Value->Shared->Prop} (hs:I0 X enc lt κ) (I:Inv X aa σ H s) (sb:aN Hf H) (hA:A.units+20<cLine) (hr:aq X.K Hf (L.map enc) xs) (hv:Vals xs us) (hz:us.length<=sizeLine) (nd:L.Nodup)
 (hQ:∀ (L':List α) (xs':List V) (s':Shared),L'.Perm L->gn lt b L'->aq X.K Hf (L'.map enc) xs'->xs'.length<=sizeLine->Inv X aa σ (upd H s.heap.objs.size (.lst xs')) s'->Q (.ref s.heap.objs.size) s') :
 wpAny (model X.prog X.w) A (newList us >>= λl=>(holding [l] (call (.builtin "list.sort") [l] [(OP "reverse",.bool b)]) >>= λ_=>ret l)) (λfin s'=>∃ v,fin=.done (.ret v)/\Q v s') E s:=by
 refine OQ (wpAny_newList ?_ hz)
 have ha:(s.heap.push (seqObj "list" us.toArray 0)).get? s.heap.objs.size=some (seqObj "list" us.toArray 0):=O7 _ rfl
 have I1:Inv X aa σ H { s with heap:=s.heap.push (seqObj "list" us.toArray 0),toks:=s.toks }:=I.kept λb o e=>OX _ e
 have Ha:H s.heap.objs.size=none:=I.hok.fresh (OT _)
 obtain ⟨f0,f1,f2,f3,f4,f5⟩:=I.jh (H':=H) (OT _) Ha
 have pL:=lH hr hv
 refine OQ (Qx (wpAny_call_entry_kw slot_list_sort ⟨_,ha,rfl⟩ entry_list_sort (SR.n6 (κ:=κ) (rk:=SR.yz (λx u=>j7 X.K Hf (enc x) u) lt L) (b:=b) ha ?_ hz λout hp ho=>⟨_,rfl,?_⟩) (args_list_sort_rev _ _)))
 ·intro h' k
  have I2:=I1.turned (h':=h') (t':=s.toks) (it:=s.heap.objs.size) (λb o hb e=>k b o hb e) f0 f1 f3 f4 f5
  refine ⟨λQ E h2 hQ=>hs.kind _ _ _ _ _ _ _ I2 sb _ _ pL h2 _ hQ,SR.BC (λx y u h1 h2=>hs.inj _ _ _ _ _ I2 sb x y u h1 h2) (hs.lin L) pL λx _ y _ u v hx hy E Q hQ=>hs.cmp _ _ _ _ _ _ _ I2 sb ?_ _ _ _ _ hx hy _ hQ⟩
  show A.units+1+10<cLine
  lia
 ·obtain ⟨L',p1,p2,p3⟩:=SR.rR (S:=λx u=>j7 X.K Hf (enc x) u) (λx y u h1 h2=>hs.inj _ _ _ _ _ I sb x y u h1 h2) (hs.lin L) nd pL hp ho
  obtain ⟨xs',r',v'⟩:=lI p3
  obtain ⟨e,he⟩:=sortedHeap_at (vs:=us) (out:=out) ha
  have hl:out.toList.length=us.length:=hp.length_eq
  refine OS ⟨_,rfl,hQ L' xs' _ p1 p2 r' ?_ ?_⟩
  ·have:=v'.length; lia
  ·refine I.laid (t':=s.toks) (λb o q=>?_) (OT _) ⟨by have:=v'.length; lia,out.toList,e,v',by simpa using he⟩
   have lt:=OZ q
   rw [sortedHeap_old (Px lt) (by rw [size_push']; exact Vl lt)]
   exact OX _ q
end
theorem rV (hc:X.calm=true) (I:Inv X aa σ H s) (sb:aN Hf H) (hA:X.A.units+60<cLine) (hv:s.heap.IsItemsView v d) (hH:Hf d=some (.frz o u)) (hd:HO.dct u)
 (hp:Paired (kZ X.K Hf) (L.map ah) (cE u)) (nd:L.Nodup)
 (hQ:∀ (L':List aI) (xs':List V) (s':Shared) (H' aj:Hp) (a:Addr),L'.Perm L->fV b L'->aq X.K aj (L'.map ah) xs'->bw H Hf H' aj->H' a=none->Inv X aa σ (upd H' a (.lst xs')) s'->Q (.ref a) s') :
 wpAny (model X.prog X.w) X.A (call (.builtin "sorted") [.ref v] [(OP "reverse",.bool b)]) Q E s:=by
 refine UQ Uy Uq Us (args_sorted_rev _ _) ?_
 unfold Builtin.«sorted»
 refine OQ (m:=checkCount "sorted" 1 1 _) (OS ?_)
 have h1:X.A.in1.handled=none:=I.ok.hd hc
 have h2:X.A.in1.frames=some X.stack:=I.ok.frames
 refine OQ (pP (X:=EK X X.A.in1) (H:=H) (Hf:=Hf) hc h1 h2 (ju I (λ_=>h1) h2) sb hv hH hd hp λus s' H' aj xs I' rv rr g hz=>?_)
 have I2:=fh I.ok I'
 have el:=rr.length
 have el2:=rv.length
 refine lJ (b:=b) wV I2 g.b ?_ rr rv (by lia) nd λL' xs' s2 p1 p2 p3 p4 I3=>hQ L' xs' s2 H' aj _ p1 p2 p3 g (I2.hok.fresh (OT _)) I3
 show X.A.units+1+20<cLine
 lia
section
variable {K:OR} {c:Ctx P w K mg base k N sc bk}
theorem rX (hm:mg "sorted"=none) (h:aJ c e ρ λd=>∃ L:List aI,d.pairs=some (L.map ah)/\Sd L.Nodup (∀ L':List aI,L'.Perm L->fV true L'->R (.ow (L'.map ah))))
 (hg:sc.names.lookup (OP "sorted")=some .globalImplicit:=by walk_at "u")
 (hb:∀ env,attributeBase e "items" env (eval e env)=eval e env:=by intro _; walk_at "u") (hl:(ap.endLine == cp.line)=true:=by walk_at "u") :
 dP c (.Call (.Name "sorted" np) [.Call (.Attribute e "items" ap) [] [] cp] [⟨some "reverse",.Constant (.bool true) j kp1,kp⟩] pos) ρ R:=λσ H Hf Q S q aa s I=>by
 have hgl:Gl c.X "sorted":=by unfold Gl P8; rw [c.esc]; exact hg
 refine Q8 (d7 I hgl (by rw [c.emg]; exact hm) (show bootBuiltins "sorted"=some (.builtin "sorted") by decide +kernel) ?_ (by decide) (by decide))
 refine callWith_kw ?_
 have hpa:=bD (X:=c.X) (e:=.Call (.Attribute e "items" ap) [] [] cp) (es:=[]) (BH cG (hb _) hl) dh (by rfl)
 refine bJ (hpa pos aa s σ H (λvs H1=>∃ x,vs=[x]/\∃ (v d:Addr) (o:Obj) (u:HO) (L:List aI) (H0 Ds:Hp),x=.ref v/\H1=upd H0 v (.ext λh=>h.IsItemsView v d)/\H0 v=none/\Ds d=some (.frz o u)/\HO.dct u/\Paired (kZ c.X.K Ds) (L.map ah) (cE u)/\L.Nodup/\bw H Hf H0 Ds/\∀ L':List aI,L'.Perm L->fV true L'->R (.ow (L'.map ah))) I ?_) λus s1 ⟨vs,H1,I1,r1,x,ex,v,d,o,u,L,H0,Ds,e1,e2,e3,e4,e5,e6,e7,e8,e9⟩=>?_
 ·exact h σ H Hf _ S λd v H1 aV ⟨L,hp,⟨hn,hR⟩⟩ rv g=>by
   obtain ⟨a,o,u,e1,e2,e3,e4⟩:=nR hp rv
   exact ⟨a,o,u,e1,g.b _ _ e2,e3,λvw hv=>⟨_,rfl,vw,a,o,u,L,H1,aV,rfl,rfl,hv,e2,e3,e4,hn,g,hR⟩⟩
 ·subst ex e1 e2
  have eu:us=[.ref v]:=by
   cases r1 with
   | cons q1 q2=>cases q2; cases q1; rfl
  subst eu
  have g1:bw H0 Ds (upd H0 v (.ext λh=>h.IsItemsView v d)) Ds:=bw.fU e8.b e3
  refine kws_cons (bJ (zH (X:=c.X) (b:=true) (j:=j) (pos:=kp1) aa s1 σ _ (λx H1=>x=.bl true/\H1=upd H0 v (.ext λh=>h.IsItemsView v d)) I1 ⟨rfl,rfl⟩) λkv s2 ⟨x,H2,I2,rx,e10,e11⟩=>kws_nil ?_)
  subst e10 e11
  have ek:kv=.bool true:=rx
  subst ek
  obtain ⟨hvw,_⟩:=(show bx c.X.prog c.X.w _ s2.heap v (.ext λh=>h.IsItemsView v d) from I2.hok v _ af)
  refine rV (b:=true) c.calm I2 g1.b ?_ hvw e4 e5 e6 e7 λL' xs' s' H' aj a p1 p2 p3 g2 na I3=>?_
  ·have:=c.room.un
   have hc:(200:Nat)<=16 * k+200:=by lia
   lia
  ·have gg:=(e8.trans g1).trans g2
   exact ⟨.ref a,_,I3,rfl,q (.ow (L'.map ah)) _ _ aj (e9 L' p1 p2) ⟨a,xs',rfl,gg.s.free na,af,g2.b.free na,p3⟩ (gg.trans (bw.fU gg.b na))⟩
end
theorem pQ (hc:X.calm=true) (I:Inv X aa σ H s) (sb:aN Hf H) (hA:X.A.units+60<cLine) (hl:fQ X.K Hf l ys) (hr:aq X.K Hf (L.map ah) ys) (nd:L.Nodup)
 (hQ:∀ (L':List aI) (xs':List V) (s':Shared) (a:Addr),L'.Perm L->fV b L'->aq X.K Hf (L'.map ah) xs'->H a=none->Inv X aa σ (upd H a (.lst xs')) s'->Q (.ref a) s') :
 wpAny (model X.prog X.w) X.A (call (.builtin "sorted") [.ref l] [(OP "reverse",.bool b)]) Q E s:=by
 refine UQ Uy Uq Us (args_sorted_rev _ _) ?_
 unfold Builtin.«sorted»
 refine OQ (m:=checkCount "sorted" 1 1 _) (OS ?_)
 obtain ⟨its,rv,p,hz⟩:=I.list (sb.seq hl)
 have el:=rv.length
 refine OQ (collect_list p.isList ?_ (by lia))
 have I2:Inv X aa σ H { s with heap:=(s.heap.push (seqObj "list" #[] 0)).update s.heap.objs.size (QD (· ++its.toArray)),toks:=s.toks }:=I.kept λc o e=>by
  rw [Heap.get?_update_ne _ _ _ _ (Px (OZ e))]
  exact OX _ e
 refine lJ (b:=b) wV I2 sb ?_ hr rv (by lia) nd λL' xs' s2 p1 p2 p3 p4 I3=>hQ L' xs' s2 _ p1 p2 p3 (I2.hok.fresh (OT _)) I3
 show X.A.units+1+20<cLine
 lia
section
variable {K:OR} {c:Ctx P w K mg base k N sc bk}
theorem uE (hm:mg "sorted"=none) (h:aJ c e ρ λd=>∃ L:List aI,d=.lst (L.map ah)/\Sd L.Nodup (∀ L':List aI,L'.Perm L->fV true L'->R (.ow (L'.map ah))))
 (hg:sc.names.lookup (OP "sorted")=some .globalImplicit:=by walk_at "u")
 (he:∀ env,starEach [e] env=(false,eval e env)::starEach [] env:=by intro _; walk_at "u")
 (hpl:∀ env,(backTo pos (starEach [e] env)).any (·.1)=false:=by intro _; walk_at "u") :
 dP c (.Call (.Name "sorted" np) [e] [⟨some "reverse",.Constant (.bool true) j kp1,kp⟩] pos) ρ R:=λσ H Hf Q S q aa s I=>by
 have hgl:Gl c.X "sorted":=by unfold Gl P8; rw [c.esc]; exact hg
 refine Q8 (d7 I hgl (by rw [c.emg]; exact hm) (show bootBuiltins "sorted"=some (.builtin "sorted") by decide +kernel) ?_ (by decide) (by decide))
 refine callWith_kw ?_ (by rw [he]; rfl) (hpl _)
 have hpa:=bD (X:=c.X) (e:=e) (es:=[]) cG dh (he _)
 refine bJ (hpa pos aa s σ H (λvs H1=>∃ x,vs=[x]/\∃ (L:List aI) (aV:Hp),Rep c.X.K aV (.lst (L.map ah)) x/\L.Nodup/\bw H Hf H1 aV/\∀ L':List aI,L'.Perm L->fV true L'->R (.ow (L'.map ah))) I ?_) λus s1 hh=>z2 hh λvs H1 hh=>w3 hh λI1 r1 hh=>hh.elim λx hh=>w2 hh λex hh=>z2 hh λL aV hh=>w4 hh λe1 e7 e8 e9=>?_
 ·exact h σ H Hf _ S λd v H1 aV ⟨L,hp,⟨hn,hR⟩⟩ rv g=>⟨_,rfl,L,aV,by rw [<- hp]; exact rv,hn,g,hR⟩
 ·subst ex
  obtain ⟨a0,ys,rfl,hs,hr⟩:=br.mp e1
  have eu:us=[.ref a0]:=by
   cases r1 with
   | cons q1 q2=>cases q2; cases q1; rfl
  subst eu
  refine kws_cons (bJ (zH (X:=c.X) (b:=true) (j:=j) (pos:=kp1) aa s1 σ _ (λx H2=>x=.bl true/\H2=H1) I1 ⟨rfl,rfl⟩) λkv s2 ⟨x,H2,I2,rx,e10,e11⟩=>kws_nil ?_)
  subst e10 e11
  have ek:kv=.bool true:=rx
  subst ek
  refine pQ (b:=true) c.calm I2 e8.b ?_ hs hr e7 λL' xs' s' a p1 p2 p3 na I3=>?_
  ·have:=c.room.un
   lia
  ·exact ⟨.ref a,_,I3,rfl,q (.ow (L'.map ah)) _ _ aV (e9 L' p1 p2) ⟨a,xs',rfl,e8.s.free na,af,e8.b.free na,p3⟩ (e8.trans (bw.fU e8.b na))⟩
end
end EV
namespace EV
open PySem PySem.Spec PyProof.Rows L2
noncomputable def trim (l:List Int):List Int:=(l.reverse.dropWhile λx=>x == 0).reverse
theorem gC (l):trim (l++[0])=trim l:=by simp [trim]
theorem n8 (l) (h:x≠0):trim (l++[x])=l++[x]:=by simp [trim,List.dropWhile_cons,h]
theorem jv {l:List Int} (h:m<l.length):l.take (m+1)=l.take m++[l.getD m 0]:=by
 rw [QE h]; simp [PX,h]
theorem n9 (h:m<l.length) (z:l.getD m 0=0) (e:trim (l.take (m+1))=trim l):trim (l.take m)=trim l:=by
 rw [jv h,z,gC] at e; exact e
theorem oh (h:m<l.length) (z:l.getD m 0≠0) (e:trim (l.take (m+1))=trim l):l.take (m+1)=trim l:=by
 rw [<- e,jv h,n8 _ z]
theorem c6 (l):(trim l).length<=l.length:=by
 unfold trim
 rw [List.length_reverse]
 exact O3 (List.dropWhile_sublist _).length_le (by simp)
theorem cj (l):trim (trim l)=trim l:=by
 unfold trim
 rw [SE]
 congr 1
 generalize l.reverse=r
 induction r with
 | nil=>rfl
 | cons x r ih=>by_cases h:x == 0 <;> simp [List.dropWhile_cons,h,ih]
theorem BI (l:List α) (h:m<=l.length):EV.cutD l none (some (m:Int))=l.take m:=by
 unfold EV.cutD HT.cy
 have e:¬ (m:Int)<0:=by lia
 simp only [e,if_false,P6]
 simp [SQ h]
section
variable {K:OR} {c:Ctx P w K mg base k N sc bk}
theorem s_pop (hN:At N i x) (hi:At ρ i r) (hr:r.getL=some ds) (h:Sd (ds≠[]) (Nx ρ i nx (r.putL ds.dropLast)))
 (hs:∀ env,swapsWith (.Call (.Attribute (.Name x px) "pop" ap) [] [] cp) none pos.line env=pure false:=by intro _; walk_at "u") (hd:(x == ("__debug__":Str))=false:=by decide) (hcd:(x == ("__classdict__":Str))=false:=by decide)
 (hbase:∀ env,attributeBase (.Name x px) "pop" env (eval (.Name x px) env)=eval (.Name x px) env:=by intro _; walk_at "u")
 (hline:(ap.endLine == cp.line)=true:=by walk_at "u") :
 fX c (.Expr (.Call (.Attribute (.Name x px) "pop" ap) [] [] cp) pos) ρ nx p:=λσ H Hf D S o=>by
 obtain ⟨q,eq,rq⟩:=S.own hi.get (bq hr)
 obtain ⟨xs,h1,h2,h3⟩:=yk hr rq
 obtain ⟨hz,ρ',hs',hn⟩:=h
 have hl:=h3.length
 have hlen:0<xs.length:=by
  rw [<- hl]; exact List.length_pos_iff.mpr hz
 obtain ⟨y,hy⟩:∃ y,xs[xs.length - 1]?=some y:=⟨_,Pk (by omega)⟩
 refine cW (iG (tZ TQ PySem.F.slot_list_pop PySem.F.type_list_pop Ae (c.iK hN hd hcd) (hbase _) hline) (hs _)) ⟨_,eq,.inl ⟨rfl,xs,.inl (.inl h1)⟩,?_⟩
 refine ⟨q,xs,y,rfl,rfl,h1,hy,?_⟩
 refine o.nx _ _ Hf ρ' ?_ hn
 rw [hs'.eq]
 exact S.upd hi.get (bq hr) eq (dU S.sb h2) (eY hr rq af h2 h3.dropLast) (cR hr)
end
noncomputable def encA (A:List aI):List (List Key×D):=A.map λt=>(t.1.map Pd,.int t.2)
theorem pR:∀ {l m:List Int},(l.map (Pd:Int->Key))=m.map Pd->l=m
 | [],[],_=>rfl
 | x::l,y::m,h=>by
  simp only [O4,List.cons.injEq,Pd.injEq] at h
  rw [h.1,pR h.2]
 | [],_::_,h=>by simp at h
 | _::_,[],h=>by simp at h
theorem wX (A) (l):ay (encA A) (l.map Pd)=(ay A l).map D.int:=by
 induction A with
 | nil=>rfl
 | cons t A ih =>
  by_cases e:t.1=l
  ·rw [aL e]
   show ay ((t.1.map Pd,D.int t.2)::encA A) _=_
   rw [aL (by rw [e])]; rfl
  ·rw [aB e,<- ih]
   show ay ((t.1.map Pd,D.int t.2)::encA A) _=_
   rw [aB λz=>e (pR z)]
theorem EN (A) (l) (n):putD (encA A) (l.map Pd) (.int n)=encA (putD A l n):=by
 unfold putD
 rw [wX]
 by_cases h:(ay A l).isSome=true
 ·rw [if_pos h,if_pos (by rw [Rm]; exact h)]
  unfold encA
  rw [Py,Py]
  refine Q7 λt _=>?_
  simp only [Um]
  by_cases e:t.1=l
  ·rw [if_pos e,if_pos (by rw [e])]
  ·rw [if_neg e,if_neg λz=>e (pR z)]
 ·rw [if_neg h,if_neg (by rw [Rm]; exact h)]
  unfold encA
  simp
theorem jw:∀ l:List Int,D.keys (l.map D.int)=some (l.map Pd)
 | []=>rfl
 | x::l=>by
  simp only [O4]
  unfold D.keys
  rw [jw l]; rfl
theorem EO (A:List aI) (l:List Int) (n:Int):(putD A l n).length<=A.length+1:=by
 unfold putD; split <;> simp
theorem ER (A):(encA A).length=A.length:=by simp [encA]
theorem rY (l:List Int) (n:Int) (h:(A.map (·.1)).Nodup):((putD A l n).map (·.1)).Nodup:=by
 unfold putD
 split
 ·rw [Py]
  have e:(A.map ((·.1)∘λkv:aI=>if kv.1=l then (kv.1,n) else kv))=A.map (·.1):=Q7 λt _=>by
   simp only [Um]; split <;> rfl
  rw [e]; exact h
 ·rename_i q
  rw [PR,T6]
  refine ⟨h,by simp,?_⟩
  intro a ha b hb
  simp at hb
  subst hb
  intro z
  subst z
  apply q
  obtain ⟨t,ht,e⟩:=Pn.mp ha
  unfold ay
  rw [Rm,List.find?_isSome]
  exact ⟨t,ht,decide_eq_true e⟩
theorem keys_nodup {A:List aI} (h:(A.map (·.1)).Nodup):A.Nodup:=by
 unfold Su at *
 rw [Sa] at h
 exact h.imp λq z=>q (by rw [z])
noncomputable def fK (A:List aI) (t:aI):List aI:=putD A (trim t.1) ((ay A (trim t.1)).getD 0+t.2)
noncomputable def aU (ts:List aI):List aI:=ts.foldl fK []
theorem lK (ts) (t):aU (ts++[t])=fK (aU ts) t:=by simp [aU]
theorem pS (ts:List aI) (A):(ts.foldl fK A).length<=A.length+ts.length:=by
 induction ts generalizing A with
 | nil=>simp
 | cons t ts ih =>
  have h1:=ih (fK A t)
  have h2:=EO A (trim t.1) ((ay A (trim t.1)).getD 0+t.2)
  simp only [Ra,Pu]
  unfold fK at *
  lia
theorem fL (ts):(aU ts).length<=ts.length:=by
 have:=pS ts []
 simpa [aU] using this
theorem c7 (ts):((aU ts).map (·.1)).Nodup:=by
 unfold aU
 have:∀ A:List aI,(A.map (·.1)).Nodup->((ts.foldl fK A).map (·.1)).Nodup:=by
  induction ts with
  | nil=>exact λA h=>h
  | cons t ts ih=>exact λA h=>ih _ (rY _ _ h)
 exact this [] (by simp)
theorem ES (x):cA x x=false:=(j6 [x]).irr x (by simp)
theorem BJ (h:cA x y=true) (g:cA y z=true):cA x z=true:=(j6 [x,y,z]).tr x (by simp) y (by simp) z (by simp) h g
theorem rZ:∀ {L M:List aI},L.Perm M->fV true L->fV true M->L=M
 | [],M,h,_,_=>by rw [List.nil_perm] at h; exact h.symm
 | x::L,[],h,_,_=>by simp at h
 | x::L,y::M,h,h1,h2=>by
  unfold fV gn at h1 h2
  rw [QU] at h1 h2
  by_cases e:x=y
  ·subst e
   rw [rZ ((List.perm_cons _).mp h) h1.2 h2.2]
  ·exfalso
   have hx:x∈M:=by
    have:=h.subset (OY)
    rcases O2.mp this with z | z
    ·exact absurd z e
    ·exact z
   have hy:y∈L:=by
    have:=h.symm.subset (OY)
    rcases O2.mp this with z | z
    ·exact absurd z.symm e
    ·exact z
   have a:=h1.1 y hy
   have b:=h2.1 x hx
   simp only [if_true] at a b
   have:=BJ a b
   rw [ES] at this; cases this
noncomputable def yF (t:aI):List aI->List aI
 | []=>[t]
 | x::r=>if cA x t=true then t::x::r else x::yF t r
noncomputable def gP (L:List aI):List aI:=L.foldr yF []
theorem lM (t):∀ L:List aI,(yF t L).Perm (t::L)
 | []=>.refl _
 | x::r=>by
  unfold yF
  split
  ·exact .refl _
  ·exact ((lM t r).cons x).trans (.swap _ _ _)
theorem bM:∀ L:List aI,(gP L).Perm L
 | []=>.refl _
 | t::L=>(lM t (gP L)).trans ((bM L).cons t)
theorem ET (h:x≠y):cA x y=true\/cA y x=true:=(j6 [x,y]).tot x (by simp) y (by simp) h
theorem wY (t):∀ L:List aI,t∉L->fV true L->fV true (yF t L)
 | [],_,_=>R0 _ _
 | x::r,hn,h=>by
  have h':=h
  unfold fV gn at h'
  rw [QU] at h'
  unfold yF
  by_cases e:cA x t=true
  ·rw [if_pos e]
   unfold fV gn
   rw [QU]
   refine ⟨λy hy=>?_,h⟩
   simp only [if_true]
   rcases O2.mp hy with rfl | z
   ·exact e
   ·have:=h'.1 y z
    simp only [if_true] at this
    exact BJ this e
  ·rw [if_neg e]
   unfold fV gn
   rw [QU]
   refine ⟨λy hy=>?_,wY t r (λz=>hn (O1 _ z)) h'.2⟩
   rcases O2.mp ((lM t r).subset hy) with rfl | z
   ·simp only [if_true]
    rcases ET (x:=x) (y:=y) (λz=>hn (by rw [z]; exact OY)) with q | q
    ·exact absurd q e
    ·exact q
   ·exact h'.1 y z
theorem gD:∀ {L:List aI},L.Nodup->fV true (gP L)
 | [],_=>SN
 | t::L,h=>by
  rw [QJ] at h
  exact wY t _ (λz=>h.1 ((bM L).subset z)) (gD h.2)
theorem pU (hn:L.Nodup) (hp:L'.Perm L) (hs:fV true L'):L'=gP L:=rZ (hp.trans (bM L).symm) hs (gD hn)
noncomputable def nz (L:List aI):List aI:=L.filter λt=>t.2 != 0
theorem BK (hn:L.Nodup):nz (gP L)=gP (nz L) :=
 pU (UZ _ hn) ((bM L).filter _) ((gD hn).filter _)
theorem encK (A):(Sl.oT (encA A)).mV=some (.fdT (A.map λt=>t.1.map Pd) (A.map λt=>.int t.2)):=by
 show some _=some _
 unfold encA
 rw [Py,Py]; rfl
theorem oi (A:List aI):(D.fdT (A.map λt=>t.1.map Pd) (A.map λt=>.int t.2)).pairs=some (A.map ah):=by
 show some _=some _
 congr 1
 rw [List.zipWith_map,List.zipWith_self]
 refine Q7 λt _=>?_
 unfold ah
 congr 3
 rw [Py]; rfl
theorem BL (h:r.ym=some (encA A)) (l):zD r (.tup (l.map .int)) ((ay A l).map D.int):=by
 rw [<- wX]; exact .t h (jw l)
theorem BN (hz:A.length<sizeLine):Ei (.oT (encA A)) (.tup (l.map .int)) (.int n) (.oT (encA (putD A l n))):=by
 rw [<- EN]
 exact .t (r:=.oT (encA A)) rfl (jw l) (by rw [ER]; exact hz)
theorem r6 (o:Option Int):(o.map D.int).getD (.int 0)=.int (o.getD 0):=by cases o <;> rfl
end EV
namespace EV
open PySem PySem.Spec PySem.Calls PyProof.Rows L2
theorem gE {L:List Addr} (I:Inv X aa σ H s) (k:∀ b o,b∉L->s.heap.get? b=some o->h'.get? b=some o) (hf:∀ b∈L,d8 X aa H b):Inv X aa σ H { s with heap:=h',toks:=t' }:=by
 have nit:∀ b u,H b=some u->b∉L:=λb u e z=>by rw [(hf b z).1] at e; cases e
 refine I.step (g':=s.gens) (d':=s.drawn) (ch:=L) (λb hb=>?_) (λb o _ _ hc e _=>k b o hc e) (λb o _ _ hc e _=>⟨o.slots,k b o hc e⟩) (λ_ _ _ _ n=>n)
  (λb o hc e=>⟨o,k b o hc e⟩) (λ_ _ e=>e) (λ_ _ _ e=>e) (λb ps e=>⟨#[],by rw [e]; simp⟩) (λm hm=>?_) (λb u e=>?_) I.bare
 ·obtain ⟨_,f1,_,f3,f4,f5⟩:=hf b hb
  exact ⟨f3,f1,f4,f5⟩
 ·obtain ⟨o,es,ep,ho,r⟩:=hm
  exact ⟨o,es,ep,k _ o (λz=>(hf _ z).2.1 rfl) ho,r⟩
 ·refine (I.hok b u e).stay (λc v hc q=>k c v ?_ q) (λ_ q=>q) λ_ _ q=>q
  rcases hc with z | z
  ·rw [z]; exact nit b u e
  ·exact nit c _ z
noncomputable def uF (ds es:List D):List D:=Te (λx y=>D.tup [x,y]) ds es
theorem boot_zip:bootBuiltins "zip"=some (.type "zip"):=by decide +kernel
section
variable {K:OR}
end
end EV
namespace EV
open PySem PySem.Spec PyProof.Rows L2
theorem pV {A:List aI} {l:List Int} {n:Int} {t:aI} (h:t∈putD A l n):t.1=l\/t∈A:=by
 unfold putD at h
 split at h
 ·obtain ⟨u,hu,e⟩:=Pn.mp h
  split at e
  ·rename_i q; subst e; exact .inl q
  ·subst e; exact .inr hu
 ·rcases Pb.mp h with q | q
  ·exact .inr q
  ·simp at q; subst q; exact .inl rfl
theorem pW (hl:∀ t∈ts,t.1.length<=n):∀ t∈aU ts,trim t.1=t.1/\t.1.length<=n:=by
 unfold aU
 suffices H:∀ A:List aI,(∀ t∈A,trim t.1=t.1/\t.1.length<=n)->∀ t∈ts.foldl fK A,trim t.1=t.1/\t.1.length<=n from H [] (by simp)
 induction ts with
 | nil=>exact λA h=>h
 | cons u ts ih =>
  refine λA h=>ih (λt ht=>hl t (O1 _ ht)) _ λt ht=>?_
  rcases pV ht with e | e
  ·rw [e,cj]
   exact ⟨rfl,O3 (c6 _) (hl u OY)⟩
  ·exact h t e
noncomputable def aR (ts:List aI):List aI:=gP (nz (aU ts))
theorem pX (h:(A.map (·.1)).Nodup):((nz A).map (·.1)).Nodup:=Su.sublist (List.filter_sublist.map _) h
theorem oj (ts):(aR ts).Perm (nz (aU ts)):=bM _
theorem iU (h:t∈aR ts):t∈aU ts/\t.2≠0:=by
 have:=(oj ts).subset h
 unfold nz at this
 rw [QX] at this
 exact ⟨this.1,by simpa using this.2⟩
theorem BO (ts):(aR ts).length<=ts.length:=by
 rw [(oj ts).length_eq]
 exact O3 (List.length_filter_le _ _) (fL ts)
end EV
namespace EV
open PySem PySem.Spec PySem.Calls PyProof.Rows L2
theorem EU {K:OR} {f:Int->Int->Int}:yh K (λxs H Q=>∃ i j,xs=[.int i,.int j]/\Q (.int (f i j)) H) (λds R=>∃ i j:Int,ds=[.int i,.int j]/\R (.int (f i j))):=by
 rintro ds vs H Hf Q R s rs ⟨i,j,rfl,hR⟩ q
 obtain ⟨v,r,rfl,r1,r2⟩:=aG.mp rs
 obtain ⟨v',r',rfl,r1',r2'⟩:=aG.mp r2
 rw [aF] at r2'
 subst r2'
 rw [au] at r1 r1'
 subst r1 r1'
 exact ⟨i,j,rfl,q _ _ H Hf hR (au.mpr rfl) (.refl s)⟩
section
variable {K:OR} {c:Ctx P w K mg base k N sc bk}
theorem boot_max:bootBuiltins "max"=some (.builtin "max"):=by decide +kernel
theorem boot_min:bootBuiltins "min"=some (.builtin "min"):=by decide +kernel
theorem Ja (hm:mg "min"=none) (h:aJ c a ρ λx=>aJ c b ρ λy=>I2 (λi j=>R (.int (if j<i then j else i))) x y) (hg:sc.names.lookup (OP "min")=some .globalImplicit:=by walk_at "u")
 (he:∀ env,starEach [a,b] env=(false,eval a env)::starEach [b] env:=by intro _; walk_at "u") (he2:∀ env,starEach [b] env=(false,eval b env)::starEach [] env:=by intro _; walk_at "u")
 (hpl:∀ env,(backTo pos (starEach [b] env)).any (·.1)=false:=by intro _; walk_at "u"):aJ c (.Call (.Name "min" p) [a,b] [] pos) ρ R :=
 vQ (x9 c.calm) (EU (f:=λi j=>if j<i then j else i)) hm boot_min (eE (h.imp λx h1=>eE (h1.imp λy ⟨i,j,e1,e2,hR⟩=>jL ⟨i,j,by rw [e1,e2],hR⟩) he2) he) hg (by decide) (by decide) he hpl
theorem GI (h:aJ c a ρ λx=>aJ c b ρ λy=>I2 (λi j=>Sd (zS i j) (R (.int (i * 2 ^ j.toNat)))) x y):aJ c (.BinOp a .LShift b pos) ρ R :=
 f9 (kN HC jJ (h.imp λx hx=>hx.imp λy ⟨i,j,e1,e2,⟨hc,r⟩⟩=>⟨i,j,e1,e2,hc,_,rfl,r⟩))
theorem BP (h:aJ c a ρ λx=>aJ c b ρ λy=>I2 (λi j=>Sd (0<=j) (R (.int (i / 2 ^ j.toNat)))) x y):aJ c (.BinOp a .RShift b pos) ρ R :=
 f9 (kN HD jJ (h.imp λx hx=>hx.imp λy ⟨i,j,e1,e2,⟨hc,r⟩⟩=>⟨i,j,e1,e2,hc,_,rfl,r⟩))
theorem uG (h:aJ c a ρ λx=>aJ c b ρ λy=>I2 (λi j=>R (.int (Uk i j))) x y):aJ c (.BinOp a .BitAnd b pos) ρ R :=
 f9 (kN HE As (h.imp λx hx=>hx.imp λy ⟨i,j,e1,e2,r⟩=>⟨i,j,e1,e2,_,rfl,r⟩))
end
noncomputable abbrev NU:=List (Key×D)->List D->(List (Key×D)->Prop)->Prop
noncomputable def Kq (K:OR) (F:NU):Sp:=λvs H Q _=>∃ Hf p kvs xs us ds B,vs=.ref p::us/\aN Hf H/\H p=some (.dK xs)/\Hf p=none/\gW K Hf kvs xs/\aq K Hf ds us/\F kvs ds B /\
 ∀ kvs' H' aj xs',B kvs'->bw (del H p) Hf H' aj->H' p=some (.dK xs')->aj p=none->gW K aj kvs' xs'->Q .non H'
structure Jb (P:Program) (w:World) (K:OR) (mg:Str->Option Value) (base:Heap) (k:Nat) (x:Str) (F:NU):Prop where
 ex:∃ f fd ps,mg x=some (.ref f)/\QY K (.ref f)=true/\Binds K fd ps []/\bh P w K mg base (cV P w) k f fd ps (Kq K F)
noncomputable def startM (q:Addr) (kvs:List (Key×D)) (N:List Str) (ds:List D):List Sl:=.aK q kvs::(ds.map .va++Pq (N.length - (ds.length+1)) .un)
theorem yG {K:OR} (r:aq K Hf ds us) (sb:aN Hf H) (h1:H q=some (.dK xs)) (h2:Hf q=none) (h3:gW K Hf kvs xs) :
 d9 K (del H q) Hf (L2.start N (.ref q::us)) H Hf (startM q kvs N ds):=by
 have hl:=r.length
 have rest:∀ (i:Nat) (r':Sl),(startM q kvs N ds)[i+1]?=some r'->r'≠.un->∃ d,ds[i]?=some d/\r'=.va d:=λi r' h hu=>by
  have h':(ds.map Sl.va++Pq (N.length - (ds.length+1)) Sl.un)[i]?=some r':=by simpa [startM] using h
  by_cases w:i<ds.length
  ·rw [Q4 (by simpa using w),O8,Pk w] at h'
   cases h'
   exact ⟨_,by simp,rfl⟩
  ·rw [Rx (by simp; lia)] at h'
   exact absurd (TL (QG h')) hu
 refine ⟨⟨λb o e=>(dF e).2,.refl _,sb,λ_ h _ _=>h⟩,by simp [L2.start,startM,hl],λi r' h hu=>?_,λi j r1 r2 p hne e1 e2 o1 o2=>?_⟩
 ·cases i with
  | zero =>
   have:r'=.aK q kvs:=by simpa [startM] using h.symm
   subst this
   exact ⟨.ref q,by simp [L2.start],q,xs,rfl,⟨eX,rfl⟩,h1,h2,h3⟩
  | succ i =>
   obtain ⟨d,hd,rfl⟩:=rest i r' h hu
   obtain ⟨x,e2,rx⟩:=r.get hd
   refine ⟨x,?_,rx⟩
   have hi:i<us.length:=(O6.mp e2).1
   unfold L2.start
   rw [Q4 (by simp; lia)]
   simp [e2]
 ·exfalso
  have own:∀ {i:Nat} {r:Sl},(startM q kvs N ds)[i]?=some r->r.owned=true->i=0:=λ{i r} h ho=>by
   cases i with
   | zero=>rfl
   | succ i =>
    obtain ⟨d,_,rfl⟩:=rest i r h (by rintro rfl; cases ho)
    cases ho
  exact hne ((own e1 o1).trans (own e2 o2).symm)
section
variable {K:OR} {c:Ctx P w K mg base k N sc bk}
theorem NV {st:Stmt} (Fu:dO K x qual st f fd) (SV:FS N ps st) (ar:∀ kvs ds B,F kvs ds B->ds.length+1=ps.length)
 (body:∀ (c:Ctx P w K mg base k N (aP st) false),c.X.xe=(λ_ _=>False)->∀ q kvs ds B,F kvs ds B->aH c (av st) (startM q kvs N ds) (λρ=>∃ kvs' r,B kvs'/\ρ=.aK q kvs'::r) { rt:=λ_=>False }) :
 bh P w K mg base (cV P w) (k+1) f fd ps (Kq K F):=by
 obtain ⟨Sc,Vi⟩:=AD SV
 obtain ⟨oc,od,kV,doc,pm,an,cdv,ct,osl,rfl,lk,hcd⟩:=Fu.ex
 refine zW lk hcd Sc (λvs H Q E hh=>z4 hh λHf q kvs xs hh=>z3 hh λus ds B hh=>w8 hh λe _ _ _ _ rs hF _=>by rw [e,Pu,<- rs.length]; exact ar _ _ _ hF) λA outer s H vs Q E hr hh=>z4 hh λHf q kvs xs hh=>z3 hh λus ds B hh=>w8 hh λe sb h1 h2 h3 rs hF hq=>?_
 subst e
 let X:Cx:=(qI (cV P w) P w K mg base N qual (aP st) f cdv A outer s H E).Ga
 let c:Ctx P w K mg base k N (aP st) false :=
  { X:=X,eP:=rfl,ew:=rfl,eK:=rfl,emg:=rfl,eb:=rfl,eN:=rfl,esc:=rfl,calm:=rfl,top:=λ_=>⟨rfl,rfl,rfl⟩,cb:=λ_ _ _ _ _ I x c h=>I.ok.cab x c rfl h,fn:=λ_ _=>.inl rfl,B:=del H q,room:=hr,nd:=Sc.nd,vis:=Vi,Hf:=Hf,RX:=λ_ _=>False,
    exc:=λ_ _ _ _ _ _ _ _ _ _ _ _ h _ _=>h.elim,RM:=λ_ _=>False,mde:=λ_ _ _ _ _ _ _ _ _ _ _ _ h _=>h.elim }
 refine ⟨_,tH.Ga (t:=Ic X (av st)) (qQ (X:=X)),?_⟩
 refine body c rfl q kvs ds B hF (L2.start N (.ref q::us)) H Hf _ (yG rs sb h1 h2 h3) ⟨λσ H' aj ρ S ⟨kvs',r,hB,e⟩=>?_,λr v H' aj g rv e=>e.elim,λ_ _ _ _ _ h=>h.elim,λ_ _ _ _ _ h=>h.elim⟩
 subst e
 obtain ⟨v,_,q',xs',_,⟨_,rfl⟩,a1,a2,a3⟩:=S.at_ 0 _ rfl (by simp)
 exact hq kvs' H' aj xs' hB S.bas a1 a2 a3
theorem EW (h:Jb P w K mg base j x F) (hj:j<=k) (hN:At N i y) (hi:At ρ i r) (hr:r.qZ=some kvs)
 (ha:qR c es ρ λds=>∃ B,F kvs ds B/\∀ kvs',B kvs'->Nx ρ i nx (r.jN kvs'))
 (hg:sc.names.lookup x=some .globalImplicit:=by walk_at "u") (hdb:(x == ("__debug__":Str))=false:=by decide) (hd:(y == ("__debug__":Str))=false:=by decide) (hcd:(y == ("__classdict__":Str))=false:=by decide)
 (he:∀ env,starEach (.Name y py::es) env=(false,eval (.Name y py) env)::starEach es env:=by intro _; walk_at "u")
 (hpl:∀ env,(backTo cp (starEach es env)).any (·.1)=false:=by intro _; walk_at "u")
 (hs:∀ env,swapsWith (.Call (.Name x px) (.Name y py::es) [] cp) none pos.line env=pure false:=by intro _; walk_at "u"):fX c (.Expr (.Call (.Name x px) (.Name y py::es) [] cp) pos) ρ nx p:=λσ H Hf D S o=>by
 obtain ⟨q,eq,rq⟩:=S.own hi.get (fE hr)
 obtain ⟨xs,h1,h2,h3⟩:=ug hr rq
 refine cW (iG cG (hs _)) (show bE c.X _ σ H (λ_ H'=>D.nx σ H') from λaa s I=>?_)
 obtain ⟨f,fd,ps,hm,hk,hb,hF⟩:=h.ex
 refine Q8 (jX I (by unfold Gl P8; rw [c.esc]; exact hg) (by rw [c.emg]; exact hm) ?_ hdb)
 have hA:bA c.X (.Name y py::es) σ H (λvs H1=>∃ us aV ds B,vs=.ref q::us/\F kvs ds B/\(∀ kvs',B kvs'->Nx ρ i nx (r.jN kvs'))/\aq c.X.K aV ds us/\bw H Hf H1 aV) :=
  vI (bD (c.iK hN hd hcd) Gj (he _)) ⟨_,eq,ha σ H Hf _ S λds vs H1 aV ⟨B,hF,hn⟩ rs g=>⟨vs,aV,ds,B,rfl,hF,hn,rs,g⟩⟩
 refine U8 (h₀:=c.X.base) I.ok.mod.kin (by rw [c.eK]; exact hk) (bJ (hA cp aa s I) λus s1 hh=>z2 hh λvs H1 hh=>w3 hh λI1 rv hh=>z4 hh λus' aV ds B hh=>w5 hh λev hF' hn rs g=>⟨I1.Dl,?_⟩) (he _) (hpl _)
 subst ev
 have S1:=S.cC g
 have rq1:=rq.cC g
 obtain ⟨xs1,a1,a2,a3⟩:=ug hr rq1
 have hF2:bh c.X.prog c.X.w c.X.K c.X.mg c.X.base (cV c.X.prog c.X.w) k f fd ps (Kq c.X.K F):=by rw [c.eP,c.ew,c.eK,c.emg,c.eb]; exact hF.mono hj
 have vq:Kq c.X.K F (.ref q::us') H1 (λ_ H'=>D.nx σ H') (λ_ _ _=>False):=by
  refine ⟨aV,q,kvs,xs1,us',ds,B,rfl,g.b,a1,a2,a3,rs,hF',λkvs' H' aj xs' hB g2 b1 b2 b3=>?_⟩
  obtain ⟨ρ',hs',hn⟩:=hn kvs' hB
  refine o.nx σ H' aj ρ' ?_ hn
  rw [hs'.eq]
  exact S1.upd hi.get (fE hr) eq g2 (kP hr rq1 b1 b2 b3) (gZ hr)
 have hl:us.length=ps.length:=by rw [<- rv.length]; exact hF2.len _ _ _ _ vq
 have hb':Binds c.X.K fd ps []:=by rw [c.eK]; exact hb
 have hb2:=hb' s1 us I1.Dl (by simpa using hl)
 rw [Qd] at hb2
 refine wpAny_call (Tc (hF2.run c.X.A c.X.stack s1 H1 ⟨us,[]⟩ us _ _ _ c.room I1.HL hb2 rv vq) λr' s' hq=>?_)
 cases r' with
 | error e =>
  obtain ⟨a,C,H',rfl,hE,h⟩:=hq
  exact h.elim
 | ok fl =>
  cases fl with
  | ret u=>exact I1.after hq
  | next=>exact Qi hq
  | brk=>exact Qi hq
  | cont=>exact Qi hq
end
theorem aq.many {K:OR} (h:aq K H ds xs):∀ k:Nat,aq K H (Pq k ds).flatten (Pq k xs).flatten
 | 0=>aF.mpr rfl
 | k+1=>by
  rw [Rl,Rl,Se,Se]
  exact h.append (aq.many h k)
theorem aq.set {K:OR}:∀ {ds:List D} {xs:List V} (i:Nat) {d:D} {v:V},aq K H ds xs->Rep K H d v->aq K H (ds.set i d) (xs.set i v)
 | [],_,i,_,_,h,_=>by rw [aF] at h; subst h; exact aF.mpr rfl
 | e::ds,_,i,d,v,h,q=>by
  obtain ⟨x,r,rfl,h1,h2⟩:=aG.mp h
  cases i with
  | zero=>exact .cons q h2
  | succ i=>exact .cons h1 (aq.set i h2 q)
theorem BQ {n k:Nat} {i:Int} (hi:i=k) (e:s.heap.get? l=some { cls:=.type "list",data:=.seq items n }) (hk:k<items.size) (hf:items.size<2 ^ 63)
 (hQ:Q () { s with heap:=s.heap.update l (QD λxs=>xs.setIfInBounds k v) }):wpAny (model prog w) A (setItem (.ref l) (.int i t) v) Q E s:=by
 have ht:s.TypeIs (.ref l) "list":=⟨_,e,rfl⟩
 have hx:items[k]?=some items[k]:=Pj hk
 unfold setItem
 refine Qx (OQ (Vf ht (by decide) ?_))
 refine OQ (Rj (name:=OP "__setitem__") ht PySem.slot_list_setitem (QV PySem.slot_list_setitem ht PySem.entry_list_setitem ?_ (PySem.args_list_setitem _ _ _)))
 show wpAny _ _ (Builtin.List.listSubscript? (.int i t) >>= _) _ _ s
 refine OQ (wpAny_listSubscript_int (fitsIndex_of (show 0<=i by lia) (show i<2 ^ 63 by lia)) ?_)
 clear hf
 subst hi
 show wpAny _ _ ((seqItemAt l k >>= λr=>pure (r.map λx=>(k,x))) >>= _) _ _ s
 refine OQ (OQ (wpAny_seqItemAt e rfl (OS ?_)))
 rw [hx]
 show wpAny _ _ (setSeqItemAt l k v >>= _) _ _ s
 refine OQ (wpAny_setSeqItemAt e rfl ?_)
 first
  | exact OQ (OS (OS ⟨Qy,rfl,OS hQ⟩))
  | exact OS ⟨Qy,rfl,OS hQ⟩
noncomputable def LO:Hl:=λo i v H Q=>∃ l xs k,o=.ref l/\i=.int (k:Nat)/\H l=some (.lst xs)/\k<xs.length/\Q (upd H l (.lst (xs.set k v)))
theorem BR:KD X LO:=by
 intro aa s σ H o i v ov iv u Q I r1 r2 r3 h
 obtain ⟨l,xs,k,rfl,rfl,hH,hk,q⟩:=h
 cases r1
 obtain ⟨t,rfl⟩:=r2
 obtain ⟨z,its,n,r,hl,e⟩:=I.oZ hH
 have hbig:xs.length<2 ^ 63:=QH z (by decide)
 refine BQ rfl e (by rw [Pg,<- hl]; exact hk) (by rw [Pg,<- hl]; exact hbig) ⟨_,I.t8 (its':=its.set k u) (t':=s.toks) hH e ?_ (Vals.set r3 k r) (by rw [List.length_set]; exact z),q⟩
 show its.toArray.setIfInBounds k u=(its.set k u).toArray
 simp
theorem EX:Nu X "int.bit_length" (λx vs H Q=>∃ i,x=.int i/\vs=[]/\Q (.int (PY i:Nat)) H):=by
 intro aa s σ H x xs v us Q I r1 r2 h
 obtain ⟨i,rfl,rfl,q⟩:=h
 obtain ⟨t,rfl⟩:=r1
 cases r2
 exact PyProof.Rows.call_int_bit_length ⟨.int (PY i:Nat),H,I.tok _,⟨_,rfl⟩,q⟩
section
variable {K:OR} {c:Ctx P w K mg base k N sc bk}
theorem Jc (h:aJ c e ρ (I1 λi=>R (.int (PY i:Nat)))) (hbase:∀ env,attributeBase e "bit_length" env (eval e env)=eval e env:=by intro _; walk_at "u") (hline:(ap.endLine == cp.line)=true:=by walk_at "u") :
 aJ c (.Call (.Attribute e "bit_length" ap) [] [] cp) ρ R:=λσ H Hf Q S q =>
 ck (tZ PySem.F.plainAttrs_int PySem.F.slot_int_bit_length PySem.F.type_int_bit_length EX cG (hbase _) hline) (h σ H Hf _ S λd v H' aj ⟨i,e,hR⟩ r g=>by
  subst e
  rw [au] at r; subst r
  exact ⟨rfl,i,rfl,rfl,q _ _ H' aj hR (au.mpr rfl) g⟩)
theorem LP {R:Sl->Prop} (h:dP c a ρ λr=>∃ ds,r=.ow ds/\aJ c b ρ (I1 λn=>Sd ((0<=n/\n<2 ^ 63)/\ds.length * n.toNat<=sizeLine) (R (.ow (Pq n.toNat ds).flatten)))):dP c (.BinOp a .Mult b pos) ρ R:=λσ H Hf Q S q =>
 ck (Ge HR cG cG) (h σ H Hf _ S λr v H1 aV ⟨ds,er,h1⟩ rr g1=>h1 σ H1 aV _ (S.cC g1) λdn u H2 cN ⟨n,en,⟨⟨n0,n1⟩,hz⟩,hR⟩ rn g2=>by
  subst er en
  rw [au] at rn; subst rn
  obtain ⟨l,xs,rfl,fl,k1,k2,k3⟩:=rr
  have k1':=g2.s _ _ k1
  refine ⟨l,n,xs,rfl,rfl,k1',by lia,n1,by rw [<- k3.length]; exact hz,λp hp=>?_⟩
  have g3:=bw.fU (o:=.lst (Pq n.toNat xs).flatten) g2.b hp
  exact q _ _ _ _ hR ⟨p,_,rfl,(g1.trans g2).s.free hp,af,g2.b.free hp,(k3.mono g2.f).many _⟩ ((g1.trans g2).trans g3))
theorem Jd (hN:At N i x) (hi:At ρ i r) (hr:r.getL=some ds) (h:aJ c e ρ λdv=>aJ c b ρ λdk=>∃ m:Nat,dk=.int m/\Sd (m<ds.length) (Nx ρ i nx (r.putL (ds.set m dv))))
 (hs:∀ env,swapsWithSole [.Subscript (.Name x px) b tp] e pos.line env=pure false:=by intro _; walk_at "u") (hw:∀ env,swappedStores [.Subscript (.Name x px) b tp] e env=pure none:=by intro _; walk_at "u")
 (h1:∀ env,(assignEach [.Subscript (.Name x px) b tp] env).map (·.2)=[assign (.Subscript (.Name x px) b tp) env]:=by intro _; walk_at "u")
 (ha:∀ env v,assign (.Subscript (.Name x px) b tp) env v=(do
   let ov <- holding [v] (eval (.Name x px) env)
   let iv <- holding [v,ov] (eval b env)
   standAt tp
   holding [v,ov,iv] (setItem ov iv v)
   release [v,ov,iv] []):=by intro _ _; walk_at "u")
 (hd:(x == ("__debug__":Str))=false:=by decide) (hcd:(x == ("__classdict__":Str))=false:=by decide):fX c (.Assign [.Subscript (.Name x px) b tp] e pos) ρ nx p:=λσ H Hf D S o=>by
 obtain ⟨q,eq,rq⟩:=S.own hi.get (bq hr)
 refine cW (Hr cG (Hq (c.iK hN hd hcd) cG BR (ha _)) (hs _) (hw _) (h1 _)) (h σ H Hf _ S λdv v H1 aV h2 rv g1=>⟨_,eq,h2 σ H1 aV _ (S.cC g1) λdk y H2 cN ⟨m,em,hm,ρ',hs',hn⟩ ry g2=>?_⟩)
 subst em
 rw [au] at ry; subst ry
 have g:=g1.trans g2
 obtain ⟨xs,k1,k2,k3⟩:=yk hr (rq.cC g)
 refine ⟨q,xs,m,rfl,rfl,k1,by rw [<- k3.length]; exact hm,o.nx _ _ cN ρ' ?_ hn⟩
 rw [hs'.eq]
 exact (S.cC g).upd hi.get (bq hr) eq (dU g.b k2) (eY hr (rq.cC g) af k2 (k3.set m (Rep.mono g2.f _ rv))) (cR hr)
end
theorem lN {K:OR}:∀ {ns:List Int} {xs:List V},aq K H (ns.map D.int) xs->xs=ns.map V.int
 | [],xs,h=>by rw [Rh,aF] at h; subst h; rfl
 | b::bs,xs,h=>by
  rw [O4,aG] at h
  obtain ⟨x,r,rfl,h1,h2⟩:=h
  rw [au] at h1
  rw [h1,lN h2]; rfl
theorem jQ {ns:List Int} {us:List Value} (h:Vals (ns.map V.int) us) (i:Nat) (v:Value) (e:us.toArray[i]?=some v):∃ t,v=.int (ns.getD i 0) t:=by
 have e':us[i]?=some v:=by simpa using e
 have hi:i<ns.length:=by
  have:=(O6.mp e').1
  have l:=h.length
  rw [OW] at l
  omega
 obtain ⟨u,hu,r⟩:=h.get (i:=i) (x:=.int (ns.getD i 0)) (by simp [PX,hi])
 rw [e'] at hu; cases hu
 exact r
theorem uH (I:Inv X aa σ H s) (hq:fQ X.K H p xs) :
 ∃ its:List Value,Vals xs its/\s.heap.IsList p its.toArray/\p<s.heap.objs.size:=by
 obtain ⟨its,rv,pl,hz⟩:=I.list hq
 exact ⟨its,rv,pl.isList,by obtain ⟨o,e,_⟩:=pl.isList; exact OZ e⟩
theorem yH (I:Inv X aa σ H s) (hk:∀ b o,b∉[s.heap.objs.size]->(s.heap.push ob).get? b=some o->h'.get? b=some o):Inv X aa σ H { s with heap:=h',toks:=tk } :=
 I.kept (h':=h') (t':=tk) λb u e=>hk b u (by simpa using Px (OZ e)) (OX _ e)
theorem yI (hc:X.calm=true):fR X (.builtin "max") (λxs H Q=>∃ (p:Addr) (ns:List Int),xs=[.ref p]/\ns≠[]/\fQ X.K H p (ns.map V.int)/\∀ m∈ns,(∀ n∈ns,n<=m)->Q (.int m) H):=by
 intro aa s σ H xs us Q I r h
 obtain ⟨p,ns,rfl,hne,hq,q⟩:=h
 obtain ⟨u,rfl,rx⟩:=vals1 r
 cases rx
 obtain ⟨its,rv,pl,hlt⟩:=uH I hq
 have hn:its.toArray.size=ns.length:=by have l:=rv.length; rw [OW] at l; simp [l]
 have hpos:0<ns.length:=List.length_pos_iff.mpr hne
 refine call_max_walk (SM pl ?_)
 have hh:X.A.in1.handled=none:=I.ok.hd hc
 refine ⟨_,_,_,_,_,_,_,rfl,Walks.list hh s.heap.objs.size p (Px hlt) its.toArray,⟨⟨_,O7 _ rfl,rfl,rfl⟩,pl.at λo e=>OX _ e⟩,?_,by rw [hn]; exact hpos,CmpOf.ints_gt (λi=>ns.getD i 0) (jQ rv),?_⟩
 ·intro b hb
  show b<(s.heap.push _).objs.size
  rw [QZ]
  simp only [O2,QA,or_false] at hb
  rcases hb with rfl | rfl
  ·exact RB _
  ·exact Vl hlt
 ·intro v h' tk hP hk
  obtain ⟨t,rfl⟩:=jQ rv _ _ hP
  obtain ⟨b1,b2⟩:=argBest_gt (λi=>ns.getD i 0) (its.toArray.size - 1)
  rw [hn] at b1 b2 |-
  have J:=yH (s:=s) (tk:=tk) I hk
  refine ⟨.int _,H,J,⟨_,rfl⟩,q _ ?_ λn hm=>?_⟩
  ·rw [PX,Pk (by omega)]
   exact Pw _
  ·obtain ⟨j,hj,rfl⟩:=List.getElem_of_mem hm
   have:=b2 j (by omega)
   rw [show ns.getD j 0=ns[j] by simp [PX,hj]] at this
   exact this
section
variable {K:OR} {c:Ctx P w K mg base k N sc bk}
theorem yJ {Z:List Int->Int->Prop} (hr:∀ (p:Addr) (ns:List Int) H Q,fQ K H p (ns.map V.int)->(∀ m,Z ns m->Q (.int m) H)->ns≠[]->r [.ref p] H Q) :
 yh K r (λds R=>∃ ns:List Int,ns≠[]/\ds=[.lst (ns.map D.int)]/\∀ m,Z ns m->R (.int m)):=by
 rintro ds vs H Hf Q R s rs ⟨ns,hne,rfl,hR⟩ q
 obtain ⟨v,rfl,rv⟩:=kO rs
 rw [br] at rv
 obtain ⟨a,xs,rfl,h1,h2⟩:=rv
 rw [lN h2] at h1
 exact hr a ns H Q (s.seq h1) (λm hm=>q _ _ H Hf (hR m hm) (au.mpr rfl) (.refl s)) hne
theorem Je (hm:mg "max"=none) (h:aJ c e ρ λx=>∃ ns:List Int,ns≠[]/\x=.lst (ns.map D.int)/\∀ m,(m∈ns/\∀ n∈ns,n<=m)->R (.int m)) (hg:sc.names.lookup (OP "max")=some .globalImplicit:=by walk_at "u")
 (he:∀ env,starEach [e] env=(false,eval e env)::starEach [] env:=by intro _; walk_at "u"):aJ c (.Call (.Name "max" p) [e] [] pos) ρ R :=
 vQ (yI c.calm) (yJ (Z:=λns m=>m∈ns/\∀ n∈ns,n<=m) λp ns H Q h q hne=>⟨p,ns,rfl,hne,h,λm h1 h2=>q m ⟨h1,h2⟩⟩) hm boot_max
  (eE (h.imp λd ⟨ns,hne,e,hR⟩=>jL ⟨ns,hne,by rw [e],hR⟩) he) hg (by decide) (by decide) he (by intro _; walk_at "u")
end
section
variable {prog:Program} {w:World} {A:Around} {E:Value->Shared->Prop} {s:Shared}
variable {jt tp:Addr} {i:Nat} {items:Array Value}
theorem nextT (hh:A.handled=none) (h1:s.heap.IsTupleIter jt tp i) (h2:s.heap.IsTuple tp items)
 (hv:∀ v,items[i]?=some v->∀ h',h'.IsTupleIter jt tp (i+1)->QW jt s.heap h'->Q v { s with heap:=h' })
 (hn:items[i]?=none->∀ h' e,Rt jt s.heap h'->(∃ o,h'.get? e=some o/\o.cls=.type "StopIteration")->E (.ref e) { s with heap:=h' }) :
 wpAny (model prog w) A (QS (.ref jt)) Q E s:=by
 obtain ⟨ob,hob,hcb,hdb⟩:=id h1
 obtain ⟨ot,hot,_,m,hdt⟩:=id h2
 unfold QS
 refine OQ (Rj (name:=OP "__next__") h1.typeIs F.slot_tuple_iterator_next (QV F.slot_tuple_iterator_next h1.typeIs F.entry_tuple_iterator_next ?_ (F.args_tuple_iterator_next_1 _)))
 show wpAny _ _ (field (.ref jt) 0 >>= _) _ _ s
 refine OQ (P7 hob hdb (x:=.ref tp) rfl ?_)
 show wpAny _ _ (if (Po tp == Qy)=true then _ else _) _ _ s
 rw [if_neg (show ¬ ((Po tp == Qy)=true) from O5)]
 show wpAny _ _ (field (.ref jt) 1 >>= _) _ _ s
 refine OQ (P7 hob hdb (x:=.int i 0) rfl ?_)
 show wpAny _ _ (seqItems? (.ref tp) >>= _) _ _ s
 refine OQ (RG hot hdt ?_)
 rw [P6]
 dsimp only
 cases hx:items[i]? with
 | some v =>
  have q:=hv v hx (s.heap.update jt (Obj.mapFields λvs=>vs.setIfInBounds 1 (rawInt ((i:Int)+1)))) ⟨_,Heap.get?_update_self _ hob (Obj.isFreed_of_fields (Obj.data_mapFields hdb _)),(Obj.cls_mapFields ..).trans hcb,by rw [Obj.data_mapFields hdb]; simp [rawInt]⟩ (U5 ..)
  dsimp only
  exact OQ (wpAny_setField hob hdb (by simp) (OS ⟨v,rfl,OS q⟩))
 | none =>
  dsimp only
  refine OQ (Qg (OQ (wpAny_setField hob hdb (by simp) (show wpAny _ _ (newExc (.type "StopIteration") [] >>= _) _ _ _ from OQ ?_))))
  simp only [newExc,newTuple]
  refine OQ (Qu (OQ (m:=firstArgMember _ _) (wpAny_of_eq (a:=Qy) (by first | rfl | (simp only [firstArgMember]; rfl)) (Qu ?_ (by size_fits)))) (by size_fits))
  simp only [raiseNew]
  refine OQ (wpAny_handled ?_)
  rw [show A.in1.handled=none from hh]
  exact OQ (OS (wpAny_throw (hn hx _ _ (((U5 ..).extBut.push _).push _) ⟨_,O7 _ rfl,rfl⟩)))
theorem Jf (hh:A.handled=none) (jt tp:Addr) (hne:tp≠jt) (items:Array Value) :
 Draws prog w A jt [jt,tp] items.size (λi v=>items[i]?=some v) (λi h=>h.IsTupleIter jt tp i/\h.IsTuple tp items) where
 live:=λ_ _ ⟨⟨o,ho,_⟩,_⟩=>⟨o,ho⟩
 frame:=λ_ _ _ ⟨⟨o,e,r⟩,⟨o',e',r'⟩⟩ hk=>⟨⟨o,hk jt (by simp) o e,r⟩,o',hk tp (by simp) o' e',r'⟩
 item:=λi s Q E hi ⟨s1,s2⟩ q=>nextT hh s1 s2 (λv hv h' a b=>q v h' s.toks hv ⟨a,s2.extBut b.extBut hne⟩ b) λhx=>by
  rw [Pj hi] at hx; cases hx
 done:=λs Q E ⟨s1,s2⟩ q=>nextT hh s1 s2 (λv hv=>by simp at hv) λ_=>q
end
set_option maxHeartbeats 1000000 in
theorem r8 (tp) (items) (n) (dc) (sl) :
 Meets (Builtin.«enumerate.__new__» ⟨[.type "enumerate",.ref tp],[]⟩) (λ_ R s=>s.heap.get? tp=some { cls:=.type "tuple",dict:=dc,data:=.seq items n,slots:=sl } /\
  R (.ok (.ret (.ref (s.heap.push { cls:=.type "tuple_iterator",data:=.fields #[.ref tp,.int 0 0] }).objs.size)))
   { s with heap:=(s.heap.push { cls:=.type "tuple_iterator",data:=.fields #[.ref tp,.int 0 0] }).push { cls:=.type "enumerate",data:=.fields #[.none,.bool false,.ref s.heap.objs.size,rawInt 0,.none,.none] } }) :=
 .of_wp λprog w A R ⟨hp,g,d,tk,os⟩ ⟨hl,h⟩=>by
  have hz:=sub_enumerate
  have hT:Heap.IsTuple (Shared.heap ⟨hp,g,d,tk,os⟩) tp items:=⟨_,hl,rfl,n,rfl⟩
  wp_walk using TN hl
  refine wpAny_stack_any λst=>OS ?_
  split
  ·rename_i k _ _ _ _ _
   cases (k == Qh "enumerate") <;> (wp_walk using TN hl,U6 hT; exact ⟨_,rfl,h⟩)
  ·wp_walk using TN hl,U6 hT; exact ⟨_,rfl,h⟩
theorem uI (hT:s.heap.IsTuple tp items)
 (h:∀ h',IsEnum h' (s.heap.objs.size+1) s.heap.objs.size 0 .none->h'.IsTupleIter s.heap.objs.size tp 0->(∀ b o,s.heap.get? b=some o->h'.get? b=some o)->Q (.ref (s.heap.objs.size+1)) { s with heap:=h' }) :
 wpAny (model prog w) A (call (.type "enumerate") [.ref tp]) Q E s:=by
 obtain ⟨⟨c,dc,dt,sl⟩,hl,hc,n,hd⟩:=hT
 obtain rfl:c=.type "tuple":=hc
 obtain rfl:dt=.seq items n:=hd
 refine callType_new F.called_enumerate (by decide) (F.typeCall_enumerate_1 _) (F.newCall_enumerate_1 _) (λob=>F.args_object_init_2 ob _) F.entry_enumerate_new (r8 tp items n dc sl) ⟨hl,?_⟩
 generalize e1:s.heap.push { cls:=.type "tuple_iterator",data:=.fields #[.ref tp,.int 0 0] }=g1
 have hz:g1.objs.size=s.heap.objs.size+1:=by rw [<- e1]; exact QZ ..
 have hi:g1.get? s.heap.objs.size=some { cls:=.type "tuple_iterator",data:=.fields #[.ref tp,.int 0 0] }:=by rw [<- e1]; exact O7 _ rfl
 have hb:∀ b o,s.heap.get? b=some o->g1.get? b=some o:=λb o q=>by rw [<- e1]; exact OX _ q
 have he:IsEnum (g1.push { cls:=.type "enumerate",data:=.fields #[.none,.bool false,.ref s.heap.objs.size,rawInt 0,.none,.none] }) g1.objs.size s.heap.objs.size 0 .none:=O7 _ rfl
 rw [hz] at he
 show _/\_
 rw [hz]
 exact ⟨⟨_,he,rfl⟩,h _ he ⟨_,OX _ hi,rfl,rfl⟩ λb o q=>OX _ (hb b o q)⟩
noncomputable def lO (ds:List D):List D:=ds.zipIdx.map λx=>D.tup [.int x.2,x.1]
noncomputable def NW (K:OR) (t:Addr):It :=
 ⟨λi H=>∃ xs x,cU K H t xs/\xs[i]?=some x,
  λi H v H'=>∃ p x,v=.ref p/\H p=none/\H'=upd H p (.tup [.int (i:Nat),x])/\∀ xs,cU K H t xs->xs[i]?=some x,
  λi H=>∃ xs,cU K H t xs/\xs.length<=i⟩
theorem EY (I:Inv X aa σ H s) (h1:cU X.K H a xs) (h2:cU X.K H a ys):xs=ys:=I.jg h1 h2
theorem BS {prog:Program} {w:World} {A:Around} (hh:A.handled=none) (j t:Addr) (items:Array Value) (i:Nat) (hx:items[i]?=none) :
 Draws prog w A j [j,t] i (λ_ _=>False) (λk h=>k=i/\h.IsTupleIter j t i/\h.IsTuple t items) where
 live:=λ_ _ ⟨_,⟨o,ho,_⟩,_⟩=>⟨o,ho⟩
 frame:=λ_ _ _ ⟨ek,⟨o,e,r⟩,⟨o',e',r'⟩⟩ hk=>⟨ek,⟨o,hk j (by simp) o e,r⟩,o',hk t (by simp) o' e',r'⟩
 item:=λk s Q E hi ⟨ek,_⟩ _=>absurd ek (Px hi)
 done:=λs Q E ⟨_,s1,s2⟩ q=>nextT hh s1 s2 (λv hv=>by rw [hx] at hv; cases hv) λ_=>q
theorem yK {P:Program} {w:World} {K:OR} {elts:List Expr} {k:Nat} {pos:Pos} {e j t:Addr} (hne:e≠j) :
 Turn P w K (.Tuple elts k pos) (NW K t) [e,j] e (λi h=>(∃ old,IsEnum h e j i old)/\h.IsTupleIter j t i) where
 mem:=by simp
 obj:=λi h ⟨⟨old,he⟩,⟨o1,e1,_,d1⟩⟩ b hb=>by
  simp only [O2,QA,or_false] at hb
  rcases hb with rfl | rfl
  ·exact ⟨_,he,λv q=>by have q':Tq _=RQ v:=q; cases q'⟩
  ·exact ⟨_,e1,λv q=>by rw [d1] at q; cases q⟩
 keep:=λi h h' ⟨⟨old,he⟩,⟨o1,e1,r1⟩⟩ hk=>⟨⟨old,hk e (by simp) _ he⟩,⟨o1,hk j (by simp) _ e1,r1⟩⟩
 item:=by
  intro X hP hw hK hc i aa s σ H E I hf st hg
  subst hP hw hK
  obtain ⟨⟨old,he⟩,hj⟩:=st
  obtain ⟨xs,x,q1,hx⟩:=hg
  obtain ⟨its,rv,p1,z1⟩:=I.tuple q1
  obtain ⟨u,hu,ru⟩:=rv.get hx
  have pT:s.heap.IsTuple t its.toArray:=by obtain ⟨o,ho,hc',n,hd⟩:=p1; exact ⟨o,ho,hc',n,hd⟩
  have hjt:t≠j:=by
   obtain ⟨o,ho,hc',n,hd⟩:=pT
   obtain ⟨o',ho',hc'',_⟩:=hj
   rintro rfl
   rw [ho] at ho'; cases ho'
   rw [hc'] at hc''; exact absurd hc'' (by simp)
  have het:e≠t:=by
   obtain ⟨o,ho,hc',n,hd⟩:=pT
   rintro rfl
   rw [he] at ho; cases ho
   exact absurd hc' (by simp)
  have hi:i<its.toArray.size:=by
   have:i<its.length:=(O6.mp hu).1
   simpa using this
  have hh:X.A.in1.handled=none:=I.ok.hd hc
  refine wpAny_pyNext_enum_itemD (Jf hh j t hjt its.toArray) he ⟨hj,pT⟩ hi hne (by simp; exact ⟨hne,het⟩) λx' h' tk hPx a1 a2 a3 a4 hk=>?_
  have ex:x'=u:=by
   have:its[i]?=some x':=by simpa using hPx
   rw [hu] at this; cases this; rfl
  subst ex
  have Hp:H s.heap.objs.size=none:=I.hok.fresh (OT _)
  have IA:Inv X aa σ (upd H s.heap.objs.size (.tup [.int (i:Nat),x])) { s with heap:=s.heap.push { cls:=.type "tuple",data:=.seq #[.int (i:Nat) tk,x'] },toks:=tk+1 } :=
   I.laid (a:=s.heap.objs.size) (o:=.tup [.int (i:Nat),x]) (λ_ _ q=>OX _ q) (OT _) ⟨by show 2<=sizeLine; decide,[.int (i:Nat) tk,x'],.cons ⟨tk,rfl⟩ (.cons ru .nil),_,O7 _ rfl,rfl,0,rfl⟩
  have lt:∀ b∈[e,j],b<s.heap.objs.size:=λb hb=>by
   obtain ⟨o1,e1,_⟩:=hj
   simp only [O2,QA,or_false] at hb
   rcases hb with rfl | rfl
   ·exact OZ he
   ·exact OZ e1
  have gf:∀ b∈[e,j],d8 X aa (upd H s.heap.objs.size (.tup [.int (i:Nat),x])) b:=λb hb=>⟨by rw [ai (Px (lt b hb))]; exact (hf b hb).1,(hf b hb).2⟩
  have I1:Inv X aa σ (upd H s.heap.objs.size (.tup [.int (i:Nat),x])) { s with heap:=h',toks:=tk+1 } :=
   gE (s:={ s with heap:=s.heap.push { cls:=.type "tuple",data:=.seq #[.int (i:Nat) tk,x'] },toks:=tk+1 }) (t':=tk+1) (h':=h') (L:=[e,j]) IA (λb o hb q=>by
    simp only [O2,QA,or_false,not_or] at hb
    by_cases z:b=s.heap.objs.size
    ·subst z
     rw [O7 _ rfl] at q; cases q; exact a3
    ·refine hk b o hb.1 hb.2 ?_
     rw [Vr _ _ _ z] at q; exact q) gf
  refine ⟨_,rfl,wpAny_letOwnedTupleGo_enum (s:={ s with heap:=h',toks:=tk+1 }) a1 λh2' hz' hs'=>?_⟩
  refine ⟨.ref s.heap.objs.size,_,gE (s:={ s with heap:=h',toks:=tk+1 }) (t':=tk+1) (h':=h2') (L:=[e,j]) I1 (λb o hb q=>hs'.extBut b o (λz=>hb (by simp [z])) q) gf,rfl,
   ⟨_,x,rfl,Hp,rfl,λxs' h=>by rw [EY I h q1]; exact hx⟩,⟨⟨x',?_⟩,a2.1.extBut hs'.extBut (Pe hne)⟩,λb hb=>(gf b hb).1⟩
  have hz2:=hz'
  rw [show ((i:Int)+1)=((i+1:Nat):Int) by lia] at hz2
  exact hz2
 done:=by
  intro X hP hw hK hc i aa s σ H E I hf st hg
  subst hP hw hK
  obtain ⟨⟨old,he⟩,hj⟩:=st
  obtain ⟨xs,q1,hend⟩:=hg
  obtain ⟨its,rv,p1,z1⟩:=I.tuple q1
  have pT:s.heap.IsTuple t its.toArray:=by obtain ⟨o,ho,hc',n,hd⟩:=p1; exact ⟨o,ho,hc',n,hd⟩
  have hl:=rv.length
  have hx:its.toArray[i]?=none:=by simp; lia
  have hh:X.A.in1.handled=none:=I.ok.hd hc
  exact wpAny_pyNext_enum_endD (BS hh j t its.toArray i hx) he ⟨rfl,hj,pT⟩ λh' hk=>⟨rfl,gE (t':=s.toks) (L:=[e,j]) I (λb o hb q=>hk b o (λz=>hb (by simp [z])) q) hf⟩
 self:=λA i s Q E ⟨⟨old,he⟩,_⟩ h=>wpAny_pyIter_enum he h
theorem yL {K:OR} {Hf:Hp} {ds:List D} {xs:List V} {t:Addr} (h1:cU K Hf t xs) (r1:aq K Hf ds xs):jj K (NW K t) (lO ds) Hf where
 go:=λi d H aV s1 s2 e=>by
  unfold lO at e
  rw [O8,Pf] at e
  obtain ⟨⟨x,m⟩,ex,rfl⟩:=e
  rw [List.getElem?_zipIdx,Pf] at ex
  obtain ⟨x',ex,ee⟩:=ex
  cases ee
  obtain ⟨v1,f1,g1⟩:=r1.get ex
  have q1:=az (s1.trans s2) h1
  refine ⟨⟨xs,v1,q1,f1⟩,λv H' ⟨p,y,e1,e2,e3,e4⟩=>?_⟩
  have z1:=e4 xs q1
  rw [f1] at z1; cases z1
  subst e1 e3
  have g:=bw.new s2 e2 (o:=.tup [.int (i:Nat),v1])
  rw [Rg]
  exact ⟨upd aV p (.tup [.int (i:Nat),v1]),g,aO.mpr ⟨p,_,rfl,.inl (.inl af),.cons (au.mpr rfl) (.cons (Rep.mono (s1.trans g.f) _ g1) (aF.mpr rfl))⟩⟩
 stop:=λi H aV s1 s2 e=>⟨xs,az (s1.trans s2) h1,by
  rw [<- r1.length]
  simpa [lO] using e⟩
theorem yM:bootBuiltins "enumerate"=some (.type "enumerate"):=by decide +kernel
noncomputable def LQ (K:OR) (ta:TA):TI:=λσ H R=>ta σ H λvs H1=>∃ t xs,vs=[.ref t]/\cU K H1 t xs/\R (NW K t) H1
theorem EZ (hg:Gl X "enumerate") (hm:X.mg "enumerate"=none) (ha:PA X [a] ta) (hs:starEach [a] X.env=[(false,eval a X.env)]) :
 PI X (.Tuple elts kt tpos) (.Call (.Name "enumerate" p) [a] [] pos) (LQ X.K ta):=by
 intro aa s σ H R I h
 refine Call_ (d7 I hg hm yM (Sy (bJ (ha pos aa s σ H _ I h) λus s1 ⟨vs,H1,I1,r1,q1⟩=>?_) hs (by rfl)))
 obtain ⟨t,xs,e,q1,q⟩:=q1
 subst e
 obtain ⟨u,rfl,rx⟩:=vals1 r1
 cases rx
 obtain ⟨its,rv,p1,z1⟩:=I1.tuple q1
 have pT:s1.heap.IsTuple t its.toArray:=by obtain ⟨o,ho,hc',n,hd⟩:=p1; exact ⟨o,ho,hc',n,hd⟩
 refine uI pT λh' a1 a2 hk=>wpAny_pyIter_enum a1 ?_
 refine ⟨s1.heap.objs.size+1,[s1.heap.objs.size+1,s1.heap.objs.size],_,_,H1,rfl,I1.kept (t':=s1.toks) hk,yK (RI (RB _)),⟨⟨.none,a1⟩,a2⟩,λb hb=>?_,q⟩
 have hb':s1.heap.objs.size<=b:=by
  simp only [O2,QA,or_false] at hb
  rcases hb with rfl | rfl
  ·exact Q9 _ _
  ·exact OT _
 exact I1.jh hb' (I1.hok.fresh hb')
section
variable {K:OR} {c:Ctx P w K mg base k N sc bk}
theorem Jg (hm:mg "enumerate"=none) (h:aJ c a ρ λx=>∃ ds,x=.tup ds/\R (lO ds)) (hg:sc.names.lookup (OP "enumerate")=some .globalImplicit:=by walk_at "u")
 (hs:∀ env,starEach [a] env=(false,eval a env)::starEach [] env:=by intro _; walk_at "u"):AM c (.Tuple elts kt tpos) (.Call (.Name "enumerate" p) [a] [] pos) ρ R:=λσ H Hf Q S q aa s I =>
 EZ (by unfold Gl P8; rw [c.esc]; exact hg) (by rw [c.emg]; exact hm) (bD cG dh (hs _)) (by rw [hs]; rfl) aa s σ H Q I
  (h σ H Hf _ S λx v1 H1 aV ⟨ds,e1,hR⟩ r1 g1=>by
    subst e1
    rw [aO] at r1
    obtain ⟨t,xs,rfl,s1,t1⟩:=r1
    exact ⟨t,xs,rfl,az g1.b s1,q _ _ H1 aV hR g1 (yL s1 t1)⟩)
end
noncomputable def Jh (lo:Int) (n:Nat):It:=⟨λi _=>i<n,λi H x H'=>H'=H/\x=.int (lo - i),λi _=>n<=i⟩
noncomputable def BU (lo:Int) (n:Nat):List D:=(Pc n).map λ(i:Nat)=>D.int (lo - (i:Int))
theorem yN {P:Program} {w:World} {K:OR} {tg:Expr} (j:Addr) (lo:Int) (n:Nat):Turn P w K tg (Jh lo n) [j] j (λi h=>IsRangeIter h j (lo+(i:Nat) * -1) ((n:Int) - (i:Nat)) (-1)) where
 mem:=Pa.mpr rfl
 obj:=λi h st b hb=>by
  obtain rfl:b=j:=Pa.mp hb
  exact ⟨_,st,λv z=>by have q:Tq _=RQ v:=z; cases q⟩
 keep:=λi h h' st k=>k j (Pa.mpr rfl) _ st
 item:=by
  intro X hP hw hK hc i aa s σ H E I hf st hg
  subst hP hw hK
  obtain ⟨f0,f1,f2,f3,f4,f5⟩:=hf j (Pa.mpr rfl)
  have W:=Walks.range (prog:=X.prog) (w:=X.w) (I.ok.hd hc) j lo (-1) n
  refine W.item i s _ _ hg st λv h' tk hv st' kk=>?_
  obtain ⟨t,rfl⟩:=hv
  have I1:Inv X aa σ H { s with heap:=h',toks:=tk }:=I.turned (λb o hb e=>kk b o (by simpa using hb) e) f0 f1 f3 f4 f5
  have e:lo+(i:Int) * -1=lo - i:=by lia
  exact ⟨_,rfl,qH (s:={ s with heap:=h',toks:=tk }) (n:="range_iterator") st' rfl rfl (by decide) ⟨.int (lo - i),H,I1,⟨t,by rw [e]⟩,⟨rfl,rfl⟩,st',λb hb=>(hf b hb).1⟩⟩
 done:=by
  intro X hP hw hK hc i aa s σ H E I hf st hg
  subst hP hw hK
  obtain ⟨f0,f1,f2,f3,f4,f5⟩:=hf j (Pa.mpr rfl)
  exact wpAny_pyNext_range_end (I.ok.hd hc) st (by have:n<=i:=hg; lia) λh' eb=>⟨rfl,I.turned (t':=s.toks) (λb o hb e=>eb b o hb e) f0 f1 f3 f4 f5⟩
 self:=λ_ _ _ _ _ st h=>wpAny_pyIter_rangeiter st h
theorem lP {lo hi:Int}:TR lo hi (-1)=((lo - hi).toNat:Int):=by
 unfold TR
 rw [if_neg (by decide)]
 split
 ·rw [show - (-1:Int)=1 by decide,Int.ediv_one]; lia
 ·lia
theorem small_down (ha: -(2 ^ 62)<=a) (ha':a<2 ^ 62) (hb: -(2 ^ 62)<=b) (hb':b<2 ^ 62):Builtin.Range.small a b (-1)=true:=by
 unfold Builtin.Range.small
 rw [lP]
 simp only [Builtin.Range.rangeFitsLong,Sg,Bool.or_eq_true,decide_eq_true_eq,beq_iff_eq,show ¬ (-1:Int)>0 by decide,if_false]
 lia
noncomputable def LR (ta:TA):TI:=λσ H R=>ta σ H λvs H1=>∃ i j:Int,vs=[.int i,.int j,.int (-1)]/\(-(2 ^ 62)<=i/\i<2 ^ 62/\ -(2 ^ 62)<=j/\j<2 ^ 62)/\R (Jh i (i - j).toNat) H1
theorem E0 (hg:Gl X "range") (hm:X.mg "range"=none) (ha:PA X [a,b,c] ta) (hs:starEach [a,b,c] X.env=[(false,eval a X.env),(false,eval b X.env),(false,eval c X.env)])
 (hs2:starEach [b,c] X.env=[(false,eval b X.env),(false,eval c X.env)]):PI X tg (.Call (.Name "range" p) [a,b,c] [] pos) (LR ta):=by
 intro aa s σ H R I h
 refine Call_ (d7 I hg hm boot_range (Sy (bJ (ha pos aa s σ H _ I h) λus s1 ⟨vs,H1,I1,r1,q1⟩=>?_) (by rw [hs,hs2]) (by rw [hs2]; rfl)))
 obtain ⟨i,j,e,⟨q1,q2,q3,q4⟩,q⟩:=q1
 subst e
 cases r1 with
 | cons r rr=>cases rr with
  | cons r' rr=>cases rr with
   | cons r'' rr =>
    cases rr
    obtain ⟨t,rfl⟩:=r
    obtain ⟨t',rfl⟩:=r'
    obtain ⟨t'',rfl⟩:=r''
    refine call_range_3 (by decide) ?_ (.inl (UK (by decide +kernel)))
    refine wpAny_pyIter_range (IsRange.new ..) (small_down q1 q2 q3 q4) ?_
    have I2:Inv X aa σ H1 { s1 with heap:=s1.heap.push { cls:=.type "range",data:=.fields #[.int i t,.int j t',.int (-1) t''] },toks:=s1.toks }:=I1.kept λb o e=>OX _ e
    generalize s1.heap.push { cls:=.type "range",data:=.fields #[.int i t,.int j t',.int (-1) t''] }=g at I2 |-
    refine ⟨g.objs.size,[g.objs.size],_,_,H1,rfl,I2.kept (t':=s1.toks) λb o e=>OX _ e,yN _ i (i - j).toNat,?_,λb hb=>?_,q⟩
    ·show IsRangeIter _ _ (i+((0:Nat):Int) * -1) ((((i - j).toNat:Nat):Int) - ((0:Nat):Int)) (-1)
     rw [show i+((0:Nat):Int) * -1=i by simp,show (((i - j).toNat:Nat):Int) - ((0:Nat):Int)=TR i j (-1) by rw [lP]; lia]
     exact O7 _ rfl
    ·obtain rfl:b=g.objs.size:=Pa.mp hb
     exact I2.jh (OT _) (I2.hok.fresh (OT _))
theorem BV {K:OR} {lo:Int} {n:Nat} {eT:Hp}:jj K (Jh lo n) (BU lo n) eT where
 go:=λi d H Hf s1 s2 e=>by
  unfold BU at e
  rw [O8] at e
  obtain ⟨j,e1,e2⟩:=Pf.mp e
  have hi:i<n:=by simpa using (O6.mp e1).1
  have:j=i:=by rw [SI hi] at e1; cases e1; rfl
  subst this
  refine ⟨hi,λx H' ⟨e3,e4⟩=>?_⟩
  subst e3 e4 e2
  exact ⟨Hf,.refl s2,au.mpr rfl⟩
 stop:=λi H Hf s1 s2 e=>show n<=i by simpa [BU] using e
section
variable {K:OR} {c:Ctx P w K mg base k N sc bk}
theorem Ji (hm:mg "range"=none) (h:aJ c a ρ λx=>aJ c b ρ λy=>aJ c e ρ λz=>∃ i j:Int,x=.int i/\y=.int j/\z=.int (-1)/\Sd (AQ i) (Sd (AQ j) (R (BU i (i - j).toNat))))
 (hg:sc.names.lookup (OP "range")=some .globalImplicit:=by walk_at "u")
 (hs:∀ env,starEach [a,b,e] env=(false,eval a env)::starEach [b,e] env:=by intro _; walk_at "u") (hs2:∀ env,starEach [b,e] env=(false,eval b env)::starEach [e] env:=by intro _; walk_at "u")
 (hs3:∀ env,starEach [e] env=(false,eval e env)::starEach [] env:=by intro _; walk_at "u"):AM c tg (.Call (.Name "range" p) [a,b,e] [] pos) ρ R:=λσ H Hf Q S q aa s I =>
 E0 (by unfold Gl P8; rw [c.esc]; exact hg) (by rw [c.emg]; exact hm) (bD cG (bD cG (bD cG dh (hs3 _)) (hs2 _)) (hs _)) (by rw [hs,hs2,hs3]; rfl) (by rw [hs2,hs3]; rfl) aa s σ H Q I
  (h σ H Hf _ S λx v1 H1 aV h1 r1 g1=>h1 σ H1 aV _ (S.cC g1) λy v2 H2 cN h2 r2 g2=>h2 σ H2 cN _ (S.cC (g1.trans g2)) λz v3 H3 Hf3 ⟨i,j,e1,e2,e3,⟨hi,⟨hj,hR⟩⟩⟩ r3 g3=>by
    subst e1 e2 e3; rw [au] at r1 r2 r3; subst r1 r2 r3
    exact ⟨i,j,rfl,⟨hi.1,hi.2,hj.1,hj.2⟩,q _ _ H3 Hf3 hR ((g1.trans g2).trans g3) BV⟩)
end
noncomputable abbrev ltI (x y:Int):Bool:=decide (x<y)
noncomputable def Oj (d:Addr) (o:Obj) (ys:List (Key×V)):It :=
 ⟨λi H=>H d=some (.frz o (.dK ys))/\i<ys.length,λi H x H'=>H'=H/\∃ y,ys[i]?=some y/\x=kV y.1,λi H=>H d=some (.frz o (.dK ys))/\ys.length<=i⟩
theorem j8 (I:Inv X aa σ H s) (hH:H d=some (.frz o (.dK ys))):∃ (vs:List (Key×Value)) (es:Array DictEntry) (ep:Nat),o.data=.dict es ep/\KV ys vs/\s.heap.DictAt (bK X.prog X.w) d vs ep/\(d == sysModules)=false/\ys.length<=sizeLine:=by
 obtain ⟨ho,ok⟩:=(show bx X.prog X.w H s.heap d (.frz o (.dK ys)) from I.hok d _ hH)
 obtain ⟨z,y,vs,kv,o',es,ep,h1,h2,h3,h4,h5,h6⟩:=ok
 rw [ho] at h1; cases h1
 exact ⟨vs,es,ep,h3,kv,⟨o,es,ho,h2,h3,h4,h5,h6⟩,y,z⟩
theorem om {P:Program} {w:World} {K:OR} {tg:Expr} {d j:Addr} {o:Obj} {ys:List (Key×V)} {es:Array DictEntry} {ep:Nat} (hod:o.data=.dict es ep):Turn P w K tg (Oj d o ys) [j] j (λi h=>h.IsKeyIter j d i ys.length ep) where
 mem:=Pa.mpr rfl
 obj:=λi h ⟨q,e,_,hd⟩ b hb=>by
  obtain rfl:b=j:=Pa.mp hb
  exact ⟨_,e,λv z=>by rw [hd] at z; cases z⟩
 keep:=λi h h' ⟨q,e,r⟩ k=>⟨q,k j (Pa.mpr rfl) _ e,r⟩
 item:=by
  intro X hP hw hK hc i aa s σ H E I hf st hg
  subst hP hw hK
  obtain ⟨f0,f1,f2,f3,f4,f5⟩:=hf j (Pa.mpr rfl)
  obtain ⟨hH,hi⟩:=hg
  obtain ⟨vs,es',ep',e1,kv,da,_⟩:=j8 I hH
  rw [hod] at e1; cases e1
  have hl:ys.length=vs.length:=Qf kv
  obtain ⟨⟨ky,v⟩,hv,r1,r2⟩:=dH kv (Pk hi)
  rw [hl] at st
  refine wpAny_pyNext_dict_item st da hv λkey h' hkey hit' hs'=>?_
  have I1:Inv X aa σ H { s with heap:=h',toks:=s.toks }:=I.turned (λb o hb e=>hs'.extBut b o hb e) f0 f1 f3 f4 f5
  obtain ⟨q,e,qc,qd⟩:=id hit'
  rw [<- hl] at hit'
  exact ⟨_,rfl,qH (s:={ s with heap:=h',toks:=s.toks }) (n:="dict_keyiterator") e qc qd (by decide) ⟨kV ky,H,I1,wB hkey,⟨rfl,_,Pk hi,by rw [r1]⟩,hit',λb hb=>(hf b hb).1⟩⟩
 done:=by
  intro X hP hw hK hc i aa s σ H E I hf st hg
  subst hP hw hK
  obtain ⟨f0,f1,f2,f3,f4,f5⟩:=hf j (Pa.mpr rfl)
  obtain ⟨hH,hi⟩:=hg
  obtain ⟨vs,es',ep',e1,kv,da,_⟩:=j8 I hH
  rw [hod] at e1; cases e1
  have hl:ys.length=vs.length:=Qf kv
  rw [hl] at st
  exact wpAny_pyNext_dict_end (I.ok.hd hc) st da (RA (by lia)) λh' eb=>⟨rfl,I.turned (t':=s.toks) (λb o hb e=>eb b o hb e) f0 f1 f3 f4 f5⟩
 self:=λ_ _ _ _ _ st h=>wpAny_pyIter_keyiter st h
theorem oq {K:OR} {Hf:Hp} {d:Addr} {o:Obj} {ys:List (Key×V)} {ns:List Int} (hH:Hf d=some (.frz o (.dK ys))) (hk:ys.map (·.1)=ns.map Pd):jj K (Oj d o ys) (ns.map D.int) Hf where
 go:=λi x H aV s1 s2 e=>by
  rw [O8,Pf] at e
  obtain ⟨n,hn,rfl⟩:=e
  have hq:=congrArg (λl=>l[i]?) hk
  simp only [O8,hn,Option.map_some] at hq
  obtain ⟨y,hy,ey⟩:=Pf.mp hq
  refine ⟨⟨s2 _ _ (s1 _ _ hH),(O6.mp hy).1⟩,λv H' ⟨e1,y',e2,e3⟩=>?_⟩
  rw [hy] at e2; cases e2
  subst e1 e3
  exact ⟨aV,.refl s2,by rw [ey]; exact au.mpr rfl⟩
 stop:=λi H aV s1 s2 e=>⟨s2 _ _ (s1 _ _ hH),by
  have:=congrArg So hk
  simp only [OW] at this e
  lia⟩
theorem ou (hT:s.TypeIs (.ref v) "dict") (hQ:Q false s):wpAny (model prog w) A (RV (.ref v)) Q E s:=by
 unfold RV
 refine OQ (wpAny_specialOf hT PySem.F.slot_dict_len.lookup ?_)
 have e:splitId "dict.__len__"=some ("dict","__len__"):=by decide +kernel
 dsimp only
 rw [e]
 dsimp only
 refine OQ (Ua (b:=true) hT (by rw [isSubtype_type]; kernel_rfl) ?_)
 rw [if_neg (by decide)]
 exact OQ (Rq hT (OS hQ))
section
variable {X:Cx} {aa:List (Addr×Obj)} {σ:L2.St} {H Hf:Hp} {s:Shared} {E:Value->Shared->Prop}
theorem r9 {K:OR}:∀ {L:List Int} {us:List Value},Paired (λx u=>j7 K Hf (D.int x) u) L us->IntsAre us L
 | _,_,.nil=>.nil
 | _,_,.cons ⟨x,r1,h1⟩ t=>by
  rw [au] at h1; subst h1
  obtain ⟨tk,rfl⟩:=r1
  exact .cons _ _ (r9 t)
theorem iV:I0 X D.int ltI oneType' where
 lin:=λL=>⟨λx _=>by simp,λx _ y _ z _ h g=>by simp only [decide_eq_true_eq] at *; lia,λx _ y _ h=>by simp only [decide_eq_true_eq]; lia⟩
 inj:=λ_ _ _ _ _ _ _ x y u ⟨v,r1,h1⟩ ⟨v',r2,h2⟩=>by
  rw [au] at h1 h2; subst h1 h2
  obtain ⟨t,rfl⟩:=r1
  obtain ⟨t',e⟩:=r2
  cases e; rfl
 kind:=λ_ _ _ _ _ _ _ _ _ L us p h2 Q hQ=>by
  rw [ksk_kind (kz:=L) (r9 p) (by simpa using h2)]
  exact OS hQ
 cmp:=λ_ _ _ _ _ _ _ _ _ _ x y u v ⟨a,r1,h1⟩ ⟨b,r2,h2⟩ Q hQ=>by
  rw [au] at h1 h2; subst h1 h2
  obtain ⟨t,rfl⟩:=r1
  obtain ⟨t',rfl⟩:=r2
  rw [keyLt'_oneType]
  exact oneLt_int hQ
theorem se (hc:X.calm=true) (I:Inv X aa σ H s) (sb:aN Hf H) (hA:X.A.units+60<cLine) (hH:Hf d=some (.frz o (.dK ys))) (hk:ys.map (·.1)=ns.map Pd) (nd:ns.Nodup)
 (hQ:∀ (L':List Int) (xs':List V) (s':Shared) (H' aj:Hp) (a:Addr),L'.Perm ns->gn ltI b L'->aq X.K aj (L'.map D.int) xs'->bw H Hf H' aj->H' a=none->Inv X aa σ (upd H' a (.lst xs')) s'->Q (.ref a) s') :
 wpAny (model X.prog X.w) X.A (call (.builtin "sorted") [.ref d] [(OP "reverse",.bool b)]) Q E s:=by
 refine UQ Uy Uq Us (args_sorted_rev _ _) ?_
 unfold Builtin.«sorted»
 refine OQ (m:=checkCount "sorted" 1 1 _) (OS ?_)
 have h1:X.A.in1.handled=none:=I.ok.hd hc
 have h2:X.A.in1.frames=some X.stack:=I.ok.frames
 obtain ⟨vs,es,ep,e1,kv,da,hs,hz⟩:=j8 I (sb _ _ hH)
 have hl:ys.length=vs.length:=Qf kv
 have hn:(ns.map D.int).length=ys.length:=by have:=congrArg So hk; simp only [OW] at this |-; lia
 refine OQ (ig (X:=EK X X.A.in1) (H:=H) (Hf:=Hf) (ds:=ns.map D.int) (T:="dict") hc h1 h2 (ju I (λ_=>h1) h2) sb da.lt_size (by lia) (by decide) (λs' k=>(da.keep k).dictOf.typeIs) (λA s' Q E q h=>ou q h) (λA s1 H1 E I1 sb1 k1=>?_) λus s' H' aj xs I' rv rr g hz'=>?_)
 ·refine wpAny_pyIter_dict hs (da.keep k1) ?_
  refine ⟨_,_,_,rfl,OT _,I1.kept (t':=s1.toks) λb o e=>OX _ e,om e1,⟨_,O7 _ rfl,rfl,?_⟩,λb hb=>?_,λb o e=>OX _ e,oq hH hk⟩
  ·rw [hl]; rfl
  ·obtain rfl:b=s1.heap.objs.size:=Pa.mp hb
   exact I1.jh (OT _) (I1.hok.fresh (OT _))
 ·have I2:=fh I.ok I'
  have el:=rr.length
  have el2:=rv.length
  refine lJ (b:=b) iV I2 g.b ?_ rr rv (by lia) nd λL' xs' s2 p1 p2 p3 p4 I3=>hQ L' xs' s2 H' aj _ p1 p2 p3 g (I2.hok.fresh (OT _)) I3
  show X.A.units+1+20<cLine
  lia
end
section
variable {K:OR} {c:Ctx P w K mg base k N sc bk}
theorem uJ (hm:mg "sorted"=none) (h:aJ c e ρ λd=>∃ (ns:List Int) (ds:List D),d=.fdK (ns.map Pd) ds/\Sd ns.Nodup (∀ L':List Int,L'.Perm ns->gn ltI true L'->R (.ow (L'.map D.int))))
 (hg:sc.names.lookup (OP "sorted")=some .globalImplicit:=by walk_at "u")
 (he:∀ env,starEach [e] env=(false,eval e env)::starEach [] env:=by intro _; walk_at "u")
 (hpl:∀ env,(backTo pos (starEach [e] env)).any (·.1)=false:=by intro _; walk_at "u") :
 dP c (.Call (.Name "sorted" np) [e] [⟨some "reverse",.Constant (.bool true) j kp1,kp⟩] pos) ρ R:=λσ H Hf Q S q aa s I=>by
 have hgl:Gl c.X "sorted":=by unfold Gl P8; rw [c.esc]; exact hg
 refine Q8 (d7 I hgl (by rw [c.emg]; exact hm) (show bootBuiltins "sorted"=some (.builtin "sorted") by decide +kernel) ?_ (by decide) (by decide))
 refine callWith_kw ?_ (by rw [he]; rfl) (hpl _)
 have hpa:=bD (X:=c.X) (e:=e) (es:=[]) cG dh (he _)
 refine bJ (hpa pos aa s σ H (λvs H1=>∃ x,vs=[x]/\∃ (ns:List Int) (ds:List D) (aV:Hp),Rep c.X.K aV (.fdK (ns.map Pd) ds) x/\ns.Nodup/\bw H Hf H1 aV/\∀ L':List Int,L'.Perm ns->gn ltI true L'->R (.ow (L'.map D.int))) I ?_) λus s1 hh=>z2 hh λvs H1 hh=>w3 hh λI1 r1 hh=>hh.elim λx hh=>w2 hh λex hh=>z3 hh λns ds aV hh=>w4 hh λe1 e7 e8 e9=>?_
 ·exact h σ H Hf _ S λd v H1 aV ⟨ns,ds,hp,⟨hn,hR⟩⟩ rv g=>⟨_,rfl,ns,ds,aV,by rw [<- hp]; exact rv,hn,g,hR⟩
 ·subst ex
  obtain ⟨a0,ys,o,rfl,hs,hk,hr⟩:=fC.mp e1
  have eu:us=[.ref a0]:=by
   cases r1 with
   | cons q1 q2=>cases q2; cases q1; rfl
  subst eu
  refine kws_cons (bJ (zH (X:=c.X) (b:=true) (j:=j) (pos:=kp1) aa s1 σ _ (λx H2=>x=.bl true/\H2=H1) I1 ⟨rfl,rfl⟩) λkv s2 ⟨x,H2,I2,rx,e10,e11⟩=>kws_nil ?_)
  subst e10 e11
  have ek:kv=.bool true:=rx
  subst ek
  refine se (b:=true) c.calm I2 e8.b ?_ hs hk e7 λL' xs' s' H' aj a p1 p2 p3 g na I3=>?_
  ·have:=c.room.un
   lia
  ·have gg:=e8.trans g
   exact ⟨.ref a,_,I3,rfl,q (.ow (L'.map D.int)) _ _ aj (e9 L' p1 p2) ⟨a,xs',rfl,gg.s.free na,af,g.b.free na,p3⟩ (gg.trans (bw.fU g.b na))⟩
end
section
variable {K:OR}
end
section
variable {K:OR}
end
end EV
namespace EV
open PySem PySem.Spec PyProof.Rows L2
noncomputable def dig (b:Int):Nat->(Nat->Int)->Int
 | 0,_=>0
 | m+1,f=>f 0 * b ^ m+dig b m (λi=>f (i+1))
noncomputable abbrev aQ (p:List Int) (i:Nat):Int:=p.getD i 0
noncomputable def pk (b:Int) (p:List Int):Int:=dig b 6 (aQ p)
theorem j9:∀ {m:Nat} {f g:Nat->Int},(∀ i,i<m->f i=g i)->dig b m f=dig b m g
 | 0,_,_,_=>rfl
 | m+1,f,g,h=>by
  unfold dig
  rw [h 0 (by lia),j9 (m:=m) λi hi=>h (i+1) (by lia)]
theorem wZ:∀ (m:Nat) (f g:Nat->Int),dig b m (λi=>f i+g i)=dig b m f+dig b m g
 | 0,_,_=>rfl
 | m+1,f,g=>by
  unfold dig
  rw [wZ m (λi=>f (i+1)) (λi=>g (i+1)),QM]
  lia
theorem lQ:∀ (m:Nat),dig b m (λ_=>0)=0
 | 0=>rfl
 | m+1=>by unfold dig; rw [lQ m,Rr]; rfl
theorem gp (hb:0<b):∀ (m:Nat) (f:Nat->Int),(∀ i,i<m->0<=f i/\f i<b)->0<=dig b m f/\dig b m f<b ^ m
 | 0,_,_=>⟨PV _,by show (0:Int)<b ^ 0; rw [Int.pow_zero]; decide⟩
 | m+1,f,h=>by
  have h0:=h 0 (by lia)
  have ih:=gp hb m (λi=>f (i+1)) λi hi=>h (i+1) (by lia)
  have hp:0<b ^ m:=QL hb
  unfold dig
  rw [Uw]
  have a1:0<=f 0 * b ^ m:=SY h0.1 (by lia)
  have a2:(f 0+1) * b ^ m<=b * b ^ m:=Sx (by lia) (by lia)
  rw [QM,RL] at a2
  rw [Q3 (b ^ m) b]
  lia
theorem w9 (hb:0<b):∀ (m:Nat) (f:Nat->Int),(∀ i,i<m->0<=f i/\f i<b)->∀ i,i<m->dig b m f / b ^ (m - 1 - i) % b=f i
 | 0,_,_,_,hi=>absurd hi (Nat.not_lt_zero _)
 | m+1,f,h,i,hi=>by
  have ih:=w9 hb m (λi=>f (i+1)) λi hi=>h (i+1) (by lia)
  have bd:=gp hb m (λi=>f (i+1)) λi hi=>h (i+1) (by lia)
  have hp:0<b ^ m:=QL hb
  unfold dig
  cases i with
  | zero =>
   rw [show m+1 - 1 - 0=m by lia,Th,Int.add_mul_ediv_right _ _ (by lia),Int.ediv_eq_zero_of_lt bd.1 bd.2,Tf]
   exact Int.emod_eq_of_lt (h 0 (by lia)).1 (h 0 (by lia)).2
  | succ i =>
   have e:b ^ m=b ^ (i+1) * b ^ (m - 1 - i):=by rw [<- UB]; congr 1; lia
   have hq:0<b ^ (m - 1 - i):=QL hb
   rw [show m+1 - 1 - (i+1)=m - 1 - i by lia,e,<- Sm,Th,Int.add_mul_ediv_right _ _ (by lia),Uw,<- Sm,Int.add_mul_emod_self_right]
   exact ih i (by lia)
theorem jx (h:trim (x::p)=x::p):trim p=p:=by
 rcases List.eq_nil_or_concat p with rfl | ⟨r,z,rfl⟩
 ·rfl
 ·rw [List.concat_eq_append] at h |-
  by_cases e:z=0
  ·subst e
   rw [<- RC,gC] at h
   have:=congrArg So h
   have l:=c6 (x::r)
   simp only [Pu,Pr,QK] at this l
   lia
  ·exact n8 r e
theorem sj:∀ {p:List Int},trim p=p->p≠[]->(∀ x∈p,0<=x)->∃ i,i<p.length/\0<aQ p i
 | [],_,h,_=>absurd rfl h
 | [x],h,_,h0=>by
  refine ⟨0,by simp,?_⟩
  have:x≠0:=by rintro rfl; simp [trim] at h
  have:=h0 x (by simp)
  show 0<x
  lia
 | x::y::p,h,_,h0=>by
  obtain ⟨i,hi,hq⟩:=sj (jx h) (by simp) λz hz=>h0 z (O1 _ hz)
  exact ⟨i+1,by simp only [Pu] at *; lia,by simpa [aQ] using hq⟩
theorem xg (hb:0<b):∀ (m:Nat) (f:Nat->Int),(∀ i,i<m->0<=f i/\f i<b)->(∃ i,i<m/\0<f i)->0<dig b m f
 | 0,_,_,h=>by obtain ⟨i,hi,_⟩:=h; lia
 | m+1,f,h,⟨i,hi,hq⟩=>by
  have bd:=gp hb m (λi=>f (i+1)) λi hi=>h (i+1) (by lia)
  have hp:0<b ^ m:=QL hb
  unfold dig
  cases i with
  | zero =>
   have:=Int.mul_pos hq hp
   lia
  | succ i =>
   have:=xg hb m (λi=>f (i+1)) (λi hi=>h (i+1) (by lia)) ⟨i,by lia,hq⟩
   have:=SY (h 0 (by lia)).1 (show 0<=b ^ m by lia)
   lia
theorem BW (hb:0<b):∀ (m:Nat) (p q:List Int),trim p=p->trim q=q->p.length<=m->q.length<=m->(∀ x∈p,0<=x/\x<b)->(∀ x∈q,0<=x/\x<b)->HT.lexLt p q=true->dig b m (aQ p)<dig b m (aQ q)
 | m,[],[],_,_,_,_,_,_,h=>by cases h
 | m,[],y::q,_,tq,_,lq,_,hq,_=>by
  have e:dig b m (aQ [])=0:=by
   rw [show aQ ([]:List Int)=λ_=>0 from funext λi=>by simp [aQ]]; exact lQ m
  rw [e]
  obtain ⟨i,hi,h0⟩:=sj tq (by simp) λx hx=>(hq x hx).1
  refine xg hb m _ (λj hj=>?_) ⟨i,by lia,h0⟩
  by_cases z:j<(y::q).length
  ·have:aQ (y::q) j=(y::q)[j]:=by unfold aQ; rw [PX,Pk z]; rfl
   rw [this]; exact hq _ (Pw _)
  ·have:aQ (y::q) j=0:=by simp only [aQ,PX,RA (by lia:(y::q).length<=j)]; rfl
   rw [this]; lia
 | m,x::p,[],_,_,_,_,_,_,h=>by cases h
 | 0,x::p,y::q,_,_,lp,_,_,_,_=>by simp at lp
 | m+1,x::p,y::q,tp,tq,lp,lq,hp,hq,h=>by
  simp only [Pu] at lp lq
  rw [HT.cP] at h
  have rd:∀ (r:List Int),(∀ z∈r,0<=z/\z<b)->∀ j,0<=aQ r j/\aQ r j<b:=λr hr j=>by
   by_cases z:j<r.length
   ·have:aQ r j=r[j]:=by unfold aQ; rw [PX,Pk z]; rfl
    rw [this]; exact hr _ (Pw _)
   ·have:aQ r j=0:=by simp only [aQ,PX,RA (by lia:r.length<=j)]; rfl
    rw [this]; lia
  have hp':∀ z∈p,0<=z/\z<b:=λz hz=>hp z (O1 _ hz)
  have hq':∀ z∈q,0<=z/\z<b:=λz hz=>hq z (O1 _ hz)
  unfold dig
  show x * b ^ m+dig b m (aQ p)<y * b ^ m+dig b m (aQ q)
  by_cases e:x=y
  ·rw [if_pos e] at h
   subst e
   have:=BW hb m p q (jx tp) (jx tq) (by lia) (by lia) hp' hq' h
   lia
  ·rw [if_neg e] at h
   have hxy:x<y:=of_decide_eq_true h
   have b1:=gp hb m (aQ p) λi _=>rd p hp' i
   have b2:=gp hb m (aQ q) λi _=>rd q hq' i
   have a2:(x+1) * b ^ m<=y * b ^ m:=Sx (by lia) (by have hh:0<b ^ m:=QL hb; lia)
   rw [QM,RL] at a2
   lia
def Bd (b:Int) (p:List Int):Prop:=p.length<=6/\∀ x∈p,0<=x/\x<b
theorem bV (z:j<p.length):aQ p j=p[j]:=by unfold aQ; rw [PX,Pk z]; rfl
theorem bX (z:p.length<=j):aQ p j=0:=by unfold aQ; rw [PX,RA z]; rfl
theorem oz (hb:0<b) (h:Bd b p) (i):0<=aQ p i/\aQ p i<b:=by
 by_cases z:i<p.length
 ·rw [bV z]; exact h.2 _ (Pw _)
 ·rw [bX (by lia)]; lia
theorem su (p):∃ m,p=trim p++Pq m 0:=by
 suffices H:∀ r:List Int,∃ m,r=Pq m 0++r.dropWhile λx=>x == 0 by
  obtain ⟨m,h⟩:=H p.reverse
  refine ⟨m,?_⟩
  have:=congrArg List.reverse h
  rw [SE,U4,List.reverse_replicate] at this
  exact this
 intro r
 induction r with
 | nil=>exact ⟨0,rfl⟩
 | cons x r ih =>
  by_cases e:x=0
  ·subst e
   obtain ⟨m,h⟩:=ih
   refine ⟨m+1,?_⟩
   rw [Rl,List.dropWhile_cons_of_pos (by simp),RC,<- h]
  ·exact ⟨0,by rw [List.dropWhile_cons_of_neg (by simpa using e)]; rfl⟩
theorem b9 (p) (i):aQ (trim p) i=aQ p i:=by
 obtain ⟨m,h⟩:=su p
 by_cases z:i<(trim p).length
 ·have e:aQ p i=aQ (trim p++Pq m 0) i:=by rw [<- h]
  rw [e]
  unfold aQ
  simp only [PX]
  rw [Q4 z]
 ·rw [bX (by lia)]
  have e:aQ p i=aQ (trim p++Pq m 0) i:=by rw [<- h]
  rw [e]
  unfold aQ
  simp only [PX]
  rw [Rx (by lia),List.getElem?_replicate]
  split <;> rfl
theorem iW (b) (p):pk b (trim p)=pk b p:=j9 λi _=>b9 p i
theorem sA (h:x∈trim p):x∈p:=by
 obtain ⟨m,e⟩:=su p
 rw [e]; exact Qk _ h
theorem pY (h:Bd b p):Bd b (trim p):=⟨O3 (c6 p) h.1,λx hx=>h.2 x (sA hx)⟩
theorem xh (hb:0<b) (hp:Bd b p) (hq:Bd b q) (tp:trim p=p) (tq:trim q=q) (h:HT.lexLt p q=true):pk b p<pk b q:=BW hb 6 p q tp tq hp.1 hq.1 hp.2 hq.2 h
theorem uK (hb:0<b) (hp:Bd b p) (hq:Bd b q) (tp:trim p=p) (tq:trim q=q) (h:pk b p=pk b q):p=q:=by
 by_cases e:p=q
 ·exact e
 ·exfalso
  rcases pN e with z | z
  ·have:=xh hb hp hq tp tq z; lia
  ·have:=xh hb hq hp tq tp z; lia
noncomputable def uL (b:Int) (key:Int):List Int:=trim ((Pc 6).map λ(i:Nat)=>key / b ^ (5 - i) % b)
theorem uM (hb:0<b) (h:Bd b p):uL b (pk b p)=trim p:=by
 have e:((Pc 6).map λ(i:Nat)=>pk b p / b ^ (5 - i) % b)=p++Pq (6 - p.length) 0:=by
  refine Vy (by simp; have:=h.1; lia) λi h1 h2=>?_
  have hi:i<6:=by simpa using h1
  rw [Vw,Va]
  have:=w9 hb 6 (aQ p) (λj _=>oz hb h j) i hi
  rw [show 6 - 1 - i=5 - i by lia] at this
  rw [show pk b p=dig b 6 (aQ p) from rfl,this]
  by_cases z:i<p.length
  ·rw [bV z,List.getElem_append_left z]
  ·rw [bX (by lia),List.getElem_append_right (by lia),List.getElem_replicate]
 unfold uL
 rw [e]
 generalize 6 - p.length=m
 induction m with
 | zero=>simp
 | succ m ih=>rw [List.replicate_succ',<- Pp,gC]; exact ih
noncomputable def aZ (B:List (Int×Int)):List (Key×D):=B.map λx=>(.inl x.1,.int x.2)
theorem cL (B) (k):ay (aZ B) (.inl k)=(ay B k).map D.int:=by
 induction B with
 | nil=>rfl
 | cons t B ih =>
  by_cases e:t.1=k
  ·rw [aL e]
   show ay ((Pd t.1,D.int t.2)::aZ B) _=_
   rw [aL (by rw [e])]; rfl
  ·rw [aB e,<- ih]
   show ay ((Pd t.1,D.int t.2)::aZ B) _=_
   rw [aB λz=>e (Pd.inj z)]
theorem fj (B) (k n):putD (aZ B) (.inl k) (.int n)=aZ (putD B k n):=by
 unfold putD
 rw [cL]
 by_cases h:(ay B k).isSome=true
 ·rw [if_pos h,if_pos (by rw [Rm]; exact h)]
  unfold aZ
  rw [Py,Py]
  refine Q7 λt _=>?_
  simp only [Um]
  by_cases e:t.1=k
  ·rw [if_pos e,if_pos (by rw [e])]
  ·rw [if_neg e,if_neg λz=>e (Pd.inj z)]
 ·rw [if_neg h,if_neg (by rw [Rm]; exact h)]
  unfold aZ
  simp
noncomputable def fu (b:Int) (t:aI):Int×Int:=(pk b t.1,t.2)
def Gd (b:Int) (A:List aI):Prop:=∀ t∈A,Bd b t.1/\trim t.1=t.1
theorem pZ (hb:0<b) (h:Gd b A) (hp:Bd b p) (tp:trim p=p):ay (A.map (fu b)) (pk b p)=ay A p:=by
 induction A with
 | nil=>rfl
 | cons t A ih =>
  have ih:=ih λx hx=>h x (O1 _ hx)
  have ht:=h t OY
  by_cases e:t.1=p
  ·rw [aL e,O4,aL (show (fu b t).1=pk b p by unfold fu; rw [e])]; rfl
  ·rw [aB e,O4,aB λz=>e (uK hb ht.1 hp ht.2 tp z),ih]
theorem Jj (hb:0<b) (h:Gd b A) (hp:Bd b p) (tp:trim p=p):putD (A.map (fu b)) (pk b p) n=(putD A p n).map (fu b):=by
 unfold putD
 rw [pZ hb h hp tp]
 split
 ·rw [Py,Py]
  refine Q7 λt ht=>?_
  simp only [Um]
  by_cases e:t.1=p
  ·rw [if_pos e,if_pos (show (fu b t).1=pk b p by unfold fu; rw [e])]; rfl
  ·rw [if_neg e,if_neg (show ¬ (fu b t).1=pk b p from λz=>e (uK hb (h t ht).1 hp (h t ht).2 tp z))]
 ·simp [fu]
theorem Jk (h:Gd b A) (hp:Bd b p) (tp:trim p=p):Gd b (putD A p n):=λt ht=>by
 rcases pV ht with e | e
 ·rw [e]; exact ⟨hp,tp⟩
 ·exact h t e
theorem lR (h:∀ t∈ts,Bd b t.1):Gd b (aU ts):=by
 unfold aU
 suffices H:∀ A,Gd b A->Gd b (ts.foldl fK A) from H [] (λ_ h=>by cases h)
 induction ts with
 | nil=>exact λA h=>h
 | cons u ts ih=>exact λA hA=>ih (λt ht=>h t (O1 _ ht)) _ (Jk hA (pY (h u OY)) (cj _))
theorem Jl (hb:0<b) (h:∀ t∈ts,Bd b t.1) (ht:Bd b t.1) :
 putD ((aU ts).map (fu b)) (pk b t.1) ((ay ((aU ts).map (fu b)) (pk b t.1)).getD 0+t.2)=(aU (ts++[t])).map (fu b):=by
 rw [lK]
 unfold fK
 rw [<- iW b t.1,pZ hb (lR h) (pY ht) (cj _),Jj hb (lR h) (pY ht) (cj _)]
theorem sC:∀ {L M:List Int},L.Perm M->L.Pairwise (λx y=>y<x)->M.Pairwise (λx y=>y<x)->L=M
 | [],M,h,_,_=>by rw [List.nil_perm] at h; exact h.symm
 | x::L,[],h,_,_=>by simp at h
 | x::L,y::M,h,h1,h2=>by
  rw [QU] at h1 h2
  by_cases e:x=y
  ·subst e
   rw [sC ((List.perm_cons _).mp h) h1.2 h2.2]
  ·exfalso
   have hx:x∈M:=(O2.mp (h.subset OY)).resolve_left e
   have hy:y∈L:=(O2.mp (h.symm.subset OY)).resolve_left (Pe e)
   have a:=h1.1 y hy
   have b:=h2.1 x hx
   lia
theorem p5 {A:List aI} (hk:(A.map (·.1)).Nodup) {t:aI} (h:t∈A):ay A t.1=some t.2:=by
 induction A with
 | nil=>cases h
 | cons u A ih =>
  rw [O4,QJ] at hk
  rcases O2.mp h with rfl | h
  ·exact aL rfl
  ·rw [aB λe=>hk.1 (by rw [e]; exact List.mem_map_of_mem h)]
   exact ih hk.2 h
theorem BX (hb:0<b) (h:∀ t∈ts,Bd b t.1) (hp:L'.Perm (((aU ts).map (fu b)).map (·.1))) (hs:L'.Pairwise λx y=>y<x):L'=(gP (aU ts)).map λt=>pk b t.1:=by
 have hg:=lR h
 have hk:=c7 ts
 generalize aU ts=A at *
 refine sC (hp.trans ?_) hs ?_
 ·rw [Py]
  exact ((bM A).map _).symm
 ·rw [Sa]
  have hs2:=gD (keys_nodup hk)
  have hm:∀ t∈gP A,t∈A:=λt ht=>(bM A).subset ht
  have hk2:(gP A).Pairwise λx y=>x.1≠y.1:=by
   have:=((bM A).map (·.1)).nodup_iff.mpr hk
   unfold Su at this
   rwa [Sa] at this
  unfold fV gn at hs2
  refine UL (R:=λx y=>(if true then cA y x=true else cA x y=true)/\x.1≠y.1) (λ{x y} hx hy q=>?_) (hs2.and hk2)
  obtain ⟨q1,q2⟩:=q
  rw [if_pos rfl] at q1
  unfold cA at q1
  rw [if_neg (Pe q2)] at q1
  exact xh hb (hg _ (hm _ hy)).1 (hg _ (hm _ hx)).1 (hg _ (hm _ hy)).2 (hg _ (hm _ hx)).2 q1
noncomputable def E1 (b:Int) (p:List Int):Int:=p.foldl (λa x=>a * b+x) 0
theorem BY (b) (p) (x):E1 b (p++[x])=E1 b p * b+x:=by unfold E1; rw [Sb]; rfl
theorem sD (b):∀ (p:List Int) (a:Int),p.foldl (λa x=>a * b+x) a=a * b ^ p.length+dig b p.length (aQ p)
 | [],a=>by simp [dig]
 | x::p,a=>by
  rw [Ra,sD b p]
  show (a * b+x) * b ^ p.length+_=a * b ^ (p.length+1)+(x * b ^ p.length+dig b p.length (aQ p))
  rw [QM,Uw,Sm,Q3 b (b ^ p.length)]
  lia
theorem xj (b) (p):E1 b p=dig b p.length (aQ p):=by unfold E1; rw [sD]; lia
theorem sE (k):∀ (m:Nat) (f:Nat->Int),(∀ i,m<=i->f i=0)->dig b (m+k) f=dig b m f * b ^ k
 | 0,f,h=>by
  rw [Rg,j9 (g:=λ_=>0) λi _=>h i (PK _),lQ]
  show 0=0 * b ^ k
  rw [Rr]
 | m+1,f,h=>by
  rw [show m+1+k=(m+k)+1 by lia]
  unfold dig
  rw [sE k m (λi=>f (i+1)) λi hi=>h (i+1) (by lia),QM,UB,Sm]
theorem Jm (h:p.length<=6):E1 b p * b ^ (6 - p.length)=pk b p:=by
 rw [xj,<- sE (6 - p.length) p.length (aQ p) λi hi=>bX hi]
 rw [show p.length+(6 - p.length)=6 by lia]
 rfl
theorem BZ (hb:0<b) (h:∀ x∈p,0<=x/\x<b):0<=E1 b p/\E1 b p<b ^ p.length:=by
 rw [xj]
 exact gp hb _ _ λi hi=>by rw [bV hi]; exact h _ (Pw _)
theorem xm (hb:0<b) (h:Bd b p):0<=pk b p/\pk b p<b ^ 6:=gp hb _ _ λi _=>oz hb h i
theorem two_pos (W):(0:Int)<2 ^ W:=QL (by decide)
theorem gF (W):((2:Int) ^ W)=((2 ^ W:Nat):Int):=by rw [Int.natCast_pow]; rfl
theorem B0 (hW:W<=10) (hn:n<=6):((2:Int) ^ W) ^ n<=2 ^ 60:=by
 rw [<- Int.pow_mul,gF,gF]
 exact Int.ofNat_le.mpr (QF (by decide) (O3 (Sj hW hn) (by decide)))
theorem xo (hW:W<=10) (hn:n<=6) (h0:0<=x) (h:x<((2:Int) ^ W) ^ n):x.natAbs<2 ^ 64:=by
 have:=B0 hW hn
 have h60:(2:Int) ^ 60<2 ^ 64:=by decide
 have:x<((2 ^ 64:Nat):Int):=by rw [<- gF]; lia
 lia
theorem oA (W) (h:0<=x):Uk x (1 * 2 ^ W - 1)=x % 2 ^ W:=by
 have hp:=two_pos W
 have e0:(1:Int) * 2 ^ W - 1=((2 ^ W - 1:Nat):Int):=by
  have:0<2 ^ W:=Nat.pow_pos (by decide)
  rw [RL,gF]; lia
 rw [e0]
 show (match decide (0<=x),decide (0<=((2 ^ W - 1:Nat):Int)) with
  | true,true=>(((x.toNat &&& (((2 ^ W - 1:Nat):Int)).toNat:Nat)):Int)
  | true,false=>_ | false,true=>_ | false,false=>_)=_
 rw [decide_eq_true h,decide_eq_true (Vb _)]
 show ((x.toNat &&& (2 ^ W - 1):Nat):Int)=_
 rw [Nat.and_two_pow_sub_one_eq_mod,gF,Int.natCast_emod,Int.toNat_of_nonneg h]
noncomputable def cg (p q:List Int):List Int:=(Pc (max p.length q.length)).map λk=>aQ p k+aQ q k
noncomputable def fk (l r:aI):aI:=(cg l.1 r.1,l.2 * r.2)
noncomputable def aE (A B:List aI):List aI:=A.flatMap λl=>B.map (fk l)
theorem gq (p q):(cg p q).length=max p.length q.length:=by simp [cg]
theorem bC (p q) (i):aQ (cg p q) i=aQ p i+aQ q i:=by
 by_cases z:i<max p.length q.length
 ·rw [bV (by rw [gq]; exact z)]; simp [cg]
 ·rw [bX (by rw [gq]; lia),bX (by lia),bX (by lia)]; rfl
theorem fM (b) (p q):pk b (cg p q)=pk b p+pk b q:=by
 unfold pk
 rw [<- wZ]
 exact j9 λi _=>bC p q i
theorem iX (h:t∈aE A B):∃ l∈A,∃ r∈B,t=fk l r:=by
 unfold aE at h
 obtain ⟨l,hl,h⟩:=List.mem_flatMap.mp h
 obtain ⟨r,hr,rfl⟩:=Pn.mp h
 exact ⟨l,hl,r,hr,rfl⟩
theorem yO (A B) (l):aE (A++[l]) B=aE A B++B.map (fk l):=by
 unfold aE
 rw [List.flatMap_append,List.flatMap_cons,List.flatMap_nil,Qd]
theorem lS (A B):(aE A B).length=A.length * B.length:=by
 induction A with
 | nil=>simp [aE]
 | cons a A ih =>
  unfold aE at *
  rw [List.flatMap_cons,Pr,ih,OW,Pu,Td]
  lia
end EV
namespace EV
open PySem PySem.Spec PySem.Calls PyProof.Rows L2
theorem B3 {K:OR}:∀ {kvs:List (Key×D)} {ys:List (Key×V)},ys.map (·.1)=kvs.map (·.1)->aq K H (kvs.map (·.2)) (ys.map (·.2))->gW K H kvs ys
 | [],[],_,_=>.nil
 | [],y::ys,h,_=>by simp at h
 | x::kvs,[],h,_=>by simp at h
 | x::kvs,y::ys,h,r=>by
  rw [O4,O4] at h r
  obtain ⟨v,t,e,r1,r2⟩:=aG.mp r
  injection e with e1 e2
  injection h with h1 h2
  subst e1 e2
  exact .cons ⟨h1.symm,r1⟩ (B3 h2 r2)
section
variable {K:OR}
theorem B4 (h:aJ c a ρ λx=>aJ c b ρ λy=>∃ (kvs:List (Key×D)) (kk:Key) (d:D),x=.fdK (kvs.map (·.1)) (kvs.map (·.2))/\y.yl=some kk/\ay kvs kk=some d/\R d) (hs:DQ b:=by with_unfolding_all exact λ_ _=>rfl):aJ c (.Subscript a b pos) ρ R:=λσ H Hf Q S q =>
 ck (vH c.hu cG cG hs) (h σ H Hf _ S λx v H1 aV h1 r1 g1=>h1 σ H1 aV _ (S.cC g1) λy u H2 cN ⟨kvs,kk,d,e1,e2,e3,hR⟩ r2 g2=>by
  subst e1
  obtain ⟨p,ys,o,rfl,k1,k2,k3⟩:=fC.mp r1
  have kv:=(B3 k2 k3).mono g2.f
  have rel:=kv.val kk
  rw [e3] at rel
  rw [iL e2 r2]
  cases z:kF ys kk with
  | none=>rw [z] at rel; exact rel.elim
  | some v =>
   rw [z] at rel
   exact ⟨p,v,rfl,.inl ⟨ys,kk,.inr ⟨o,g2.b _ _ (g2.f _ _ k1)⟩,rfl,z.symm⟩,q d v H2 cN hR rel (g1.trans g2)⟩)
end
end EV
namespace EV
open PySem PySem.Spec PyProof.Rows L2
theorem sF {A:List aI} {l:List Int} {n:Int} {t:aI} (h:t∈putD A l n):t=(l,n)\/t∈A:=by
 unfold putD at h
 split at h
 ·obtain ⟨u,hu,e⟩:=Pn.mp h
  split at e
  ·rename_i q; subst e; exact .inl (by rw [q])
  ·subst e; exact .inr hu
 ·rcases Pb.mp h with q | q
  ·exact .inr q
  ·simp at q; exact .inl q
theorem Jo {A:List aI} (h:∀ t∈A,t.2.natAbs<=c) (l):((ay A l).getD 0).natAbs<=c:=by
 unfold ay
 cases e:A.find? (λkv=>decide (kv.1=l)) with
 | none=>exact PK _
 | some u=>exact h u (List.mem_of_find?_eq_some e)
theorem xq:∀ (ts A:List aI) (c:Nat),(∀ t∈A,t.2.natAbs<=c)->(∀ t∈ts,t.2.natAbs<=m)->∀ t∈ts.foldl fK A,t.2.natAbs<=c+ts.length * m
 | [],A,c,h,_,t,ht=>by simpa using h t ht
 | u::ts,A,c,h,g,t,ht=>by
  have:=xq (m:=m) ts (fK A u) (c+m) (λt' ht'=>by
   rcases sF ht' with rfl | q
   ·have a:=Jo h (trim u.1)
    have b:=g u OY
    show ((ay A (trim u.1)).getD 0+u.2).natAbs<=c+m
    omega
   ·have:=h t' q; omega) (λt h=>g t (O1 _ h)) t ht
  rw [Pu,Td]
  omega
theorem Jp (h:∀ t∈ts,t.2.natAbs<=m):∀ t∈aU ts,t.2.natAbs<=ts.length * m:=λt ht=>by
 have:=xq ts [] 0 (by simp) h t ht
 omega
theorem yP (l m:List Int):mR (n+1) (.tup (l.map D.int)) (.tup (m.map D.int)):=.tup λi d e h1 h2=>by
 simp only [O8,Pf] at h1 h2
 obtain ⟨a,_,rfl⟩:=h1
 obtain ⟨b,_,rfl⟩:=h2
 exact .sc rfl
theorem B5 (x y):mR (n+2) (ah x) (ah y):=.tup λi d e h1 h2=>by
 rcases i with _ | _ | i
 ·simp at h1 h2; subst h1 h2; exact yP _ _
 ·simp at h1 h2; subst h1 h2; exact .sc rfl
 ·simp at h1
theorem oB (L M:List aI):uc (L.map ah) (M.map ah):=λi d e h1 h2=>by
 simp only [O8,Pf] at h1 h2
 obtain ⟨a,_,rfl⟩:=h1
 obtain ⟨b,_,rfl⟩:=h2
 exact B5 a b
theorem B6 (h:uc ds ds) (t:T true):yf (.lst ds) (.lst ds) T:=vK ⟨h,by rw [decide_eq_true rfl]; exact t⟩
section
variable {K:OR}
theorem int_mk (KX:K.In h) (G:h.Ns mainGlobals mg) (a:P0 K mainGlobals x=some (some (.int i tk))):∃ tk:Tok,mg x=some (.int i tk):=⟨tk,PySem.W.mg_of KX G a⟩
theorem E2 (P) (w) (base) {st:Stmt} (D:aA K mg x st) (ok:∀ {f:Addr} {fd:FuncData},dO K x x st f fd->bh P w K mg base (cV P w) k f fd ps (Kq K F))
 (hb:∀ (kV doc pm:Value) (an:Option Addr) (cdv ct:Value) (us:List Value),us.length=ps.length->bindArgs (Q0 x x (dQ st) (av st) (aP st) .none kV doc pm an cdv ct) ⟨us,[]⟩=pure (ps.zip us):=by intro _ _ _ _ _ _ us hl; first | (obtain ⟨a,rfl⟩:=LD us hl; rfl) | (obtain ⟨a,b,rfl⟩:=LF us hl; rfl) | (obtain ⟨a,b,c,rfl⟩:=LG us hl; rfl) | (obtain ⟨a,b,c,d,rfl⟩:=LH us hl; rfl) | (obtain ⟨a,b,c,d,e,rfl⟩:=IM us hl; rfl) | (obtain ⟨a,b,c,d,e,f,rfl⟩:=len6 us hl; rfl) | (obtain rfl:=len0 us hl; rfl)):Jb P w K mg base k x F :=
 let ⟨f,fd,m,Fu⟩:=D; ⟨f,fd,ps,m,Fu.kp,Fu.binds hb,ok Fu⟩
end
structure OL (P:Program) (w:World) (K:OR) (mg:Str->Option Value) (base:Heap) (k:Nat) (f:Addr) (F:Fn):Prop where
 ex:∃ fd ps,QY K (.ref f)=true/\Binds K fd ps []/\bh P w K mg base (cV P w) k f fd ps (eS K F)
section
variable {K:OR}
end
end EV
namespace EV
open PySem PySem.Spec PySem.Calls PyProof.Rows L2
section
variable {K:OR}
end
section
variable {K:OR}
end
section
variable {K:OR} {H Hf H' aj:Hp}
end
inductive ML:List Sl->Prop where
 | nil:ML []
 | cons {r:Sl} {l:List Sl} (h:r.NK=false):ML l->ML (r::l)
inductive Jq:List Sl->Nat->Sh->Prop where
 | z {s:Sh} {l:List Sl}:ML l->Jq (.fo s::l) 0 s
 | s {r:Sl} {l:List Sl} {i:Nat} {s:Sh} (h:r.NK=false):Jq l i s->Jq (r::l) (i+1) s
section
variable {K:OR}
end
section
variable {K:OR}
end
section
variable {K:OR}
end
end EV
namespace EV
open PySem PySem.Spec PyProof.Rows L2
noncomputable def fW (t:aI):aI:=(t.1,-t.2)
theorem E3 (h:trim m=m) (hn:m≠[]):aQ m (m.length - 1)≠0:=by
 rcases List.eq_nil_or_concat m with rfl | ⟨l,x,rfl⟩
 ·exact absurd rfl hn
 ·rw [List.concat_eq_append] at h |-
  intro z
  have e:aQ (l++[x]) ((l++[x]).length - 1)=x:=by
   rw [bV (by simp)]; simp
  rw [e] at z; subst z
  rw [gC] at h
  have:=c6 l
  rw [h,Pr,SD] at this
  lia
theorem yQ (hl:trim l=l) (hm:trim m=m) (h:∀ i,aQ l i=aQ m i):l=m:=by
 have key:∀ {l m:List Int},trim m=m->(∀ i,aQ l i=aQ m i)->m.length<=l.length:=λ{l m} hm h=>by
  rcases Nat.lt_or_ge l.length m.length with z | z
  ·have hn:m≠[]:=by rintro rfl; simp at z
   have:=E3 hm hn
   rw [<- h,bX (by lia)] at this
   exact absurd rfl this
  ·exact z
 have e:l.length=m.length:=Nat.le_antisymm (key hl λi=>(h i).symm) (key hm h)
 refine Vy e λi h1 h2=>?_
 have:=h i
 rwa [bV h1,bV h2] at this
theorem dJ (h:∀ i,aQ p i=aQ q i):trim p=trim q:=yQ (cj p) (cj q) λi=>by rw [b9,b9,h]
theorem yR (a b):trim (cg (trim a) (trim b))=trim (cg a b):=dJ λi=>by rw [bC,bC,b9,b9]
theorem uN (a b):trim (cg (trim a) b)=trim (cg a b):=dJ λi=>by rw [bC,bC,b9]
theorem uO (a b):trim (cg a (trim b))=trim (cg a b):=dJ λi=>by rw [bC,bC,b9]
theorem yS (a b):cg a b=cg b a:=by
 unfold cg; rw [Nat.max_comm]; exact Q7 λk _=>Th _ _
theorem B7 (a):trim (cg [] a)=trim a:=dJ λi=>by rw [bC,bX (PK _),Tf]
theorem uP (a b c):trim (cg (cg a b) c)=trim (cg a (cg b c)):=dJ λi=>by
 rw [bC,bC,bC,bC,Int.add_assoc]
noncomputable def ev (g:List Int->Int):List aI->Int
 | []=>0
 | t::A=>t.2 * g (trim t.1)+ev g A
theorem aX (g) (t) (A):ev g (t::A)=t.2 * g (trim t.1)+ev g A:=rfl
theorem bY (g) (B):∀ A,ev g (A++B)=ev g A+ev g B
 | []=>by simp [ev]
 | t::A=>by rw [RC,aX,aX,bY g B A]; lia
theorem jy (g):∀ A:List aI,ev g (A.map fW)= - ev g A
 | []=>rfl
 | t::A=>by
  rw [O4,aX,aX,jy g A]
  show -t.2 * g (trim t.1)+_=_
  rw [UC]; lia
theorem B8 (g) (l):∀ B:List aI,ev g (B.map (fk l))=l.2 * ev (λq=>g (trim (cg (trim l.1) q))) B
 | []=>by simp [ev]
 | r::B=>by
  rw [O4,aX,aX,B8 g l B]
  show l.2 * r.2 * g (trim (cg l.1 r.1))+_=_
  rw [Sq,yR,Sm]
theorem bU (g) (B):∀ A:List aI,ev g (aE A B)=ev (λp=>ev (λq=>g (trim (cg p q))) B) A
 | []=>rfl
 | l::A=>by
  show ev g (B.map (fk l)++aE A B)=_
  rw [bY,B8,bU g B A]; rfl
theorem gr (e:∀ p,trim p=p->g p=h p):∀ A,ev g A=ev h A
 | []=>rfl
 | t::A=>by rw [aX,aX,e _ (cj _),gr e A]
theorem B9 (g h):∀ A,ev (λp=>g p+h p) A=ev g A+ev h A
 | []=>rfl
 | t::A=>by rw [aX,aX,aX,B9 g h A,Sq]; lia
theorem GJ (c) (g):∀ A,ev (λp=>c * g p) A=c * ev g A
 | []=>by simp [ev]
 | t::A=>by rw [aX,aX,GJ c g A,Sq,Int.mul_left_comm]
theorem xr:∀ A,ev (λ_=>0) A=0
 | []=>rfl
 | t::A=>by rw [aX,xr A]; simp
theorem xu (f:List Int->List Int->Int) (B):∀ A,ev (λp=>ev (λq=>f p q) B) A=ev (λq=>ev (λp=>f p q) A) B
 | []=>by show 0=ev (λ_=>0) B; rw [xr]
 | t::A=>by
  show t.2 * ev (λq=>f (trim t.1) q) B+ev _ A=ev (λq=>t.2 * f (trim t.1) q+ev (λp=>f p q) A) B
  rw [B9,GJ,xu f B A]
def eqv (A B:List aI):Prop:=∀ g,ev g A=ev g B
theorem eqv.rf (A):eqv A A:=λ_=>rfl
theorem eqv.app (h:eqv A A') (k:eqv B B'):eqv (A++B) (A'++B'):=λg=>by rw [bY,bY,h g,k g]
theorem eqv.neg (h:eqv A B):eqv (A.map fW) (B.map fW):=λg=>by rw [jy,jy,h g]
theorem eqv.prod (h:eqv A A') (k:eqv B B'):eqv (aE A B) (aE A' B'):=λg=>by
 rw [bU,bU,h]; exact gr (λp _=>k _) _
instance trmSetoid:Setoid (List aI):=⟨eqv,⟨eqv.rf,λh g=>(h g).symm,λh k g=>(h g).trans (k g)⟩⟩
noncomputable def MP:Type:=Quotient trmSetoid
noncomputable def mp (A:List aI):MP:=Quotient.mk trmSetoid A
theorem c8:mp A=mp B↔eqv A B:=⟨λh=>Quotient.exact h,λh=>Ui h⟩
noncomputable def cT (n:Int):List aI:=[([],n)]
theorem jz (g) (n):ev g (cT n)=n * g []:=by show n * g (trim [])+0=_; rw [Tg]; rfl
noncomputable instance:Add MP:=⟨Quotient.lift₂ (λA B=>mp (A++B)) λ_ _ _ _ h k=>Ui (eqv.app h k)⟩
noncomputable instance:Mul MP:=⟨Quotient.lift₂ (λA B=>mp (aE A B)) λ_ _ _ _ h k=>Ui (eqv.prod h k)⟩
noncomputable instance:Neg MP:=⟨Quotient.lift (λA=>mp (A.map fW)) λ_ _ h=>Ui (eqv.neg h)⟩
noncomputable instance:Sub MP:=⟨λa b=>a+ -b⟩
noncomputable instance:NatCast MP:=⟨λn=>mp (cT n)⟩
noncomputable instance:IntCast MP:=⟨λn=>mp (cT n)⟩
noncomputable instance (n:Nat):OfNat MP n:=⟨mp (cT n)⟩
noncomputable instance:SMul Nat MP:=⟨λn a=>(n:MP) * a⟩
noncomputable instance:SMul Int MP:=⟨λn a=>(n:MP) * a⟩
noncomputable def MP.pow (a:MP):Nat->MP
 | 0=>1
 | n+1=>MP.pow a n * a
noncomputable instance:HPow MP Nat MP:=⟨MP.pow⟩
theorem uQ (A B):mp (A++B)=mp A+mp B:=rfl
theorem ir (A B):mp (aE A B)=mp A * mp B:=rfl
theorem Ca (A B):mp (A++B.map fW)=mp A - mp B:=rfl
theorem qD {P:MP->Prop} (h:∀ A,P (mp A)) (a:MP):P a:=Quotient.inductionOn a h
theorem Jr (g) (A):ev g (aE (cT 1) A)=ev g A:=by
 rw [bU,jz,RL]
 exact gr (λp hp=>by rw [B7,hp]) _
theorem mulC:∀ a b:MP,a * b=b * a:=qD λA=>qD λB=>c8.mpr λg=>by
 rw [bU,bU,xu]
 exact gr (λq _=>gr (λp _=>by rw [yS]) _) _
theorem LU:∀ a:MP,1 * a=a:=qD λA=>c8.mpr λg=>Jr g A
theorem NX:∀ a b:MP,a+b=b+a:=qD λA=>qD λB=>c8.mpr λg=>by rw [bY,bY,Th]
theorem GK:∀ a b c:MP,(a+b) * c=a * c+b * c:=qD λA=>qD λB=>qD λC=>c8.mpr λg=>by rw [bU,bY,bY,bU,bU]
theorem GL:∀ a:MP,0 * a=0:=qD λA=>c8.mpr λg=>by
 rw [bU,jz,jz]; show 0 * _=0 * _; rw [Rr,Rr]
noncomputable instance:Lean.Grind.CommRing MP where
 add_zero:=qD λA=>c8.mpr λg=>by rw [bY,jz]; show _+0 * _=_; rw [Rr,Tg]
 add_comm:=NX
 add_assoc:=qD λA=>qD λB=>qD λC=>c8.mpr λg=>by rw [bY,bY,bY,bY,Int.add_assoc]
 mul_assoc:=qD λA=>qD λB=>qD λC=>c8.mpr λg=>by
  rw [bU,bU,bU]
  refine gr (λp _=>?_) _
  rw [bU]
  refine gr (λq _=>gr (λr _=>?_) _) _
  rw [uN,uO,uP]
 mul_one:=λa=>by rw [mulC,LU]
 one_mul:=LU
 left_distrib:=λa b c=>by rw [mulC,GK,mulC b,mulC c]
 right_distrib:=GK
 zero_mul:=GL
 mul_zero:=λa=>by rw [mulC,GL]
 pow_zero:=λ_=>rfl
 pow_succ:=λ_ _=>rfl
 ofNat_succ:=λn=>c8.mpr λg=>by
  show ev g (cT ((n+1:Nat):Int))=ev g (cT (n:Int)++cT ((1:Nat):Int))
  rw [bY,jz,jz,jz,Int.natCast_add,QM]
 ofNat_eq_natCast:=λ_=>rfl
 nsmul_eq_natCast_mul:=λ_ _=>rfl
 neg_add_cancel:=qD λA=>c8.mpr λg=>by
  rw [bY,jy,jz]; show _=0 * _; rw [Rr]; lia
 sub_eq_add_neg:=λ_ _=>rfl
 neg_zsmul:=λi=>qD λA=>c8.mpr λg=>by
  show ev g (aE (cT (-i)) A)=ev g ((aE (cT i) A).map fW)
  rw [jy,bU,bU,jz,jz,UC]
 zsmul_natCast_eq_nsmul:=λ_ _=>rfl
 intCast_ofNat:=λ_=>rfl
 intCast_neg:=λi=>c8.mpr λg=>by
  show ev g (cT (-i))=ev g ((cT i).map fW)
  rw [jy,jz,jz,UC]
 mul_comm:=mulC
theorem Cb {A:List aI} {p q:List Int} {n:Int}:(ay (putD A p n) q).getD 0=if q=p then n else (ay A q).getD 0:=by
 unfold putD
 split
 ·rename_i h
  induction A with
  | nil=>simp [ay] at h
  | cons t A ih =>
   rw [O4]
   by_cases e:t.1=p
   ·rw [if_pos e]
    by_cases z:q=p
    ·rw [if_pos z,aL (by rw [e,z])]; rfl
    ·rw [if_neg z,aB (by rw [e]; exact λw=>z w.symm),aB (by rw [e]; exact λw=>z w.symm)]
     clear ih h
     induction A with
     | nil=>rfl
     | cons u A ih =>
      rw [O4]
      by_cases w:u.1=q
      ·rw [if_neg (by rw [w]; exact z),aL w,aL w]
      ·rw [aB w,<- ih,aB (by split <;> exact w)]
   ·rw [if_neg e]
    have h':(ay A p).isSome=true:=by rw [aB e] at h; exact h
    by_cases z:t.1=q
    ·rw [aL z,aL z,if_neg (by rw [<- z]; exact e)]
    ·rw [aB z,aB z,ih h']
 ·rename_i h
  induction A with
  | nil =>
   rw [Ud]
   by_cases z:q=p
   ·rw [if_pos z,aL z.symm]; rfl
   ·rw [if_neg z,aB λw=>z w.symm]
  | cons t A ih =>
   have h0:¬ t.1=p:=λe=>h (by rw [aL e]; rfl)
   rw [RC]
   by_cases z:t.1=q
   ·rw [aL z,aL z,if_neg (by rw [<- z]; exact h0)]
   ·rw [aB z,aB z,ih (by rw [aB h0] at h; exact h)]
noncomputable def cf (p:List Int) (A:List aI):Int:=ev (λq=>if q=p then 1 else 0) A
theorem Cc (p):∀ ts:List aI,(ay (aU ts) p).getD 0=cf p ts:=by
 intro ts
 suffices H:∀ (ts A:List aI),(ay (ts.foldl fK A) p).getD 0=(ay A p).getD 0+cf p ts by
  have:=H ts []
  rw [show (ay ([]:List aI) p).getD 0=0 from rfl,Tf] at this
  exact this
 intro ts
 induction ts with
 | nil=>intro A; show _=_+0; rw [Tg]; rfl
 | cons t ts ih =>
  intro A
  rw [Ra,ih]
  unfold fK
  rw [Cb]
  show _=_+(t.2 * (if trim t.1=p then 1 else 0)+cf p ts)
  by_cases z:p=trim t.1
  ·rw [if_pos z,if_pos z.symm,z]; lia
  ·rw [if_neg z,if_neg λw=>z w.symm]; lia
theorem Cd:t∈nz (aU ts)↔trim t.1=t.1/\t.2≠0/\t.2=cf t.1 ts:=by
 have hk:=c7 ts
 constructor
 ·intro h
  unfold nz at h
  rw [QX] at h
  refine ⟨?_,by simpa using h.2,?_⟩
  ·have bd:∃ n,∀ t∈ts,t.1.length<=n:=by
    clear h hk
    induction ts with
    | nil=>exact ⟨0,λt h=>by cases h⟩
    | cons u ts ih =>
     obtain ⟨n,hn⟩:=ih
     refine ⟨max n u.1.length,λt ht=>?_⟩
     rcases O2.mp ht with rfl | ht
     ·lia
     ·have:=hn t ht; lia
   obtain ⟨n,hn⟩:=bd
   exact (pW hn t h.1).1
  ·rw [<- Cc,p5 hk h.1]; rfl
 ·rintro ⟨h1,h2,h3⟩
  unfold nz
  rw [QX]
  refine ⟨?_,by simpa using h2⟩
  rw [<- Cc] at h3
  cases e:ay (aU ts) t.1 with
  | none=>rw [e] at h3; exact absurd h3 h2
  | some n =>
   rw [e] at h3
   have h3':t.2=n:=h3
   unfold ay at e
   obtain ⟨u,hu,e2⟩:=Pf.mp e
   have m:=List.mem_of_find?_eq_some hu
   have z:u.1=t.1:=by simpa using List.find?_some hu
   have:u=t:=Prod.ext z (by rw [e2,h3'])
   rw [<- this]; exact m
theorem sG {L M:List aI} (h1:L.Nodup) (h2:M.Nodup) (h:∀ t,t∈L↔t∈M):L.Perm M:=(List.perm_ext_iff_of_nodup h1 h2).mpr h
theorem Ce (h:eqv A B):aR A=aR B:=by
 have nA:=keys_nodup (pX (c7 A))
 have nB:=keys_nodup (pX (c7 B))
 have hp:(nz (aU A)).Perm (nz (aU B)):=sG nA nB λt=>by rw [Cd,Cd]; unfold cf; rw [h]
 exact pU nB ((bM _).trans hp) (gD nA)
theorem cS (h:mp A=mp B):aR A=aR B:=Ce (c8.mp h)
theorem Js (g) (hp:trim p=p) (n) (hk:(A.map (·.1)).Nodup) (ht:∀ t∈A,trim t.1=t.1):ev g (putD A p n)=ev g A+(n - (ay A p).getD 0) * g p:=by
 unfold putD
 split
 ·rename_i h
  induction A with
  | nil=>simp [ay] at h
  | cons t A ih =>
   rw [O4]
   rw [O4,QJ] at hk
   by_cases e:t.1=p
   ·rw [if_pos e]
    have same:A.map (λkv:aI=>if kv.1=p then (kv.1,n) else kv)=A:=by
     refine (Q7 λu hu=>?_).trans (List.map_id A)
     rw [if_neg λz=>hk.1 (by rw [e,<- z]; exact Pn.mpr ⟨u,hu,rfl⟩)]; rfl
    rw [same,aL e]
    rw [aX,aX]
    show n * g (trim t.1)+_=_+(n - t.2) * _
    rw [ht t OY,e,Int.sub_mul]; lia
   ·rw [if_neg e]
    rw [aX,aX,ih hk.2 (λu hu=>ht u (O1 _ hu)) (by rw [aB e] at h; exact h),aB e]; lia
 ·rename_i h
  have e:ay A p=none:=by
   cases e:ay A p with
   | none=>rfl
   | some n=>rw [e] at h; exact absurd rfl h
  rw [bY,e]
  show _+(n * g (trim p)+0)=_+(n - 0) * _
  rw [hp,Int.sub_zero,Tg]
theorem E4 (ts):eqv (aU ts) ts:=by
 suffices H:∀ (ts A:List aI),(A.map (·.1)).Nodup->(∀ t∈A,trim t.1=t.1)->eqv (ts.foldl fK A) (A++ts) from H ts [] (by simp) (by simp)
 intro ts
 induction ts with
 | nil=>intro A _ _ g; simp
 | cons t ts ih =>
  intro A hk ht g
  have ih':ev g (ts.foldl fK (fK A t))=ev g (fK A t++ts):=ih _ (rY _ _ hk) (λu hu=>by
   rcases pV hu with e | e
   ·rw [e,cj]
   ·exact ht u e) g
  rw [Ra,ih',bY,bY]
  unfold fK
  rw [Js g (cj _) _ hk ht]
  show _=_+(t.2 * g (trim t.1)+ev g ts)
  rw [Int.sub_mul,QM]; lia
theorem E5 (g) (h:A.Perm B):ev g A=ev g B:=by
 induction h with
 | nil=>rfl
 | cons x _ ih=>rw [aX,aX,ih]
 | swap x y l=>rw [aX,aX,aX,aX]; lia
 | trans _ _ a b=>rw [a,b]
theorem Cf (g):∀ A:List aI,ev g (nz A)=ev g A
 | []=>rfl
 | t::A=>by
  unfold nz
  by_cases h:t.2=0
  ·rw [R1 (by simp [h])]
   show ev g (nz A)=t.2 * _+_
   rw [Cf g A,h,Rr,Tf]
  ·rw [Rk (by simp [h])]
   show _+ev g (nz A)=_
   rw [Cf g A]; rfl
theorem Cg (ts):eqv (aR ts) ts:=λg=>by
 show ev g (gP (nz (aU ts)))=_
 rw [E5 g (bM _),Cf,E4 ts g]
theorem dB (A):mp (aR A)=mp A:=c8.mpr (Cg A)
section
variable {K:OR}
end
end EV
namespace EV
open PySem PySem.Spec PySem.Calls PyProof.Rows L2
structure MM (prog:Program) (w:World) (L:List Addr) (i:Addr) (N N':Heap->Prop) (x:Value):Prop where
 keep:∀ {b:Addr} {h h':Heap},b∈L->Rt b h h'->N h->N h'
 keep':∀ {b:Addr} {h h':Heap},b∈L->Rt b h h'->N' h->N' h'
 run:∀ {A:Around} {E Q:Value->Shared->Prop} {s:Shared},N s.heap->(∀ h',N' h'->QW i s.heap h'->Q x { s with heap:=h' })->wpAny (model prog w) A (QS (.ref i)) Q E s
structure NY (prog:Program) (w:World) (L:List Addr) (i:Addr) (N:Heap->Prop):Prop where
 keep:∀ {b:Addr} {h h':Heap},b∈L->Rt b h h'->N h->N h'
 run:∀ {A:Around} {E Q:Value->Shared->Prop} {s:Shared},A.handled=none->N s.heap->(∀ h' e,Rt i s.heap h'->(∃ o,h'.get? e=some o/\o.cls=.type "StopIteration")->E (.ref e) { s with heap:=h' })->wpAny (model prog w) A (QS (.ref i)) Q E s
structure LV (z TI TO i1 i2:Addr):Prop where
 a:TI≠z
 b:TO≠z
 c:i1≠z
 d:i2≠z
 e:TI≠TO
 f:TI≠i1
 g:TI≠i2
 h:TO≠i1
 i:TO≠i2
 j:i1≠i2
section
variable {z TI TO i1 i2:Addr}
theorem Ci {Q:Value->Shared->Prop} (D:LV z TI TO i1 i2) (hz:IsZip s.heap z TI TO .none) (hTI:IsPair s.heap TI (.ref i1) (.ref i2)) (hTO:IsPair s.heap TO a b)
 (d1:MM prog w [z,TO,i2] i1 N1 N1' x) (d2:MM prog w [z,TO,i1] i2 N2 N2' y) (h1:N1 s.heap) (h2:N2 s.heap)
 (up1:∀ {h h':Heap},(∀ c o,c≠z->h.get? c=some o->h'.get? c=some o)->N1' h->N1' h') (up2:∀ {h h':Heap},(∀ c o,c≠z->h.get? c=some o->h'.get? c=some o)->N2' h->N2' h')
 (q:∀ h',IsZip h' z TI TO (rawInt s.heap.objs.size)->IsPair h' TO x y->N1' h'->N2' h'->IsPair h' s.heap.objs.size x y ->
   (∀ c o,c≠z->c≠TO->c≠i1->c≠i2->s.heap.get? c=some o->h'.get? c=some o)->Q (.ref s.heap.objs.size) { s with heap:=h' }) :
 wpAny (model prog w) A (Builtin.«zip.__next__» ⟨[.ref z],[]⟩) (λfin s'=>∃ v,fin=.done (.ret v)/\Q v s') E s:=by
 refine OQ (m:=field (.ref z) 2) (P7 hz rfl (x:=.bool false) rfl ?_)
 refine OQ (m:=field (.ref z) 3) (P7 hz rfl (x:=.ref TI) rfl (OQ (RG hTI rfl ?_)))
 refine OQ (m:=Tu (.ref z)) ?_
 unfold Tu
 refine OQ (P7 hz rfl (x:=.none) rfl (OS ?_))
 simp only [if_true]
 refine OQ (Qg (OQ (P7 hz rfl (x:=.ref TO) rfl (OQ (Qt hz (by simp) λg1 (k1:IsZip g1 z TI TO .ellipsis) b1=>?_)))))
 have c1:=b1.extBut
 refine OQ ?_
 simp only [Vu,List.zipIdx_nil,RE,List.forIn_nil]
 refine OQ (OQ (Ul ?_))
 refine OQ (m:=QS (.ref i1)) (d1.run (d1.keep (by simp) c1 h1) λg2 m1 b2=>OS ?_)
 have c2:=b2.extBut
 have o2:IsPair g2 TO a b:=c2 _ _ D.h (c1 _ _ D.b hTO)
 refine OQ (RG o2 rfl (OQ (UY o2 λg3 (o3:IsPair g3 TO x b) b3=>OQ (Ux (OS ?_)))))
 have c3:=b3.extBut
 refine OQ (OQ (Ul ?_))
 refine OQ (m:=QS (.ref i2)) (d2.run (d2.keep (by simp) c3 (d2.keep (by simp) c2 (d2.keep (by simp) c1 h2))) λg4 m2 b4=>OS ?_)
 have c4:=b4.extBut
 have o4:IsPair g4 TO x b:=c4 _ _ D.i o3
 refine OQ (RG o4 rfl (OQ (UY o4 λg5 (o5:IsPair g5 TO x y) b5=>OQ (Ux (OS (OS ?_))))))
 have c5:=b5.extBut
 refine OQ (RG o5 rfl (OQ (wpAny_newTuple ?_)))
 have sz:g5.objs.size=s.heap.objs.size:=by rw [b5.1,b4.1,b3.1,b2.1,b1.1]
 have k5:IsZip g5 z TI TO .ellipsis:=c5 _ _ D.b.symm (c4 _ _ D.d.symm (c3 _ _ D.b.symm (c2 _ _ D.c.symm k1)))
 have all:∀ c o,c≠z->c≠TO->c≠i1->c≠i2->s.heap.get? c=some o->g5.get? c=some o:=λc o n1 n2 n3 n4 e=>c5 _ _ n2 (c4 _ _ n4 (c3 _ _ n2 (c2 _ _ n3 (c1 _ _ n1 e))))
 have m1':N1' g5:=d1.keep' (by simp) c5 (d1.keep' (by simp) c4 (d1.keep' (by simp) c3 m1))
 have m2':N2' g5:=d2.keep' (by simp) c5 m2
 refine OQ (m:=VB (.ref z) (.ref g5.objs.size)) ?_
 unfold VB
 have k6:IsZip (g5.push { cls:=.type "tuple",data:=.seq #[x,y] }) z TI TO .ellipsis:=OX _ k5
 refine OQ (Qt k6 (by simp) λg7 (k7:IsZip g7 z TI TO (rawInt g5.objs.size)) b7=>Qt k7 (by simp) λg8 (k8:IsZip g8 z TI TO (rawInt g5.objs.size)) b8=>?_)
 have up:∀ c o,c≠z->g5.get? c=some o->g8.get? c=some o:=λc o n e=>b8.extBut _ _ n (b7.extBut _ _ n (OX _ e))
 have nz:g5.objs.size≠z:=RI (OZ k5)
 have p8:IsPair g8 g5.objs.size x y:=b8.extBut _ _ nz (b7.extBut _ _ nz (O7 _ rfl))
 refine OS ⟨_,rfl,?_⟩
 show Q (.ref g5.objs.size) _
 rw [sz] at k8 p8 |-
 exact q g8 k8 (up _ _ D.b o5) (up1 up m1') (up2 up m2') p8 λc o n1 n2 n3 n4 e=>up c o n1 (all c o n1 n2 n3 n4 e)
theorem E6 (hh:A.handled=none) (D:LV z TI TO i1 i2) (hz:IsZip s.heap z TI TO .none) (hTI:IsPair s.heap TI (.ref i1) (.ref i2)) (hTO:IsPair s.heap TO a b)
 (d:NY prog w [z] i1 N1\/∃ x N1',MM prog w [z] i1 N1 N1' x/\NY prog w [z,TO,i1] i2 N2) (h1:N1 s.heap) (h2:N2 s.heap)
 (q:∀ h' e,(∀ c o,c≠z->c≠TO->c≠i1->c≠i2->s.heap.get? c=some o->h'.get? c=some o)->(∃ o,h'.get? e=some o/\o.cls=.type "StopIteration")->E (.ref e) { s with heap:=h' }) :
 wpAny (model prog w) A (Builtin.«zip.__next__» ⟨[.ref z],[]⟩) Q E s:=by
 refine OQ (m:=field (.ref z) 2) (P7 hz rfl (x:=.bool false) rfl ?_)
 refine OQ (m:=field (.ref z) 3) (P7 hz rfl (x:=.ref TI) rfl (OQ (RG hTI rfl ?_)))
 refine OQ (m:=Tu (.ref z)) ?_
 unfold Tu
 refine OQ (P7 hz rfl (x:=.none) rfl (OS ?_))
 simp only [if_true]
 refine OQ (Qg (OQ (P7 hz rfl (x:=.ref TO) rfl (OQ (Qt hz (by simp) λg1 (k1:IsZip g1 z TI TO .ellipsis) b1=>?_)))))
 have c1:=b1.extBut
 refine OQ ?_
 simp only [Vu,List.zipIdx_nil,RE,List.forIn_nil]
 refine OQ (OQ (Ul ?_))
 refine OQ (m:=QS (.ref i1)) ?_
 rcases d with d | ⟨x,N1',d1,d2⟩
 ·refine d.run hh (d.keep (by simp) c1 h1) λg2 e b2 ⟨oe,e1,e2⟩=>?_
  have k2:IsZip g2 z TI TO .ellipsis:=b2 _ _ D.c.symm k1
  have ne:e≠z:=λu=>by subst u; rw [k2] at e1; cases e1; simp at e2
  exact Qt k2 (by simp) λg3 _ b3=>q g3 e (λc o n1 _ n3 _ u=>b3.extBut _ _ n1 (b2 _ _ n3 (c1 _ _ n1 u))) ⟨oe,b3.extBut _ _ ne e1,e2⟩
 ·refine d1.run (d1.keep (by simp) c1 h1) λg2 m1 b2=>OS ?_
  have c2:=b2.extBut
  have o2:IsPair g2 TO a b:=c2 _ _ D.h (c1 _ _ D.b hTO)
  refine OQ (RG o2 rfl (OQ (UY o2 λg3 (o3:IsPair g3 TO x b) b3=>OQ (Ux (OS ?_)))))
  have c3:=b3.extBut
  refine OQ (OQ (Ul ?_))
  refine OQ (m:=QS (.ref i2)) (d2.run hh (d2.keep (by simp) c3 (d2.keep (by simp) c2 (d2.keep (by simp) c1 h2))) λg4 e b4 ⟨oe,e1,e2⟩=>?_)
  have k4:IsZip g4 z TI TO .ellipsis:=b4 _ _ D.d.symm (c3 _ _ D.b.symm (c2 _ _ D.c.symm k1))
  have ne:e≠z:=λu=>by subst u; rw [k4] at e1; cases e1; simp at e2
  exact Qt k4 (by simp) λg5 _ b5=>q g5 e (λc o n1 n2 n3 n4 u=>b5.extBut _ _ n1 (b4 _ _ n4 (c3 _ _ n2 (c2 _ _ n3 (c1 _ _ n1 u))))) ⟨oe,b5.extBut _ _ ne e1,e2⟩
end
structure ZS (K:OR) where
 sq:Hp->Addr->List V->Prop
 it:Heap->Addr->Addr->Nat->Prop
 us:Heap->Addr->Array Value->Prop
 dm:List D->D
 cl:String
 rep:∀ {H:Hp} {ds:List D} {v:V},Rep K H (dm ds) v↔∃ a xs,v=.ref a/\sq H a xs/\aq K H ds xs
 same:∀ {H H':Hp} {a:Addr} {xs:List V},aN H H'->sq H a xs->sq H' a xs
 ini:∀ {h:Heap} {i l:Addr},h.get? i=some { cls:=.type cl,data:=.fields #[.ref l,.int 0 0] }->it h i l 0
 get:∀ {X:Cx} {aa:List (Addr×Obj)} {σ:L2.St} {H:Hp} {s:Shared} {l:Addr} {xs:List V},X.K=K->Inv X aa σ H s->sq H l xs->∃ its,Vals xs its/\us s.heap l its.toArray
 inj:∀ {X:Cx} {aa:List (Addr×Obj)} {σ:L2.St} {H:Hp} {s:Shared} {l:Addr} {xs ys:List V},X.K=K->Inv X aa σ H s->sq H l xs->sq H l ys->xs=ys
 ito:∀ {h:Heap} {i l:Addr} {k:Nat},it h i l k->∃ o,h.get? i=some o/\∀ v,o.data≠.cell v
 itk:∀ {h h':Heap} {i l:Addr} {k:Nat},(∀ o,h.get? i=some o->h'.get? i=some o)->it h i l k->it h' i l k
 usk:∀ {h h':Heap} {l:Addr} {a:Array Value},(∀ o,h.get? l=some o->h'.get? l=some o)->us h l a->us h' l a
 uso:∀ {h:Heap} {l:Addr} {a:Array Value},us h l a->∃ o,h.get? l=some o
 run:∀ {prog:Program} {w:World} {i l:Addr} {a:Array Value} {k:Nat} {x:Value} {A:Around} {E Q:Value->Shared->Prop} {s:Shared},l≠i->a[k]?=some x->it s.heap i l k->us s.heap l a->(∀ h',it h' i l (k+1)->QW i s.heap h'->Q x { s with heap:=h' })->wpAny (model prog w) A (QS (.ref i)) Q E s
 dry:∀ {prog:Program} {w:World} {i l:Addr} {a:Array Value} {k:Nat} {A:Around} {E Q:Value->Shared->Prop} {s:Shared},A.handled=none->a[k]?=none->it s.heap i l k->us s.heap l a->(∀ h' e,Rt i s.heap h'->(∃ o,h'.get? e=some o/\o.cls=.type "StopIteration")->E (.ref e) { s with heap:=h' })->wpAny (model prog w) A (QS (.ref i)) Q E s
noncomputable def NZ (K:OR):ZS K where
 sq:=fQ K
 it:=λh i l k=>h.IsListIter i l k
 us:=λh l a=>h.IsList l a
 dm:=.lst
 cl:="list_iterator"
 rep:=br
 same:=λe q=>e.seq q
 ini:=λe=>⟨_,e,rfl,rfl⟩
 get:=λh I q=>by subst h; obtain ⟨its,rv,p,_⟩:=I.list q; exact ⟨its,rv,p.isList⟩
 inj:=λh I q q'=>by subst h; exact I.ko q q'
 ito:=λ⟨o,e,_,d⟩=>⟨o,e,λv q=>by rw [d] at q; cases q⟩
 itk:=λk t=>t.at λo e=>k o e
 usk:=λk ⟨o,e,r⟩=>⟨o,k o e,r⟩
 uso:=λ⟨o,e,_⟩=>⟨o,e⟩
 run:=λ_ hx t u q=>wpAny_nextOf_list_item t u hx q
 dry:=λhh hx t u q=>wpAny_nextOf_list_end hh t u hx q
section
variable {prog:Program} {w:World} {E:Value->Shared->Prop} {s:Shared} {K:OR} {i l:Addr} {us:Array Value} {k:Nat} {L:List Addr}
def ZS.At (A:ZS K) (i l:Addr) (us:Array Value) (k:Nat) (h:Heap):Prop:=A.it h i l k/\A.us h l us
theorem ZS.At.keep {A:ZS K} (t:A.At i l us k h) (e:Rt b h h') (n1:i≠b) (n2:l≠b):A.At i l us k h':=⟨A.itk (λo=>e _ o n1) t.1,A.usk (λo=>e _ o n2) t.2⟩
theorem Cj {A:ZS K} {x:Value} (hL:∀ b∈L,i≠b/\l≠b) (hil:l≠i) (hx:us[k]?=some x):MM prog w L i (A.At i l us k) (A.At i l us (k+1)) x where
 keep:=λhb e t=>t.keep e (hL _ hb).1 (hL _ hb).2
 keep':=λhb e t=>t.keep e (hL _ hb).1 (hL _ hb).2
 run:=λt q=>A.run hil hx t.1 t.2 λh' a b=>q h' ⟨a,A.usk (λo=>b.extBut _ o hil) t.2⟩ b
theorem GN {A:ZS K} (hL:∀ b∈L,i≠b/\l≠b) (hx:us[k]?=none):NY prog w L i (A.At i l us k) where
 keep:=λhb e t=>t.keep e (hL _ hb).1 (hL _ hb).2
 run:=λhh t q=>A.dry hh hx t.1 t.2 q
theorem OM {z TI TO i1 i2 l1 l2:Addr} (D:ZipApart z TI TO i1 i2 l1 l2):∀ b∈[z,TO,i2],i1≠b/\l1≠b:=by
 intro b hb
 simp only [O2,QA,or_false] at hb
 rcases hb with rfl | rfl | rfl
 ·exact ⟨D.i1z,D.l1z⟩
 ·exact ⟨D.TOi1.symm,D.l1TO⟩
 ·exact ⟨D.i12,D.l1i2⟩
theorem Ol {z TI TO i1 i2 l1 l2:Addr} (D:ZipApart z TI TO i1 i2 l1 l2):∀ b∈[z,TO,i1],i2≠b/\l2≠b:=by
 intro b hb
 simp only [O2,QA,or_false] at hb
 rcases hb with rfl | rfl | rfl
 ·exact ⟨D.i2z,D.l2z⟩
 ·exact ⟨D.TOi2.symm,D.l2TO⟩
 ·exact ⟨D.i12.symm,D.l2i1⟩
theorem Om {z TI TO i1 i2 l1 l2:Addr} (D:ZipApart z TI TO i1 i2 l1 l2):∀ b∈[z],i1≠b/\l1≠b:=by
 intro b hb
 cases Pa.mp hb
 exact ⟨D.i1z,D.l1z⟩
variable {B C:ZS K}
theorem yT {z TI TO i1 i2 l1 l2:Addr} (D:ZipApart z TI TO i1 i2 l1 l2)
 (hz:IsZip s.heap z TI TO .none) (hTI:IsPair s.heap TI (.ref i1) (.ref i2)) (hTO:IsPair s.heap TO a b) (h1:B.At i1 l1 xs k s.heap) (h2:C.At i2 l2 ys k s.heap) (hx:xs[k]?=some x) (hy:ys[k]?=some y)
 (q:∀ h',IsZip h' z TI TO (rawInt s.heap.objs.size)->IsPair h' TO x y->B.At i1 l1 xs (k+1) h'->C.At i2 l2 ys (k+1) h'->IsPair h' s.heap.objs.size x y ->
   (∀ c o,c≠z->c≠TO->c≠i1->c≠i2->s.heap.get? c=some o->h'.get? c=some o)->Q (some (.ref s.heap.objs.size)) { s with heap:=h' }):wpAny (model prog w) A (pyNext (.ref z)) Q E s:=by
 have hT:s.TypeIs (.ref z) "zip":=⟨_,hz,rfl⟩
 have up:∀ {B:ZS K} {i l:Addr} {us:Array Value} {k:Nat},i≠z->l≠z->∀ {h h':Heap},(∀ c o,c≠z->h.get? c=some o->h'.get? c=some o)->B.At i l us k h->B.At i l us k h':=λ{B} {_} {_} {_} {_} n1 n2 h h' e t=>⟨B.itk (λo=>e _ o n1) t.1,B.usk (λo=>e _ o n2) t.2⟩
 unfold pyNext
 exact OQ (S0 (Rj (name:=OP "__next__") hT Ug
  (QV Ug hT F.entry_zip_next
    (Ci ⟨D.TIz,D.TOz,D.i1z,D.i2z,D.TITO,D.TIi1,D.TIi2,D.TOi1,D.TOi2,D.i12⟩ hz hTI hTO
      (Cj (OM D) D.l1i1 hx) (Cj (Ol D) D.l2i2 hy) h1 h2
      (up D.i1z D.l1z) (up D.i2z D.l2z) λh' a1 a2 a3 a4 a5 a6=>OS (q h' a1 a2 a3 a4 a5 a6)) (F.args_zip_next_1 _))))
theorem yU {z TI TO i1 i2 l1 l2:Addr} (hh:A.handled=none) (D:ZipApart z TI TO i1 i2 l1 l2)
 (hz:IsZip s.heap z TI TO .none) (hTI:IsPair s.heap TI (.ref i1) (.ref i2)) (hTO:IsPair s.heap TO a b) (h1:B.At i1 l1 xs k s.heap) (h2:C.At i2 l2 ys k s.heap) (hend:xs.size<=k\/ys.size<=k)
 (q:∀ h',(∀ c o,c≠z->c≠TO->c≠i1->c≠i2->s.heap.get? c=some o->h'.get? c=some o)->Q none { s with heap:=h' }):wpAny (model prog w) A (pyNext (.ref z)) Q E s:=by
 have hT:s.TypeIs (.ref z) "zip":=⟨_,hz,rfl⟩
 unfold pyNext
 refine OQ (S0 (Rj (name:=OP "__next__") hT Ug
  (QV Ug hT F.entry_zip_next (E6 (N1:=B.At i1 l1 xs k) (N2:=C.At i2 l2 ys k) hh ⟨D.TIz,D.TOz,D.i1z,D.i2z,D.TITO,D.TIi1,D.TIi2,D.TOi1,D.TOi2,D.i12⟩ hz hTI hTO ?_ h1 h2 λh' e hk he=>?_) (F.args_zip_next_1 _))))
 ·by_cases z:k<xs.size
  ·exact .inr ⟨_,_,Cj (Om D) D.l1i1 (Pj z),GN (Ol D) (UW (by lia))⟩
  ·exact .inl (GN (Om D) (UW (by lia)))
 ·obtain ⟨o,ho,hc⟩:=he
  refine OQ (Ua (T:="StopIteration") (b:=true) ⟨o,ho,hc⟩ isSubtype_stop ?_)
  exact OS (q _ hk)
end
noncomputable def Jt {K:OR} (B C:ZS K) (l1 l2:Addr):It :=
 ⟨λi H=>∃ xs ys x y,B.sq H l1 xs/\C.sq H l2 ys/\xs[i]?=some x/\ys[i]?=some y,
  λi H v H'=>∃ p x y,v=.ref p/\H p=none/\H'=upd H p (.tup [x,y])/\(∀ xs,B.sq H l1 xs->xs[i]?=some x)/\∀ ys,C.sq H l2 ys->ys[i]?=some y,
  λi H=>∃ xs ys,B.sq H l1 xs/\C.sq H l2 ys/\(xs.length<=i\/ys.length<=i)⟩
theorem yV {P:Program} {w:World} {K:OR} {B C:ZS K} {elts:List Expr} {k:Nat} {pos:Pos} {z TI TO i1 i2 l1 l2:Addr} (D:ZipApart z TI TO i1 i2 l1 l2) :
 Turn P w K (.Tuple elts k pos) (Jt B C l1 l2) [z,TI,TO,i1,i2] z (λi h=>IsZip h z TI TO .none/\IsPair h TI (.ref i1) (.ref i2)/\(∃ a b,IsPair h TO a b)/\B.it h i1 l1 i/\C.it h i2 l2 i) where
 mem:=by simp
 obj:=λi h ⟨hz,hTI,⟨a,b,hTO⟩,h1,h2⟩ b hb=>by
  simp only [O2,QA,or_false] at hb
  rcases hb with rfl | rfl | rfl | rfl | rfl
  ·exact ⟨_,hz,λv q=>by have q':Tq _=RQ v:=q; cases q'⟩
  ·exact ⟨_,hTI,λv q=>by have q':Data.seq _ _=RQ v:=q; cases q'⟩
  ·exact ⟨_,hTO,λv q=>by have q':Data.seq _ _=RQ v:=q; cases q'⟩
  ·exact B.ito h1
  ·exact C.ito h2
 keep:=λi h h' ⟨hz,hTI,⟨a,b,hTO⟩,h1,h2⟩ hk=>⟨hk z (by simp) _ hz,hk TI (by simp) _ hTI,⟨a,b,hk TO (by simp) _ hTO⟩,B.itk (hk i1 (by simp)) h1,C.itk (hk i2 (by simp)) h2⟩
 item:=by
  intro X hP hw hK hc i aa s σ H E I hf st hg
  obtain ⟨hz,hTI,⟨a,b,hTO⟩,h1,h2⟩:=st
  obtain ⟨xs,ys,x,y,q1,q2,hx,hy⟩:=hg
  obtain ⟨ME,MW,p1⟩:=B.get hK I q1
  obtain ⟨its2,MF,p2⟩:=C.get hK I q2
  subst hP hw
  obtain ⟨u1,hu1,ru1⟩:=MW.get hx
  obtain ⟨u2,hu2,ru2⟩:=MF.get hy
  refine yT D hz hTI hTO ⟨h1,p1⟩ ⟨h2,p2⟩ (x:=u1) (y:=u2) (by simpa using hu1) (by simpa using hu2) λh' a1 a2 a3 a4 a5 hk=>?_
  have Hp:H s.heap.objs.size=none:=I.hok.fresh (OT _)
  have IA:Inv X aa σ (upd H s.heap.objs.size (.tup [x,y])) { s with heap:=s.heap.push { cls:=.type "tuple",data:=.seq #[u1,u2] },toks:=s.toks } :=
   I.laid (a:=s.heap.objs.size) (o:=.tup [x,y]) (λ_ _ q=>OX _ q) (OT _) ⟨by show 2<=sizeLine; decide,[u1,u2],.cons ru1 (.cons ru2 .nil),_,O7 _ rfl,rfl,0,rfl⟩
  have lt:∀ b∈[z,TI,TO,i1,i2],b<s.heap.objs.size:=λb hb=>by
   obtain ⟨o1,e1,_⟩:=B.ito h1
   obtain ⟨o2,e2,_⟩:=C.ito h2
   simp only [O2,QA,or_false] at hb
   rcases hb with rfl | rfl | rfl | rfl | rfl
   ·exact OZ hz
   ·exact OZ hTI
   ·exact OZ hTO
   ·exact OZ e1
   ·exact OZ e2
  have gf:∀ b∈[z,TI,TO,i1,i2],d8 X aa (upd H s.heap.objs.size (.tup [x,y])) b:=λb hb=>⟨by rw [ai (Px (lt b hb))]; exact (hf b hb).1,(hf b hb).2⟩
  have I1:Inv X aa σ (upd H s.heap.objs.size (.tup [x,y])) { s with heap:=h',toks:=s.toks }:=gE (s:={ s with heap:=s.heap.push { cls:=.type "tuple",data:=.seq #[u1,u2] },toks:=s.toks }) (t':=s.toks) (h':=h') (L:=[z,TI,TO,i1,i2]) IA (λb o hb q=>by
   simp only [O2,QA,or_false,not_or] at hb
   by_cases e:b=s.heap.objs.size
   ·subst e
    rw [O7 _ rfl] at q; cases q; exact a5
   ·refine hk b o hb.1 hb.2.2.1 hb.2.2.2.1 hb.2.2.2.2 ?_
    rw [Vr _ _ _ e] at q; exact q) gf
  have b1:IsPair h' TI (.ref i1) (.ref i2):=hk _ _ D.TIz D.TITO D.TIi1 D.TIi2 hTI
  refine ⟨_,rfl,wpAny_letOwnedTupleGo_zip (s:={ s with heap:=h' }) a1 λh2' hz' hs'=>?_⟩
  refine ⟨.ref s.heap.objs.size,_,gE (s:={ s with heap:=h',toks:=s.toks }) (t':=s.toks) (h':=h2') (L:=[z,TI,TO,i1,i2]) I1 (λb o hb q=>hs'.extBut b o (λe=>hb (by simp [e])) q) gf,rfl,
   ⟨_,x,y,rfl,Hp,rfl,λxs' h=>by rw [B.inj hK I h q1]; exact hx,λys' h=>by rw [C.inj hK I h q2]; exact hy⟩,
   ⟨hz',hs'.extBut _ _ D.TIz b1,⟨_,_,hs'.extBut _ _ D.TOz a2⟩,B.itk (λo=>hs'.extBut _ o D.i1z) a3.1,C.itk (λo=>hs'.extBut _ o D.i2z) a4.1⟩,λb hb=>(gf b hb).1⟩
 done:=by
  intro X hP hw hK hc i aa s σ H E I hf st hg
  obtain ⟨hz,hTI,⟨a,b,hTO⟩,h1,h2⟩:=st
  obtain ⟨xs,ys,q1,q2,hend⟩:=hg
  obtain ⟨ME,MW,p1⟩:=B.get hK I q1
  obtain ⟨its2,MF,p2⟩:=C.get hK I q2
  subst hP hw
  have l1:=MW.length
  have l2:=MF.length
  refine yU (I.ok.hd hc) D hz hTI hTO ⟨h1,p1⟩ ⟨h2,p2⟩ (by simp; lia) λh' hk=>⟨rfl,gE (t':=s.toks) (L:=[z,TI,TO,i1,i2]) I (λb o hb q=>?_) hf⟩
  simp only [O2,QA,or_false,not_or] at hb
  exact hk b o hb.1 hb.2.2.1 hb.2.2.2.1 hb.2.2.2.2 q
 self:=λA i s Q E st h=>wpAny_pyIter_zip st.1 h
theorem yW {K:OR} {B C:ZS K} {Hf:Hp} {ds es:List D} {xs ys:List V} {l1 l2:Addr} (h1:B.sq Hf l1 xs) (r1:aq K Hf ds xs) (h2:C.sq Hf l2 ys) (r2:aq K Hf es ys):jj K (Jt B C l1 l2) (uF ds es) Hf where
 go:=λi d H aV s1 s2 e=>by
  unfold uF at e
  rw [List.getElem?_zipWith_eq_some] at e
  obtain ⟨x,y,ex,ey,rfl⟩:=e
  obtain ⟨v1,f1,g1⟩:=r1.get ex
  obtain ⟨v2,f2,g2⟩:=r2.get ey
  have q1:=B.same (s1.trans s2) h1
  have q2:=C.same (s1.trans s2) h2
  refine ⟨⟨xs,ys,v1,v2,q1,q2,f1,f2⟩,λv H' ⟨p,x',y',e1,e2,e3,e4,e5⟩=>?_⟩
  have z1:=e4 xs q1
  have z2:=e5 ys q2
  rw [f1] at z1; cases z1
  rw [f2] at z2; cases z2
  subst e1 e3
  have g:=bw.new s2 e2 (o:=.tup [v1,v2])
  exact ⟨upd aV p (.tup [v1,v2]),g,aO.mpr ⟨p,_,rfl,.inl (.inl af),.cons (Rep.mono (s1.trans g.f) _ g1) (.cons (Rep.mono (s1.trans g.f) _ g2) (aF.mpr rfl))⟩⟩
 stop:=λi H aV s1 s2 e=>⟨xs,ys,B.same (s1.trans s2) h1,C.same (s1.trans s2) h2,by
  rw [<- r1.length,<- r2.length]
  unfold uF at e
  rw [List.length_zipWith] at e
  lia⟩
noncomputable abbrev Oo (c:String) (h:Heap) (l:Addr):Heap:=h.push { cls:=.type c,data:=.fields #[.ref l,.int 0 0] }
noncomputable abbrev Oq (h:Heap) (a b:Value):Heap:=h.push { cls:=.type "tuple",data:=.seq #[a,b] }
section
variable (c d:String)
noncomputable abbrev MN (h:Heap) (l1 _l2:Addr):Heap:=Oo c h l1
noncomputable abbrev LW (h:Heap) (l1 l2:Addr):Heap:=Oo d (MN c h l1 l2) l2
noncomputable abbrev MO (h:Heap) (l1 l2:Addr):Heap:=Oq (LW c d h l1 l2) (.ref h.objs.size) (.ref (MN c h l1 l2).objs.size)
noncomputable abbrev MQ (h:Heap) (l1 l2:Addr):Heap:=Oq (MO c d h l1 l2) .none .none
noncomputable abbrev GO (h:Heap) (l1 l2:Addr):Heap:=(MQ c d h l1 l2).push { cls:=.type "zip",data:=.fields #[.none,.bool false,.bool false,.ref (LW c d h l1 l2).objs.size,.ref (MO c d h l1 l2).objs.size] }
end
abbrev E7 {K:OR} (B C:ZS K):Prop:=∀ (l1 l2:Addr) (xs ys:Array Value),Meets (Builtin.«zip.__new__» ⟨[.type "zip",.ref l1,.ref l2],[]⟩) (λ_ R s=>B.us s.heap l1 xs/\C.us s.heap l2 ys/\R (.ok (.ret (.ref (MQ B.cl C.cl s.heap l1 l2).objs.size))) { s with heap:=GO B.cl C.cl s.heap l1 l2 })
theorem Ck (K):E7 (NZ K) (NZ K):=λl1 l2 xs ys =>
 .of_wp λprog w A R s h=>by
  obtain ⟨hp,g,d,tk,os⟩:=s
  obtain ⟨e1,e2,h⟩:=h
  have hsub:=PySem.sub_zip
  have t1:Heap.IsList (Shared.heap ⟨hp,g,d,tk,os⟩) l1 xs:=e1
  have t2:Heap.IsList (Shared.heap ⟨hp.push { cls:=.type "list_iterator",data:=.fields #[.ref l1,.int 0 0] },g,d,tk,os⟩) l2 ys:=(NZ K).usk (λo e=>OX _ e) e2
  wp_walk using SM t1,SM t2
  exact ⟨_,rfl,h⟩
section
variable {K:OR}
theorem yX (M:E7 B C) (e1:B.us s.heap l1 xs) (e2:C.us s.heap l2 ys)
 (h:∀ h',IsZip h' (s.heap.objs.size+4) (s.heap.objs.size+2) (s.heap.objs.size+3) .none->IsPair h' (s.heap.objs.size+2) (.ref s.heap.objs.size) (.ref (s.heap.objs.size+1)) ->
   IsPair h' (s.heap.objs.size+3) .none .none->B.it h' s.heap.objs.size l1 0->C.it h' (s.heap.objs.size+1) l2 0 ->
   (∀ c o,s.heap.get? c=some o->h'.get? c=some o)->Q (.ref (s.heap.objs.size+4)) { s with heap:=h' }):wpAny (model prog w) A (call (.type "zip") [.ref l1,.ref l2]) Q E s:=by
 refine callType_new F.called_zip (by decide) (F.typeCall_zip_2 _ _) (F.newCall_zip_2 _ _) (λobj=>F.args_object_init_3 obj _ _) F.entry_zip_new (M l1 l2 xs ys) ⟨e1,e2,?_⟩
 have z1:(MN B.cl s.heap l1 l2).objs.size=s.heap.objs.size+1:=QZ ..
 have z2:(LW B.cl C.cl s.heap l1 l2).objs.size=s.heap.objs.size+2:=by rw [QZ,z1]
 have z3:(MO B.cl C.cl s.heap l1 l2).objs.size=s.heap.objs.size+3:=by rw [QZ,z2]
 have z4:(MQ B.cl C.cl s.heap l1 l2).objs.size=s.heap.objs.size+4:=by rw [QZ,z3]
 have g5:(GO B.cl C.cl s.heap l1 l2).get? (MQ B.cl C.cl s.heap l1 l2).objs.size=some _:=O7 _ rfl
 have g4:(GO B.cl C.cl s.heap l1 l2).get? (MO B.cl C.cl s.heap l1 l2).objs.size=some _:=OX _ (O7 _ rfl)
 have g3:(GO B.cl C.cl s.heap l1 l2).get? (LW B.cl C.cl s.heap l1 l2).objs.size=some _:=OX _ (OX _ (O7 _ rfl))
 have g2:(GO B.cl C.cl s.heap l1 l2).get? (MN B.cl s.heap l1 l2).objs.size=some _:=OX _ (OX _ (OX _ (O7 _ rfl)))
 have g1:(GO B.cl C.cl s.heap l1 l2).get? s.heap.objs.size=some _:=OX _ (OX _ (OX _ (OX _ (O7 _ rfl))))
 have q:=h (GO B.cl C.cl s.heap l1 l2)
 rw [<- z2,<- z3,<- z4] at q
 have pr:IsPair (GO B.cl C.cl s.heap l1 l2) (LW B.cl C.cl s.heap l1 l2).objs.size (.ref s.heap.objs.size) (.ref (s.heap.objs.size+1)):=by rw [<- z1]; exact g3
 refine ⟨⟨_,g5,rfl⟩,q g5 pr g4 (B.ini g1) (C.ini (by rw [<- z1]; exact g2)) λc o x=>OX _ (OX _ (OX _ (OX _ (OX _ x))))⟩
end
theorem apart_new {n l1 l2:Nat} (h1:l1<n) (h2:l2<n):ZipApart (n+4) (n+2) (n+3) n (n+1) l1 l2:=by
 constructor <;> first | exact Px (by lia) | exact RI (by lia)
noncomputable def LX {K:OR} (B C:ZS K) (ta:TA):TI:=λσ H R=>ta σ H λvs H1=>∃ l1 l2 xs ys,vs=[.ref l1,.ref l2]/\B.sq H1 l1 xs/\C.sq H1 l2 ys/\R (Jt B C l1 l2) H1
theorem E8 {B C:ZS X.K} (M:E7 B C) (hg:Gl X "zip") (hm:X.mg "zip"=none) (ha:PA X [a,b] ta) (hs:starEach [a,b] X.env=[(false,eval a X.env),(false,eval b X.env)]) (hs2:starEach [b] X.env=[(false,eval b X.env)]) :
 PI X (.Tuple elts kt tpos) (.Call (.Name "zip" p) [a,b] [] pos) (LX B C ta):=by
 intro aa s σ H R I h
 refine Call_ (d7 I hg hm EV.boot_zip (Sy (bJ (ha pos aa s σ H _ I h) λus s1 ⟨vs,H1,I1,r1,q1⟩=>?_) (by rw [hs,hs2]) (by rw [hs2]; rfl)))
 obtain ⟨l1,l2,xs,ys,e,q1,q2,q⟩:=q1
 subst e
 cases r1 with
 | cons r rr =>
  cases rr with
  | cons r' rr =>
   cases rr
   cases r
   cases r'
   obtain ⟨ME,MW,p1⟩:=B.get rfl I1 q1
   obtain ⟨its2,MF,p2⟩:=C.get rfl I1 q2
   have b1:l1<s1.heap.objs.size:=by obtain ⟨_,e⟩:=B.uso p1; exact OZ e
   have b2:l2<s1.heap.objs.size:=by obtain ⟨_,e⟩:=C.uso p2; exact OZ e
   refine yX M p1 p2 λh' a1 a2 a3 a4 a5 hk=>wpAny_pyIter_zip a1 ?_
   refine ⟨s1.heap.objs.size+4,[s1.heap.objs.size+4,s1.heap.objs.size+2,s1.heap.objs.size+3,s1.heap.objs.size,s1.heap.objs.size+1],_,_,H1,rfl,I1.kept (t':=s1.toks) hk,yV (apart_new b1 b2),⟨a1,a2,⟨_,_,a3⟩,a4,a5⟩,λb hb=>?_,q⟩
   have hb':s1.heap.objs.size<=b:=by
    simp only [O2,QA,or_false] at hb
    rcases hb with rfl | rfl | rfl | rfl | rfl
    ·exact Q9 _ _
    ·exact Q9 _ _
    ·exact Q9 _ _
    ·exact OT _
    ·exact Q9 _ _
   exact I1.jh hb' (I1.hok.fresh hb')
section
variable {K:OR} {c:Ctx P w K mg base k N sc bk}
theorem Ju {B C:ZS c.X.K} (M:E7 B C) (hm:mg "zip"=none) (h:aJ c a ρ λx=>aJ c b ρ λy=>∃ ds es,x=B.dm ds/\y=C.dm es/\R (uF ds es)) (hg:sc.names.lookup (OP "zip")=some .globalImplicit:=by walk_at "u")
 (hs:∀ env,starEach [a,b] env=(false,eval a env)::starEach [b] env:=by intro _; walk_at "u") (hs2:∀ env,starEach [b] env=(false,eval b env)::starEach [] env:=by intro _; walk_at "u"):AM c (.Tuple elts kt tpos) (.Call (.Name "zip" p) [a,b] [] pos) ρ R:=λσ H Hf Q S q aa s I =>
 E8 M (by unfold Gl P8; rw [c.esc]; exact hg) (by rw [c.emg]; exact hm) (bD cG (bD cG dh (hs2 _)) (hs _)) (by rw [hs,hs2]; rfl) (by rw [hs2]; rfl) aa s σ H Q I
  (h σ H Hf _ S λx v1 H1 aV h1 r1 g1=>h1 σ H1 aV _ (S.cC g1) λy v2 H2 cN ⟨ds,es,e1,e2,hR⟩ r2 g2=>by
    subst e1 e2
    rw [B.rep] at r1
    rw [C.rep] at r2
    obtain ⟨l1,xs,rfl,s1,t1⟩:=r1
    obtain ⟨l2,ys,rfl,s2,t2⟩:=r2
    have s1':=B.same g2.f s1
    exact ⟨l1,l2,xs,ys,rfl,B.same g2.b s1',C.same g2.b s2,q _ _ H2 cN hR (g1.trans g2) (yW s1' (t1.mono g2.f) s2 t2)⟩)
theorem LY (hm:mg "zip"=none) (h:aJ c a ρ λx=>aJ c b ρ λy=>∃ ds es,x=.lst ds/\y=.lst es/\R (uF ds es)) (hg:sc.names.lookup (OP "zip")=some .globalImplicit:=by walk_at "u")
 (hs:∀ env,starEach [a,b] env=(false,eval a env)::starEach [b] env:=by intro _; walk_at "u") (hs2:∀ env,starEach [b] env=(false,eval b env)::starEach [] env:=by intro _; walk_at "u"):AM c (.Tuple elts kt tpos) (.Call (.Name "zip" p) [a,b] [] pos) ρ R:=Ju (Ck _) hm h hg hs hs2
end
section
open PySem in
end
section
variable {X:Cx} {aa:List (Addr×Obj)} {σ:L2.St} {H Hf:Hp} {s:Shared} {E:Value->Shared->Prop} {α:Type} {enc:α->D} {lt:α->α->Bool} {κ:SortKind}
structure LZ (X:Cx) (enc:α->D) (lt:α->α->Bool) (κ:SortKind) (L:List α):Prop where
 lin:SR.IX lt L
 inj:∀ (aa:List (Addr×Obj)) (σ:L2.St) (H Hf:Hp) (s:Shared),Inv X aa σ H s->aN Hf H->∀ x y u,j7 X.K Hf (enc x) u->j7 X.K Hf (enc y) u->x=y
 kind:∀ (aa:List (Addr×Obj)) (σ:L2.St) (H Hf:Hp) (s:Shared) (A:Around) (E:Value->Shared->Prop),Inv X aa σ H s->aN Hf H->∀ us:List Value,Paired (λx u=>j7 X.K Hf (enc x) u) L us->2<=us.length->∀ Q:SortKind->Shared->Prop,Q κ s->wpAny (model X.prog X.w) A (keyKind' us.toArray) Q E s
 cmp:∀ (aa:List (Addr×Obj)) (σ:L2.St) (H Hf:Hp) (s:Shared) (A:Around) (E:Value->Shared->Prop),Inv X aa σ H s->aN Hf H->A.units+10<cLine->∀ (x y:α) (u v:Value),j7 X.K Hf (enc x) u->j7 X.K Hf (enc y) v->∀ Q:Bool->Shared->Prop,Q (lt x y) s->wpAny (model X.prog X.w) A (keyLt' κ u v) Q E s
theorem yY {Q:Value->Shared->Prop} (hs:LZ X enc lt κ L) (I:Inv X aa σ H s) (sb:aN Hf H) (hA:A.units+20<cLine) (hr:aq X.K Hf (L.map enc) xs) (hv:Vals xs us) (hz:us.length<=sizeLine) (nd:L.Nodup)
 (hkw:∀ l,Builtin.«list.sort» ⟨[.ref l],kw⟩=Builtin.«list.sort» ⟨[.ref l],[(OP "reverse",.bool b)]⟩) (hka:∀ l,argsOk "list.sort" ⟨[.ref l],kw⟩)
 (hQ:∀ (L':List α) (xs':List V) (s':Shared),L'.Perm L->gn lt b L'->aq X.K Hf (L'.map enc) xs'->xs'.length<=sizeLine->Inv X aa σ (upd H s.heap.objs.size (.lst xs')) s'->Q (.ref s.heap.objs.size) s') :
 wpAny (model X.prog X.w) A (newList us >>= λl=>(holding [l] (call (.builtin "list.sort") [l] kw) >>= λ_=>ret l)) (λfin s'=>∃ v,fin=.done (.ret v)/\Q v s') E s:=by
 refine OQ (wpAny_newList ?_ hz)
 have ha:(s.heap.push (seqObj "list" us.toArray 0)).get? s.heap.objs.size=some (seqObj "list" us.toArray 0):=O7 _ rfl
 have I1:Inv X aa σ H { s with heap:=s.heap.push (seqObj "list" us.toArray 0),toks:=s.toks }:=I.kept λb o e=>OX _ e
 have Ha:H s.heap.objs.size=none:=I.hok.fresh (OT _)
 obtain ⟨f0,f1,f2,f3,f4,f5⟩:=I.jh (H':=H) (OT _) Ha
 have pL:=lH hr hv
 refine OQ (Qx (wpAny_call_entry_kw slot_list_sort ⟨_,ha,rfl⟩ entry_list_sort (by
  rw [hkw]
  refine SR.n6 (κ:=κ) (rk:=SR.yz (λx u=>j7 X.K Hf (enc x) u) lt L) (b:=b) ha ?_ hz λout hp ho=>⟨_,rfl,?_⟩
  ·intro h' k
   have I2:=I1.turned (h':=h') (t':=s.toks) (it:=s.heap.objs.size) (λb o hb e=>k b o hb e) f0 f1 f3 f4 f5
   refine ⟨λQ E h2 hQ=>hs.kind _ _ _ _ _ _ _ I2 sb _ pL h2 _ hQ,SR.BC (λx y u h1 h2=>hs.inj _ _ _ _ _ I2 sb x y u h1 h2) hs.lin pL λx _ y _ u v hx hy E Q hQ=>hs.cmp _ _ _ _ _ _ _ I2 sb ?_ _ _ _ _ hx hy _ hQ⟩
   show A.units+1+10<cLine
   lia
  ·obtain ⟨L',p1,p2,p3⟩:=SR.rR (S:=λx u=>j7 X.K Hf (enc x) u) (λx y u h1 h2=>hs.inj _ _ _ _ _ I sb x y u h1 h2) hs.lin nd pL hp ho
   obtain ⟨xs',r',v'⟩:=lI p3
   obtain ⟨e,he⟩:=sortedHeap_at (vs:=us) (out:=out) ha
   have hl:out.toList.length=us.length:=hp.length_eq
   refine OS ⟨_,rfl,hQ L' xs' _ p1 p2 r' ?_ ?_⟩
   ·have:=v'.length; lia
   ·refine I.laid (t':=s.toks) (λb o q=>?_) (OT _) ⟨by have:=v'.length; lia,out.toList,e,v',by simpa using he⟩
    have lt:=OZ q
    rw [sortedHeap_old (Px lt) (by rw [size_push']; exact Vl lt)]
    exact OX _ q) (hka _)))
end
theorem mX:argsOk "sorted" ⟨[a],[]⟩:=by unfold argsOk; kernel_rfl
theorem args_list_sort_1:argsOk "list.sort" ⟨[a],[]⟩:=by unfold argsOk; kernel_rfl
section
variable {K:OR}
end
section
variable {K:OR}
end
section
variable {K:OR}
theorem E9 {st:List Stmt} (i) (hi:At ρ i r) (hr:r.mV=some d0) (hs:SSet ρ i (.va d0) ρ') (h:aH c st ρ' nx p):aH c st ρ nx p:=λσ H Hf D S o=>by
 obtain ⟨q,u,hq,vo,hd,S1⟩:=S.wA hi.get hr
 intro aa s I
 obtain ⟨ob,I1,nf⟩:=wz I hq hd
 have S2:=S1 ob
 rw [<- hs.eq] at S2
 exact h σ _ _ D S2 o aa s I1
theorem Jv (h:aJ c e ρ (I1 λi=>T (i != 0))) (he:∀ (env:Env) whole,isTrue e env whole=(do let v <- whole; standAt e.pos; holding [v] (truthy v)):=by intro _ _; walk_at "u"):gX c e ρ T:=λσ H Hf Q S q =>
 kL (zU cG (he _)) (h σ H Hf _ S λx v H' aj ⟨k,e,h1⟩ r g=>by
  subst e; rw [au] at r
  subst r
  exact ⟨_,rfl,q _ H' aj h1 g⟩)
end
theorem Fb
 (hx:s.heap.get? a=some o) (hc:o.cls=.type "list") (hdat:o.data=.seq xs k) (hd:o.dict=none) (hA:A.handled=none)
 (h:∀ h' tk,(∀ b ob,s.heap.get? b=some ob->h'.get? b=some ob)->Q none { s with heap:=h',toks:=tk }):wpAny (model prog w) A (getAttr? (.ref a) "keys") Q E s:=by
 obtain ⟨c,dct,dat,sl⟩:=o
 simp only at hc hdat hd
 subst hc hdat hd
 obtain ⟨hp,g,d,tk,os⟩:=s
 have hT:∀ tk',(⟨hp,g,d,tk',os⟩:Shared).TypeIs (.ref a) "list":=λ_=>⟨_,hx,rfl⟩
 have hmiss:typeLookup (.type "list") "keys"=pure none:=am_miss_of_fast (by decide +kernel)
 have f1:=sub_AttributeError
 have f3:=UM.lookup
 have f4:=UM.bind (.ref a)
 have f5:=am_list_getattr_none
 unfold getAttr? getAttrBy? getAttrBy
 repeat (any_goals (first | assumption | exact hT _ | ((with_reducible show wpAny _ _ (call (Value.builtin "list.__getattribute__") _ _) _ _ _); refine Ss UM (hT _) am_entry_list_getattribute (F.args_list_getattribute_2 _ _) (meets_getattribute_miss_list a xs k sl "keys" _ hmiss (by decide) (by decide)) ⟨hx,hA,λh' tk' e hx'=>?_⟩) | wp_step))
 obtain ⟨t',u',he⟩:=hx'.there
 show wpAny _ _ (getattributeRaised _ _ _ _ _ _ _) _ _ _
 unfold getattributeRaised
 repeat (any_goals (first | assumption | wp_step))
 exact h h' tk' hx'.of.keeps
theorem gu:entryFor table "dict.update.loop"=some Builtin.«dict.update.loop» :=entryFor_of_tree (by kernel_rfl)
theorem cM:plainId "dict.update.loop"=true:=by decide +kernel
theorem lT (kvs ps) (k) (v):cB kvs (ps++[(k,v)])=putK (cB kvs ps) k v:=by unfold cB; rw [Sb]; rfl
section
variable {X:Cx}
noncomputable def xw (K:OR) (H:Hp):List V->List (Key×V)->Prop:=Paired λy kv=>∃ t,y=.ref t/\cU K H t [kV kv.1,kv.2]
theorem pair_items (h:s.heap.IsTuple t #[u,v]) (hQ:Q [u,v] s):wpAny (model X.prog X.w) A (Builtin.Dict.pairItems (.ref t)) Q E s:=by
 obtain ⟨⟨c,dct,dat,sl⟩,ho,hc,n,hd⟩:=h
 simp only at hc hd
 subst hc hd
 obtain ⟨hp,g,dd,tk,os⟩:=s
 have hT:(⟨hp,g,dd,tk,os⟩:Shared).TypeIs (.ref t) "tuple":=⟨_,ho,rfl⟩
 unfold Builtin.Dict.pairItems
 repeat (any_goals (first | assumption | wp_step))
theorem yZ (hc:X.calm=true) (okX:X.Ok) (h1:X.A.in1.handled=none) (hl:fQ X.K H l ys) (hp:xw X.K H ys ps) (hd:H d=none) (hid:it≠d) (hz:ps.length<=sizeLine)
 (fin:∀ s',Inv X aa σ (upd H d (.dK (cB [] ps))) s'->R (.ok (.ret .none)) s') :
 ∀ (k i:Nat) (s:Shared) (tok:Tok),ps.length - i=k->i<=ps.length->Inv X aa σ (upd H d (.dK (cB [] (ps.take i)))) s->s.heap.IsListIter it l i->d8 X aa H it ->
  codeAny (model X.prog X.w) X.A (.builtin "dict.update.loop" ⟨[.ref d,.ref it,.int i tok,.none],[]⟩) R s:=by
 have sd:∀ o:HO,aN H (upd H d o):=λo b q e=>by rw [ai (aD e hd)]; exact e
 have elen:=Qf hp
 intro k
 induction k with
 | zero =>
  intro i s tok hk hi I st hf
  have e:i=ps.length:=by omega
  subst e
  rw [Qo] at I
  obtain ⟨its,rv,p,_⟩:=I.list ((sd _).seq hl)
  have hlen:=rv.length
  obtain ⟨f0,f1,f2,f3,f4,f5⟩:=hf
  have f0':upd H d (.dK (cB [] ps)) it=none:=by rw [ai hid]; exact f0
  refine Si gu ?_
  rw [R7 cM _]
  show wpAny _ X.A.in1 (pyNext (.ref it) >>= _) _ _ s
  refine OQ (wpAny_pyNext_list_end h1 st p.isList (by simp; omega) λh' eb=>?_)
  exact OQ (OS (OS (fin _ (I.turned (t':=s.toks) (λb o hb e=>eb b o hb e) f0' f1 f3 f4 f5))))
 | succ k ih =>
  intro i s tok hk hi I st hf
  have lt:i<ps.length:=by omega
  obtain ⟨its,rv,p,_⟩:=I.list ((sd _).seq hl)
  have hlen:=rv.length
  have f':=hf
  obtain ⟨f0,f1,f2,f3,f4,f5⟩:=hf
  have f0':upd H d (.dK (cB [] (ps.take i))) it=none:=by rw [ai hid]; exact f0
  have hiy:i<ys.length:=by omega
  obtain ⟨kv,ekv,t,ey,ht⟩:=dH hp (Pk hiy)
  obtain ⟨u,hu,ru⟩:=rv.get (Pk hiy)
  rw [ey] at ru
  cases ru
  refine Si gu ?_
  rw [R7 cM _]
  show wpAny _ X.A.in1 (pyNext (.ref it) >>= _) _ _ s
  refine OQ (wpAny_pyNext_list_item st p.isList (x:=.ref t) (by simpa using hu) λh' st' sb=>?_)
  have I1:Inv X aa σ (upd H d (.dK (cB [] (ps.take i)))) { s with heap:=h' }:=I.turned (t':=s.toks) (λb o hb e=>(sb.2 b hb).trans e) f0' f1 f3 f4 f5
  obtain ⟨us,r2,t2,_⟩:=I1.tuple (az (sd _) ht)
  cases r2 with
  | cons rk r2 =>
   obtain ⟨uv,rfl,rvv⟩:=Vals.one r2
   rename_i uk _
   dsimp only
   refine OQ (Qx (OQ (wpAny_tryCatch (pair_items t2 ?_))))
   dsimp only
   refine Qx ?_
   have ed:upd H d (.dK (cB [] (ps.take i))) d=some (.dK (cB [] (ps.take i))):=af
   obtain ⟨z,hdm,vs,rel,dd⟩:=Ag I1.hok ed
   have hzv:vs.length<=sizeLine:=by rw [<- rel.length]; exact z
   have hl2:=gR (ps.take i++[(kv.1,kv.2)]) []
   rw [lT,Pr,PZ,SD,QK] at hl2
   refine wpAny_dictSet_pairs (kI rk) dd (λh2 dd2 hs=>?_) hzv
   have he:∃ q,h2.get? d=some q:=let ⟨q,_,_,hq,_⟩:=dd2; ⟨q,hq⟩
   have I2:=o8 (t':=s.toks+1) I1 (by rw [ed]; exact RN) hs he (Ah (by omega) hdm (rel.put kv.1 rvv) dd2)
   rw [oQ,<- lT] at I2
   have ekv':ps.take (i+1)=ps.take i++[(kv.1,kv.2)]:=by
    obtain ⟨hk1,e1⟩:=O6.mp ekv
    rw [QE hk1,e1]
   rw [<- ekv'] at I2
   refine OS ⟨S6 cM _,ih (i+1) _ _ (by omega) lt I2 ?_ f'⟩
   exact st'.at λo e=>(hs.2 it hid).trans e
theorem uR (hc:X.calm=true):fR X (.type "dict") (λxs H Q=>∃ (l:Addr) (ys:List V) (ps:List (Key×V)),xs=[.ref l]/\fQ X.K H l ys/\xw X.K H ys ps/\ps.length<=sizeLine/\∀ d,H d=none->Q (.ref d) (upd H d (.dK (cB [] ps)))):=by
 intro aa s σ H xs us Q I r ⟨l,ys,ps,e,hl,hp,hz,q⟩
 subst e
 obtain ⟨u,rfl,rx⟩:=vals1 r
 cases rx
 have hd:H s.heap.objs.size=none:=I.hok.fresh (OT _)
 have h1:X.A.in1.handled=none:=I.ok.hd hc
 refine callType_codes (Q₁:=λobj s₁=>obj=.ref s.heap.objs.size/\s₁={ s with heap:=s.heap.push { cls:=.type "dict",data:=.dict #[] } }) F.kt_called_dict (F.kt_typeCall_dict_1 _) F.entry_dict_init (kt_code_dict_new _ ⟨rfl,rfl⟩) ?_
 rintro obj s₁ ⟨rfl,rfl⟩
 have hnew:(s.heap.push { cls:=.type "dict",data:=.dict #[] }).DictOf (bK X.prog X.w) s.heap.objs.size []:=Heap.DictOf.new s.heap
 refine ⟨hnew.typeIs,F.args_dict_init_2 _ _,?_⟩
 have I1:=I.laid (a:=s.heap.objs.size) (o:=.dK []) (h':=s.heap.push { cls:=.type "dict",data:=.dict #[] }) (t':=s.toks) (λ_ _ q=>OX _ q) (OT _) (qO s.heap I.big)
 clear hnew
 generalize s.heap.objs.size=d at *
 generalize ({ s with heap:=s.heap.push { cls:=.type "dict",data:=.dict #[] } }:Shared)=s1 at *
 obtain ⟨_,hdm,vs,rel,dd⟩:=Ag I1.hok af
 have sd:aN H (upd H d (.dK [])):=λb q e=>by rw [ai (aD e hd)]; exact e
 obtain ⟨its,rv,p,_⟩:=I1.list (sd.seq hl)
 obtain ⟨o,n,p1,p2,p3,p4⟩:=id p
 unfold Builtin.«dict.__init__»
 refine OQ ?_
 unfold Builtin.Dict.selfAndRest
 refine OQ (wpAny_notOrdered_dict dd.typeIs ?_)
 show wpAny _ _ (pure (d,[Po l])) _ _ _
 refine OS ?_
 show wpAny _ _ (Builtin.Dict.updateFrom "dict.__init__" d (.ref l) [] .none) _ _ _
 unfold Builtin.Dict.updateFrom
 refine OQ (Rq (T:="list") ⟨o,p1,p2⟩ ?_)
 rw [if_pos (by decide)]
 refine OQ (Fb p1 p2 p4 p3 h1 λh' tk keep=>?_)
 have I2:Inv X aa σ (upd H d (.dK [])) { s1 with heap:=h',toks:=tk }:=I1.kept (t':=tk) keep
 obtain ⟨its2,MF,pp2,_⟩:=I2.list (sd.seq hl)
 rw [if_pos (by rfl)]
 refine OQ (Qg ?_)
 refine OQ (SM pp2.isList ?_)
 have h2:X.A.in1.frames=some X.stack:=I.ok.frames
 have I3:Inv X aa σ (upd H d (.dK [])) { s1 with heap:=h'.push { cls:=.type "list_iterator",data:=.fields #[.ref l,.int 0 0] },toks:=tk }:=I2.kept (t':=tk) λb o e=>OX _ e
 have hn:(upd H d (.dK [])) h'.objs.size=none:=I2.hok.fresh (OT _)
 have hid:h'.objs.size≠d:=λe=>by rw [e,af] at hn; cases hn
 have hn':H h'.objs.size=none:=by rw [ai hid] at hn; exact hn
 have ff:d8 X aa H h'.objs.size:=I2.jh (OT _) hn'
 refine OS ⟨S6 cM _,?_⟩
 exact yZ (X:=EK X X.A.in1) hc (GH I.ok (λ_=>h1) h2) h1 hl hp hd hid hz (λs' I'=>⟨rfl,.ref d,_,fh I.ok I',rfl,q d hd⟩) ps.length 0 _ _ (by simp) (PK _) (ju I3 (λ_=>h1) h2) ⟨_,O7 _ rfl,rfl,rfl⟩ ff
end
noncomputable def MR (kv:Key×D):D:=.tup [rm kv.1,kv.2]
noncomputable def jA (kvs ps:List (Key×D)):List (Key×D):=ps.foldl (λacc kv=>putD acc kv.1 kv.2) kvs
section
variable {K:OR} {c:Ctx P w K mg base k N sc bk}
theorem Fc (h:Rep K Hf (rm kk) v):v=kV kk:=by
 cases kk with
 | inl i=>exact au.mp h
 | inr s=>exact dR.mp h
theorem Cm (sb:aN Hf H):∀ {ps:List (Key×D)} {ys:List V},aq K Hf (ps.map MR) ys->∃ qs:List (Key×V),xw K H ys qs/\gW K Hf ps qs
 | [],_,h=>by
  rw [Rh,aF] at h; subst h
  exact ⟨[],.nil,.nil⟩
 | p::ps,_,h=>by
  rw [O4,aG] at h
  obtain ⟨x,r,rfl,h1,h2⟩:=h
  obtain ⟨qs,a1,a2⟩:=Cm sb h2
  obtain ⟨t,zs,rfl,h3,h4⟩:=aO.mp h1
  obtain ⟨v,v',rfl,h5,h6⟩:=Lu h4
  rw [Fc h5] at h3
  exact ⟨(p.1,v')::qs,.cons ⟨t,rfl,az sb h3⟩ a1,.cons ⟨rfl,h6⟩ a2⟩
theorem y9:∀ {ps:List (Key×D)} {qs:List (Key×V)} {kvs:List (Key×D)} {xs:List (Key×V)},gW K Hf ps qs->gW K Hf kvs xs->gW K Hf (jA kvs ps) (cB xs qs):=by
 intro ps qs kvs xs r
 unfold gW at r
 induction r generalizing kvs xs with
 | nil=>intro q; exact q
 | @cons p q ps qs h t ih =>
  intro r0
  have e:gW K Hf (putD kvs p.1 p.2) (putK xs q.1 q.2):=by rw [<- h.1]; exact r0.put p.1 h.2
  exact ih e
theorem uS:Ls K (λxs H Q=>∃ (l:Addr) (ys:List V) (ps:List (Key×V)),xs=[.ref l]/\fQ K H l ys/\xw K H ys ps/\ps.length<=sizeLine/\∀ d,H d=none->Q (.ref d) (upd H d (.dK (cB [] ps)))) (λds R=>∃ kps:List (Key×D),ds=[.lst (kps.map MR)]/\Sd (kps.length<=sizeLine) (R (.oK (jA [] kps)))):=by
 rintro ds vs H Hf Q R s rs ⟨kps,rfl,⟨hz,hR⟩⟩ q
 obtain ⟨v,rfl,rv⟩:=kO rs
 obtain ⟨l,ys,rfl,h1,h2⟩:=br.mp rv
 obtain ⟨qs,a1,a2⟩:=Cm s h2
 refine ⟨l,ys,qs,rfl,s.seq h1,a1,by rw [<- Qf a2]; exact hz,λd hd=>?_⟩
 have g2:=bw.fU s hd (o:=.dK (cB [] qs))
 exact q _ _ _ _ hR ⟨d,_,rfl,hd,af,s.free hd,y9 a2 .nil⟩ g2
theorem Fd (hm:mg "dict"=none) (h:aJ c e ρ λd=>∃ kps:List (Key×D),d=.lst (kps.map MR)/\Sd (kps.length<=sizeLine) (R (.oK (jA [] kps)))) (hg:sc.names.lookup (OP "dict")=some .globalImplicit:=by walk_at "u")
 (he:∀ env,starEach [e] env=(false,eval e env)::starEach [] env:=by intro _; walk_at "u"):dP c (.Call (.Name "dict" np) [e] [] pos) ρ R :=
 Gr (uR c.calm) uS hm (by decide +kernel) (eE (h.imp λd ⟨kps,e,hd⟩=>jL ⟨kps,by rw [e],hd⟩) he) hg (by decide) (by decide) he (by intro _; walk_at "u")
theorem Jw (hN:At N i y) (hi:At ρ i r) (hr:r.getL=some (ds++[d])) (hNz:At N m z) (h:Nx ρ i (λρ1=>Nx ρ1 m nx (.va d)) (r.putL ds))
 (hs:∀ env,swapsWith (.Call (.Attribute (.Name y px) "pop" ap) [] [] cp) (some (.Name z pos2)) pos.line env=pure false:=by intro _; walk_at "u") (hd:(y == ("__debug__":Str))=false:=by decide) (hcd:(y == ("__classdict__":Str))=false:=by decide)
 (hbase:∀ env,attributeBase (.Name y px) "pop" env (eval (.Name y px) env)=eval (.Name y px) env:=by intro _; walk_at "u")
 (hline:(ap.endLine == cp.line)=true:=by walk_at "u") (hf:bk=false\/sc.names.lookup z=some .local:=by first | exact .inl rfl | exact .inr (by walk_at "u")) :
 fX c (.Assign [.Name z pos2] (.Call (.Attribute (.Name y px) "pop" ap) [] [] cp) pos) ρ nx p:=λσ H Hf D S o=>by
 obtain ⟨q,eq,rq⟩:=S.own hi.get (bq hr)
 obtain ⟨xs,h1,h2,h3⟩:=yk hr rq
 obtain ⟨ρ1,hs1,ρ2,hs2,hn⟩:=h
 have hl:=h3.length
 rw [Pr,SD] at hl
 obtain ⟨v,hv,rv⟩:=h3.get (i:=ds.length) (d:=d) (by rw [Rx (OT _),Nat.sub_self]; rfl)
 refine cW (zO (X:=c.X) (i:=m) (by rw [c.eN]; exact c.nd) (by rw [c.eN]; exact hNz.get) (by rw [c.esc]; exact c.vis z hNz.mem) (tZ TQ PySem.F.slot_list_pop PySem.F.type_list_pop Ae (c.iK hN hd hcd) (hbase _) hline) (hs _) (c.fn z hf)) ⟨_,eq,.inl ⟨rfl,xs,.inl (.inl h1)⟩,?_⟩
 refine ⟨q,xs,v,rfl,rfl,h1,by rw [show xs.length - 1=ds.length by omega]; exact hv,?_⟩
 have h4:=h3.dropLast
 rw [List.dropLast_concat] at h4
 have S1:=S.upd hi.get (bq hr) eq (dU S.sb h2) (eY hr rq af h2 h4) (cR hr)
 rw [<- hs1.eq] at S1
 refine o.nx _ _ Hf ρ2 ?_ hn
 rw [hs2.eq]
 exact S1.set (.refl S1.sb) (r:=.va d) rv
noncomputable def Jx:V->List V->Hp->VK->Prop:=λx vs H Q=>∃ l xs y,∃ k:Nat,x=.ref l/\vs=[.int k,y]/\H l=some (.lst xs)/\k<=xs.length/\xs.length<sizeLine/\Q .non (upd H l (.lst (xs.take k++y::xs.drop k)))
theorem Vals.GP (h:Vals xs us) (k):Vals (xs.take k) (us.take k)/\Vals (xs.drop k) (us.drop k):=by
 induction h generalizing k with
 | nil=>simp only [List.take_nil,List.drop_nil]; exact ⟨.nil,.nil⟩
 | cons r t ih =>
  cases k with
  | zero=>exact ⟨.nil,.cons r t⟩
  | succ k=>exact ⟨.cons r (ih k).1,(ih k).2⟩
theorem Cn {i:Int} (h:0<=i) (g:i<2 ^ 62):UG i=true:=by
 unfold UG
 rw [decide_eq_true (by lia),decide_eq_true (by lia)]; rfl
theorem Co:ND X "list.insert" Jx:=by
 intro aa s σ H x vs v us Q I rx rv h
 obtain ⟨l,xs,y,k,rfl,rfl,hH,hk,hz,q⟩:=h
 cases rx
 cases rv with
 | cons r0 rv =>
  obtain ⟨t,rfl⟩:=r0
  obtain ⟨u,rfl,ru⟩:=Vals.one rv
  obtain ⟨w,its,n,r,hl,e⟩:=I.oZ hH
  have hlen:=r.length
  have hfit:¬ (!Builtin.List.listFitsIndex (k:Int))=true:=by
   have hk2:(k:Int)<16777217:=by
    rw [Ri] at hz
    lia
   have h1:UG (k:Int)=true:=Cn (Vb _) (Int.lt_trans hk2 (by decide))
   rw [h1]; decide
  have hsz:its.toArray.size<=sizeLine:=by rw [Pg,<- hlen]; exact QC hz
  generalize hK:(k:Int)=K at hfit |-
  refine Ss F.slot_list_insert ⟨_,e,rfl⟩ F.entry_list_insert (F.args_list_insert_3 _ _ _) (PySem.AutoSeq1.list_insert_list_int_val_1 l its.toArray n K t u hfit hsz) ⟨e,?_⟩
  subst hK
  refine ⟨.non,_,I.t8 (its':=its.take k++u::its.drop k) hH e ?_ ((Vals.GP r k).1.append (.cons ru (Vals.GP r k).2)) ?_,rfl,q⟩
  ·have hki:((k:Int).toNat)=k:=P6 k
   have hm:min k its.length=k:=SQ (by omega)
   simp only [show ¬ ((k:Int)<0) by omega,if_false,hki,Pg,hm]
   simp
   exact SA (by rw [Sf]; omega)
  ·rw [Pr,Pu,PZ,Sf]
   have:min k xs.length+(xs.length - k+1)=xs.length+1:=by omega
   rw [this]; exact hz
theorem Jy (hN:At N i y) (hi:At ρ i r) (hr:r.getL=some ds) (h:aJ c a ρ λd1=>aJ c b ρ λd2=>∃ k:Nat,d1=.int k/\k<=ds.length/\Sd (ds.length<sizeLine) (Nx ρ i nx (r.putL (ds.take k++d2::ds.drop k))))
 (hs:∀ env,swapsWith (.Call (.Attribute (.Name y px) "insert" ap) [a,b] [] cp) none pos.line env=pure false:=by intro _; walk_at "u") (hd:(y == ("__debug__":Str))=false:=by decide) (hcd:(y == ("__classdict__":Str))=false:=by decide)
 (hbase:∀ env,attributeBase (.Name y px) "insert" env (eval (.Name y px) env)=eval (.Name y px) env:=by intro _; walk_at "u")
 (hfew:∀ env,((backTo cp (starEach [a,b] env)).all (λx=> !x.1) && (backToKw cp (keywordEach [] env)).all (λx=>x.1.isSome)
   && decide (([a,b]:List Expr).length+([]:List Keyword).length+(if ([]:List Keyword).isEmpty then 0 else 1)<30))=true:=by intro _; walk_at "u")
 (hline:(ap.endLine == cp.line)=true:=by walk_at "u") (he0:∀ env,starEach [a,b] env=(false,eval a env)::starEach [b] env:=by intro _; walk_at "u") (he:∀ env,starEach [b] env=(false,eval b env)::starEach [] env:=by intro _; walk_at "u") (hpl:∀ env,(backTo cp (starEach [b] env)).any (·.1)=false:=by intro _; walk_at "u") :
 fX c (.Expr (.Call (.Attribute (.Name y px) "insert" ap) [a,b] [] cp) pos) ρ nx p:=λσ H Hf D S o=>by
 obtain ⟨q,eq,rq⟩:=S.own hi.get (bq hr)
 obtain ⟨xs,h1,h2,h3⟩:=yk hr rq
 refine cW (iG (Gh TQ PySem.F.slot_list_insert PySem.F.type_list_insert Co (c.iK hN hd hcd) (bD cG (bD cG dh (he _)) (he0 _)) (hbase _) (hfew _) hline (he0 _) (hpl _)) (hs _)) ⟨_,eq,.inl ⟨rfl,xs,.inl (.inl h1)⟩,?_⟩
 refine h σ H Hf _ S λd1 v1 H1 aV hb rd1 g1=>hb σ H1 aV _ (S.cC g1) λd v H' aj ⟨k,e1,hk,hz,ρ',hs',hn⟩ rd g2=>?_
 subst e1
 rw [au] at rd1
 subst rd1
 have g:=g1.trans g2
 have S':=S.cC g
 have e1:H' q=some (.lst xs):=g.s _ _ h1
 have e2:aj q=none:=g.n q h2 (by rw [h1]; simp) (by intro ys; rw [h1]; simp)
 refine ⟨q,xs,v,k,rfl,rfl,e1,by rw [<- h3.length]; exact hk,by rw [<- h3.length]; exact hz,?_⟩
 refine o.nx _ _ aj ρ' ?_ hn
 rw [hs'.eq]
 have rq':=rq.cC g
 have h3':=h3.mono g.f
 exact S'.upd hi.get (bq hr) eq (dU g.b e2) (eY hr rq' af e2 ((h3'.take k).append (.cons rd (h3'.drop k)))) (cR hr)
theorem Cp (L):LZ X D.int ltI oneType' L :=
 ⟨(iV (X:=X)).lin L,λa b c d e I sb x y u h1 h2=>iV.inj a b c d e I sb x y u h1 h2,λa b c d e f g I sb us p h2 Q hQ=>iV.kind a b c d e f g I sb L us p h2 Q hQ,λa b c d e f g I sb hA x y u v hx hy Q hQ=>iV.cmp a b c d e f g I sb hA x y u v hx hy Q hQ⟩
theorem p6 (hc:X.calm=true) (I:Inv X aa σ H s) (sb:aN Hf H) (hA:X.A.units+60<cLine) (hH:Hf d=some (.frz o (.dK ys))) (hk:ys.map (·.1)=ns.map Pd) (nd:ns.Nodup)
 (hQ:∀ (L':List Int) (xs':List V) (s':Shared) (H' aj:Hp) (a:Addr),L'.Perm ns->gn ltI false L'->aq X.K aj (L'.map D.int) xs'->bw H Hf H' aj->H' a=none->Inv X aa σ (upd H' a (.lst xs')) s'->Q (.ref a) s') :
 wpAny (model X.prog X.w) X.A (call (.builtin "sorted") [.ref d]) Q E s:=by
 refine call_function_entry Uy Uq Us mX ?_
 unfold Builtin.«sorted»
 refine OQ (m:=checkCount "sorted" 1 1 _) (OS ?_)
 have h1:X.A.in1.handled=none:=I.ok.hd hc
 have h2:X.A.in1.frames=some X.stack:=I.ok.frames
 obtain ⟨vs,es,ep,e1,kv,da,hs,hz⟩:=j8 I (sb _ _ hH)
 have hl:ys.length=vs.length:=Qf kv
 have hn:(ns.map D.int).length=ys.length:=by have:=congrArg So hk; simp only [OW] at this |-; lia
 refine OQ (ig (X:=EK X X.A.in1) (H:=H) (Hf:=Hf) (ds:=ns.map D.int) (T:="dict") hc h1 h2 (ju I (λ_=>h1) h2) sb da.lt_size (by lia) (by decide) (λs' k=>(da.keep k).dictOf.typeIs) (λA s' Q E q h=>ou q h) (λA s1 H1 E I1 sb1 k1=>?_) λus s' H' aj xs I' rv rr g hz'=>?_)
 ·refine wpAny_pyIter_dict hs (da.keep k1) ?_
  refine ⟨_,_,_,rfl,OT _,I1.kept (t':=s1.toks) λb o e=>OX _ e,om e1,⟨_,O7 _ rfl,rfl,?_⟩,λb hb=>?_,λb o e=>OX _ e,oq hH hk⟩
  ·rw [hl]; rfl
  ·obtain rfl:b=s1.heap.objs.size:=Pa.mp hb
   exact I1.jh (OT _) (I1.hok.fresh (OT _))
 ·have I2:=fh I.ok I'
  have el:=rr.length
  have el2:=rv.length
  refine yY (b:=false) (Cp ns) I2 g.b ?_ rr rv (by lia) nd (λ_=>rfl) (λ_=>args_list_sort_1) λL' xs' s2 p1 p2 p3 p4 I3=>hQ L' xs' s2 H' aj _ p1 p2 p3 g (I2.hok.fresh (OT _)) I3
  show X.A.units+1+20<cLine
  lia
theorem Cq (hm:mg "sorted"=none) (h:aJ c e ρ λd=>∃ (ns:List Int) (ds:List D),d=.fdK (ns.map Pd) ds/\Sd ns.Nodup (∀ L':List Int,L'.Perm ns->gn ltI false L'->R (.ow (L'.map D.int))))
 (hg:sc.names.lookup (OP "sorted")=some .globalImplicit:=by walk_at "u")
 (he:∀ env,starEach [e] env=(false,eval e env)::starEach [] env:=by intro _; walk_at "u")
 (hpl:∀ env,(backTo pos (starEach [] env)).any (·.1)=false:=by intro _; walk_at "u") :
 dP c (.Call (.Name "sorted" np) [e] [] pos) ρ R:=λσ H Hf Q S q aa s I=>by
 have hgl:Gl c.X "sorted":=by unfold Gl P8; rw [c.esc]; exact hg
 refine Q8 (d7 I hgl (by rw [c.emg]; exact hm) (show bootBuiltins "sorted"=some (.builtin "sorted") by decide +kernel) ?_ (by decide) (by decide))
 have hpa:=bD (X:=c.X) (e:=e) (es:=[]) cG dh (he _)
 refine VG (bJ (hpa pos aa s σ H (λvs H1=>∃ x,vs=[x]/\∃ (ns:List Int) (ds:List D) (aV:Hp),Rep c.X.K aV (.fdK (ns.map Pd) ds) x/\ns.Nodup/\bw H Hf H1 aV/\∀ L':List Int,L'.Perm ns->gn ltI false L'->R (.ow (L'.map D.int))) I ?_) λus s1 hh=>z2 hh λvs H1 hh=>w3 hh λI1 r1 hh=>hh.elim λx hh=>w2 hh λex hh=>z3 hh λns ds aV hh=>w4 hh λe1 e7 e8 e9=>?_) (he _) (hpl _)
 ·exact h σ H Hf _ S λd v H1 aV ⟨ns,ds,hp,⟨hn,hR⟩⟩ rv g=>⟨_,rfl,ns,ds,aV,by rw [<- hp]; exact rv,hn,g,hR⟩
 ·subst ex
  obtain ⟨a0,ys,o,rfl,hs,hk,hr⟩:=fC.mp e1
  have eu:us=[.ref a0]:=by
   cases r1 with
   | cons q1 q2=>cases q2; cases q1; rfl
  subst eu
  refine p6 c.calm I1 e8.b ?_ hs hk e7 λL' xs' s' H' aj a p1 p2 p3 g na I3=>?_
  ·have:=c.room.un
   lia
  ·have gg:=e8.trans g
   exact ⟨.ref a,_,I3,rfl,q (.ow (L'.map D.int)) _ _ aj (e9 L' p1 p2) ⟨a,xs',rfl,gg.s.free na,af,g.b.free na,p3⟩ (gg.trans (bw.fU g.b na))⟩
end
noncomputable abbrev Jz:=List (Key×D)->List D->List D->(List (Key×D)->List D->Prop)->Prop
noncomputable def za (K:OR) (F:Jz):Sp:=λvs H Q _=>∃ Hf p q kvs xs ls ys us ds B,vs=.ref p::.ref q::us/\aN Hf H/\(H p=some (.dK xs)/\Hf p=none/\gW K Hf kvs xs)/\(H q=some (.lst ys)/\Hf q=none/\aq K Hf ls ys)/\aq K Hf ds us/\F kvs ls ds B /\
 ∀ kvs' ls' H' aj xs' ys',B kvs' ls'->bw (del (del H p) q) Hf H' aj->(H' p=some (.dK xs')/\aj p=none/\gW K aj kvs' xs')->(H' q=some (.lst ys')/\aj q=none/\aq K aj ls' ys')->Q .non H'
structure Cr (P:Program) (w:World) (K:OR) (mg:Str->Option Value) (base:Heap) (k:Nat) (x:Str) (F:Jz):Prop where
 ex:∃ f fd ps,mg x=some (.ref f)/\QY K (.ref f)=true/\Binds K fd ps []/\bh P w K mg base (cV P w) k f fd ps (za K F)
noncomputable def dY (p:Addr) (kvs:List (Key×D)) (q:Addr) (ls:List D) (N:List Str) (ds:List D):List Sl:=.aK p kvs::.aw q ls::(ds.map .va++Pq (N.length - (ds.length+2)) .un)
theorem uT {K:OR} (r:aq K Hf ds us) (sb:aN Hf H) (h1:H p=some (.dK xs)) (h2:Hf p=none) (h3:gW K Hf kvs xs) (k1:H q=some (.lst ys)) (k2:Hf q=none) (k3:aq K Hf ls ys) :
 d9 K (del (del H p) q) Hf (L2.start N (.ref p::.ref q::us)) H Hf (dY p kvs q ls N ds):=by
 have hl:=r.length
 have hpq:p≠q:=λe=>by rw [e,k1] at h1; cases h1
 have rest:∀ (i:Nat) (r':Sl),(dY p kvs q ls N ds)[i+2]?=some r'->r'≠.un->∃ d,ds[i]?=some d/\r'=.va d:=λi r' h hu=>by
  have h':(ds.map Sl.va++Pq (N.length - (ds.length+2)) Sl.un)[i]?=some r':=by simpa [dY] using h
  by_cases w:i<ds.length
  ·rw [Q4 (by simpa using w),O8,Pk w] at h'
   cases h'
   exact ⟨_,by simp,rfl⟩
  ·rw [Rx (by simp; lia)] at h'
   exact absurd (TL (QG h')) hu
 refine ⟨⟨λb o e=>(dF (dF e).2).2,.refl _,sb,λ_ h _ _=>h⟩,by simp [L2.start,dY,hl],λi r' h hu=>?_,λi j r1 r2 p' hne e1 e2 o1 o2=>?_⟩
 ·match i,h with
  | 0,h =>
   have:r'=.aK p kvs:=by simpa [dY] using h.symm
   subst this
   exact ⟨.ref p,by simp [L2.start],p,xs,rfl,⟨by show del (del H p) q p=none; rw [bN hpq,eX],rfl⟩,h1,h2,h3⟩
  | 1,h =>
   have:r'=.aw q ls:=by simpa [dY] using h.symm
   subst this
   exact ⟨.ref q,by simp [L2.start],q,ys,rfl,⟨eX,rfl⟩,k1,k2,k3⟩
  | i+2,h =>
   obtain ⟨d,hd,rfl⟩:=rest i r' h hu
   obtain ⟨x,e2,rx⟩:=r.get hd
   refine ⟨x,?_,rx⟩
   have hi:i<us.length:=(O6.mp e2).1
   unfold L2.start
   rw [Q4 (by simp; lia)]
   simp [e2]
 ·have own:∀ {i:Nat} {r:Sl},(dY p kvs q ls N ds)[i]?=some r->r.owned=true->i=0\/i=1:=λ{i r} h ho=>by
   match i,h with
   | 0,_=>exact .inl rfl
   | 1,_=>exact .inr rfl
   | i+2,h =>
    obtain ⟨d,_,rfl⟩:=rest i r h (by rintro rfl; cases ho)
    cases ho
  have g0:(L2.start N (.ref p::.ref q::us))[0]?=some (some (.ref p)):=by simp [L2.start]
  have g1:(L2.start N (.ref p::.ref q::us))[1]?=some (some (.ref q)):=by simp [L2.start]
  intro s1 s2
  rcases own e1 o1 with rfl | rfl <;> rcases own e2 o2 with rfl | rfl
  ·exact hne rfl
  ·rw [g0] at s1; rw [g1] at s2; cases s1; cases s2; exact hpq rfl
  ·rw [g1] at s1; rw [g0] at s2; cases s1; cases s2; exact hpq rfl
  ·exact hne rfl
theorem Fe (g:bw (del (del H p) q) Hf H' aj) (hq:H q=some o) (hpq:p≠q) (h2:aj q=none):bw (del H p) Hf (upd H' q o) aj:=by
 refine ⟨λb u e=>?_,g.f,λb u e=>?_,λb e1 e2 e3=>?_⟩
 ·by_cases w:b=q
  ·subst w
   rw [bN (Pe hpq),hq] at e
   rw [af]; exact e
  ·rw [ai w]; exact g.s b u (by rw [bN w]; exact e)
 ·rw [ai (λw=>by rw [w,h2] at e; cases e)]; exact g.b b u e
 ·by_cases w:b=q
  ·rw [w]; exact h2
  ·exact g.n b e1 (by rw [bN w]; exact e2) λxs=>by rw [bN w]; exact e3 xs
theorem Ff (sb:aN aj H'):bw (del (upd H' q o) q) aj H' aj:=by
 refine ⟨λb u e=>?_,.refl _,sb,λb h _ _=>h⟩
 obtain ⟨w,e⟩:=dF e
 rw [ai w] at e; exact e
section
variable {K:OR} {c:Ctx P w K mg base k N sc bk}
theorem L0 {st:Stmt} (Fu:dO K x qual st f fd) (SV:FS N ps st) (ar:∀ kvs ls ds B,F kvs ls ds B->ds.length+2=ps.length)
 (body:∀ (c:Ctx P w K mg base k N (aP st) false),c.X.xe=(λ_ _=>False)->∀ p kvs q ls ds B,F kvs ls ds B->aH c (av st) (dY p kvs q ls N ds) (λρ=>∃ kvs' ls' r,B kvs' ls'/\ρ=.aK p kvs'::.aw q ls'::r) { rt:=λ_=>False }) :
 bh P w K mg base (cV P w) (k+1) f fd ps (za K F):=by
 obtain ⟨Sc,Vi⟩:=AD SV
 obtain ⟨oc,od,kV,doc,pm,an,cdv,ct,osl,rfl,lk,hcd⟩:=Fu.ex
 refine zW lk hcd Sc (λvs H Q E ⟨Hf,p,q,kvs,xs,ls,ys,us,ds,B,e,_,_,_,rs,hF,_⟩=>by rw [e,Pu,Pu,<- rs.length]; exact ar _ _ _ _ hF) λA outer s H vs Q E hr ⟨Hf,p,q,kvs,xs,ls,ys,us,ds,B,e,sb,⟨h1,h2,h3⟩,⟨k1,k2,k3⟩,rs,hF,hq⟩=>?_
 subst e
 let X:Cx:=(qI (cV P w) P w K mg base N qual (aP st) f cdv A outer s H E).Ga
 let c:Ctx P w K mg base k N (aP st) false :=
  { X:=X,eP:=rfl,ew:=rfl,eK:=rfl,emg:=rfl,eb:=rfl,eN:=rfl,esc:=rfl,calm:=rfl,top:=λ_=>⟨rfl,rfl,rfl⟩,cb:=λ_ _ _ _ _ I x c h=>I.ok.cab x c rfl h,fn:=λ_ _=>.inl rfl,B:=del (del H p) q,room:=hr,nd:=Sc.nd,vis:=Vi,Hf:=Hf,RX:=λ_ _=>False,
    exc:=λ_ _ _ _ _ _ _ _ _ _ _ _ h _ _=>h.elim,RM:=λ_ _=>False,mde:=λ_ _ _ _ _ _ _ _ _ _ _ _ h _=>h.elim }
 refine ⟨_,tH.Ga (t:=Ic X (av st)) (qQ (X:=X)),?_⟩
 refine body c rfl p kvs q ls ds B hF (L2.start N (.ref p::.ref q::us)) H Hf _ (uT rs sb h1 h2 h3 k1 k2 k3) ⟨λσ H' aj ρ S ⟨kvs',ls',r,hB,e⟩=>?_,λr v H' aj g rv e=>e.elim,λ_ _ _ _ _ h=>h.elim,λ_ _ _ _ _ h=>h.elim⟩
 subst e
 obtain ⟨v,_,q',xs',_,⟨_,rfl⟩,a1,a2,a3⟩:=S.at_ 0 _ rfl (by simp)
 obtain ⟨v2,_,q2,ys',_,⟨_,rfl⟩,b1,b2,b3⟩:=S.at_ 1 _ rfl (by simp)
 exact hq kvs' ls' H' aj xs' ys' hB S.bas ⟨a1,a2,a3⟩ ⟨b1,b2,b3⟩
theorem Cs (h:Cr P w K mg base j x F) (hj:j<=k) (hN:At N i y) (hi:At ρ i r) (hr:r.qZ=some kvs) (hNz:At N m z) (hm:At ρ m r2) (hr2:r2.getL=some ls) (him:i≠m)
 (ha:qR c es ρ λds=>∃ B,F kvs ls ds B/\∀ kvs' ls',B kvs' ls'->nx ((ρ.set i (r.jN kvs')).set m (r2.putL ls')))
 (hg:sc.names.lookup x=some .globalImplicit:=by walk_at "u") (hdb:(x == ("__debug__":Str))=false:=by decide) (hd:(y == ("__debug__":Str))=false:=by decide) (hcd:(y == ("__classdict__":Str))=false:=by decide) (hdz:(z == ("__debug__":Str))=false:=by decide) (hcdz:(z == ("__classdict__":Str))=false:=by decide)
 (he:∀ env,starEach (.Name y py::.Name z pz::es) env=(false,eval (.Name y py) env)::starEach (.Name z pz::es) env:=by intro _; walk_at "u")
 (he2:∀ env,starEach (.Name z pz::es) env=(false,eval (.Name z pz) env)::starEach es env:=by intro _; walk_at "u")
 (hpl:∀ env,(backTo cp (starEach (.Name z pz::es) env)).any (·.1)=false:=by intro _; walk_at "u")
 (hs:∀ env,swapsWith (.Call (.Name x px) (.Name y py::.Name z pz::es) [] cp) none pos.line env=pure false:=by intro _; walk_at "u"):fX c (.Expr (.Call (.Name x px) (.Name y py::.Name z pz::es) [] cp) pos) ρ nx p:=λσ H Hf D S o=>by
 obtain ⟨q,eq,rq⟩:=S.own hi.get (fE hr)
 obtain ⟨q2,eq2,rq2⟩:=S.own hm.get (bq hr2)
 refine cW (iG cG (hs _)) (show bE c.X _ σ H (λ_ H'=>D.nx σ H') from λaa s I=>?_)
 obtain ⟨f,fd,ps,hmm,hk,hb,hF⟩:=h.ex
 refine Q8 (jX I (by unfold Gl P8; rw [c.esc]; exact hg) (by rw [c.emg]; exact hmm) ?_ hdb)
 have hA:bA c.X (.Name y py::.Name z pz::es) σ H (λvs H1=>∃ us aV ds B,vs=.ref q::.ref q2::us/\F kvs ls ds B/\(∀ kvs' ls',B kvs' ls'->nx ((ρ.set i (r.jN kvs')).set m (r2.putL ls')))/\aq c.X.K aV ds us/\bw H Hf H1 aV) :=
  vI (bD (c.iK hN hd hcd) (bD (c.iK hNz hdz hcdz) Gj (he2 _)) (he _)) ⟨_,eq,_,eq2,ha σ H Hf _ S λds vs H1 aV ⟨B,hF,hn⟩ rs g=>⟨vs,aV,ds,B,rfl,hF,hn,rs,g⟩⟩
 refine U8 (h₀:=c.X.base) I.ok.mod.kin (by rw [c.eK]; exact hk) (bJ (hA cp aa s I) λus s1 ⟨vs,H1,I1,rv,us',aV,ds,B,ev,hF',hn,rs,g⟩=>⟨I1.Dl,?_⟩) (he _) (hpl _)
 subst ev
 have S1:=S.cC g
 have rq1:=rq.cC g
 have rq3:=rq2.cC g
 obtain ⟨xs1,a1,a2,a3⟩:=ug hr rq1
 obtain ⟨ys1,b1,b2,b3⟩:=yk hr2 rq3
 have hpq:q≠q2:=λe=>by rw [e,b1] at a1; cases a1
 have hF2:bh c.X.prog c.X.w c.X.K c.X.mg c.X.base (cV c.X.prog c.X.w) k f fd ps (za c.X.K F):=by rw [c.eP,c.ew,c.eK,c.emg,c.eb]; exact hF.mono hj
 have vq:za c.X.K F (.ref q::.ref q2::us') H1 (λ_ H'=>D.nx σ H') (λ_ _ _=>False):=by
  refine ⟨aV,q,q2,kvs,xs1,ls,ys1,us',ds,B,rfl,g.b,⟨a1,a2,a3⟩,⟨b1,b2,b3⟩,rs,hF',λkvs' ls' H' aj xs' ys' hB g2 ⟨c1,c2,c3⟩ ⟨d1,d2,d3⟩=>?_⟩
  refine o.nx σ H' aj _ ?_ (hn kvs' ls' hB)
  have T1:=S1.upd hi.get (fE hr) eq (Fe g2 b1 hpq d2) (kP hr rq1 (by rw [ai hpq]; exact c1) c2 c3) (gZ hr)
  have hm':(ρ.set i (r.jN kvs'))[m]?=some r2:=by rw [Qn him]; exact hm.get
  obtain ⟨q2',eq2',rq4⟩:=T1.own hm' (bq hr2)
  rw [eq2] at eq2'
  cases eq2'
  exact T1.upd hm' (bq hr2) eq2 (Ff g2.b) (eY hr2 rq4 d1 d2 d3) (cR hr2)
 have hl:us.length=ps.length:=by rw [<- rv.length]; exact hF2.len _ _ _ _ vq
 have hb':Binds c.X.K fd ps []:=by rw [c.eK]; exact hb
 have hb2:=hb' s1 us I1.Dl (by simpa using hl)
 rw [Qd] at hb2
 refine wpAny_call (Tc (hF2.run c.X.A c.X.stack s1 H1 ⟨us,[]⟩ us _ _ _ c.room I1.HL hb2 rv vq) λr' s' hq=>?_)
 cases r' with
 | error e =>
  obtain ⟨a,C,H',rfl,hE,h⟩:=hq
  exact h.elim
 | ok fl =>
  cases fl with
  | ret u=>exact I1.after hq
  | next=>exact Qi hq
  | brk=>exact Qi hq
  | cont=>exact Qi hq
end
section
variable {K:OR}
theorem Ct (P) (w) (base) {st:Stmt} (D:aA K mg x st) (ok:∀ {f:Addr} {fd:FuncData},dO K x x st f fd->bh P w K mg base (cV P w) k f fd ps (za K F))
 (hb:∀ (kV doc pm:Value) (an:Option Addr) (cdv ct:Value) (us:List Value),us.length=ps.length->bindArgs (Q0 x x (dQ st) (av st) (aP st) .none kV doc pm an cdv ct) ⟨us,[]⟩=pure (ps.zip us):=by intro _ _ _ _ _ _ us hl; (obtain ⟨a,b,c,d,e,rfl⟩:=IM us hl; rfl)):Cr P w K mg base k x F :=
 let ⟨f,fd,m,Fu⟩:=D; ⟨f,fd,ps,m,Fu.kp,Fu.binds hb,ok Fu⟩
end
end EV
namespace EV
open PySem PySem.Spec PyProof.Rows L2
section
variable {K:OR}
theorem JA (h:aJ c a ρ λx=>aJ c b ρ λy=>I2 (λi j=>Sd (j≠0) (R (.int (i.fmod j)))) x y):aJ c (.BinOp a .Mod b pos) ρ R :=
 f9 (kN Dz jJ (h.imp λx hx=>hx.imp λy ⟨i,j,e1,e2,⟨hc,r⟩⟩=>⟨i,j,e1,e2,hc,_,rfl,r⟩))
end
end EV
namespace My
open PySem PySem.Spec PyProof.Rows L2 EV
noncomputable abbrev top (i:Nat):Stmt:=PySem.Challenge.pw_everydraw_k09_whole_reckoning_with_polyn.main.body.getD i (.Pass ⟨0,0,0,0⟩)
theorem iY:FS ["one","other","rest"] ["one","other"] (top 4):=by decide +kernel
theorem lU:FS ["top","bottom","common"] ["top","bottom"] (top 5):=by decide +kernel
theorem sH:FS ["one","other"] ["one","other"] (top 6):=by decide +kernel
theorem p7:FS ["one","other"] ["one","other"] (top 7):=by decide +kernel
theorem mY:FS ["one","other"] ["one","other"] (top 8):=by decide +kernel
theorem uU:FS ["powers","end"] ["powers"] (top 11):=by decide +kernel
theorem sI:FS ["powers","k"] ["powers","k"] (top 12):=by decide +kernel
theorem uV:FS ["terms","total","powers","number","bare"] ["terms"] (top 13):=by decide +kernel
theorem sJ:FS ["one","other"] ["one","other"] (top 14):=by decide +kernel
theorem p9:FS ["one","other"] ["one","other"] (top 15):=by decide +kernel
theorem iu:FS ["some","greatest","powers","number","k","power"] ["some"] (top 16):=by decide +kernel
theorem qa:FS ["one","other","most"] ["one","other"] (top 17):=by decide +kernel
theorem zb:FS ["powers","width","key","power"] ["powers","width"] (top 18):=by decide +kernel
theorem qb:FS ["key","width","mask"] ["key","width"] (top 19):=by decide +kernel
theorem zc:FS ["some","width"] ["some","width"] (top 20):=by decide +kernel
theorem sL:FS ["total","width"] ["total","width"] (top 21):=by decide +kernel
theorem jU:FS ["total","left","right","key","number","shift","part","whole"] ["total","left","right"] (top 22):=by decide +kernel
theorem mZ:FS ["one","other","width","total"] ["one","other"] (top 23):=by decide +kernel
theorem zd:FS ["base","power","worth"] ["base","power"] (top 24):=by decide +kernel
theorem jB:FS ["some","k","fraction","most","scaled","powers","number","power"] ["some","k","fraction","most"] (top 25):=by decide +kernel
theorem sM:FS ["some","place","greatest","scaled","bottom","k","fraction","top","powers","number","worth"] ["some","place"] (top 26):=by decide +kernel
theorem sN:FS ["one","other"] ["one","other"] (top 27):=by decide +kernel
theorem uW:FS ["powers","number","lead","room","rest","k","power"] ["powers","number","lead","room"] (top 28):=by decide +kernel
theorem lV:FS ["waiting","key","low","high","middle"] ["waiting","key"] (top 29):=by decide +kernel
theorem qe:FS ["left","waiting","factor","shift","number","key","part","whole"] ["left","waiting","factor","shift","number"] (top 30):=by decide +kernel
theorem m5:FS ["one","other","width","room","lead","behind","left","waiting","quotient","key","term"] ["one","other"] (top 31):=by decide +kernel
theorem ze:FS ["_law_script","_law_k"] ["_law_script","_law_k"] (top 34):=by decide +kernel
theorem uX:FS ["_law_cell_here","_law_k","_law_many","_law_number"] ["_law_cell_here","_law_k","_law_many"] (top 35):=by decide +kernel
theorem zf:FS ["_law_cell_here","_law_size","_law_rest","_law_powers","_law_k"] ["_law_cell_here","_law_size"] (top 36):=by decide +kernel
theorem m6:FS ["_law_top","_law_bottom","_law_one","_law_other"] ["_law_top","_law_bottom"] (top 37):=by decide +kernel
theorem qf:FS ["_law_powers","_law_found"] ["_law_powers"] (top 38):=by decide +kernel
theorem Cu:FS ["_law_terms","_law_counts","_law_powers","_law_number","_law_short"] ["_law_terms"] (top 39):=by decide +kernel
theorem jC:FS ["_law_one","_law_other","_law_place","_law_left","_law_right"] ["_law_one","_law_other","_law_place"] (top 40):=by decide +kernel
theorem uY:FS ["_law_one","_law_other","_law_third"] ["_law_one","_law_other","_law_third"] (top 41):=by decide +kernel
theorem JB:FS ["_law_script","_law_place","_law_k","_law_cell_here","_law_third","_law_some","_law_cells"] ["_law_script"] (top 42):=by decide +kernel
local macro_rules | `(tactic| walk_at "side")=> `(tactic| first | lia | assumption | exact pD | exact qU (Nat.le_of_ble_eq_true rfl) | exact AA (by decide) (by decide +kernel) | (show zS _ _; exact ⟨by decide,by decide,by decide +kernel⟩))
local macro_rules | `(tactic| walk_at "at")=> `(tactic| with_reducible (repeat (first | exact At.z | apply At.s)))
local macro_rules | `(tactic| walk_at "sset")=> `(tactic| with_reducible (repeat (first | exact SSet.z | apply SSet.s)))
local macro_rules | `(tactic| walk_at "atI")=> `(tactic| first | assumption | rfl)
local macro_rules | `(tactic| walk_at "own")=> `(tactic| walk_at "u")
local macro_rules | `(tactic| walk_at "evSs")=> `(tactic| first
 | with_reducible refine ak ?_
 | with_reducible refine eF ?_)
local macro_rules | `(tactic| walk_at "evS")=> `(tactic| first
 | ((with_reducible show fX _ (Uz [O9 _ _] _ _) _ _ _); with_reducible refine qT (by walk_at "at") ?_)
 | ((with_reducible show fX _ (Stmt.If _ _ _ _) _ _ _); walk_at "evIf")
 | ((with_reducible show fX _ (Stmt.Expr _ _) _ _ _); walk_at "evXp")
 | ((with_reducible show fX _ (Stmt.Return (some (O9 _ _)) _) _ _ _); with_reducible refine qS (by walk_at "at") (by walk_at "at") rfl ?_)
 | ((with_reducible show fX _ (Stmt.Return (some _) _) _ _ _); with_reducible refine nG ?_)
 | ((with_reducible show fX _ (Stmt.Return none _) _ _ _); with_reducible refine s_retN ?_)
 | ((with_reducible show fX _ (Uh (O9 _ _) Uv _ _) _ _ _); with_reducible refine s_addq (by walk_at "at") (by walk_at "at") ?_)
 | ((with_reducible show fX _ (Uh (O9 _ _) Operator.Sub _ _) _ _ _); with_reducible refine Ik (by walk_at "at") (by walk_at "at") ?_)
 | ((with_reducible show fX _ (Uh (Qe (O9 _ _) _ _) Uv _ _) _ _ _); with_reducible refine vZ (by walk_at "at") (by walk_at "at") ?_)
 | ((with_reducible show fX _ (Uz [Expr.Tuple [O9 _ _,O9 _ _] _ _] (Expr.Tuple [_,_] _ _) _) _ _ _); with_reducible refine Lo (by walk_at "at") (by walk_at "at") (by decide) ?_)
 | ((with_reducible show fX _ (Uz [Expr.Tuple _ _ _] _ _) _ _ _); with_reducible refine s_asg ?_)
 | ((with_reducible show fX _ (Uz [Qe (O9 _ _) _ _] _ _) _ _ _); walk_at "evPut")
 | with_reducible refine s_break ?_
 | with_reducible refine s_continue ?_
 | with_reducible refine s_pass ?_)
local macro_rules | `(tactic| walk_at "evIf")=> `(tactic| with_reducible refine Ij ?_)
local macro_rules | `(tactic| walk_at "evXp")=> `(tactic| with_reducible refine ue (by walk_at "at") (by walk_at "at") (by walk_at "own") ?_)
local macro_rules | `(tactic| walk_at "evPut")=> `(tactic| with_reducible refine A0 (by walk_at "at") (by walk_at "at") ?_ (ho:=by walk_at "own"))
local macro_rules | `(tactic| walk_at "evK")=> `(tactic| first
 | with_reducible refine K7 ?_
 | with_reducible refine e_bl ?_
 | with_reducible refine K8 ?_
 | with_reducible refine e_str ?_)
local macro_rules | `(tactic| walk_at "evCm")=> `(tactic| first
 | with_reducible refine e_isN ?_
 | with_reducible refine e_notN ?_
 | with_reducible refine e_lt ?_
 | with_reducible refine NQ ?_
 | with_reducible refine e_ne ?_)
local macro_rules | `(tactic| walk_at "evIx")=> `(tactic| first
 | ((with_reducible show aJ _ (Qe _ (Expr.Slice _ _ _ _) _) _ _); with_reducible refine AR ?_)
 | ((with_reducible show aJ _ (Qe (O9 _ _) _ _) _ _); with_reducible refine LC (by walk_at "at") (by walk_at "at") (by walk_at "own") (by walk_at "sset") ?_ (by walk_at "at"))
 | ((with_reducible show aJ _ (Qe (O9 _ _) _ _) _ _); with_reducible refine vY (by walk_at "at") (by walk_at "at") ?_)
 | with_reducible refine nJ ?_)
local macro_rules | `(tactic| walk_at "evBo")=> `(tactic| first
 | with_reducible refine IB ?_
 | with_reducible refine Gm ?_
 | with_reducible refine Lc ?_
 | with_reducible refine Ld ?_
 | with_reducible refine Ih ?_
 | with_reducible refine Le ?_)
local macro_rules | `(tactic| walk_at "evCa")=> `(tactic| first
 | ((with_reducible show aJ _ (Qj (Expr.Attribute _ _ _) _ _ _) _ _); walk_at "evMt")
 | ((with_reducible show aJ _ (Qj (O9 "isinstance" _) _ _ _) _ _); first
  | with_reducible refine e_isin (Txt.isin (by assumption)) (Txt.c_int (by assumption)) ?_
  | with_reducible refine e_isin (Txt.isin (by assumption)) (Txt.c_tuple (by assumption)) ?_
  | with_reducible refine e_isin (Txt.isin (by assumption)) (Txt.c_list (by assumption)) ?_
  | with_reducible refine e_isin (Txt.isin (by assumption)) (Txt.c_bool (by assumption)) ?_)
 | ((with_reducible show aJ _ (Qj (O9 "len" _) _ _ _) _ _); first
  | ((with_reducible show aJ _ (Qj _ [O9 _ _] _ _) _ _); with_reducible refine II (Txt.len (by assumption)) (by walk_at "at") (by walk_at "at") (by walk_at "own") (by walk_at "sset") ?_)
  | with_reducible refine e_len (Txt.len (by assumption)) ?_)
 | ((with_reducible show aJ _ (Qj (O9 "tuple" _) _ _ _) _ _); first
  | ((with_reducible show aJ _ (Qj _ [O9 _ _] _ _) _ _); with_reducible refine A6 (Txt.tuple (by assumption)) (by walk_at "at") (by walk_at "at") (by walk_at "own") (by walk_at "sset") ?_)
  | with_reducible refine vV (Txt.tuple (by assumption)) ?_)
 | ((with_reducible show aJ _ (Qj (O9 "abs" _) _ _ _) _ _); with_reducible refine Lw (Txt.abs (by assumption)) ?_)
 | ((with_reducible show aJ _ (Qj (O9 "int" _) _ _ _) _ _); with_reducible refine e_intB (Txt.int (by assumption)) ?_))
local macro_rules | `(tactic| walk_at "evMt")=> `(tactic| with_reducible refine IE (by walk_at "at") (by walk_at "at") ?_ (ho:=by walk_at "own"))
local macro_rules | `(tactic| walk_at "evE")=> `(tactic| first
 | ((with_reducible show aJ _ (O9 _ _) _ _); with_reducible refine vJ (by walk_at "at") (by walk_at "at") ?_)
 | ((with_reducible show aJ _ (Uo _ _ _) _ _); walk_at "evK")
 | ((with_reducible show aJ _ (Qj _ _ _ _) _ _); walk_at "evCa")
 | ((with_reducible show aJ _ (Qe _ _ _) _ _); walk_at "evIx")
 | ((with_reducible show aJ _ (Sw _ _ _ _) _ _); walk_at "evBo")
 | ((with_reducible show aJ _ (Expr.Compare _ _ _ _) _ _); walk_at "evCm")
 | with_reducible refine Ln ?_
 | with_reducible refine IC ?_
 | with_reducible refine Lf ?_
 | with_reducible refine e_not ?_
 | with_reducible refine Lk ?_
 | with_reducible refine e_or ?_
 | with_reducible refine Lj ?_
 | with_reducible refine Eb ?_)
local macro_rules | `(tactic| walk_at "evX")=> `(tactic| first
 | ((with_reducible show dP _ (Expr.List _ _) _ _); with_reducible refine Gq ?_)
 | ((with_reducible show dP _ (Qj _ _ _ _) _ _); walk_at "evXC")
 | ((with_reducible show dP _ (Sw _ Uv _ _) _ _); with_reducible refine Gx ?_)
 | ((with_reducible show dP _ (Qe _ (Expr.Slice _ _ _ _) _) _ _); with_reducible refine vW ?_)
 | with_reducible refine K6 ?_)
local macro_rules | `(tactic| walk_at "evXC")=> `(tactic| first
 | ((with_reducible show dP _ (Qj (O9 "list" _) _ _ _) _ _); first
  | ((with_reducible show dP _ (Qj _ [O9 _ _] _ _) _ _); with_reducible refine x_listO (Txt.list (by assumption)) (by walk_at "at") (by walk_at "at") (by walk_at "own") (by walk_at "sset") ?_)
  | with_reducible refine Iq (Txt.list (by assumption)) ?_)
 | with_reducible refine K6 ?_)
local macro_rules | `(tactic| walk_at "evT")=> `(tactic| first
 | ((with_reducible show gX _ (Expr.Compare _ _ _ _) _ _); first
  | with_reducible refine Ly ?_
  | with_reducible refine t_notN ?_
  | with_reducible refine NP ?_
  | with_reducible refine NO ?_
  | with_reducible refine NL ?_
  | with_reducible refine t_le ?_
  | with_reducible refine NN ?_
  | with_reducible refine t_ge ?_
  | with_reducible refine GA (by walk_at "at") (by walk_at "at") ?_
  | with_reducible refine kQ (by walk_at "at") (by walk_at "at") ?_)
 | with_reducible refine Li ?_
 | with_reducible refine Oh (w_and ?_)
 | with_reducible refine Oh (w_or ?_)
 | with_reducible refine Ll ?_)
local macro_rules | `(tactic| walk_at "evW")=> `(tactic| first
 | with_reducible refine w_and ?_
 | with_reducible refine w_or ?_
 | with_reducible refine Ii ?_
 | with_reducible refine Lh ?_)
local macro_rules | `(tactic| walk_at "evG")=> `(tactic| first
 | ((with_reducible show o9 _ (O9 _ _) _ _ _); with_reducible refine eG (by walk_at "at") ?_)
 | with_reducible refine Az rfl (by walk_at "u") ?_)
local macro_rules | `(tactic| walk_at "evGs")=> `(tactic| first
 | with_reducible refine Ay ?_
 | ((with_reducible show yg _ (_::_) _ _ _); with_reducible refine pe (by walk_at "at") ?_))
local macro_rules | `(tactic| walk_at "evL")=> `(tactic| first
 | ((with_reducible show Nx _ _ _ _); with_reducible refine qC (by walk_at "sset") ?_)
 | ((with_reducible show Sd _ _); first | with_reducible refine Sd.mk (by walk_at "side") ?_ | with_reducible refine Sd.mk ?_ ?_)
 | ((with_reducible show iF _ _ _); first
  | with_reducible refine La ?_
  | with_reducible refine Lb ?_
  | with_reducible refine DY ?_
  | with_reducible refine DX (λh=>?_) (λh=>?_)
  | with_reducible refine if2 (λh=>?_) (λh=>?_))
 | with_reducible refine i2 ?_
 | with_reducible refine i1 ?_
 | with_reducible refine b1 ?_
 | ((with_reducible show yf _ _ _); first
  | with_reducible refine DZ ?_
  | with_reducible refine eqp_bl ?_
  | with_reducible refine eqp_str ?_)
 | ((with_reducible show mS _ _ _); first
  | with_reducible refine AS ?_
  | with_reducible refine AU ?_
  | with_reducible refine addp_tup ?_)
 | ((with_reducible show Ie _ _); first
  | with_reducible refine nI ?_
  | with_reducible refine gS ?_)
 | ((with_reducible show Ko _ _); first
  | with_reducible refine Lx ?_
  | with_reducible refine Gu (by intro q; cases q) ?_)
 | ((with_reducible show Kp _ _ _); first
  | refine Gv (by rfl) ?_
  | refine iJ (by rfl) ?_)
 | ((with_reducible show Iw _ _ _ _); first
  | with_reducible refine EV.Iw.lst ?_
  | with_reducible refine EV.Iw.tup ?_)
 | ((with_reducible show ∃ ys,D.row _=some ys/\_); refine ID (by rfl) ?_)
 | ((with_reducible show ∃ t b,Gs _ _ t/\_); first
  | with_reducible refine isd .int kit_ii ?_
  | with_reducible refine isd .int (Txt.ib (by assumption)) ?_
  | with_reducible refine isd .bl kit_bb ?_
  | with_reducible refine isd .lst kit_ll ?_
  | with_reducible refine isd .tup kit_tt ?_)
 | ((with_reducible show ∃ j d,D.int _=D.int j/\_); refine ⟨_,_,rfl,(by walk_at "atI"),?_⟩)
 | ((with_reducible show ∃ r,_/\Lr _ _ _ r); walk_at "evR"))
local macro_rules | `(tactic| walk_at "ev1")=> `(tactic| first
 | ((with_reducible show aJ _ _ _ _); walk_at "evE")
 | ((with_reducible show dP _ _ _ _); walk_at "evX")
 | ((with_reducible show gX _ _ _ _); walk_at "evT")
 | ((with_reducible show aH _ _ _ _ _); walk_at "evSs")
 | ((with_reducible show fX _ _ _ _ _); walk_at "evS")
 | ((with_reducible show qR _ _ _ _); first | with_reducible refine eE ?_ | with_reducible refine jL ?_)
 | ((with_reducible show Gp _ _ _ _); walk_at "evW")
 | ((with_reducible show o9 _ _ _ _ _); walk_at "evG")
 | ((with_reducible show yg _ _ _ _ _); walk_at "evGs")
 | ((with_reducible show Ir _ _ _ _); first | with_reducible refine Iu ?_ | with_reducible refine Iv ?_)
 | walk_at "evL")
local macro_rules | `(tactic| walk_at "ev")=> `(tactic| repeat' (walk_at "ev1"))
section
variable {K:OR}
theorem dM (h:n<=1000000):n<sizeLine:=QH h (by decide)
theorem Fg (h:n<=1000000):n<=sizeLine:=QC (dM h)
noncomputable def gU:Fn:=λds r=>∃ l:List Int,l.length<=64/\ds=[.tup (l.map .int)]/\r=.ok (.va (.tup ((trim l).map .int)))
theorem uZ (h:l.length<=64):gU [.tup (l.map .int)] (.ok (.va (.tup ((trim l).map .int)))):=⟨l,h,rfl,rfl⟩
theorem sO {cl:List Int} {j:Int} (h0:0<=j) (h1:j<cl.length) (h:R (.int (cl.getD j.toNat 0))):Kp (.tup (cl.map D.int)) (.int j) R:=by
 refine Gv ?_ h
 rw [fF h0 (by simpa using h1)]
 have hj:j.toNat<cl.length:=by lia
 simp [O8,hj]
theorem Fi (Fu:dO K "trimmed" "trimmed" (top 11) f fd) (T:Txt K mg):bh P w K mg base (cV P w) 1 f fd ["powers"] (eS K gU):=by
 refine cD Fu uU (by rintro ds r ⟨a,_,rfl,_⟩; rfl) (by rintro ds r ⟨a,_,_,rfl⟩; exact ⟨_,rfl⟩) λc hq ds sl hF=>?_
 obtain ⟨l,hl,rfl,e⟩:=hF
 injection e with e
 subst e
 show aH c _ [.va (.tup (l.map .int)),.un] _ _
 conv in (av _)=>whnf
 walk_at "ev"
 with_reducible refine fD hq (λm ρ'=>m<=l.length/\trim (l.take m)=trim l/\ρ'=[.va (.tup (l.map .int)),.va (.int (m:Int))]) (m₀:=l.length) ?_ ?_
 ·refine ⟨OT _,by rw [Qo],?_⟩
  rw [OW]
 ·rintro m ρ' ⟨hm,ht,rfl⟩
  walk_at "ev"
  ·refine sO (by lia) (by lia) ?_
   have hk:((m:Int) - 1).toNat=m - 1:=by lia
   rw [hk]
   have hm1:m - 1+1=m:=by lia
   walk_at "ev"
   ·exact ⟨m - 1,by lia,by lia,n9 (by lia) (by assumption) (by rw [hm1]; exact ht),by rw [show ((m - 1:Nat):Int)=(m:Int) - 1 by lia]⟩
   ·show Sl.va _=Sl.va _
    rw [kU,BI _ hm]
    have:=oh (l:=l) (m:=m - 1) (by lia) (by assumption) (by rw [hm1]; exact ht)
    rw [hm1] at this
    rw [this]
  ·show Sl.va _=Sl.va _
   have:m=0:=by lia
   subst this
   rw [kU,BI _ hm,<- ht]
   rfl
noncomputable def thing (a k m:Int):Int :=
 ((a % 2147483647 * 48271+69621 * k * k+7 * k) % 2147483629 * ((a % 2147483647 * 48271+69621 * k * k+7 * k) % 2147483629) % 2147483587) * ((a % 2147483647 * 48271+69621 * k * k+7 * k) % 2147483629 * ((a % 2147483647 * 48271+69621 * k * k+7 * k) % 2147483629) % 2147483587+48271) % 2147483563 % m
theorem iZ (a k) (h:0<m):0<=thing a k m/\thing a k m<m:=⟨SS _ (by lia),Vd _ h⟩
noncomputable def qg:Fn:=λds r=>∃ a k m:Int,0<m/\m.natAbs<2 ^ 63/\k.natAbs<2 ^ 40/\ds=[.int a,.int k,.int m]/\r=.ok (.va (.int (thing a k m)))
theorem Fj (hm:0<m) (h2:m.natAbs<2 ^ 63) (hk:k.natAbs<2 ^ 40):qg [.int a,.int k,.int m] (.ok (.va (.int (thing a k m)))):=⟨a,k,m,hm,h2,hk,rfl,rfl⟩
theorem Cv (Fu:dO K "_law_thing" "_law_thing" (top 35) f fd) (T:Txt K mg):bh P w K mg base (cV P w) 1 f fd ["_law_cell_here","_law_k","_law_many"] (eS K qg):=by
 refine cD Fu uX (by rintro ds r ⟨a,k,m,_,_,_,rfl,_⟩; rfl) (by rintro ds r ⟨a,k,m,_,_,_,_,rfl⟩; exact ⟨_,rfl⟩) λc hq ds sl hF=>?_
 obtain ⟨a,k,m,hm,hm2,hk,rfl,e⟩:=hF
 injection e with e
 subst e
 show aH c _ [.va (.int a),.va (.int k),.va (.int m),.un] _ _
 conv in (av _)=>whnf
 walk_at "ev"
 all_goals first
  | exact kW (by lia)
  | exact dv_few hm hm2
  | rfl
  | trace_state
theorem u0 (x):(ah x).nl:=uq (by unfold D.uo; exact ⟨uq (pF _),gy (f:=D.int) (l:=[x.2]) λ_ _=>pD⟩)
noncomputable def tK (t:aI):Option D:=if t.2≠0 then some (ah t) else none
theorem i0:∀ L:List aI,(L.map tK).filterMap id=(nz L).map ah
 | []=>rfl
 | t::L=>by
  unfold nz
  by_cases h:t.2=0
  ·simp only [O4,tK,h,ne_eq,not_true,if_false,R8,id,Vx,bne_self_eq_false,P5]
   exact i0 L
  ·have hb:(t.2 != 0)=true:=by simpa using h
   rw [Vx,if_pos hb,O4,O4,R8]
   simp only [tK,ne_eq,h,not_false_eq_true,if_true,id]
   rw [i0 L]; rfl
noncomputable def m7:Fn:=λds r=>∃ ts:List aI,ts.length<=400000/\(∀ t∈ts,t.1.length<=64)/\ds=[.lst (ts.map ah)]/\r=.ok (.ow ((gP (nz (aU ts))).map ah))
theorem lW (h:ts.length<=400000) (h2:∀ t∈ts,t.1.length<=64):m7 [.lst (ts.map ah)] (.ok (.ow ((gP (nz (aU ts))).map ah))):=⟨ts,h,h2,rfl,rfl⟩
section
local macro_rules | `(tactic| walk_at "evX")=> `(tactic| first | ((with_reducible show dP _ (Expr.Dict _ _ _) _ _); with_reducible refine Ej ?_))
local macro_rules | `(tactic| walk_at "evCa")=> `(tactic| first | with_reducible refine aM (F:=gU) (by assumption) (by decide) ?_)
local macro_rules | `(tactic| walk_at "evR")=> `(tactic| first | with_reducible refine aC (uZ ?_) ?_)
theorem Fl (Fu:dO K "poly_of" "poly_of" (top 13) f fd) (T:Txt K mg) (h1:cQ P w K mg base 1 "trimmed" gU):bh P w K mg base (cV P w) 2 f fd ["terms"] (eS K m7):=by
 refine cD Fu uV (by rintro ds r ⟨n,_,_,rfl,_⟩; rfl) (by rintro ds r ⟨n,_,_,_,rfl⟩; exact ⟨_,rfl⟩) λc hq ds sl hF=>?_
 obtain ⟨ts,hl,hlen,rfl,e⟩:=hF
 injection e with e
 subst e
 show aH c _ [.va (.lst (ts.map ah)),.un,.un,.un,.un] _ _
 conv in (av _)=>whnf
 walk_at "ev"
 with_reducible refine cX hq (dS ?_)
 walk_at "ev"
 refine ⟨λi ρ'=>∃ s2 s3 s4:Sl,ρ'=[.va (.lst (ts.map ah)),.oT (encA (aU (ts.take i))),s2,s3,s4],⟨_,_,_,rfl⟩,?_,?_⟩
 ·rintro c' tF zw zz i d ρ' hd ⟨s2,s3,s4,rfl⟩
  simp only [O8,Pf] at hd
  obtain ⟨t,ht,rfl⟩:=hd
  obtain ⟨hi,rfl⟩:=O6.mp ht
  have h6:=hlen _ (Pw hi)
  have hsz:(aU (ts.take i)).length<sizeLine:=dM (by have:=fL (ts.take i); rw [PZ] at this; lia)
  show o9 c' _ (D.tup [.tup (ts[i].1.map .int),.int ts[i].2]) _ _
  walk_at "ev"
  ·exact h6
  walk_at "ev"
  refine ⟨_,BL (A:=aU (ts.take i)) rfl _,?_⟩
  rw [r6]
  walk_at "ev"
  refine ⟨_,BN hsz,?_⟩
  walk_at "ev"
  have e:aU (ts.take (i+1))=putD (aU (ts.take i)) (trim ts[i].1) ((ay (aU (ts.take i)) (trim ts[i].1)).getD 0+ts[i].2):=by
   rw [QE hi,lK]; rfl
  show ∃ s2 s3 s4:Sl,_=[_,Sl.oT (encA (aU (ts.take (i+1)))),s2,s3,s4]
  rw [e]
  exact ⟨_,_,_,rfl⟩
 ·rintro ρ' ⟨s2,s3,s4,rfl⟩
  rw [OW,Qo]
  have hn:=keys_nodup (c7 ts)
  with_reducible refine ak ?_
  with_reducible refine nG ?_
  refine gc hq (N':=["term"]) (ρ0:=λ_=>[.un]) (λt=>.un .nil) ?_
  refine dS (e_x (pI 1 (by walk_at "at") (encK _) (by walk_at "sset") (rX (Txt.sorted T) ?_)))
  walk_at "ev"
  refine ⟨_,oi _,hn,λL' hp hs=>?_⟩
  have eL:=pU hn hp hs
  subst eL
  refine ⟨gy λx _=>u0 x,gS (ID rfl ⟨?_,(gP (aU ts)).map tK,by simp,?_,?_⟩)⟩
  ·exact Fg (by rw [OW]; have:=(bM (aU ts)).length_eq; have:=fL ts; lia)
  ·intro c' hc t i d o hd ho
   simp only [O8,Pf] at hd ho
   obtain ⟨x,hx,rfl⟩:=hd
   obtain ⟨x',hx',rfl⟩:=ho
   rw [hx] at hx'; cases hx'
   refine eG (by walk_at "at") (qC (by walk_at "sset") ⟨.un .nil,?_⟩)
   show nK c' _ [.va (.tup [.tup (x.1.map .int),.int x.2])] _
   simp only [nK]
   walk_at "ev"
   all_goals first
    | (show tK x=some (ah x); unfold tK; rw [if_pos (by assumption)])
    | (show tK x=none; unfold tK; rw [if_neg λh=>h (by assumption)])
  ·rw [i0,BK hn]
theorem Fo (Fu:dO K "_law_sum" "_law_sum" (top 39) f fd) (T:Txt K mg) (h1:cQ P w K mg base 1 "_law_trimmed" gU):bh P w K mg base (cV P w) 2 f fd ["_law_terms"] (eS K m7):=by
 refine cD Fu Cu (by rintro ds r ⟨n,_,_,rfl,_⟩; rfl) (by rintro ds r ⟨n,_,_,_,rfl⟩; exact ⟨_,rfl⟩) λc hq ds sl hF=>?_
 obtain ⟨ts,hl,hlen,rfl,e⟩:=hF
 injection e with e
 subst e
 show aH c _ [.va (.lst (ts.map ah)),.un,.un,.un,.un] _ _
 conv in (av _)=>whnf
 walk_at "ev"
 with_reducible refine cX hq (dS ?_)
 walk_at "ev"
 refine ⟨λi ρ'=>∃ s2 s3 s4:Sl,ρ'=[.va (.lst (ts.map ah)),.oT (encA (aU (ts.take i))),s2,s3,s4],⟨_,_,_,rfl⟩,?_,?_⟩
 ·rintro c' tF zw zz i d ρ' hd ⟨s2,s3,s4,rfl⟩
  simp only [O8,Pf] at hd
  obtain ⟨t,ht,rfl⟩:=hd
  obtain ⟨hi,rfl⟩:=O6.mp ht
  have h6:=hlen _ (Pw hi)
  have hsz:(aU (ts.take i)).length<sizeLine:=dM (by have:=fL (ts.take i); rw [PZ] at this; lia)
  show o9 c' _ (D.tup [.tup (ts[i].1.map .int),.int ts[i].2]) _ _
  walk_at "ev"
  ·exact h6
  walk_at "ev"
  refine ⟨_,BL (A:=aU (ts.take i)) rfl _,?_⟩
  rw [r6]
  walk_at "ev"
  refine ⟨_,BN hsz,?_⟩
  walk_at "ev"
  have e:aU (ts.take (i+1))=putD (aU (ts.take i)) (trim ts[i].1) ((ay (aU (ts.take i)) (trim ts[i].1)).getD 0+ts[i].2):=by
   rw [QE hi,lK]; rfl
  show ∃ s2 s3 s4:Sl,_=[_,Sl.oT (encA (aU (ts.take (i+1)))),s2,s3,s4]
  rw [e]
  exact ⟨_,_,_,rfl⟩
 ·rintro ρ' ⟨s2,s3,s4,rfl⟩
  rw [OW,Qo]
  have hn:=keys_nodup (c7 ts)
  with_reducible refine ak ?_
  with_reducible refine nG ?_
  refine uE (Txt.sorted T) (e_x (pI 1 (by walk_at "at") (encK _) (by walk_at "sset") (gc hq (N':=["_law_powers","_law_number"]) (ρ0:=λ_=>[.un,.un]) (λt=>.un (.un .nil)) (Eu ?_))))
  walk_at "ev"
  refine IT (oi _) ⟨?_,(aU ts).map tK,by simp,?_,?_⟩
  ·exact Fg (by rw [OW]; have:=fL ts; lia)
  ·intro c' hc t i d o hd ho
   simp only [O8,Pf] at hd ho
   obtain ⟨x,hx,rfl⟩:=hd
   obtain ⟨x',hx',rfl⟩:=ho
   rw [hx] at hx'; cases hx'
   show o9 c' _ (.tup [.tup (x.1.map .int),.int x.2]) _ _
   walk_at "ev"
   refine ⟨.un (.un .nil),?_⟩
   simp only [nK]
   walk_at "ev"
   all_goals first
    | (show tK x=some (ah x); unfold tK; rw [if_pos (by assumption)])
    | (show tK x=none; unfold tK; rw [if_neg λh=>h (by assumption)])
  ·rw [i0]
   refine ⟨gy λx _=>u0 x,gS ⟨_,rfl,UZ _ hn,λL' hp hs=>?_⟩⟩
   have eL:=pU (UZ _ hn) hp hs
   rw [eL]
   rfl
end
noncomputable def oE:Fn:=λds r=>∃ A B:List aI,A.length+B.length<=400000/\(∀ t∈A++B,t.1.length<=64)/\ds=[.lst (A.map ah),.lst (B.map ah)]/\r=.ok (.ow ((aR (A++B)).map ah))
noncomputable def jD:Fn:=λds r=>∃ A B:List aI,A.length+B.length<=400000/\(∀ t∈A++B,t.1.length<=64)/\ds=[.lst (A.map ah),.lst (B.map ah)]/\r=.ok (.ow ((aR (A++B.map fW)).map ah))
theorem lX (h:A.length+B.length<=400000) (h2:∀ t∈A++B,t.1.length<=64):oE [.lst (A.map ah),.lst (B.map ah)] (.ok (.ow ((aR (A++B)).map ah))):=⟨A,B,h,h2,rfl,rfl⟩
theorem qh (h:A.length+B.length<=400000) (h2:∀ t∈A++B,t.1.length<=64):jD [.lst (A.map ah),.lst (B.map ah)] (.ok (.ow ((aR (A++B.map fW)).map ah))):=⟨A,B,h,h2,rfl,rfl⟩
section
local macro_rules | `(tactic| walk_at "evXC")=> `(tactic| first | with_reducible refine x_call (F:=m7) (by assumption) (by decide) ?_)
local macro_rules | `(tactic| walk_at "evR")=> `(tactic| first | with_reducible refine aC (lW ?_ ?_) ?_)
theorem Fq (Fu:dO K "poly_sum" "poly_sum" (top 14) f fd) (T:Txt K mg) (h1:cQ P w K mg base 2 "poly_of" m7):bh P w K mg base (cV P w) 3 f fd ["one","other"] (eS K oE):=by
 refine cD Fu sJ (by rintro ds r ⟨A,B,_,_,rfl,_⟩; rfl) (by rintro ds r ⟨A,B,_,_,_,rfl⟩; exact ⟨_,rfl⟩) λc hq ds sl hF=>?_
 obtain ⟨A,B,hl,hp,rfl,e⟩:=hF
 injection e with e
 subst e
 show aH c _ [.va (.lst (A.map ah)),.va (.lst (B.map ah))] _ _
 conv in (av _)=>whnf
 walk_at "ev"
 ·rw [OW,OW]; exact Fg (by lia)
 walk_at "ev"
 rw [<- PR]
 exact aC (lW (by rw [Pr]; lia) hp) rfl
theorem Cw (Fu:dO K "poly_less" "poly_less" (top 15) f fd) (T:Txt K mg) (h1:cQ P w K mg base 2 "poly_of" m7):bh P w K mg base (cV P w) 3 f fd ["one","other"] (eS K jD):=by
 refine cD Fu p9 (by rintro ds r ⟨A,B,_,_,rfl,_⟩; rfl) (by rintro ds r ⟨A,B,_,_,_,rfl⟩; exact ⟨_,rfl⟩) λc hq ds sl hF=>?_
 obtain ⟨A,B,hl,hp,rfl,e⟩:=hF
 injection e with e
 subst e
 show aH c _ [.va (.lst (A.map ah)),.va (.lst (B.map ah))] _ _
 conv in (av _)=>whnf
 walk_at "ev"
 refine e_x (gc hq (N':=["powers","number"]) (ρ0:=λ_=>[.un,.un]) (λt=>.un (.un .nil)) (dS ?_))
 walk_at "ev"
 ·exact Fg (by rw [OW]; lia)
 refine ⟨B.map λt=>some (ah (fW t)),by simp,?_,gS ?_⟩
 ·intro c' hc t i d o hd ho
  simp only [O8,Pf] at hd ho
  obtain ⟨x,hx,rfl⟩:=hd
  obtain ⟨x',hx',rfl⟩:=ho
  rw [hx] at hx'; cases hx'
  show o9 c' _ (.tup [.tup (x.1.map .int),.int x.2]) _ _
  walk_at "ev"
  refine ⟨.un (.un .nil),?_⟩
  simp only [nK]
  refine ⟨λ_=>?_,λh=>by cases h⟩
  walk_at "ev"
  rfl
 ·have e1:(B.map λt=>some (ah (fW t))).filterMap id=(B.map fW).map ah:=by
   rw [Py,List.filterMap_map]
   induction B with
   | nil=>rfl
   | cons b B ih=>simpa using ih
  rw [e1]
  walk_at "ev"
  ·rw [OW,OW,OW]; exact Fg (by lia)
  rw [<- PR]
  refine aC (lW (by rw [Pr,OW]; lia) λt ht=>?_) rfl
  rcases Pb.mp ht with q | q
  ·exact hp t (Qk _ q)
  ·obtain ⟨u,hu,rfl⟩:=Pn.mp q
   exact hp u (Qs _ hu)
end
end
section
variable {K:OR}
theorem Cy {l:List Int} (h:m<l.length):jS ((l.take (m+1)).map D.int) (-1)=some (.int (l.getD m 0)):=by
 have hl:(l.take (m+1)).length=m+1:=by simp; lia
 rw [Er (by decide) (by simp only [OW,hl]; lia),OW,hl]
 have e:(-1+((m+1:Nat):Int)).toNat=m:=by lia
 rw [e,O8,List.getElem?_take]
 simp [PX,h]
section
local macro_rules | `(tactic| walk_at "side")=> `(tactic| exact pF _)
local macro_rules | `(tactic| walk_at "evXp")=> `(tactic| ((with_reducible show fX _ (Stmt.Expr (Qj _ [] _ _) _) _ _ _); with_reducible refine s_pop (by walk_at "at") (by walk_at "at") (by walk_at "own") ?_))
theorem Cz (Fu:dO K "_law_trimmed" "_law_trimmed" (top 38) f fd) (T:Txt K mg):bh P w K mg base (cV P w) 1 f fd ["_law_powers"] (eS K gU):=by
 refine cD Fu qf (by rintro ds r ⟨a,_,rfl,_⟩; rfl) (by rintro ds r ⟨a,_,_,rfl⟩; exact ⟨_,rfl⟩) λc hq ds sl hF=>?_
 obtain ⟨l,hl,rfl,e⟩:=hF
 injection e with e
 subst e
 show aH c _ [.va (.tup (l.map .int)),.un] _ _
 conv in (av _)=>whnf
 walk_at "ev"
 with_reducible refine fD hq (λm ρ'=>m<=l.length/\trim (l.take m)=trim l/\ρ'=[.va (.tup (l.map .int)),.ow ((l.take m).map .int)]) (m₀:=l.length) ?_ ?_
 ·exact ⟨OT _,by rw [Qo],by rw [Qo]⟩
 ·rintro m ρ' ⟨hm,ht,rfl⟩
  have hL:((l.take m).map D.int).length=m:=by simp; lia
  walk_at "ev"
  ·rw [hL] at *
   obtain ⟨n,rfl⟩:∃ n,m=n+1:=⟨m - 1,by lia⟩
   refine ⟨_,_,rfl,Cy (by lia),?_⟩
   walk_at "ev"
   ·intro z; have z':=congrArg So z; rw [OW,PZ,QK] at z'; lia
   ·refine ⟨n,by lia,by lia,n9 (by lia) (by assumption) ht,?_⟩
    show [_,Sl.ow _]=_
    rw [jv (by lia),PR,U9,List.dropLast_concat]
   ·show Sl.va _=Sl.va _
    rw [oh (by lia) (by assumption) ht]
  ·show Sl.va _=Sl.va _
   have:m=0:=by rw [hL] at *; lia
   subst this
   rw [<- ht]
   rfl
end
end
section
variable {K:OR}
noncomputable def CA:Fn:=λds r=>∃ a b:Int,b≠0/\Pz b/\ds=[.int a,.int b]/\r=.ok (.va (dG a b))
theorem CB (hb:b≠0) (h:Pz b):CA [.int a,.int b] (.ok (.va (dG a b))):=⟨a,b,hb,h,rfl,rfl⟩
section
local macro_rules | `(tactic| walk_at "evBo")=> `(tactic| with_reducible refine vM ?_)
theorem L1 (Fu:dO K "_law_fraction" "_law_fraction" (top 37) f fd) (T:Txt K mg):bh P w K mg base (cV P w) 1 f fd ["_law_top","_law_bottom"] (eS K CA):=by
 refine cD Fu m6 (by rintro ds r ⟨a,b,_,_,rfl,_⟩; rfl) (by rintro ds r ⟨a,b,_,_,_,rfl⟩; exact ⟨_,rfl⟩) λc hq ds sl hF=>?_
 obtain ⟨a,b,hb,hs,rfl,e⟩:=hF
 injection e with e
 subst e
 show aH c _ [.va (.int a),.va (.int b),.un,.un] _ _
 conv in (av _)=>whnf
 walk_at "ev"
 with_reducible refine fD hq (λm ρ'=>∃ x y:Int,0<=x/\0<=y/\m=y.toNat/\O0 x y=O0 a b/\ρ'=[.va (.int a),.va (.int b),.va (.int x),.va (.int y)]) (m₀:=b.natAbs) ?_ ?_
 ·refine ⟨_,_,?_,?_,?_,?_,rfl⟩
  ·split <;> lia
  ·split <;> lia
  ·split <;> lia
  ·split <;> split <;> simp
 ·rintro m ρ' ⟨x,y,hx,hy,rfl,hg,rfl⟩
  have hG:=wm (a:=a) hs hb
  have hp:0<O0 a b:=RU a hb
  have done:¬0<y->x=O0 a b:=λh=>by
   have:y=0:=by lia
   subst this
   simp at hg
   lia
  walk_at "ev"
  ·show ∃ _,_
   refine ⟨_,?_,_,_,hy,?_,rfl,?_,rfl⟩
   ·have:=Vd x (b:=y) (by lia); have:=SS x (b:=y) (by lia); lia
   ·exact SS _ (by lia)
   ·rw [<- hg,q9]
  all_goals have e:=done (by assumption)
  all_goals subst e
  all_goals first
   | exact ⟨by lia,by rw [show (0 - (O0 a b:Int)).natAbs=(O0 a b:Int).natAbs by lia]; exact hG⟩
   | exact ⟨by lia,hG⟩
   | (show Sl.va _=Sl.va _; unfold dG nT nB cH; first | rw [if_pos (by assumption)] | rw [if_neg (by assumption)])
end
noncomputable def Ft:Fn:=λds r=>∃ a b:Int,ds=[.int a,.int b]/\r=.ok (.va (.int (O0 a b)))
theorem L3 (a b):Ft [.int a,.int b] (.ok (.va (.int (O0 a b)))):=⟨a,b,rfl,rfl⟩
theorem JC (Fu:dO K "common_divisor" "common_divisor" (top 4) f fd) (T:Txt K mg):bh P w K mg base (cV P w) 1 f fd ["one","other"] (eS K Ft):=by
 refine cD Fu iY (by rintro ds r ⟨a,b,rfl,_⟩; rfl) (by rintro ds r ⟨a,b,_,rfl⟩; exact ⟨_,rfl⟩) λc hq ds sl hF=>?_
 obtain ⟨a,b,rfl,e⟩:=hF
 injection e with e
 subst e
 show aH c _ [.va (.int a),.va (.int b),.un] _ _
 conv in (av _)=>whnf
 walk_at "ev"
 with_reducible refine fD hq (λm ρ'=>∃ (x y:Int) (s:Sl),0<=x/\0<=y/\m=y.toNat/\O0 x y=O0 a b/\ρ'=[.va (.int x),.va (.int y),s]) (m₀:=b.natAbs) ?_ ?_
 ·refine ⟨_,_,_,?_,?_,?_,?_,rfl⟩
  ·split <;> lia
  ·split <;> lia
  ·split <;> lia
  ·split <;> split <;> simp
 ·rintro m ρ' ⟨x,y,s,hx,hy,rfl,hg,rfl⟩
  walk_at "ev"
  ·show Sl.va _=Sl.va _
   subst_vars
   simp at hg |-
   lia
  ·show ∃ _,_
   refine ⟨_,?_,_,_,_,hy,?_,rfl,?_,rfl⟩
   ·have:=Vd x (b:=y) (by lia); have:=SS x (b:=y) (by lia); lia
   ·exact SS _ (by lia)
   ·rw [<- hg,q9]
section
local macro_rules | `(tactic| walk_at "evCa")=> `(tactic| with_reducible refine aM (F:=Ft) (by assumption) (by decide) ?_)
local macro_rules | `(tactic| walk_at "evR")=> `(tactic| with_reducible refine aC (L3 _ _) ?_)
theorem L4 (Fu:dO K "fraction_of" "fraction_of" (top 5) f fd) (T:Txt K mg) (hg:cQ P w K mg base 1 "common_divisor" Ft):bh P w K mg base (cV P w) 2 f fd ["top","bottom"] (eS K CA):=by
 refine cD Fu lU (by rintro ds r ⟨a,b,_,_,rfl,_⟩; rfl) (by rintro ds r ⟨a,b,_,_,_,rfl⟩; exact ⟨_,rfl⟩) λc hq ds sl hF=>?_
 obtain ⟨a,b,hb,hs,rfl,e⟩:=hF
 injection e with e
 subst e
 show aH c _ [.va (.int a),.va (.int b),.un] _ _
 conv in (av _)=>whnf
 have hG:=wm (a:=a) hs hb
 have hp:0<O0 a b:=RU a hb
 walk_at "ev"
 ·exact absurd (by assumption:b=0) hb
 ·exact ⟨by simp only [Tp,To]; lia,by simp only [Tp,To]; exact hG⟩
 ·exact ⟨by simp only [Tp,To]; lia,by simp only [Tp,To]; exact hG⟩
 ·show Sl.va _=Sl.va _
  rw [A8 (by assumption)]
 ·exact ⟨by lia,hG⟩
 ·exact ⟨by lia,hG⟩
 ·show Sl.va _=Sl.va _
  rw [A9 (by lia)]
end
theorem JD (h:Zs m a) (g:Zs n b):Zs (m+n) (a * b):=by
 rw [gh] at *
 rw [RH,Sn]
 exact Nat.mul_lt_mul'' h g
theorem L5 (h:Zs m a) (l:m<=n):Zs n a:=gh.mpr (PJ (gh.mp h) (QF (by decide) l))
theorem CC (h:Zs n a) (l:n<=2600):Pz a:=L5 h l
theorem xx (h:Pz a):PY a<=9001:=by
 unfold PY
 by_cases z:a=0
 ·subst z; decide
 ·have e:(a == 0)=false:=by simpa using z
  rw [e,if_neg O5]
  have:=nN (gh.mp h) (by decide)
  lia
theorem GQ (h:Sz a):Pz a:=CC (n:=1299) h (by decide)
theorem JE (h:Pz a) (g:Pz b):EV.MulOk a b:=by
 have h1:=xx h
 have h2:=xx g
 unfold EV.MulOk IntMulOk Builtin.Int.intTooBig bitsLine
 have e:decide (((PY a+PY b:Nat):Int)>((2 ^ 27:Nat):Int))=false:=by
  apply decide_eq_false; lia
 simp only [Sg]
 rintro ⟨_,z⟩
 have z':=of_decide_eq_true z
 lia
theorem JF (h:Sz a) (g:Sz b):EV.MulOk a b:=JE (GQ h) (GQ g)
theorem qi (h:Sz a) (g:Sz b):Pz (a * b):=CC (JD (m:=1299) (n:=1299) h g) (by decide)
noncomputable def F4 (f g:Int->Int->Int->Int->Int):Fn:=λds r=>∃ p q p' q':Int,Sz p/\Sz q/\Sz p'/\Sz q'/\g p q p' q'≠0/\ds=[.tup [.int p,.int q],.tup [.int p',.int q']]/\r=.ok (.va (dG (f p q p' q') (g p q p' q')))
noncomputable def CD (p q p' q':Int):Int:=p * q'+p' * q
noncomputable def sP (p q p' q':Int):Int:=p * q' - p' * q
noncomputable def lY (p _q p' _q':Int):Int:=p * p'
noncomputable def iw (_p q _p' q':Int):Int:=q * q'
theorem L6 (hp:Sz p) (hq:Sz q) (hp':Sz p') (hq':Sz q') (z:q * q'≠0):F4 CD iw [.tup [.int p,.int q],.tup [.int p',.int q']] (.ok (.va (dG (p * q'+p' * q) (q * q')))):=⟨p,q,p',q',hp,hq,hp',hq',z,rfl,rfl⟩
theorem JG (hp:Sz p) (hq:Sz q) (hp':Sz p') (hq':Sz q') (z:q * q'≠0):F4 sP iw [.tup [.int p,.int q],.tup [.int p',.int q']] (.ok (.va (dG (p * q' - p' * q) (q * q')))):=⟨p,q,p',q',hp,hq,hp',hq',z,rfl,rfl⟩
theorem Fv (hp:Sz p) (hq:Sz q) (hp':Sz p') (hq':Sz q') (z:q * q'≠0):F4 lY iw [.tup [.int p,.int q],.tup [.int p',.int q']] (.ok (.va (dG (p * p') (q * q')))):=⟨p,q,p',q',hp,hq,hp',hq',z,rfl,rfl⟩
section
local macro_rules | `(tactic| walk_at "evCa")=> `(tactic| with_reducible refine aM (F:=CA) (by assumption) (by decide) ?_)
local macro_rules | `(tactic| walk_at "evL")=> `(tactic| first | ((with_reducible show Sd (EV.MulOk _ _) _); with_reducible refine Sd.mk (JF (by assumption) (by assumption)) ?_))
theorem JH (Fu:dO K "frac_sum" "frac_sum" (top 6) f fd) (hof:cQ P w K mg base 2 "fraction_of" CA):bh P w K mg base (cV P w) 3 f fd ["one","other"] (eS K (F4 CD iw)):=by
 refine cD Fu sH (by rintro ds r ⟨p,q,p',q',_,_,_,_,_,rfl,_⟩; rfl) (by rintro ds r ⟨p,q,p',q',_,_,_,_,_,_,rfl⟩; exact ⟨_,rfl⟩) λc hqq ds sl hF=>?_
 obtain ⟨p,q,p',q',hp,hq,hp',hq',hz,rfl,e⟩:=hF
 injection e with e
 subst e
 show aH c _ [.va (.tup [.int p,.int q]),.va (.tup [.int p',.int q'])] _ _
 conv in (av _)=>whnf
 walk_at "ev"
 exact aC (CB hz (qi hq hq')) (nI rfl)
theorem Fw (Fu:dO K "frac_less" "frac_less" (top 7) f fd) (hof:cQ P w K mg base 2 "fraction_of" CA):bh P w K mg base (cV P w) 3 f fd ["one","other"] (eS K (F4 sP iw)):=by
 refine cD Fu p7 (by rintro ds r ⟨p,q,p',q',_,_,_,_,_,rfl,_⟩; rfl) (by rintro ds r ⟨p,q,p',q',_,_,_,_,_,_,rfl⟩; exact ⟨_,rfl⟩) λc hqq ds sl hF=>?_
 obtain ⟨p,q,p',q',hp,hq,hp',hq',hz,rfl,e⟩:=hF
 injection e with e
 subst e
 show aH c _ [.va (.tup [.int p,.int q]),.va (.tup [.int p',.int q'])] _ _
 conv in (av _)=>whnf
 walk_at "ev"
 exact aC (CB hz (qi hq hq')) (nI rfl)
theorem CF (Fu:dO K "frac_times" "frac_times" (top 8) f fd) (hof:cQ P w K mg base 2 "fraction_of" CA):bh P w K mg base (cV P w) 3 f fd ["one","other"] (eS K (F4 lY iw)):=by
 refine cD Fu mY (by rintro ds r ⟨p,q,p',q',_,_,_,_,_,rfl,_⟩; rfl) (by rintro ds r ⟨p,q,p',q',_,_,_,_,_,_,rfl⟩; exact ⟨_,rfl⟩) λc hqq ds sl hF=>?_
 obtain ⟨p,q,p',q',hp,hq,hp',hq',hz,rfl,e⟩:=hF
 injection e with e
 subst e
 show aH c _ [.va (.tup [.int p,.int q]),.va (.tup [.int p',.int q'])] _ _
 conv in (av _)=>whnf
 walk_at "ev"
 exact aC (CB hz (qi hq hq')) (nI rfl)
end
end
section
variable {K:OR}
noncomputable def Dr (p:List Int) (g:Nat->Int) (k:Nat):Int:=if aQ p k>g k then aQ p k else g k
noncomputable def gk (L:List aI) (k:Nat):Int:=L.foldl (λa t=>if aQ t.1 k>a then aQ t.1 k else a) 0
noncomputable def aS (L:List aI):List Int:=(Pc 6).map (gk L)
noncomputable def iy (p:List Int) (g:Nat->Int) (j k:Nat):Int:=if k<j then Dr p g k else g k
theorem qj (L:List aI) (k):∀ a:Int,a<=L.foldl (λa t=>if aQ t.1 k>a then aQ t.1 k else a) a:=by
 induction L with
 | nil=>exact λa=>PV _
 | cons t L ih =>
  intro a
  rw [Ra]
  refine PB ?_ (ih _)
  split <;> lia
theorem sQ (L) (k):0<=gk L k:=qj L k 0
theorem xy (L) (t):gk (L++[t])=Dr t.1 (gk L):=by
 funext k
 unfold gk Dr
 rw [Sb]; rfl
theorem Fx:iy p (gk L) p.length=Dr p (gk L):=by
 funext k
 unfold iy
 split
 ·rfl
 ·unfold Dr
  rw [bX (by lia)]
  have:=sQ L k
  rw [if_neg (by lia)]
theorem CG (p) (g):iy p g 0=g:=by funext k; unfold iy; rw [if_neg (by lia)]
noncomputable def bR (g:Nat->Int):List D:=((Pc 6).map g).map D.int
theorem CH (p) (g) (h:j<6) (q:Dr p g j=aQ p j):(bR (iy p g j)).set j (.int (aQ p j))=bR (iy p g (j+1)):=by
 refine Vy (by simp [bR]) λi h1 h2=>?_
 have hi:i<6:=by simpa [bR] using h2
 rw [List.getElem_set]
 simp only [bR,Vw,Va]
 unfold iy
 by_cases e:j=i
 ·subst e
  rw [if_pos rfl,if_pos (by lia),q]
 ·rw [if_neg e]
  by_cases z:i<j
  ·rw [if_pos z,if_pos (by lia)]
  ·rw [if_neg z,if_neg (by lia)]
theorem zg (p) (g) (q:Dr p g j=g j):bR (iy p g j)=bR (iy p g (j+1)):=by
 unfold bR
 congr 1
 refine Q7 λi _=>?_
 unfold iy
 by_cases z:i<j
 ·rw [if_pos z,if_pos (by lia)]
 ·by_cases e:i=j
  ·subst e; rw [if_neg z,if_pos (by lia),q]
  ·rw [if_neg z,if_neg (by lia)]
theorem qk (g) {j:Nat} (h:j<6):jS (bR g) (j:Int)=some (.int (g j)):=by
 rw [fF (by lia) (by simp [bR]; lia),P6]
 simp [bR,h]
noncomputable def fN:Fn:=λds r=>∃ L:List aI,(∀ t∈L,t.1.length<=6)/\ds=[.lst (L.map ah)]/\r=.ok (.ow (bR (gk L)))
theorem kg (h:∀ t∈L,t.1.length<=6):fN [.lst (L.map ah)] (.ok (.ow (bR (gk L)))):=⟨L,h,rfl,rfl⟩
section
local macro_rules | `(tactic| walk_at "evPut")=> `(tactic| with_reducible refine Jd (by walk_at "at") (by walk_at "at") (by walk_at "own") ?_)
local macro_rules | `(tactic| walk_at "evX")=> `(tactic| first | ((with_reducible show dP _ (Sw _ Operator.Mult _ _) _ _); with_reducible refine LP ?_))
local macro_rules | `(tactic| walk_at "evE")=> `(tactic| first | ((with_reducible show aJ _ (O9 "PLACES" _) _ _); with_reducible refine kM (by assumption) ?_))
theorem CI (Fu:dO K "greatest_powers" "greatest_powers" (top 16) f fd) (T:Txt K mg) (PL:∃ tk:Tok,mg "PLACES"=some (.int 6 tk)):bh P w K mg base (cV P w) 1 f fd ["some"] (eS K fN):=by
 obtain ⟨tk,hPL⟩:=PL
 refine cD Fu iu (by rintro ds r ⟨L,_,rfl,_⟩; rfl) (by rintro ds r ⟨L,_,_,rfl⟩; exact ⟨_,rfl⟩) λc hq ds sl hF=>?_
 obtain ⟨L,hl,rfl,e⟩:=hF
 injection e with e
 subst e
 show aH c _ [.va (.lst (L.map ah)),.un,.un,.un,.un,.un] _ _
 conv in (av _)=>whnf
 walk_at "ev"
 refine ⟨_,rfl,?_⟩
 walk_at "ev"
 ·exact ⟨⟨by decide,by decide⟩,by decide⟩
 walk_at "ev"
 show fX c _ [.va (.lst (L.map ah)),.ow (bR (gk [])),.un,.un,.un,.un] _ _
 with_reducible refine cX hq (dS ?_)
 walk_at "ev"
 refine ⟨λi ρ'=>∃ s2 s3 s4 s5:Sl,ρ'=[.va (.lst (L.map ah)),.ow (bR (gk (L.take i))),s2,s3,s4,s5],⟨_,_,_,_,rfl⟩,?_,?_⟩
 ·rintro c' tF zw zz i d ρ' hd ⟨s2,s3,s4,s5,rfl⟩
  simp only [O8,Pf] at hd
  obtain ⟨t,ht,rfl⟩:=hd
  obtain ⟨hi,rfl⟩:=O6.mp ht
  have h6:=hl _ (Pw hi)
  have hq':c'.X.xe=λ_ _=>False:=by rw [tF]; exact hq
  show o9 c' _ (D.tup [.tup (L[i].1.map .int),.int L[i].2]) _ _
  walk_at "ev"
  have eg:gk (L.take (i+1))=iy L[i].1 (gk (L.take i)) L[i].1.length:=by rw [QE hi,xy,Fx]
  generalize L[i]=t at h6 eg |-
  generalize gk (L.take i)=g at eg |-
  with_reducible refine cX hq' (Jg (Txt.enum (by assumption)) ?_)
  walk_at "ev"
  refine ⟨_,rfl,?_⟩
  refine ⟨λj ρ'=>∃ s4 s5:Sl,ρ'=[.va (.lst (L.map ah)),.ow (bR (iy t.1 g j)),.va (.tup (t.1.map .int)),.va (.int t.2),s4,s5],⟨s4,s5,by rw [CG]⟩,?_,?_⟩
  ·rintro c2 hcX2 hcR2 hcM2 j d ρ' hd ⟨s4,s5,rfl⟩
   unfold lO at hd
   simp only [O8,Pf,List.getElem?_zipIdx] at hd
   obtain ⟨⟨x,m⟩,⟨y,⟨z,hz,rfl⟩,e⟩,rfl⟩:=hd
   obtain ⟨rfl,rfl⟩:D.int z=x/\0+j=m:=by simpa using e
   obtain ⟨hj,rfl⟩:=O6.mp hz
   have hj6:j<6:=by lia
   have ha:jS (bR (iy t.1 g j)) (((0+j:Nat):Int))=some (.int (g j)):=by
    rw [Rg,qk _ hj6]; unfold iy; rw [if_neg (by lia)]
   have ep:aQ t.1 j=t.1[j]:=bV hj
   have hj0:0+j=j:=Rg j
   rw [hj0] at ha |-
   show o9 c2 _ (D.tup [.int (j:Nat),.int t.1[j]]) _ _
   walk_at "ev"
   ·refine ⟨j,rfl,⟨by simp [bR]; lia,?_⟩⟩
    walk_at "ev"
    refine ⟨.va (.int (j:Nat)),.va (.int t.1[j]),?_⟩
    show [_,Sl.ow ((bR (iy t.1 g j)).set j (.int t.1[j])),_,_,_,_]=_
    rw [<- ep,CH t.1 g hj6 (by unfold Dr; rw [ep,if_pos (by assumption)])]
   ·refine ⟨.va (.int (j:Nat)),.va (.int t.1[j]),?_⟩
    rw [zg t.1 g (by unfold Dr; rw [ep,if_neg (by assumption)])]
  ·rintro ρ' ⟨s4,s5,rfl⟩
   rw [show (lO (t.1.map D.int)).length=t.1.length by simp [lO]]
   walk_at "ev"
   exact ⟨_,_,_,_,by rw [eg]⟩
 ·rintro ρ' ⟨s2,s3,s4,s5,rfl⟩
  rw [OW,Qo]
  walk_at "ev"
  rfl
end
noncomputable def i6 (ns:List Int):Int:=ns.foldr max 0
theorem sR:∀ {ns:List Int} {n:Int},n∈ns->n<=i6 ns
 | x::ns,n,h=>by
  show n<=max x (i6 ns)
  rcases O2.mp h with rfl | h
  ·lia
  ·have:=sR h; lia
theorem lZ:∀ (ns:List Int),0<=i6 ns
 | []=>PV _
 | x::ns=>by show 0<=max x (i6 ns); have:=lZ ns; lia
theorem u5:∀ {ns:List Int} {m:Int},0<=m->(∀ n∈ns,n<=m)->i6 ns<=m
 | [],_,h,_=>h
 | x::ns,m,h0,h=>by
  show max x (i6 ns)<=m
  have:=u5 h0 λn hn=>h n (O1 _ hn)
  have:=h x OY
  lia
theorem sS (h:m∈aS L) (h2:∀ n∈aS L,n<=m):m=i6 (aS L):=by
 have h0:0<=m:=by
  unfold aS at h
  obtain ⟨k,_,rfl⟩:=Pn.mp h
  exact sQ L k
 exact Int.le_antisymm (sR h) (u5 h0 h2)
noncomputable def jE (A B:List aI):Nat:=PY (i6 (aS A)+i6 (aS B))
noncomputable def zh:Fn:=λds r=>∃ A B:List aI,(∀ t∈A++B,t.1.length<=6)/\ds=[.lst (A.map ah),.lst (B.map ah)]/\r=.ok (.va (.int (jE A B:Nat)))
theorem GR (h:∀ t∈A++B,t.1.length<=6):zh [.lst (A.map ah),.lst (B.map ah)] (.ok (.va (.int (jE A B:Nat)))):=⟨A,B,h,rfl,rfl⟩
section
local macro_rules | `(tactic| walk_at "evMt")=> `(tactic| with_reducible refine Jc ?_)
local macro_rules | `(tactic| walk_at "evCa")=> `(tactic| first
 | ((with_reducible show aJ _ (Qj (O9 "max" _) [_] _ _) _ _); with_reducible refine Je (Txt.max (by assumption)) ?_)
 | with_reducible refine aM (F:=fN) (by assumption) (by decide) ?_)
theorem JI (Fu:dO K "width_for" "width_for" (top 17) f fd) (T:Txt K mg) (h1:cQ P w K mg base 1 "greatest_powers" fN):bh P w K mg base (cV P w) 2 f fd ["one","other"] (eS K zh):=by
 refine cD Fu qa (by rintro ds r ⟨A,B,_,rfl,_⟩; rfl) (by rintro ds r ⟨A,B,_,_,rfl⟩; exact ⟨_,rfl⟩) λc hq ds sl hF=>?_
 obtain ⟨A,B,hp,rfl,e⟩:=hF
 injection e with e
 subst e
 show aH c _ [.va (.lst (A.map ah)),.va (.lst (B.map ah)),.un] _ _
 conv in (av _)=>whnf
 walk_at "ev"
 refine aC (kg λt ht=>hp t (Qk _ ht)) (gS ⟨aS A,by simp [aS],rfl,λm ⟨m1,m2⟩=>?_⟩)
 rw [sS m1 m2]
 walk_at "ev"
 refine aC (kg λt ht=>hp t (Qs _ ht)) (gS ⟨aS B,by simp [aS],rfl,λm ⟨m1,m2⟩=>?_⟩)
 rw [sS m1 m2]
 walk_at "ev"
 rfl
end
end
section
variable {K:OR}
noncomputable def zj:Fn:=λds r=>∃ (p:List Int) (W:Nat),W<=10/\Bd (2 ^ W) p/\ds=[.tup (p.map .int),.int (W:Nat)]/\r=.ok (.va (.int (pk (2 ^ W) p)))
theorem GS (h:W<=10) (h2:Bd (2 ^ W) p):zj [.tup (p.map .int),.int (W:Nat)] (.ok (.va (.int (pk (2 ^ W) p)))):=⟨p,W,h,h2,rfl,rfl⟩
section
local macro_rules | `(tactic| walk_at "evE")=> `(tactic| first | ((with_reducible show aJ _ (O9 "PLACES" _) _ _); with_reducible refine kM (by assumption) ?_))
local macro_rules | `(tactic| walk_at "evBo")=> `(tactic| first | with_reducible refine GI ?_ | with_reducible refine BP ?_ | with_reducible refine uG ?_)
theorem JJ (Fu:dO K "key_of" "key_of" (top 18) f fd) (T:Txt K mg) (PL:∃ tk:Tok,mg "PLACES"=some (.int 6 tk)):bh P w K mg base (cV P w) 1 f fd ["powers","width"] (eS K zj):=by
 obtain ⟨tk,hPL⟩:=PL
 refine cD Fu zb (by rintro ds r ⟨p,W,_,_,rfl,_⟩; rfl) (by rintro ds r ⟨p,W,_,_,_,rfl⟩; exact ⟨_,rfl⟩) λc hq ds sl hF=>?_
 obtain ⟨p,W,hW,hp,rfl,e⟩:=hF
 injection e with e
 subst e
 have h6:=hp.1
 show aH c _ [.va (.tup (p.map .int)),.va (.int (W:Nat)),.un,.un] _ _
 conv in (av _)=>whnf
 walk_at "ev"
 with_reducible refine cX hq (dS ?_)
 walk_at "ev"
 refine ⟨λi ρ'=>∃ s3:Sl,ρ'=[.va (.tup (p.map .int)),.va (.int (W:Nat)),.va (.int (E1 (2 ^ W) (p.take i))),s3],⟨_,rfl⟩,?_,?_⟩
 ·rintro c' tF zw zz i d ρ' hd ⟨s3,rfl⟩
  simp only [O8,Pf] at hd
  obtain ⟨x,hx,rfl⟩:=hd
  obtain ⟨hi,rfl⟩:=O6.mp hx
  have bd:=BZ (two_pos W) (p:=p.take i) λx hx=>hp.2 x (TY hx)
  have hl:(p.take i).length<=6:=by rw [PZ]; lia
  walk_at "ev"
  ·exact ⟨by lia,by lia,xo hW hl bd.1 bd.2⟩
  ·refine ⟨.va (.int p[i]),?_⟩
   rw [QE hi,BY,P6]
 ·rintro ρ' ⟨s3,rfl⟩
  rw [OW,Qo]
  have bd:=BZ (two_pos W) hp.2
  have ew:(W:Int) * (6 - ((p.map D.int).length:Nat))=((W * (6 - p.length):Nat):Int):=by
   rw [OW,Int.natCast_mul,Int.ofNat_sub h6]; rfl
  have ew2:W * (6 - p.length)<=60:=O3 (Sj hW (Nat.sub_le 6 _)) (by decide)
  walk_at "ev"
  ·exact kW (by lia)
  ·rw [ew]; exact ⟨by lia,by lia,xo hW h6 bd.1 bd.2⟩
  ·show Sl.va _=Sl.va _
   rw [ew,P6,Int.pow_mul,Jm h6]
end
theorem gv {α:Type} (f:α->D):∀ L:List α,(L.map λt=>some (f t)).filterMap id=L.map f
 | []=>rfl
 | x::L=>by
  rw [O4,O4,R8]
  exact congrArg (f x:: ·) (gv f L)
noncomputable def oF:Fn:=λds r=>∃ (x:Int) (W:Nat),W<=10/\0<=x/\ds=[.int x,.int (W:Nat)]/\r=.ok (.va (.tup ((uL (2 ^ W) x).map .int)))
theorem CJ (h:W<=10) (h2:0<=x):oF [.int x,.int (W:Nat)] (.ok (.va (.tup ((uL (2 ^ W) x).map .int)))):=⟨x,W,h,h2,rfl,rfl⟩
section
local macro_rules | `(tactic| walk_at "evE")=> `(tactic| first | ((with_reducible show aJ _ (O9 "PLACES" _) _ _); with_reducible refine kM (by assumption) ?_))
local macro_rules | `(tactic| walk_at "evBo")=> `(tactic| first | with_reducible refine GI ?_ | with_reducible refine BP ?_ | with_reducible refine uG ?_)
local macro_rules | `(tactic| walk_at "evXC")=> `(tactic| first | with_reducible refine x_call (F:=gU) (by assumption) (by decide) ?_)
theorem Fy (Fu:dO K "powers_of" "powers_of" (top 19) f fd) (T:Txt K mg) (PL:∃ tk:Tok,mg "PLACES"=some (.int 6 tk)) (h1:cQ P w K mg base 1 "trimmed" gU):bh P w K mg base (cV P w) 2 f fd ["key","width"] (eS K oF):=by
 obtain ⟨tk,hPL⟩:=PL
 refine cD Fu qb (by rintro ds r ⟨x,W,_,_,rfl,_⟩; rfl) (by rintro ds r ⟨x,W,_,_,_,rfl⟩; exact ⟨_,rfl⟩) λc hq ds sl hF=>?_
 obtain ⟨x,W,hW,hx,rfl,e⟩:=hF
 injection e with e
 subst e
 show aH c _ [.va (.int x),.va (.int (W:Nat)),.un] _ _
 conv in (av _)=>whnf
 walk_at "ev"
 ·exact ⟨by lia,by lia,by decide⟩
 walk_at "ev"
 rw [P6]
 refine e_x (gc hq (N':=["k","key","mask","width"]) (ρ0:=λ_=>[.un,.va (.int x),.va (.int (1 * 2 ^ W - 1)),.va (.int (W:Nat))]) (λt=>.un (.fr (by walk_at "at") (by walk_at "at") (by decide) rfl (.fr (by walk_at "at") (by walk_at "at") (by decide) rfl (.fr (by walk_at "at") (by walk_at "at") (by decide) rfl .nil)))) (Ji (Txt.range T) ?_))
 walk_at "ev"
 refine ⟨rfl,⟨⟨by decide,by decide⟩,⟨⟨by decide,by decide⟩,⟨by decide,?_⟩⟩⟩⟩
 refine ⟨(Pc 6).map λ(i:Nat)=>some (.int (x / (2 ^ W) ^ (5 - i) % 2 ^ W)),rfl,?_,gS ?_⟩
 ·intro c' hc t i d o hd ho
  unfold BU at hd
  simp only [O8,Pf] at hd ho
  obtain ⟨a,ha,rfl⟩:=hd
  obtain ⟨a',ha',rfl⟩:=ho
  have hi:i<6:=by simpa using (O6.mp ha').1
  rw [SI hi] at ha'; cases ha'
  rw [show (6 - 1 - -1:Int).toNat=6 by decide,SI hi] at ha; cases ha
  refine eG (by walk_at "at") (qC (by walk_at "sset") ⟨.un (.same (.same (.same .nil))),?_⟩)
  simp only [nK]
  refine ⟨λ_=>?_,λh=>by cases h⟩
  have e5:((W:Int) * (6 - 1 - (i:Int))).toNat=W * (5 - i):=by
   rw [show ((6:Int) - 1 - (i:Int))=((5 - i:Nat):Int) by lia,<- Int.natCast_mul,P6]
  have e6:(0:Int)<=(W:Int) * (6 - 1 - (i:Int)):=SY (by lia) (by lia)
  have hp:(0:Int)<(2 ^ W) ^ (5 - i):=QL (two_pos W)
  walk_at "ev"
  ·exact kW (by lia)
  ·show some _=some (D.int _)
   rw [e5,Int.pow_mul,oA W (Int.ediv_nonneg hx (by lia))]
 ·refine ⟨_,rfl,?_⟩
  rw [gv (λ(i:Nat)=>D.int (x / (2 ^ W) ^ (5 - i) % 2 ^ W)) (Pc 6),show ((Pc 6).map λ(i:Nat)=>D.int (x / (2 ^ W) ^ (5 - i) % 2 ^ W))=((Pc 6).map λ(i:Nat)=>x / (2 ^ W) ^ (5 - i) % 2 ^ W).map D.int by rw [Py]; rfl]
  walk_at "ev"
  exact aC (uZ (by simp)) rfl
end
noncomputable def oG (b:Int) (t:aI):D:=.tup [.int (pk b t.1),.int t.2]
noncomputable def oH:Fn:=λds r=>∃ (L:List aI) (W:Nat),W<=10/\L.length<=400000/\(∀ t∈L,Bd (2 ^ W) t.1)/\ds=[.lst (L.map ah),.int (W:Nat)]/\r=.ok (.ow (L.map (oG (2 ^ W))))
theorem ql {L:List aI} (h:W<=10) (h1:L.length<=400000) (h2:∀ t∈L,Bd (2 ^ W) t.1):oH [.lst (L.map ah),.int (W:Nat)] (.ok (.ow (L.map (oG (2 ^ W))))):=⟨L,W,h,h1,h2,rfl,rfl⟩
section
local macro_rules | `(tactic| walk_at "evCa")=> `(tactic| first | with_reducible refine aM (F:=zj) (by assumption) (by decide) ?_)
theorem Fz (Fu:dO K "packed" "packed" (top 20) f fd) (T:Txt K mg) (h1:cQ P w K mg base 1 "key_of" zj):bh P w K mg base (cV P w) 2 f fd ["some","width"] (eS K oH):=by
 refine cD Fu zc (by rintro ds r ⟨L,W,_,_,_,rfl,_⟩; rfl) (by rintro ds r ⟨L,W,_,_,_,_,rfl⟩; exact ⟨_,rfl⟩) λc hq ds sl hF=>?_
 obtain ⟨L,W,hW,hL,hb,rfl,e⟩:=hF
 injection e with e
 subst e
 show aH c _ [.va (.lst (L.map ah)),.va (.int (W:Nat))] _ _
 conv in (av _)=>whnf
 refine ak (nG (gc hq (N':=["powers","number","width"]) (ρ0:=λ_=>[.un,.un,.va (.int (W:Nat))]) (λt=>.un (.un (.fr (by walk_at "at") (by walk_at "at") (by decide) rfl .nil))) (dS ?_)))
 walk_at "ev"
 ·exact Fg (by rw [OW]; lia)
 refine ⟨L.map λt=>some (oG (2 ^ W) t),by simp,?_,by show Sl.ow _=Sl.ow _; rw [gv]⟩
 intro c' hc t i d o hd ho
 simp only [O8,Pf] at hd ho
 obtain ⟨x,hx,rfl⟩:=hd
 obtain ⟨x',hx',rfl⟩:=ho
 rw [hx] at hx'; cases hx'
 have hbx:=hb x (QG hx)
 show o9 c' _ (.tup [.tup (x.1.map .int),.int x.2]) _ _
 walk_at "ev"
 refine ⟨.un (.un (.same .nil)),?_⟩
 simp only [nK]
 refine ⟨λ_=>?_,λh=>by cases h⟩
 walk_at "ev"
 refine aC (GS hW hbx) ?_
 walk_at "ev"
 rfl
end
end
section
variable {P:Program} {w:World} {K:OR} {mg:Str->Option Value} {base:Heap}
noncomputable def JK:NU:=λkvs ds Z=>∃ (ts A B:List aI) (W:Nat),W<=10/\ts.length+A.length * B.length<=400000/\A.length<=400000/\B.length<=400000/\(∀ t∈ts,Bd (2 ^ W) t.1)/\(∀ l∈A,∀ r∈B,Bd (2 ^ W) (cg l.1 r.1)/\EV.MulOk l.2 r.2) /\
 kvs=aZ ((aU ts).map (fu (2 ^ W)))/\ds=[.lst (A.map (oG (2 ^ W))),.lst (B.map (oG (2 ^ W)))]/\Z=λkvs'=>kvs'=aZ ((aU (ts++aE A B)).map (fu (2 ^ W)))
section
local macro_rules | `(tactic| walk_at "evS")=> `(tactic| first | ((with_reducible show fX _ (Uh (Qe (O9 _ _) _ _) Uv _ _) _ _ _); with_reducible refine vZ (by walk_at "at") (by walk_at "at") ?_ (ho:=by walk_at "own")))
theorem JL (Fu:dO K "add_products" "add_products" (top 22) f fd) (T:Txt K mg):bh P w K mg base (cV P w) 1 f fd ["total","left","right"] (Kq K JK):=by
 refine NV Fu jU (by rintro kvs ds Z ⟨t0,A,B,W,_,_,_,_,_,_,_,rfl,_⟩; rfl) λc hq q kvs ds Z hF=>?_
 obtain ⟨t0,A,B,W,hW,hl,hA,hB,hb0,hp,rfl,rfl,rfl⟩:=hF
 have e00:t0=t0++aE (A.take 0) B:=by show t0=t0++[]; rw [Qd]
 rw [show aZ ((aU t0).map (fu (2 ^ W)))=aZ ((aU (t0++aE (A.take 0) B)).map (fu (2 ^ W))) by rw [<- e00]]
 show aH c _ [.aK q (aZ ((aU (t0++aE (A.take 0) B)).map (fu (2 ^ W)))),.va (.lst (A.map (oG (2 ^ W)))),.va (.lst (B.map (oG (2 ^ W)))),.un,.un,.un,.un,.un] _ _
 conv in (av _)=>whnf
 walk_at "ev"
 with_reducible refine cX hq (dS ?_)
 walk_at "ev"
 refine ⟨λi ρ'=>∃ s3 s4 s5 s6 s7:Sl,ρ'=[.aK q (aZ ((aU (t0++aE (A.take i) B)).map (fu (2 ^ W)))),.va (.lst (A.map (oG (2 ^ W)))),.va (.lst (B.map (oG (2 ^ W)))),s3,s4,s5,s6,s7],⟨_,_,_,_,_,rfl⟩,?_,?_⟩
 ·rintro c' tF zw zz i d ρ' hd ⟨s3,s4,s5,s6,s7,rfl⟩
  simp only [O8,Pf] at hd
  obtain ⟨l,hlx,rfl⟩:=hd
  obtain ⟨hi,rfl⟩:=O6.mp hlx
  have hq':c'.X.xe=λ_ _=>False:=by rw [tF]; exact hq
  show o9 c' _ (.tup [.int (pk (2 ^ W) A[i].1),.int A[i].2]) _ _
  walk_at "ev"
  with_reducible refine cX hq' (dS ?_)
  walk_at "ev"
  have hpi:=hp A[i] (Pw hi)
  have e0:t0++aE (A.take (i+1)) B=(t0++aE (A.take i) B)++B.map (fk A[i]):=by
   rw [QE hi,yO,Pp]
  have hprev:∀ t∈t0++aE (A.take i) B,Bd (2 ^ W) t.1:=λt ht=>by
   rcases Pb.mp ht with z | z
   ·exact hb0 t z
   ·obtain ⟨l,hl,r,hr,rfl⟩:=iX z
    exact (hp l (TY hl) r hr).1
  have hlen:(t0++aE (A.take i) B).length+B.length<=400000:=by
   rw [Pr,lS,PZ,SQ (by lia),S9,<- Td]
   exact O3 (Nat.add_le_add_left (Nat.mul_le_mul_right _ (by lia)) _) hl
  generalize A[i]=l at hpi e0 |-
  generalize t0++aE (A.take i) B=ts at e0 hprev hlen |-
  refine ⟨λj ρ'=>∃ s5 s6 s7:Sl,ρ'=[.aK q (aZ ((aU (ts++(B.take j).map (fk l))).map (fu (2 ^ W)))),.va (.lst (A.map (oG (2 ^ W)))),.va (.lst (B.map (oG (2 ^ W)))),.va (.int (pk (2 ^ W) l.1)),.va (.int l.2),s5,s6,s7],⟨s5,s6,s7,by simp⟩,?_,?_⟩
  ·rintro c2 hcX2 hcR2 hcM2 j d ρ' hd ⟨s5,s6,s7,rfl⟩
   simp only [O8,Pf] at hd
   obtain ⟨r,hrx,rfl⟩:=hd
   obtain ⟨hj,rfl⟩:=O6.mp hrx
   obtain ⟨hb,hm⟩:=hpi B[j] (Pw hj)
   have e1:ts++(B.take (j+1)).map (fk l)=(ts++(B.take j).map (fk l))++[fk l B[j]]:=by
    rw [QE hj,PR,Pp]; rfl
   have hprev2:∀ t∈ts++(B.take j).map (fk l),Bd (2 ^ W) t.1:=λt ht=>by
    rcases Pb.mp ht with z | z
    ·exact hprev t z
    ·obtain ⟨r,hr,rfl⟩:=Pn.mp z
     exact (hpi r (TY hr)).1
   have hlen2:(ts++(B.take j).map (fk l)).length<400000:=by
    rw [Pr,OW,PZ]; lia
   have key:=Jl (two_pos W) hprev2 (t:=fk l B[j]) hb
   rw [<- e1] at key
   generalize ts++(B.take j).map (fk l)=us at key hlen2 |-
   generalize B[j]=r at key hb hm |-
   show o9 c2 _ (.tup [.int (pk (2 ^ W) r.1),.int r.2]) _ _
   have ek:pk (2 ^ W) (fk l r).1=pk (2 ^ W) l.1+pk (2 ^ W) r.1:=fM _ _ _
   rw [ek] at key
   have hC:(aZ ((aU us).map (fu (2 ^ W)))).length<sizeLine:=dM (by
    have:=fL us
    simp only [aZ,OW]; lia)
   generalize (aU us).map (fu (2 ^ W))=C at key hC |-
   walk_at "ev"
   refine GA (by walk_at "at") (by walk_at "at") ?_
   walk_at "ev"
   refine ⟨_,.k rfl rfl,?_⟩
   rw [cL]
   cases hv:ay C (pk (2 ^ W) l.1+pk (2 ^ W) r.1) with
   | some m =>
    rw [hv] at key
    show iF _ _ true
    walk_at "ev"
    refine ⟨m,by rw [<- show ay (aZ C) (.inl (pk (2 ^ W) l.1+pk (2 ^ W) r.1))=some (D.int m) by rw [cL,hv]; rfl]; exact .k rfl rfl,?_⟩
    walk_at "ev"
    refine ⟨_,.k rfl rfl hC,?_⟩
    walk_at "ev"
    refine ⟨.va (.int (pk (2 ^ W) r.1)),.va (.int r.2),.va (.int (pk (2 ^ W) l.1+pk (2 ^ W) r.1)),?_⟩
    show [Sl.aK q (putD (aZ C) (.inl (pk (2 ^ W) l.1+pk (2 ^ W) r.1)) (.int (m+l.2 * r.2))),_,_,_,_,_,_,_]=_
    rw [fj,show putD C (pk (2 ^ W) l.1+pk (2 ^ W) r.1) (m+l.2 * r.2)=_ from key]
   | none =>
    rw [hv] at key
    show iF _ _ false
    walk_at "ev"
    refine ⟨_,.k rfl rfl hC,?_⟩
    walk_at "ev"
    refine ⟨.va (.int (pk (2 ^ W) r.1)),.va (.int r.2),.va (.int (pk (2 ^ W) l.1+pk (2 ^ W) r.1)),?_⟩
    show [Sl.aK q (putD (aZ C) (.inl (pk (2 ^ W) l.1+pk (2 ^ W) r.1)) (.int (l.2 * r.2))),_,_,_,_,_,_,_]=_
    rw [fj,<- Tf (l.2 * r.2),show putD C (pk (2 ^ W) l.1+pk (2 ^ W) r.1) (0+l.2 * r.2)=_ from key]
  ·rintro ρ' ⟨s5,s6,s7,rfl⟩
   rw [OW,Qo,<- e0]
   walk_at "ev"
   exact ⟨_,_,_,_,_,rfl⟩
 ·rintro ρ' ⟨s3,s4,s5,s6,s7,rfl⟩
  rw [OW,Qo]
  walk_at "ev"
  exact ⟨_,_,rfl,rfl⟩
end
noncomputable def JM (C:List (Int×Int)):D:=.fdK ((aZ C).map (·.1)) ((aZ C).map (·.2))
theorem sU (C):(aZ C).map (·.1)=(C.map (·.1)).map Pd:=by unfold aZ; rw [Py,Py]; rfl
noncomputable def FA:Fn:=λds r=>∃ (ts:List aI) (W:Nat),W<=10/\ts.length<=400000/\(∀ t∈ts,Bd (2 ^ W) t.1)/\ds=[JM ((aU ts).map (fu (2 ^ W))),.int (W:Nat)]/\r=.ok (.ow ((aR ts).map ah))
theorem L7 (h:W<=10) (h1:ts.length<=400000) (h2:∀ t∈ts,Bd (2 ^ W) t.1):FA [JM ((aU ts).map (fu (2 ^ W))),.int (W:Nat)] (.ok (.ow ((aR ts).map ah))):=⟨ts,W,h,h1,h2,rfl,rfl⟩
theorem u6 (h:gn ltI true L):L.Pairwise λx y=>y<x:=by
 unfold gn at h
 exact h.imp λ{x y} q=>by simpa using q
section
local macro_rules | `(tactic| walk_at "evIx")=> `(tactic| with_reducible refine B4 ?_)
local macro_rules | `(tactic| walk_at "evCa")=> `(tactic| first | with_reducible refine aM (F:=oF) (by assumption) (by decide) ?_)
theorem JN (Fu:dO K "unpacked" "unpacked" (top 21) f fd) (T:Txt K mg) (h1:cQ P w K mg base 2 "powers_of" oF):bh P w K mg base (cV P w) 3 f fd ["total","width"] (eS K FA):=by
 refine cD Fu sL (by rintro ds r ⟨ts,W,_,_,_,rfl,_⟩; rfl) (by rintro ds r ⟨ts,W,_,_,_,_,rfl⟩; exact ⟨_,rfl⟩) λc hq ds sl hF=>?_
 obtain ⟨ts,W,hW,hl,hb,rfl,e⟩:=hF
 injection e with e
 subst e
 show aH c _ [.va (JM ((aU ts).map (fu (2 ^ W)))),.va (.int (W:Nat))] _ _
 conv in (av _)=>whnf
 refine ak (nG (gc hq (N':=["key","total","width"]) (ρ0:=λ_=>[.un,.va (JM ((aU ts).map (fu (2 ^ W)))),.va (.int (W:Nat))]) (λt=>.un (.fr (by walk_at "at") (by walk_at "at") (by decide) rfl (.fr (by walk_at "at") (by walk_at "at") (by decide) rfl .nil))) (dS (e_x (uJ (Txt.sorted T) ?_)))))
 walk_at "ev"
 have hk:=c7 ts
 have hg:=lR hb
 have nd:(((aU ts).map (fu (2 ^ W))).map (·.1)).Nodup:=by
  rw [Py]
  unfold Su at hk |-
  rw [Sa] at hk |-
  exact UL (λ{x y} hx hy q z=>q (uK (two_pos W) (hg x hx).1 (hg y hy).1 (hg x hx).2 (hg y hy).2 z)) hk
 refine ⟨((aU ts).map (fu (2 ^ W))).map (·.1),_,by rw [<- sU]; rfl,nd,λL' hp hs=>?_⟩
 have eL:=BX (two_pos W) hb hp (u6 hs)
 subst eL
 have hle:=fL ts
 have hpl:=(bM (aU ts)).length_eq
 refine gS (ID rfl ⟨Fg (by simp only [OW]; lia),(gP (aU ts)).map tK,by simp,?_,?_⟩)
 ·intro c' hc t i d o hd ho
  simp only [O8,Pf] at hd ho
  obtain ⟨n,⟨x,hx,rfl⟩,rfl⟩:=hd
  obtain ⟨x',hx',rfl⟩:=ho
  rw [hx] at hx'; cases hx'
  have hm:x∈aU ts:=(bM (aU ts)).subset (QG hx)
  have hv:ay (aZ ((aU ts).map (fu (2 ^ W)))) (.inl (pk (2 ^ W) x.1))=some (.int x.2):=by
   rw [cL,pZ (two_pos W) hg (hg x hm).1 (hg x hm).2,p5 hk hm]; rfl
  refine eG (by walk_at "at") (qC (by walk_at "sset") ⟨.un (.same (.same .nil)),?_⟩)
  simp only [nK]
  have h0:=(xm (two_pos W) (hg x hm).1).1
  walk_at "ev"
  refine ⟨_,_,_,rfl,rfl,hv,?_⟩
  walk_at "ev"
  ·unfold tK; rw [if_neg λh=>h (by assumption)]
  refine aC (CJ hW h0) ?_
  rw [uM (two_pos W) (hg x hm).1,(hg x hm).2]
  walk_at "ev"
  refine ⟨_,_,_,rfl,rfl,hv,?_⟩
  walk_at "ev"
  unfold tK
  rw [if_pos (by assumption)]
 ·show Sl.ow _=Sl.ow _
  rw [i0,BK (keys_nodup hk)]
  rfl
end
structure xA (A B:List aI):Prop where
 la:A.length<=400000
 lb:B.length<=400000
 lp:A.length * B.length<=400000
 pa:∀ t∈A,t.1.length<=6/\∀ x∈t.1,0<=x/\x<=500
 pb:∀ t∈B,t.1.length<=6/\∀ x∈t.1,0<=x/\x<=500
 mu:∀ l∈A,∀ r∈B,EV.MulOk l.2 r.2
theorem xB:∀ {L:List aI} (a:Int),a<=m->(∀ t∈L,aQ t.1 k<=m)->L.foldl (λa t=>if aQ t.1 k>a then aQ t.1 k else a) a<=m
 | [],_,h,_=>h
 | t::L,a,h,q=>by
  rw [Ra]
  have:=q t OY
  exact xB _ (by split <;> lia) λu hu=>q u (O1 _ hu)
theorem i7 (h0:0<=m) (h:∀ t∈L,∀ x∈t.1,x<=m):i6 (aS L)<=m:=by
 refine u5 h0 λn hn=>?_
 unfold aS at hn
 obtain ⟨k,_,rfl⟩:=Pn.mp hn
 refine xB 0 h0 λt ht=>?_
 by_cases z:k<t.1.length
 ·rw [bV z]; exact h t ht _ (Pw _)
 ·rw [bX (by lia)]; exact h0
theorem i8 (ht:t∈L) (hl:t.1.length<=6) (hx:x∈t.1):x<=i6 (aS L):=by
 obtain ⟨k,hk,rfl⟩:=List.getElem_of_mem hx
 refine PB ?_ (sR (show gk L k∈aS L from Pn.mpr ⟨k,by simp; lia,rfl⟩))
 unfold gk
 rw [<- bV hk]
 suffices H:∀ a:Int,aQ t.1 k<=L.foldl (λa t=>if aQ t.1 k>a then aQ t.1 k else a) a from H 0
 induction L with
 | nil=>cases ht
 | cons u L ih =>
  intro a
  rw [Ra]
  rcases O2.mp ht with rfl | ht
  ·refine PB ?_ (qj L k _)
   split <;> lia
  ·exact ih ht _
theorem qm (h:0<=x):x<2 ^ PY x:=by
 unfold PY
 by_cases z:x=0
 ·subst z; decide
 ·have e:(x == 0)=false:=by simpa using z
  rw [e,if_neg O5,gF]
  have:=Nat.lt_log2_self (n:=x.natAbs)
  lia
theorem bits_le (h:x.natAbs<1024):PY x<=10:=by
 unfold PY
 by_cases z:x=0
 ·subst z; decide
 ·have e:(x == 0)=false:=by simpa using z
  rw [e,if_neg O5]
  have:=(Tj (n:=x.natAbs) (k:=10) (by lia)).mpr h
  lia
theorem JO (h:xA A B):jE A B<=10/\(∀ t∈A,Bd (2 ^ jE A B) t.1)/\(∀ t∈B,Bd (2 ^ jE A B) t.1)/\∀ l∈A,∀ r∈B,Bd (2 ^ jE A B) (cg l.1 r.1):=by
 have a0:=lZ (aS A)
 have b0:=lZ (aS B)
 have a1:=i7 (L:=A) (m:=500) (by decide) λt ht x hx=>((h.pa t ht).2 x hx).2
 have b1:=i7 (L:=B) (m:=500) (by decide) λt ht x hx=>((h.pb t ht).2 x hx).2
 have lt:=qm (x:=i6 (aS A)+i6 (aS B)) (by lia)
 have le:=bits_le (x:=i6 (aS A)+i6 (aS B)) (by lia)
 unfold jE
 refine ⟨le,λt ht=>⟨(h.pa t ht).1,λx hx=>⟨((h.pa t ht).2 x hx).1,?_⟩⟩,λt ht=>⟨(h.pb t ht).1,λx hx=>⟨((h.pb t ht).2 x hx).1,?_⟩⟩,λl hl r hr=>⟨?_,λx hx=>?_⟩⟩
 ·have:=i8 ht (h.pa t ht).1 hx; lia
 ·have:=i8 ht (h.pb t ht).1 hx; lia
 ·rw [gq]; have:=(h.pa l hl).1; have:=(h.pb r hr).1; lia
 ·unfold cg at hx
  obtain ⟨k,_,rfl⟩:=Pn.mp hx
  have ga:0<=aQ l.1 k/\aQ l.1 k<=i6 (aS A):=by
   by_cases z:k<l.1.length
   ·rw [bV z]; exact ⟨((h.pa l hl).2 _ (Pw _)).1,i8 hl (h.pa l hl).1 (Pw _)⟩
   ·rw [bX (by lia)]; lia
  have gb:0<=aQ r.1 k/\aQ r.1 k<=i6 (aS B):=by
   by_cases z:k<r.1.length
   ·rw [bV z]; exact ⟨((h.pb r hr).2 _ (Pw _)).1,i8 hr (h.pb r hr).1 (Pw _)⟩
   ·rw [bX (by lia)]; lia
  lia
noncomputable def zk:Fn:=λds r=>∃ A B:List aI,xA A B/\ds=[.lst (A.map ah),.lst (B.map ah)]/\r=.ok (.ow ((aR (aE A B)).map ah))
theorem i9 (h:xA A B):zk [.lst (A.map ah),.lst (B.map ah)] (.ok (.ow ((aR (aE A B)).map ah))):=⟨A,B,h,rfl,rfl⟩
section
local macro_rules | `(tactic| walk_at "evX")=> `(tactic| first | ((with_reducible show dP _ (Expr.Dict _ _ _) _ _); with_reducible refine vX ?_))
local macro_rules | `(tactic| walk_at "evCa")=> `(tactic| first | with_reducible refine aM (F:=zh) (by assumption) (by decide) ?_ | with_reducible refine aM (F:=oH) (by assumption) (by decide) ?_)
local macro_rules | `(tactic| walk_at "evXp")=> `(tactic| with_reducible refine EW (F:=JK) (by assumption) (by decide) (by walk_at "at") (by walk_at "at") (by walk_at "own") ?_)
local macro_rules | `(tactic| walk_at "evXC")=> `(tactic| first | ((with_reducible show dP _ (Qj (O9 "unpacked" _) _ _ _) _ _); refine pI 3 (by walk_at "at") rfl (by walk_at "sset") (x_call (F:=FA) (by assumption) (by decide) ?_)))
theorem JP (Fu:dO K "poly_times" "poly_times" (top 23) f fd) (T:Txt K mg) (h1:cQ P w K mg base 2 "width_for" zh) (h2:cQ P w K mg base 2 "packed" oH)
 (h3:Jb P w K mg base 1 "add_products" JK) (h4:cQ P w K mg base 3 "unpacked" FA):bh P w K mg base (cV P w) 4 f fd ["one","other"] (eS K zk):=by
 refine cD Fu mZ (by rintro ds r ⟨A,B,_,rfl,_⟩; rfl) (by rintro ds r ⟨A,B,_,_,rfl⟩; exact ⟨_,rfl⟩) λc hq ds sl hF=>?_
 obtain ⟨A,B,h,rfl,e⟩:=hF
 injection e with e
 subst e
 show aH c _ [.va (.lst (A.map ah)),.va (.lst (B.map ah)),.un,.un] _ _
 conv in (av _)=>whnf
 obtain ⟨w1,w2,w3,w4⟩:=JO h
 walk_at "ev"
 refine aC (GR λt ht=>?_) ?_
 ·rcases Pb.mp ht with z | z
  ·exact (h.pa t z).1
  ·exact (h.pb t z).1
 walk_at "ev"
 refine aC (ql w1 h.la w2) ?_
 walk_at "ev"
 refine aC (ql w1 h.lb w3) ?_
 walk_at "ev"
 refine ⟨_,⟨[],A,B,jE A B,w1,by simpa using h.lp,h.la,h.lb,(λt ht=>by cases ht),λl hl r hr=>⟨w4 l hl r hr,h.mu l hl r hr⟩,rfl,rfl,rfl⟩,?_⟩
 rintro kvs' rfl
 rw [Ud]
 walk_at "ev"
 refine aC (L7 (ts:=aE A B) w1 (by rw [lS]; exact h.lp) λt ht=>?_) ⟨gy λx _=>u0 x,rfl⟩
 obtain ⟨l,hl,r,hr,rfl⟩:=iX ht
 exact w4 l hl r hr
end
end
section
variable {P:Program} {w:World} {K:OR} {mg:Str->Option Value} {base:Heap}
noncomputable def L8 (A:List aI):D:=.lst (A.map ah)
def Ex (m:Int) (L:List aI):Prop:=∀ t∈L,t.1.length<=6/\∀ x∈t.1,0<=x/\x<=m
def Bn (m:Nat) (L:List aI):Prop:=∀ t∈L,t.2.natAbs<2 ^ m
theorem Ex.bd (h:Ex m L) (hm:m<2 ^ W):∀ t∈L,Bd (2 ^ W) t.1:=λt ht=>⟨(h t ht).1,λx hx=>⟨((h t ht).2 x hx).1,T3 ((h t ht).2 x hx).2 hm⟩⟩
theorem u7 (h0:0<=m) (h:∀ x∈p,0<=x/\x<=m) (k):0<=aQ p k/\aQ p k<=m:=by
 by_cases z:k<p.length
 ·rw [bV z]; exact h _ (Pw _)
 ·rw [bX (by lia)]; lia
theorem FD (h0:0<=m) (g0:0<=n) (hp:p.length<=6/\∀ x∈p,0<=x/\x<=m) (hq:q.length<=6/\∀ x∈q,0<=x/\x<=n):(cg p q).length<=6/\∀ x∈cg p q,0<=x/\x<=m+n:=by
 refine ⟨by rw [gq]; lia,λx hx=>?_⟩
 unfold cg at hx
 obtain ⟨k,_,rfl⟩:=Pn.mp hx
 have:=u7 h0 hp.2 k
 have:=u7 g0 hq.2 k
 lia
theorem Ex.prod (h0:0<=m) (g0:0<=n) (h:Ex m A) (g:Ex n B):Ex (m+n) (aE A B):=λt ht=>by
 obtain ⟨l,hl,r,hr,rfl⟩:=iX ht
 exact FD h0 g0 (h l hl) (g r hr)
theorem Ex.sum (h:Ex m L):Ex m (aU L):=by
 unfold aU
 suffices H:∀ (ts A:List aI),Ex m A->Ex m ts->Ex m (ts.foldl fK A) from H L [] (λt ht=>by cases ht) h
 intro ts
 induction ts with
 | nil=>exact λA hA _=>hA
 | cons u ts ih =>
  refine λA hA hts=>ih _ (λt ht=>?_) λt ht=>hts t (O1 _ ht)
  rcases sF ht with rfl | q
  ·have:=hts u OY
   exact ⟨O3 (c6 _) this.1,λx hx=>this.2 x (sA hx)⟩
  ·exact hA t q
theorem Ex.mono (h:Ex m L) (hn:m<=n):Ex n L:=λt ht=>⟨(h t ht).1,λx hx=>⟨((h t ht).2 x hx).1,PB ((h t ht).2 x hx).2 hn⟩⟩
theorem Ex.app (h:Ex m A) (g:Ex m B):Ex m (A++B):=λt ht=>(Pb.mp ht).elim (h t) (g t)
theorem Bn.mono (h:Bn m L) (hn:m<=n):Bn n L:=λt ht=>PJ (h t ht) (QF (by decide) hn)
theorem Bn.prod (h:Bn m A) (g:Bn n B):Bn (m+n) (aE A B):=λt ht=>by
 obtain ⟨l,hl,r,hr,rfl⟩:=iX ht
 show (l.2 * r.2).natAbs<_
 rw [RH,Sn]
 exact Nat.mul_lt_mul'' (h l hl) (g r hr)
theorem Bn.sum (h:Bn m L) (hl:L.length<2 ^ 20):Bn (m+20) (aU L):=λt ht=>by
 have:=Jp (m:=2 ^ m) (λt ht=>QC (h t ht)) t ht
 refine QH this ?_
 rw [Sn,Nat.mul_comm]
 exact Nat.mul_lt_mul_of_pos_left hl (Nat.two_pow_pos m)
theorem xC (h:a.natAbs<2 ^ m):PY a<=m+1:=by
 unfold PY
 by_cases z:a=0
 ·subst z; simp
 ·have e:(a == 0)=false:=by simpa using z
  rw [e,if_neg O5]
  have:=(Tj (n:=a.natAbs) (k:=m) (by lia)).mpr h
  lia
theorem CK (h:a.natAbs<2 ^ m) (g:b.natAbs<2 ^ n) (hm:m+n<=1000000):EV.MulOk a b:=by
 have h1:=xC h
 have h2:=xC g
 unfold EV.MulOk IntMulOk Builtin.Int.intTooBig bitsLine
 have e:decide (((PY a+PY b:Nat):Int)>((2 ^ 27:Nat):Int))=false:=by
  apply decide_eq_false
  rw [show (2:Nat) ^ 27=134217728 by decide]
  lia
 simp only [Sg]
 rintro ⟨_,z⟩
 have z':=of_decide_eq_true z
 rw [show (2:Nat) ^ 27=134217728 by decide] at z'
 lia
noncomputable def xD (n:Int) (f:Nat->Int):Nat->Int
 | 0=>n
 | k+1=>xD n f k * f k
noncomputable def l0 (x:Int×Int):D:=.tup [.int x.1,.int x.2]
noncomputable def iz (pl:List (Int×Int)) (k:Nat):Int×Int:=pl.getD k (0,1)
noncomputable def pw (t:aI) (k:Nat):Nat:=(aQ t.1 k).toNat
noncomputable def gN (L:List aI) (k:Nat):Nat:=(gk L k).toNat
noncomputable def u9 (pl:List (Int×Int)) (g p:Nat->Nat) (k:Nat):Int:=(iz pl k).1 ^ p k * (iz pl k).2 ^ (g k - p k)
noncomputable def wW (L:List aI) (pl:List (Int×Int)) (t:aI):Int:=xD t.2 (u9 pl (gN L) (pw t)) 6
noncomputable def jV (L:List aI) (pl:List (Int×Int)):Int:=xD 1 (λk=>(iz pl k).2 ^ gN L k) 6
noncomputable def iA (L:List aI) (pl:List (Int×Int)) (M:List aI):Int:=M.foldl (λa t=>a+wW L pl t) 0
theorem zl (L) (pl) (M) (t):iA L pl (M++[t])=iA L pl M+wW L pl t:=by
 unfold iA
 rw [Sb]
 rfl
structure cO (L:List aI) (pl:List (Int×Int)) (m G nb:Nat):Prop where
 p:∀ t∈L,t.1.length<=6/\∀ x∈t.1,0<=x/\x<=(G:Int)
 n:∀ t∈L,t.2.natAbs<2 ^ nb
 l:L.length<=400000
 q:pl.length<=6
 b:∀ x∈pl,x.1.natAbs<2 ^ m/\x.2.natAbs<2 ^ m/\0<x.2
 s:m * G * 6<=8600
 s2:nb<=10000
 s3:0<m/\m<=1000
 s4:G<=1000
theorem sV (h:a.natAbs<=2 ^ m) (g:b.natAbs<=2 ^ n) (hm:m+n+2<=1000000):EV.MulOk a b :=
 CK (m:=m+1) (n:=n+1) (QH h (Nat.pow_lt_pow_right (by decide) (RB _))) (QH g (Nat.pow_lt_pow_right (by decide) (RB _))) (by lia)
theorem iB {a:Int} (h:a.natAbs<=2 ^ m) (n):(a ^ n).natAbs<=2 ^ (m * n):=by
 rw [Int.natAbs_pow,Nat.pow_mul]
 exact Nat.pow_le_pow_left h n
theorem l5 {a:Int} (h:a.natAbs<=2 ^ m) (g:m<=n):a.natAbs<=2 ^ n:=O3 h (QF (by decide) g)
theorem vc (hn:n.natAbs<=2 ^ nb) (hf:∀ k,(f k).natAbs<=2 ^ c):∀ k,(xD n f k).natAbs<=2 ^ (nb+c * k)
 | 0=>hn
 | k+1=>by
  show (xD n f k * f k).natAbs<=_
  rw [RH,Nat.mul_succ,<- S9,Sn]
  exact Sj (vc hn hf k) (hf k)
theorem qo (hn:0<n) (hf:∀ k,0<f k):∀ k,0<xD n f k
 | 0=>hn
 | k+1=>Int.mul_pos (qo hn hf k) (hf k)
theorem iC:∀ {L:List aI} (a:Int),a<=m->(∀ t∈L,aQ t.1 k<=m)->L.foldl (λa t=>if aQ t.1 k>a then aQ t.1 k else a) a<=m
 | [],a,h,_=>h
 | t::L,a,h,h2=>by
  refine iC (L:=L) _ ?_ λu hu=>h2 u (O1 _ hu)
  have:=h2 t OY
  show (if aQ t.1 k>a then aQ t.1 k else a)<=m
  split <;> lia
theorem cz:∀ {L:List aI} (a:Int) {t:aI},t∈L->aQ t.1 k<=L.foldl (λa t=>if aQ t.1 k>a then aQ t.1 k else a) a
 | u::L,a,t,h=>by
  rcases O2.mp h with rfl | h
  ·refine PB ?_ (qj L k _)
   show aQ t.1 k<=if aQ t.1 k>a then aQ t.1 k else a
   split <;> lia
  ·exact cz (L:=L) _ h
section
variable {pl:List (Int×Int)}
theorem cO.at (h:cO L pl m G nb) (ht:t∈L) (k):0<=aQ t.1 k/\aQ t.1 k<=G:=by
 by_cases z:k<t.1.length
 ·rw [bV z]; exact (h.p t ht).2 _ (Pw _)
 ·rw [bX (by lia)]; lia
theorem cO.N3 (h:cO L pl m G nb) (ht:t∈L) (k):pw t k<=G/\((pw t k:Nat):Int)=aQ t.1 k:=by
 have:=h.at ht k
 unfold pw
 lia
theorem cO.g (h:cO L pl m G nb) (k):gN L k<=G/\((gN L k:Nat):Int)=gk L k:=by
 have h0:=sQ L k
 have h1:gk L k<=G:=iC 0 (by lia) λt ht=>(h.at ht k).2
 unfold gN
 lia
theorem cO.le (h:cO L pl m G nb) (ht:t∈L) (k):pw t k<=gN L k:=by
 have h1:aQ t.1 k<=gk L k:=cz 0 ht
 have:=(h.N3 ht k).2
 have:=(h.g k).2
 lia
theorem cO.sp (h:cO L pl m G nb) (k):(iz pl k).1.natAbs<=2 ^ m/\(iz pl k).2.natAbs<=2 ^ m/\0<(iz pl k).2:=by
 unfold iz
 rw [PX]
 cases e:pl[k]? with
 | none=>exact ⟨PK _,Nat.one_le_two_pow,by decide⟩
 | some x =>
  have:=h.b x (QG e)
  exact ⟨QC this.1,QC this.2.1,this.2.2⟩
theorem cO.Ot (h:cO L pl m G nb) {p g:Nat->Nat} {k:Nat} (hp:p k<=g k) (hg:g k<=G):(u9 pl g p k).natAbs<=2 ^ (m * G):=by
 have s:=h.sp k
 unfold u9
 rw [RH]
 refine O3 (Sj (iB s.1 (p k)) (iB s.2.1 (g k - p k))) ?_
 rw [<- Sn,<- Nat.mul_add,show p k+(g k - p k)=g k by lia]
 exact QF (by decide) (Q6 _ hg)
theorem cO.Ma (h:cO L pl m G nb) (ht:t∈L) (k):(xD t.2 (u9 pl (gN L) (pw t)) k).natAbs<=2 ^ (nb+m * G * k) :=
 vc (QC (h.n t ht)) (λj=>h.Ot (h.le ht j) (h.g j).1) k
theorem cO.JQ (h:cO L pl m G nb) (k):(xD 1 (λk=>(iz pl k).2 ^ gN L k) k).natAbs<=2 ^ (m * G * k):=by
 have:=vc (n:=1) (nb:=0) (c:=m * G) (f:=λk=>(iz pl k).2 ^ gN L k) (by decide) (λj=>l5 (iB (h.sp j).2.1 _) (Q6 _ (h.g j).1)) k
 rw [Rg] at this; exact this
theorem cO.bpos (h:cO L pl m G nb):0<jV L pl:=qo (by decide) (λk=>QL (h.sp k).2.2) 6
theorem cO.ON (h:cO L pl m G nb):Pz (jV L pl):=gh.mpr (QH (O3 (h.JQ 6) (QF (by decide) h.s)) (by decide +kernel))
theorem cO.OO (h:cO L pl m G nb):∀ {M:List aI},(∀ t∈M,t∈L)->(iA L pl M).natAbs<=M.length * 2 ^ (nb+m * G * 6):=by
 have key:∀ (M:List aI) (a:Int),(∀ t∈M,t∈L)->(M.foldl (λa t=>a+wW L pl t) a).natAbs<=a.natAbs+M.length * 2 ^ (nb+m * G * 6):=by
  intro M
  induction M with
  | nil=>intro a _; simp
  | cons t M ih =>
   intro a hM
   refine O3 (ih _ λu hu=>hM u (O1 _ hu)) ?_
   have hw:(wW L pl t).natAbs<=2 ^ (nb+m * G * 6):=h.Ma (hM t OY) 6
   have e:(t::M).length * 2 ^ (nb+m * G * 6)=2 ^ (nb+m * G * 6)+M.length * 2 ^ (nb+m * G * 6):=by rw [Pu,Td,Nat.add_comm]
   rw [e]
   generalize 2 ^ (nb+m * G * 6)=B at *
   generalize M.length * B=C
   lia
 intro M hM
 have:=key M 0 hM
 simpa [iA] using this
end
end
section
variable {K:OR}
noncomputable def GU:Fn:=λds r=>∃ (l:List Int) (k:Nat),ds=[.tup (l.map .int),.int (k:Int)]/\r=.ok (.va (.int (aQ l k)))
theorem JR (l) (k:Nat):GU [.tup (l.map .int),.int (k:Int)] (.ok (.va (.int (aQ l k)))):=⟨l,k,rfl,rfl⟩
theorem Mb (Fu:dO K "power_at" "power_at" (top 12) f fd) (T:Txt K mg):bh P w K mg base (cV P w) 1 f fd ["powers","k"] (eS K GU):=by
 refine cD Fu sI (by rintro ds r ⟨l,k,rfl,_⟩; rfl) (by rintro ds r ⟨l,k,_,rfl⟩; exact ⟨_,rfl⟩) λc hq ds sl hF=>?_
 obtain ⟨l,k,rfl,e⟩:=hF
 injection e with e
 subst e
 show aH c _ [.va (.tup (l.map .int)),.va (.int (k:Int))] _ _
 conv in (av _)=>whnf
 walk_at "ev"
 ·rename_i h
  rw [OW] at h
  refine sO (by lia) (by lia) ?_
  show Sl.va _=Sl.va _
  rw [P6,bV (by lia),PX,Pk (by lia)]
  rfl
 ·rename_i h
  rw [OW] at h
  show Sl.va _=Sl.va _
  rw [bX (by lia)]
noncomputable def zm:Fn:=λds r=>∃ (m n:Nat) (b:Int),b.natAbs<=2 ^ m/\2 * (m * n)+10<=1000000/\ds=[.int b,.int (n:Int)]/\r=.ok (.va (.int (b ^ n)))
theorem CL {m n:Nat} (h:b.natAbs<=2 ^ m) (h2:2 * (m * n)+10<=1000000):zm [.int b,.int (n:Int)] (.ok (.va (.int (b ^ n)))):=⟨m,n,b,h,h2,rfl,rfl⟩
theorem sW (b:Int) (j):b ^ 2 ^ j * b ^ 2 ^ j=b ^ 2 ^ (j+1):=by
 rw [<- UB,Nat.pow_succ,Nat.mul_two]
theorem xE (q:Nat):(q:Int) / 2 ^ QO 1=((q / 2:Nat):Int):=by
 show (q:Int) / 2=_
 lia
theorem CM (q:Nat):Uk (q:Int) 1=(q:Int) % 2:=oA 1 (by lia)
section
local macro_rules | `(tactic| walk_at "evBo")=> `(tactic| first | with_reducible refine uG ?_ | with_reducible refine BP ?_)
local macro_rules | `(tactic| walk_at "evT")=> `(tactic| ((with_reducible show gX _ (Sw _ _ _ _) _ _); with_reducible refine Jv ?_))
theorem JS (Fu:dO K "raised" "raised" (top 24) f fd) (T:Txt K mg):bh P w K mg base (cV P w) 1 f fd ["base","power"] (eS K zm):=by
 refine cD Fu zd (by rintro ds r ⟨m,n,b,_,_,rfl,_⟩; rfl) (by rintro ds r ⟨m,n,b,_,_,_,rfl⟩; exact ⟨_,rfl⟩) λc hq ds sl hF=>?_
 obtain ⟨m,n,b,hb,hm,rfl,e⟩:=hF
 injection e with e
 subst e
 show aH c _ [.va (.int b),.va (.int (n:Int)),.un] _ _
 conv in (av _)=>whnf
 walk_at "ev"
 with_reducible refine fD hq (λu ρ'=>∃ i j q:Nat,u=q/\i+2 ^ j * q=n/\ρ'=[.va (.int (b ^ (2 ^ j))),.va (.int (q:Int)),.va (.int (b ^ i))]) (m₀:=n) ?_ ?_
 ·exact ⟨0,0,n,rfl,by lia,by rw [Int.pow_zero,Nat.pow_zero,Uw,Int.pow_zero,RL]⟩
 ·rintro u ρ' ⟨i,j,q,rfl,hq,rfl⟩
  have hx:∀ e,e<=n->(b ^ e).natAbs<=2 ^ (m * n):=λe he=>l5 (iB hb e) (Q6 _ he)
  have hi:i<=n:=by rw [<- hq]; exact Q9 _ _
  have hj:0<(u:Int)->2 ^ j<=n:=λh0=>by
   have:2 ^ j<=2 ^ j * u:=Nat.le_mul_of_pos_right _ (by lia)
   lia
  walk_at "ev"
  all_goals first
   | exact sV (hx _ hi) (hx _ (hj (by assumption))) (by lia)
   | exact sV (hx _ (hj (by assumption))) (hx _ (hj (by assumption))) (by lia)
   | skip
  ·walk_at "ev"
   rename_i h0 h
   rw [CM] at h
   have h1:(u:Int) % 2≠0:=by simpa using h
   refine ⟨u / 2,by lia,i+2 ^ j,j+1,u / 2,rfl,?_,?_⟩
   ·rw [<- hq,Nat.pow_succ,S9,Nat.mul_assoc]
    have e:u=1+2 * (u / 2):=by lia
    conv=>rhs; rw [e,Nat.mul_add,Nat.mul_one]
   ·rw [xE,sW,<- UB]
  ·rename_i h0 h
   rw [CM] at h
   have h1:(u:Int) % 2=0:=by simpa using h
   refine ⟨u / 2,by lia,i,j+1,u / 2,rfl,?_,?_⟩
   ·rw [<- hq,Nat.pow_succ,Nat.mul_assoc]
    have e:u=2 * (u / 2):=by lia
    conv=>rhs; rw [e]
   ·rw [xE,sW]
  ·have h0:u=0:=by lia
   subst h0
   have e:i=n:=by lia
   subst e
   rfl
end
end
section
variable {P:Program} {w:World} {K:OR} {mg:Str->Option Value} {base:Heap}
theorem oJ (C:List (Int×Int)) (q v p:Int):ay (C++[(q,v)]) p=(ay C p).or (if q=p then some v else none):=by
 unfold ay
 rw [List.find?_append]
 cases C.find? (λkv=>decide (kv.1=p)) with
 | some x=>rfl
 | none =>
  rw [Qv]
  by_cases e:q=p <;> simp [e]
noncomputable def Mc (a b:Int) (g:Nat) (C:List (Int×Int)) (p:Nat):List (Int×Int):=if (ay C (p:Int)).isSome then C else C++[((p:Int),a ^ p * b ^ (g - p))]
noncomputable def l7 (a b:Int) (g k:Nat) (M:List aI):List (Int×Int):=M.foldl (λC t=>Mc a b g C (pw t k)) []
theorem sX (a b) (g k) (M) (t):l7 a b g k (M++[t])=Mc a b g (l7 a b g k M) (pw t k):=by
 unfold l7
 rw [Sb]
 rfl
theorem GV (a b) (g k) (M):(l7 a b g k M).length<=M.length/\(∀ p v,ay (l7 a b g k M) p=some v->v=a ^ p.toNat * b ^ (g - p.toNat))/\∀ t∈M,(ay (l7 a b g k M) (pw t k)).isSome:=by
 have key:∀ M:List aI,(l7 a b g k M.reverse).length<=M.length/\(∀ p v,ay (l7 a b g k M.reverse) p=some v->v=a ^ p.toNat * b ^ (g - p.toNat))/\∀ t∈M,(ay (l7 a b g k M.reverse) (pw t k)).isSome:=by
  intro M
  induction M with
  | nil=>exact ⟨OT _,(λp v h=>by cases h),λt h=>by cases h⟩
  | cons t M ih =>
   obtain ⟨i1,i2,i3⟩:=ih
   rw [Vo,sX]
   generalize l7 a b g k M.reverse=C at *
   unfold Mc
   by_cases h:(ay C (pw t k:Int)).isSome=true
   ·rw [if_pos h]
    refine ⟨Vm i1,i2,λu hu=>?_⟩
    rcases O2.mp hu with rfl | hu
    ·exact h
    ·exact i3 u hu
   ·rw [if_neg h]
    refine ⟨by rw [Pr]; exact SO i1,λp v hv=>?_,λu hu=>?_⟩
    ·rw [oJ] at hv
     cases e:ay C p with
     | some x=>rw [e] at hv; cases hv; exact i2 p _ e
     | none =>
      rw [e] at hv
      by_cases z:(pw t k:Int)=p
      ·simp only [z,if_true,Option.none_or] at hv
       cases hv
       rw [<- z,P6]
      ·simp [z] at hv
    ·rw [oJ]
     rcases O2.mp hu with rfl | hu
     ·cases ay C (pw u k:Int) <;> simp
     ·have:=i3 u hu
      cases e:ay C (pw u k:Int) with
      | some x=>rfl
      | none=>rw [e] at this; cases this
 have:=key M.reverse
 rw [SE,List.length_reverse] at this
 exact ⟨this.1,this.2.1,λt ht=>this.2.2 t (List.mem_reverse.mpr ht)⟩
theorem JT (ht:t∈M):ay (l7 a b g k M) (pw t k)=some (a ^ pw t k * b ^ (g - pw t k)):=by
 have h:=GV a b g k M
 have h3:=h.2.2 t ht
 cases e:ay (l7 a b g k M) (pw t k) with
 | none=>rw [e] at h3; cases h3
 | some v=>rw [h.2.1 _ v e,P6]
noncomputable def FE:Fn:=λds r=>∃ (L:List aI) (k g m:Nat) (a b:Int),(∀ t∈L,((pw t k:Nat):Int)=aQ t.1 k/\pw t k<=g)/\L.length<=400000/\a.natAbs<=2 ^ m/\b.natAbs<=2 ^ m/\4 * (m * g)+20<=1000000 /\
 ds=[.lst (L.map ah),.int (k:Int),.tup [.int a,.int b],.int (g:Int)]/\r=.ok (.va (JM (l7 a b g k L)))
theorem Me (h:∀ t∈L,((pw t k:Nat):Int)=aQ t.1 k/\pw t k<=g) (hl:L.length<=400000) (ha:a.natAbs<=2 ^ m) (hb:b.natAbs<=2 ^ m) (hm:4 * (m * g)+20<=1000000) :
 FE [.lst (L.map ah),.int (k:Int),.tup [.int a,.int b],.int (g:Int)] (.ok (.va (JM (l7 a b g k L)))):=⟨L,k,g,m,a,b,h,hl,ha,hb,hm,rfl,rfl⟩
section
local macro_rules | `(tactic| walk_at "evX")=> `(tactic| first | ((with_reducible show dP _ (Expr.Dict _ _ _) _ _); with_reducible refine vX ?_))
local macro_rules | `(tactic| walk_at "evCa")=> `(tactic| first
 | with_reducible refine aM (F:=GU) (by assumption) (by decide) ?_
 | with_reducible refine aM (F:=zm) (by assumption) (by decide) ?_)
local macro_rules | `(tactic| walk_at "evR")=> `(tactic| first | with_reducible refine aC (JR _ _) ?_)
local macro_rules | `(tactic| walk_at "evIx")=> `(tactic| first | ((with_reducible show aJ _ (Qe _ (Uo _ _ _) _) _ _); with_reducible refine nJ ?_))
theorem JU (Fu:dO K "scaled_powers" "scaled_powers" (top 25) f fd) (T:Txt K mg) (h1:cQ P w K mg base 1 "power_at" GU) (h2:cQ P w K mg base 1 "raised" zm):bh P w K mg base (cV P w) 2 f fd ["some","k","fraction","most"] (eS K FE):=by
 refine cD Fu jB (by rintro ds r ⟨L,k,g,m,a,b,_,_,_,_,_,rfl,_⟩; rfl) (by rintro ds r ⟨L,k,g,m,a,b,_,_,_,_,_,_,rfl⟩; exact ⟨_,rfl⟩) λc hq ds sl hF=>?_
 obtain ⟨L,k,g,m,a,b,hL,hl,ha,hb,hm,rfl,e⟩:=hF
 injection e with e
 subst e
 show aH c _ [.va (.lst (L.map ah)),.va (.int (k:Int)),.va (.tup [.int a,.int b]),.va (.int (g:Int)),.un,.un,.un,.un] _ _
 conv in (av _)=>whnf
 walk_at "ev"
 with_reducible refine cX hq (dS ?_)
 walk_at "ev"
 refine ⟨λi ρ'=>∃ s5 s6 s7:Sl,ρ'=[.va (.lst (L.map ah)),.va (.int (k:Int)),.va (.tup [.int a,.int b]),.va (.int (g:Int)),.oK (aZ (l7 a b g k (L.take i))),s5,s6,s7],⟨_,_,_,rfl⟩,?_,?_⟩
 ·rintro c' tF zw zz i d ρ' hd ⟨s5,s6,s7,rfl⟩
  simp only [O8,Pf] at hd
  obtain ⟨t,ht,rfl⟩:=hd
  obtain ⟨hi,rfl⟩:=O6.mp ht
  have hmem:L[i]∈L:=Pw hi
  have et:L.take (i+1)=L.take i++[L[i]]:=QE hi
  obtain ⟨hp,hg⟩:=hL _ hmem
  have hsz:(aZ (l7 a b g k (L.take i))).length<sizeLine:=dM (by
   have:=(GV a b g k (L.take i)).1
   unfold aZ
   rw [OW]
   rw [PZ] at this; lia)
  have est:l7 a b g k (L.take (i+1))=Mc a b g (l7 a b g k (L.take i)) (pw L[i] k):=by rw [et,sX]
  unfold Mc at est
  generalize l7 a b g k (L.take i)=C at hsz est |-
  generalize L[i]=t at hp hg est |-
  show o9 c' _ (D.tup [.tup (t.1.map .int),.int t.2]) _ _
  walk_at "ev"
  rw [<- hp]
  generalize pw t k=p at hg est |-
  have e1:(g:Int) - (p:Int)=((g - p:Nat):Int):=by lia
  have m1:m * p<=m * g:=Q6 _ hg
  have m2:m * (g - p)<=m * g:=Q6 _ (by lia)
  refine kQ (by walk_at "at") (by walk_at "at") ?_
  walk_at "ev"
  refine ⟨_,.k rfl rfl,?_⟩
  rw [cL]
  cases hv:ay C (p:Int) with
  | some v =>
   show iF _ _ false
   walk_at "ev"
   show ∃ s5 s6 s7:Sl,_=[_,_,_,_,Sl.oK (aZ (l7 a b g k (L.take (i+1)))),s5,s6,s7]
   rw [est,hv,show (if (some v).isSome=true then C else C++[((p:Int),a ^ p * b ^ (g - p))])=C from rfl]
   exact ⟨_,_,_,rfl⟩
  | none =>
   show iF _ _ true
   walk_at "ev"
   refine aC (CL ha (by lia)) ?_
   walk_at "ev"
   rw [e1]
   refine aC (CL hb (by lia)) ?_
   walk_at "ev"
   ·exact sV (l5 (iB ha _) m1) (l5 (iB hb _) m2) (by lia)
   walk_at "ev"
   refine ⟨_,.k rfl rfl hsz,?_⟩
   walk_at "ev"
   rw [fj,show putD C (p:Int) (a ^ p * b ^ (g - p))=C++[((p:Int),a ^ p * b ^ (g - p))] from if_neg (by rw [hv]; simp)]
   show ∃ s5 s6 s7:Sl,_=[_,_,_,_,Sl.oK (aZ (l7 a b g k (L.take (i+1)))),s5,s6,s7]
   rw [est,hv,if_neg (by simp)]
   exact ⟨_,_,_,rfl⟩
 ·rintro ρ' ⟨s5,s6,s7,rfl⟩
  rw [OW,Qo]
  refine E9 4 (by walk_at "at") rfl (by walk_at "sset") ?_
  walk_at "ev"
  rfl
end
end
section
variable {K:OR}
theorem gw (n):(mT 0 n).length=n:=by simp [mT]
noncomputable def GW (L:List aI) (pl:List (Int×Int)) (k:Nat):D:=JM (l7 (iz pl k).1 (iz pl k).2 (gN L k) k L)
noncomputable def qp:Fn:=λds r=>∃ (L:List aI) (pl:List (Int×Int)) (m G nb:Nat),cO L pl m G nb/\ds=[.lst (L.map ah),.lst (pl.map l0)]/\r=.ok (.va (dG (iA L pl L) (jV L pl)))
theorem Mf {pl:List (Int×Int)} (h:cO L pl m G nb):qp [.lst (L.map ah),.lst (pl.map l0)] (.ok (.va (dG (iA L pl L) (jV L pl)))):=⟨L,pl,m,G,nb,h,rfl,rfl⟩
theorem Mg {pl:List (Int×Int)} (h:k<pl.length):jS (pl.map l0) (k:Int)=some (l0 (iz pl k)):=by
 rw [fF (by lia) (by rw [OW]; lia),P6,O8,Pk h]
 unfold iz
 rw [PX,Pk h]
 rfl
theorem FF {pl:List (Int×Int)} (h:¬ k<pl.length):iz pl k=(0,1):=by
 unfold iz
 rw [PX,RA (by lia)]
 rfl
theorem Mh {pl:List (Int×Int)} {k:Nat} (h:k<6):jS ((Pc 6).map (GW L pl)) (k:Int)=some (GW L pl k):=by
 rw [fF (by lia) (by rw [OW,Rn]; lia),P6,O8,SI h]
 rfl
section
local macro_rules | `(tactic| walk_at "evE")=> `(tactic| first | ((with_reducible show aJ _ (O9 "PLACES" _) _ _); with_reducible refine kM (by assumption) ?_))
local macro_rules | `(tactic| walk_at "evCa")=> `(tactic| first
 | with_reducible refine aM (F:=GU) (by assumption) (by decide) ?_
 | with_reducible refine aM (F:=fN) (by assumption) (by decide) ?_
 | with_reducible refine aM (F:=FE) (by assumption) (by decide) ?_
 | with_reducible refine aM (F:=zm) (by assumption) (by decide) ?_)
local macro_rules | `(tactic| walk_at "evXC")=> `(tactic| first
 | with_reducible refine x_call (x:=OP "greatest_powers") (F:=fN) (by assumption) (by decide) ?_
 | with_reducible refine x_call (x:=OP "fraction_of") (F:=CA) (by assumption) (by decide) ?_)
local macro_rules | `(tactic| walk_at "evR")=> `(tactic| first | with_reducible refine aC (JR _ _) ?_)
local macro_rules | `(tactic| walk_at "evIx")=> `(tactic| first | ((with_reducible show aJ _ (Qe _ (Uo _ _ _) _) _ _); with_reducible refine nJ ?_))
local macro_rules | `(tactic| walk_at "evIx")=> `(tactic| first | ((with_reducible show aJ _ (Qe (Qe _ _ _) _ _) _ _); with_reducible refine B4 ?_))
theorem JV (Fu:dO K "worth_at" "worth_at" (top 26) f fd) (T:Txt K mg) (PL:∃ tk:Tok,mg "PLACES"=some (.int 6 tk)) (h1:cQ P w K mg base 1 "power_at" GU) (h2:cQ P w K mg base 1 "raised" zm) (h3:cQ P w K mg base 1 "greatest_powers" fN) (h4:cQ P w K mg base 2 "scaled_powers" FE) (h5:cQ P w K mg base 2 "fraction_of" CA):bh P w K mg base (cV P w) 3 f fd ["some","place"] (eS K qp):=by
 obtain ⟨tk,hPL⟩:=PL
 refine cD Fu sM (by rintro ds r ⟨L,pl,m,G,nb,_,rfl,_⟩; rfl) (by rintro ds r ⟨L,pl,m,G,nb,_,_,rfl⟩; exact ⟨_,rfl⟩) λc hq ds sl hF=>?_
 obtain ⟨L,pl,m,G,nb,ok,rfl,e⟩:=hF
 injection e with e
 subst e
 have mge:∀ {z:Nat},z<=G->m * z<=8600:=λ{z} he=>by
  have h:=ok.s
  have:m * z<=m * G:=Q6 _ he
  have:m * G<=m * G * 6:=Nat.le_mul_of_pos_right _ (by decide)
  lia
 show aH c _ [.va (.lst (L.map ah)),.va (.lst (pl.map l0)),.un,.un,.un,.un,.un,.un,.un,.un,.un] _ _
 conv in (av _)=>whnf
 refine ak ?_
 generalize hG:(λρ'=>aH c _ ρ' _ _)=Z
 walk_at "ev"
 refine aC (kg λt ht=>(ok.p t ht).1) ?_
 walk_at "ev"
 subst hG
 refine jm 2 (d0:=.lst (bR (gk L))) (by walk_at "at") rfl (by walk_at "sset") ?_
 walk_at "ev"
 with_reducible refine cX hq (dD (Txt.range (by assumption)) ?_)
 walk_at "ev"
 ·exact ⟨by decide,by decide⟩
 refine ⟨λk ρ'=>∃ s5 s6:Sl,ρ'=[.va (.lst (L.map ah)),.va (.lst (pl.map l0)),.va (.lst (bR (gk L))),.ow ((Pc k).map (GW L pl)),.va (.int (xD 1 (λk=>(iz pl k).2 ^ gN L k) k)),s5,s6,.un,.un,.un,.un],⟨_,_,rfl⟩,?_,?_⟩
 ·rintro c' tF zw zz k d ρ' hd ⟨s5,s6,rfl⟩
  obtain ⟨hk,rfl⟩:=fG hd
  have hk:k<6:=hk
  refine eG (by walk_at "at") (qC (by walk_at "sset") ?_)
  have hs:=ok.sp k
  have hg:=ok.g k
  have gat:jS (bR (gk L)) (k:Int)=some (.int (gN L k:Nat)):=by rw [qk _ hk,hg.2]
  have bb:=ok.JQ k
  refine ak (qT (i:=6) (by walk_at "at") (K6 (aJ.imp (R:=λd=>d=l0 (iz pl k)) ?_ ?_)))
  ·walk_at "ev"
   ·rename_i h
    rw [OW] at h
    refine iJ (Mg (by lia)) rfl
   ·rename_i h
    rw [OW] at h
    rw [FF (by lia)]; rfl
  rintro d rfl
  refine qC (by walk_at "sset") ?_
  refine ak (ue (by walk_at "at") (by walk_at "at") rfl ?_)
  walk_at "ev"
  refine iJ gat ?_
  walk_at "ev"
  refine aC (Me (m:=m) (a:=(iz pl k).1) (b:=(iz pl k).2) (λt ht=>⟨(ok.N3 ht k).2,ok.le ht k⟩) ok.l hs.1 hs.2.1 (by have:=mge hg.1; lia)) ?_
  walk_at "ev"
  ·exact dM (by rw [OW,Rn]; lia)
  walk_at "ev"
  refine iJ gat ?_
  walk_at "ev"
  refine aC (CL hs.2.1 (by have:=mge hg.1; lia)) ?_
  walk_at "ev"
  ·exact sV bb (l5 (iB hs.2.1 _) (Q6 _ hg.1)) (by
    have h:=ok.s
    have h1:m * G * k<=m * G * 6:=Q6 _ (by lia)
    have h2:=mge (OT G)
    lia)
  walk_at "ev"
  refine ⟨.va (.int (k:Int)),.va (l0 (iz pl k)),?_⟩
  show [_,_,_,Sl.ow _,_,_,_,_,_,_,_]=[_,_,_,Sl.ow ((Pc (k+1)).map (GW L pl)),_,_,_,_,_,_,_]
  rw [Uc,PR]
  rfl
 ·rintro ρ' ⟨s5,s6,rfl⟩
  rw [gw]
  refine jm 3 (d0:=.lst ((Pc 6).map (GW L pl))) (by walk_at "at") rfl (by walk_at "sset") ?_
  show aH c _ [.va (.lst (L.map ah)),.va (.lst (pl.map l0)),.va (.lst (bR (gk L))),.va (.lst ((Pc 6).map (GW L pl))),.va (.int (jV L pl)),s5,s6,.un,.un,.un,.un] _ _
  walk_at "ev"
  with_reducible refine cX hq (dS ?_)
  walk_at "ev"
  refine ⟨λi ρ'=>∃ s5 s8 s9 s10:Sl,ρ'=[.va (.lst (L.map ah)),.va (.lst (pl.map l0)),.va (.lst (bR (gk L))),.va (.lst ((Pc 6).map (GW L pl))),.va (.int (jV L pl)),s5,s6,.va (.int (iA L pl (L.take i))),s8,s9,s10],⟨_,_,_,_,rfl⟩,?_,?_⟩
  ·rintro c' tF zw zz i d ρ' hd ⟨s5,s8,s9,s10,rfl⟩
   simp only [O8,Pf] at hd
   obtain ⟨t,ht,rfl⟩:=hd
   obtain ⟨hi,rfl⟩:=O6.mp ht
   have hmem:L[i]∈L:=Pw hi
   have est:iA L pl (L.take (i+1))=iA L pl (L.take i)+wW L pl L[i]:=by rw [QE hi,zl]
   unfold wW at est
   generalize iA L pl (L.take i)=S at est |-
   generalize L[i]=t at hmem est |-
   show o9 c' _ (D.tup [.tup (t.1.map .int),.int t.2]) _ _
   walk_at "ev"
   refine cX (by rw [tF]; exact hq) (dD (Txt.range (by assumption)) ?_)
   walk_at "ev"
   ·exact ⟨by decide,by decide⟩
   refine ⟨λk ρ''=>∃ s5:Sl,ρ''=[.va (.lst (L.map ah)),.va (.lst (pl.map l0)),.va (.lst (bR (gk L))),.va (.lst ((Pc 6).map (GW L pl))),.va (.int (jV L pl)),s5,s6,.va (.int S),.va (.tup (t.1.map .int)),.va (.int t.2),.va (.int (xD t.2 (u9 pl (gN L) (pw t)) k))],⟨_,rfl⟩,?_,?_⟩
   ·rintro c'' hdX hdR hdM k d ρ'' hd ⟨s5,rfl⟩
    obtain ⟨hk,rfl⟩:=fG hd
    have hk:k<6:=hk
    have hv:ay (aZ (l7 (iz pl k).1 (iz pl k).2 (gN L k) k L)) (.inl (aQ t.1 k))=some (.int (u9 pl (gN L) (pw t) k)):=by
     rw [cL,<- (ok.N3 hmem k).2,JT hmem]
     rfl
    have hw:=ok.Ma hmem k
    have hf:=ok.Ot (ok.le hmem k) (ok.g k).1
    refine eG (by walk_at "at") (qC (by walk_at "sset") ?_)
    walk_at "ev"
    refine iJ (Mh hk) ?_
    walk_at "ev"
    refine ⟨_,_,_,rfl,rfl,hv,?_⟩
    walk_at "ev"
    ·exact sV hw hf (by
      have h:=ok.s
      have h1:m * G * k<=m * G * 6:=Q6 _ (by lia)
      have h2:=mge (OT G)
      have h3:=ok.s2
      lia)
    walk_at "ev"
    exact ⟨_,rfl⟩
   ·rintro ρ'' ⟨s5,rfl⟩
    rw [gw]
    walk_at "ev"
    show ∃ s5 s8 s9 s10:Sl,_=[_,_,_,_,_,s5,s6,.va (.int (iA L pl (L.take (i+1)))),s8,s9,s10]
    rw [est]
    exact ⟨_,_,_,_,rfl⟩
  ·rintro ρ' ⟨s5,s8,s9,s10,rfl⟩
   rw [OW,Qo]
   walk_at "ev"
   exact aC (CB (RK ok.bpos) ok.ON) rfl
end
end
section
variable {P:Program} {w:World} {K:OR} {mg:Str->Option Value} {base:Heap}
theorem Ex.iD (h:Ex m L):Ex m (aR L):=λt ht=>Ex.sum h t (iU ht).1
theorem Bn.iD (h:Bn m L) (hl:L.length<2 ^ 20):Bn (m+20) (aR L):=λt ht=>Bn.sum h hl t (iU ht).1
structure Lm (l:Nat) (e:Int) (b:Nat) (A:List aI):Prop where
 l:A.length<=l
 e:Ex e A
 b:Bn b A
section
variable {ba bb:Nat}
theorem Lm.iD (h:Lm la ea ba A) (hl:la<2 ^ 20:=by decide):Lm la ea (ba+20) (aR A):=⟨O3 (BO _) h.l,h.e.iD,h.b.iD (QH h.l hl)⟩
theorem Lm.mono (h:Lm la ea ba A) (h1:la<=lb:=by decide) (h2:ea<=eb:=by decide) (h3:ba<=bb:=by decide):Lm lb eb bb A:=⟨O3 h.l h1,h.e.mono h2,h.b.mono h3⟩
theorem Lm.app (h:Lm la ea ba A) (g:Lm lb ea ba B):Lm (la+lb) ea ba (A++B):=⟨by rw [Pr]; exact Nat.add_le_add h.l g.l,h.e.app g.e,λt ht=>(Pb.mp ht).elim (h.b t) (g.b t)⟩
theorem Lm.prod (h:Lm la ea ba A) (g:Lm lb eb bb B) (h0:0<=ea:=by decide) (g0:0<=eb:=by decide):Lm (la * lb) (ea+eb) (ba+bb) (aE A B):=⟨by rw [lS]; exact Sj h.l g.l,h.e.prod h0 g0 g.e,h.b.prod g.b⟩
end
end
section
variable {P:Program} {w:World} {K:OR} {mg:Str->Option Value} {base:Heap}
noncomputable def l8 (q:Rat):D:=.tup [.int q.num,.int (q.den:Int)]
theorem iE (q:Rat):((q.den:Int):Rat)≠0:=by
 have h:=q.den_nz
 intro e
 exact h (by have:=Rat.intCast_inj.mp (e.trans (by rfl:(0:Rat)=((0:Int):Rat))); lia)
theorem qu {b:Int} (hb:b≠0):(b:Rat)≠0:=λe=>hb (Rat.intCast_inj.mp (e.trans (by rfl:(0:Rat)=((0:Int):Rat))))
theorem fO (q:Rat):(q.num:Rat) / ((q.den:Int):Rat)=q:=by
 rw [<- Rat.divInt_eq_div]; exact Rat.num_divInt_den q
theorem l9 (hb:b≠0):nT a b=((a:Rat) / (b:Rat)).num/\nB a b=(((a:Rat) / (b:Rat)).den:Int):=by
 have h1:=fO ((a:Rat) / (b:Rat))
 have h2:=iE ((a:Rat) / (b:Rat))
 have h3:=qu hb
 have hr:=((a:Rat) / (b:Rat)).reduced
 have hz:=((a:Rat) / (b:Rat)).den_nz
 generalize ((a:Rat) / (b:Rat)).num=n at *
 generalize ((a:Rat) / (b:Rat)).den=d at *
 have h:n * b=a * (d:Int):=by
  refine Rat.intCast_inj.mp ?_
  rw [Qp,Qp]
  grind
 refine Ep (Ba hb) (by lia) (GB hb) ?_ (ri hb (Eo hb) h.symm)
 exact hr
theorem ja (hb:b≠0):dG a b=l8 ((a:Rat) / (b:Rat)):=by
 unfold dG l8
 rw [(l9 hb).1,(l9 hb).2]
structure Rb (n:Nat) (q:Rat):Prop where
 a:q.num.natAbs<=2 ^ n
 b:q.den<=2 ^ n
theorem Mi {a b:Int} (hb:b≠0) (h:a.natAbs<=2 ^ n) (g:b.natAbs<=2 ^ n):Rb n ((a:Rat) / (b:Rat)):=by
 have e:=l9 (a:=a) hb
 refine ⟨?_,?_⟩
 ·rw [<- e.1]; exact O3 (wo hb) h
 ·have h1:=wu (a:=a) hb
  rw [e.2] at h1
  exact O3 (by lia) g
theorem fT (h:a.natAbs<=2 ^ n) (hn:n<=4300):Sz a:=gh.mpr (QH (O3 h (QF (by decide) hn)) (by decide +kernel))
theorem Rb.nu (h:Rb m p):p.num.natAbs<=2 ^ m:=h.a
theorem Rb.de (h:Rb m p):(p.den:Int).natAbs<=2 ^ m:=by simpa using h.b
theorem Mj (q:Rat):(q.den:Int)≠0:=by have:=q.den_nz; lia
theorem oM (p q:Rat):(p.den:Int) * (q.den:Int)≠0:=Ue (Mj p) (Mj q)
theorem FG (p q:Rat):((p.num * q.den+q.num * p.den:Int):Rat) / ((p.den * q.den:Int):Rat)=p+q:=by
 have h1:=fO p
 have h2:=fO q
 have h3:=iE p
 have h4:=iE q
 rw [Rat.intCast_add,Qp,Qp,Qp]
 grind
theorem CN (p q:Rat):((p.num * q.den - q.num * p.den:Int):Rat) / ((p.den * q.den:Int):Rat)=p - q:=by
 have h1:=fO p
 have h2:=fO q
 have h3:=iE p
 have h4:=iE q
 rw [Rat.intCast_sub,Qp,Qp,Qp]
 grind
theorem zo (p q:Rat):((p.num * q.num:Int):Rat) / ((p.den * q.den:Int):Rat)=p * q:=by
 have h1:=fO p
 have h2:=fO q
 have h3:=iE p
 have h4:=iE q
 rw [Qp,Qp]
 grind
theorem Ml (h:Rb m p) (g:Rb n q) (hm:m<=4300:=by decide) (hn:n<=4300:=by decide):F4 CD iw [l8 p,l8 q] (.ok (.va (l8 (p+q)))):=by
 have:=L6 (fT h.nu hm) (fT h.de hm) (fT g.nu hn) (fT g.de hn) (oM p q)
 rwa [ja (oM p q),FG] at this
theorem JW (h:Rb m p) (g:Rb n q) (hm:m<=4300:=by decide) (hn:n<=4300:=by decide):F4 sP iw [l8 p,l8 q] (.ok (.va (l8 (p - q)))):=by
 have:=JG (fT h.nu hm) (fT h.de hm) (fT g.nu hn) (fT g.de hn) (oM p q)
 rwa [ja (oM p q),CN] at this
theorem FH (h:Rb m p) (g:Rb n q) (hm:m<=4300:=by decide) (hn:n<=4300:=by decide):F4 lY iw [l8 p,l8 q] (.ok (.va (l8 (p * q)))):=by
 have:=Fv (fT h.nu hm) (fT h.de hm) (fT g.nu hn) (fT g.de hn) (oM p q)
 rwa [ja (oM p q),zo] at this
noncomputable def xk (pl:List (Int×Int)) (k:Nat):Rat:=((iz pl k).1:Rat) / ((iz pl k).2:Rat)
noncomputable def xF (f:Nat->Rat):Nat->Rat
 | 0=>1
 | k+1=>xF f k * f k
noncomputable def mono (pl:List (Int×Int)) (p:List Int):Rat:=xF (λk=>xk pl k ^ (aQ p k).toNat) 6
noncomputable def vL (pl:List (Int×Int)):List aI->Rat
 | []=>0
 | t::L=>(t.2:Rat) * mono pl t.1+vL pl L
section
variable {pl:List (Int×Int)}
theorem qv (B):∀ A,vL pl (A++B)=vL pl A+vL pl B
 | []=>by show vL pl B=0+vL pl B; grind
 | t::A=>by
  show (t.2:Rat) * mono pl t.1+vL pl (A++B)=(t.2:Rat) * mono pl t.1+vL pl A+vL pl B
  rw [qv B A]; grind
theorem kh (f g):∀ n,xF (λk=>f k * g k) n=xF f n * xF g n
 | 0=>by show (1:Rat)=1 * 1; grind
 | n+1=>by
  show xF (λk=>f k * g k) n * (f n * g n)=xF f n * f n * (xF g n * g n)
  rw [kh f g n]; grind
def Nn (A:List aI):Prop:=∀ t∈A,∀ x∈t.1,0<=x
theorem CO (h:∀ x∈p,0<=x) (k):0<=aQ p k:=by
 by_cases z:k<p.length
 ·rw [bV z]; exact h _ (Pw _)
 ·rw [bX (by lia)]; exact PV _
theorem CP (hp:∀ x∈p,0<=x) (hq:∀ x∈q,0<=x):mono pl (cg p q)=mono pl p * mono pl q:=by
 unfold mono
 rw [<- kh]
 congr 1
 funext k
 have h1:=CO hp k
 have h2:=CO hq k
 rw [bC,show (aQ p k+aQ q k).toNat=(aQ p k).toNat+(aQ q k).toNat by lia]
 grind
theorem xG (hl:∀ x∈l.1,0<=x):∀ {B:List aI},Nn B->vL pl (B.map (fk l))=(l.2:Rat) * mono pl l.1 * vL pl B
 | [],_=>by show (0:Rat)=_ * 0; grind
 | t::B,h=>by
  show ((l.2 * t.2:Int):Rat) * mono pl (cg l.1 t.1)+vL pl (B.map (fk l))=(l.2:Rat) * mono pl l.1 * ((t.2:Rat) * mono pl t.1+vL pl B)
  rw [xG hl (B:=B) λu hu=>h u (O1 _ hu),CP hl (h t OY),Qp]
  grind
theorem xH (hB:Nn B):∀ {A:List aI},Nn A->vL pl (aE A B)=vL pl A * vL pl B
 | [],_=>by show (0:Rat)=0 * _; grind
 | t::A,h=>by
  show vL pl (B.map (fk t)++aE A B)=((t.2:Rat) * mono pl t.1+vL pl A) * vL pl B
  rw [qv,xG (h t OY) hB,xH hB (A:=A) λu hu=>h u (O1 _ hu)]
  grind
theorem sY (hb:b≠0) (h:p<=g):((a ^ p * b ^ (g - p):Int):Rat)=((a:Rat) / (b:Rat)) ^ p * (b:Rat) ^ g:=by
 have hb:=qu hb
 obtain ⟨d,rfl⟩:=Nat.exists_eq_add_of_le h
 rw [show p+d - p=d by lia,Qp,Ub,Ub]
 have e:(a:Rat)=(a:Rat) / (b:Rat) * (b:Rat):=by grind
 generalize (a:Rat) / (b:Rat)=x at *
 rw [e]
 have:∀ n:Nat,(x * (b:Rat)) ^ n=x ^ n * (b:Rat) ^ n:=λn=>by
  induction n with
  | zero=>grind
  | succ n ih=>grind
 rw [this]
 grind
theorem gx (n) (f):∀ k,((xD n f k:Int):Rat)=(n:Rat) * xF (λk=>(f k:Rat)) k
 | 0=>by show (n:Rat)=n * 1; grind
 | k+1=>by
  show ((xD n f k * f k:Int):Rat)=(n:Rat) * (xF (λk=>(f k:Rat)) k * (f k:Rat))
  rw [Qp,gx n f k]; grind
theorem qw:∀ {n:Nat},(∀ k,k<n->f k=g k)->xF f n=xF g n
 | 0,_=>rfl
 | n+1,h=>by
  show xF f n * f n=xF g n * g n
  rw [qw (n:=n) λk hk=>h k (by lia),h n (by lia)]
end
end
section
variable {P:Program} {w:World} {K:OR} {mg:Str->Option Value} {base:Heap}
structure gQ (pl:List (Int×Int)):Prop where
 l:pl.length<=6
 b:∀ x∈pl,x.1.natAbs<2 ^ 4/\x.2.natAbs<2 ^ 4/\0<x.2
 g:∀ x∈pl,O0 x.1 x.2=1
section
variable {pl:List (Int×Int)}
theorem gQ.pos (h:gQ pl) (k):0<(iz pl k).2:=by
 unfold iz
 rw [PX]
 cases e:pl[k]? with
 | none=>decide
 | some x=>exact (h.b x (QG e)).2.2
noncomputable def vd (pl:List (Int×Int)) (G:Nat) (p:List Int):Int:=xD 1 (λk=>(iz pl k).1 ^ (aQ p k).toNat * (iz pl k).2 ^ (G - (aQ p k).toNat)) 6
noncomputable def FI (pl:List (Int×Int)) (G:Nat):Int:=xD 1 (λk=>(iz pl k).2 ^ G) 6
theorem JX (h:gQ pl) (hp:∀ k,(aQ p k).toNat<=G):((vd pl G p:Int):Rat)=mono pl p * ((FI pl G:Int):Rat):=by
 unfold vd FI mono
 rw [gx,gx,qw (g:=λk=>xk pl k ^ (aQ p k).toNat * (((iz pl k).2 ^ G:Int):Rat)) λk _=>?_,kh]
 ·grind
 ·rw [sY (RK (h.pos k)) (hp k),Ub]
  rfl
theorem JY (h:∀ x∈p,0<=x/\x<=e) (k):(aQ p k).toNat<=e.toNat:=by
 by_cases z:k<p.length
 ·rw [bV z]; have:=h _ (Pw z); lia
 ·rw [bX (by lia)]; exact PK _
theorem zp (G) (p):vd pl G (trim p)=vd pl G p:=by
 unfold vd
 congr 1
 funext k
 rw [b9]
theorem ve (h:gQ pl):∀ {A:List aI},Ex e A->((ev (vd pl e.toNat) A:Int):Rat)=vL pl A * ((FI pl e.toNat:Int):Rat)
 | [],_=>by
  show ((0:Int):Rat)=0 * _
  grind
 | t::A,hA=>by
  rw [aX,zp,Rat.intCast_add,Qp,JX h (JY (hA t OY).2),ve h (A:=A) λu hu=>hA u (O1 _ hu)]
  show _=((t.2:Rat) * mono pl t.1+vL pl A) * _
  grind
theorem qx (h:gQ pl) (hA:Ex e A):vL pl (aR A)=vL pl A:=by
 have h1:=c8.mp (dB A) (vd pl e.toNat)
 have h2:=ve h hA
 have h3:=ve h hA.iD
 have h4:((FI pl e.toNat:Int):Rat)≠0:=qu (RK (qo (by decide) (λk=>QL (h.pos k)) 6))
 rw [h1,h2] at h3
 grind
theorem FJ (ok:cO L pl m G nb) (ht:t∈L):((wW L pl t:Int):Rat)=(t.2:Rat) * mono pl t.1 * ((jV L pl:Int):Rat):=by
 unfold wW jV mono
 rw [gx,gx,qw (g:=λk=>xk pl k ^ (aQ t.1 k).toNat * (((iz pl k).2 ^ gN L k:Int):Rat)) λk _=>?_,kh]
 ·grind
 ·unfold u9
  rw [sY (RK (ok.sp k).2.2) (ok.le ht k),Ub]
  rfl
theorem sZ (ok:cO L pl m G nb):∀ {M:List aI} (a:Int),(∀ t∈M,t∈L)->((M.foldl (λa t=>a+wW L pl t) a:Int):Rat)=(a:Rat)+vL pl M * ((jV L pl:Int):Rat)
 | [],a,_=>by show (a:Rat)=a+0 * _; grind
 | t::M,a,h=>by
  show ((M.foldl (λa t=>a+wW L pl t) (a+wW L pl t):Int):Rat)=(a:Rat)+((t.2:Rat) * mono pl t.1+vL pl M) * _
  rw [sZ ok (M:=M) _ λu hu=>h u (O1 _ hu),Rat.intCast_add,FJ ok (h t OY)]
  grind
theorem xJ (ok:cO L pl m G nb):((iA L pl L:Int):Rat) / ((jV L pl:Int):Rat)=vL pl L:=by
 have h:=sZ ok (M:=L) 0 λt ht=>ht
 have hb:=qu (RK ok.bpos)
 have e:((iA L pl L:Int):Rat)=vL pl L * ((jV L pl:Int):Rat):=by
  unfold iA; rw [h]; grind
 rw [e]
 grind
theorem GX {L:List aI} (h:gQ pl) (g:Lm 1000 9 400 L):cO L pl 4 9 400 where
 p:=λt ht=>g.e t ht
 n:=g.b
 l:=O3 g.l (by decide)
 q:=h.l
 b:=h.b
 s:=by decide
 s2:=by decide
 s3:=by decide
 s4:=by decide
theorem xK (h:gQ pl) (g:Lm 1000 9 400 L):qp [.lst (L.map ah),.lst (pl.map l0)] (.ok (.va (l8 (vL pl L)))):=by
 have ok:=GX h g
 have:=Mf ok
 rwa [ja (RK ok.bpos),xJ ok] at this
theorem JZ (h:gQ pl) (g:Lm 1000 9 400 L):Rb 640 (vL pl L):=by
 have ok:=GX h g
 rw [<- xJ ok]
 refine Mi (RK ok.bpos) ?_ (O3 (ok.JQ 6) (QF (by decide) (by decide)))
 refine O3 (ok.OO λt ht=>ht) (O3 (Nat.mul_le_mul_right _ (O3 g.l (by decide:1000<=2 ^ 10))) ?_)
 rw [<- Sn]
 exact QF (by decide) (by decide)
end
theorem FL (h:l8 p=l8 q):p=q:=by
 unfold l8 at h
 injection h with h
 injection h with h1 h2
 injection h2 with h2 _
 injection h1 with h1
 injection h2 with h2
 exact Rat.ext h1 (by lia)
theorem J0 (a b a' b'):uc [D.int a,D.int b] [D.int a',D.int b']:=by
 intro i d e h1 h2
 rcases i with _ | _ | i
 ·simp at h1 h2; subst h1 h2; exact .sc rfl
 ·simp at h1 h2; subst h1 h2; exact .sc rfl
 ·simp at h1
theorem J1 (h:T (decide (x=y))):yf (l8 x) (l8 y) T:=by
 refine D3 (Sd.mk (J0 _ _ _ _) ?_)
 have e:decide ([D.int x.num,.int (x.den:Int)]=[D.int y.num,.int (y.den:Int)])=decide (x=y):=decide_eq_decide.mpr ⟨λq=>FL (congrArg D.tup q),λq=>by rw [q]⟩
 rw [e]; exact h
end
section
variable {K:OR}
noncomputable def mh (ns:List Int) (k:Nat):Int:=if k<ns.length then ns.getD k 0 % 2147483647 else 0
noncomputable def xM:Fn:=λds r=>∃ (ns:List Int) (k:Nat),ds=[.lst (ns.map .int),.int (k:Int)]/\r=.ok (.va (.int (mh ns k)))
theorem J2 (ns) (k:Nat):xM [.lst (ns.map .int),.int (k:Int)] (.ok (.va (.int (mh ns k)))):=⟨ns,k,rfl,rfl⟩
theorem J3 {ns:List Int} (h:k<ns.length):jS (ns.map D.int) (k:Int)=some (D.int (ns.getD k 0)):=by
 rw [fF (by lia) (by simp; lia),P6,O8,Pk h,PX,Pk h]
 rfl
theorem FN (Fu:dO K "_law_cell" "_law_cell" (top 34) f fd) (T:Txt K mg):bh P w K mg base (cV P w) 1 f fd ["_law_script","_law_k"] (eS K xM):=by
 refine cD Fu ze (by rintro ds r ⟨ns,k,rfl,_⟩; rfl) (by rintro ds r ⟨ns,k,_,rfl⟩; exact ⟨_,rfl⟩) λc hq ds sl hF=>?_
 obtain ⟨ns,k,rfl,e⟩:=hF
 injection e with e
 subst e
 show aH c _ [.va (.lst (ns.map .int)),.va (.int (k:Int))] _ _
 conv in (av _)=>whnf
 walk_at "ev"
 ·have hk:k<ns.length:=by simp only [OW] at *; lia
  refine iJ (J3 hk) ?_
  walk_at "ev"
  show Sl.va _=Sl.va _
  unfold mh
  rw [if_pos hk]
 ·have hk:¬ k<ns.length:=by simp only [OW] at *; lia
  show Sl.va _=Sl.va _
  unfold mh
  rw [if_neg hk]
theorem CQ (xs:List α) (a b:Nat):(EV.cutD xs (some (a:Int)) (some (b:Int))).length<=b - a:=by
 unfold EV.cutD HT.cy
 simp only [show ¬ ((a:Int)<0) by lia,show ¬ ((b:Int)<0) by lia,if_false,PZ,Sf,P6]
 lia
noncomputable def tL:Nat->Int->List Int×Int
 | 0,r=>([],r)
 | i+1,r=>((tL i r).1++[(tL i r).2 / 7 % 5],(tL i r).2 / 5)
noncomputable def c9 (n:Int):aI :=
 if n % 2=1 then ((tL (n / 2 % 7).toNat (n / 2)).1,(tL (n / 2 % 7).toNat (n / 2)).2 / 7 % (2 * (10 ^ QO 9)+1) - (10 ^ QO 9))
 else ((Pc (thing (n / 2) 0 4).toNat).map λ(i:Nat)=>thing (n / 2) (1+(i:Int)) 3,thing (n / 2) 9 19 - 9)
theorem xN (i) (r):(tL i r).1.length=i:=by
 induction i with
 | zero=>rfl
 | succ i ih=>simp [tL,ih]
theorem oN (n):(c9 n).1.length<=6:=by
 unfold c9
 split
 ·rw [xN]; lia
 ·have:=iZ (n / 2) 0 (m:=4) (by decide)
  simp; lia
theorem xO (n):(mT 0 n).length=n:=by simp [mT]
noncomputable def xP:Fn:=λds r=>∃ n:Int,ds=[.int n,.int (10 ^ QO 9)]/\r=.ok (.va (ah (c9 n)))
theorem J4 (n):xP [.int n,.int (10 ^ QO 9)] (.ok (.va (ah (c9 n)))):=⟨n,rfl,rfl⟩
section
local macro_rules | `(tactic| walk_at "side")=> `(tactic| exact pF _)
local macro_rules | `(tactic| walk_at "evCa")=> `(tactic| with_reducible refine aM (F:=qg) (by assumption) (by decide) ?_)
local macro_rules | `(tactic| walk_at "evR")=> `(tactic| first | with_reducible refine aC (Fj ?_ ?_ ?_) ?_)
theorem FO (Fu:dO K "_law_term" "_law_term" (top 36) f fd) (T:Txt K mg) (h1:cQ P w K mg base 1 "_law_thing" qg):bh P w K mg base (cV P w) 2 f fd ["_law_cell_here","_law_size"] (eS K xP):=by
 refine cD Fu zf (by rintro ds r ⟨n,rfl,_⟩; rfl) (by rintro ds r ⟨n,_,rfl⟩; exact ⟨_,rfl⟩) λc hq ds sl hF=>?_
 obtain ⟨n,rfl,e⟩:=hF
 injection e with e
 subst e
 show aH c _ [.va (.int n),.va (.int (10 ^ QO 9)),.un,.un,.un] _ _
 conv in (av _)=>whnf
 walk_at "ev"
 ·with_reducible refine cX hq (dD (Txt.range (by assumption)) ?_)
  walk_at "ev"
  ·exact ⟨by lia,by lia⟩
  refine ⟨λi ρ'=>∃ s4:Sl,ρ'=[.va (.int n),.va (.int (10 ^ QO 9)),.va (.int (tL i (n / 2)).2),.ow ((tL i (n / 2)).1.map .int),s4],⟨.un,rfl⟩,?_,?_⟩
  ·rintro c' tF zw zz i d ρ' hd ⟨s4,rfl⟩
   obtain ⟨hi,rfl⟩:=fG hd
   have hlen:((tL i (n / 2)).1.map D.int).length=i:=by rw [OW,xN]
   walk_at "ev"
   ·exact dM (by lia)
   ·refine ⟨.va (.int (i:Int)),?_⟩
    show [_,_,_,Sl.ow _,_]=_
    simp only [tL,PR,O4,Rh]
  ·rintro ρ' ⟨s4,rfl⟩
   rw [xO]
   walk_at "ev"
   ·exact kW (by decide)
   ·show Sl.va _=Sl.va _
    unfold c9
    rw [if_pos (by assumption)]
 ·have t4:=iZ (n / 2) 0 (m:=4) (by decide)
  with_reducible refine cX hq (dD (Txt.range (by assumption)) ?_)
  walk_at "ev"
  ·decide
  ·decide
  ·decide
  walk_at "ev"
  ·exact ⟨by lia,by lia⟩
  refine ⟨λi ρ'=>∃ s4:Sl,ρ'=[.va (.int n),.va (.int (10 ^ QO 9)),.va (.int (n / 2)),.ow (((Pc i).map λ(i:Nat)=>thing (n / 2) (1+(i:Int)) 3).map .int),s4],⟨.un,rfl⟩,?_,?_⟩
  ·rintro c' tF zw zz i d ρ' hd ⟨s4,rfl⟩
   obtain ⟨hi,rfl⟩:=fG hd
   have hlen:(((Pc i).map λ(i:Nat)=>thing (n / 2) (1+(i:Int)) 3).map D.int).length=i:=by simp
   walk_at "ev"
   ·decide
   ·decide
   ·lia
   walk_at "ev"
   ·exact dM (by lia)
   ·refine ⟨.va (.int (i:Int)),?_⟩
    show [_,_,_,Sl.ow _,_]=_
    simp only [Uc,PR,O4,Rh]
  ·rintro ρ' ⟨s4,rfl⟩
   rw [xO]
   walk_at "ev"
   ·decide
   ·decide
   ·decide
   walk_at "ev"
   show Sl.va _=Sl.va _
   unfold c9
   rw [if_neg (by assumption)]
end
end
structure m8 (K:List Int->Int):Prop where
 tr:∀ p,K (trim p)=K p
 ad:∀ p q,K (cg p q)=K p+K q
noncomputable def kc (K:List Int->Int) (κ:Int) (A:List aI):Int:=ev (λq=>if K q=κ then 1 else 0) A
section
variable {K:List Int->Int}
theorem gG (h:m8 K) (κ) (t) (A):kc K κ (t::A)=(if K t.1=κ then t.2 else 0)+kc K κ A:=by
 unfold kc
 rw [aX,h.tr]
 by_cases e:K t.1=κ <;> simp [e]
theorem vf (κ) (A B):kc K κ (A++B)=kc K κ A+kc K κ B:=bY _ B A
theorem CS (h:mp A=mp B) (κ):kc K κ A=kc K κ B:=c8.mp h _
theorem dZ (h:m8 K):∀ {A:List aI},(∀ t∈A,K t.1≠κ)->kc K κ A=0
 | [],_=>rfl
 | t::A,g=>by
  rw [gG h,if_neg (g t OY),dZ h λu hu=>g u (O1 _ hu)]
  rfl
theorem vg (h:m8 K):∀ {A:List aI} {t:aI},t∈A->(∀ u∈A,u≠t->K u.1≠K t.1)->A.Nodup->kc K (K t.1) A=t.2
 | u::A,t,ht,g,nd=>by
  rw [QJ] at nd
  rw [gG h]
  rcases O2.mp ht with rfl | ht
  ·rw [if_pos rfl,dZ h λv hv=>g v (O1 _ hv) λe=>nd.1 (e ▸ hv)]
   lia
  ·rw [if_neg (g u OY λe=>nd.1 (e ▸ ht)),vg h ht (λv hv=>g v (O1 _ hv)) nd.2]
   lia
theorem CT (h:m8 K) (κ) (t):∀ B:List aI,kc K κ (B.map (fk t))=t.2 * kc K (κ - K t.1) B
 | []=>by show (0:Int)=_ * 0; lia
 | u::B=>by
  rw [O4,gG h,gG h,CT h κ t B]
  show (if K (cg t.1 u.1)=κ then t.2 * u.2 else 0)+_=_
  rw [h.ad,Sq]
  by_cases e:K t.1+K u.1=κ
  ·rw [if_pos e,if_pos (by lia)]
  ·rw [if_neg e,if_neg (by lia)]
   lia
theorem prod_cons (t) (A B):aE (t::A) B=B.map (fk t)++aE A B:=rfl
theorem tw (A A' B):aE (A++A') B=aE A B++aE A' B:=by unfold aE; rw [List.flatMap_append]
theorem mj (h:m8 K) (κ) (t) (A B):kc K κ (aE (t::A) B)=t.2 * kc K (κ - K t.1) B+kc K κ (aE A B):=by rw [prod_cons,vf,CT h]
theorem FP (h:m8 K) (κ) (t) (A B):kc K κ (aE (A++[t]) B)=kc K κ (aE A B)+t.2 * kc K (κ - K t.1) B:=by
 rw [tw,vf,mj h]
 show _+(_+0)=_
 lia
theorem mq (h:m8 K) (hB:∀ u∈B,K u.1<=n) (hk:m+n<κ):∀ {A:List aI},(∀ t∈A,K t.1<=m)->kc K κ (aE A B)=0
 | [],_=>rfl
 | t::A,hA=>by
  rw [mj h,mq h hB hk λu hu=>hA u (O1 _ hu),dZ h λu hu e=>?_]
  ·lia
  ·have:=hB u hu
   have:=hA t OY
   lia
theorem vh (h:m8 K) (hu:u∈B) (hB:∀ v∈B,K v.1<=K u.1) (eB:kc K (K u.1) B=u.2):∀ {A:List aI} {t:aI},t∈A->(∀ v∈A,v≠t->K v.1<K t.1)->A.Nodup->kc K (K t.1+K u.1) (aE A B)=t.2 * u.2
 | v::A,t,ht,g,nd=>by
  rw [QJ] at nd
  rw [mj h]
  rcases O2.mp ht with rfl | ht
  ·rw [show K t.1+K u.1 - K t.1=K u.1 by lia,eB,mq h (m:=K t.1 - 1) hB (by lia) λw hw=>?_]
   ·lia
   ·have:=g w (O1 _ hw) λe=>nd.1 (e ▸ hw)
    lia
  ·have hv:=g v OY λe=>nd.1 (e ▸ ht)
   rw [dZ h λw hw e=>?_,vh h hu hB eB ht (λw hw=>g w (O1 _ hw)) nd.2]
   ·lia
   ·have:=hB w hw
    lia
theorem vj (K:List Int->Int):∀ {A:List aI},A≠[]->∃ t∈A,∀ u∈A,K u.1<=K t.1
 | [t],_=>⟨t,OY,λu hu=>by cases Pa.mp hu; exact PV _⟩
 | t::u::A,_=>by
  obtain ⟨v,hv,g⟩:=vj K (A:=u::A) (by simp)
  by_cases e:K v.1<=K t.1
  ·exact ⟨t,OY,λw hw=>by
    rcases O2.mp hw with rfl | hw
    ·exact PV _
    ·exact PB (g w hw) e⟩
  ·exact ⟨v,O1 _ hv,λw hw=>by
    rcases O2.mp hw with rfl | hw
    ·lia
    ·exact g w hw⟩
end
theorem gH (b):m8 (pk b):=⟨iW b,fM b⟩
structure Nf (b:Int) (A:List aI):Prop where
 g:Gd b A
 s:A.Pairwise λx y=>pk b y.1<pk b x.1
 z:∀ t∈A,t.2≠0
theorem pw_nodup {α:Type} {f:α->Int}:∀ {A:List α},(A.Pairwise λx y=>f y<f x)->A.Nodup/\∀ x∈A,∀ y∈A,x≠y->f x≠f y
 | [],_=>⟨List.nodup_nil,λx hx=>by cases hx⟩
 | a::A,h=>by
  rw [QU] at h
  obtain ⟨n1,n2⟩:=pw_nodup h.2
  refine ⟨QJ.mpr ⟨λm=>by have:=h.1 a m; lia,n1⟩,λx hx y hy e=>?_⟩
  rcases O2.mp hx with hx' | hx' <;> rcases O2.mp hy with hy' | hy'
  ·exact absurd (hx'.trans hy'.symm) e
  ·rw [hx']; have:=h.1 y hy'; lia
  ·rw [hy']; have:=h.1 x hx'; lia
  ·exact n2 x hx' y hy' e
theorem Nf.nd (h:Nf b A):A.Nodup:=(pw_nodup h.s).1
theorem Nf.at (h:Nf b A) (ht:t∈A):kc (pk b) (pk b t.1) A=t.2:=vg (gH b) ht (λu hu e=>(pw_nodup h.s).2 u hu t ht e) h.nd
theorem Nf.tail (h:Nf b (t::A)):Nf b A/\∀ u∈A,pk b u.1<pk b t.1:=by
 have h2:=QU.mp h.s
 exact ⟨⟨λu hu=>h.g u (O1 _ hu),h2.2,λu hu=>h.z u (O1 _ hu)⟩,h2.1⟩
theorem Nf.drop (h:Nf b A) (i):Nf b (A.drop i):=⟨λt ht=>h.g t (List.mem_of_mem_drop ht),h.s.sublist (T8 _ _),λt ht=>h.z t (List.mem_of_mem_drop ht)⟩
theorem xQ (hA:Nf b (t::A)) (hB:Nf b (u::B)):kc (pk b) (pk b t.1+pk b u.1) (aE (t::A) (u::B))=t.2 * u.2/\∀ κ,pk b t.1+pk b u.1<κ->kc (pk b) κ (aE (t::A) (u::B))=0:=by
 have le:∀ {x:aI} {L:List aI},Nf b (x::L)->∀ v∈x::L,pk b v.1<=pk b x.1:=λ{x L} h v hv=>by
  rcases O2.mp hv with rfl | hv
  ·exact PV _
  ·exact Qm (h.tail.2 v hv)
 refine ⟨vh (gH b) OY (le hB) (hB.at OY) OY (λv hv e=>?_) hA.nd,λκ hk=>mq (gH b) (le hB) hk (le hA)⟩
 rcases O2.mp hv with rfl | hv
 ·exact absurd rfl e
 ·exact hA.tail.2 v hv
theorem vm (k):∀ {A:List aI},A≠[]->(∀ t∈A,0<=aQ t.1 k)->∃ t∈A,aQ t.1 k=gk A k:=by
 have key:∀ A:List aI,(∀ t∈A.reverse,0<=aQ t.1 k)->gk A.reverse k=0\/∃ t∈A.reverse,aQ t.1 k=gk A.reverse k:=by
  intro A
  induction A with
  | nil=>intro _; exact .inl rfl
  | cons t A ih =>
   intro h
   rw [Vo] at h |-
   rw [xy]
   unfold Dr
   by_cases e:aQ t.1 k>gk A.reverse k
   ·rw [if_pos e]
    exact .inr ⟨t,by simp,rfl⟩
   ·rw [if_neg e]
    rcases ih λu hu=>h u (Qk _ hu) with z | ⟨u,hu,z⟩
    ·exact .inl z
    ·exact .inr ⟨u,Qk _ hu,z⟩
 intro A hA h0
 have:=key A.reverse (by rw [SE]; exact h0)
 rw [SE] at this
 rcases this with z | z
 ·obtain ⟨t,ht⟩:=List.exists_mem_of_ne_nil A hA
  have h1:aQ t.1 k<=gk A k:=cz 0 ht
  have:=h0 t ht
  exact ⟨t,ht,by lia⟩
 ·exact z
noncomputable def jW (k:Nat) (b:Int) (q:List Int):Int:=aQ q k * (2 * b ^ 6)+pk b q
theorem mw (k) (b):m8 (jW k b):=⟨λp=>by unfold jW; rw [b9,iW],λp q=>by unfold jW; rw [bC,fM,QM]; lia⟩
theorem FQ (hb:0<b) (hA:Nf b A) (hB:Nf b B) (hO:∀ t∈O,Bd b t.1) (a0:A≠[]) (b0:B≠[]) (e:mp O=mp (aE A B)) (k):gk A k+gk B k<=gk O k:=by
 have bd:∀ {L:List aI},(∀ t∈L,Bd b t.1)->∀ t∈L,0<=aQ t.1 k/\0<=pk b t.1/\pk b t.1<b ^ 6:=λ{L} h t ht=>⟨(oz hb (h t ht) k).1,(xm hb (h t ht)).1,(xm hb (h t ht)).2⟩
 have gA:∀ t∈A,Bd b t.1:=λt ht=>(hA.g t ht).1
 have gB:∀ t∈B,Bd b t.1:=λt ht=>(hB.g t ht).1
 have hp:0<b ^ 6:=QL hb
 have lexi:∀ {x y:Int} {p q:Int},0<=p->p<b ^ 6->0<=q->q<b ^ 6->x * (2 * b ^ 6)+p<=y * (2 * b ^ 6)+q->x<=y:=λ{x y p q} h1 h2 h3 h4 h5=>by
  refine Sv.mp λh=>?_
  have:(y+1) * (2 * b ^ 6)<=x * (2 * b ^ 6):=Sx (by lia) (by lia)
  rw [QM,RL] at this
  lia
 have uniq:∀ {L:List aI},Nf b L->∀ x∈L,∀ y∈L,x≠y->jW k b x.1≠jW k b y.1:=λ{L} hL x hx y hy ne e=>by
  have gL:∀ t∈L,Bd b t.1:=λt ht=>(hL.g t ht).1
  have h1:=bd gL x hx
  have h2:=bd gL y hy
  unfold jW at e
  have l1:=lexi h1.2.1 h1.2.2 h2.2.1 h2.2.2 (Int.le_of_eq e)
  have l2:=lexi h2.2.1 h2.2.2 h1.2.1 h1.2.2 (Int.le_of_eq e.symm)
  have l3:aQ x.1 k=aQ y.1 k:=by lia
  rw [l3] at e
  exact (pw_nodup hL.s).2 x hx y hy ne (by lia)
 obtain ⟨t,ht,mt⟩:=vj (jW k b) a0
 obtain ⟨u,hu,mu⟩:=vj (jW k b) b0
 have eB:=vg (mw k b) hu (λv hv e=>uniq hB v hv u hu e) hB.nd
 have top:=vh (mw k b) hu mu eB ht (λv hv e=>by have:=mt v hv; have:=uniq hA v hv t ht e; lia) hA.nd
 rw [<- CS e] at top
 have ne:t.2 * u.2≠0:=Ue (hA.z t ht) (hB.z u hu)
 obtain ⟨o,ho,eo⟩:∃ o∈O,jW k b o.1=jW k b t.1+jW k b u.1:=by
  refine RZ λhG=>ne (top.symm.trans (dZ (mw k b) λv hv e=>hG ⟨v,hv,e⟩))
 obtain ⟨t2,ht2,et2⟩:=vm k a0 λv hv=>(bd gA v hv).1
 obtain ⟨u2,hu2,eu2⟩:=vm k b0 λv hv=>(bd gB v hv).1
 have m1:=mt t2 ht2
 have m2:=mu u2 hu2
 have b1:=bd gA t ht
 have b2:=bd gA t2 ht2
 have b3:=bd gB u hu
 have b4:=bd gB u2 hu2
 have b5:=bd hO o ho
 have l1:aQ t2.1 k<=aQ t.1 k:=lexi b2.2.1 b2.2.2 b1.2.1 b1.2.2 m1
 have l2:aQ u2.1 k<=aQ u.1 k:=lexi b4.2.1 b4.2.2 b3.2.1 b3.2.2 m2
 have l3:aQ t.1 k+aQ u.1 k<=aQ o.1 k:=by
  refine Sv.mp λh=>?_
  have:(aQ o.1 k+1) * (2 * b ^ 6)<=(aQ t.1 k+aQ u.1 k) * (2 * b ^ 6):=Sx (by lia) (by lia)
  unfold jW at eo
  rw [QM,QM,RL] at this
  lia
 have l4:aQ o.1 k<=gk O k:=cz 0 ho
 lia
abbrev gI (C:List (Int×Int)) (κ:Int):Prop:=(ay C κ).isSome=true
theorem mz (C:List (Int×Int)) (p n q:Int):ay (putD C p n) q=if p=q then some n else ay C q:=by
 have ne:∀ {C:List (Int×Int)},ay C p=none->ay (C++[(p,n)]) q=if p=q then some n else ay C q:=by
  intro C h
  induction C with
  | nil =>
   by_cases e:p=q
   ·rw [if_pos e]; exact aL e
   ·rw [if_neg e]; exact aB e
  | cons x C ih =>
   have hx:¬ x.1=p:=λe=>by rw [aL e] at h; cases h
   rw [aB hx] at h
   rw [RC]
   by_cases e:x.1=q
   ·rw [aL e,aL e,if_neg λz=>hx (e.trans z.symm)]
   ·rw [aB e,aB e,ih h]
 have mp:∀ {C:List (Int×Int)},gI C p->ay (C.map λkv=>if kv.1=p then (kv.1,n) else kv) q=if p=q then some n else ay C q:=by
  intro C h
  induction C with
  | nil=>cases h
  | cons x C ih =>
   rw [O4]
   by_cases z:x.1=p
   ·rw [if_pos z]
    by_cases e:p=q
    ·rw [if_pos e]; exact aL (q:=(x.1,n)) (z.trans e)
    ·have zq:¬ x.1=q:=λw=>e (z.symm.trans w)
     rw [if_neg e,aB zq,aB (q:=(x.1,n)) zq]
     clear ih h
     induction C with
     | nil=>rfl
     | cons y C ih =>
      rw [O4]
      by_cases yp:y.1=p
      ·have yq:¬ y.1=q:=λw=>e (yp.symm.trans w)
       rw [if_pos yp,aB yq,aB (q:=(y.1,n)) yq,ih]
      ·rw [if_neg yp]
       by_cases yq:y.1=q
       ·rw [aL yq,aL yq]
       ·rw [aB yq,aB yq,ih]
   ·rw [if_neg z]
    unfold gI at h
    rw [aB z] at h
    by_cases e:x.1=q
    ·rw [aL e,aL e,if_neg λw=>z (e.trans w.symm)]
    ·rw [aB e,aB e,ih h]
 unfold putD
 by_cases h:(ay C p).isSome=true
 ·rw [if_pos h]; exact mp h
 ·rw [if_neg h]
  exact ne (by cases e:ay C p with | none=>rfl | some v=>rw [e] at h; exact absurd rfl h)
theorem fP:gI C κ↔κ∈C.map (·.1):=by
 unfold gI
 induction C with
 | nil=>simp [ay]
 | cons x C ih =>
  by_cases e:x.1=κ
  ·rw [aL e]; simp [e]
  ·rw [aB e,ih,O4,O2]
   exact ⟨.inr,λh=>h.elim (λz=>absurd z.symm e) id⟩
theorem CU (h:(C.map (·.1)).Nodup) (p n:Int):((putD C p n).map (·.1)).Nodup:=by
 unfold putD
 by_cases z:(ay C p).isSome=true
 ·rw [if_pos z,Py]
  have:(C.map ((·.1)∘λkv=>if kv.1=p then (kv.1,n) else kv))=C.map (·.1):=Q7 λx _=>by
   show (if x.1=p then (x.1,n) else x).1=x.1
   split <;> rfl
  rw [this]; exact h
 ·rw [if_neg z,PR,T6]
  refine ⟨h,by simp,λa ha b hb e=>z (fP.mpr ?_)⟩
  obtain rfl:b=p:=by simpa using hb
  exact e ▸ ha
theorem gJ:∀ (N:Nat) {L:List Int},L.Nodup->(∀ x∈L,0<=x/\x<(N:Int))->L.length<=N
 | 0,L,_,h=>by
  cases L with
  | nil=>exact OT _
  | cons x L=>have:=h x OY; lia
 | N+1,L,nd,h=>by
  by_cases m:(N:Int)∈L
  ·have:=gJ N (nd.erase (N:Int)) λx hx=>by
    have h1:=h x (List.mem_of_mem_erase hx)
    have h2:x≠(N:Int):=λe=>by rw [e] at hx; exact absurd hx (Su.not_mem_erase nd)
    lia
   rw [List.length_erase_of_mem m] at this
   lia
  ·have:=gJ N nd λx hx=>by
    have h1:=h x hx
    have h2:x≠(N:Int):=λe=>m (e ▸ hx)
    lia
   lia
noncomputable def cntK (W:List Int) (w:Int):Nat:=(W.filter λx=>decide (x<w)).length
noncomputable def mC (W:List Int) (w:Int):List Int:=W.take (cntK W w)++w::W.drop (cntK W w)
abbrev CV (W:List Int):Prop:=W.Pairwise (· < ·)
theorem qy (w):∀ {W:List Int},CV W->W.take (cntK W w)=W.filter (λx=>decide (x<w))/\W.drop (cntK W w)=W.filter (λx=> !decide (x<w))
 | [],_=>⟨rfl,rfl⟩
 | a::W,h=>by
  have h:=QU.mp h
  obtain ⟨h1,h2⟩:=qy w h.2
  unfold cntK at *
  by_cases e:a<w
  ·have d:decide (a<w)=true:=decide_eq_true e
   simp only [Vx,d,if_true,Pu,List.take_succ_cons,List.drop_succ_cons,Rp]
   exact ⟨by rw [h1],by rw [h2]; rfl⟩
  ·have no:W.filter (λx=>decide (x<w))=[]:=List.filter_eq_nil_iff.mpr λx hx=>by
    have:=h.1 x hx
    simp; lia
   have d:decide (a<w)=false:=decide_eq_false e
   have e1:(a::W).filter (λx=>decide (x<w))=[]:=by rw [R1 (by simpa using e),no]
   have e2:W.filter (λx=> !decide (x<w))=W:=List.filter_eq_self.mpr λx hx=>by have:=h.1 x hx; simp only [Bool.not_eq_true',decide_eq_false_iff_not]; lia
   have e3:(a::W).filter (λx=> !decide (x<w))=a::W:=by rw [Rk (by simpa using e),e2]
   rw [e1,e3]
   exact ⟨rfl,rfl⟩
theorem vn (W) (w):cntK W w<=W.length:=List.length_filter_le _ _
theorem FT:κ∈mC W w↔κ=w\/κ∈W:=by
 unfold mC
 rw [Pb,O2]
 have:κ∈W↔κ∈W.take (cntK W w)\/κ∈W.drop (cntK W w):=by rw [<- Pb,Q5]
 rw [this]
 constructor
 ·rintro (h | h | h)
  ·exact .inr (.inl h)
  ·exact .inl h
  ·exact .inr (.inr h)
 ·rintro (h | h | h)
  ·exact .inr (.inl h)
  ·exact .inl h
  ·exact .inr (.inr h)
theorem FU (h:CV W) (hw:w∉W):CV (mC W w):=by
 obtain ⟨h1,h2⟩:=qy w h
 unfold mC
 rw [h1,h2]
 refine R4.mpr ⟨h.filter _,QU.mpr ⟨λx hx=>?_,h.filter _⟩,λx hx y hy=>?_⟩
 ·obtain ⟨m,d⟩:=QX.mp hx
  have:x≠w:=λe=>hw (e ▸ m)
  simp at d; lia
 ·obtain ⟨m,d⟩:=QX.mp hx
  have d':x<w:=by simpa using d
  rcases O2.mp hy with rfl | hy
  ·exact d'
  ·obtain ⟨m2,d2⟩:=QX.mp hy
   simp at d2; lia
noncomputable abbrev LS:=List (Int×Int)×List Int
noncomputable def mG (w:Int) (C:List (Int×Int)):List (Int×Int):=if (ay C w).isSome then C else putD C w 0
noncomputable def J5 (w δ :Int) (st:LS):LS:=(putD (mG w st.1) w ((ay (mG w st.1) w).getD 0 - δ),if (ay st.1 w).isSome then st.2 else mC st.2 w)
noncomputable def tM (b s q:Int) (L:List aI) (st:LS):LS:=L.foldl (λst u=>J5 (pk b u.1+s) (u.2 * q) st) st
structure Wk (st:LS):Prop where
 n:(st.1.map (·.1)).Nodup
 a:CV st.2
 m:∀ κ∈st.2,gI st.1 κ
theorem ki (w) (C) (κ):(ay (mG w C) κ).getD 0=(ay C κ).getD 0/\(gI (mG w C) κ↔gI C κ\/w=κ):=by
 unfold mG gI
 by_cases h:(ay C w).isSome=true
 ·rw [if_pos h]
  exact ⟨rfl,.inl,λz=>z.elim id λe=>e ▸ h⟩
 ·rw [if_neg h,mz]
  by_cases e:w=κ
  ·rw [if_pos e]
   subst e
   refine ⟨?_,by simp⟩
   cases z:ay C w with
   | none=>rfl
   | some v=>rw [z] at h; exact absurd rfl h
  ·rw [if_neg e]
   exact ⟨rfl,.inl,λz=>z.elim id λq=>absurd q e⟩
theorem FW (w δ) (st:LS) (κ):(ay (J5 w δ st).1 κ).getD 0=(ay st.1 κ).getD 0 - (if w=κ then δ else 0):=by
 show (ay (putD (mG w st.1) w _) κ).getD 0=_
 rw [mz,(ki w st.1 w).1]
 by_cases e:w=κ
 ·subst e; rw [if_pos rfl,if_pos rfl]; rfl
 ·rw [if_neg e,if_neg e,(ki w st.1 κ).1]; lia
theorem qz (w δ) (st:LS) (κ):gI (J5 w δ st).1 κ↔gI st.1 κ\/w=κ:=by
 show (ay (putD (mG w st.1) w _) κ).isSome=true↔_
 rw [mz]
 by_cases e:w=κ
 ·rw [if_pos e]; simp [e]
 ·rw [if_neg e]; exact (ki w st.1 κ).2
theorem tD (w δ) (st:LS) (κ):κ∈(J5 w δ st).2↔κ∈st.2\/(¬ gI st.1 κ/\w=κ):=by
 show κ∈(if (ay st.1 w).isSome then st.2 else mC st.2 w)↔_
 by_cases h:(ay st.1 w).isSome=true
 ·rw [if_pos h]
  exact ⟨.inl,λz=>z.elim id λ⟨a,b⟩=>absurd (b ▸ h) a⟩
 ·rw [if_neg h,FT]
  constructor
  ·rintro (rfl | z)
   ·exact .inr ⟨h,rfl⟩
   ·exact .inl z
  ·rintro (z | ⟨_,rfl⟩)
   ·exact .inr z
   ·exact .inl rfl
theorem J6 {st:LS} (h:Wk st):Wk (J5 w δ st):=by
 refine ⟨CU ?_ _ _,?_,λκ hk=>?_⟩
 ·unfold mG
  split
  ·exact h.n
  ·exact CU h.n _ _
 ·show CV (if (ay st.1 w).isSome then st.2 else mC st.2 w)
  by_cases z:(ay st.1 w).isSome=true
  ·rw [if_pos z]; exact h.a
  ·rw [if_neg z]; exact FU h.a λm=>z (h.m w m)
 ·rw [qz]
  rcases (tD w δ st κ).mp hk with z | ⟨_,z⟩
  ·exact .inl (h.m κ z)
  ·exact .inr z
structure Tk (b s q:Int) (L:List aI) (st st':LS):Prop where
 v:∀ κ,(ay st'.1 κ).getD 0=(ay st.1 κ).getD 0 - q * kc (pk b) (κ - s) L
 h:∀ κ,gI st'.1 κ↔gI st.1 κ\/∃ u∈L,pk b u.1+s=κ
 w:∀ κ,κ∈st'.2↔κ∈st.2\/(¬ gI st.1 κ/\∃ u∈L,pk b u.1+s=κ)
 k:Wk st'
theorem CW (b s q):∀ (L:List aI) {st:LS},Wk st->Tk b s q L st (tM b s q L st)
 | [],st,h=>⟨λκ=>by show (ay st.1 κ).getD 0=_ - q * 0; lia,λκ=>⟨.inl,λz=>z.elim id λ⟨u,hu,_⟩=>by cases hu⟩,λκ=>⟨.inl,λz=>z.elim id λ⟨_,u,hu,_⟩=>by cases hu⟩,h⟩
 | u::L,st,h=>by
  have T:=CW b s q L (J6 (w:=pk b u.1+s) (δ :=u.2 * q) h)
  refine ⟨λκ=>?_,λκ=>?_,λκ=>?_,T.k⟩
  ·refine (T.v κ).trans ?_
   rw [FW,gG (gH b),Sq]
   by_cases e:pk b u.1+s=κ
   ·rw [if_pos e,if_pos (by lia),Q3 u.2 q]; lia
   ·rw [if_neg e,if_neg (by lia)]; lia
  ·refine (T.h κ).trans ?_
   rw [qz]
   constructor
   ·rintro ((z | z) | ⟨v,hv,e⟩)
    ·exact .inl z
    ·exact .inr ⟨u,OY,z⟩
    ·exact .inr ⟨v,O1 _ hv,e⟩
   ·rintro (z | ⟨v,hv,e⟩)
    ·exact .inl (.inl z)
    ·rcases O2.mp hv with rfl | hv
     ·exact .inl (.inr e)
     ·exact .inr ⟨v,hv,e⟩
  ·refine (T.w κ).trans ?_
   rw [tD,qz]
   constructor
   ·rintro ((z | ⟨z,e⟩) | ⟨z,v,hv,e⟩)
    ·exact .inl z
    ·exact .inr ⟨z,u,OY,e⟩
    ·exact .inr ⟨λq=>z (.inl q),v,O1 _ hv,e⟩
   ·rintro (z | ⟨z,v,hv,e⟩)
    ·exact .inl (.inl z)
    ·by_cases eu:pk b u.1+s=κ
     ·exact .inl (.inr ⟨z,eu⟩)
     ·rcases O2.mp hv with rfl | hv
      ·exact absurd e eu
      ·exact .inr ⟨λq=>q.elim z eu,v,hv,e⟩
noncomputable def mD (O B:List aI) (k:Nat):Int:=gk O k - gk B k
structure QT (O B:List aI) (t:aI):Prop where
 l:t.1.length<=6
 tr:trim t.1=t.1
 m:∀ k,0<=aQ t.1 k/\aQ t.1 k<=mD O B k
structure mE (O:List aI) (lb:aI) (Br:List aI):Prop where
 o:Nf (2 ^ jE O (lb::Br)) O
 b:Nf (2 ^ jE O (lb::Br)) (lb::Br)
 w:jE O (lb::Br)<=4
 s:∀ u∈lb::Br,u.2.natAbs<2 ^ 63
 l:O.length<=20000
 m:Br.length<=20000
 e:gk O 0<=14
section
variable {O Br Q A:List aI} {lb:aI} {C:List (Int×Int)} {W:List Int} {κ:Int} {st:LS}
noncomputable abbrev bb (O:List aI) (lb:aI) (Br:List aI):Int:=2 ^ jE O (lb::Br)
theorem mE.pos (_:mE O lb Br):0<bb O lb Br:=two_pos _
theorem jF (h:p.length<=6) (hk:¬ k<6):aQ p k=0:=bX (by omega)
theorem mE.gb (_:mE O lb Br) (hk:k<6):gk O k<bb O lb Br:=by
 have h1:gk O k<=i6 (aS O):=sR (Pn.mpr ⟨k,SX.mpr hk,rfl⟩)
 have h2:=lZ (aS O)
 have h3:=lZ (aS (lb::Br))
 have:=qm (x:=i6 (aS O)+i6 (aS (lb::Br))) (by lia)
 unfold bb jE
 lia
theorem mE.box (h:mE O lb Br) (ht:QT O (lb::Br) t) (hu:u∈lb::Br):Bd (bb O lb Br) (cg u.1 t.1):=by
 have bu:=(h.b.g u hu).1
 refine ⟨by rw [gq]; have:=bu.1; have:=ht.l; omega,λx hx=>?_⟩
 unfold cg at hx
 obtain ⟨k,hk,rfl⟩:=Pn.mp hx
 have k6:k<6:=by have:=SX.mp hk; have:=bu.1; have:=ht.l; omega
 have h1:=oz h.pos bu k
 have h2:=ht.m k
 have h3:aQ u.1 k<=gk (lb::Br) k:=cz 0 hu
 have h4:=h.gb k6
 unfold mD at h2
 lia
theorem mE.Mm (h:mE O lb Br) (ht:QT O (lb::Br) t) (hu:u∈lb::Br):aQ (cg u.1 t.1) 0<=14:=by
 rw [bC]
 have h2:=ht.m 0
 have h3:aQ u.1 0<=gk (lb::Br) 0:=cz 0 hu
 have h4:=h.e
 unfold mD at h2
 lia
theorem mE.rg (h:mE O lb Br) (hv:Bd (bb O lb Br) v) (h0:aQ v 0<=14):0<=pk (bb O lb Br) v/\pk (bb O lb Br) v<15728640:=by
 have hb5:(bb O lb Br) ^ 5<=1048576:=by
  have w:=h.w
  unfold bb
  generalize jE O (lb::Br)=n at w
  have:n=0\/n=1\/n=2\/n=3\/n=4:=by omega
  rcases this with rfl | rfl | rfl | rfl | rfl <;> decide
 have hp:0<(bb O lb Br) ^ 5:=QL h.pos
 refine ⟨(xm h.pos hv).1,?_⟩
 show aQ v 0 * (bb O lb Br) ^ 5+dig (bb O lb Br) 5 (λi=>aQ v (i+1))<_
 have d:=(gp h.pos 5 (λi=>aQ v (i+1)) λi _=>oz h.pos hv (i+1)).2
 have m:aQ v 0 * (bb O lb Br) ^ 5<=14 * (bb O lb Br) ^ 5:=Sx h0 (Qm hp)
 lia
theorem mE.N4 (h:mE O lb Br) (ht:QT O (lb::Br) t):Bd (bb O lb Br) t.1:=by
 refine ⟨ht.l,λx hx=>?_⟩
 obtain ⟨k,hk,rfl⟩:=List.mem_iff_getElem.mp hx
 have h2:=ht.m k
 have h4:=h.gb (k:=k) (by have:=ht.l; omega)
 have h5:=sQ (lb::Br) k
 rw [bV hk] at h2
 unfold mD at h2
 lia
noncomputable def rem (O:List aI) (lb:aI) (Br Q:List aI) (κ:Int):Int:=kc (pk (bb O lb Br)) κ O - kc (pk (bb O lb Br)) κ (aE Q (lb::Br))
structure Dv (O:List aI) (lb:aI) (Br Q:List aI) (st:LS):Prop where
 k:Wk st
 q:∀ t∈Q,QT O (lb::Br) t
 r:∀ κ,gI st.1 κ->∃ v,Bd (bb O lb Br) v/\aQ v 0<=14/\κ=pk (bb O lb Br) v
 a:∀ κ∈st.2,(ay st.1 κ).getD 0=rem O lb Br Q κ
 n:∀ κ,¬ gI st.1 κ->rem O lb Br Q κ=0
 p:∀ κ,gI st.1 κ->κ∉st.2->rem O lb Br Q κ=0/\∀ κ'∈st.2,κ'<κ
structure XA (O:List aI) (lb:aI) (Br A:List aI):Prop where
 n:Nf (bb O lb Br) A
 e:∀ κ,kc (pk (bb O lb Br)) κ O=kc (pk (bb O lb Br)) κ (aE A (lb::Br))
 m:∀ t∈A,∀ k,aQ t.1 k<=mD O (lb::Br) k
theorem jb (h:CV (W++[κ])) (hx:x∈W):x<κ:=(R4.mp h).2.2 x hx κ (Pa.mpr rfl)
theorem Dv.N5 (h:Dv O lb Br Q (C,W++[κ])) (z:(ay C κ).getD 0=0):Dv O lb Br Q (C,W):=by
 have hk:κ∈W++[κ]:=by simp
 refine ⟨⟨h.k.n,(R4.mp h.k.a).1,λx hx=>h.k.m x (Qk _ hx)⟩,h.q,h.r,λx hx=>h.a x (Qk _ hx),h.n,λx hx hn=>?_⟩
 by_cases e:x=κ
 ·subst e
  exact ⟨(h.a x hk).symm.trans z,λy hy=>jb h.k.a hy⟩
 ·have:=h.p x hx λm=>by
   rcases Pb.mp m with m | m
   ·exact hn m
   ·exact e (Pa.mp m)
  exact ⟨this.1,λy hy=>this.2 y (Qk _ hy)⟩
theorem Dv.step (d:mE O lb Br) (h:Dv O lb Br Q (C,W++[κ])) (ht:QT O (lb::Br) t) (hk:pk (bb O lb Br) t.1+pk (bb O lb Br) lb.1=κ) (hv:t.2 * lb.2=(ay C κ).getD 0) :
 Dv O lb Br (Q++[t]) (tM (bb O lb Br) (pk (bb O lb Br) t.1) t.2 Br (C,W))/\∀ x∈(tM (bb O lb Br) (pk (bb O lb Br) t.1) t.2 Br (C,W)).2,x<κ:=by
 have hm:κ∈W++[κ]:=by simp
 have hkC:gI C κ:=h.k.m κ hm
 have ka:=gH (bb O lb Br)
 have T:=CW (bb O lb Br) (pk (bb O lb Br) t.1) t.2 Br (st:=(C,W)) ⟨h.k.n,(R4.mp h.k.a).1,λx hx=>h.k.m x (Qk _ hx)⟩
 have lt:∀ u∈Br,pk (bb O lb Br) u.1+pk (bb O lb Br) t.1<κ:=λu hu=>by have:=d.b.tail.2 u hu; lia
 have zero:∀ x,κ<=x->kc (pk (bb O lb Br)) (x - pk (bb O lb Br) t.1) Br=0:=λx hx=>dZ ka λu hu e=>by have:=lt u hu; lia
 have rr:∀ x,rem O lb Br (Q++[t]) x=rem O lb Br Q x - (if x=κ then t.2 * lb.2 else 0) - t.2 * kc (pk (bb O lb Br)) (x - pk (bb O lb Br) t.1) Br:=λx=>by
  unfold rem
  rw [FP ka,gG ka,Sq]
  by_cases e:x=κ
  ·rw [if_pos e,if_pos (by lia)]; lia
  ·rw [if_neg e,if_neg (by lia)]; lia
 have r0:rem O lb Br (Q++[t]) κ=0:=by
  rw [rr,if_pos rfl,zero κ (PV _),<- h.a κ hm,hv]; lia
 have wlt:∀ x∈(tM (bb O lb Br) (pk (bb O lb Br) t.1) t.2 Br (C,W)).2,x<κ:=λx hx=>by
  rcases (T.w x).mp hx with z | ⟨_,u,hu,e⟩
  ·exact jb h.k.a z
  ·rw [<- e]; exact lt u hu
 refine ⟨⟨T.k,λu hu=>?_,λx hx=>?_,λx hx=>?_,λx hx=>?_,λx hx hn=>?_⟩,wlt⟩
 ·rcases Pb.mp hu with hu | hu
  ·exact h.q u hu
  ·rw [Pa.mp hu]; exact ht
 ·rcases (T.h x).mp hx with z | ⟨u,hu,e⟩
  ·exact h.r x z
  ·exact ⟨_,d.box ht (O1 _ hu),d.Mm ht (O1 _ hu),by rw [fM]; exact e.symm⟩
 ·have ne:x≠κ:=λe=>by have:=wlt x hx; lia
  rw [T.v,rr,if_neg ne]
  rcases (T.w x).mp hx with z | ⟨z,_⟩
  ·rw [h.a x (Qk _ z)]; lia
  ·rw [h.n x z]
   have:(ay C x).getD 0=0:=by cases e:ay C x with | none=>rfl | some v=>exact absurd (show gI C x by unfold gI; rw [e]; rfl) z
   rw [this]; lia
 ·have z:=λq=>hx ((T.h x).mpr q)
  have ne:x≠κ:=λe=>z (.inl (e ▸ hkC))
  rw [rr,if_neg ne,h.n x λq=>z (.inl q),dZ ka λu hu e=>z (.inr ⟨u,hu,by lia⟩)]
  lia
 ·have z:¬ (x∈W\/(¬ gI C x/\∃ u∈Br,pk (bb O lb Br) u.1+pk (bb O lb Br) t.1=x)):=λq=>hn ((T.w x).mpr q)
  have hC:gI C x:=by
   refine RZ λq=>?_
   rcases (T.h x).mp hx with g | g
   ·exact q g
   ·exact z (.inr ⟨q,g⟩)
  by_cases e:x=κ
  ·rw [e]; exact ⟨r0,wlt⟩
  ·have:=h.p x hC λm=>by
    rcases Pb.mp m with m | m
    ·exact z (.inl m)
    ·exact e (Pa.mp m)
   have gt:κ<x:=this.2 κ hm
   refine ⟨?_,λy hy=>Int.lt_trans (wlt y hy) gt⟩
   rw [rr,if_neg e,zero x (Qm gt),this.1]
   lia
theorem XA.rest (X:XA O lb Br A) (i) (κ):rem O lb Br (A.take i) κ=kc (pk (bb O lb Br)) κ (aE (A.drop i) (lb::Br)):=by
 unfold rem
 rw [X.e κ]
 have:=vf (K:=pk (bb O lb Br)) κ (aE (A.take i) (lb::Br)) (aE (A.drop i) (lb::Br))
 rw [<- tw,Q5] at this
 lia
theorem Dv.exact (d:mE O lb Br) (h:Dv O lb Br (A.take i) (C,W++[κ])) (X:XA O lb Br A) (nz:(ay C κ).getD 0≠0):∃ a,A[i]?=some a/\κ=pk (bb O lb Br) a.1+pk (bb O lb Br) lb.1/\(ay C κ).getD 0=a.2 * lb.2:=by
 have hm:κ∈W++[κ]:=by simp
 have rk:=h.a κ hm
 rw [X.rest] at rk
 cases e:A.drop i with
 | nil=>rw [e] at rk; exact absurd rk nz
 | cons a R =>
  have hA:Nf (bb O lb Br) (a::R):=e ▸ X.n.drop i
  obtain ⟨l1,l2⟩:=xQ hA d.b
  have ea:A[i]?=some a:=by rw [<- List.head?_drop,e]; rfl
  have ne:a.2 * lb.2≠0:=Ue (hA.z a OY) (d.b.z lb OY)
  have rS:rem O lb Br (A.take i) (pk (bb O lb Br) a.1+pk (bb O lb Br) lb.1)=a.2 * lb.2:=by rw [X.rest,e]; exact l1
  have c1:gI C (pk (bb O lb Br) a.1+pk (bb O lb Br) lb.1):=RZ λq=>ne (rS.symm.trans (h.n _ q))
  have c2:pk (bb O lb Br) a.1+pk (bb O lb Br) lb.1∈W++[κ]:=RZ λq=>ne (rS.symm.trans (h.p _ c1 q).1)
  have c3:pk (bb O lb Br) a.1+pk (bb O lb Br) lb.1<=κ:=by
   rcases Pb.mp c2 with m | m
   ·exact Qm (jb h.k.a m)
   ·exact Int.le_of_eq (Pa.mp m)
  have c4:¬ pk (bb O lb Br) a.1+pk (bb O lb Br) lb.1<κ:=λq=>nz (rk.trans (by rw [e]; exact l2 κ q))
  have c5:κ=pk (bb O lb Br) a.1+pk (bb O lb Br) lb.1:=by lia
  exact ⟨a,ea,c5,by rw [h.a κ hm,c5]; exact rS⟩
theorem Dv.done (h:Dv O lb Br Q (C,[])) (κ):rem O lb Br Q κ=0:=by
 by_cases z:gI C κ
 ·exact (h.p κ z (by intro m; cases m)).1
 ·exact h.n κ z
theorem Dv.all (d:mE O lb Br) (h:Dv O lb Br (A.take i) (C,[])) (X:XA O lb Br A):A.take i=A:=by
 cases e:A.drop i with
 | nil =>
  have:=Q5 i A
  rw [e,Qd] at this; exact this
 | cons a R =>
  have hA:Nf (bb O lb Br) (a::R):=e ▸ X.n.drop i
  have l1:=(xQ hA d.b).1
  have ne:a.2 * lb.2≠0:=Ue (hA.z a OY) (d.b.z lb OY)
  have:=h.done (pk (bb O lb Br) a.1+pk (bb O lb Br) lb.1)
  rw [X.rest,e] at this
  exact absurd (l1.symm.trans this) ne
theorem Dv.start (d:mE O lb Br) (hp:W.Perm ((O.map (fu (bb O lb Br))).map (·.1))) (ha:CV W):Dv O lb Br [] (O.map (fu (bb O lb Br)),W):=by
 have em:(O.map (fu (bb O lb Br))).map (·.1)=O.map λt=>pk (bb O lb Br) t.1:=by rw [Py]; rfl
 have hasE:∀ κ,gI (O.map (fu (bb O lb Br))) κ↔∃ t∈O,pk (bb O lb Br) t.1=κ:=λκ=>by rw [fP,em,Pn]
 have nd:((O.map (fu (bb O lb Br))).map (·.1)).Nodup:=by
  rw [em]
  exact Vp _ (λa b h e=>by lia) d.o.s
 have ka:=gH (bb O lb Br)
 have val:∀ t∈O,ay (O.map (fu (bb O lb Br))) (pk (bb O lb Br) t.1)=some t.2:=λt ht=>by
  rw [pZ d.pos d.o.g (d.o.g t ht).1 (d.o.g t ht).2]
  exact p5 (Vp _ (λa b h e=>by rw [e] at h; exact absurd h (Int.lt_irrefl _)) d.o.s) ht
 have r0:∀ κ,rem O lb Br [] κ=kc (pk (bb O lb Br)) κ O:=λκ=>by show _ - 0=_; lia
 have inW:∀ κ,gI (O.map (fu (bb O lb Br))) κ->κ∈W:=λκ h=>hp.mem_iff.mpr (fP.mp h)
 refine ⟨⟨nd,ha,λκ hk=>fP.mpr (hp.mem_iff.mp hk)⟩,(λt ht=>by cases ht),λκ hk=>?_,λκ hk=>?_,λκ hk=>?_,λκ h hn=>absurd (inW κ h) hn⟩
 ·obtain ⟨t,ht,rfl⟩:=(hasE κ).mp hk
  exact ⟨t.1,(d.o.g t ht).1,PB (cz 0 ht) d.e,rfl⟩
 ·obtain ⟨t,ht,rfl⟩:=(hasE κ).mp (fP.mpr (hp.mem_iff.mp hk))
  show (ay (O.map (fu (bb O lb Br))) _).getD 0=_
  rw [r0,val t ht,d.o.at ht]; rfl
 ·rw [r0]
  exact dZ ka λt ht e=>hk ((hasE κ).mpr ⟨t,ht,e⟩)
theorem Dv.few (d:mE O lb Br) (h:Dv O lb Br Q st):∀ κ,gI st.1 κ->0<=κ/\κ<15728640:=λκ hk=>by
 obtain ⟨v,hv,h0,rfl⟩:=h.r κ hk
 exact d.rg hv h0
end
theorem Wk.few {st:LS} (k:Wk st) (h:∀ κ,gI st.1 κ->0<=κ/\κ<15728640):st.1.length<=15728640/\st.2.length<=15728640:=by
 refine ⟨?_,?_⟩
 ·have:=gJ 15728640 k.n λx hx=>h x (fP.mpr hx)
  rwa [OW] at this
 ·exact gJ 15728640 (k.a.imp λh e=>by lia) λx hx=>h x (k.m x hx)
section
variable {K:OR}
noncomputable def xR:Fn:=λds r=>∃ A B:List aI,(∀ t∈A,t.1.length<=6)/\(∀ t∈B,t.1.length<=6)/\ds=[.lst (A.map ah),.lst (B.map ah)]/\r=.ok (.ow (bR (mD A B)))
theorem J7 (h:∀ t∈A,t.1.length<=6) (g:∀ t∈B,t.1.length<=6):xR [.lst (A.map ah),.lst (B.map ah)] (.ok (.ow (bR (mD A B)))):=⟨A,B,h,g,rfl,rfl⟩
theorem N6 (f g):uF (bR f) (bR g)=(Pc 6).map λk=>D.tup [.int (f k),.int (g k)]:=by
 unfold uF bR
 rw [Py,Py,List.zipWith_map,List.zipWith_self]
 rfl
theorem Mn (f):((Pc 6).map λk=>some (D.int (f k))).filterMap id=bR f:=by
 unfold bR
 rw [Py]
 exact gv (λk=>D.int (f k)) (Pc 6)
section
local macro_rules | `(tactic| walk_at "evCa")=> `(tactic| first | with_reducible refine aM (F:=fN) (by assumption) (by decide) ?_)
local macro_rules | `(tactic| walk_at "evR")=> `(tactic| first | with_reducible refine aC (kg (by assumption)) ?_)
theorem FY (Fu:dO K "room_for" "room_for" (top 27) f fd) (T:Txt K mg) (h1:cQ P w K mg base 1 "greatest_powers" fN):bh P w K mg base (cV P w) 2 f fd ["one","other"] (eS K xR):=by
 refine cD Fu sN (by rintro ds r ⟨A,B,_,_,rfl,_⟩; rfl) (by rintro ds r ⟨A,B,_,_,_,rfl⟩; exact ⟨_,rfl⟩) λc hq ds sl hF=>?_
 obtain ⟨A,B,hA,hB,rfl,e⟩:=hF
 injection e with e
 subst e
 show aH c _ [.va (.lst (A.map ah)),.va (.lst (B.map ah))] _ _
 conv in (av _)=>whnf
 walk_at "evSs"
 refine nG (gc hq (N':=["whole","part"]) (ρ0:=λ_=>[.un,.un]) (λt=>.un (.un .nil)) (LY (Txt.zip T) ?_))
 walk_at "ev"
 refine ⟨bR (gk A),bR (gk B),rfl,rfl,?_⟩
 rw [N6]
 refine Sd.mk (qU (Nat.le_of_ble_eq_true rfl)) ⟨(Pc 6).map λk=>some (D.int (mD A B k)),by simp,?_,?_⟩
 ·intro c' hc t i d o hd ho
  simp only [O8,Pf] at hd ho
  obtain ⟨x,hx,rfl⟩:=hd
  obtain ⟨x',hx',rfl⟩:=ho
  rw [hx] at hx'; cases hx'
  refine Az rfl (by walk_at "u") ?_
  walk_at "ev"
  refine ⟨.un (.un .nil),?_⟩
  simp only [nK]
  refine ⟨λ_=>?_,λh=>by cases h⟩
  walk_at "ev"
  rfl
 ·rw [Mn]
end
def J8 (v:List Int) (l:aI) (g:Nat->Int) (k:Nat):Prop:=0<=aQ v k - aQ l.1 k/\aQ v k - aQ l.1 k<=g k
noncomputable def oO (v:List Int) (l:aI) (n:Nat):List Int:=(Pc n).map λk=>aQ v k - aQ l.1 k
noncomputable def tN (v:List Int) (n:Int) (l:aI) (g:Nat->Int):D:=open Classical in if n.fmod l.2≠0 then .non else if ∀ k,k<6->J8 v l g k then ah (trim (oO v l 6),n.fdiv l.2) else .non
theorem CY (v) (l) (n):oO v l (n+1)=oO v l n++[aQ v n - aQ l.1 n]:=by unfold oO; rw [Uc,PR]; rfl
noncomputable def MS:Fn:=λds r=>∃ (v:List Int) (n:Int) (l:aI) (g:Nat->Int),l.2≠0/\l.2.natAbs<2 ^ 63/\ds=[.tup (v.map .int),.int n,ah l,.lst (bR g)]/\r=.ok (.va (tN v n l g))
theorem N7 (h:l.2≠0) (h2:l.2.natAbs<2 ^ 63):MS [.tup (v.map .int),.int n,ah l,.lst (bR g)] (.ok (.va (tN v n l g))):=⟨v,n,l,g,h,h2,rfl,rfl⟩
theorem J9 {j:Int} (h0:j≠0) (h:j.natAbs<2 ^ 63):j≠0/\j.natAbs.log2<9000:=⟨h0,Nat.lt_trans ((Tj (by lia)).mpr h) (by decide)⟩
section
local macro_rules | `(tactic| walk_at "evBo")=> `(tactic| first
 | ((with_reducible show aJ _ (Sw _ Operator.Mod _ _) _ _); with_reducible refine JA ?_)
 | ((with_reducible show aJ _ (Sw _ Operator.FloorDiv _ _) _ _); with_reducible refine vM ?_))
local macro_rules | `(tactic| walk_at "evCa")=> `(tactic| first
 | with_reducible refine aM (F:=GU) (by assumption) (by decide) ?_
 | with_reducible refine aM (F:=gU) (by assumption) (by decide) ?_)
local macro_rules | `(tactic| walk_at "evR")=> `(tactic| first | with_reducible refine aC (JR _ _) ?_)
local macro_rules | `(tactic| walk_at "evIx")=> `(tactic| first
 | ((with_reducible show aJ _ (Qe (O9 _ _) (Uo _ _ _) _) _ _); with_reducible refine nJ ?_)
 | ((with_reducible show aJ _ (Qe (O9 _ _) (O9 _ _) _) _ _); with_reducible refine nJ ?_))
local macro_rules | `(tactic| walk_at "evE")=> `(tactic| first | ((with_reducible show aJ _ (O9 "PLACES" _) _ _); with_reducible refine kM (by assumption) ?_))
local macro_rules | `(tactic| walk_at "side")=> `(tactic| first | assumption | exact J9 (by assumption) (by assumption))
theorem Mp (Fu:dO K "term_by" "term_by" (top 28) f fd) (T:Txt K mg) (PL:∃ tk:Tok,mg "PLACES"=some (.int 6 tk)) (h1:cQ P w K mg base 1 "power_at" GU) (h2:cQ P w K mg base 1 "trimmed" gU):bh P w K mg base (cV P w) 2 f fd ["powers","number","lead","room"] (eS K MS):=by
 obtain ⟨tk,hPL⟩:=PL
 refine cD Fu uW (by rintro ds r ⟨v,n,l,g,_,_,rfl,_⟩; rfl) (by rintro ds r ⟨v,n,l,g,_,_,_,rfl⟩; exact ⟨_,rfl⟩) λc hq ds sl hF=>?_
 obtain ⟨v,n,l,g,hl0,hl,rfl,e⟩:=hF
 injection e with e
 subst e
 show aH c _ [.va (.tup (v.map .int)),.va (.int n),.va (.tup [.tup (l.1.map .int),.int l.2]),.va (.lst (bR g)),.un,.un,.un] _ _
 conv in (av _)=>whnf
 refine ak ?_
 generalize hG:(λρ'=>aH c _ ρ' _ _)=G
 walk_at "ev"
 rotate_left
 ·rename_i hm
  show Sl.va D.non=Sl.va _
  unfold tN
  rw [if_pos hm]
 rename_i hm
 subst hG
 walk_at "ev"
 with_reducible refine cX hq (dD (Txt.range (by assumption)) ?_)
 walk_at "ev"
 ·exact ⟨by decide,by decide⟩
 refine ⟨λk ρ'=>∃ s5 s6:Sl,(∀ j,j<k->J8 v l g j)/\ρ'=[.va (.tup (v.map .int)),.va (.int n),.va (.tup [.tup (l.1.map .int),.int l.2]),.va (.lst (bR g)),.ow ((oO v l k).map .int),s5,s6],⟨_,_,(λj hj=>absurd hj (Nat.not_lt_zero _)),rfl⟩,?_,?_⟩
 ·rintro c' tF zw zz k d ρ' hd ⟨s5,s6,hok,rfl⟩
  obtain ⟨hk,rfl⟩:=fG hd
  have hk:k<6:=hk
  have hlen:(oO v l k).length=k:=by unfold oO; rw [OW,Rn]
  have bad:¬ J8 v l g k->tN v n l g=.non:=λq=>by
   unfold tN
   rw [if_neg (λz=>z hm),if_neg λz=>q (z k hk)]
  have est:=CY v l k
  generalize hdk:oO v l k=L at hlen est |-
  refine eG (by walk_at "at") (qC (by walk_at "sset") ?_)
  refine ak ?_
  generalize hG:(λρ'=>aH c' _ ρ' _ _)=G
  walk_at "ev"
  subst hG
  have hat:jS (bR g) (k:Int)=some (.int (g k)):=qk g hk
  walk_at "ev"
  ·rename_i h0
   show Sl.va D.non=Sl.va _
   rw [bad λq=>by have:=q.1; lia]
  rename_i h0
  refine iJ hat ?_
  walk_at "ev"
  ·rename_i h1
   show Sl.va D.non=Sl.va _
   rw [bad λq=>by have:=q.2; lia]
  rename_i h1
  ·rw [OW]; exact dM (by lia)
  have okk:∀ j,j<k+1->J8 v l g j:=λj hj=>by
   by_cases e:j=k
   ·rw [e]; exact ⟨by lia,by lia⟩
   ·exact hok j (by lia)
  exact ⟨.va (.int (k:Int)),.va (.int (aQ v k - aQ l.1 k)),okk,by rw [est,PR]; rfl⟩
 ·rintro ρ' ⟨s5,s6,hok,rfl⟩
  rw [gw]
  refine jm 4 (by walk_at "at") rfl (by walk_at "sset") ?_
  walk_at "ev"
  refine aC (uZ (by unfold oO; rw [OW,Rn]; decide)) ?_
  walk_at "ev"
  show Sl.va _=Sl.va _
  unfold tN
  rw [if_neg (λz=>z hm),if_pos (show ∀ k,k<6->J8 v l g k from hok)]
  rfl
end
theorem FZ (h:CV W) (w) (hm:m<W.length):(W[m]<w↔m<cntK W w):=by
 obtain ⟨h1,h2⟩:=qy w h
 have hc:=vn W w
 constructor
 ·intro lt
  refine Nat.not_le.mp λle=>?_
  have:W[m]∈W.drop (cntK W w):=by
   have e:W[m]=(W.drop (cntK W w))[m - cntK W w]'(by rw [Sf]; omega):=by
    rw [List.getElem_drop]; congr 1; omega
   rw [e]; exact Pw _
  rw [h2] at this
  have:=(QX.mp this).2
  simp at this; lia
 ·intro lt
  have:W[m]∈W.take (cntK W w):=by
   have e:W[m]=(W.take (cntK W w))[m]'(by rw [PZ]; omega):=by rw [List.getElem_take]
   rw [e]; exact Pw _
  rw [h1] at this
  have:=(QX.mp this).2
  simpa using this
noncomputable def F0:Fn:=λds r=>∃ (W:List Int) (w:Int),CV W/\W.length<=15728640/\ds=[.lst (W.map .int),.int w]/\r=.ok (.va (.int (cntK W w:Nat)))
theorem Mq {w:Int} (h:CV W) (hl:W.length<=15728640):F0 [.lst (W.map .int),.int w] (.ok (.va (.int (cntK W w:Nat)))):=⟨W,w,h,hl,rfl,rfl⟩
theorem N8 {W:List Int} (hm:m<W.length):jS (W.map D.int) (m:Int)=some (.int W[m]):=by
 rw [fF (by lia) (by rw [OW]; lia),P6,O8,Pk hm]; rfl
section
local macro_rules | `(tactic| walk_at "evIx")=> `(tactic| first
 | ((with_reducible show aJ _ (Qe (O9 _ _) (O9 _ _) _) _ _); with_reducible refine nJ ?_))
theorem Ka (Fu:dO K "place_among" "place_among" (top 29) f fd) (T:Txt K mg):bh P w K mg base (cV P w) 1 f fd ["waiting","key"] (eS K F0):=by
 refine cD Fu lV (by rintro ds r ⟨W,w,_,_,rfl,_⟩; rfl) (by rintro ds r ⟨W,w,_,_,_,rfl⟩; exact ⟨_,rfl⟩) λc hq ds sl hF=>?_
 obtain ⟨W,w,hW,hl,rfl,e⟩:=hF
 injection e with e
 subst e
 show aH c _ [.va (.lst (W.map .int)),.va (.int w),.un,.un,.un] _ _
 conv in (av _)=>whnf
 have hc:=vn W w
 refine ak ?_
 generalize hG:(λρ'=>aH c _ ρ' _ _)=G
 walk_at "ev"
 subst hG
 refine ak ?_
 generalize hG:(λρ'=>aH c _ ρ' _ _)=G
 walk_at "ev"
 subst hG
 refine ak (fD hq (λm ρ'=>∃ (lo hi:Nat) (s4:Sl),lo<=cntK W w/\cntK W w<=hi/\hi<=W.length/\m=hi - lo/\ρ'=[.va (.lst (W.map .int)),.va (.int w),.va (.int (lo:Int)),.va (.int (hi:Int)),s4]) (m₀:=W.length) ⟨0,W.length,_,PK _,hc,OT _,rfl,by rw [OW]; rfl⟩ ?_)
 rintro m ρ' ⟨lo,hi,s4,h1,h2,h3,rfl,rfl⟩
 walk_at "ev"
 ·rename_i hlt
  have e1:((lo:Int)+(hi:Int)) / 2=(((lo+hi) / 2:Nat):Int):=by lia
  have hm:(lo+hi) / 2<W.length:=by lia
  have ac:=FZ hW w hm
  rw [e1]
  generalize hmid:(lo+hi) / 2=mid at hm ac |-
  walk_at "ev"
  refine iJ (N8 hm) ?_
  walk_at "ev"
  ·rename_i hlt2
   have hl2:=ac.mp hlt2
   exact ⟨hi - (mid+1),by lia,mid+1,hi,.va (.int (mid:Int)),by lia,h2,h3,rfl,rfl⟩
  ·rename_i hlt2
   have hl2:¬ mid<cntK W w:=λq=>hlt2 (ac.mpr q)
   exact ⟨mid - lo,by lia,lo,mid,.va (.int (mid:Int)),h1,by lia,by lia,rfl,rfl⟩
 ·rename_i hlt
  have e:lo=cntK W w:=by lia
  rw [e]
end
end
section
variable {K:OR}
theorem xS {L:List aI} {st:LS} (h:Wk st) (rg:∀ κ,gI st.1 κ->0<=κ/\κ<15728640) (rl:∀ u∈L,0<=pk b u.1+s/\pk b u.1+s<15728640) (i) :
 Wk (tM b s q (L.take i) st)/\(tM b s q (L.take i) st).1.length<=15728640/\(tM b s q (L.take i) st).2.length<=15728640:=by
 have T:=CW b s q (L.take i) h
 have:=T.k.few λκ hk=>by
  rcases (T.h κ).mp hk with z | ⟨u,hu,e⟩
  ·exact rg κ z
  ·rw [<- e]; exact rl u (TY hu)
 exact ⟨T.k,this.1,this.2⟩
theorem xT (w) (C):ay (mG w C) w=some ((ay (mG w C) w).getD 0):=by
 have h:gI (mG w C) w:=(ki w C w).2.mpr (.inr rfl)
 unfold gI at h
 cases e:ay (mG w C) w with
 | none=>rw [e] at h; cases h
 | some v=>rfl
theorem F1 (w δ) (st:LS):(J5 w δ st).1.length=(mG w st.1).length:=by
 show (putD (mG w st.1) w _).length=_
 unfold putD
 rw [if_pos (by rw [xT]; rfl),OW]
noncomputable def CZ:Jz:=λkvs ls ds B=>∃ (b s q:Int) (L:List aI) (st:LS),Wk st/\(∀ κ,gI st.1 κ->0<=κ/\κ<15728640)/\(∀ u∈L,0<=pk b u.1+s/\pk b u.1+s<15728640)/\(∀ u∈L,u.2.natAbs<2 ^ 63) /\
 kvs=aZ st.1/\ls=st.2.map .int/\ds=[.lst (L.map (oG b)),.int s,.int q]/\B=λkvs' ls'=>kvs'=aZ (tM b s q L st).1/\ls'=(tM b s q L st).2.map .int
theorem jc (C):(aZ C).length=C.length:=by unfold aZ; rw [OW]
theorem ins_map (W) (w):(W.map D.int).take (cntK W w)++.int w::(W.map D.int).drop (cntK W w)=(mC W w).map D.int:=by
 unfold mC
 rw [PR,O4,List.map_take,List.map_drop]
theorem F2 (Fu:dO K "take_away" "take_away" (top 30) f fd) (T:Txt K mg) (h1:cQ P w K mg base 1 "place_among" F0):bh P w K mg base (cV P w) 2 f fd ["left","waiting","factor","shift","number"] (za K CZ):=by
 refine L0 Fu qe (by rintro kvs ls ds B ⟨b,s,q,L,st,_,_,_,_,_,_,rfl,_⟩; rfl) λc hq p kvs q2 ls ds B hF=>?_
 obtain ⟨b,s,q,L,st,hk,rg,rl,hs,rfl,rfl,rfl,rfl⟩:=hF
 show aH c _ [.aK p (aZ st.1),.aw q2 (st.2.map .int),.va (.lst (L.map (oG b))),.va (.int s),.va (.int q),.un,.un,.un] _ _
 conv in (av _)=>whnf
 refine ak ?_
 with_reducible refine cX hq (dS ?_)
 walk_at "ev"
 refine ⟨λi ρ'=>∃ s5 s6 s7:Sl,ρ'=[.aK p (aZ (tM b s q (L.take i) st).1),.aw q2 ((tM b s q (L.take i) st).2.map .int),.va (.lst (L.map (oG b))),.va (.int s),.va (.int q),s5,s6,s7],⟨_,_,_,rfl⟩,?_,?_⟩
 ·rintro c' tF zw zz i d ρ' hd ⟨s5,s6,s7,rfl⟩
  simp only [O8,Pf] at hd
  obtain ⟨u,hu,rfl⟩:=hd
  obtain ⟨hi,rfl⟩:=O6.mp hu
  obtain ⟨k0,z1,z2⟩:=xS (q:=q) hk rg rl i
  obtain ⟨_,z3,z4⟩:=xS (q:=q) hk rg rl (i+1)
  have hsm:=hs L[i] (Pw hi)
  have est:tM b s q (L.take (i+1)) st=J5 (pk b L[i].1+s) (L[i].2 * q) (tM b s q (L.take i) st):=by
   unfold tM
   rw [QE hi,Sb]; rfl
  rw [est] at z3 z4
  generalize tM b s q (L.take i) st=S at k0 z1 z2 z3 z4 est |-
  generalize hW:pk b L[i].1+s=κ at est z3 z4
  generalize L[i]=u at hsm hW est z3 z4 |-
  show o9 c' _ (.tup [.int (pk b u.1),.int u.2]) _ _
  refine Az rfl (by walk_at "u") ?_
  refine pe (by walk_at "at") (qC (by walk_at "sset") (pe (by walk_at "at") (qC (by walk_at "sset") (Ay ?_))))
  refine ak ?_
  generalize hG:(λρ'=>aH c' _ ρ' _ _)=G
  walk_at "ev"
  rw [hW]
  subst hG
  refine ak (LI (λρ'=>ρ'=[.aK p (aZ (mG κ S.1)),.aw q2 ((if (ay S.1 κ).isSome then S.2 else mC S.2 κ).map .int),.va (.lst (L.map (oG b))),.va (.int s),.va (.int q),.va (.int (pk b u.1)),.va (.int u.2),.va (.int κ)]) ?_ ?_)
  ·refine kQ (by walk_at "at") (by walk_at "at") ?_
   walk_at "ev"
   refine ⟨_,.k rfl rfl,?_⟩
   rw [cL]
   cases hv:ay S.1 κ with
   | some v =>
    show iF _ _ false
    walk_at "ev"
    unfold mG
    rw [hv]; rfl
   | none =>
    show iF _ _ true
    refine if2 (λ_=>?_) (λh=>by cases h)
    refine ak ?_
    generalize hG:(λρ'=>aH c' _ ρ' _ _)=G
    walk_at "ev"
    refine ⟨_,.k rfl rfl (by rw [jc,Ri]; lia),?_⟩
    walk_at "ev"
    subst hG
    refine ak (Jy (by walk_at "at") (by walk_at "at") rfl (wj 1 (by walk_at "at") rfl (by walk_at "sset") ?_))
    refine aM (F:=F0) h1 (by decide) ?_
    walk_at "ev"
    refine aC (Mq k0.a z2) (nI (Sd.mk trivial ?_))
    walk_at "ev"
    refine ⟨cntK S.2 κ,rfl,by rw [OW]; exact vn _ _,Sd.mk (by rw [OW,Ri]; lia) ?_⟩
    rw [ins_map]
    refine qC (by walk_at "sset") (eF ?_)
    show [Sl.aK p (putD (aZ S.1) (.inl κ) (.int 0)),Sl.aw q2 ((mC S.2 κ).map .int),_,_,_,_,_,_]=_
    unfold mG
    rw [hv,fj,if_neg (by simp),if_neg (by simp)]
  rintro ρ' rfl
  have hl:=xT κ S.1
  have hz:(mG κ S.1).length<=15728640:=by rw [<- F1 κ (u.2 * q) S]; exact z3
  have hm:EV.MulOk u.2 q:=kW hsm
  refine ak (A0 (by walk_at "at") (by walk_at "at") (Gm (vY (by walk_at "at") (by walk_at "at") ?_)))
  generalize hG:(λρ'=>aH c' _ ρ' _ _)=G
  walk_at "ev"
  refine ⟨.int ((ay (mG κ S.1) κ).getD 0),?_,?_⟩
  ·have:=zD.k (r:=.aK p (aZ (mG κ S.1))) (d:=.int κ) rfl rfl
   rw [cL,hl] at this
   exact this
  walk_at "ev"
  refine ⟨_,.k rfl rfl (by rw [jc,Ri]; lia),?_⟩
  walk_at "ev"
  subst hG
  refine eF ⟨.va (.int (pk b u.1)),.va (.int u.2),.va (.int κ),?_⟩
  rw [est]
  show [Sl.aK p (putD (aZ (mG κ S.1)) (.inl κ) (.int _)),_,_,_,_,_,_,_]=[Sl.aK p (aZ (putD (mG κ S.1) κ _)),_,_,_,_,_,_,_]
  rw [fj]
  rfl
 ·rintro ρ' ⟨s5,s6,s7,rfl⟩
  rw [OW,Qo]
  refine eF ⟨_,_,_,⟨rfl,rfl⟩,rfl⟩
end
section
variable {P:Program} {w:World} {K:OR} {mg:Str->Option Value} {base:Heap}
theorem zu (h:(C.map (·.1)).Nodup):jA [] (aZ C)=aZ C:=by
 have key:∀ (C A:List (Int×Int)),((A++C).map (·.1)).Nodup->jA (aZ A) (aZ C)=aZ (A++C):=by
  intro C
  induction C with
  | nil=>intro A _; rw [Qd]; rfl
  | cons x C ih =>
   intro A nd
   have hx:¬ gI A x.1:=λz=>by
    rw [fP] at z
    rw [PR,O4,T6] at nd
    exact nd.2.2 x.1 z x.1 OY rfl
   show jA (putD (aZ A) (.inl x.1) (.int x.2)) (aZ C)=_
   rw [fj,show putD A x.1 x.2=A++[x] from if_neg hx,ih (A++[x]) (by rw [Pp]; exact nd),Pp]
   rfl
 exact key C [] h
theorem F3 (b) (O:List aI):(aZ (O.map (fu b))).map MR=O.map (oG b):=by
 unfold aZ
 rw [Py,Py]; rfl
theorem C0 (C):(Sl.oK (aZ C)).mV=some (.fdK ((C.map (·.1)).map Pd) ((aZ C).map (·.2))):=by
 show some (D.fdK ((aZ C).map (·.1)) ((aZ C).map (·.2)))=_
 rw [sU]
theorem C1 (x:α) (xs):EV.cutD (x::xs) (some 1) none=xs:=by
 unfold EV.cutD HT.cy; simp
theorem Mr (d:D) (ds:List D):jS (d::ds) 0=some d:=by rw [fF (by decide) (by rw [Pu]; lia)]; rfl
def NA (O:List aI) (lb:aI) (Br:List aI):Prop:=∀ Q:List aI,(∀ t∈Q,QT O (lb::Br) t)->∃ κ,rem O lb Br Q κ≠0
noncomputable def F5:Fn:=λds r=>∃ (O:List aI) (lb:aI) (Br:List aI),mE O lb Br/\ds=[.lst (O.map ah),.lst ((lb::Br).map ah)]/\((∃ A,XA O lb Br A/\r=.ok (.ow (A.map ah)))\/(NA O lb Br/\r=.ok (.va .non)))
theorem Ms (h:mE O lb Br) (x:XA O lb Br A):F5 [.lst (O.map ah),.lst ((lb::Br).map ah)] (.ok (.ow (A.map ah))):=⟨O,lb,Br,h,rfl,.inl ⟨A,x,rfl⟩⟩
theorem C2 (h:∀ t∈L,t.1.length<=6) (hk:¬ k<6):gk L k=0:=by
 cases L with
 | nil=>rfl
 | cons t L =>
  obtain ⟨u,hu,e⟩:=vm k (A:=t::L) (by simp) λv hv=>by rw [jF (h v hv) hk]; exact PV _
  rw [<- e,jF (h u hu) hk]
theorem C3 (hv:v.length<=6) (hl:l.1.length<=6) (k):aQ (oO v l 6) k=aQ v k - aQ l.1 k:=by
 have len:(oO v l 6).length=6:=by unfold oO; rw [OW,Rn]
 by_cases h:k<6
 ·rw [bV (by rw [len]; exact h)]
  unfold oO
  rw [Vw,Va]
 ·rw [bX (by rw [len]; omega),jF hv h,jF hl h]; rfl
theorem Mt (d:mE O lb Br) (ht:QT O (lb::Br) t) (hk:κ=pk (bb O lb Br) t.1+pk (bb O lb Br) lb.1) (hn:n=t.2 * lb.2):tN (uL (bb O lb Br) κ) n lb (mD O (lb::Br))=ah t:=by
 have z:lb.2≠0:=d.b.z lb OY
 have e:uL (bb O lb Br) κ=trim (cg lb.1 t.1):=by
  rw [hk,Th,<- fM]
  exact uM d.pos (d.box ht OY)
 have ev:∀ k,aQ (uL (bb O lb Br) κ) k - aQ lb.1 k=aQ t.1 k:=λk=>by rw [e,b9,bC]; lia
 have l6:(uL (bb O lb Br) κ).length<=6:=by rw [e]; exact O3 (c6 _) (d.box ht OY).1
 unfold tN
 rw [if_neg (by rw [hn,Int.mul_fmod_left]; exact λq=>q rfl),if_pos λk _=>by unfold J8; rw [ev]; exact ht.m k]
 have e2:trim (oO (uL (bb O lb Br) κ) lb 6)=t.1:=by
  rw [<- ht.tr]
  exact dJ λk=>by rw [C3 l6 (d.b.g lb OY).1.1,ev]
 rw [e2,hn,TZ _ z]
theorem C9 (d:mE O lb Br) (hv:Bd (bb O lb Br) v) (hk:κ=pk (bb O lb Br) v):tN (uL (bb O lb Br) κ) n lb (mD O (lb::Br))=.non\/∃ t,QT O (lb::Br) t/\pk (bb O lb Br) t.1+pk (bb O lb Br) lb.1=κ/\t.2 * lb.2=n/\tN (uL (bb O lb Br) κ) n lb (mD O (lb::Br))=ah t:=by
 have z:lb.2≠0:=d.b.z lb OY
 have l6:lb.1.length<=6:=(d.b.g lb OY).1.1
 have e:uL (bb O lb Br) κ=trim v:=by rw [hk]; exact uM d.pos hv
 have v6:(trim v).length<=6:=O3 (c6 _) hv.1
 rw [e]
 by_cases h1:n.fmod lb.2≠0
 ·left; unfold tN; rw [if_pos h1]
 by_cases h2:∀ k,k<6->J8 (trim v) lb (mD O (lb::Br)) k
 ·right
  have ev:∀ k,aQ (trim (oO (trim v) lb 6)) k=aQ (trim v) k - aQ lb.1 k:=λk=>by rw [b9,C3 v6 l6]
  refine ⟨(trim (oO (trim v) lb 6),n.fdiv lb.2),⟨?_,cj _,λk=>?_⟩,?_,?_,?_⟩
  ·exact O3 (c6 _) (by unfold oO; rw [OW,Rn]; exact OT 6)
  ·show 0<=aQ (trim (oO (trim v) lb 6)) k/\aQ (trim (oO (trim v) lb 6)) k<=_
   rw [ev]
   by_cases h:k<6
   ·exact h2 k h
   ·rw [jF v6 h,jF l6 h]
    unfold mD
    rw [C2 (λt ht=>(d.o.g t ht).1.1) h,C2 (λt ht=>(d.b.g t ht).1.1) h]
    exact ⟨PV _,PV _⟩
  ·show pk (bb O lb Br) (trim (oO (trim v) lb 6))+_=_
   rw [hk,<- fM,<- iW (bb O lb Br) (cg _ _),<- iW (bb O lb Br) v]
   exact congrArg _ (dJ λk=>by rw [bC,ev,b9]; lia)
  ·show n.fdiv lb.2 * lb.2=n
   have:=Int.mul_fdiv_add_fmod n lb.2
   have h0:n.fmod lb.2=0:=RZ h1
   rw [h0,Tg] at this
   rw [Q3]; exact this
  ·unfold tN
   rw [if_neg h1,if_pos h2]
 ·left; unfold tN; rw [if_neg h1,if_neg h2]
theorem XA.qt (X:XA O lb Br A) (d:mE O lb Br) (ha:a∈A):QT O (lb::Br) a:=⟨(X.n.g a ha).1.1,(X.n.g a ha).2,λk=>⟨(oz d.pos (X.n.g a ha).1 k).1,X.m a ha k⟩⟩
structure Lp (O:List aI) (lb:aI) (Br:List aI) (r:Sl) (m:Nat) (Q:List aI) (C:List (Int×Int)) (W:List Int):Prop where
 d:Dv O lb Br Q (C,W)
 x:(∃ A i,XA O lb Br A/\Q=A.take i/\r=.ow (A.map ah))\/(NA O lb Br/\r=.va .non)
 u:∀ κ∈W,κ.toNat<m
 l:Q.length+m<=15728640
section
local macro_rules | `(tactic| walk_at "evIx")=> `(tactic| first
 | ((with_reducible show aJ _ (Qe (O9 _ _) (O9 _ _) _) _ _); refine vY (by walk_at "at") (by walk_at "at") ?_))
local macro_rules | `(tactic| walk_at "evCa")=> `(tactic| first
 | with_reducible refine aM (F:=zh) (by assumption) (by decide) ?_
 | with_reducible refine aM (F:=xR) (by assumption) (by decide) ?_
 | with_reducible refine aM (F:=oH) (by assumption) (by decide) ?_
 | with_reducible refine aM (F:=oF) (by assumption) (by decide) ?_
 | with_reducible refine aM (F:=MS) (by assumption) (by decide) ?_
 | with_reducible refine aM (F:=zj) (by assumption) (by decide) ?_)
theorem Kc (Fu:dO K "divided_by" "divided_by" (top 31) f fd) (T:Txt K mg) (h1:cQ P w K mg base 2 "width_for" zh) (h2:cQ P w K mg base 2 "room_for" xR) (h3:cQ P w K mg base 2 "packed" oH)
 (h4:cQ P w K mg base 2 "powers_of" oF) (h5:cQ P w K mg base 2 "term_by" MS) (h6:cQ P w K mg base 1 "key_of" zj) (h7:Cr P w K mg base 2 "take_away" CZ):bh P w K mg base (cV P w) 3 f fd ["one","other"] (eS K F5):=by
 refine cD Fu m5 (by rintro ds r ⟨O,lb,Br,_,rfl,_⟩; rfl) (by rintro ds r ⟨O,lb,Br,_,_,⟨A,_,rfl⟩ | ⟨_,rfl⟩⟩ <;> exact ⟨_,rfl⟩) λc hq ds sl hF=>?_
 obtain ⟨O,lb,Br,d,rfl,hx⟩:=hF
 replace hx:(∃ A,XA O lb Br A/\sl=.ow (A.map ah))\/(NA O lb Br/\sl=.va .non):=by
  rcases hx with ⟨A,x,e⟩ | ⟨x,e⟩
  ·injection e with e; exact .inl ⟨A,x,e⟩
  ·injection e with e; exact .inr ⟨x,e⟩
 show aH c _ [.va (.lst (O.map ah)),.va (.lst (ah lb::Br.map ah)),.un,.un,.un,.un,.un,.un,.un,.un,.un] _ _
 conv in (av _)=>whnf
 have w10:jE O (lb::Br)<=10:=O3 d.w (by decide)
 have o6:∀ t∈O,t.1.length<=6:=λt ht=>(d.o.g t ht).1.1
 have b6:∀ t∈lb::Br,t.1.length<=6:=λt ht=>(d.b.g t ht).1.1
 refine ak ?_
 generalize hG:(λρ'=>aH c _ ρ' _ _)=G
 walk_at "ev"
 ·rename_i z
  rw [Pu] at z
  lia
 subst hG
 refine ak ?_
 generalize hG:(λρ'=>aH c _ ρ' _ _)=G
 walk_at "ev"
 refine aC (GR (A:=O) (B:=lb::Br) λt ht=>(Pb.mp ht).elim (o6 t) (b6 t)) ?_
 walk_at "ev"
 subst hG
 refine ak ?_
 generalize hG:(λρ'=>aH c _ ρ' _ _)=G
 walk_at "ev"
 refine aC (J7 (A:=O) (B:=lb::Br) o6 b6) ?_
 walk_at "ev"
 subst hG
 refine ak ?_
 generalize hG:(λρ'=>aH c _ ρ' _ _)=G
 walk_at "ev"
 refine iJ (Mr _ _) ?_
 walk_at "ev"
 subst hG
 refine ak ?_
 generalize hG:(λρ'=>aH c _ ρ' _ _)=G
 walk_at "ev"
 rw [C1]
 refine aC (ql w10 (O3 d.m (by decide)) λt ht=>(d.b.tail.1.g t ht).1) ?_
 walk_at "ev"
 subst hG
 have nd:((O.map (fu (bb O lb Br))).map (·.1)).Nodup:=by
  rw [Py]
  exact Vp _ (λa b h e=>by have:pk (bb O lb Br) a.1=pk (bb O lb Br) b.1:=e; lia) d.o.s
 refine ak (qT (by walk_at "at") (Fd (Txt.dict T) ?_))
 generalize hG:(λρ'=>aH c _ ρ' _ _)=G
 walk_at "ev"
 refine aC (ql w10 (O3 d.l (by decide)) λt ht=>(d.o.g t ht).1) (gS ?_)
 refine ⟨aZ (O.map (fu (bb O lb Br))),by rw [F3],Sd.mk (by rw [jc,OW,Ri]; have:=d.l; lia) ?_⟩
 rw [zu nd]
 refine qC (by walk_at "sset") ?_
 subst hG
 refine ak (qT (by walk_at "at") (pI 6 (by walk_at "at") (C0 _) (by walk_at "sset") (Cq (Txt.sorted T) ?_)))
 generalize hG:(λρ'=>aH c _ ρ' _ _)=G
 walk_at "ev"
 refine ⟨_,_,rfl,Sd.mk nd λW hp hs=>⟨gy λx _=>trivial,qC (by walk_at "sset") ?_⟩⟩
 have hA:CV W:=hs.imp λ{x y} h=>by simpa using h
 have D0:=Dv.start d hp hA
 subst hG
 refine ak ?_
 generalize hG:(λρ'=>aH c _ ρ' _ _)=G
 walk_at "ev"
 subst hG
 refine ak (fD hq (λm ρ'=>∃ (Q:List aI) (C:List (Int×Int)) (W:List Int) (s9 s10:Sl),Lp O lb Br sl m Q C W/\ρ'=[.va (.lst (O.map ah)),.va (.lst (ah lb::Br.map ah)),.va (.int (jE O (lb::Br):Nat)),.va (.lst (bR (mD O (lb::Br)))),.va (ah lb),.va (.lst (Br.map (oG (2 ^ jE O (lb::Br))))),.oK (aZ C),.ow (W.map .int),.ow (Q.map ah),s9,s10]) (m₀:=15728640) ⟨[],_,W,.un,.un,⟨D0,?_,λκ hk=>?_,by simp⟩,rfl⟩ ?_)
 ·exact hx.elim (λ⟨A,x,e⟩=>.inl ⟨A,0,x,rfl,e⟩) .inr
 ·have:=D0.few d κ (D0.k.m κ hk)
  lia
 rintro m ρ' ⟨Q,C,W,s9,s10,L,rfl⟩
 have fw:=L.d.k.few (L.d.few d)
 refine (show ∀ B1 B2:Prop,(0<W.length->B1)->(W.length=0->B2)->gX c _ _ (iF B1 B2) from λB1 B2 b1 b2=>?_) _ _ ?_ ?_
 ·walk_at "ev"
  walk_at "ev"
  ·rename_i hlt
   rw [OW] at hlt
   exact b1 (by lia)
  ·rename_i hlt
   rw [OW] at hlt
   exact b2 (by lia)
 ·intro hW
  obtain ⟨W0,κ,rfl⟩:∃ W0 κ,W=W0++[κ]:=⟨_,_,(List.dropLast_concat_getLast (by intro e; rw [e] at hW; cases hW)).symm⟩
  have hm:κ∈W0++[κ]:=by simp
  have um:κ.toNat<m:=L.u κ hm
  obtain ⟨k0,k1⟩:=L.d.few d κ (L.d.k.m κ hm)
  obtain ⟨v,hv,_,hkv⟩:=L.d.r κ (L.d.k.m κ hm)
  have hz:(aZ C).length<=15728640:=by rw [jc]; exact fw.1
  have hC:ay (aZ C) (.inl κ)=some (.int ((ay C κ).getD 0)):=by
   rw [cL]
   have:=L.d.k.m κ hm
   unfold gI at this
   cases e:ay C κ with
   | none=>rw [e] at this; cases this
   | some v=>rfl
  generalize hn:(ay C κ).getD 0=n at hC
  refine ak (Jw (ds:=W0.map .int) (d:=.int κ) (by walk_at "at") (by walk_at "at") (by rw [<- U9 (f:=D.int),<- PR]; rfl) (by walk_at "at") (qC (by walk_at "sset") (qC (by walk_at "sset") ?_)))
  show aH c _ [.va (.lst (O.map ah)),.va (.lst (ah lb::Br.map ah)),.va (.int (jE O (lb::Br):Nat)),.va (.lst (bR (mD O (lb::Br)))),.va (ah lb),.va (.lst (Br.map (oG (2 ^ jE O (lb::Br))))),.oK (aZ C),.ow (W0.map .int),.ow (Q.map ah),.va (.int κ),s10] _ _
  have lk:=zD.k (r:=.oK (aZ C)) (d:=.int κ) rfl rfl
  rw [hC] at lk
  refine ak (Ij ?_)
  refine (show ∀ B1 B2:Prop,(n≠0->B1)->(n=0->B2)->gX c _ _ (iF B1 B2) from λB1 B2 b1 b2=>?_) _ _ ?_ ?_
  ·walk_at "evT"
   refine vY (by walk_at "at") (by walk_at "at") ?_
   walk_at "ev"
   refine ⟨_,lk,?_⟩
   walk_at "ev"
   ·rename_i h
    exact b2 h
   ·rename_i h
    exact b1 h
  ·intro nz
   refine ak (qT (by walk_at "at") ?_)
   generalize hG:(λρ'=>aH c _ ρ' _ _)=G
   walk_at "ev"
   refine aC (CJ w10 k0) ?_
   walk_at "ev"
   refine ⟨_,lk,?_⟩
   walk_at "ev"
   refine aC (N7 (d.b.z lb OY) (d.s lb OY)) ?_
   walk_at "ev"
   subst hG
   have cs:(tN (uL (bb O lb Br) κ) n lb (mD O (lb::Br))=.non/\sl=.va .non)\/∃ t,QT O (lb::Br) t/\pk (bb O lb Br) t.1+pk (bb O lb Br) lb.1=κ/\t.2 * lb.2=n/\tN (uL (bb O lb Br) κ) n lb (mD O (lb::Br))=ah t/\((∃ A i,XA O lb Br A/\Q++[t]=A.take i/\sl=.ow (A.map ah))\/(NA O lb Br/\sl=.va .non)):=by
    rcases L.x with ⟨A,i,X,rfl,er⟩ | ⟨na,er⟩
    ·obtain ⟨a,ea,ek,en⟩:=L.d.exact d X (by rw [hn]; exact nz)
     rw [hn] at en
     have ha:a∈A:=QG ea
     refine .inr ⟨a,X.qt d ha,ek.symm,en.symm,Mt d (X.qt d ha) ek en,.inl ⟨A,i+1,X,?_,er⟩⟩
     rw [T5,ea]; rfl
    ·rcases C9 (n:=n) d hv hkv with z | ⟨t,h1,h2,h3,h4⟩
     ·exact .inl ⟨z,er⟩
     ·exact .inr ⟨t,h1,h2,h3,h4,.inr ⟨na,er⟩⟩
   show aH c _ [.va (.lst (O.map ah)),.va (.lst (ah lb::Br.map ah)),.va (.int (jE O (lb::Br):Nat)),.va (.lst (bR (mD O (lb::Br)))),.va (ah lb),.va (.lst (Br.map (oG (2 ^ jE O (lb::Br))))),.oK (aZ C),.ow (W0.map .int),.ow (Q.map ah),.va (.int κ),.va (tN (uL (bb O lb Br) κ) n lb (mD O (lb::Br)))] _ _
   rcases cs with ⟨et,er⟩ | ⟨t,ht,hkt,hnt,et,hx2⟩
   ·rw [et]
    refine ak ?_
    generalize hG:(λρ'=>aH c _ ρ' _ _)=G
    walk_at "ev"
    exact er.symm
   ·rw [et]
    refine ak ?_
    generalize hG:(λρ'=>aH c _ ρ' _ _)=G
    walk_at "ev"
    refine Gu (show D.tup _≠.non from λh=>by cases h) ?_
    walk_at "ev"
    subst hG
    refine ak ?_
    generalize hG:(λρ'=>aH c _ ρ' _ _)=G
    walk_at "ev"
    ·rw [OW,Ri]
     have:=L.l; lia
    subst hG
    rw [<- U9 (f:=ah),<- PR]
    show aH c _ [.va (.lst (O.map ah)),.va (.lst (ah lb::Br.map ah)),.va (.int (jE O (lb::Br):Nat)),.va (.lst (bR (mD O (lb::Br)))),.va (ah lb),.va (.lst (Br.map (oG (2 ^ jE O (lb::Br))))),.oK (aZ C),.ow (W0.map .int),.ow ((Q++[t]).map ah),.va (.int κ),.va (.tup [.tup (t.1.map .int),.int t.2])] _ _
    have few:=L.d.few d
    have stp:=L.d.step d ht hkt (hnt.trans hn.symm)
    have Wk0:Wk (C,W0):=⟨L.d.k.n,(R4.mp L.d.k.a).1,λx hx=>L.d.k.m x (Qk _ hx)⟩
    refine ak (Cs (F:=CZ) h7 (by decide) (by walk_at "at") (by walk_at "at") rfl (by walk_at "at") (by walk_at "at") rfl (by decide) ?_)
    walk_at "ev"
    refine aC (GS w10 (d.N4 ht)) ?_
    walk_at "ev"
    refine ⟨_,⟨bb O lb Br,pk (bb O lb Br) t.1,t.2,Br,(C,W0),Wk0,few,λu hu=>?_,λu hu=>d.s u (O1 _ hu),rfl,rfl,rfl,rfl⟩,?_⟩
    ·rw [<- fM]
     exact d.rg (d.box ht (O1 _ hu)) (d.Mm ht (O1 _ hu))
    rintro kvs' ls' ⟨rfl,rfl⟩
    generalize hst:tM (bb O lb Br) (pk (bb O lb Br) t.1) t.2 Br (C,W0)=st at stp
    obtain ⟨C',W'⟩:=st
    refine eF (eF ⟨κ.toNat,um,Q++[t],C',W',_,_,⟨stp.1,hx2,λx hx=>?_,?_⟩,rfl⟩)
    ·have h1:=stp.2 x hx
     have h2:=stp.1.few d x (stp.1.k.m x hx)
     lia
    ·rw [Pr,SD]
     have:=L.l; lia
  ·intro z
   refine eF (eF ⟨κ.toNat,um,Q,C,W0,_,_,⟨L.d.N5 (hn.trans z),L.x,λx hx=>?_,by have:=L.l; lia⟩,rfl⟩)
   have h1:=jb L.d.k.a hx
   have h2:=L.d.few d x (L.d.k.m x (Qk _ hx))
   lia
 ·intro hW
  obtain rfl:=List.eq_nil_of_length_eq_zero hW
  obtain ⟨A,i,X,rfl,rfl⟩ | ⟨na,rfl⟩:=L.x
  ·rw [L.d.all d X]
   exact ak (qS (by walk_at "at") (by walk_at "at") rfl rfl)
  ·obtain ⟨κ,h⟩:=na Q L.d.q
   exact absurd (L.d.done κ) h
end
end
section
variable {P:Program} {w:World} {K:OR} {mg:Str->Option Value} {base:Heap}
theorem Dc (r):∀ (i:Nat),∀ x∈(tL i r).1,0<=x/\x<=4
 | 0,x,h=>by simp [tL] at h
 | i+1,x,h=>by
  simp only [tL,Pb,Pa] at h
  rcases h with h | rfl
  ·exact Dc r i x h
  ·lia
theorem tE (n):(∀ x∈(c9 n).1,0<=x/\x<=4)/\(c9 n).2.natAbs<2 ^ 30:=by
 refine ⟨?_,?_⟩
 ·unfold c9
  split
  ·exact Dc _ _
  ·intro x hx
   obtain ⟨i,_,rfl⟩:=Pn.mp hx
   have:=iZ (n / 2) (1+(i:Int)) (m:=3) (by decide)
   lia
 ·unfold c9
  split
  ·show ((tL (n / 2 % 7).toNat (n / 2)).2 / 7 % (2 * (10 ^ QO 9)+1) - (10 ^ QO 9)).natAbs<2 ^ 30
   generalize (tL (n / 2 % 7).toNat (n / 2)).2 / 7=y
   rw [show (10:Int) ^ QO 9=1000000000 by decide,show (2:Nat) ^ 30=1073741824 by decide]
   lia
  ·show (thing (n / 2) 9 19 - 9).natAbs<2 ^ 30
   have:=iZ (n / 2) 9 (m:=19) (by decide)
   rw [show (2:Nat) ^ 30=1073741824 by decide]
   lia
theorem Dd {cs:List Int} (h:cs.length<=8):Lm 8 4 50 (aR (cs.map c9)):=by
 have h1:Lm 8 4 30 (cs.map c9):=⟨by rw [OW]; exact h,λt ht=>by
  obtain ⟨n,_,rfl⟩:=Pn.mp ht
  exact ⟨oN n,(tE n).1⟩,λt ht=>by
  obtain ⟨n,_,rfl⟩:=Pn.mp ht
  exact (tE n).2⟩
 exact h1.iD
section
variable {la lb:Nat} {ea eb:Int} {ba bb:Nat} {A B:List aI}
theorem Lm.ng (h:Lm la ea ba A):Lm la ea ba (A.map fW):=⟨by rw [OW]; exact h.l,λt ht=>by
 obtain ⟨u,hu,rfl⟩:=Pn.mp ht
 exact h.e u hu,λt ht=>by
 obtain ⟨u,hu,rfl⟩:=Pn.mp ht
 show (-u.2).natAbs<_
 rw [Int.natAbs_neg]; exact h.b u hu⟩
theorem Lm.F6 (h:Lm la ea ba A) (g:Lm lb eb bb B) (h1:la<=400000:=by decide) (h2:lb<=400000:=by decide) (h3:la * lb<=400000:=by decide) (h4:ea<=500:=by decide) (h5:eb<=500:=by decide) (h6:ba+bb<=1000000:=by decide):xA A B where
 la:=O3 h.l h1
 lb:=O3 g.l h2
 lp:=O3 (Sj h.l g.l) h3
 pa:=h.e.mono h4
 pb:=g.e.mono h5
 mu:=λl hl r hr=>CK (h.b l hl) (g.b r hr) h6
theorem Lm.two (h:Lm la ea ba A) (g:Lm lb eb bb B) (h1:la+lb<=400000:=by decide):A.length+B.length<=400000/\∀ t∈A++B,t.1.length<=64 :=
 ⟨O3 (Nat.add_le_add h.l g.l) h1,λt ht=>O3 ((Pb.mp ht).elim (λq=>(h.e t q).1) (λq=>(g.e t q).1)) (by decide)⟩
theorem Ex.nn (h:Ex e A):Nn A:=λt ht x hx=>((h t ht).2 x hx).1
variable {pl:List (Int×Int)}
theorem De:∀ A:List aI,vL pl (A.map fW)= - vL pl A
 | []=>by show (0:Rat)= -0; grind
 | t::A=>by
  show ((-t.2:Int):Rat) * mono pl t.1+vL pl (A.map fW)= - ((t.2:Rat) * mono pl t.1+vL pl A)
  rw [De A,Rat.intCast_neg]; grind
end
abbrev P9 (A:List aI):Prop:=Lm 8 4 50 A
section
variable {pl:List (Int×Int)}
theorem w_sum (h:gQ pl) (hA:P9 A) (hB:P9 B):qp [.lst ((aR (A++B)).map ah),.lst (pl.map l0)] (.ok (.va (l8 (vL pl A+vL pl B)))):=by
 have:=xK h (hA.app hB).iD.mono
 rwa [qx h (hA.app hB).e,qv] at this
theorem Kd (h:gQ pl) (hA:P9 A) (hB:P9 B):qp [.lst ((aR (A++B.map fW)).map ah),.lst (pl.map l0)] (.ok (.va (l8 (vL pl A - vL pl B)))):=by
 have:=xK h (hA.app hB.ng).iD.mono
 rw [qx h (hA.app hB.ng).e,qv,De] at this
 rwa [show vL pl A - vL pl B=vL pl A+ -vL pl B by grind]
theorem F7 (h:gQ pl) (hA:P9 A) (hB:P9 B):qp [.lst ((aR (aE A B)).map ah),.lst (pl.map l0)] (.ok (.va (l8 (vL pl A * vL pl B)))):=by
 have:=xK h (hA.prod hB).iD.mono
 rwa [qx h (hA.prod hB).e,xH hB.e.nn hA.e.nn] at this
theorem GY (h:gQ pl) (hA:P9 A):qp [.lst (A.map ah),.lst (pl.map l0)] (.ok (.va (l8 (vL pl A)))):=xK h hA.mono
theorem Mu (h:gQ pl) (hA:P9 A):Rb 640 (vL pl A):=JZ h hA.mono
end
theorem qA (h:T true):yf (l8 x) (l8 x) T:=J1 (by rw [decide_eq_true rfl]; exact h)
noncomputable def MT:Fn:=λds r=>∃ (A B:List aI) (pl:List (Int×Int)),P9 A/\P9 B/\gQ pl/\ds=[.lst (A.map ah),.lst (B.map ah),.lst (pl.map l0)]/\r=.ok (.va (.bl true))
theorem Mw {pl:List (Int×Int)} (h:P9 A) (g:P9 B) (p:gQ pl):MT [.lst (A.map ah),.lst (B.map ah),.lst (pl.map l0)] (.ok (.va (.bl true))):=⟨A,B,pl,h,g,p,rfl,rfl⟩
section
local macro_rules | `(tactic| walk_at "evCa")=> `(tactic| first
 | with_reducible refine aM (F:=qp) (by assumption) (by decide) ?_
 | with_reducible refine aM (F:=oE) (by assumption) (by decide) ?_
 | with_reducible refine aM (F:=jD) (by assumption) (by decide) ?_
 | with_reducible refine aM (F:=zk) (by assumption) (by decide) ?_
 | with_reducible refine aM (F:=F4 CD iw) (by assumption) (by decide) ?_
 | with_reducible refine aM (F:=F4 sP iw) (by assumption) (by decide) ?_
 | with_reducible refine aM (F:=F4 lY iw) (by assumption) (by decide) ?_)
theorem Mx (Fu:dO K "_law_worths_good" "_law_worths_good" (top 40) f fd) (T:Txt K mg) (h1:cQ P w K mg base 3 "worth_at" qp) (h2:cQ P w K mg base 3 "poly_sum" oE) (h3:cQ P w K mg base 3 "poly_less" jD)
 (h4:cQ P w K mg base 4 "poly_times" zk) (h5:cQ P w K mg base 3 "frac_sum" (F4 CD iw)) (h6:cQ P w K mg base 3 "frac_less" (F4 sP iw)) (h7:cQ P w K mg base 3 "frac_times" (F4 lY iw)):bh P w K mg base (cV P w) 5 f fd ["_law_one","_law_other","_law_place"] (eS K MT):=by
 refine cD Fu jC (by rintro ds r ⟨A,B,pl,_,_,_,rfl,_⟩; rfl) (by rintro ds r ⟨A,B,pl,_,_,_,_,rfl⟩; exact ⟨_,rfl⟩) λc hq ds sl hF=>?_
 obtain ⟨A,B,pl,hA,hB,hp,rfl,e⟩:=hF
 injection e with e
 subst e
 show aH c _ [.va (.lst (A.map ah)),.va (.lst (B.map ah)),.va (.lst (pl.map l0)),.un,.un] _ _
 conv in (av _)=>whnf
 have hab:=hA.two hB
 have ra:=Mu hp hA
 have rb:=Mu hp hB
 refine ak ?_
 generalize hG:(λρ'=>aH c _ ρ' _ _)=G
 walk_at "ev"
 refine aC (GY hp hA) ?_
 walk_at "ev"
 subst hG
 refine ak ?_
 generalize hG:(λρ'=>aH c _ ρ' _ _)=G
 walk_at "ev"
 refine aC (GY hp hB) ?_
 walk_at "ev"
 subst hG
 refine ak ?_
 generalize hG:(λρ'=>aH c _ ρ' _ _)=G
 walk_at "ev"
 refine aC (lX hab.1 hab.2) ?_
 walk_at "ev"
 refine aC (w_sum hp hA hB) ?_
 walk_at "ev"
 refine aC (Ml ra rb) ?_
 walk_at "ev"
 refine qA ?_
 walk_at "ev"
 subst hG
 refine ak ?_
 generalize hG:(λρ'=>aH c _ ρ' _ _)=G
 walk_at "ev"
 refine aC (qh hab.1 hab.2) ?_
 walk_at "ev"
 refine aC (Kd hp hA hB) ?_
 walk_at "ev"
 refine aC (JW ra rb) ?_
 walk_at "ev"
 refine qA ?_
 walk_at "ev"
 subst hG
 refine ak ?_
 generalize hG:(λρ'=>aH c _ ρ' _ _)=G
 walk_at "ev"
 refine aC (i9 (hA.F6 hB)) ?_
 walk_at "ev"
 refine aC (F7 hp hA hB) ?_
 walk_at "ev"
 refine aC (FH ra rb) ?_
 walk_at "ev"
 refine qA ?_
 walk_at "ev"
 rfl
end
theorem jd (hb:0<b) (h:∀ t∈ts,Bd b t.1):Nf b (aR ts):=by
 have hg:Gd b (aR ts):=λt ht=>lR h t (iU ht).1
 refine ⟨hg,?_,λt ht=>(iU ht).2⟩
 have hk:=pX (c7 ts)
 have hs2:=gD (keys_nodup hk)
 have hk2:(gP (nz (aU ts))).Pairwise λx y=>x.1≠y.1:=by
  have:=((bM (nz (aU ts))).map (·.1)).nodup_iff.mpr hk
  unfold Su at this
  rwa [Sa] at this
 unfold fV gn at hs2
 refine UL (R:=λx y=>(if true then cA y x=true else cA x y=true)/\x.1≠y.1) (λ{x y} hx hy q=>?_) (hs2.and hk2)
 obtain ⟨q1,q2⟩:=q
 rw [if_pos rfl] at q1
 unfold cA at q1
 rw [if_neg (Pe q2)] at q1
 exact xh hb (hg _ hy).1 (hg _ hx).1 (hg _ hy).2 (hg _ hx).2 q1
theorem Df (h:Ex m L) (h0:0<=m):∀ k,gk L k<=m:=λk=>iC 0 h0 λt ht=>(u7 h0 (h t ht).2 k).2
theorem Dg (ht:t∈L) (k):aQ t.1 k<=gk L k:=cz 0 ht
theorem GZ (L) (hk:k<6):gk L k<=i6 (aS L):=sR (Pn.mpr ⟨k,SX.mpr hk,rfl⟩)
theorem Dh (h:Ex m L) (h2:∀ t∈L,∀ k,k<6->aQ t.1 k<b):∀ t∈L,Bd b t.1:=λt ht=>⟨(h t ht).1,λx hx=>by
 obtain ⟨k,hk,rfl⟩:=List.mem_iff_getElem.mp hx
 have:=h2 t ht k (by have:=(h t ht).1; lia)
 rw [bV hk] at this
 exact ⟨((h t ht).2 _ hx).1,this⟩⟩
theorem Mz (hA:Lm 8 4 50 A) (hB:Lm 8 4 50 (lb::Br)) (nA:aR A=A) (nB:aR (lb::Br)=lb::Br) :
 mE (aR (aE A (lb::Br))) lb Br/\XA (aR (aE A (lb::Br))) lb Br A:=by
 have hO:=(hA.prod hB).iD
 have eO:mp (aR (aE A (lb::Br)))=mp (aE A (lb::Br)):=dB _
 have nO:aR (aR (aE A (lb::Br)))=aR (aE A (lb::Br)):=cS eO
 generalize aR (aE A (lb::Br))=O at hO eO nO |-
 have gO:=Df hO.e (by decide)
 have gB:=Df hB.e (by decide)
 have mO:i6 (aS O)<=8:=i7 (by decide) λt ht x hx=>((hO.e t ht).2 x hx).2
 have mB:i6 (aS (lb::Br))<=4:=i7 (by decide) λt ht x hx=>((hB.e t ht).2 x hx).2
 have o0:=lZ (aS O)
 have b0:=lZ (aS (lb::Br))
 have lt:=qm (x:=i6 (aS O)+i6 (aS (lb::Br))) (by lia)
 have hw:jE O (lb::Br)<=4:=by
  unfold jE
  obtain ⟨n,hn,en⟩:∃ n:Nat,n<16/\i6 (aS O)+i6 (aS (lb::Br))=n:=⟨(i6 (aS O)+i6 (aS (lb::Br))).toNat,by lia,by lia⟩
  rw [en]
  exact (show ∀ n:Nat,n<16->PY (n:Int)<=4 by decide) n hn
 have hb:0<bb O lb Br:=two_pos _
 have ltO:∀ k,k<6->gk O k<bb O lb Br:=λk hk=>by
  have:=GZ O hk
  unfold bb jE
  lia
 have ltB:∀ k,k<6->gk (lb::Br) k<bb O lb Br:=λk hk=>by
  have:=GZ (lb::Br) hk
  unfold bb jE
  lia
 have bO:=Dh hO.e λt ht k hk=>T3 (Dg ht k) (ltO k hk)
 have bB:=Dh hB.e λt ht k hk=>T3 (Dg ht k) (ltB k hk)
 have gA:∀ t∈A,∀ k,aQ t.1 k<=mD O (lb::Br) k:=λt ht k=>by
  have h1:Nf 16 A:=nA ▸ jd (by decide) (hA.e.bd (W:=4) (by decide))
  have h2:Nf 16 (lb::Br):=nB ▸ jd (by decide) (hB.e.bd (W:=4) (by decide))
  have:=FQ (by decide) h1 h2 (hO.e.bd (W:=4) (by decide)) (by intro e; rw [e] at ht; cases ht) (by simp) eO k
  have:=Dg ht k
  unfold mD; lia
 have bA:=Dh (b:=bb O lb Br) hA.e λt ht k hk=>by
  have h1:=gA t ht k
  have h2:=sQ (lb::Br) k
  have h3:=ltO k hk
  unfold mD at h1; lia
 refine ⟨⟨by have:=jd hb bO; rwa [nO] at this,?_,hw,λu hu=>PJ (hB.b u hu) (QF (by decide) (by decide)),O3 hO.l (by decide),?_,PB (gO 0) (by decide)⟩,?_,CS eO,gA⟩
 ·have:=jd hb bB
  rwa [nB] at this
 ·have:=hB.l
  rw [Pu] at this
  lia
 ·have:=jd hb bA
  rwa [nA] at this
structure Ke (A:List aI):Prop where
 p:P9 A
 n:aR A=A
theorem MA:mp ([]:List aI)=0:=c8.mpr λg=>by show (0:Int)=ev g (cT 0); rw [jz,Rr]
theorem N9 (A B C):aR (aE A (aR (B++C)))=aR (aR (aE A B)++aR (aE A C)):=cS (by
 rw [ir,dB,uQ,uQ,dB,dB,ir,ir]; grind)
theorem Oa (A B C):aR (aE (aR (aE A B)) C)=aR (aE A (aR (aE B C))):=cS (by
 rw [ir,dB,ir,ir,dB,ir]; grind)
theorem Ob (A):aR (A++A.map fW)=[]:=(cS (B:=[]) (by rw [Ca,MA]; grind)).trans rfl
theorem Oc (A B):aR (aR (A++B)++B.map fW)=aR A:=cS (by rw [Ca,dB,uQ]; grind)
theorem dN (L:List aI) (h:T true):yf (.lst (L.map ah)) (.lst (L.map ah)) T:=B6 (oB _ _) h
noncomputable def MU:Fn:=λds r=>∃ A B C:List aI,Ke A/\Ke B/\Ke C/\ds=[.lst (A.map ah),.lst (B.map ah),.lst (C.map ah)]/\r=.ok (.va (.bl true))
theorem MB (h:Ke A) (g:Ke B) (p:Ke C):MU [.lst (A.map ah),.lst (B.map ah),.lst (C.map ah)] (.ok (.va (.bl true))):=⟨A,B,C,h,g,p,rfl,rfl⟩
section
local macro_rules | `(tactic| walk_at "evCa")=> `(tactic| first
 | with_reducible refine aM (F:=oE) (by assumption) (by decide) ?_
 | with_reducible refine aM (F:=jD) (by assumption) (by decide) ?_
 | with_reducible refine aM (F:=zk) (by assumption) (by decide) ?_
 | with_reducible refine aM (F:=m7) (by assumption) (by decide) ?_
 | with_reducible refine aM (F:=F5) (by assumption) (by decide) ?_)
theorem MC (Fu:dO K "_law_alike" "_law_alike" (top 41) f fd) (T:Txt K mg) (h1:cQ P w K mg base 3 "poly_sum" oE) (h2:cQ P w K mg base 3 "poly_less" jD)
 (h3:cQ P w K mg base 4 "poly_times" zk) (h4:cQ P w K mg base 2 "poly_of" m7) (h5:cQ P w K mg base 3 "divided_by" F5):bh P w K mg base (cV P w) 5 f fd ["_law_one","_law_other","_law_third"] (eS K MU):=by
 refine cD Fu uY (by rintro ds r ⟨A,B,C,_,_,_,rfl,_⟩; rfl) (by rintro ds r ⟨A,B,C,_,_,_,_,rfl⟩; exact ⟨_,rfl⟩) λc hq ds sl hF=>?_
 obtain ⟨A,B,C,⟨hA,nA⟩,⟨hB,nB⟩,⟨hC,nC⟩,rfl,e⟩:=hF
 injection e with e
 subst e
 show aH c _ [.va (.lst (A.map ah)),.va (.lst (B.map ah)),.va (.lst (C.map ah))] _ _
 conv in (av _)=>whnf
 have sBC:=(hB.app hC).iD
 have pAB:=(hA.prod hB).iD
 have pAC:=(hA.prod hC).iD
 have pBC:=(hB.prod hC).iD
 have sAB:=(hA.app hB).iD
 refine ak ?_
 generalize hG:(λρ'=>aH c _ ρ' _ _)=G
 walk_at "ev"
 refine aC (lX (hB.two hC).1 (hB.two hC).2) ?_
 walk_at "ev"
 refine aC (i9 (hA.F6 sBC)) ?_
 walk_at "ev"
 refine aC (i9 (hA.F6 hB)) ?_
 walk_at "ev"
 refine aC (i9 (hA.F6 hC)) ?_
 walk_at "ev"
 refine aC (lX (pAB.two pAC).1 (pAB.two pAC).2) ?_
 walk_at "ev"
 rw [N9]
 refine dN _ ?_
 walk_at "ev"
 subst hG
 refine ak ?_
 generalize hG:(λρ'=>aH c _ ρ' _ _)=G
 walk_at "ev"
 refine aC (i9 (hA.F6 hB)) ?_
 walk_at "ev"
 refine aC (i9 (pAB.F6 hC)) ?_
 walk_at "ev"
 refine aC (i9 (hB.F6 hC)) ?_
 walk_at "ev"
 refine aC (i9 (hA.F6 pBC)) ?_
 walk_at "ev"
 rw [Oa]
 refine dN _ ?_
 walk_at "ev"
 subst hG
 refine ak ?_
 generalize hG:(λρ'=>aH c _ ρ' _ _)=G
 walk_at "ev"
 refine aC (qh (hA.two hA).1 (hA.two hA).2) ?_
 walk_at "ev"
 rw [Ob]
 refine dN [] ?_
 walk_at "ev"
 ·rw [OW,OW]
  exact Fg (O3 (hA.two hB).1 (by decide))
 rw [<- PR]
 refine aC (lW (by rw [Pr]; exact (hA.two hB).1) (hA.two hB).2) ?_
 walk_at "ev"
 refine aC (lX (hA.two hB).1 (hA.two hB).2) ?_
 walk_at "ev"
 refine dN (aR (A++B)) ?_
 walk_at "ev"
 subst hG
 refine ak ?_
 generalize hG:(λρ'=>aH c _ ρ' _ _)=G
 have fin:G [.va (.lst (A.map ah)),.va (.lst (B.map ah)),.va (.lst (C.map ah))]:=by
  subst hG
  refine ak ?_
  generalize hG:(λρ'=>aH c _ ρ' _ _)=G
  walk_at "ev"
  refine aC (lX (hA.two hB).1 (hA.two hB).2) ?_
  walk_at "ev"
  refine aC (qh (sAB.two hB).1 (sAB.two hB).2) ?_
  walk_at "ev"
  rw [Oc,nA]
  refine dN A ?_
  walk_at "ev"
  rfl
 cases B with
 | nil =>
  walk_at "ev"
  refine dN [] ?_
  walk_at "ev"
  exact fin
 | cons lb Br =>
  have dv:=Mz hA hB nA nB
  walk_at "ev"
  refine vK (Sd.mk (oB (lb::Br) []) ?_)
  show iF _ _ _
  walk_at "ev"
  ·exact fin
  refine aC (i9 (hA.F6 hB)) ?_
  walk_at "ev"
  refine aC (Ms dv.1 dv.2) ?_
  walk_at "ev"
  refine dN A ?_
  walk_at "ev"
  exact fin
end
noncomputable def MD (ns:List Int) (k:Nat):Int:=1+mh ns k / 19 % 6
noncomputable def MV (ns:List Int) (k:Nat):Int:=mh ns k % 19 - 9
noncomputable def Ou (ns:List Int) (k:Nat):Int×Int:=(nT (MV ns k) (MD ns k),nB (MV ns k) (MD ns k))
noncomputable def zF (ns:List Int) (i:Nat):List (Int×Int):=(Pc i).map (Ou ns)
theorem Di (ns) (i):zF ns (i+1)=zF ns i++[Ou ns i]:=by unfold zF; rw [Uc,PR]; rfl
theorem Kf (ns):gQ (zF ns 4):=by
 have key:∀ x∈zF ns 4,∃ a b:Int,a.natAbs<=9/\0<b/\b<=6/\x=(nT a b,nB a b):=λx hx=>by
  unfold zF at hx
  obtain ⟨k,_,rfl⟩:=Pn.mp hx
  exact ⟨MV ns k,MD ns k,by unfold MV; lia,by unfold MD; lia,by unfold MD; lia,rfl⟩
 refine ⟨by unfold zF; rw [OW,Rn]; decide,λx hx=>?_,λx hx=>?_⟩
 ·obtain ⟨a,b,ha,hb,hb2,rfl⟩:=key x hx
  have h0:b≠0:=by lia
  have h1:(nT a b).natAbs<=a.natAbs:=wo h0
  have h2:(nB a b).natAbs<=b.natAbs:=wu h0
  have h3:0<nB a b:=Ba h0
  refine ⟨?_,?_,h3⟩
  ·show (nT a b).natAbs<16; lia
  ·show (nB a b).natAbs<16; lia
 ·obtain ⟨a,b,_,hb,_,rfl⟩:=key x hx
  exact GB (by lia)
theorem Dj (xs:List α) (a b h:Nat) (e:b=a+h):(EV.cutD xs (some (a:Int)) (some (b:Int))).length<=h:=by
 have:=CQ xs a b
 lia
theorem F8 (n):Pz (1+n % 6):=CC (n:=10) (gh.mpr (PJ (show (1+n % 6).natAbs<7 by lia) (by decide))) (by decide)
section
local macro_rules | `(tactic| walk_at "evCa")=> `(tactic| first
 | with_reducible refine aM (F:=xM) (by assumption) (by decide) ?_
 | with_reducible refine aM (F:=CA) (by assumption) (by decide) ?_
 | with_reducible refine aM (F:=xP) (by assumption) (by decide) ?_
 | with_reducible refine aM (F:=MT) (by assumption) (by decide) ?_
 | with_reducible refine aM (F:=MU) (by assumption) (by decide) ?_
 | ((with_reducible show aJ _ (Qj (O9 "min" _) [_,_] _ _) _ _); with_reducible refine Ja (Txt.min (by assumption)) ?_))
local macro_rules | `(tactic| walk_at "evR")=> `(tactic| first
 | with_reducible refine aC (J2 _ _) ?_)
theorem Kg (Fu:dO K "law" "law" (top 42) f fd) (T:Txt K mg) (h1:cQ P w K mg base 1 "_law_cell" xM) (h2:cQ P w K mg base 1 "_law_fraction" CA) (h3:cQ P w K mg base 2 "_law_term" xP) (h4:cQ P w K mg base 2 "_law_sum" m7) (h5:cQ P w K mg base 5 "_law_worths_good" MT) (h6:cQ P w K mg base 5 "_law_alike" MU):bh P w K mg base (cV P w) 6 f fd ["_law_script"] (eS K A7):=by
 refine cD Fu JB (by rintro ds r ⟨ns,_,rfl,_⟩; rfl) (by rintro ds r ⟨ns,_,_,rfl⟩; exact ⟨_,rfl⟩) λc hq ds sl hF=>?_
 obtain ⟨ns,hl,rfl,e⟩:=hF
 injection e with e
 subst e
 show aH c _ [.va (.lst (ns.map D.int)),.un,.un,.un,.un,.un,.un] _ _
 conv in (av _)=>whnf
 refine ak ?_
 generalize hG:(λρ'=>aH c _ ρ' _ _)=G
 walk_at "ev"
 subst hG
 refine ak ?_
 with_reducible refine cX hq (dD (Txt.range (by assumption)) ?_)
 walk_at "ev"
 ·exact ⟨by decide,by decide⟩
 refine ⟨λi ρ'=>∃ s2 s3:Sl,ρ'=[.va (.lst (ns.map D.int)),.ow ((zF ns i).map l0),s2,s3,.un,.un,.un],⟨_,_,rfl⟩,?_,?_⟩
 ·rintro c' tF zw zz i d ρ' hd ⟨s2,s3,rfl⟩
  obtain ⟨hi,rfl⟩:=fG hd
  have hlen:(zF ns i).length=i:=by unfold zF; rw [OW,Rn]
  refine eG (by walk_at "at") (qC (by walk_at "sset") ?_)
  refine ak ?_
  generalize hG:(λρ'=>aH c' _ ρ' _ _)=G
  walk_at "ev"
  subst hG
  refine ak ?_
  generalize hG:(λρ'=>aH c' _ ρ' _ _)=G
  walk_at "ev"
  refine aC (CB (by lia) (F8 _)) ?_
  walk_at "ev"
  ·rw [OW,hlen]
   exact dM (by lia)
  subst hG
  refine eF ⟨.va (.int (i:Int)),.va (.int (mh ns i)),?_⟩
  rw [Di,PR]
  rfl
 ·rintro ρ' ⟨s2,s3,rfl⟩
  rw [gw]
  have hpl:=Kf ns
  show aH c _ [.va (.lst (ns.map D.int)),.ow ((zF ns 4).map l0),s2,s3,.un,.un,.un] _ _
  generalize zF ns 4=pl at hpl |-
  refine jm 1 (by walk_at "at") rfl (by walk_at "sset") ?_
  refine ak ?_
  generalize hG:(λρ'=>aH c _ ρ' _ _)=G
  walk_at "ev"
  obtain ⟨h,hh,eh⟩:∃ h:Nat,h<=8/\(if ((EV.cutD (ns.map D.int) (some 4) none).length:Int) / 3<8 then ((EV.cutD (ns.map D.int) (some 4) none).length:Int) / 3 else 8)=(h:Int):=by
   generalize (EV.cutD (ns.map D.int) (some 4) none).length=n
   refine ⟨min (n / 3) 8,by lia,?_⟩
   split <;> lia
  rw [eh]
  clear eh
  subst hG
  refine ak ?_
  generalize hG:(λρ'=>aH c _ ρ' _ _)=G
  walk_at "ev"
  subst hG
  refine ak ?_
  with_reducible refine cX hq (dD (Txt.range (by assumption)) ?_)
  walk_at "ev"
  ·exact ⟨by decide,by decide⟩
  refine ⟨λi ρ'=>∃ (Ps:List (List aI)) (s2 s3 s6:Sl),Ps.length=i/\(∀ A∈Ps,Ke A)/\ρ'=[.va (.lst (ns.map D.int)),.va (.lst (pl.map l0)),s2,s3,.va (.int (h:Int)),.ow (Ps.map L8),s6],⟨[],_,_,_,rfl,(λA hA=>by cases hA),rfl⟩,?_,?_⟩
  ·rintro c' tF zw zz i d ρ' hd ⟨Ps,s2,s3,s6,hPl,hP,rfl⟩
   obtain ⟨hi,rfl⟩:=fG hd
   have hi:i<3:=hi
   refine eG (by walk_at "at") (qC (by walk_at "sset") ?_)
   refine ak ?_
   generalize hG:(λρ'=>aH c' _ ρ' _ _)=G
   walk_at "ev"
   ·exact kW (by lia)
   ·exact kW (by lia)
   subst hG
   have hcl:(EV.cutD ns (some (4+(h:Int) * (i:Int))) (some (4+(h:Int) * (i:Int)+(h:Int)))).length<=h:=Dj ns (4+h * i) (4+h * i+h) h rfl
   have hcm:EV.cutD (ns.map D.int) (some (4+(h:Int) * (i:Int))) (some (4+(h:Int) * (i:Int)+(h:Int)))=(EV.cutD ns (some (4+(h:Int) * (i:Int))) (some (4+(h:Int) * (i:Int)+(h:Int)))).map D.int:=kU _ _ _ _
   rw [hcm]
   generalize EV.cutD ns (some (4+(h:Int) * (i:Int))) (some (4+(h:Int) * (i:Int)+(h:Int)))=cs at hcl
   have hc8:cs.length<=8:=O3 hcl hh
   refine jm 6 (by walk_at "at") rfl (by walk_at "sset") ?_
   refine ak (ue (by walk_at "at") (by walk_at "at") rfl (aM (F:=m7) h4 (by decide) (eE (e_x (gc (by rw [tF]; exact hq) (N':=["_law_cell_here"]) (ρ0:=λ_=>[.un]) (λt=>.un .nil) (dS ?_))))))
   generalize hG:(λρ'=>aH c' _ ρ' _ _)=G
   walk_at "ev"
   ·rw [OW]; exact Fg (by lia)
   refine ⟨cs.map λn=>some (ah (c9 n)),by simp,?_,?_⟩
   ·intro c3 hc3 t k d o hd ho
    simp only [O8,Pf] at hd ho
    obtain ⟨x,hx,rfl⟩:=hd
    obtain ⟨x',hx',rfl⟩:=ho
    rw [hx] at hx'; cases hx'
    refine eG (by walk_at "at") (qC (by walk_at "sset") ⟨.un .nil,?_⟩)
    simp only [nK]
    refine ⟨λ_=>?_,λh=>by cases h⟩
    walk_at "ev"
    ·exact ⟨by decide,by decide,by decide⟩
    refine aC (J4 x) (nI ?_)
    rfl
   rw [show (cs.map λn=>some (ah (c9 n))).filterMap id=(cs.map c9).map ah by rw [Py]; exact gv (λn=>ah (c9 n)) cs]
   walk_at "ev"
   refine aC (lW (by rw [OW]; lia) λt ht=>?_) ?_
   ·obtain ⟨n,_,rfl⟩:=Pn.mp ht
    exact O3 (oN n) (by decide)
   walk_at "ev"
   ·rw [OW]; exact dM (by lia)
   subst hG
   refine eF ⟨Ps++[aR (cs.map c9)],.va (.int (i:Int)),s3,_,by rw [Pr,hPl]; rfl,λA hA=>?_,by rw [PR]; rfl⟩
   rcases Pb.mp hA with hA | hA
   ·exact hP A hA
   ·rw [Pa.mp hA]
    exact ⟨Dd hc8,cS (dB _)⟩
  ·rintro ρ' ⟨Ps,s2,s3,s6,hPl,hP,rfl⟩
   rw [gw] at hPl
   obtain ⟨A,B,C,rfl⟩:∃ A B C,Ps=[A,B,C]:=by
    match Ps,hPl with
    | [A,B,C],_=>exact ⟨A,B,C,rfl⟩
   have hA:=hP A (by simp)
   have hB:=hP B (by simp)
   have hC:=hP C (by simp)
   refine jm 5 (by walk_at "at") rfl (by walk_at "sset") ?_
   show aH c _ [.va (.lst (ns.map D.int)),.va (.lst (pl.map l0)),s2,s3,.va (.int (h:Int)),.va (.lst [.lst (A.map ah),.lst (B.map ah),.lst (C.map ah)]),s6] _ _
   refine ak ?_
   generalize hG:(λρ'=>aH c _ ρ' _ _)=G
   walk_at "ev"
   refine aC (Mw hA.p hB.p hpl) ?_
   walk_at "ev"
   refine aC (Mw hC.p hC.p hpl) ?_
   walk_at "ev"
   subst hG
   refine ak ?_
   generalize hG:(λρ'=>aH c _ ρ' _ _)=G
   walk_at "ev"
   refine aC (MB hA hB hC) ?_
   walk_at "ev"
   refine aC (MB hC hA hB) ?_
   walk_at "ev"
   rfl
end
end
section
variable {K:OR}
theorem F9 (Kr:mg "law"=some (.ref fa)) (T:Txt K mg) (xPLACES:∃ tk:Tok,mg "PLACES"=some (.int 6 tk))
 (D4:aA K mg "common_divisor" (top 4))
 (D5:aA K mg "fraction_of" (top 5))
 (D6:aA K mg "frac_sum" (top 6))
 (D7:aA K mg "frac_less" (top 7))
 (D8:aA K mg "frac_times" (top 8))
 (D11:aA K mg "trimmed" (top 11))
 (D12:aA K mg "power_at" (top 12))
 (D13:aA K mg "poly_of" (top 13))
 (D14:aA K mg "poly_sum" (top 14))
 (D15:aA K mg "poly_less" (top 15))
 (D16:aA K mg "greatest_powers" (top 16))
 (D17:aA K mg "width_for" (top 17))
 (D18:aA K mg "key_of" (top 18))
 (D19:aA K mg "powers_of" (top 19))
 (D20:aA K mg "packed" (top 20))
 (D21:aA K mg "unpacked" (top 21))
 (D22:aA K mg "add_products" (top 22))
 (D23:aA K mg "poly_times" (top 23))
 (D24:aA K mg "raised" (top 24))
 (D25:aA K mg "scaled_powers" (top 25))
 (D26:aA K mg "worth_at" (top 26))
 (D27:aA K mg "room_for" (top 27))
 (D28:aA K mg "term_by" (top 28))
 (D29:aA K mg "place_among" (top 29))
 (D30:aA K mg "take_away" (top 30))
 (D31:aA K mg "divided_by" (top 31))
 (D34:aA K mg "_law_cell" (top 34))
 (D35:aA K mg "_law_thing" (top 35))
 (D36:aA K mg "_law_term" (top 36))
 (D37:aA K mg "_law_fraction" (top 37))
 (D38:aA K mg "_law_trimmed" (top 38))
 (D39:aA K mg "_law_sum" (top 39))
 (D40:aA K mg "_law_worths_good" (top 40))
 (D41:aA K mg "_law_alike" (top 41))
 (D42:aA K mg "law" (top 42))
 : ∃ fd:FuncData,(∀ (s:Shared) (u:Value),BindsTo s fd ⟨[u],[]⟩ [("_law_script",u)])/\∀ base:Heap,K.In base->base.Ns mainGlobals mg->bh P w K mg base (cV P w) 20 fa fd ["_law_script"] (eS K A7):=by
 refine RZ λhG=>?_
 obtain ⟨f42,fd42,m42,Fu42⟩:=D42
 have e:=Kr.symm.trans m42
 cases e
 refine hG ⟨fd42,?_,λbase _ _=>?_⟩
 ·obtain ⟨oc,od,kV,doc,pm,an,cdv,ct,osl,rfl,lk,hcd⟩:=Fu42.ex
  exact λs u=>.of_eq rfl
 have C4:=aY P w base D4 λu=>JC u T
 have C5:=aY P w base D5 λu=>L4 u T C4
 have C6:=aY P w base D6 λu=>JH u C5
 have C7:=aY P w base D7 λu=>Fw u C5
 have C8:=aY P w base D8 λu=>CF u C5
 have C11:=aY P w base D11 λu=>Fi u T
 have C12:=aY P w base D12 λu=>Mb u T
 have C13:=aY P w base D13 λu=>Fl u T C11
 have C14:=aY P w base D14 λu=>Fq u T C13
 have C15:=aY P w base D15 λu=>Cw u T C13
 have C16:=aY P w base D16 λu=>CI u T xPLACES
 have C17:=aY P w base D17 λu=>JI u T C16
 have C18:=aY P w base D18 λu=>JJ u T xPLACES
 have C19:=aY P w base D19 λu=>Fy u T xPLACES C11
 have C20:=aY P w base D20 λu=>Fz u T C18
 have C21:=aY P w base D21 λu=>JN u T C19
 have C22:=E2 P w base D22 λu=>JL u T
 have C23:=aY P w base D23 λu=>JP u T C17 C20 C22 C21
 have C24:=aY P w base D24 λu=>JS u T
 have C25:=aY P w base D25 λu=>JU u T C12 C24
 have C26:=aY P w base D26 λu=>JV u T xPLACES C12 C24 C16 C25 C5
 have C27:=aY P w base D27 λu=>FY u T C16
 have C28:=aY P w base D28 λu=>Mp u T xPLACES C12 C11
 have C29:=aY P w base D29 λu=>Ka u T
 have C30:=Ct P w base D30 λu=>F2 u T C29
 have C31:=aY P w base D31 λu=>Kc u T C17 C27 C20 C19 C28 C18 C30
 have C34:=aY P w base D34 λu=>FN u T
 have C35:=aY P w base D35 λu=>Cv u T
 have C36:=aY P w base D36 λu=>FO u T C35
 have C37:=aY P w base D37 λu=>L1 u T
 have C38:=aY P w base D38 λu=>Cz u T
 have C39:=aY P w base D39 λu=>Fo u T C38
 have C40:=aY P w base D40 λu=>Mx u T C26 C14 C15 C23 C6 C7 C8
 have C41:=aY P w base D41 λu=>MC u T C14 C15 C23 C13 C31
 exact (Kg Fu42 T C34 C37 C36 C39 C40 C41).mono (by decide)
end
end My
open PySem PySem.W PyProof.Rows
local macro_rules | `(tactic| walk_at "dm")=> `(tactic| (dsimp only [L2.fS]; refine' EV.IJ (by assumption) (by assumption) ?a ?l ?c ?k; (case a=>k_is); (case l=>k_is); (case c=>k_is); (case k=>k_is)))
set_option maxRecDepth 100000 in
set_option maxHeartbeats 0 in
theorem PySem.Challenge.cw_everydraw_k09_whole_reckoning_with_polyn_holds : PySem.Challenge.rw_everydraw_k09_whole_reckoning_with_polyn.Holds := by
 w_on; o_law; k_head; (case hw=>w_witness2)
 k_fill
 refine EV.walk (k:=20) (l:=PySem.Challenge.rw_everydraw_k09_whole_reckoning_with_polyn) (by decide) rfl rfl (λw h Y=>PySem.W.kIn_of Y) ?F
 case F =>
  intro w mg fa h KX G hmg
  have D4:EV.aA (L2.fS KX) mg (Str.ofString "common_divisor") (My.top 4):=by walk_at "dm"
  have D5:EV.aA (L2.fS KX) mg (Str.ofString "fraction_of") (My.top 5):=by walk_at "dm"
  have D6:EV.aA (L2.fS KX) mg (Str.ofString "frac_sum") (My.top 6):=by walk_at "dm"
  have D7:EV.aA (L2.fS KX) mg (Str.ofString "frac_less") (My.top 7):=by walk_at "dm"
  have D8:EV.aA (L2.fS KX) mg (Str.ofString "frac_times") (My.top 8):=by walk_at "dm"
  have D11:EV.aA (L2.fS KX) mg (Str.ofString "trimmed") (My.top 11):=by walk_at "dm"
  have D12:EV.aA (L2.fS KX) mg (Str.ofString "power_at") (My.top 12):=by walk_at "dm"
  have D13:EV.aA (L2.fS KX) mg (Str.ofString "poly_of") (My.top 13):=by walk_at "dm"
  have D14:EV.aA (L2.fS KX) mg (Str.ofString "poly_sum") (My.top 14):=by walk_at "dm"
  have D15:EV.aA (L2.fS KX) mg (Str.ofString "poly_less") (My.top 15):=by walk_at "dm"
  have D16:EV.aA (L2.fS KX) mg (Str.ofString "greatest_powers") (My.top 16):=by walk_at "dm"
  have D17:EV.aA (L2.fS KX) mg (Str.ofString "width_for") (My.top 17):=by walk_at "dm"
  have D18:EV.aA (L2.fS KX) mg (Str.ofString "key_of") (My.top 18):=by walk_at "dm"
  have D19:EV.aA (L2.fS KX) mg (Str.ofString "powers_of") (My.top 19):=by walk_at "dm"
  have D20:EV.aA (L2.fS KX) mg (Str.ofString "packed") (My.top 20):=by walk_at "dm"
  have D21:EV.aA (L2.fS KX) mg (Str.ofString "unpacked") (My.top 21):=by walk_at "dm"
  have D22:EV.aA (L2.fS KX) mg (Str.ofString "add_products") (My.top 22):=by walk_at "dm"
  have D23:EV.aA (L2.fS KX) mg (Str.ofString "poly_times") (My.top 23):=by walk_at "dm"
  have D24:EV.aA (L2.fS KX) mg (Str.ofString "raised") (My.top 24):=by walk_at "dm"
  have D25:EV.aA (L2.fS KX) mg (Str.ofString "scaled_powers") (My.top 25):=by walk_at "dm"
  have D26:EV.aA (L2.fS KX) mg (Str.ofString "worth_at") (My.top 26):=by walk_at "dm"
  have D27:EV.aA (L2.fS KX) mg (Str.ofString "room_for") (My.top 27):=by walk_at "dm"
  have D28:EV.aA (L2.fS KX) mg (Str.ofString "term_by") (My.top 28):=by walk_at "dm"
  have D29:EV.aA (L2.fS KX) mg (Str.ofString "place_among") (My.top 29):=by walk_at "dm"
  have D30:EV.aA (L2.fS KX) mg (Str.ofString "take_away") (My.top 30):=by walk_at "dm"
  have D31:EV.aA (L2.fS KX) mg (Str.ofString "divided_by") (My.top 31):=by walk_at "dm"
  have D34:EV.aA (L2.fS KX) mg (Str.ofString "_law_cell") (My.top 34):=by walk_at "dm"
  have D35:EV.aA (L2.fS KX) mg (Str.ofString "_law_thing") (My.top 35):=by walk_at "dm"
  have D36:EV.aA (L2.fS KX) mg (Str.ofString "_law_term") (My.top 36):=by walk_at "dm"
  have D37:EV.aA (L2.fS KX) mg (Str.ofString "_law_fraction") (My.top 37):=by walk_at "dm"
  have D38:EV.aA (L2.fS KX) mg (Str.ofString "_law_trimmed") (My.top 38):=by walk_at "dm"
  have D39:EV.aA (L2.fS KX) mg (Str.ofString "_law_sum") (My.top 39):=by walk_at "dm"
  have D40:EV.aA (L2.fS KX) mg (Str.ofString "_law_worths_good") (My.top 40):=by walk_at "dm"
  have D41:EV.aA (L2.fS KX) mg (Str.ofString "_law_alike") (My.top 41):=by walk_at "dm"
  have D42:EV.aA (L2.fS KX) mg (Str.ofString "law") (My.top 42):=by walk_at "dm"
  have T:EV.Txt (L2.fS KX) mg:=by
   dsimp only [L2.fS]
   refine' EV.IL KX G ?z1 ?z2 ?z3 ?z4 ?z5 ?z6 ?z7 ?z8 ?z9 ?z10 ?z11 ?z12 ?z13 ?z14 ?z15 ?z16 ?z17 ?sib
   (case z1=>k_is)
   (case z2=>k_is)
   (case z3=>k_is)
   (case z4=>k_is)
   (case z5=>k_is)
   (case z6=>k_is)
   (case z7=>k_is)
   (case z8=>k_is)
   (case z9=>k_is)
   (case z10=>k_is)
   (case z11=>k_is)
   (case z12=>k_is)
   (case z13=>k_is)
   (case z14=>k_is)
   (case z15=>k_is)
   (case z16=>k_is)
   (case z17=>k_is)
   (case sib=>k_is)
  have xPLACES:∃ tk:Tok,mg (Str.ofString "PLACES")=some (.int 6 tk):=by
   refine' EV.int_mk KX G ?a
   (case a=>k_is)
  exact My.F9 hmg T xPLACES D4 D5 D6 D7 D8 D11 D12 D13 D14 D15 D16 D17 D18 D19 D20 D21 D22 D23 D24 D25 D26 D27 D28 D29 D30 D31 D34 D35 D36 D37 D38 D39 D40 D41 D42
