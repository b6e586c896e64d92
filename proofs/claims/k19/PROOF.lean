import PyProof.Rows.All
import Wide.All
import OpenK.AllK
import Wide.FinOn
import Lean
import PyProof.EqAt
import PyProof.EqKinds
import PyProof.TupleCall
import KE.KTryMore
import PyProof.NeKinds
import PyProof.DictItemsLoops
import PyProof.Rows.SortRunsK
import PyProof.Rows.SortRev
import PyProof.Tail
import PyProof.CollectIter
import PyProof.WalkInts
import PyProof.SumWalkG
import PyProof.SeqI3
import PyProof.EnumFor
import PyProof.EnumMake
import PyProof.Draws
import PyProof.Rows.Range3
import PyProof.EnumIter
import PySem.Challenge.RW_everydraw_k19_circles_by_three
namespace EV
theorem z2 {α β} {P:α->β->Prop} {G:Prop} (h:∃ a b,P a b) (k:∀ a b,P a b->G):G:=h.elim λa h=>h.elim (k a)
theorem z3 {α β γ} {P:α->β-> γ ->Prop} {G:Prop} (h:∃ a b c,P a b c) (k:∀ a b c,P a b c->G):G:=h.elim λa h=>z2 h (k a)
theorem z4 {α β γ δ} {P:α->β-> γ -> δ ->Prop} {G:Prop} (h:∃ a b c d,P a b c d) (k:∀ a b c d,P a b c d->G):G:=h.elim λa h=>z3 h (k a)
theorem z5 {α β γ δ ε} {P:α->β-> γ -> δ -> ε ->Prop} {G:Prop} (h:∃ a b c d e,P a b c d e) (k:∀ a b c d e,P a b c d e->G):G:=h.elim λa h=>z4 h (k a)
theorem w2 {a b G:Prop} (h:a/\b) (k:a->b->G):G:=k h.1 h.2
theorem w3 {a b c G:Prop} (h:a/\b/\c) (k:a->b->c->G):G:=w2 h.2 (k h.1)
theorem w4 {a b c d G:Prop} (h:a/\b/\c/\d) (k:a->b->c->d->G):G:=w3 h.2 (k h.1)
theorem w5 {a b c d e G:Prop} (h:a/\b/\c/\d/\e) (k:a->b->c->d->e->G):G:=w4 h.2 (k h.1)
theorem w6 {a b c d e f G:Prop} (h:a/\b/\c/\d/\e/\f) (k:a->b->c->d->e->f->G):G:=w5 h.2 (k h.1)
theorem w7 {a b c d e f g G:Prop} (h:a/\b/\c/\d/\e/\f/\g) (k:a->b->c->d->e->f->g->G):G:=w6 h.2 (k h.1)
theorem w8 {a b c d e f g i G:Prop} (h:a/\b/\c/\d/\e/\f/\g/\i) (k:a->b->c->d->e->f->g->i->G):G:=w7 h.2 (k h.1)
end EV
set_option Elab.async false
set_option linter.all false
set_option maxRecDepth 100000
open PySem renaming wpAny_bind->NP,wpAny_pure->NS,Spec->Ov,wpAny_mono->OI,wpAny_newObj_type->O0,wpAny_holding->O6,wpAny_rule->Pe,wpAny_call_entry->Pq,wpAny_Call_Name_kw->Pz,wpAny_field->PU,Builtin->P0,wpAny_callSpecial?_slot->P7,wpAny_attempt->Qe,wpAny_typeOf->Qf,wpAny_setField_rec->Qt,wpAny_passesOwn->Qx,wpAny_dictEntries->Q0,wpAny_dictEpoch->Q4,codeAny_mono->Q5,wpAny_call->Q8,typeIs_int->Q9,call_meets->Ra,mem_of_lookup->Rk,wpAny_truthy_bool->Rm,codeAny_builtin->Rr,wpAny_setField->Rx,wpAny_newList->Ry,wpAny_typeNameOfWhole_itemiter->RO,wpAny_typeNameOfWhole_keyiter->RP,wpAny_typeNameOf_itemiter->RS,wpAny_typeNameOf_keyiter->RV,tupleKind_room_in1->Sa,wpAny_isInstance->Ss,wpAny_fieldsOf->SG,wpAny_standAt->SO,concat_meets->SW,wpAny_letGo->S9,wpAny_isOneOf_itemiter->Tz,wpAny_pyIter_tuple->TX,wpAny_sequenceKey->T5,wpAny_pyIter_slot->T6,wpAny_pyIter_list->T7,slot_list_getitem->T8,noFill_tuple_add->Ue
open PySem.Str renaming ofString->NQ
open PySem.W renaming Frag->NR,nsIn->OS,mg_none_of->OZ,kitOne->Pk,keepIn->PD,fnOf->PR,findIn->Qc,kia_one->Qy,clsIn->Rz,callWith_K->Sb,codeIn->SJ,mroIn->SQ,specialIn->T9,methodObj->Ua
open Nat renaming le_refl->NT,le_trans->N3,ne_of_lt->Ou,zero_le->OB,lt_of_lt_of_le->OJ,lt_irrefl->Pw,lt_of_le_of_lt->PM,le_of_ble_eq_true->PX,zero_add->Qg,le_of_lt->Qh,lt_succ_self->Qw,min_eq_left->Qz,mul_le_mul->QB,mul_comm->QD,le_add_right->Q3,ne_of_gt->Q6,pow_le_pow_right->Ri,succ_mul->RE,one_mul->RI,le_sub_one_of_lt->R7,lt_succ_of_lt->Sk,succ_le_succ->Su,one_le_iff_ne_zero->TH,add_sub_cancel'->TR
open PyProof.Rows renaming wpS_bind->NU,wpS_pure->NV,wpS_mono->OE,wpS_forRange->O1,listUpdate_at->Po,wpS_get->Pp,wpS_modify->PJ,wpS_lift->Ql,slot_tuple_getitem->QK,seqEpoch_at->Q7,callWith_type1->Rf,listItems_at->RD,mirror_perm->RH,get?_update_seq->Sz,callWith_builtin1->Ti,wpAny_call_entry_kw->TQ
open List renaming map_cons->NW,length_map->NX,getElem?_map->NZ,mem_cons_self->N2,getElem?_eq_some_iff->N4,mem_cons_of_mem->N6,replicate->N7,mem_cons->N9,mem_singleton->Oa,getElem?_eq_getElem->Od,size_toArray->Of,append_assoc->Oh,mem_map->Oi,map_map->Oj,mem_append->Om,map_append->Ot,getElem_mem->Ow,length_cons->Oz,range->OD,length_append->OF,take_length->OO,append_nil->OP,take_succ_eq_append_getElem->OU,mem_append_right->OV,length_take->OW,getD_eq_getElem?_getD->OY,getElem?_set_self->O2,mem_of_getElem?->O3,getElem?_set_ne->O4,nodup_cons->O8,filterMap_cons->Pf,not_mem_nil->Pg,cons_append->Ph,foldl_cons->Pj,find?_cons->Pu,take_append_drop->Px,getElem?_eq_none->Py,length_nil->PB,map_nil->PF,replicate_succ->PK,nil_append->PN,map_congr_left->PY,pairwise_map->PZ,sum_cons->P4,getElem?_append_left->P6,take_of_length_le->P9,filter_cons_of_pos->Qn,perm_append_comm->Qp,mem_append_left->Qq,getElem?_range->Qs,flatten_cons->Qv,sum_append->QA,length->QG,getElem?_append_right->QN,pairwise_singleton->QU,getElem?_of_mem->QW,pairwise_cons->QY,getElem?_drop->QZ,foldl->Rb,filter_cons_of_neg->Rg,getElem?_append->Rj,nodup_append->Rn,flatMap_cons->Ro,mem_filter->Rt,foldr_cons->Ru,Nodup->RJ,getElem?_take_of_lt->RW,eq_of_mem_replicate->RY,length_singleton->R5,mem_of_mem_take->R8,zip_cons_cons->Sf,filterMap_map->Sg,take_sublist->Sm,take_add_one->Sn,reverse_perm->So,ext_getElem?->Sq,mem_flatMap->Sv,length_drop->Sw,flatMap_nil->Sx,ext_getElem->Sy,of_mem_zip->SA,forIn_cons->SD,nodup_nil->SK,mem_range->SM,drop_zero->SN,zipWith->S0,Pairwise->Th,pairwise_iff_getElem->To,drop_eq_getElem_cons->Tp,getElem?_replicate->Tw,reverse_append->TU,length_reverse->TV,getElem_range->TZ,foldl_append->Ub,drop_sublist->Uc,lookup_cons->Ug,getElem_map->Uh,drop_append_of_le_length->Uv
open PySem.Heap renaming get?_push_of_some->NY,lt_size->N1,get?_push_size->Ob,SameBut->Pb,get?_update_ne->Qa,size_push->Qd,ExtBut->Qi,get?_update_other->R3,size_update->Ui
open Bool renaming false_ne_true->N5,false_eq_true->ON,and_eq_true->Rq,eq_iff_iff->Rv,not_true->RC
open Option renaming map_eq_some_iff->N8,isSome_map->Qu,bind_eq_some_iff->Tv
open PySem.Expr renaming Name->Oc,Call->OR,Subscript->O5,Constant->RB
open Sum renaming inl->Oe,inr->Qm
open Ne renaming symm->Og
open PySem.Value renaming ref->Ol,none->OX,type->O9,str->RK,int->RL
open PySem.SeqAt renaming EqAt->Oo,RcAt->QJ,RcNeAt->SX
open Array renaming getElem?_eq_getElem->Oq,toList_push->OG,getElem?_toList->OL,length_toList->OM,toList_append->O7,ext'->Qk,perm_iff_toList_perm->QO,getElem?_eq_some_iff->QS,toList_reverse->QX,getElem?_extract->R4,mem_toList_iff->TN,getElem_mem->Ud,toList_map->Uk,toList_eraseIdxIfInBounds->Ur
open PySem.Env renaming kindOf->Ox
open Int renaming le_trans->OA,toNat_natCast->OH,le_refl->Pd,le_of_lt->P5,zero_mul->QF,pow_pos->QH,add_mul->QI,mul_assoc->RA,zero_add->RG,toNat->RN,natCast_nonneg->Si,lt_of_le_of_lt->Sj,add_zero->S3,add_comm->S6,one_mul->Te,mul_le_mul_of_nonneg_right->Us
open PySem.Obj renaming mapSeq->OC,data_mapFields->Se
open ForInStep renaming yield->OQ,done->Pn
open False renaming elim->OT
open PySem.Builtin.Int renaming intBits->Pa
open PySem.Paired renaming length->Pc,snoc->Td
open Option.some renaming inj->Pr
open True renaming intro->PV
open PySem.NameKind renaming free->P1,cell->QC
open PySem.Builtin.List renaming listUpdate->P8,listLengthHint->QM,listItems->Rh,listExtendWith->RQ,listTooLong->Tt
open PyProof.Rows.SortSt renaming mk'->Qj
open Lean renaming mkPrivateNameCore->Qo,mkIdent->QE
open PySem.F renaming slot_dict_itemiterator_next->QL,slot_dict_keyiterator_next->Rc,plain_extend_loop->RT,slot_int_rmul->SE,args_tuple_add_2->Tr,entry_tuple_add->Tu,slot_tuple_add->TF,slot_tuple_lt->TL,slot_dict_get->TM,slot_tuple_mul->Uj,args_dict_itemiterator_next_1->Uq,entry_dict_itemiterator_next->Ut,args_dict_keyiterator_next_1->Uu,slot_dict_itemiterator_iter->Uw,entry_dict_keyiterator_next->Ux
open PySem.Builtin.SmallTypes renaming nextOf->QT
open List.Perm renaming append_left->QV
open PySem.Heap.SameBut renaming update->Rl
open List.Pairwise renaming nil->Rp
open PySem.Builtin.Slice renaming slicePlaces->RU,sliceAdjust->Tq
open PySem.Builtin.Tuple renaming tupleExact->RZ
open PySem.AutoSeq1 renaming wpAny_loadPart'->R0
open PySem.Builtin.Range renaming rangeSize->R1
open PySem.Builtin.Dict renaming showsAll->R6
open PySem.Around renaming under_plainId->R9
open PySem.Stmt renaming AugAssign->SH,Assign->Tc
open Quotient renaming sound->SI
open Function renaming comp->SS
open PySem.Operator renaming Add->SY
open PySem.Data renaming fields->Tf
open PySem.Builtin.Dict_items renaming pairFromOwner->Tg,ownsTuple->Tj,ownedTupleIsFree->Um,ownedTupleFields->Uo
open PySem.Calls renaming callWith_builtin->TJ,spliced_cons->T4
open PySem.ScopeKind renaming function->TY
open PySem.Challenge renaming rw_everydraw_k19_circles_by_three->Ul
namespace PySem.W.Fast
theorem tw14210768492844079416:True:=⟨⟩
theorem tw16957951952540906276:True:=⟨⟩
theorem tw12060502731275342621:True:=⟨⟩
theorem tw12168317416682629306:True:=⟨⟩
theorem tw13340625877219491118:True:=⟨⟩
theorem tw16653465068334826481:True:=⟨⟩
theorem tw7710418370049802599:True:=⟨⟩
theorem tw8141220224867439137:True:=⟨⟩
theorem tw15202799170222106327:True:=⟨⟩
theorem tw1130240318445707525:True:=⟨⟩
theorem tw11879215443653558607:True:=⟨⟩
theorem tw6984778143600113835:True:=⟨⟩
theorem tw13155145904013137174:True:=⟨⟩
theorem tw7375673589639034211:True:=⟨⟩
theorem tw12945947398626271154:True:=⟨⟩
theorem tw5133050344443012264:True:=⟨⟩
theorem tw2835524377131588691:True:=⟨⟩
theorem tw777652409475117238:True:=⟨⟩
theorem tw8055285744566822606:True:=⟨⟩
theorem tw490286216174013038:True:=⟨⟩
theorem tw6376313341333099309:True:=⟨⟩
theorem tw16528474163325886908:True:=⟨⟩
theorem tw4631837327378138533:True:=⟨⟩
theorem tw16592102547518235041:True:=⟨⟩
theorem tw1835775632776315658:True:=⟨⟩
theorem tw17617443230067666357:True:=⟨⟩
theorem tw4521586986801062948:True:=⟨⟩
theorem tw17407570858576345547:True:=⟨⟩
theorem tw1226059644484300267:True:=⟨⟩
theorem tw6949596803063330513:True:=⟨⟩
theorem tw12807889439972501739:True:=⟨⟩
theorem tw12888019867030964457:True:=⟨⟩
theorem tw6531696659997111611:True:=⟨⟩
theorem tw13825962351001074608:True:=⟨⟩
theorem tw12767349501034614542:True:=⟨⟩
theorem tw9780244529803534040:True:=⟨⟩
theorem tw7586845462911603692:True:=⟨⟩
theorem tw17965641675035641653:True:=⟨⟩
theorem tw17211387689747649729:True:=⟨⟩
theorem tw15275468818032894762:True:=⟨⟩
theorem tw13530959606823468119:True:=⟨⟩
theorem tw13040554825996540665:True:=⟨⟩
theorem tw2014847932317514504:True:=⟨⟩
theorem tw6388125309847472876:True:=⟨⟩
theorem tw8554465614820368597:True:=⟨⟩
theorem tw6849252203780471215:True:=⟨⟩
theorem tw13105008515779892772:True:=⟨⟩
theorem tw15570088170583641804:True:=⟨⟩
theorem tw2555490508796500094:True:=⟨⟩
theorem tw4541571819543227674:True:=⟨⟩
theorem tw9371593365615033763:True:=⟨⟩
theorem tw14579107891503606156:True:=⟨⟩
theorem tw2037798832788278992:True:=⟨⟩
theorem tw9536686385259894497:True:=⟨⟩
theorem tw5596474831577678759:True:=⟨⟩
theorem tw1462653893749660500:True:=⟨⟩
theorem tw14563910046148616929:True:=⟨⟩
theorem tw2938783859501431739:True:=⟨⟩
theorem tw10091112844954990061:True:=⟨⟩
theorem tw652998253848019917:True:=⟨⟩
theorem tw12135343278091011436:True:=⟨⟩
theorem tw10058812444842346873:True:=⟨⟩
theorem tw3259417633738857835:True:=⟨⟩
theorem tw8396172738129537590:True:=⟨⟩
theorem tw2835638135783278856:True:=⟨⟩
theorem tw14320748139993062535:True:=⟨⟩
theorem tw8589801201387570256:True:=⟨⟩
theorem tw14847378396372672937:True:=⟨⟩
theorem tw2808756680420416021:True:=⟨⟩
theorem tw13744930789896964475:True:=⟨⟩
end PySem.W.Fast
local macro_rules | `(tactic| walk_at "u") => `(tactic| with_unfolding_all rfl)
namespace L2
open PySem PySem.Spec PyProof.Rows
noncomputable abbrev Key:=Sum Int Str
noncomputable def kq:Key->Value->Bool
 | .inl k,v=>Value.isInt k v
 | .inr x,v=>Value.isStrOf x v
noncomputable def Mg (w:World):Key->Int
 | .inl k=>hashInt k
 | .inr x=>hashStr w x
theorem bJ:∀ {k:Key} {v:Value},kq k v=true->(∃ i t,k=Oe i/\v=RL i t)\/(∃ x t,k=Qm x/\v=RK x t)
 | .inl i,v,h=>by
  obtain ⟨t,e⟩:=Value.isInt_shape (k:=i) (v:=v) h
  exact .inl ⟨i,t,rfl,e⟩
 | .inr x,v,h=>by
  obtain ⟨t,e⟩:=Value.isStrOf_shape (x:=x) (v:=v) h
  exact .inr ⟨x,t,rfl,e⟩
theorem wz (i) (t:Tok):kq (.inl i) (.int i t)=true:=by simp [kq,Value.isInt]
theorem wA (x) (t:Tok):kq (.inr x) (.str x t)=true:=by simp [kq,Value.isStrOf]
theorem Gk (a b):decide ((Oe a:Key)=Oe b)=(a == b):=by
 by_cases e:a=b
 ·subst e; simp
 ·have h:¬ (Oe a:Key)=Oe b:=λq=>e (Oe.inj q)
  rw [decide_eq_false h]
  exact (beq_eq_false_iff_ne.mpr e).symm
theorem Gm (a b):decide ((Qm a:Key)=Qm b)=decide (a=b):=by
 by_cases e:a=b
 ·subst e; simp
 ·have h:¬ (Qm a:Key)=Qm b:=λq=>e (Qm.inj q)
  rw [decide_eq_false h,decide_eq_false e]
theorem Gn (a) (b):decide ((Oe a:Key)=Qm b)=false:=decide_eq_false (λq=>nomatch q)
theorem Gp (a) (b):decide ((Qm a:Key)=Oe b)=false:=decide_eq_false (λq=>nomatch q)
noncomputable def cg (prog:Program) (w:World):PySem.KeyKind prog w Key where
 is:=kq
 hash:=Mg w
 inj:=λv a b ha hb=>by
  rcases bJ ha with ⟨i,t,rfl,rfl⟩ | ⟨x,t,rfl,rfl⟩
  ·rcases bJ hb with ⟨j,u,rfl,e⟩ | ⟨y,u,rfl,e⟩
   ·injection e with e1 _; rw [e1]
   ·exact nomatch e
  ·rcases bJ hb with ⟨j,u,rfl,e⟩ | ⟨y,u,rfl,e⟩
   ·exact nomatch e
   ·injection e with e1 _; rw [e1]
 byValue:=λk v h=>by
  rcases bJ h with ⟨i,t,rfl,rfl⟩ | ⟨x,t,rfl,rfl⟩ <;> rfl
 pyHash:=λhv h=>by
  rcases bJ hv with ⟨i,t,rfl,rfl⟩ | ⟨x,t,rfl,rfl⟩
  ·exact wpAny_pyHash_int h
  ·exact wpAny_pyHash_str h
 eqBool:=λhu hv h=>by
  rcases bJ hu with ⟨i,t,rfl,rfl⟩ | ⟨x,t,rfl,rfl⟩
  ·rcases bJ hv with ⟨j,u,rfl,rfl⟩ | ⟨y,u,rfl,rfl⟩
   ·rw [Gk] at h; exact wpAny_eqBool_int h
   ·rw [Gn] at h; exact Oo.int_str i t y u _ _ _ _ h
  ·rcases bJ hv with ⟨j,u,rfl,rfl⟩ | ⟨y,u,rfl,rfl⟩
   ·rw [Gp] at h; exact Oo.str_int x t j u _ _ _ _ h
   ·rw [Gm] at h; exact wpAny_eqBool_str h
 «strs» :=λk x t v h=>by
  rcases bJ h with ⟨i,u,rfl,e⟩ | ⟨y,u,rfl,e⟩
  ·exact nomatch e
  ·injection e with e1 _
   subst e1
   cases v <;> rfl
theorem pG (prog) (w) (i) (t:Tok):(cg prog w).is (.inl i) (.int i t)=true:=wz i t
theorem pH (prog) (w) (x) (t:Tok):(cg prog w).is (.inr x) (.str x t)=true:=wA x t
inductive V where
 | non | bl (b:Bool) | int (i:Int) | str (x:Str) | byt (b:Array UInt8) | flt (b:UInt64) | ref (a:Addr) | ty (n:String)
 deriving DecidableEq
noncomputable def RelV:V->Value->Prop
 | .non,u=>u=OX
 | .bl b,u=>u=Value.bool b
 | .int i,u=>∃ t,u=RL i t
 | .str x,u=>∃ t,u=RK x t
 | .byt b,u=>∃ t,u=Value.bytes b t
 | .flt b,u=>∃ t,u=Value.float b t
 | .ref a,u=>u=Ol a
 | .ty n,u=>u=O9 n
noncomputable abbrev Vals:List V->List Value->Prop:=Paired RelV
theorem Vals.length (r:Vals xs us):xs.length=us.length:=Pc r
theorem Vals.get:∀ {xs:List V} {us:List Value} {i:Nat} {x:V},Vals xs us->xs[i]?=some x->∃ u,us[i]?=some u/\RelV x u
 | _,_,_,_,.nil,e=>by simp at e
 | _,_,0,_,.cons r _,e=>by simp at e; subst e; exact ⟨_,rfl,r⟩
 | _,_,i+1,x,.cons _ t,e=>by
  obtain ⟨u,h1,h2⟩:=Vals.get (i:=i) (x:=x) t (by simpa using e)
  exact ⟨u,by simpa using h1,h2⟩
theorem Vals.set (r:RelV x u):∀ {xs:List V} {us:List Value} (i:Nat),Vals xs us->Vals (xs.set i x) (us.set i u)
 | _,_,_,.nil=>.nil
 | _,_,0,.cons _ t=>.cons r t
 | _,_,i+1,.cons q t=>.cons q (Vals.set r i t)
theorem Vals.append:∀ {xs ys:List V} {us ws:List Value},Vals xs us->Vals ys ws->Vals (xs++ys) (us++ws)
 | _,_,_,_,.nil,s=>s
 | _,_,_,_,.cons r t,s=>.cons r (Vals.append t s)
theorem Vals.take:∀ {xs:List V} {us:List Value} (n:Nat),Vals xs us->Vals (xs.take n) (us.take n)
 | _,_,0,_=>.nil
 | _,_,_+1,.nil=>.nil
 | _,_,n+1,.cons r t=>.cons r (Vals.take n t)
theorem Vals.drop:∀ {xs:List V} {us:List Value} (n:Nat),Vals xs us->Vals (xs.drop n) (us.drop n)
 | _,_,0,r=>r
 | _,_,_+1,.nil=>.nil
 | _,_,n+1,.cons _ t=>Vals.drop n t
noncomputable def jO:Option V->Option Value->Prop
 | some v,some u=>RelV v u
 | none,none=>True
 | _,_=>False
noncomputable def KV {κ:Type}:List (κ×V)->List (κ×Value)->Prop:=Paired λ(p:κ×V) (q:κ×Value)=>p.1=q.1/\RelV p.2 q.2
noncomputable def kV:Key->V
 | .inl i=>.int i
 | .inr x=>.str x
inductive HO where
 | lst (xs:List V)
 | tup (xs:List V)
 | dK (kvs:List (Key×V)) | dT (kvs:List (List Key×Addr×V))
 | set (S:Int->Bool) (n:Nat)
 | ins (C dx:Addr) (fs:List (Str×V))
 | own (x:Addr)
 | xd (fs:List (Str×V))
 | met (f x:Addr)
 | rng (lo hi:Int)
 | frz (o:Obj) (u:HO)
 | tbl (ps:Array Value)
 | ext (φ :Heap->Prop)
noncomputable abbrev Hp:=Addr->Option HO
noncomputable def upd (H:Hp) (a:Addr) (o:HO):Hp:=λb=>if b=a then some o else H b
theorem af:upd H a o a=some o:=by unfold upd; rw [if_pos rfl]
theorem aj (h:b≠a):upd H a o b=H b:=by unfold upd; rw [if_neg h]
theorem nL:upd (upd H a o) a u=upd H a u:=by
 funext b; unfold upd; split <;> rfl
theorem aB {H:Hp} (h:H a=some o) (h':H b=none):a≠b:=by
 intro e; subst e; rw [h] at h'; cases h'
section
variable (P:Program) (w:World)
noncomputable def bq (H:Hp) (h:Heap) (a:Addr):HO->Prop
 | .lst xs=>xs.length<=sizeLine/\∃ (its:List Value) (n:Nat),Vals xs its/\h.get? a=some { cls:=.type "list",data:=.seq its.toArray n }
 | .tup xs=>xs.length<=sizeLine/\∃ its:List Value,Vals xs its/\IsTup h a its.toArray
 | .dK kvs=>kvs.length<=sizeLine/\(a == sysModules)=false/\∃ vs,KV kvs vs/\h.DictOf (cg P w) a vs
 | .dT kvs=>kvs.length<=sizeLine/\(a == sysModules)=false/\∃ xs:List (List Key×Addr×Value),
  Paired (λ(p:List Key×Addr×V) (q:List Key×Addr×Value)=>p.1=q.1/\p.2.1=q.2.1/\RelV p.2.2 q.2.2) kvs xs /\
  ∃ o es ep,h.get? a=some o/\o.ExactDict/\o.data=.dict es ep/\es.toList=xs.map (entryOfKey (tupleKind (cg P w)))/\(xs.map (·.1)).Nodup
 | .set S n=>h.SetOf (intKind P w) a S n
 | .ins C dx fs=>H dx=some (.own a)/\fs.length<=1000/\dx≠a/\h.get? a=some (PySem.W.instObj C dx) /\
  ∃ mA,h.Ns1 dx mA/\(∀ f,jO (fs.lookup f) (mA f))/\PySem.Within mA (fs.map (·.1))
 | .own _=>∃ o,h.get? a=some o
 | .xd fs=>∃ mA,h.Ns1 a mA/\∀ f,jO (fs.lookup f) (mA f)
 | .rng lo hi=>∃ t u v,h.get? a=some { cls:=.type "range",data:=.fields #[.int lo t,.int hi u,.int 1 v] }
 | .frz o u=>h.get? a=some o/\bq H h a u
 | .tbl ps=>h.get? a=some { cls:=.none,data:=.fields ps }
 | .met f x=>h.get? a=some (Ua (.ref f) (.ref x))
 | .ext φ => φ h/\(∃ o,h.get? a=some o)/\∀ h1 h2:Heap,φ h1->(∀ o,h1.get? a=some o->h2.get? a=some o)-> φ h2
def jh (H:Hp) (h:Heap):Prop:=∀ a o,H a=some o->bq P w H h a o
end
theorem bq.lt (x:bq P w H h a o):a<h.objs.size:=by
 cases o with
 | lst xs=>obtain ⟨_,_,_,_,e⟩:=x; exact N1 e
 | tup xs=>obtain ⟨_,_,_,p⟩:=x; exact p.lt
 | dK kvs=>obtain ⟨_,_,_,_,o,_,_,e,_⟩:=x; exact N1 e
 | dT kvs=>obtain ⟨_,_,_,_,o,_,_,e,_⟩:=x; exact N1 e
 | set S n=>obtain ⟨o,_,_,_,e,_⟩:=x; exact N1 e
 | ins C dx fs=>obtain ⟨_,_,_,e,_⟩:=x; exact N1 e
 | own y=>obtain ⟨_,e⟩:=x; exact N1 e
 | xd fs=>obtain ⟨_,⟨_,_,_,e,_⟩,_⟩:=x; exact N1 e
 | rng lo hi=>obtain ⟨_,_,_,e⟩:=x; exact N1 e
 | frz ob u=>obtain ⟨e,_⟩:=x; exact N1 e
 | tbl ps=>exact N1 (show h.get? a=some _ from x)
 | met f y=>exact N1 (show h.get? a=some _ from x)
 | ext φ =>obtain ⟨_,⟨_,e⟩,_⟩:=x; exact N1 e
theorem Paired.Gq:∀ {l₁:List α} {l₂:List β},Paired F l₁ l₂->(∀ a b,F a b->G a b)->Paired G l₁ l₂
 | _,_,.nil,_=>.nil
 | _,_,.cons r t,f=>.cons (f _ _ r) (Paired.Gq t f)
theorem bq.stay (x:bq P w H h a o) (k:∀ b u,(b=a\/H b=some (.own a))->h.get? b=some u->h'.get? b=some u)
 (ho:∀ b,H b=some (.own a)->H' b=some (.own a)) (ht:∀ b xs,H b=some (.tup xs)->H' b=some (.tup xs)):bq P w H' h' a o:=by
 induction o with
 | lst xs=>obtain ⟨z,its,n,r,e⟩:=x; exact ⟨z,its,n,r,k _ _ (.inl rfl) e⟩
 | tup xs=>obtain ⟨z,its,r,ob,e,c⟩:=x; exact ⟨z,its,r,ob,k _ _ (.inl rfl) e,c⟩
 | dK kvs=>obtain ⟨z,y,vs,r,ob,es,ep,e,c⟩:=x; exact ⟨z,y,vs,r,ob,es,ep,k _ _ (.inl rfl) e,c⟩
 | dT kvs =>
  obtain ⟨z,y,xs,r,ob,es,ep,e,c⟩:=x
  exact ⟨z,y,xs,r,ob,es,ep,k _ _ (.inl rfl) e,c⟩
 | set S n=>obtain ⟨ob,es,ep,t,e,c⟩:=x; exact ⟨ob,es,ep,t,k _ _ (.inl rfl) e,c⟩
 | ins C dx fs =>
  obtain ⟨d,z,ne,e,mA,⟨od,es,ep,e2,c⟩,r⟩:=x
  exact ⟨ho _ d,z,ne,k _ _ (.inl rfl) e,mA,⟨od,es,ep,k _ _ (.inr d) e2,c⟩,r⟩
 | own y=>obtain ⟨ob,e⟩:=x; exact ⟨ob,k _ _ (.inl rfl) e⟩
 | xd fs=>obtain ⟨mA,⟨od,es,ep,e,c⟩,r⟩:=x; exact ⟨mA,⟨od,es,ep,k _ _ (.inl rfl) e,c⟩,r⟩
 | rng lo hi=>obtain ⟨t,u,v,e⟩:=x; exact ⟨t,u,v,k _ _ (.inl rfl) e⟩
 | frz ob u ih=>obtain ⟨e,q⟩:=x; exact ⟨k _ _ (.inl rfl) e,ih q⟩
 | tbl ps =>
  have e:h.get? a=some { cls:=.none,data:=.fields ps }:=x
  show h'.get? a=some { cls:=.none,data:=.fields ps }
  exact k a _ (.inl rfl) e
 | met f y =>
  have e:h.get? a=some (Ua (.ref f) (.ref y)):=x
  show h'.get? a=some (Ua (.ref f) (.ref y))
  exact k a _ (.inl rfl) e
 | ext φ =>obtain ⟨p,⟨o,e⟩,st⟩:=x; exact ⟨st _ _ p λo q=>k _ _ (.inl rfl) q,⟨o,k _ _ (.inl rfl) e⟩,st⟩
theorem jh.lt (x:jh P w H h) (e:H a=some o):a<h.objs.size:=(x a o e).lt
theorem jh.fresh (x:jh P w H h) (e:h.objs.size<=a):H a=none:=by
 cases q:H a with
 | none=>rfl
 | some u=>exact absurd (OJ (x.lt q) e) (Pw _)
theorem jh.kept (x:jh P w H h) (k:∀ b u,h.get? b=some u->h'.get? b=some u):jh P w H h':=λa o e =>
 (x a o e).stay (λb u _ q=>k b u q) (λ_ q=>q) λ_ _ q=>q
theorem jh.laid (x:jh P w H h) (k:∀ b u,h.get? b=some u->h'.get? b=some u) (hp:h.objs.size<=a) (new:bq P w (upd H a o) h' a o):jh P w (upd H a o) h':=λb u e=>by
 have hn:=x.fresh hp
 by_cases hb:b=a
 ·subst hb; rw [af] at e; cases e; exact new
 ·rw [aj hb] at e
  exact (x b u e).stay (λc v _ q=>k c v q) (λc q=>by rw [aj (aB q hn)]; exact q) λc xs q=>by rw [aj (aB q hn)]; exact q
def Rd (H:Hp) (a:Addr) (u:HO):Prop:=H a=some u\/∃ o,H a=some (.frz o u)
theorem Rd.ok (r:Rd H a u) (x:jh P w H h):bq P w H h a u:=by
 rcases r with r | ⟨o,r⟩
 ·exact x a u r
 ·obtain ⟨_,q⟩:=x a _ r
  exact q
noncomputable def J3:Option HO->Prop
 | some (.lst _)=>True
 | some (.dK _)=>True
 | some (.dT _)=>True
 | some (.set _ _)=>True
 | some (.ins _ _ _)=>True
 | some (.ext _)=>True
 | _=>False
theorem jh.write (ok:jh P w H h) (mu:J3 (H x)) (he:e=x\/H e=some (.own x)) (k:∀ b u,b≠e->h.get? b=some u->h'.get? b=some u) (heo:∃ u,h'.get? e=some u)
 (new:bq P w (upd H x o') h' x o'):jh P w (upd H x o') h':=λb u q=>by
 have nown:∀ c y,H c=some (.own y)->c≠x:=λc y r z=>by subst z; rw [r] at mu; exact mu
 have ntup:∀ c xs,H c=some (.tup xs)->c≠x:=λc xs r z=>by subst z; rw [r] at mu; exact mu
 by_cases hb:b=x
 ·subst hb; rw [af] at q; cases q; exact new
 ·rw [aj hb] at q
  by_cases hbe:b=e
  ·have q':H b=some (.own x):=by
    rcases he with z | z
    ·exact absurd (hbe.trans z) hb
    ·rw [hbe]; exact z
   rw [q] at q'; cases q'
   obtain ⟨v,hv⟩:=heo
   exact ⟨v,by rw [hbe]; exact hv⟩
  ·refine (ok b u q).stay (λc v hc r=>k c v ?_ r) (λc r=>by rw [aj (nown c b r)]; exact r) λc xs r=>by rw [aj (ntup c xs r)]; exact r
   rcases hc with rfl | hc
   ·exact hbe
   ·rintro rfl
    rcases he with z | z
    ·exact nown c b hc z
    ·rw [hc] at z; cases z; exact hb rfl
structure Un (fs ex:List Addr) (H H':Hp) (h h':Heap):Prop where
 keep:∀ b o,h.get? b=some o->H b=none->b∉fs->b∉ex->h'.get? b=some o
 slot:∀ b o,h.get? b=some o->H b=none->b∈fs->b∉ex->∃ sl,h'.get? b=some { o with slots:=sl }
 free:∀ b o,h.get? b=some o->H b=none->b∉ex->H' b=none
 there:∀ b o,h.get? b=some o->b∉ex->∃ o',h'.get? b=some o'
 tups:∀ b xs,H b=some (.tup xs)->H' b=some (.tup xs)
 frzs:∀ b o u,H b=some (.frz o u)->H' b=some (.frz o u)
 tbls:∀ b ps,H b=some (.tbl ps)->∃ more,H' b=some (.tbl (ps++more))
section
variable {fs fs' ex ex':List Addr} {H H1 H2:Hp} {h h1 h2 h':Heap} {a x e:Addr} {o:HO}
theorem Un.any (u:Un fs ex H H1 h h1) (q:h.get? b=some ob) (n:H b=none) (hx:b∉ex):∃ sl,h1.get? b=some { ob with slots:=sl }:=by
 by_cases hb:b∈fs
 ·exact u.slot b ob q n hb hx
 ·exact ⟨ob.slots,u.keep b ob q n hb hx⟩
theorem Un.kept (k:∀ b u,h.get? b=some u->h'.get? b=some u):Un fs ex H H h h' :=
 ⟨λb ob q _ _ _=>k b ob q,λb ob q _ _ _=>⟨ob.slots,k b ob q⟩,λ_ _ _ n _=>n,λb ob q _=>⟨ob,k b ob q⟩,λ_ _ q=>q,λ_ _ _ q=>q,λ_ ps q=>⟨#[],by rw [q]; simp⟩⟩
theorem Un.refl:Un fs ex H H h h:=Un.kept λ_ _ q=>q
theorem Un.laid (k:∀ b u,h.get? b=some u->h'.get? b=some u) (hp:h.objs.size<=a) (hn:H a=none):Un fs ex H (upd H a o) h h' where
 keep:=λb u q _ _ _=>k b u q
 slot:=λb u q _ _ _=>⟨u.slots,k b u q⟩
 free:=λb u q n _=>by rw [aj (Ou (OJ (N1 q) hp))]; exact n
 there:=λb u q _=>⟨u,k b u q⟩
 tups:=λb xs q=>by rw [aj (aB q hn)]; exact q
 frzs:=λb u xs q=>by rw [aj (aB q hn)]; exact q
 tbls:=λb ps q=>⟨#[],by rw [aj (aB q hn),q]; simp⟩
theorem Un.write (mu:J3 (H x)) (he:e=x\/H e=some (.own x)) (k:∀ b u,b≠e->h.get? b=some u->h'.get? b=some u) (heo:∃ u,h'.get? e=some u):Un fs ex H (upd H x o) h h':=by
 have hx:∀ b,H b=none->b≠x:=λb n z=>by subst z; rw [n] at mu; exact mu
 have hb:∀ b,H b=none->b≠e:=λb n z=>by
  subst z
  rcases he with r | r
  ·exact hx b n r
  ·rw [n] at r; cases r
 have hm:∀ b u,H b=some u->¬ J3 (some u)->b≠x:=λb u q nm z=>by subst z; rw [q] at mu; exact nm mu
 refine ⟨λb u q n _ _=>k b u (hb b n) q,λb u q n _ _=>⟨u.slots,k b u (hb b n) q⟩,λb u q n _=>by rw [aj (hx b n)]; exact n,λb u q _=>?_,
  λb xs q=>by rw [aj (hm b _ q λz=>z)]; exact q,λb u xs q=>by rw [aj (hm b _ q λz=>z)]; exact q,λb ps q=>⟨#[],by rw [aj (hm b _ q λz=>z),q]; simp⟩⟩
 by_cases hbe:b=e
 ·subst hbe; exact heo
 ·exact ⟨u,k b u hbe q⟩
end
noncomputable def LX (h:Heap) (H:Hp):List Addr:=(OD h.objs.size).filter λa=>(H a).isSome
noncomputable def nM (h:Heap) (H:Hp):Heap:=PySem.W.hideAll h (LX h H)
theorem wB (h) (H):(nM h H).objs.size=h.objs.size:=PySem.W.hideAll_size _ _
theorem yx (e:h.get? b=some o) (n:H b=none):(nM h H).get? b=some o :=
 PySem.W.hideAll_get _ e λhm=>by
  have q:(H b).isSome=true:=(Rt.mp hm).2
  rw [n] at q; simp at q
theorem CD (e:(nM h H).get? b=some o):h.get? b=some o/\H b=none:=by
 have e':h.get? b=some o:=PySem.W.of_hideAll (LX h H) e
 refine ⟨e',?_⟩
 cases q:H b with
 | none=>rfl
 | some x =>
  have hm:b∈LX h H:=Rt.mpr ⟨SM.mpr (N1 e'),by simp [q]⟩
  have z:(nM h H).get? b=none:=PySem.W.hideAll_none (LX h H) hm
  rw [z] at e; cases e
structure Mod (K:NR) (mg:Str->Option Value) (base:Heap):Prop where
 kin:K.In base
 glob:base.Ns mainGlobals mg
 blt:∃ mb,base.Ns builtinsNs mb/\∀ x:Str,x≠"__name__"->mb x=bootBuiltins x
 nolimit:base.NoLimit
structure Cx where
 prog:Program
 w:World
 K:NR
 mg:Str->Option Value
 base:Heap
 A:Around
 N:List Str
 s₀:Shared
 H₀:Hp
 env:Env
 outer:List Env
 stack:List Env
 ex:List Addr
 fn:Str->Bool
 calm:Bool
 pn:List (Addr×Obj)
 xe:Value->Shared->Prop
noncomputable def frs (l:List Env):List Addr:=l.filterMap (·.frame)
noncomputable abbrev Cx.fs (X:Cx):List Addr:=frs X.outer
def Mh (sc:Scope) (x:Str):Prop:=sc.names.lookup x=some .local\/sc.names.lookup x=some .cell\/sc.names.lookup x=some .free
def Loc (sc:Scope) (x:Str):Prop:=sc.names.lookup x=some .local\/sc.names.lookup x=some .cell
def Look (env:Env) (h:Heap) (m:Str->Option Value) (x:Str) (u:Value):Prop :=
 (env.kindOf x=some .local/\m x=some u)\/((env.kindOf x=some .cell\/env.kindOf x=some .free)/\∃ c,env.cells.lookup x=some c/\h.IsCell c (some u))
structure Cx.Ok (X:Cx):Prop where
 mod:Mod X.K X.mg X.base
 kind:X.env.scope.kind=.function
 glob:X.env.globals=mainGlobals
 blt:X.env.builtins=builtinsNs
 above:X.s₀.heap.objs.size<=X.env.locals
 inj:∀ x y c,X.env.cells.lookup x=some c->X.env.cells.lookup y=some c->x=y
 has:∀ x,(X.env.kindOf x=some .cell\/X.env.kindOf x=some .free)->∃ c,X.env.cells.lookup x=some c
 cab:∀ x c,X.fn x=true->X.env.cells.lookup x=some c->X.s₀.heap.objs.size<=c
 hd:X.calm=true->X.A.handled=none
 frames:X.A.frames=some X.stack
 stk:X.stack=X.outer\/(X.stack=X.env::X.outer/\X.env.frame=some X.env.locals)
 exf:∀ b∈X.ex,b≠X.env.locals/\∀ x c,X.env.cells.lookup x=some c->c≠b
 bs:∀ b o,X.base.get? b=some o->X.s₀.heap.get? b=some o/\X.H₀ b=none
 bsz:X.base.objs.size<=X.s₀.heap.objs.size
 noex:∀ b o,X.base.get? b=some o->b∉X.ex
 exfs:∀ b∈X.ex,b∉X.fs
 ji:X.s₀.heap.FunFrames X.base X.outer
 frf:∀ b∈X.fs,X.H₀ b=none
structure Inv (X:Cx) (aa:List (Addr×Obj)) (σ:List (Option V)) (H:Hp) (s:Shared):Prop where
 ok:X.Ok
 os:s.os=X.s₀.os
 bare:AllBare s.gens
 base:Un X.fs X.ex X.H₀ H X.s₀.heap s.heap
 loc:∃ m,s.heap.Ns X.env.locals m/\∀ (i:Nat) (x:Str) (v:V),X.N[i]?=some x->σ[i]?=some (some v)->Mh X.env.scope x->∃ u,RelV v u/\Look X.env s.heap m x u
 cell:∀ x c,X.env.cells.lookup x=some c->∃ v,s.heap.IsCell c v
 free:H X.env.locals=none
 freeC:∀ x c,X.env.cells.lookup x=some c->H c=none
 pin:∀ p∈X.pn++aa,s.heap.get? p.1=some p.2/\H p.1=none/\p.1≠X.env.locals/\p.1∉X.fs/\∀ v,p.2.data≠.cell v
 hok:jh X.prog X.w H s.heap
 len:σ.length=X.N.length
section
variable {X:Cx}
theorem Cx.Ok.Mi (ok:X.Ok) (e:X.base.get? b=some o):b∉X.fs:=λhb=>by
 have:=(ok.ji.mem hb).1
 rw [e] at this; cases this
theorem Inv.bs (I:Inv X aa σ H s):∀ b o,X.base.get? b=some o->s.heap.get? b=some o/\H b=none:=λb o e =>
 ⟨I.base.keep b o (I.ok.bs b o e).1 (I.ok.bs b o e).2 (I.ok.Mi e) (I.ok.noex b o e),I.base.free b o (I.ok.bs b o e).1 (I.ok.bs b o e).2 (I.ok.noex b o e)⟩
theorem Inv.bk (I:Inv X aa σ H s):∀ b o,X.base.get? b=some o->s.heap.get? b=some o:=λb o e=>(I.bs b o e).1
theorem Inv.mod (I:Inv X aa σ H s):Mod X.K X.mg X.base:=I.ok.mod
theorem Inv.nN (I:Inv X aa σ H s):X.K.In s.heap:=I.ok.mod.kin.keeps I.bk
theorem Inv.lt (I:Inv X aa σ H s):X.env.locals<s.heap.objs.size:=let ⟨_,hn,_⟩:=I.loc; hn.lt
theorem Inv.sz (I:Inv X aa σ H s):X.s₀.heap.objs.size<=s.heap.objs.size:=N3 I.ok.above (Qh I.lt)
theorem Inv.J4 (I:Inv X aa σ H s) (h:s.heap.objs.size<=a):a∉X.fs:=λhb=>by
 obtain ⟨_,o,ho,_⟩:=I.ok.ji.mem hb
 exact absurd (OJ (N1 ho) (N3 I.sz h)) (Pw _)
theorem Inv.Gr (I:Inv X aa σ H s):∀ x c,X.env.cells.lookup x=some c->c≠X.env.locals:=λx c e z=>by
 obtain ⟨v,o,ho,hd⟩:=I.cell x c e
 obtain ⟨m,⟨o',es,ep,ho',hd',_⟩,_⟩:=I.loc
 rw [z,ho'] at ho; cases ho; rw [hd'] at hd; cases hd
theorem Inv.ji (I:Inv X aa σ H s):s.heap.FunFrames X.base X.outer:=by
 have all:∀ (l:List Env),(∀ b∈frs l,b∈X.fs)->X.s₀.heap.FunFrames X.base l->s.heap.FunFrames X.base l:=by
  intro l
  induction l with
  | nil=>intro _ _; trivial
  | cons env r ih =>
   intro hs hl
   obtain ⟨hk,⟨L,o,hf,hn,ho,hd⟩,hr⟩:=hl
   have hL:L∈X.fs:=hs L (by unfold frs; rw [Pf,hf]; exact N2)
   obtain ⟨sl,e⟩:=I.base.slot L o ho (I.ok.frf L hL) hL λz=>I.ok.exfs L z hL
   exact ⟨hk,⟨L,_,hf,hn,e,hd⟩,ih (λb hb=>hs b (by unfold frs; rw [Pf,hf]; exact N6 _ hb)) hr⟩
 exact all X.outer (λ_ hb=>hb) I.ok.ji
theorem Inv.stack (I:Inv X aa σ H s):s.heap.FunFrames X.base X.stack:=by
 rcases I.ok.stk with e | ⟨e,hf⟩
 ·rw [e]; exact I.ji
 ·rw [e]
  obtain ⟨m,hn,_⟩:=I.loc
  refine .cons (by rw [I.ok.kind]; decide) hf hn ?_ I.ji
  exact Heap.get?_none_of_le (N3 I.ok.bsz I.ok.above)
theorem Inv.rP (I:Inv X aa σ H s):∀ b∈frs X.stack,b∈X.env.locals::X.fs:=λb hb=>by
 rcases I.ok.stk with e | ⟨e,hf⟩
 ·rw [e] at hb; exact N6 _ hb
 ·rw [e] at hb
  unfold frs at hb
  rw [Pf,hf] at hb
  exact hb
theorem Inv.t8 (I:Inv X aa σ H s):∀ b∈frs X.stack,H b=none:=λb hb=>by
 rcases N9.mp (I.rP b hb) with e | hb
 ·rw [e]; exact I.free
 ·obtain ⟨_,o,ho,_⟩:=I.ok.ji.mem hb
  exact I.base.free b o ho (I.ok.frf b hb) λz=>I.ok.exfs b z hb
theorem Inv.step {ch:List Addr} (I:Inv X aa σ H s)
 (hch:∀ b∈ch,(b∈X.ex\/X.s₀.heap.objs.size<=b)/\b≠X.env.locals/\(∀ x c,X.env.cells.lookup x=some c->c≠b)/\∀ p∈X.pn++aa,p.1≠b)
 (keep:∀ b o,b≠X.env.locals->b∉X.fs->b∉ch->s.heap.get? b=some o->H b=none->h'.get? b=some o)
 (slot:∀ b o,b≠X.env.locals->b∈X.fs->b∉ch->s.heap.get? b=some o->H b=none->∃ sl,h'.get? b=some { o with slots:=sl }) (free:∀ b o,b∉ch->s.heap.get? b=some o->H b=none->H' b=none)
 (there:∀ b o,b∉ch->s.heap.get? b=some o->∃ o',h'.get? b=some o')
 (tups:∀ b xs,H b=some (.tup xs)->H' b=some (.tup xs)) (frzs:∀ b o u,H b=some (.frz o u)->H' b=some (.frz o u)) (tbls:∀ b ps,H b=some (.tbl ps)->∃ more,H' b=some (.tbl (ps++more)))
 (ns:∀ m,s.heap.Ns X.env.locals m->h'.Ns X.env.locals m) (hok:jh X.prog X.w H' h') (hg:AllBare g') :
 Inv X aa σ H' { s with heap:=h',gens:=g',drawn:=d',toks:=t' }:=by
 have neL:∀ b o,X.s₀.heap.get? b=some o->b≠X.env.locals:=λb o e=>Ou (OJ (N1 e) I.ok.above)
 have neC:∀ b o,X.s₀.heap.get? b=some o->b∉X.ex->b∉ch:=λb o e hx hb=>by
  rcases (hch b hb).1 with z | z
  ·exact hx z
  ·exact absurd (OJ (N1 e) z) (Pw _)
 have cellK:∀ x c,X.env.cells.lookup x=some c->∀ v,s.heap.IsCell c v->h'.IsCell c v:=λx c e v ⟨o,ho,hd⟩=>by
  have nch:c∉ch:=λz=>(hch c z).2.2.1 x c e rfl
  by_cases hc:c∈X.fs
  ·obtain ⟨sl,q⟩:=slot c o (I.Gr x c e) hc nch ho (I.freeC x c e)
   exact ⟨_,q,hd⟩
  ·exact ⟨o,keep c o (I.Gr x c e) hc nch ho (I.freeC x c e),hd⟩
 refine ⟨I.ok,I.os,hg,⟨λb o e n hb hx=>?_,λb o e n hb hx=>?_,λb o e n hx=>?_,λb o e hx=>?_,λb xs e=>tups b xs (I.base.tups b xs e),λb o xs e=>frzs b o xs (I.base.frzs b o xs e),λb ps e=>?_⟩,?_,λx c e=>?_,?_,λx c e=>?_,λp hp=>?_,hok,I.len⟩
 ·exact keep b o (neL b o e) hb (neC b o e hx) (I.base.keep b o e n hb hx) (I.base.free b o e n hx)
 ·obtain ⟨sl,e1⟩:=I.base.slot b o e n hb hx
  obtain ⟨sl',e2⟩:=slot b _ (neL b o e) hb (neC b o e hx) e1 (I.base.free b o e n hx)
  exact ⟨sl',e2⟩
 ·obtain ⟨o',e1⟩:=I.base.there b o e hx
  exact free b o' (neC b o e hx) e1 (I.base.free b o e n hx)
 ·obtain ⟨o',e1⟩:=I.base.there b o e hx
  exact there b o' (neC b o e hx) e1
 ·obtain ⟨m1,e1⟩:=I.base.tbls b ps e
  obtain ⟨m2,e2⟩:=tbls b _ e1
  exact ⟨m1++m2,by rw [e2,Array.append_assoc]⟩
 ·obtain ⟨m,hn,hl⟩:=I.loc
  refine ⟨m,ns m hn,λi x v e1 e2 e3=>?_⟩
  obtain ⟨u,r,l⟩:=hl i x v e1 e2 e3
  refine ⟨u,r,?_⟩
  rcases l with l | ⟨k,c,e,z⟩
  ·exact .inl l
  ·exact .inr ⟨k,c,e,cellK x c e _ z⟩
 ·obtain ⟨v,z⟩:=I.cell x c e
  exact ⟨v,cellK x c e v z⟩
 ·obtain ⟨m,⟨o,_,_,ho,_⟩,_⟩:=I.loc
  exact free _ o (λz=>(hch _ z).2.1 rfl) ho I.free
 ·obtain ⟨v,o,ho,hd⟩:=I.cell x c e
  exact free c o (λz=>(hch c z).2.2.1 x c e rfl) ho (I.freeC x c e)
 ·obtain ⟨e,n,ne,nf,d⟩:=I.pin p hp
  have nch:p.1∉ch:=λz=>(hch p.1 z).2.2.2 p hp rfl
  exact ⟨keep p.1 p.2 ne nf nch e n,free p.1 p.2 nch e n,ne,nf,d⟩
theorem Inv.un (I:Inv X aa σ H s) (u:Un X.fs [] H H' s.heap h') (hok:jh X.prog X.w H' h'):Inv X aa σ H' { s with heap:=h',toks:=t' }:=by
 obtain ⟨m,⟨o,es,ep,ho,r⟩,_⟩:=id I.loc
 obtain ⟨sl,hL⟩:=u.any ho I.free (by simp)
 exact I.step (g':=s.gens) (d':=s.drawn) (ch:=[]) (λ_ z=>nomatch z) (λb o _ hb _ e n=>u.keep b o e n hb (by simp)) (λb o _ hb _ e n=>u.slot b o e n hb (by simp)) (λb o _ e n=>u.free b o e n (by simp)) (λb o _ e=>u.there b o e (by simp)) u.tups u.frzs u.tbls (λm' hm=>by
  obtain ⟨o',es',ep',ho',r'⟩:=hm
  rw [ho] at ho'; cases ho'
  exact ⟨_,es',ep',hL,r'⟩) hok I.bare
theorem Inv.call (I:Inv X aa σ H s) (u:Un (frs X.stack) ch H H' s.heap h') (hok:jh X.prog X.w H' h') (hg:AllBare g')
 (hch:∀ b∈ch,(b∈X.ex\/X.s₀.heap.objs.size<=b)/\b≠X.env.locals/\(∀ x c,X.env.cells.lookup x=some c->c≠b)/\∀ p∈X.pn++aa,p.1≠b) :
 Inv X aa σ H' { s with heap:=h',gens:=g',drawn:=d',toks:=t' }:=by
 obtain ⟨m,⟨o,es,ep,ho,r⟩,_⟩:=id I.loc
 obtain ⟨sl,hL⟩:=u.any ho I.free λz=>(hch _ z).2.1 rfl
 exact I.step (ch:=ch) hch (λb o hL hb hc e n=>u.keep b o e n (λz=>(N9.mp (I.rP b z)).elim hL hb) hc) (λb o _ _ hc e n=>u.any e n hc) (λb o hc e n=>u.free b o e n hc) (λb o hc e=>u.there b o e hc) u.tups u.frzs u.tbls (λm' hm=>by
  obtain ⟨o',es',ep',ho',r'⟩:=hm
  rw [ho] at ho'; cases ho'
  exact ⟨_,es',ep',hL,r'⟩) hok hg
theorem Inv.turned (I:Inv X aa σ H s) (k:∀ b o,b≠it->s.heap.get? b=some o->h'.get? b=some o) (hn:H it=none) (hL:it≠X.env.locals)
 (h1:it∈X.ex\/X.s₀.heap.objs.size<=it) (h2:∀ x c,X.env.cells.lookup x=some c->c≠it) (h3:∀ p∈X.pn++aa,p.1≠it):Inv X aa σ H { s with heap:=h',toks:=t' }:=by
 have nit:∀ b u,H b=some u->b≠it:=λb u e z=>by rw [z,hn] at e; cases e
 refine I.step (g':=s.gens) (d':=s.drawn) (ch:=[it]) (λb hb=>?_) (λb o _ _ hc e _=>k b o (λz=>hc (by simp [z])) e) (λb o _ _ hc e _=>⟨o.slots,k b o (λz=>hc (by simp [z])) e⟩) (λ_ _ _ _ n=>n)
  (λb o hc e=>⟨o,k b o (λz=>hc (by simp [z])) e⟩) (λ_ _ e=>e) (λ_ _ _ e=>e) (λb ps e=>⟨#[],by rw [e]; simp⟩) (λm hm=>?_) (λb u e=>?_) I.bare
 ·have e:b=it:=by simpa using hb
  subst e
  exact ⟨h1,hL,h2,h3⟩
 ·obtain ⟨o,es,ep,ho,r⟩:=hm
  exact ⟨o,es,ep,k _ o (Og hL) ho,r⟩
 ·refine (I.hok b u e).stay (λc v hc q=>k c v ?_ q) (λ_ q=>q) λ_ _ q=>q
  rcases hc with z | z
  ·rw [z]; exact nit b u e
  ·exact nit c _ z
theorem Inv.tok (I:Inv X aa σ H s) (t):Inv X aa σ H { s with toks:=t }:=I.un (h':=s.heap) (t':=t) Un.refl I.hok
theorem Inv.kept (I:Inv X aa σ H s) (k:∀ b u,s.heap.get? b=some u->h'.get? b=some u):Inv X aa σ H { s with heap:=h',toks:=t' }:=I.un (Un.kept k) (I.hok.kept k)
theorem Inv.laid (I:Inv X aa σ H s) (k:∀ b u,s.heap.get? b=some u->h'.get? b=some u) (hp:s.heap.objs.size<=a) (new:bq X.prog X.w (upd H a o) h' a o) :
 Inv X aa σ (upd H a o) { s with heap:=h',toks:=t' }:=I.un (Un.laid k hp (I.hok.fresh hp)) (I.hok.laid k hp new)
theorem Inv.write (I:Inv X aa σ H s) (mu:J3 (H x)) (he:e=x\/H e=some (.own x)) (k:∀ b u,b≠e->s.heap.get? b=some u->h'.get? b=some u) (heo:∃ u,h'.get? e=some u)
 (new:bq X.prog X.w (upd H x o) h' x o):Inv X aa σ (upd H x o) { s with heap:=h',toks:=t' }:=I.un (Un.write mu he k heo) (I.hok.write mu he k heo new)
theorem Inv.uc (I:Inv X aa σ H s) (h:∀ p∈pins',s.heap.get? p.1=some p.2/\H p.1=none/\p.1≠X.env.locals/\p.1∉X.fs/\∀ v,p.2.data≠.cell v):Inv X pins' σ H s :=
 ⟨I.ok,I.os,I.bare,I.base,I.loc,I.cell,I.free,I.freeC,λp hp=>(Om.mp hp).elim (λz=>I.pin p (Qq _ z)) (h p),I.hok,I.len⟩
theorem pI {N:List Str} (hN:N.Nodup) {i j:Nat} (a:N[i]?=some x) (b:N[j]?=some x):i=j:=by
 obtain ⟨h1,e1⟩:=N4.mp a
 obtain ⟨h2,e2⟩:=N4.mp b
 exact (List.getElem_inj hN).mp (e1.trans e2.symm)
theorem wC (I:Inv X aa σ H s) (hN:X.N.Nodup) (hi:X.N[i]?=some x) (hx:Loc X.env.scope x) (r:RelV v u)
 (h:∀ s',Inv X aa (σ.set i (some v)) H s'->(∃ a,Pb a s.heap s'.heap/\(a=X.env.locals\/X.env.cells.lookup x=some a))->Q () s') (hf:X.fn x=true\/X.env.scope.names.lookup x=some .local:=by first | exact .inl rfl | exact .inr rfl | assumption):wpAny M A (storeName X.env x u) Q E s:=by
 obtain ⟨m,hn,hl⟩:=id I.loc
 have hcls:(X.env.scope.kind == .class || (X.env.scope.kind == .module && X.env.locals != X.env.globals))=false:=by rw [I.ok.kind]; rfl
 have hiσ:i<σ.length:=by rw [I.len]; exact (N4.mp hi).1
 have Gr:=I.Gr
 have tracked:∀ {a:Addr} {h':Heap},(∃ o,s.heap.get? a=some o/\H a=none)->Pb a s.heap h'->jh X.prog X.w H h':=λ{a h'} ha hs b ob e=>by
  obtain ⟨_,_,hfree⟩:=ha
  refine (I.hok b ob e).stay (λc w' hc q=>(hs.2 c ?_).trans q) (λ_ q=>q) λ_ _ q=>q
  rintro rfl
  rcases hc with rfl | hc
  ·rw [hfree] at e; cases e
  ·rw [hfree] at hc; cases hc
 rcases hx with hk | hk
 ·refine wpAny_storeName_local hk hn (λh' hn' hs=>?_) hcls
  obtain ⟨oL,_,_,hoL,_⟩:=id hn
  refine h _ ⟨I.ok,I.os,I.bare,⟨λb o e n hb hx=>?_,λb o e n hb hx=>?_,I.base.free,λb o e hx=>?_,I.base.tups,I.base.frzs,I.base.tbls⟩,⟨_,hn',λj y v' e1 e2 e3=>?_⟩,λy c e=>?_,I.free,I.freeC,λp hp=>?_,tracked ⟨oL,hoL,I.free⟩ hs,by simpa using I.len⟩ ⟨_,hs,.inl rfl⟩
  ·exact (hs.2 b (Ou (OJ (N1 e) I.ok.above))).trans (I.base.keep b o e n hb hx)
  ·obtain ⟨sl,e1⟩:=I.base.slot b o e n hb hx
   exact ⟨sl,(hs.2 b (Ou (OJ (N1 e) I.ok.above))).trans e1⟩
  ·obtain ⟨o',e1⟩:=I.base.there b o e hx
   exact ⟨o',(hs.2 b (Ou (OJ (N1 e) I.ok.above))).trans e1⟩
  ·by_cases hj:j=i
   ·subst hj
    rw [hi] at e1; cases e1
    rw [O2 hiσ] at e2
    cases e2
    exact ⟨u,r,.inl ⟨hk,by simp⟩⟩
   ·rw [O4 (Og hj)] at e2
    obtain ⟨u',r',q⟩:=hl j y v' e1 e2 e3
    refine ⟨u',r',?_⟩
    rcases q with ⟨k,e⟩ | ⟨k,c,e,z⟩
    ·refine .inl ⟨k,?_⟩
     have:y≠x:=λe=>hj (pI hN e1 (e ▸ hi))
     simp [this,e]
    ·exact .inr ⟨k,c,e,z.sameBut hs (Gr y c e)⟩
  ·obtain ⟨w',z⟩:=I.cell y c e
   exact ⟨w',z.sameBut hs (Gr y c e)⟩
  ·obtain ⟨e,n,ne,nf,d⟩:=I.pin p hp
   exact ⟨(hs.2 p.1 ne).trans e,n,ne,nf,d⟩
 ·have hfn:X.fn x=true:=by
   rcases hf with z | z
   ·exact z
   ·rw [z] at hk; cases hk
  obtain ⟨c,hc⟩:=I.ok.has x (.inl hk)
  obtain ⟨w',z⟩:=I.cell x c hc
  refine wpAny_storeName_cell I.ok.kind hk hc z (λh' hc' hs=>?_)
  obtain ⟨oc,hoc,hocd⟩:=id z
  refine h { s with heap:=h' } ⟨I.ok,I.os,I.bare,⟨λb o e n hb hx=>?_,λb o e n hb hx=>?_,I.base.free,λb o e hx=>?_,I.base.tups,I.base.frzs,I.base.tbls⟩,⟨m,hn.sameBut hs (Og (Gr x c hc)),λj y v' e1 e2 e3=>?_⟩,λy c' e=>?_,I.free,I.freeC,λp hp=>?_,tracked ⟨oc,hoc,I.freeC x c hc⟩ hs,by simpa using I.len⟩ ⟨c,hs,.inr hc⟩
  ·exact (hs.2 b (Ou (OJ (N1 e) (I.ok.cab x c hfn hc)))).trans (I.base.keep b o e n hb hx)
  ·obtain ⟨sl,e1⟩:=I.base.slot b o e n hb hx
   exact ⟨sl,(hs.2 b (Ou (OJ (N1 e) (I.ok.cab x c hfn hc)))).trans e1⟩
  ·obtain ⟨o',e1⟩:=I.base.there b o e hx
   exact ⟨o',(hs.2 b (Ou (OJ (N1 e) (I.ok.cab x c hfn hc)))).trans e1⟩
  ·by_cases hj:j=i
   ·subst hj
    rw [hi] at e1; cases e1
    rw [O2 hiσ] at e2
    cases e2
    exact ⟨u,r,.inr ⟨.inl hk,c,hc,hc'⟩⟩
   ·rw [O4 (Og hj)] at e2
    obtain ⟨u',r',q⟩:=hl j y v' e1 e2 e3
    refine ⟨u',r',?_⟩
    rcases q with q | ⟨k,c',e,z'⟩
    ·exact .inl q
    ·refine .inr ⟨k,c',e,z'.sameBut hs ?_⟩
     rintro rfl
     exact hj (pI hN e1 (I.ok.inj _ _ _ e hc ▸ hi))
  ·by_cases hcc:c'=c
   ·subst hcc; exact ⟨_,hc'⟩
   ·obtain ⟨w2,z2⟩:=I.cell y c' e
    exact ⟨w2,z2.sameBut hs hcc⟩
  ·obtain ⟨e,n,ne,nf,d⟩:=I.pin p hp
   refine ⟨(hs.2 p.1 ?_).trans e,n,ne,nf,d⟩
   intro q
   rw [q,hoc] at e
   have q':oc=p.2:=Pr e
   exact d w' (by rw [<- q']; exact hocd)
theorem kr (I:Inv X aa σ H s) (hN:X.N.Nodup) (hi:X.N[i]?=some x) (hx:Loc X.env.scope x) (r:RelV v u)
 (h:∀ s',Inv X aa (σ.set i (some v)) H s'->Q () s') (hf:X.fn x=true\/X.env.scope.names.lookup x=some .local:=by first | exact .inl rfl | exact .inr rfl | assumption):wpAny M A (storeName X.env x u) Q E s :=
 wC I hN hi hx r (λs' I' _=>h s' I') hf
theorem Inv.Ff (I:Inv X aa σ H s) (ho:s'.os=s.os) (u:Un (frs X.stack) ch H H' s.heap s'.heap) (hok:jh X.prog X.w H' s'.heap) (hg:AllBare s'.gens)
 (hch:∀ b∈ch,(b∈X.ex\/X.s₀.heap.objs.size<=b)/\b≠X.env.locals/\(∀ x c,X.env.cells.lookup x=some c->c≠b)/\∀ p∈X.pn++aa,p.1≠b):Inv X aa σ H' s':=by
 obtain ⟨h',g',d',t',o'⟩:=s'
 have e:o'=s.os:=ho
 subst e
 exact I.call (g':=g') (t':=t') (d':=d') u hok hg hch
end
noncomputable abbrev XK:=Value->Option Addr->Hp->Prop
noncomputable abbrev St:=List (Option V)
noncomputable abbrev VK:=V->Hp->Prop
noncomputable abbrev TE:=St->Hp->VK->Prop
noncomputable abbrev TT:=St->Hp->(Bool->Hp->Prop)->Prop
noncomputable abbrev TA:=St->Hp->(List V->Hp->Prop)->Prop
structure Ends where
 nx:St->Hp->Prop
 rt:VK
 bk:St->Hp->Prop:=λ_ _=>False
 ct:St->Hp->Prop:=λ_ _=>False
noncomputable abbrev TS:=Ends->St->Hp->Prop
def EP (X:Cx) (aa:List (Addr×Obj)) (σ:St) (Q:VK) (u:Value) (s':Shared):Prop:=∃ v H',Inv X aa σ H' s'/\RelV v u/\Q v H'
def TP (X:Cx) (aa:List (Addr×Obj)) (σ:St) (Q:Bool->Hp->Prop) (b:Bool) (s':Shared):Prop:=∃ H',Inv X aa σ H' s'/\Q b H'
def AP (X:Cx) (aa:List (Addr×Obj)) (σ:St) (Q:List V->Hp->Prop) (us:List Value) (s':Shared):Prop:=∃ vs H',Inv X aa σ H' s'/\Vals vs us/\Q vs H'
def SP (X:Cx) (aa:List (Addr×Obj)) (D:Ends) (f:Flow) (s':Shared):Prop :=
 match f with
 | .next=>∃ σ' H',Inv X aa σ' H' s'/\D.nx σ' H'
 | .brk=>∃ σ' H',Inv X aa σ' H' s'/\D.bk σ' H'
 | .cont=>∃ σ' H',Inv X aa σ' H' s'/\D.ct σ' H'
 | .ret u=>∃ v σ' H',Inv X aa σ' H' s'/\RelV v u/\D.rt v H'
def PE (X:Cx) (e:Expr) (t:TE):Prop :=
 ∀ (aa:List (Addr×Obj)) (s:Shared) (σ:St) (H:Hp) (Q:VK),Inv X aa σ H s->t σ H Q->wpAny (model X.prog X.w) X.A (eval e X.env) (EP X aa σ Q) X.xe s
def PT (X:Cx) (e:Expr) (t:TT):Prop :=
 ∀ (aa:List (Addr×Obj)) (s:Shared) (σ:St) (H:Hp) (Q:Bool->Hp->Prop),Inv X aa σ H s->t σ H Q->wpAny (model X.prog X.w) X.A (isTrue e X.env (eval e X.env)) (TP X aa σ Q) X.xe s
def PW (X:Cx) (e:Expr) (t:TT):Prop :=
 ∀ (whole:Sem Value) (aa:List (Addr×Obj)) (s:Shared) (σ:St) (H:Hp) (Q:Bool->Hp->Prop),Inv X aa σ H s->t σ H Q->wpAny (model X.prog X.w) X.A (isTrue e X.env whole) (TP X aa σ Q) X.xe s
def PA (X:Cx) (es:List Expr) (t:TA):Prop :=
 ∀ (pos:Pos) (aa:List (Addr×Obj)) (s:Shared) (σ:St) (H:Hp) (Q:List V->Hp->Prop),Inv X aa σ H s->t σ H Q->wpAny (model X.prog X.w) X.A (spliced (backTo pos (starEach es X.env))) (AP X aa σ Q) X.xe s
def PS (X:Cx) (st:Stmt) (t:TS):Prop :=
 ∀ (aa:List (Addr×Obj)) (s:Shared) (σ:St) (H:Hp) (D:Ends),Inv X aa σ H s->t D σ H->wpAny (model X.prog X.w) X.A (exec st X.env) (SP X aa D) X.xe s
def rM (X:Cx) (st:List Stmt) (t:TS):Prop :=
 ∀ (aa:List (Addr×Obj)) (s:Shared) (σ:St) (H:Hp) (D:Ends),Inv X aa σ H s->t D σ H->wpAny (model X.prog X.w) X.A (execs st X.env) (SP X aa D) X.xe s
theorem bD (h:wpAny M A t Q E s) (hQ:∀ a s,Q a s->Q' a s):wpAny M A t Q' E s:=OI h hQ λ_ _ x=>x
section
noncomputable def J5 (i:Nat):TE:=λσ H Q=>∃ v,σ[i]?=some (some v)/\Q v H
noncomputable def tC (v:V):TE:=λ_ H Q=>Q v H
theorem rQ (hN:X.N[i]?=some x) (hv:Mh X.env.scope x) (hd:(x == ("__debug__":Str))=false:=by decide) (hcd:(x == ("__classdict__":Str))=false:=by decide):PE X (.Name x pos) (J5 i):=by
 intro aa s σ H Q I h
 obtain ⟨v,e,h⟩:=h
 obtain ⟨m,hn,hl⟩:=I.loc
 obtain ⟨u,r,l⟩:=hl i x v hN e hv
 have fin:EP X aa σ Q u s:=⟨v,H,I,r,h⟩
 rcases l with ⟨hk,hm⟩ | ⟨hk,c,hc,hcell⟩
 ·exact wpAny_Name (wpAny_loadName_local I.ok.kind hk hn hm fin) hd
 ·rcases hk with hk | hk
  ·exact wpAny_Name (wpAny_loadName_cell I.ok.kind hk hc hcell fin) hd
  ·exact wpAny_Name (wpAny_loadName_free I.ok.kind hk hc hcell fin hcd) hd
theorem nO {i j pos}:PE X (.Constant (.int i) j pos) (tC (.int i)):=λ_ _ _ H _ I h=>wpAny_Constant_int ⟨.int i,H,I.tok _,⟨_,rfl⟩,h⟩
theorem Fg {b j pos}:PE X (.Constant (.bool b) j pos) (tC (.bl b)):=λ_ _ _ H _ I h=>Constant_bool ⟨.bl b,H,I,rfl,h⟩
def Gl (X:Cx) (x:Str):Prop:=X.env.kindOf x=some .globalImplicit
theorem iI (I:Inv X aa σ H s) (hg:Gl X x) (hm:X.mg x=some u) (h:Q u s)
 (hd:(x == ("__debug__":Str))=false:=by decide):wpAny (model X.prog X.w) X.A (eval (.Name x pos) X.env) Q E s :=
 Calls.Name_function_global I.ok.kind hg (Calls.loadGlobal_global (by rw [I.ok.glob]; exact I.mod.glob.keeps I.bk) hm h) hd
theorem dR (I:Inv X aa σ H s) (hg:Gl X x) (hm:X.mg x=none) (hv:bootBuiltins x=some u) (h:Q u s)
 (hn:x≠"__name__":=by decide) (hd:(x == ("__debug__":Str))=false:=by decide):wpAny (model X.prog X.w) X.A (eval (.Name x pos) X.env) Q E s:=by
 obtain ⟨mb,h1,h2⟩:=I.mod.blt
 exact Calls.Name_function_global I.ok.kind hg (Calls.loadGlobal_builtin (by rw [I.ok.glob]; exact I.mod.glob.keeps I.bk) hm (by rw [I.ok.blt]; exact h1.keeps I.bk) ((h2 x hn).trans hv) h) hd
theorem ud (hg:Gl X x) (hm:X.mg x=some u) (r:RelV v u) (hd:(x == ("__debug__":Str))=false:=by decide):PE X (.Name x pos) (tC v) :=
 λ_ _ _ H _ I h=>iI I hg hm ⟨v,H,I,r,h⟩ hd
def PC (X:Cx) (op:CmpOp) (a b:Expr) (t:TE):Prop :=
 ∀ (aa:List (Addr×Obj)) (s:Shared) (σ:St) (H:Hp) (Q:VK),Inv X aa σ H s->t σ H Q ->
  wpAny (model X.prog X.w) X.A (eval a X.env) (λv s₁=>wpAny (model X.prog X.w) X.A (eval b X.env) (λu s₂=>wpAny (model X.prog X.w) X.A (compareOp op v u) (EP X aa σ Q) X.xe s₂) X.xe s₁) X.xe s
noncomputable def tB (t:TE):TT:=λσ H Q=>t σ H λx H1=>∃ c,x=.bl c/\Q c H1
theorem Gs (h:PC X op a b t) (h1:behindInMarks op b=false:=by first | exact nobehind _ (by decide) (by decide) | rfl):PT X (.Compare a [op] [b] pos) (tB t):=by
 intro aa s σ H Q I hw
 refine wpAny_isTrue_Compare1 (bD (h aa s σ H _ I hw) λv s1 h1=>bD h1 λu s2 h2=>bD h2 λc s3 ⟨x,H1,I1,r1,q1⟩=>?_) h1
 obtain ⟨d,rfl,q⟩:=q1
 cases r1
 exact Rm ⟨H1,I1,q⟩
theorem Gu (h:PE X e t) (he:∀ whole,isTrue e X.env whole=(do let v <- whole; standAt e.pos; holding [v] (truthy v)):=by intro _; rfl):PT X e (tB t):=by
 intro aa s σ H Q I hw
 refine isTrue_plain (bD (h aa s σ H _ I hw) λv s1 ⟨x,H1,I1,r1,q1⟩=>?_) (he _)
 obtain ⟨d,rfl,q⟩:=q1
 cases r1
 exact Rm ⟨H1,I1,q⟩
variable {rest:List Expr}
noncomputable def Mj (t u:TT):TT:=λσ H Q=>t σ H λc H1=>if c=true then u σ H1 Q else Q false H1
noncomputable def Nz (t u:TT):TT:=λσ H Q=>t σ H λc H1=>if c=true then Q true H1 else u σ H1 Q
noncomputable def Ml (t:TT):TT:=λσ H Q=>t σ H λc H1=>Q (!c) H1
theorem pw_and1 (ha:PT X a tA):PW X (.BoolOp .And [a] pos) tA:=by
 intro wh aa s σ H Q I h
 refine isTrue_and (bD (ha aa s σ H Q I h) λc s1 e=>?_)
 cases c with
 | true=>exact isTrue_and_nil e
 | false=>exact e
theorem pw_or1 (ha:PT X a tA):PW X (.BoolOp .Or [a] pos) tA:=by
 intro wh aa s σ H Q I h
 refine isTrue_or (bD (ha aa s σ H Q I h) λc s1 e=>?_)
 cases c with
 | false=>exact isTrue_or_nil e
 | true=>exact e
theorem pw_and (ha:PT X a tA) (hb:PW X (.BoolOp .And (b::rest) pos) tB'):PW X (.BoolOp .And (a::b::rest) pos) (Mj tA tB'):=by
 intro wh aa s σ H Q I h
 refine isTrue_and (bD (ha aa s σ H _ I h) λc s1 ⟨H1,I1,q1⟩=>?_)
 cases c with
 | true=>exact hb wh aa s1 σ H1 Q I1 q1
 | false=>exact ⟨H1,I1,q1⟩
theorem pw_or (ha:PT X a tA) (hb:PW X (.BoolOp .Or (b::rest) pos) tB'):PW X (.BoolOp .Or (a::b::rest) pos) (Nz tA tB'):=by
 intro wh aa s σ H Q I h
 refine isTrue_or (bD (ha aa s σ H _ I h) λc s1 ⟨H1,I1,q1⟩=>?_)
 cases c with
 | true=>exact ⟨H1,I1,q1⟩
 | false=>exact hb wh aa s1 σ H1 Q I1 q1
theorem Gv (ha:PT X a tA):PT X (.UnaryOp .Not a pos) (Ml tA):=by
 intro aa s σ H Q I h
 exact isTrue_not (ha aa s σ H (λc H1=>Q (!c) H1) I h)
noncomputable def J6 (ta tb:TE):TE:=λσ H Q=>ta σ H λx H1=>∃ c,x=.bl c/\if c=true then tb σ H1 Q else Q (.bl false) H1
theorem Gw {op} (h:PE X a t):PE X (.BoolOp op [a] pos) t:=λaa s σ H Q I hw=>BoolOp_one (h aa s σ H Q I hw)
theorem Gx (ha:PE X a ta) (hb:PE X (.BoolOp .And (b::rest) pos) tb):PE X (.BoolOp .And (a::b::rest) pos) (J6 ta tb):=by
 intro aa s σ H Q I h
 refine BoolOp_and (bD (ha aa s σ H _ I h) λv s1 ⟨x,H1,I1,r1,q1⟩=>?_)
 obtain ⟨c,rfl,q1⟩:=q1
 cases r1
 refine Rm ?_
 cases c with
 | true=>exact hb aa s1 σ H1 Q I1 q1
 | false=>exact ⟨.bl false,H1,I1,rfl,q1⟩
noncomputable def NB (t:TT) (ta tb:TE):TE:=λσ H Q=>t σ H λc H1=>if c=true then ta σ H1 Q else tb σ H1 Q
theorem yy (hc:PT X c tA) (ha:PE X a ta) (hb:PE X b tb):PE X (.IfExp c a b pos) (NB tA ta tb):=by
 intro aa s σ H Q I h
 refine wpAny_IfExp (bD (hc aa s σ H _ I h) λd s1 ⟨H1,I1,q1⟩=>?_)
 cases d with
 | true=>exact ha aa s1 σ H1 Q I1 q1
 | false=>exact hb aa s1 σ H1 Q I1 q1
end
def gI (K:NR) (H:Hp) (a:Addr) (xs:List V):Prop :=
 Rd H a (.lst xs) \/
  ∃ (o:Obj) (its:Array Value) (n:Nat),K.lookup a=some o/\o.cls=.type "list"/\o.dict=none/\o.data=.seq its n/\its.size<=sizeLine/\Vals xs its.toList
def dB (K:NR) (H:Hp) (a:Addr) (xs:List V):Prop :=
 Rd H a (.tup xs) \/
  ∃ (o:Obj) (its:Array Value) (n:Nat),K.lookup a=some o/\o.cls=.type "tuple"/\o.data=.seq its n/\its.size<=sizeLine/\Vals xs its.toList
noncomputable def Mm:Value->Option V
 | .none=>some .non
 | .bool b=>some (.bl b)
 | .int i _=>some (.int i)
 | .str x _=>some (.str x)
 | .bytes b _=>some (.byt b)
 | .float b _=>some (.flt b)
 | .ref a=>some (.ref a)
 | .type n=>some (.ty n)
 | _=>none
theorem RelV.abs (r:RelV x u):Mm u=some x:=by
 cases x with
 | non=>cases r; rfl
 | bl _=>cases r; rfl
 | int _=>obtain ⟨t,rfl⟩:=r; rfl
 | str _=>obtain ⟨t,rfl⟩:=r; rfl
 | byt _=>obtain ⟨t,rfl⟩:=r; rfl
 | flt _=>obtain ⟨t,rfl⟩:=r; rfl
 | ref _=>cases r; rfl
 | ty _=>cases r; rfl
theorem RelV.inj (r:RelV x u) (q:RelV y u):x=y:=Pr (r.abs.symm.trans q.abs)
theorem Vals.inj:∀ {xs ys:List V} {us:List Value},Vals xs us->Vals ys us->xs=ys
 | _,_,_,.nil,.nil=>rfl
 | _,_,_,.cons r t,.cons r' t'=>by rw [r.inj r',Vals.inj t t']
theorem Inv.list (I:Inv X aa σ H s) (h:gI X.K H a xs):∃ its:List Value,Vals xs its/\PlainL s.heap a its.toArray/\xs.length<=sizeLine:=by
 rcases h with h | ⟨o,its,n,hk,hc,hd,hs,hz,r⟩
 ·obtain ⟨z,its,n,r,e⟩:=h.ok I.hok
  exact ⟨its,r,⟨_,n,e,rfl,rfl,rfl⟩,z⟩
 ·refine ⟨its.toList,r,⟨o,n,I.nN a o hk,hc,hd,by simpa using hs⟩,?_⟩
  have e:=r.length
  simp only [OM] at e
  lia
theorem Inv.tuple (I:Inv X aa σ H s) (h:dB X.K H a xs):∃ its:List Value,Vals xs its/\IsTup s.heap a its.toArray/\xs.length<=sizeLine:=by
 rcases h with h | ⟨o,its,n,hk,hc,hs,hz,r⟩
 ·obtain ⟨z,its,r,p⟩:=h.ok I.hok
  exact ⟨its,r,p,z⟩
 ·refine ⟨its.toList,r,⟨o,I.nN a o hk,hc,n,by simpa using hs⟩,?_⟩
  have e:=r.length
  simp only [OM] at e
  lia
theorem Inv.pJ (I:Inv X aa σ H s) (h:gI X.K H a xs) (h':gI X.K H a ys):xs=ys:=by
 obtain ⟨its,r,⟨o,n,e,_,_,d⟩,_⟩:=I.list h
 obtain ⟨its',r',⟨o',n',e',_,_,d'⟩,_⟩:=I.list h'
 rw [e] at e'; cases e'
 rw [d] at d'
 injection d' with d1 _
 have:its=its':=by simpa using congrArg Array.toList d1
 subst this
 exact r.inj r'
theorem Inv.jj (I:Inv X aa σ H s) (h:dB X.K H a xs) (h':dB X.K H a ys):xs=ys:=by
 obtain ⟨its,r,⟨o,e,_,n,d⟩,_⟩:=I.tuple h
 obtain ⟨its',r',⟨o',e',_,n',d'⟩,_⟩:=I.tuple h'
 rw [e] at e'; cases e'
 rw [d] at d'
 injection d' with d1 _
 have:its=its':=by simpa using congrArg Array.toList d1
 subst this
 exact r.inj r'
noncomputable abbrev Cx.lU (X:Cx) (E:Value->Shared->Prop):Cx:={ X with xe:=E }
noncomputable abbrev Cx.Fi (X:Cx):Cx:=X.lU λ_ _=>False
theorem Cx.Ok.lU {X:Cx} (ok:X.Ok) (E):(X.lU E).Ok :=
 ⟨ok.mod,ok.kind,ok.glob,ok.blt,ok.above,ok.inj,ok.has,ok.cab,ok.hd,ok.frames,ok.stk,ok.exf,ok.bs,ok.bsz,ok.noex,ok.exfs,ok.ji,ok.frf⟩
theorem Cx.Ok.f6 {X:Cx} (ok:(X.lU E).Ok):X.Ok :=
 ⟨ok.mod,ok.kind,ok.glob,ok.blt,ok.above,ok.inj,ok.has,ok.cab,ok.hd,ok.frames,ok.stk,ok.exf,ok.bs,ok.bsz,ok.noex,ok.exfs,ok.ji,ok.frf⟩
theorem Inv.lU (I:Inv X aa σ H s) (E):Inv (X.lU E) aa σ H s:=⟨I.ok.lU E,I.os,I.bare,I.base,I.loc,I.cell,I.free,I.freeC,I.pin,I.hok,I.len⟩
theorem Inv.f6 (I:Inv (X.lU E) aa σ H s):Inv X aa σ H s:=⟨I.ok.f6,I.os,I.bare,I.base,I.loc,I.cell,I.free,I.freeC,I.pin,I.hok,I.len⟩
theorem SP.f6 (h:SP (X.lU E) aa D f s'):SP X aa D f s':=by
 cases f with
 | next=>obtain ⟨σ',H',I,q⟩:=h; exact ⟨σ',H',I.f6,q⟩
 | brk=>obtain ⟨σ',H',I,q⟩:=h; exact ⟨σ',H',I.f6,q⟩
 | cont=>obtain ⟨σ',H',I,q⟩:=h; exact ⟨σ',H',I.f6,q⟩
 | ret u=>obtain ⟨v,σ',H',I,r,q⟩:=h; exact ⟨v,σ',H',I.f6,r,q⟩
theorem rM.Fi {st:List Stmt} (h:rM X.Fi st t):rM X st t:=λaa s σ H D I hw =>
 OI (h aa s σ H D (I.lU _) hw) (λ_ _ q=>q.f6) λ_ _ z=>OT z
section
variable {st:Stmt} {rest:List Stmt}
noncomputable def J7:TS:=λD σ H=>D.nx σ H
noncomputable def Mn (t u:TS):TS:=λD σ H=>t { D with nx:=u D } σ H
theorem CF:rM X [] J7:=λ_ _ σ H _ I h=>wpAny_execs_nil ⟨σ,H,I,h⟩
theorem yz (h1:PS X st t) (h2:rM X rest u):rM X (st::rest) (Mn t u):=by
 intro aa s σ H D I h
 refine wpAny_execs_cons (bD (h1 aa s σ H { D with nx:=u D } I h) λf s1 q=>?_)
 cases f with
 | next =>
  obtain ⟨σ',H',I',q⟩:=q
  exact h2 aa s1 σ' H' D I' q
 | ret v=>exact q
 | brk=>exact q
 | cont=>exact q
theorem Inv.quiet (I:Inv X aa σ H s):interactive X.env=false:=by simp [interactive,I.ok.kind]
noncomputable def J8 (te:TE):TS:=λD σ H=>te σ H λ_ H1=>D.nx σ H1
theorem jW (he:PE X e te) (hs:swapsWith e none pos.line X.env=pure false:=by rfl):PS X (.Expr e pos) (J8 te):=by
 intro aa s σ H D I h
 exact wpAny_Expr_any (bD (he aa s σ H _ I h) λv s1 ⟨x,H1,I1,r1,q1⟩=>⟨σ,H1,I1,q1⟩) I.quiet hs
noncomputable def Mp (te:TE):TS:=λD σ H=>te σ H D.rt
theorem rR (he:PE X e te):PS X (.Return (some e) pos) (Mp te):=by
 intro aa s σ H D I h
 exact wpAny_Return_some (bD (he aa s σ H _ I h) λv s1 ⟨x,H1,I1,r1,q1⟩=>⟨x,σ,H1,I1,r1,q1⟩)
noncomputable def Mq (c:TT) (t u:TS):TS:=λD σ H=>c σ H λb H1=>if b=true then t D σ H1 else u D σ H1
theorem J9 (hc:PT X c tc) (ha:rM X a t) (hb:rM X b u):PS X (.If c a b pos) (Mq tc t u):=by
 intro aa s σ H D I h
 refine wpAny_If (bD (hc aa s σ H _ I h) λd s1 ⟨H1,I1,q1⟩=>?_)
 cases d with
 | true=>exact ha aa s1 σ H1 D I1 q1
 | false=>exact hb aa s1 σ H1 D I1 q1
end
noncomputable abbrev TG:=V->St->Hp->(St->Hp->Prop)->Prop
noncomputable abbrev Ka:=List V->St->Hp->(St->Hp->Prop)->Prop
def PG (X:Cx) (target:Expr) (t:TG):Prop :=
 ∀ (aa:List (Addr×Obj)) (s:Shared) (σ:St) (H:Hp) (v:V) (u:Value) (Q:St->Hp->Prop),Inv X aa σ H s->RelV v u->t v σ H Q ->
  wpAny (model X.prog X.w) X.A (assign target X.env u) (λ_ s'=>∃ σ' H',Inv X aa σ' H' s'/\Q σ' H') X.xe s
def JQ (X:Cx) (ts:List Expr) (t:Ka):Prop :=
 ∀ (aa:List (Addr×Obj)) (s:Shared) (σ:St) (H:Hp) (vs:List V) (us:List Value) (Q:St->Hp->Prop),Inv X aa σ H s->Vals vs us->t vs σ H Q ->
  wpAny (model X.prog X.w) X.A (assignInOrder ((assignEach ts X.env).map (·.2)) us) (λ_ s'=>∃ σ' H',Inv X aa σ' H' s'/\Q σ' H') X.xe s
noncomputable abbrev Gy:=V->V->V->Hp->(Hp->Prop)->Prop
def Kc (X:Cx) (t:Gy):Prop :=
 ∀ (aa:List (Addr×Obj)) (s:Shared) (σ:St) (H:Hp) (o i v:V) (ov iv u:Value) (Q:Hp->Prop),Inv X aa σ H s->RelV o ov->RelV i iv->RelV v u->t o i v H Q ->
  wpAny (model X.prog X.w) X.A (setItem ov iv u) (λ_ s'=>∃ H',Inv X aa σ H' s'/\Q H') X.xe s
noncomputable abbrev Nk:=V->V->Hp->VK->Prop
def Nl (X:Cx) (op:Operator) (t:Nk):Prop :=
 ∀ (aa:List (Addr×Obj)) (s:Shared) (σ:St) (H:Hp) (x y:V) (v u:Value) (Q:VK),Inv X aa σ H s->RelV x v->RelV y u->t x y H Q ->
  wpAny (model X.prog X.w) X.A (inplaceOp op v u) (EP X aa σ Q) X.xe s
noncomputable def Fj (i:Nat):TG:=λv σ H Q=>Q (σ.set i (some v)) H
theorem jX (hN:X.N.Nodup) (hi:X.N[i]?=some x) (hx:Loc X.env.scope x) (hf:X.fn x=true\/X.env.scope.names.lookup x=some .local:=by first | exact .inl rfl | exact .inr rfl | assumption):PG X (.Name x pos) (Fj i):=by
 intro aa s σ H v u Q I r h
 exact wpAny_assign_Name (kr I hN hi hx r (λs' I'=>⟨_,H,I',h⟩) hf)
noncomputable def Mr:Ka:=λvs σ H Q=>vs=[]/\Q σ H
noncomputable def Kd (t:TG) (u:Ka):Ka:=λvs σ H Q=>∃ v r,vs=v::r/\t v σ H λσ' H'=>u r σ' H' Q
theorem CG:JQ X [] Mr:=by
 intro aa s σ H vs us Q I r h
 obtain ⟨e,h⟩:=h
 subst e
 cases r
 exact assignInOrder_nil ⟨σ,H,I,h⟩
theorem yC (h1:PG X e t) (h2:JQ X es u)
 (hs:(assignEach (e::es) X.env).map (·.2)=assign e X.env::(assignEach es X.env).map (·.2):=by rfl):JQ X (e::es) (Kd t u):=by
 intro aa s σ H vs us Q I r h
 obtain ⟨v,vr,e1,h⟩:=h
 subst e1
 cases r with
 | cons r rr =>
  rw [hs]
  refine assignInOrder_cons (bD (h1 aa s σ H _ _ _ I r h) λ_ s1 ⟨σ1,H1,I1,q1⟩=>?_)
  exact h2 aa s1 σ1 H1 _ _ Q I1 rr q1
noncomputable def Mt (K:NR) (n:Nat) (t:Ka):TG:=λv σ H Q=>∃ a xs,v=.ref a/\dB K H a xs/\xs.length=n/\t xs σ H Q
theorem Gz (hc:X.calm=true) (h:JQ X es t)
 (hn:(assignEach es X.env).length=n:=by rfl) (hst:(assignEach es X.env).findIdx? (·.1)=none:=by rfl):PG X (.Tuple es k pos) (Mt X.K n t):=by
 intro aa s σ H v u Q I r hw
 obtain ⟨a,xs,e1,hq,hl,hw⟩:=hw
 subst e1
 cases r
 obtain ⟨its,rv,ht,hz⟩:=I.tuple hq
 refine assign_Tuple_tuple (I.ok.hd hc) ht (by simp [hn,<- hl,rv.length]) hst λh' hx=>?_
 have I1:Inv X aa σ H { s with heap:=h' }:=I.kept (t':=s.toks) λb o e=>hx b o (Ou (N1 e)) e
 exact h aa _ σ H xs _ Q I1 (by simpa using rv) hw
noncomputable def Mu (to ti:TE) (t:Gy):TG:=λv σ H Q=>to σ H λo H1=>ti σ H1 λi H2=>t o i v H2 λH3=>Q σ H3
theorem GA (ho:PE X o to) (hi:PE X i ti) (hs:Kc X t)
 (ha:∀ v,assign (.Subscript o i pos) X.env v=(do
   let ov <- holding [v] (eval o X.env)
   let iv <- holding [v,ov] (eval i X.env)
   standAt pos
   holding [v,ov,iv] (setItem ov iv v)
   release [v,ov,iv] []):=by intro _; rfl):PG X (.Subscript o i pos) (Mu to ti t):=by
 intro aa s σ H v u Q I r h
 rw [ha]
 refine NP (O6 (bD (ho aa s σ H _ I h) λov s1 ⟨x,H1,I1,r1,q1⟩=>?_))
 refine NP (O6 (bD (hi aa s1 σ H1 _ I1 q1) λiv s2 ⟨y,H2,I2,r2,q2⟩=>?_))
 refine NP (SO (NP (O6 (bD (hs aa s2 σ H2 x y v ov iv u _ I2 r1 r2 r q2) λ_ s3 ⟨H3,I3,q3⟩=>?_))))
 exact wpAny_release ⟨σ,H3,I3,q3⟩
noncomputable def Ke (te:TE) (g:TG):TS:=λD σ H=>te σ H λx H1=>g x σ H1 D.nx
theorem yD (he:PE X e te) (hg:PG X tg g) (hs:swapsWithSole [tg] e pos.line X.env=pure false:=by rfl) (hw:swappedStores [tg] e X.env=pure none:=by rfl)
 (h1:(assignEach [tg] X.env).map (·.2)=[assign tg X.env]:=by rfl):PS X (.Assign [tg] e pos) (Ke te g):=by
 intro aa s σ H D I h
 refine wpAny_Assign_stores (bD (he aa s σ H _ I h) λv s1 ⟨x,H1,I1,r1,q1⟩=>?_) hs hw
 rw [h1]
 exact bD (hg aa s1 σ H1 x v _ I1 r1 q1) λ_ s2 q=>q
theorem yE (hN:X.N.Nodup) (hi:X.N[i]?=some x) (hx:Loc X.env.scope x) (he:PE X e te) (hs:swapsWith e (some (.Name x pos')) pos.line X.env=pure false:=by rfl) (hf:X.fn x=true\/X.env.scope.names.lookup x=some .local:=by first | exact .inl rfl | exact .inr rfl | assumption) :
 PS X (.Assign [.Name x pos'] e pos) (Ke te (Fj i)):=by
 intro aa s σ H D I h
 refine wpAny_Assign_Name (bD (he aa s σ H _ I h) λv s1 ⟨y,H1,I1,r1,q1⟩=>?_) hs
 exact kr I1 hN hi hx r1 (λs2 I2=>⟨_,H1,I2,q1⟩) hf
noncomputable def Mw (i:Nat) (te:TE) (ti:Nk):TS:=λD σ H=>∃ x,σ[i]?=some (some x)/\te σ H λy H1=>ti x y H1 λz H2=>D.nx (σ.set i (some z)) H2
theorem GB (hN:X.N.Nodup) (hi:X.N[i]?=some x) (hx:Loc X.env.scope x) (he:PE X e te) (ho:Nl X op ti) (hf:X.fn x=true\/X.env.scope.names.lookup x=some .local:=by first | exact .inl rfl | exact .inr rfl | assumption) :
 PS X (.AugAssign (.Name x pos') op e pos) (Mw i te ti):=by
 intro aa s σ H D I h
 obtain ⟨v,e1,h⟩:=h
 obtain ⟨m,hn,hl⟩:=I.loc
 have vis:Mh X.env.scope x:=by rcases hx with k | k; exact .inl k; exact .inr (.inl k)
 obtain ⟨u,r,l⟩:=hl i x v hi e1 vis
 refine wpAny_AugAssign_Name ?_
 have go:wpAny (model X.prog X.w) X.A (eval e X.env) (λw s₂=>wpAny (model X.prog X.w) X.A (inplaceOp op u w) (λr s₃=>wpAny (model X.prog X.w) X.A (storeName X.env x r) (λ_=>SP X aa D .next) X.xe s₃) X.xe s₂) X.xe s:=by
  refine bD (he aa s σ H _ I h) λw s1 ⟨y,H1,I1,r1,q1⟩=>?_
  refine bD (ho aa s1 σ H1 v y u w _ I1 r r1 q1) λz s2 ⟨zv,H2,I2,r2,q2⟩=>?_
  exact kr I2 hN hi hx r2 (λs3 I3=>⟨_,H2,I3,q2⟩) hf
 rcases l with ⟨hk,hm⟩ | ⟨hk,c,hc,hcell⟩
 ·exact wpAny_loadName_local I.ok.kind hk hn hm go
 ·rcases hk with hk | hk
  ·exact wpAny_loadName_cell I.ok.kind hk hc hcell go
  ·rcases hx with k | k
   ·have:X.env.scope.names.lookup x=some .free:=hk
    rw [k] at this; cases this
   ·have:X.env.scope.names.lookup x=some .free:=hk
    rw [k] at this; cases this
noncomputable def GC (c:TT) (tb:TS):TS:=λD σ H=>∃ W:Nat->St->Hp->Prop,(∃ m,W m σ H)/\∀ m σ H,W m σ H ->
 c σ H λb H1=>if b=true then ∃ N:St->Hp->Prop,(∀ σ' H',N σ' H'->∃ m',m'<m/\W m' σ' H')/\tb { D with nx:=N,ct:=N,bk:=D.nx } σ H1 else D.nx σ H1
theorem yF (hp:PassesOwn (model X.prog X.w) X.A X.env X.xe) (hc:PT X c tc) (hb:rM X body tb):PS X (.While c body [] pos) (GC tc tb):=by
 intro aa s σ H D I h
 obtain ⟨W,⟨m0,w0⟩,turn⟩:=h
 refine wpAny_While (codeAny_whileLoop (λn s'=>∃ σ' H',Inv X aa σ' H' s'/\W n σ' H') ?_ m0 ⟨σ,H,I,w0⟩)
 rintro n s1 ⟨σ1,H1,I1,w1⟩
 refine Qx hp (bD (hc aa s1 σ1 H1 _ I1 (turn n σ1 H1 w1)) λb s2 ⟨H2,I2,q2⟩=>?_)
 cases b with
 | true =>
  obtain ⟨N,hN,q2⟩:=q2
  rw [if_pos rfl]
  refine Qx hp (bD (hb aa s2 σ1 H2 _ I2 q2) λf s3 q3=>?_)
  cases f with
  | next =>
   obtain ⟨σ3,H3,I3,n3⟩:=q3
   obtain ⟨m',hm,w3⟩:=hN σ3 H3 n3
   exact ⟨m',hm,σ3,H3,I3,w3⟩
  | cont =>
   obtain ⟨σ3,H3,I3,n3⟩:=q3
   obtain ⟨m',hm,w3⟩:=hN σ3 H3 n3
   exact ⟨m',hm,σ3,H3,I3,w3⟩
  | brk=>exact q3
  | ret v=>exact q3
 | false =>
  rw [if_neg N5]
  exact wpAny_execs_nil ⟨σ1,H2,I2,q2⟩
structure It where
 go:Nat->Hp->Prop
 yld:Nat->Hp->V->Hp->Prop
 stop:Nat->Hp->Prop
def eO (X:Cx) (aa:List (Addr×Obj)) (H:Hp) (b:Addr):Prop :=
 H b=none/\b≠X.env.locals/\b∉X.fs/\(b∈X.ex\/X.s₀.heap.objs.size<=b)/\(∀ x c,X.env.cells.lookup x=some c->c≠b)/\∀ p∈X.pn++aa,p.1≠b
theorem Inv.lV (I:Inv X aa σ H s) (hb:s.heap.objs.size<=b) (hn:H' b=none):eO X aa H' b:=by
 refine ⟨hn,Q6 (OJ I.lt hb),I.J4 hb,.inr (N3 I.sz hb),λx c e z=>?_,λp hp z=>?_⟩
 ·obtain ⟨v,q⟩:=I.cell x c e
  exact absurd (OJ q.lt (by rw [z]; exact hb)) (Pw _)
 ·exact absurd (OJ (N1 (I.pin p hp).1) (by rw [z]; exact hb)) (Pw _)
structure Turn (P:Program) (w:World) (K:NR) (tg:Expr) (J:It) (fp:List Addr) (it:Addr) (tn:Nat->Heap->Prop):Prop where
 mem:it∈fp
 obj:∀ i h,tn i h->∀ b∈fp,∃ o,h.get? b=some o/\∀ v,o.data≠.cell v
 keep:∀ i h h',tn i h->(∀ b∈fp,∀ o,h.get? b=some o->h'.get? b=some o)->tn i h'
 item:∀ (X:Cx),X.prog=P->X.w=w->X.K=K->X.calm=true->∀ (i:Nat) (aa:List (Addr×Obj)) (s:Shared) (σ:St) (H:Hp) (E:Value->Shared->Prop),Inv X aa σ H s->(∀ b∈fp,eO X aa H b)->tn i s.heap->J.go i H ->
  wpAny (model P w) X.A (pyNext (.ref it)) (λr s1=>∃ u,r=some u /\
   wpAny (model P w) X.A (letOwnedTupleGo tg (.ref it) u) (λ_ s2=>∃ x H',Inv X aa σ H' s2/\RelV x u/\J.yld i H x H'/\tn (i+1) s2.heap/\∀ b∈fp,H' b=none) E s1) E s
 done:∀ (X:Cx),X.prog=P->X.w=w->X.K=K->X.calm=true->∀ (i:Nat) (aa:List (Addr×Obj)) (s:Shared) (σ:St) (H:Hp) (E:Value->Shared->Prop),Inv X aa σ H s->(∀ b∈fp,eO X aa H b)->tn i s.heap->J.stop i H ->
  wpAny (model P w) X.A (pyNext (.ref it)) (λr s1=>r=none/\Inv X aa σ H s1) E s
 self:∀ (A:Around) (i:Nat) (s:Shared) (Q:Value->Shared->Prop) (E:Value->Shared->Prop),tn i s.heap->Q (.ref it) s->wpAny (model P w) A (pyIter (.ref it)) Q E s
noncomputable abbrev TI:=St->Hp->(It->Hp->Prop)->Prop
def Mx (X:Cx) (aa:List (Addr×Obj)) (σ:St) (tg:Expr) (R:It->Hp->Prop) (itv:Value) (s2:Shared):Prop :=
 ∃ (it:Addr) (fp:List Addr) (tn:Nat->Heap->Prop) (J:It) (H':Hp),itv=.ref it/\Inv X aa σ H' s2/\Turn X.prog X.w X.K tg J fp it tn/\tn 0 s2.heap/\(∀ b∈fp,eO X aa H' b)/\R J H'
def PI (X:Cx) (tg iter:Expr) (wi:TI):Prop :=
 ∀ (aa:List (Addr×Obj)) (s:Shared) (σ:St) (H:Hp) (R:It->Hp->Prop),Inv X aa σ H s->wi σ H R ->
  wpAny (model X.prog X.w) X.A (eval iter X.env) (λv s1=>wpAny (model X.prog X.w) X.A (pyIter v) (Mx X aa σ tg R) X.xe s1) X.xe s
theorem mG (ho:s.heap.get? it=some o) (hc:o.cls=.type n) (hd:o.data=.fields vs)
 (hn:["enumerate","zip","dict_itemiterator","dict_reverseitemiterator","odict_iterator","itertools.zip_longest","itertools.pairwise"].contains n=false) (hQ:Q () s):wpAny M A (letOwnedTupleGo tg (.ref it) u) Q E s:=by
 unfold letOwnedTupleGo
 cases tg <;> first
  | exact NS hQ
  | (cases u <;> first
      | exact NS hQ
      | (refine NP (wpAny_load ho ?_)
         rw [hc,hd]
         show wpAny M A (if (["enumerate","zip","dict_itemiterator","dict_reverseitemiterator","odict_iterator","itertools.zip_longest","itertools.pairwise"].contains n && vs[0]? == some (rawInt _))=true then _ else _) Q E s
         rw [if_neg (by intro h; rw [hn,Bool.false_and] at h; cases h)]
         exact NS hQ))
noncomputable def Mz (K:NR) (a:Addr):It :=
 ⟨λi H=>∃ xs x,gI K H a xs/\xs[i]?=some x,λi H x H'=>H'=H/\∀ xs,gI K H a xs->xs[i]?=some x,λi H=>∃ xs,gI K H a xs/\xs.length<=i⟩
noncomputable def MA (K:NR) (a:Addr):It :=
 ⟨λi H=>∃ xs x,dB K H a xs/\xs[i]?=some x,λi H x H'=>H'=H/\∀ xs,dB K H a xs->xs[i]?=some x,λi H=>∃ xs,dB K H a xs/\xs.length<=i⟩
noncomputable def LY (lo:Int) (n:Nat):It:=⟨λi _=>i<n,λi H x H'=>H'=H/\x=.int (lo+i),λi _=>n<=i⟩
theorem wD {P:Program} {w:World} {K:NR} {tg:Expr} (a it:Addr):Turn P w K tg (Mz K a) [it] it (λi h=>h.IsListIter it a i) where
 mem:=by simp
 obj:=λi h st b hb=>by
  have e:b=it:=by simpa using hb
  subst e
  obtain ⟨o,e,c,d⟩:=st
  exact ⟨o,e,λv z=>by rw [d] at z; cases z⟩
 keep:=λi h h' st k=>st.at λo e=>k it (by simp) o e
 item:=by
  intro X hP hw hK hc i aa s σ H E I hf st hg
  subst hP hw hK
  obtain ⟨xs,x,hq,hx⟩:=hg
  obtain ⟨its,rv,p,hz⟩:=I.list hq
  obtain ⟨u,hu,ru⟩:=rv.get hx
  obtain ⟨f0,f1,f2,f3,f4,f5⟩:=hf it (by simp)
  refine wpAny_pyNext_list_item st p.isList (x:=u) (by simpa using hu) λh' st' sb=>?_
  have I1:Inv X aa σ H { s with heap:=h' }:=I.turned (t':=s.toks) (λb o hb e=>(sb.2 b hb).trans e) f0 f1 f3 f4 f5
  obtain ⟨o,e,c,d⟩:=id st'
  exact ⟨u,rfl,mG (s:={ s with heap:=h' }) e c d (by decide) ⟨x,H,I1,ru,⟨rfl,λys hy=>by rw [I.pJ hy hq]; exact hx⟩,st',λb hb=>(hf b hb).1⟩⟩
 done:=by
  intro X hP hw hK hc i aa s σ H E I hf st hg
  subst hP hw hK
  obtain ⟨xs,hq,hx⟩:=hg
  obtain ⟨its,rv,p,hz⟩:=I.list hq
  obtain ⟨f0,f1,f2,f3,f4,f5⟩:=hf it (by simp)
  have hl:=rv.length
  exact wpAny_pyNext_list_end (I.ok.hd hc) st p.isList (by simp; lia) λh' eb=>⟨rfl,I.turned (t':=s.toks) (λb o hb e=>eb b o hb e) f0 f1 f3 f4 f5⟩
 self:=λ_ _ _ _ _ st h=>wpAny_pyIter_listiter st h
theorem rS {P:Program} {w:World} {K:NR} {tg:Expr} (a it:Addr):Turn P w K tg (MA K a) [it] it (λi h=>h.IsTupleIter it a i) where
 mem:=by simp
 obj:=λi h st b hb=>by
  have e:b=it:=by simpa using hb
  subst e
  obtain ⟨o,e,c,d⟩:=st
  exact ⟨o,e,λv z=>by rw [d] at z; cases z⟩
 keep:=λi h h' st k=>st.at λo e=>k it (by simp) o e
 item:=by
  intro X hP hw hK hc i aa s σ H E I hf st hg
  subst hP hw hK
  obtain ⟨xs,x,hq,hx⟩:=hg
  obtain ⟨its,rv,p,hz⟩:=I.tuple hq
  obtain ⟨u,hu,ru⟩:=rv.get hx
  obtain ⟨f0,f1,f2,f3,f4,f5⟩:=hf it (by simp)
  refine wpAny_pyNext_tuple_item st (show s.heap.IsTuple a its.toArray from p) (x:=u) (by simpa using hu) λh' st' sb=>?_
  have I1:Inv X aa σ H { s with heap:=h' }:=I.turned (t':=s.toks) (λb o hb e=>(sb.2 b hb).trans e) f0 f1 f3 f4 f5
  obtain ⟨o,e,c,d⟩:=id st'
  exact ⟨u,rfl,mG (s:={ s with heap:=h' }) e c d (by decide) ⟨x,H,I1,ru,⟨rfl,λys hy=>by rw [I.jj hy hq]; exact hx⟩,st',λb hb=>(hf b hb).1⟩⟩
 done:=by
  intro X hP hw hK hc i aa s σ H E I hf st hg
  subst hP hw hK
  obtain ⟨xs,hq,hx⟩:=hg
  obtain ⟨its,rv,p,hz⟩:=I.tuple hq
  obtain ⟨f0,f1,f2,f3,f4,f5⟩:=hf it (by simp)
  have hl:=rv.length
  exact wpAny_pyNext_tuple_end (I.ok.hd hc) st (show s.heap.IsTuple a its.toArray from p) (by simp; lia) λh' eb=>⟨rfl,I.turned (t':=s.toks) (λb o hb e=>eb b o hb e) f0 f1 f3 f4 f5⟩
 self:=λ_ _ _ _ _ st h=>wpAny_pyIter_tupleiter st h
theorem rT {P:Program} {w:World} {K:NR} {tg:Expr} (it:Addr) (lo:Int) (n:Nat):Turn P w K tg (LY lo n) [it] it (λi h=>IsRangeIter h it (lo+(i:Nat) * 1) ((n:Int) - (i:Nat)) 1) where
 mem:=by simp
 obj:=λi h st b hb=>by
  have e:b=it:=by simpa using hb
  subst e
  exact ⟨_,st,λv z=>by
   have z':Tf _=Data.cell v:=z
   cases z'⟩
 keep:=λi h h' st k=>k it (by simp) _ st
 item:=by
  intro X hP hw hK hc i aa s σ H E I hf st hg
  subst hP hw hK
  obtain ⟨f0,f1,f2,f3,f4,f5⟩:=hf it (by simp)
  have W:=Walks.range (prog:=X.prog) (w:=X.w) (I.ok.hd hc) it lo 1 n
  refine W.item i s _ _ hg st λv h' tk hv st' kk=>?_
  obtain ⟨t,rfl⟩:=hv
  have I1:Inv X aa σ H { s with heap:=h',toks:=tk }:=I.turned (λb o hb e=>kk b o (by simpa using hb) e) f0 f1 f3 f4 f5
  refine ⟨_,rfl,mG (s:={ s with heap:=h',toks:=tk }) (n:="range_iterator") st' rfl rfl (by decide) ⟨.int (lo+i),H,I1,⟨t,?_⟩,⟨rfl,rfl⟩,st',λb hb=>(hf b hb).1⟩⟩
  rw [Int.mul_one]
 done:=by
  intro X hP hw hK hc i aa s σ H E I hf st hg
  subst hP hw hK
  obtain ⟨f0,f1,f2,f3,f4,f5⟩:=hf it (by simp)
  exact wpAny_pyNext_range_end (I.ok.hd hc) st (by have:n<=i:=hg; lia) λh' eb=>⟨rfl,I.turned (t':=s.toks) (λb o hb e=>eb b o hb e) f0 f1 f3 f4 f5⟩
 self:=λ_ _ _ _ _ st h=>wpAny_pyIter_rangeiter st h
theorem yG {lo hi:Int} (I:Inv X aa σ H s) (h1: -(2 ^ 62)<=lo) (h2:lo<2 ^ 62) (h3: -(2 ^ 62)<=hi) (h4:hi<2 ^ 62)
 (q:R (LY lo (hi - lo).toNat) H):wpAny (model X.prog X.w) X.A (pyIter (.ref s.heap.objs.size)) (Mx X aa σ tg R) E { s with heap:=s.heap.push { cls:=.type "range",data:=.fields #[.int lo t,.int hi u,.int 1 v] },toks:=tk }:=by
 refine wpAny_pyIter_range (IsRange.new ..) (small_one h1 h2 h3 h4) ?_
 have I1:Inv X aa σ H { s with heap:=s.heap.push { cls:=.type "range",data:=.fields #[.int lo t,.int hi u,.int 1 v] },toks:=tk }:=I.kept λb o e=>NY _ e
 refine ⟨(s.heap.push { cls:=.type "range",data:=.fields #[.int lo t,.int hi u,.int 1 v] }).objs.size,[(s.heap.push { cls:=.type "range",data:=.fields #[.int lo t,.int hi u,.int 1 v] }).objs.size],_,_,H,rfl,
  I1.kept (t':=tk) λb o e=>NY _ e,rT _ lo (hi - lo).toNat,?_,λb hb=>?_,q⟩
 ·have e1:lo+((0:Nat):Int) * 1=lo:=by simp
  have e2:(((hi - lo).toNat:Nat):Int) - ((0:Nat):Int)=R1 lo hi 1:=by rw [rangeSize_one]; split <;> lia
  show IsRangeIter _ _ (lo+((0:Nat):Int) * 1) ((((hi - lo).toNat:Nat):Int) - ((0:Nat):Int)) 1
  rw [e1,e2]
  exact Ob _ rfl
 ·have e:b=(s.heap.push { cls:=.type "range",data:=.fields #[.int lo t,.int hi u,.int 1 v] }).objs.size:=by simpa using hb
  subst e
  exact I1.lV (NT _) (I1.hok.fresh (NT _))
noncomputable def Kf (ta:TA):TI:=λσ H R=>ta σ H λvs H1=>∃ j:Int,vs=[.int j]/\ -(2 ^ 62)<=j/\j<2 ^ 62/\R (LY 0 j.toNat) H1
theorem wF (hg:Gl X "range") (hm:X.mg "range"=none) (ha:PA X [a] ta) (hs:starEach [a] X.env=[(false,eval a X.env)]:=by rfl):PI X tg (.Call (.Name "range" p) [a] [] pos) (Kf ta):=by
 intro aa s σ H R I h
 refine Call_ (dR I hg hm boot_range (Rf (bD (ha pos aa s σ H _ I h) λus s1 ⟨vs,H1,I1,r1,q1⟩=>?_) hs rfl))
 obtain ⟨j,e,q1,q2,q⟩:=q1
 subst e
 cases r1 with
 | cons r rr =>
  cases rr
  obtain ⟨t,rfl⟩:=r
  exact call_range_1 (yG I1 (by lia) (by lia) q1 q2 (by simpa using q))
noncomputable def MB (wi:TI) (g:TG) (tb:TS):TS:=λD σ H=>wi σ H λJ H1=>∃ W:Nat->Nat->St->Hp->Prop,(∃ m,W 0 m σ H1)/\∀ i m σ H,W i m σ H ->
 (J.stop i H/\D.nx σ H)\/(J.go i H/\∃ N:St->Hp->Prop,(∀ σ' H',N σ' H'->∃ m',m'<m/\W (i+1) m' σ' H')/\∀ x H',J.yld i H x H'->g x σ H' λσ2 H2=>tb { D with nx:=N,ct:=N,bk:=D.nx } σ2 H2)
noncomputable def ie (fp:List Addr) (h:Heap):List (Addr×Obj):=fp.filterMap λb=>(h.get? b).map λo=>(b,o)
theorem dG (hb:b∈fp) (e:h.get? b=some o):(b,o)∈ie fp h:=List.mem_filterMap.mpr ⟨b,hb,by rw [e]; rfl⟩
theorem wG (hp:p∈ie fp h):p.1∈fp/\h.get? p.1=some p.2:=by
 obtain ⟨b,hb,e⟩:=List.mem_filterMap.mp hp
 cases q:h.get? b with
 | none=>rw [q] at e; cases e
 | some o =>
  rw [q] at e
  have e':(b,o)=p:=Pr e
  subst e'
  exact ⟨hb,q⟩
theorem Inv.pinned (I:Inv X aa σ H s) (hf:∀ b∈fp,eO X aa H b) (ho:∀ b∈fp,∃ o,s.heap.get? b=some o/\∀ v,o.data≠.cell v):Inv X (aa++ie fp s.heap) σ H s :=
 I.uc λp hp=>(Om.mp hp).elim (λz=>I.pin p (OV _ z)) λz=>by
  obtain ⟨hb,e⟩:=wG z
  obtain ⟨f0,f1,f2,_⟩:=hf p.1 hb
  obtain ⟨o,e',d⟩:=ho p.1 hb
  rw [e] at e'; cases e'
  exact ⟨e,f0,f1,f2,d⟩
theorem Inv.eS (I:Inv X (aa++pl) σ H s):Inv X aa σ H s:=I.uc λp hp=>I.pin p (OV _ (Qq _ hp))
theorem GD (hp:PassesOwn (model X.prog X.w) X.A X.env X.xe) (hc:X.calm=true) (hi:PI X tg iter wi) (hg:PG X tg g) (hb:rM X body tb)
 (hs:∀ x,foldedSetIterable iter X.env x=pure x:=by intro _; rfl):PS X (.For tg iter body [] pos) (MB wi g tb):=by
 intro aa s σ H D I h
 refine wpAny_For (bD (hi aa s σ H _ I h) λv s1 h1=>bD h1 λitv s2 h2=>?_) hs
 obtain ⟨it,fp,tn,J,H2,e,I2,T,st2,f2,W,⟨m0,w0⟩,turn⟩:=h2
 subst e
 have stat:∀ {H':Hp},(∀ b∈fp,H' b=none)->∀ b∈fp,eO X aa H' b:=λhn b hb=>⟨hn b hb,(f2 b hb).2⟩
 refine codeAny_forLoop_any (λn s'=>∃ i σ' H',Inv X aa σ' H' s'/\tn i s'.heap/\(∀ b∈fp,H' b=none)/\W i n σ' H') ?_ m0 ⟨0,σ,H2,I2,st2,λb hb=>(f2 b hb).1,w0⟩
 rintro n s3 ⟨i,σ3,H3,I3,st3,fr3,w3⟩
 rcases turn i n σ3 H3 w3 with ⟨stop,qn⟩ | ⟨go,N,hN,step⟩
 ·refine Qx hp (bD (T.done X rfl rfl rfl hc i aa s3 σ3 H3 X.xe I3 (stat fr3) st3 stop) λr s4 ⟨hr,I4⟩=>?_)
  subst hr
  exact wpAny_execs_nil ⟨σ3,H3,I4,qn⟩
 ·refine Qx hp (bD (T.item X rfl rfl rfl hc i aa s3 σ3 H3 X.xe I3 (stat fr3) st3 go) λr s4 ⟨u,hr,h4⟩=>?_)
  subst hr
  refine Qx hp (bD h4 λ_ s5 ⟨x,H5,I5,r5,y5,st5,fr5⟩=>?_)
  have I5':=I5.pinned (stat fr5) (T.obj _ _ st5)
  refine Qx hp (bD (hg _ s5 σ3 H5 x u _ I5' r5 (step x H5 y5)) λ_ s6 ⟨σ6,H6,I6,q6⟩=>?_)
  refine Qx hp (bD (hb _ s6 σ6 H6 _ I6 q6) λf s7 q7=>?_)
  have again:∀ {σ7:St} {H7:Hp},Inv X (aa++ie fp s5.heap) σ7 H7 s7->N σ7 H7->∃ m,m<n/\∃ i σ' H',Inv X aa σ' H' s7/\tn i s7.heap/\(∀ b∈fp,H' b=none)/\W i m σ' H':=λ{σ7 H7} I7 n7=>by
   obtain ⟨m',hm,w7⟩:=hN σ7 H7 n7
   refine ⟨m',hm,i+1,σ7,H7,I7.eS,T.keep _ _ _ st5 λb hb o e=>(I7.pin (b,o) (OV _ (OV _ (dG hb e)))).1,λb hb=>?_,w7⟩
   obtain ⟨o,e,d⟩:=T.obj _ _ st5 b hb
   exact (I7.pin (b,o) (OV _ (OV _ (dG hb e)))).2.1
  cases f with
  | next=>obtain ⟨σ7,H7,I7,n7⟩:=q7; exact again I7 n7
  | cont=>obtain ⟨σ7,H7,I7,n7⟩:=q7; exact again I7 n7
  | brk=>obtain ⟨σ7,H7,I7,q7⟩:=q7; exact ⟨σ7,H7,I7.eS,q7⟩
  | ret v=>obtain ⟨x7,σ7,H7,I7,r7,q7⟩:=q7; exact ⟨x7,σ7,H7,I7.eS,r7,q7⟩
noncomputable abbrev R2:=V->V->Hp->VK->Prop
def fL (X:Cx) (f:Value->Value->Sem Value) (r:R2):Prop :=
 ∀ (aa:List (Addr×Obj)) (s:Shared) (σ:St) (H:Hp) (x y:V) (v u:Value) (Q:VK),Inv X aa σ H s->RelV x v->RelV y u->r x y H Q ->
  wpAny (model X.prog X.w) X.A (f v u) (EP X aa σ Q) X.xe s
def MC (X:Cx) (f:Value->Sem Value) (r:V->Hp->VK->Prop):Prop :=
 ∀ (aa:List (Addr×Obj)) (s:Shared) (σ:St) (H:Hp) (x:V) (v:Value) (Q:VK),Inv X aa σ H s->RelV x v->r x H Q ->
  wpAny (model X.prog X.w) X.A (f v) (EP X aa σ Q) X.xe s
def f7 (X:Cx) (f:Value) (r:List V->Hp->VK->Prop):Prop :=
 ∀ (aa:List (Addr×Obj)) (s:Shared) (σ:St) (H:Hp) (xs:List V) (us:List Value) (Q:VK),Inv X aa σ H s->Vals xs us->r xs H Q ->
  wpAny (model X.prog X.w) X.A (call f us) (EP X aa σ Q) X.xe s
noncomputable def LZ (r:R2) (ta tb:TE):TE:=λσ H Q=>ta σ H λx H1=>tb σ H1 λy H2=>r x y H2 Q
noncomputable def NC (r:V->Hp->VK->Prop) (ta:TE):TE:=λσ H Q=>ta σ H λx H1=>r x H1 Q
noncomputable def rI (C:Int->Int->Prop) (g:Int->Int->V):R2:=λx y H Q=>∃ i j,x=.int i/\y=.int j/\C i j/\Q (g i j) H
noncomputable def ue (g:Int->Int->V):R2:=λx y H Q=>∃ i j,x=.int i/\y=.int j/\Q (g i j) H
noncomputable def rU (g:Int->V):V->Hp->VK->Prop:=λx H Q=>∃ i,x=.int i/\Q (g i) H
theorem GF (ha:PE X a ta) (hb:PE X b tb) {R:V->V->Hp->Prop} (I:Inv X aa σ H s)
 (h:ta σ H λx H1=>tb σ H1 λy H2=>R x y H2) {f:Value->Value->Sem Value}
 (hf:∀ v u s2 x y H2,Inv X aa σ H2 s2->RelV x v->RelV y u->R x y H2->wpAny (model X.prog X.w) X.A (f v u) Q X.xe s2) :
 wpAny (model X.prog X.w) X.A (eval a X.env) (λv s₁=>wpAny (model X.prog X.w) X.A (eval b X.env) (λu s₂=>wpAny (model X.prog X.w) X.A (f v u) Q X.xe s₂) X.xe s₁) X.xe s:=by
 refine bD (ha aa s σ H _ I h) λv s1 ⟨x,H1,I1,r1,q1⟩=>?_
 refine bD (hb aa s1 σ H1 _ I1 q1) λu s2 ⟨y,H2,I2,r2,q2⟩=>?_
 exact hf v u s2 x y H2 I2 r1 r2 q2
theorem yH (ho:fL X (binaryOp op) r) (ha:PE X a ta) (hb:PE X b tb):PE X (.BinOp a op b pos) (LZ r ta tb):=by
 intro aa s σ H Q I h
 exact wpAny_BinOp (GF ha hb I h λv u s2 x y H2 I2 rx ry q=>ho aa s2 σ H2 x y v u Q I2 rx ry q)
theorem Kg (ho:MC X (unaryOp op) r) (ha:PE X a ta):PE X (.UnaryOp op a pos) (NC r ta):=by
 intro aa s σ H Q I h
 exact UnaryOp_ (bD (ha aa s σ H _ I h) λv s1 ⟨x,H1,I1,r1,q1⟩=>ho aa s1 σ H1 x v Q I1 r1 q1)
theorem JR {g:Int->Int->Int}
 (rule:∀ (i j:Int) (t u:Tok) (s:Shared) (Q:Value->Shared->Prop) (E:Value->Shared->Prop),C i j->Q (.int (g i j) s.toks) { s with toks:=s.toks+1 }->wpAny (model X.prog X.w) X.A (f (.int i t) (.int j u)) Q E s) :
 fL X f (rI C λi j=>.int (g i j)):=by
 intro aa s σ H x y v u Q I rx ry h
 obtain ⟨i,j,rfl,rfl,hc,q⟩:=h
 obtain ⟨t,rfl⟩:=rx
 obtain ⟨t',rfl⟩:=ry
 exact rule i j t t' s _ _ hc ⟨.int (g i j),H,I.tok _,⟨_,rfl⟩,q⟩
theorem yI {g:Int->Int->Int}
 (rule:∀ (i j:Int) (t u:Tok) (s:Shared) (Q:Value->Shared->Prop) (E:Value->Shared->Prop),Q (.int (g i j) s.toks) { s with toks:=s.toks+1 }->wpAny (model X.prog X.w) X.A (f (.int i t) (.int j u)) Q E s) :
 fL X f (ue λi j=>.int (g i j)):=by
 intro aa s σ H x y v u Q I rx ry h
 obtain ⟨i,j,rfl,rfl,q⟩:=h
 obtain ⟨t,rfl⟩:=rx
 obtain ⟨t',rfl⟩:=ry
 exact rule i j t t' s _ _ ⟨.int (g i j),H,I.tok _,⟨_,rfl⟩,q⟩
theorem GG {g:Int->Int->Bool}
 (rule:∀ (i j:Int) (t u:Tok) (s:Shared) (Q:Value->Shared->Prop) (E:Value->Shared->Prop),Q (.bool (g i j)) s->wpAny (model X.prog X.w) X.A (f (.int i t) (.int j u)) Q E s) :
 fL X f (ue λi j=>.bl (g i j)):=by
 intro aa s σ H x y v u Q I rx ry h
 obtain ⟨i,j,rfl,rfl,q⟩:=h
 obtain ⟨t,rfl⟩:=rx
 obtain ⟨t',rfl⟩:=ry
 exact rule i j t t' s _ _ ⟨.bl (g i j),H,I,rfl,q⟩
def rV (i j:Int):Prop:=0<=j/\j<=1000000/\i.natAbs<2 ^ 64
theorem rX (k):(0:Int)<=2 ^ k:=by
 rw [two_pow_cast]
 exact Si _
theorem GH:fL X (binaryOp .Add) (ue λi j=>.int (i+j)):=yI λ_ _ _ _ _ _ _ q=>add_int q
theorem GI:fL X (binaryOp .Sub) (ue λi j=>.int (i - j)):=yI λ_ _ _ _ _ _ _ q=>sub_int q
theorem GJ:fL X (binaryOp .Mod) (rI (λ_ j=>0<j) λi j=>.int (i % j)):=JR λi j _ _ _ _ _ hc q=>by
 have h1:(0:Int)<j:=hc
 exact mod_int' (by lia) (by rw [Int.fmod_eq_emod_of_nonneg i (by lia)]; exact q)
theorem GK:fL X (binaryOp .Pow) (rI rV λi j=>.int (i ^ j.toNat)):=JR λ_ _ _ _ _ _ _ hc q=>pow_int_small hc.1 hc.2.1 hc.2.2 q
theorem GL:fL X (binaryOp .LShift) (rI rV λi j=>.int (i * 2 ^ j.toNat)):=JR λ_ _ _ _ _ _ _ hc q=>lshift_int_small hc.1 hc.2.1 hc.2.2 q
theorem GN:fL X (binaryOp .RShift) (rI (λ_ j=>0<=j) λi j=>.int (i / 2 ^ j.toNat)):=JR λi j _ _ _ _ _ hc q =>
 rshift_int hc (by rw [Int.fdiv_eq_ediv_of_nonneg i (rX _)]; exact q)
theorem GO:fL X (binaryOp .BitAnd) (ue λi j=>.int (Builtin.bitAnd i j)):=yI λ_ _ _ _ _ _ _ q=>and_int q
theorem CH:fL X (inplaceOp .Add) (ue λi j=>.int (i+j)):=yI λ_ _ _ _ _ _ _ q=>iadd_int q
theorem CI:fL X (inplaceOp .Sub) (ue λi j=>.int (i - j)):=yI λ_ _ _ _ _ _ _ q=>isub_int q
theorem ND {g:Int->Int}
 (rule:∀ (i:Int) (t:Tok) (s:Shared) (Q:Value->Shared->Prop) (E:Value->Shared->Prop),Q (.int (g i) s.toks) { s with toks:=s.toks+1 }->wpAny (model X.prog X.w) X.A (f (.int i t)) Q E s) :
 MC X f (rU λi=>.int (g i)):=by
 intro aa s σ H x v Q I rx h
 obtain ⟨i,rfl,q⟩:=h
 obtain ⟨t,rfl⟩:=rx
 exact rule i t s _ _ ⟨.int (g i),H,I.tok _,⟨_,rfl⟩,q⟩
theorem GP:MC X (unaryOp .USub) (rU λi=>.int (-i)):=ND λ_ _ _ _ _ q=>neg_int q
noncomputable def CJ:V->V->Bool
 | .non,.non=>true | .non,.int _=>true | .int _,.non=>true | .non,.bl _=>true | .bl _,.non=>true | .non,.str _=>true | .str _,.non=>true
 | .int _,.int _=>true | .bl _,.bl _=>true | .str _,.str _=>true | .byt _,.byt _=>true
 | .int _,.str _=>true | .str _,.int _=>true | .bl _,.str _=>true | .str _,.bl _=>true
 | _,_=>false
noncomputable def NF:R2:=λx y H Q=>CJ x y=true/\Q (.bl (decide (x=y))) H
noncomputable def NG:R2:=λx y H Q=>CJ x y=true/\Q (.bl (!decide (x=y))) H
theorem uf:decide (V.int i=V.int j)=(i == j):=by
 rw [Rv]
 simp
theorem yJ:decide (V.bl i=V.bl j)=(i == j):=by
 rw [Rv]
 simp
theorem ug:decide (V.str i=V.str j)=(i == j):=by
 rw [Rv]
 simp
theorem uh:decide (V.byt i=V.byt j)=(i.toList == j.toList):=by
 rw [Rv]
 cases i
 cases j
 simp
theorem bh (I:Inv X aa σ H s) (q:Q (.bl k) H) (e:k=k'):EP X aa σ Q (.bool k') s:=by
 subst e
 exact ⟨.bl k,H,I,rfl,q⟩
theorem Kh:fL X (compareOp .Eq) NF:=by
 intro aa s σ H x y v u Q I rx ry h
 obtain ⟨hs,q⟩:=h
 cases x with
 | non =>
  cases rx
  cases y with
  | non=>cases ry; exact PySem.EqNone.eq_none_none (bh I q (by simp))
  | bl j=>cases ry; exact PySem.EqNone.eq_none_bool (bh I q (by simp))
  | int j=>obtain ⟨t',rfl⟩:=ry; exact PySem.EqNone.eq_none_int (bh I q (by simp))
  | str j=>obtain ⟨t',rfl⟩:=ry; exact PySem.EqNone.eq_none_str (bh I q (by simp))
  | _=>exact absurd (show false=true from hs) N5
 | bl i =>
  cases rx
  cases y with
  | non=>cases ry; exact PySem.EqNone.eq_bool_none (bh I q (by simp))
  | bl j=>cases ry; exact eq_bool (bh I q yJ)
  | str j=>obtain ⟨t',rfl⟩:=ry; exact PySem.EqMixed.eq_bool_str (bh I q (by simp))
  | _=>exact absurd (show false=true from hs) N5
 | int i =>
  obtain ⟨t,rfl⟩:=rx
  cases y with
  | non=>cases ry; exact PySem.EqNone.eq_int_none (bh I q (by simp))
  | int j=>obtain ⟨t',rfl⟩:=ry; exact eq_int (bh I q uf)
  | str j=>obtain ⟨t',rfl⟩:=ry; exact PySem.EqMixed.eq_int_str (bh I q (by simp))
  | _=>exact absurd (show false=true from hs) N5
 | str i =>
  obtain ⟨t,rfl⟩:=rx
  cases y with
  | non=>cases ry; exact PySem.EqNone.eq_str_none (bh I q (by simp))
  | bl j=>cases ry; exact PySem.EqMixed.eq_str_bool (bh I q (by simp))
  | int j=>obtain ⟨t',rfl⟩:=ry; exact PySem.EqMixed.eq_str_int (bh I q (by simp))
  | str j=>obtain ⟨t',rfl⟩:=ry; exact eq_str (bh I q ug)
  | _=>exact absurd (show false=true from hs) N5
 | byt i =>
  obtain ⟨t,rfl⟩:=rx
  cases y with
  | byt j=>obtain ⟨t',rfl⟩:=ry; exact PySem.W.eq_bytes (bh I q uh)
  | _=>exact absurd (show false=true from hs) N5
 | _=>cases y <;> exact absurd (show false=true from hs) N5
theorem Kl:fL X (compareOp .NotEq) NG:=by
 intro aa s σ H x y v u Q I rx ry h
 obtain ⟨hs,q⟩:=h
 cases x with
 | non =>
  cases rx
  cases y with
  | non=>cases ry; exact PySem.EqNone.ne_none_none (bh I q (by simp))
  | bl j=>cases ry; exact PySem.EqNone.ne_none_bool (bh I q (by simp))
  | int j=>obtain ⟨t',rfl⟩:=ry; exact PySem.EqNone.ne_none_int (bh I q (by simp))
  | str j=>obtain ⟨t',rfl⟩:=ry; exact PySem.EqNone.ne_none_str (bh I q (by simp))
  | _=>exact absurd (show false=true from hs) N5
 | bl i =>
  cases rx
  cases y with
  | non=>cases ry; exact PySem.EqNone.ne_bool_none (bh I q (by simp))
  | bl j=>cases ry; exact ne_bool (bh I q (congrArg not yJ))
  | str j=>obtain ⟨t',rfl⟩:=ry; exact PySem.EqMixed.ne_bool_str (bh I q (by simp))
  | _=>exact absurd (show false=true from hs) N5
 | int i =>
  obtain ⟨t,rfl⟩:=rx
  cases y with
  | non=>cases ry; exact PySem.EqNone.ne_int_none (bh I q (by simp))
  | int j=>obtain ⟨t',rfl⟩:=ry; exact ne_int (bh I q (congrArg not uf))
  | str j=>obtain ⟨t',rfl⟩:=ry; exact PySem.EqMixed.ne_int_str (bh I q (by simp))
  | _=>exact absurd (show false=true from hs) N5
 | str i =>
  obtain ⟨t,rfl⟩:=rx
  cases y with
  | non=>cases ry; exact PySem.EqNone.ne_str_none (bh I q (by simp))
  | bl j=>cases ry; exact PySem.EqMixed.ne_str_bool (bh I q (by simp))
  | int j=>obtain ⟨t',rfl⟩:=ry; exact PySem.EqMixed.ne_str_int (bh I q (by simp))
  | str j=>obtain ⟨t',rfl⟩:=ry; exact ne_str (bh I q (congrArg not ug))
  | _=>exact absurd (show false=true from hs) N5
 | byt i =>
  obtain ⟨t,rfl⟩:=rx
  cases y with
  | byt j=>obtain ⟨t',rfl⟩:=ry; exact PySem.W.ne_bytes (bh I q (congrArg not uh))
  | _=>exact absurd (show false=true from hs) N5
 | _=>cases y <;> exact absurd (show false=true from hs) N5
theorem Km:fL X (compareOp .Lt) (ue λi j=>.bl (decide (i<j))):=GG λ_ _ _ _ _ _ _ q=>lt_int q
theorem Kn:fL X (compareOp .Gt) (ue λi j=>.bl (decide (j<i))):=GG λ_ _ _ _ _ _ _ q=>gt_int q
theorem Ko:fL X (compareOp .GtE) (ue λi j=>.bl (decide (j<=i))):=GG λ_ _ _ _ _ _ _ q=>ge_int q
theorem fL.or (h:fL X f r) (h':fL X f r'):fL X f (λx y H Q=>r x y H Q\/r' x y H Q):=by
 intro aa s σ H x y v u Q I rx ry q
 rcases q with q | q
 ·exact h aa s σ H x y v u Q I rx ry q
 ·exact h' aa s σ H x y v u Q I rx ry q
theorem jk (b) (h:op≠.In:=by decide) (h2:op≠.NotIn:=by decide):behindInMarks op b=false:=by
 have e1:(op == CmpOp.In)=false:=by cases op <;> first | rfl | exact absurd rfl h
 have e2:(op == CmpOp.NotIn)=false:=by cases op <;> first | rfl | exact absurd rfl h2
 cases b <;> simp [behindInMarks,e1,e2]
theorem CK (ho:fL X (compareOp op) r) (ha:PE X a ta) (hb:PE X b tb) (hm:behindInMarks op b=false):PE X (.Compare a [op] [b] pos) (LZ r ta tb):=by
 intro aa s σ H Q I h
 exact wpAny_Compare1 (GF ha hb I h λv u s2 x y H2 I2 rx ry q=>ho aa s2 σ H2 x y v u Q I2 rx ry q) hm
noncomputable def Kp (t:TE):TT:=λσ H Q=>t σ H λx H'=>∃ k,x=.bl k/\Q k H'
theorem CL (ho:fL X (compareOp op) r) (ha:PE X a ta) (hb:PE X b tb) (hm:behindInMarks op b=false):PT X (.Compare a [op] [b] pos) (Kp (LZ r ta tb)):=by
 intro aa s σ H Q I h
 refine wpAny_isTrue_Compare1 (bD (ha aa s σ H _ I h) λv s1 ⟨x,H1,I1,r1,q1⟩=>bD (hb aa s1 σ H1 _ I1 q1) λu s2 ⟨y,H2,I2,r2,q2⟩ =>
  bD (ho aa s2 σ H2 x y v u _ I2 r1 r2 q2) λc s3 ⟨z,H3,I3,r3,k,e,q3⟩=>?_) hm
 subst e
 cases r3
 exact Rm ⟨H3,I3,q3⟩
theorem nP:(sizeLine:Nat)<2 ^ 63:=by rw [sizeLine_eq]; decide
theorem rY:fL X (binaryOp .Add) (λx y H Q=>∃ i j,x=.str i/\y=.str j/\i.length+j.length<=sizeLine/\Q (.str (i++j)) H):=by
 intro aa s σ H x y v u Q I rx ry h
 obtain ⟨i,j,rfl,rfl,hz,q⟩:=h
 obtain ⟨t,rfl⟩:=rx
 obtain ⟨t',rfl⟩:=ry
 exact add_str (λt' tk=>⟨.str (i++j),H,I.tok _,⟨_,rfl⟩,q⟩) hz
theorem vals1 (r:Vals [x] us):∃ u,us=[u]/\RelV x u:=by
 cases r with
 | cons r1 r2=>cases r2; exact ⟨_,rfl,r1⟩
theorem vals2 (r:Vals [x,y] us):∃ u w',us=[u,w']/\RelV x u/\RelV y w':=by
 cases r with
 | cons r1 r2 =>
  cases r2 with
  | cons r3 r4=>cases r4; exact ⟨_,_,rfl,r1,r3⟩
theorem wH (hc:X.calm=true):f7 X (.builtin "max") (λxs H Q=>∃ i j,xs=[.int i,.int j]/\Q (.int (if j>i then j else i)) H):=by
 intro aa s σ H xs us Q I r h
 obtain ⟨i,j,rfl,q⟩:=h
 obtain ⟨u,w',rfl,⟨t,rfl⟩,⟨t',rfl⟩⟩:=vals2 r
 refine max_two_ints (I.ok.hd hc) λh' tk k=>⟨_,H,I.kept k,?_,q⟩
 by_cases hj:j>i
 ·rw [if_pos hj,if_pos hj]; exact ⟨_,rfl⟩
 ·rw [if_neg hj,if_neg hj]; exact ⟨_,rfl⟩
structure NH (h:Heap) (x dx C:Addr) (mA:Str->Option Value):Prop where
 obj:h.get? x=some (PySem.W.instObj C dx)
 ns:h.Ns1 dx mA
 ne:dx≠x
theorem jO.some_of (r:jO (some v) o):∃ u,o=some u/\RelV v u:=by
 cases o with
 | none=>exact (show False from r).elim
 | some u=>exact ⟨u,rfl,r⟩
structure NI (K:NR) (C:Addr):Prop where
 pg:PySem.W.plainGet K C Str.empty=true
 hd:PySem.W.hasDictIn K C=true
 po:PySem.W.plainOver K C=true
 sa:Qc K (.ref C) "__setattr__"=some (some (.builtin "object.__setattr__"))
structure Con (K:NR) (C:Addr) (f:Str) (v:V) (u:Value):Prop where
 at_:Qc K (.ref C) f=some (some u)
 rel:RelV v u
 get:T9 K u "__get__"=some none
 cp:PySem.W.copiedNames.contains f=false
structure Meth (K:NR) (C:Addr) (m:Str) (f:Addr):Prop where
 at_:Qc K (.ref C) m=some (some (.ref f))
 fn:PySem.W.isFn K (.ref f)=true
 kp:PD K (.ref f)=true
def Kq (X:Cx) (op:Operator) (rd:V->V->Hp->VK->Prop):Prop :=
 ∀ (aa:List (Addr×Obj)) (s:Shared) (σ:St) (H:Hp) (x y:V) (u v:Value) (Q:VK),Inv X aa σ H s->RelV x u->RelV y v->rd x y H Q->wpAny (model X.prog X.w) X.A (inplaceOp op u v) (EP X aa σ Q) X.xe s
section
variable {X:Cx} {aa:List (Addr×Obj)} {σ:St} {H:Hp} {s:Shared} {A:Around} {E:Value->Shared->Prop} {Q:Value->Shared->Prop} {c:Value} {b:Bool}
inductive ku (K:NR) (H:Hp):V->Value->Prop where
 | non:ku K H .non (.type "NoneType")
 | bl (x:Bool):ku K H (.bl x) (.type "bool")
 | int (i:Int):ku K H (.int i) (.type "int")
 | str (x:Str):ku K H (.str x) (.type "str")
 | flt (x:UInt64):ku K H (.flt x) (.type "float")
 | lst {a:Addr} {xs:List V} (e:H a=some (.lst xs)):ku K H (.ref a) (.type "list")
 | frz {a:Addr} {o:Obj} {xs:List V} (e:H a=some (.frz o (.lst xs))):ku K H (.ref a) (.type "list")
 | tup {a:Addr} {xs:List V} (e:H a=some (.tup xs)):ku K H (.ref a) (.type "tuple")
 | dK {a:Addr} {kvs:List (Key×V)} (e:H a=some (.dK kvs)):ku K H (.ref a) (.type "dict")
 | dT {a:Addr} {kvs:List (List Key×Addr×V)} (e:H a=some (.dT kvs)):ku K H (.ref a) (.type "dict")
 | ins {a C dx:Addr} {fs:List (Str×V)} (e:H a=some (.ins C dx fs)) (cl:NI K C) (ha:Qc K (.ref C) "__class__"=some (some (.builtin "object.__class__")))
  (hn:T9 K (.builtin "object.__class__") "__get__"=some (some (.builtin "getset_descriptor.__get__"))) (htk:PySem.W.takesIn K (.builtin "object.__class__")=some true)
  (hm:SQ K C (.type "object")=some true):ku K H (.ref a) (.ref C)
end
structure gW (k:Nat) (A:Around):Prop where
 hd:A.handled=none
 dp:A.depth+3 * k+5<recursionLimit
 un:A.units+16 * k+200<cLine
theorem gW.mono (r:gW k A) (h:j<=k):gW j A:=⟨r.hd,by have:=r.dp; lia,by have:=r.un; lia⟩
theorem gW.deeper (r:gW (k+1) A) (env:Env):gW k (A.deeper env) :=
 ⟨r.hd,by have:=r.dp; show A.depth+1+3 * k+5<_; lia,by have:=r.un; show A.units+3+16 * k+200<_; lia⟩
theorem gW.depth (r:gW k A):A.depth<recursionLimit:=by have:=r.dp; lia
theorem gW.units (r:gW k A):A.units+64<cLine:=by have:=r.un; lia
noncomputable def MD:TA:=λ_ H Q=>Q [] H
noncomputable def Kr (ta:TE) (tr:TA):TA:=λσ H Q=>ta σ H λx H1=>tr σ H1 λxs H2=>Q (x::xs) H2
theorem dS:PA X [] MD:=λ_ _ _ _ H Q I h=>Calls.spliced_nil ⟨[],H,I,.nil,h⟩
theorem bR (ha:PE X e te) (hr:PA X es t) (hs:starEach (e::es) X.env=(false,eval e X.env)::starEach es X.env:=by rfl):PA X (e::es) (Kr te t):=by
 intro pos aa s σ H Q I h
 rw [hs]
 show wpAny _ _ (spliced ((false,eval e X.env)::backTo pos (starEach es X.env))) _ _ s
 refine T4 (bD (ha aa s σ H _ I h) λu s1 ⟨x,H1,I1,r1,q1⟩=>?_)
 exact bD (hr pos aa s1 σ H1 _ I1 q1) λus s2 ⟨xs,H2,I2,r2,q2⟩=>⟨x::xs,H2,I2,.cons r1 r2,q2⟩
noncomputable def ME (t:TA):TE:=λσ H Q=>t σ H λxs H1=>xs.length<=sizeLine/\∀ p,H1 p=none->Q (.ref p) (upd H1 p (.tup xs))
noncomputable def MF (t:TA):TE:=λσ H Q=>t σ H λxs H1=>xs.length<=sizeLine/\∀ p,H1 p=none->Q (.ref p) (upd H1 p (.lst xs))
theorem yK {x1} (h:PA X es t):PE X (.Tuple es x1 pos) (ME t):=by
 intro aa s σ H Q I hq
 refine wpAny_Tuple_spliced (bD (h pos aa s σ H _ I hq) λus s1 ⟨xs,H1,I1,r,z,q⟩=>⟨by rw [<- r.length]; exact z,?_⟩)
 have hf:H1 s1.heap.objs.size=none:=I1.hok.fresh (NT _)
 refine ⟨.ref s1.heap.objs.size,upd H1 s1.heap.objs.size (.tup xs),I1.laid (t':=s1.toks) (λb u e=>NY _ e) (NT _) ?_,rfl,q _ hf⟩
 exact ⟨z,us,r,⟨_,Ob _ rfl,rfl,_,rfl⟩⟩
theorem GQ (h:PA X es t):PE X (.List es pos) (MF t):=by
 intro aa s σ H Q I hq
 refine wpAny_List_spliced (bD (h pos aa s σ H _ I hq) λus s1 ⟨xs,H1,I1,r,z,q⟩=>⟨by rw [<- r.length]; exact z,?_⟩)
 have hf:H1 s1.heap.objs.size=none:=I1.hok.fresh (NT _)
 refine ⟨.ref s1.heap.objs.size,upd H1 s1.heap.objs.size (.lst xs),I1.laid (t':=s1.toks) (λb u e=>NY _ e) (NT _) ?_,rfl,q _ hf⟩
 exact ⟨z,us,0,r,Ob _ rfl⟩
noncomputable abbrev Sp:=List V->Hp->VK->XK->Prop
noncomputable abbrev GR:=List Env->Hp->Shared->XK->Value->Shared->Prop
structure CM (P:Program) (w:World) (K:NR) (mg:Str->Option Value) (base:Heap) (A:Around) (outer:List Env) (s:Shared) (H:Hp):Prop where
 frames:A.frames=some outer
 mod:Mod K mg base
 bs:∀ b o,base.get? b=some o->s.heap.get? b=some o/\H b=none
 bsz:base.objs.size<=s.heap.objs.size
 ji:s.heap.FunFrames base outer
 frf:∀ b∈frs outer,H b=none
 hok:jh P w H s.heap
 bare:AllBare s.gens
def CE (outer:List Env) (P:Program) (w:World) (H:Hp) (s:Shared) (Q:VK) (u:Value) (s':Shared):Prop :=
 ∃ v H',s'.os=s.os/\AllBare s'.gens/\Un (frs outer) [] H H' s.heap s'.heap/\jh P w H' s'.heap/\RelV v u/\Q v H'
def CR (CX:GR) (outer:List Env) (P:Program) (w:World) (H:Hp) (s:Shared) (Q:VK) (E:XK) (r:Result) (s':Shared):Prop :=
 match r with
 | .ok (.ret u)=>CE outer P w H s Q u s'
 | .ok _=>False
 | .error e=>CX outer H s E e s'
structure bz (P:Program) (w:World) (K:NR) (mg:Str->Option Value) (base:Heap) (CX:GR) (k:Nat) (f:Addr) (fd:FuncData) (ps:List Str) (sp:Sp):Prop where
 len:∀ vs H Q E,sp vs H Q E->vs.length=ps.length
 run:∀ (A:Around) (outer:List Env) (s:Shared) (H:Hp) (args:Args) (us:List Value) (vs:List V) (Q:VK) (E:XK),gW k A->CM P w K mg base A outer s H->BindsTo s fd args (ps.zip us)->Vals vs us->sp vs H Q E ->
  codeAny (model P w) A (.call (.ref f) args) (CR CX outer P w H s Q E) s
theorem bz.mono {K:NR} (F:bz P w K mg base CX j f fd ps sp) (h:j<=k) :
 bz P w K mg base CX k f fd ps sp:=⟨F.len,λA outer s H args us vs Q E hr=>F.run A outer s H args us vs Q E (hr.mono h)⟩
theorem Inv.CN (I:Inv X aa σ H s):CM X.prog X.w X.K X.mg X.base X.A X.stack s H :=
 ⟨I.ok.frames,I.ok.mod,I.bs,N3 I.ok.bsz I.sz,I.stack,I.t8,I.hok,I.bare⟩
theorem Inv.after (I:Inv X aa σ H s) (h:CE X.stack X.prog X.w H s Q u s'):EP X aa σ Q u s':=by
 obtain ⟨v,H',os,bare,un,hok,r,q⟩:=h
 obtain ⟨hh,g,d,t,os'⟩:=s'
 obtain rfl:os'=s.os:=os
 exact ⟨v,H',I.call (h':=hh) (g':=g) (d':=d) (t':=t) (ch:=[]) un hok bare (λb z=>absurd z (by simp)),r,q⟩
def Binds (K:NR) (fd:FuncData) (ps:List Str) (ds:List Value):Prop :=
 ∀ (s:Shared) (us:List Value),K.In s.heap->(us++ds).length=ps.length->BindsTo s fd ⟨us,[]⟩ (ps.zip (us++ds))
theorem Binds.all {K:NR} (h:∀ us:List Value,us.length=ps.length->bindArgs fd ⟨us,[]⟩=pure (ps.zip us)):Binds K fd ps []:=λs us _ hl=>by
 rw [OP] at hl |-
 exact .of_eq (h us hl)
section
variable {X:Cx} {CX:GR} {k:Nat} {f C:Addr} {fd:FuncData} {ps:List Str} {sp:Sp} {dvs:List V} {ds:List Value} {E:XK} {x m:Str} {p pos apos:Pos} {e o:Expr} {es:List Expr} {ta:TE} {t:TA}
structure Mk (K:NR) (C f:Addr):Prop where
 makes:PySem.W.makesIn K C=true
 init:Qc K (.ref C) "__init__"=some (some (.ref f))
 fn:PySem.W.isFn K (.ref f)=true
 kp:PD K (.ref C)=true
end
section
variable {X:Cx} {CX:GR} {k:Nat} {f C:Addr} {fd:FuncData} {ps ks:List Str} {sp:Sp} {E:XK} {x m:Str} {p pos apos kpos:Pos} {e o:Expr} {es:List Expr} {kws:List Keyword} {te ta:TE} {t tk:TA} {nm:Option Str}
structure MG (K:NR) (fd:FuncData) (ps ks:List Str) (g:List Value->List Value->List Value) (gV:List V->List V->List V):Prop where
 to:∀ (s:Shared) (us ws:List Value),K.In s.heap->(g us ws).length=ps.length->BindsTo s fd ⟨us,ks.zip ws⟩ (ps.zip (g us ws))
 rel:∀ {vs:List V} {us:List Value} {zs:List V} {ws:List Value},Vals vs us->Vals zs ws->Vals (gV vs zs) (g us ws)
end
structure nQ (N P:List Str) (sc:Scope):Prop where
 kind:sc.kind=.function
 co:sc.isCoroutine=false
 gen:sc.isGenerator=false
 nd:N.Nodup
 pre:N.take P.length=P
 par:∀ x∈P,sc.names.lookup x=some .local\/sc.names.lookup x=some .cell
 nofree:∀ y∈sc.names,y.2≠.free
theorem mH {kindOf:Str->Option NameKind}:∀ {binds:List (Str×Value)} {m:Str->Option Value},(∀ v,(x,v)∉binds)->bindL kindOf binds m x=m x
 | [],_,_=>rfl
 | (n,v)::r,m,h=>by
  unfold bindL
  rw [mH λw hw=>h w (N6 _ hw)]
  split
  ·have:x≠n:=by rintro rfl; exact h v N2
   simp [this]
  ·rfl
theorem mJ {kindOf:Str->Option NameKind}:∀ {binds:List (Str×Value)} {m:Str->Option Value},(∀ v,(x,v)∉binds)->bindC kindOf binds m x=m x
 | [],_,_=>rfl
 | (n,v)::r,m,h=>by
  unfold bindC
  rw [mJ λw hw=>h w (N6 _ hw)]
  split
  ·rfl
  ·have:x≠n:=by rintro rfl; exact h v N2
   simp [this]
theorem mK {kindOf:Str->Option NameKind}:∀ {P:List Str} {vs:List Value} {i:Nat} {m:Str->Option Value},P.Nodup->P[i]?=some x->vs[i]?=some v->kindOf x=some .local ->
 bindL kindOf (P.zip vs) m x=some v
 | [],_,_,_,_,h,_,_=>by simp at h
 | _::_,[],_,_,_,_,h,_=>by simp at h
 | p::P,w::vs,0,m,nd,h1,h2,hk=>by
  simp at h1 h2; subst h1; subst h2
  show bindL kindOf ((p,w)::P.zip vs) m p=_
  unfold bindL
  rw [mH λv hv=>(O8.mp nd).1 (SA hv).1,if_pos hk]
  simp
 | p::P,w::vs,i+1,m,nd,h1,h2,hk=>by
  show bindL kindOf ((p,w)::P.zip vs) m x=_
  unfold bindL
  exact mK (i:=i) (O8.mp nd).2 (by simpa using h1) (by simpa using h2) hk
theorem mO {kindOf:Str->Option NameKind}:∀ {P:List Str} {vs:List Value} {i:Nat} {m:Str->Option Value},P.Nodup->P[i]?=some x->vs[i]?=some v->kindOf x≠some .local ->
 bindC kindOf (P.zip vs) m x=some v
 | [],_,_,_,_,h,_,_=>by simp at h
 | _::_,[],_,_,_,_,h,_=>by simp at h
 | p::P,w::vs,0,m,nd,h1,h2,hk=>by
  simp at h1 h2; subst h1; subst h2
  show bindC kindOf ((p,w)::P.zip vs) m p=_
  unfold bindC
  rw [mJ λv hv=>(O8.mp nd).1 (SA hv).1,if_neg hk]
  simp
 | p::P,w::vs,i+1,m,nd,h1,h2,hk=>by
  show bindC kindOf ((p,w)::P.zip vs) m x=_
  unfold bindC
  exact mO (i:=i) (O8.mp nd).2 (by simpa using h1) (by simpa using h2) hk
noncomputable def start (N:List Str) (vs:List V):St:=vs.map some++N7 (N.length - vs.length) none
noncomputable def pK (CX:GR) (P:Program) (w:World) (K:NR) (mg:Str->Option Value) (base:Heap) (N:List Str) (qual:Str) (scope:Scope) (f:Addr) (cd:Value) (A:Around) (outer:List Env) (s:Shared) (H:Hp) (E:XK):Cx where
 prog:=P
 w:=w
 K:=K
 mg:=mg
 base:=base
 A:=A.deeper (envOfC qual scope s.heap.objs.size f cd)
 N:=N
 s₀:=s
 H₀:=H
 env:=envOfC qual scope s.heap.objs.size f cd
 outer:=outer
 stack:=envOfC qual scope s.heap.objs.size f cd::outer
 ex:=[]
 calm:=true
 fn:=λ_=>true
 pn:=[]
 xe:=λe s'=>wpAny (model P w) (A.deeper (envOfC qual scope s.heap.objs.size f cd)) (leaving (envOfC qual scope s.heap.objs.size f cd) e) (λ_ s''=>CX outer H s E e s'') (λe' s''=>CX outer H s E e' s'') s'
theorem pM {sc:Scope} (h:sc.names.lookup x=some .cell):∃ c,(cellsFrom n sc.names []).lookup x=some c:=by
 have q:=PySem.W.cellsFrom_some sc.names n [] (.inl h)
 exact Option.isSome_iff_exists.mp q
theorem wI {K:NR}
 (S:nQ N ps scope) (hd:A.handled=none) (e0:CM P w K mg base A outer s H) (hl:vs.length=ps.length) (r:Vals vs us)
 (x:InCallC s s.heap.objs.size (bindL (envOfC qual scope s.heap.objs.size f cd).kindOf (ps.zip us) λ_=>none) (cellsFrom (s.heap.objs.size+1) scope.names []) (bindC (envOfC qual scope s.heap.objs.size f cd).kindOf (ps.zip us) λ_=>none) s1) :
 Inv (pK CX P w K mg base N qual scope f cd A outer s H E) [] (start N vs) H s1:=by
 have hpl:ps.length<=N.length:=by have:=congrArg QG S.pre; rw [OW] at this; lia
 obtain ⟨h1,tk,rfl,hk⟩:=x.done
 have noA:∀ b:Addr,b∉(pK CX P w K mg base N qual scope f cd A outer s H E).ex:=λb z=>absurd (show b∈([]:List Addr) from z) (by simp)
 refine ⟨⟨e0.mod,S.kind,rfl,rfl,NT _,λy z c h1 h2=>?_,λy hy=>?_,λy c _ h=>?_,λ_=>hd,Around.frames_deeper e0.frames,.inr ⟨rfl,rfl⟩,λb z=>absurd z (noA b),e0.bs,e0.bsz,λb _ _=>noA b,λb z=>absurd z (noA b),e0.ji,e0.frf⟩,
  rfl,e0.bare,Un.kept hk,⟨_,x.toInCall.ns,λi y v h1 h2 h3=>?_⟩,λy c h=>⟨_,x.cell y c h⟩,e0.hok.fresh (NT _),λy c h=>?_,λp hp=>absurd (show p∈([]:List (Addr×Obj)) from hp) (by simp),e0.hok.kept hk,?_⟩
 ·exact name_of_addr x.apart (Rk h1) (Rk h2)
 ·have hy:scope.names.lookup y=some .cell\/scope.names.lookup y=some .free:=hy
  rcases hy with hy | hy
  ·exact pM hy
  ·exact absurd rfl (S.nofree _ (Rk hy))
 ·exact Qh (x.above y c (Rk h))
 ·have hi:i<vs.length:=by
   unfold start at h2
   by_cases hi:i<vs.length
   ·exact hi
   ·rw [QN (by simpa using hi)] at h2
    rw [Tw] at h2
    split at h2 <;> cases h2
  have ha:vs[i]?=some v:=by
   unfold start at h2
   rw [P6 (by simpa using hi),NZ] at h2
   cases e:vs[i]? with
   | none=>rw [e] at h2; cases h2
   | some a=>rw [e] at h2; cases h2; rfl
  obtain ⟨u,hu,rv⟩:=r.get ha
  have hp:ps[i]?=some y:=by
   rw [<- S.pre,RW (by lia)]; exact h1
  have ndP:ps.Nodup:=by rw [<- S.pre]; exact S.nd.sublist (Sm _ _)
  refine ⟨u,rv,?_⟩
  rcases S.par y (O3 hp) with k | k
  ·exact .inl ⟨k,mK ndP hp hu k⟩
  ·obtain ⟨c,e⟩:=pM (n:=s.heap.objs.size+1) k
   refine .inr ⟨.inl k,c,e,?_⟩
   have q:=x.cell y c e
   rw [mO ndP hp hu (by show scope.names.lookup y≠_; rw [k]; decide)] at q
   exact q
 ·exact e0.hok.fresh (Qh (x.above y c (Rk h)))
 ·unfold start
  show _=N.length
  rw [OF,NX,List.length_replicate]
  lia
theorem yL {K:NR} {dV kV doc pm cdv ct oc:Value}
 (lk:K.lookup f=some ⟨oc,od,.func (PR name qual params body scope dV kV doc pm an cdv ct),osl⟩) (hcd:SJ K cdv qual=true) (S:nQ N ps scope)
  (len:∀ vs H Q E,sp vs H Q E->vs.length=ps.length)
  (hbody:∀ (A:Around) (outer:List Env) (s:Shared) (H:Hp) (vs:List V) (Q:VK) (E:XK),gW k (A.deeper (envOfC qual scope s.heap.objs.size f cdv))->sp vs H Q E ->
    ∃ t,rM (pK CX P w K mg base N qual scope f cdv A outer s H E) body t/\t { nx:=λ_ H'=>Q .non H',rt:=Q } (start N vs) H) :
  bz P w K mg base CX (k+1) f (PR name qual params body scope dV kV doc pm an cdv ct) ps sp:=by
  refine ⟨len,λA outer s H args us vs Q E hr e0 hb r pF=>?_⟩
  have hl:=len _ _ _ _ pF
  have KX:K.In s.heap:=e0.mod.kin.keeps λb o e=>(e0.bs b o e).1
  have lim:s.heap.NoLimit:=e0.mod.nolimit.keeps λb o e=>(e0.bs b o e).1
  have hkind:∀ y∈ps.zip us,scope.names.lookup y.1=some .local\/(scope.names.lookup y.1=some .cell/\((cellsFrom (s.heap.objs.size+1) scope.names []).lookup y.1).isSome=true):=λ⟨n,v⟩ hy=>by
   rcases S.par n (SA hy).1 with q | q
   ·exact .inl q
   ·exact .inr ⟨q,PySem.W.cellsFrom_some _ _ _ (.inl q)⟩
  refine codeAny_call_function hr.depth (KX _ _ lk) rfl S.co S.gen rfl (PySem.W.codeRec_of KX hcd) (hb _ _ _ _ ?_)
  refine wpAny_newFunctionEnv_cells S.kind hkind λenv he s1 x=>?_
  subst he
  refine ⟨lim.keeps x.toInCall.keep,codeAny_func ?_⟩
  obtain ⟨t,ht,hq⟩:=hbody A outer s H vs Q E (hr.deeper _) pF
  have I:Inv (pK CX P w K mg base N qual scope f cdv A outer s H E) [] (start N vs) H s1:=wI S hr.hd e0 hl r x
  refine OI (ht [] s1 (start N vs) H _ I hq) (λfl s' hs=>?_) λe s' hs=>hs
  have fin:∀ {σ':St} {H':Hp} {v:V} {u:Value},Inv (pK CX P w K mg base N qual scope f cdv A outer s H E) [] σ' H' s'->RelV v u->Q v H'->CE outer P w H s Q u s' :=
   λ{σ' H' v u} J rv q=>⟨v,H',J.os,J.bare,J.base,J.hok,rv,q⟩
  cases fl with
  | ret u =>
   obtain ⟨v,σ',H',J,rv,q⟩:=hs
   exact fin J rv q
  | next =>
   obtain ⟨σ',H',J,q⟩:=hs
   exact fin (v:=V.non) (u:=OX) J rfl q
  | brk =>
   obtain ⟨_,_,_,q⟩:=hs
   exact OT q
  | cont =>
   obtain ⟨_,_,_,q⟩:=hs
   exact OT q
section
variable {id T:String}
noncomputable def Nm (r:List V->Hp->VK->Prop) (t:TA):TE:=λσ H Q=>t σ H λvs H1=>r vs H1 Q
theorem yM (hc:f7 X (.builtin id) r) (hg:Gl X x) (hm:X.mg x=none) (hv:bootBuiltins x=some (.builtin id)) (ha:PA X (e::es) t) (hn:x≠"__name__":=by decide) (hdb:(x == ("__debug__":Str))=false:=by decide)
 (he:starEach (e::es) X.env=(false,eval e X.env)::starEach es X.env:=by rfl) (hpl:(backTo pos (starEach es X.env)).any (·.1)=false:=by rfl):PE X (.Call (.Name x p) (e::es) [] pos) (Nm r t):=by
 intro aa s σ H Q I h
 refine Pz (dR I hg hm hv ?_ hn hdb)
 exact Ti (bD (ha pos aa s σ H _ I h) λus s1 ⟨vs,H1,I1,r1,q1⟩=>hc aa s1 σ H1 vs us Q I1 r1 q1) he hpl
theorem mP (hc:f7 X (.type T) r) (hg:Gl X x) (hm:X.mg x=none) (hv:bootBuiltins x=some (.type T)) (ha:PA X (e::es) t) (hn:x≠"__name__":=by decide) (hdb:(x == ("__debug__":Str))=false:=by decide)
 (he:starEach (e::es) X.env=(false,eval e X.env)::starEach es X.env:=by rfl) (hpl:(backTo pos (starEach es X.env)).any (·.1)=false:=by rfl):PE X (.Call (.Name x p) (e::es) [] pos) (Nm r t):=by
 intro aa s σ H Q I h
 refine Pz (dR I hg hm hv ?_ hn hdb)
 exact Rf (bD (ha pos aa s σ H _ I h) λus s1 ⟨vs,H1,I1,r1,q1⟩=>hc aa s1 σ H1 vs us Q I1 r1 q1) he hpl
end
end L2
namespace HT
open PySem PyProof.Rows
noncomputable def lexLt:List Int->List Int->Bool
 | [],[]=>false
 | [],_::_=>true
 | _::_,[]=>false
 | x::xs,y::ys=>if x=y then lexLt xs ys else decide (x<y)
theorem cN (x y) (xs ys):lexLt (x::xs) (y::ys)=if x=y then lexLt xs ys else decide (x<y):=rfl
theorem gZ:lexLt [] []=false:=rfl
theorem f9 (y) (ys):lexLt [] (y::ys)=true:=rfl
theorem gc (x) (xs):lexLt (x::xs) []=false:=rfl
theorem yN (A:Around) (s) (a) (t:Tok) (c) (u:Tok):∃ e,Oo A s (.int a t) (.int c u) e/\(e=true↔a=c) :=
 ⟨(a == c),Oo.int_int a t c u,by simp⟩
theorem yO (A:Around) (s) (a) (t:Tok) (c) (u:Tok) (prog) (w) (E) (Q) (h:Q (.bool (decide (a<c))) s) :
 wpAny (model prog w) A (richCompare .Lt (.int a t) (.int c u)) Q E s :=
 (PyProof.Rows.lt_int h:wpAny (model prog w) A (compareOp .Lt (.int a t) (.int c u)) Q E s)
section
open PySem.SeqAt
open PySem.AutoSeq1 (wpAny_loadPart')
open PySem.MeetsSeq PySem.MeetsSeq2 PySem.MeetsSeq3
theorem g6 (l b) (items items2) (n n2) (dd dd2) (sl sl2) (ns ms) (hi:IntsAre items.toList ns) (hj:IntsAre items2.toList ms) :
 Meets (Builtin.«tuple.__lt__» ⟨[.ref l,.ref b],[]⟩)
  (λ_ R s=>s.heap.get? l=some { cls:=.type "tuple",dict:=dd,data:=.seq items n,slots:=sl }/\s.heap.get? b=some { cls:=.type "tuple",dict:=dd2,data:=.seq items2 n2,slots:=sl2 } /\
    R (.ok (.ret (.bool (lexLt ns ms)))) s) :=
 .of_wp λprog w A R s h=>by
  obtain ⟨hp,g,d,tk,os⟩:=s; obtain ⟨hl,hb,h⟩:=h
  have f2:=AutoSeq1.sub_tuple_tuple
  have z1:items.size=ns.length:=by rw [<- hi.length]; simp
  have z2:items2.size=ms.length:=by rw [<- hj.length]; simp
  wp_walk using wpAny_loadPart' hl,wpAny_loadPart' hb,wpAny_forIn_list _ (λrest b s'=>b.1=none/\s'=⟨hp,g,d,tk,os⟩/\∃ (vs ws:List Value) (ns' ms':List Int),rest=vs.zip ws /\
   IntsAre vs ns'/\IntsAre ws ms'/\ns'.length+items2.size=ms'.length+items.size/\R (.ok (.ret (.bool (lexLt ns' ms')))) ⟨hp,g,d,tk,os⟩) _
  case turn =>
   rintro ⟨y,x⟩ rest b s' ⟨hb',rfl,vs,ws,ns',ms',hz,hvi,hwi,hlen,hR⟩
   cases hvi with
   | nil=>rw [List.zip_nil_left] at hz; cases hz
   | cons a t hvi' =>
    cases hwi with
    | nil=>rw [List.zip_nil_right] at hz; cases hz
    | cons c u hwi' =>
     rw [Sf] at hz
     injection hz with hyx hrest
     injection hyx with hy hx
     subst hy hx
     rw [cN] at hR
     simp only [Oz] at hlen
     obtain ⟨e,he,hiff⟩:=yN A.in1 ⟨hp,g,d,tk,os⟩ a t c u
     refine NP (he prog w _ _ ?_)
     cases e with
     | true =>
      rw [if_pos (hiff.mp rfl)] at hR
      wp_walk
      exact ⟨rfl,rfl,_,_,_,_,hrest,hvi',hwi',by lia,hR⟩
     | false =>
      rw [if_neg (λq=>absurd (hiff.mpr q) N5)] at hR
      have hri:=yO A.in1 ⟨hp,g,d,tk,os⟩ a t c u prog w
      wp_walk using hri
      exact ⟨_,rfl,by simpa using hR⟩
  case fin =>
   rintro ⟨b1,b2⟩ s' ⟨hb',rfl,vs,ws,ns',ms',hz,hvi,hwi,hlen,hR⟩
   simp only at hb'
   subst hb'
   have hv:lexLt ns' ms'=decide (items.size<items2.size):=by
    cases hvi with
    | nil =>
     cases hwi with
     | nil =>
      simp only [PB] at hlen
      rw [gZ]
      exact (decide_eq_false (by lia)).symm
     | cons c u hw =>
      simp only [PB,Oz] at hlen
      rw [f9]
      exact (decide_eq_true (by lia)).symm
    | cons a t hv =>
     cases hwi with
     | nil =>
      simp only [PB,Oz] at hlen
      rw [gc]
      exact (decide_eq_false (by lia)).symm
     | cons c u hw =>
      rw [Sf] at hz
      cases hz
   rw [hv] at hR
   wp_walk
   exact ⟨_,rfl,by simpa [Builtin.Tuple.tupleCompareSizes] using hR⟩
  case h =>
   exact ⟨rfl,rfl,items.toList,items2.toList,ns,ms,rfl,hi,hj,by lia,h⟩
end
theorem rZ (hl:IsTup s.heap l items) (hb:IsTup s.heap b items2) (hi:IntsAre items.toList ns) (hj:IntsAre items2.toList ms)
 (hu:A.units<cLine) (h:Q (.bool (lexLt ns ms)) s):wpAny (model prog w) A (compareOp .Lt (.ref l) (.ref b)) Q E s:=by
 obtain ⟨⟨cls,dd,data,sl⟩,ho,hc,n,hd⟩:=id hl
 obtain ⟨⟨cls2,dd2,data2,sl2⟩,ho2,hc2,n2,hd2⟩:=id hb
 simp only at hc hd hc2 hd2
 subst hc hd hc2 hd2
 exact richCompare_meets_room (op:=.Lt) ⟨_,ho,rfl⟩ ⟨_,ho2,rfl⟩ TL PySem.F.entry_tuple_lt (PySem.F.args_tuple_lt_2 _ _) (g6 l b items items2 n n2 dd dd2 sl sl2 ns ms hi hj)
  ⟨ho,ho2,show Value.bool (lexLt ns ms)≠Value.notImplemented/\Q (.bool (lexLt ns ms)) s from ⟨(λx=>nomatch x),h⟩⟩ hu
noncomputable def cz (n d:Nat):Option Int->Nat
 | none=>d
 | some v=>if v<0 then (v+(n:Int)).toNat else min v.toNat n
theorem pN (n d):cz n d none=d:=rfl
theorem um (n d k:Nat):cz n d (some (k:Int))=min k n:=by
 show (if (k:Int)<0 then ((k:Int)+(n:Int)).toNat else min (k:Int).toNat n)=min k n
 rw [if_neg (by lia),OH]
theorem GS (n d) (hd:d<=n) (o):cz n d o<=n:=by
 cases o with
 | none=>exact hd
 | some v =>
  show (if v<0 then (v+(n:Int)).toNat else min v.toNat n)<=n
  by_cases hv:v<0
  ·rw [if_pos hv]; lia
  ·rw [if_neg hv]; exact Nat.min_le_right _ _
theorem uo (v) (n d:Nat):(if v<0 then max (v+(n:Int)) 0 else min v (n:Int))=((cz n d (some v):Nat):Int):=by
 show (if v<0 then max (v+(n:Int)) 0 else min v (n:Int))=(((if v<0 then (v+(n:Int)).toNat else min v.toNat n):Nat):Int)
 by_cases hv:v<0
 ·simp only [if_pos hv]; lia
 ·simp only [if_neg hv]; lia
theorem r6 (lo hi) (n:Nat):Tq lo hi 1 (n:Int)=(((cz n 0 lo:Nat):Int),((cz n n hi:Nat):Int)):=by
 have h1:¬ ((1:Int)<0):=by lia
 unfold Tq
 simp only [h1,if_false]
 refine Prod.ext ?_ ?_
 ·cases lo with
  | none=>rfl
  | some v=>exact uo v n 0
 ·cases hi with
  | none=>rfl
  | some v=>exact uo v n n
theorem r8 (i j:Nat):RU (i:Int) (j:Int) 1=j - i:=by
 unfold RU
 have h1:(1:Int)>0:=by lia
 simp only [h1,if_true,Int.ediv_one]
 split <;> lia
theorem kB (p:IsPart v o) (h:Q o s):wpAny (model prog w) A (Builtin.Slice.slicePartIndex v) Q E s:=by
 cases p with
 | none=>exact slicePart_none h
 | int i t=>exact slicePart_int h
theorem fy {sl:Addr} {vl vu:Value} {lo hi:Option Int} {n:Nat} {Q:Int×Int×Nat->Shared->Prop} (hs:s.heap.IsSliceOf sl vl vu .none) (pl:IsPart vl lo) (pu:IsPart vu hi)
 (h:Q (((cz n 0 lo:Nat):Int),1,cz n n hi - cz n 0 lo) s):wpAny (model prog w) A (Builtin.Slice.sliceApplied (.ref sl) (pure (n:Int))) Q E s:=by
 obtain ⟨os,hos,hcs,hds⟩:=id hs
 unfold Builtin.Slice.sliceApplied Builtin.Slice.sliceFields
 refine NP (NP (PU hos hds (x:=vl) rfl (NP (PU hos hds (x:=vu) rfl (NP (PU hos hds (x:=.none) rfl (NS ?_)))))))
 refine NP (slicePart_none ?_)
 show wpAny _ _ (if ((1:Int) == 0)=true then _ else _) _ _ s
 rw [if_neg (by decide)]
 refine NP (kB pl (NP (kB pu (NP (NS ?_)))))
 show wpAny _ _ (match Tq lo hi 1 (n:Int) with | (lo,hi)=>pure (lo,(1:Int),RU lo hi 1)) _ _ s
 rw [r6 lo hi n]
 show wpAny _ _ (pure (((cz n 0 lo:Nat):Int),(1:Int),RU ((cz n 0 lo:Nat):Int) ((cz n n hi:Nat):Int) 1)) _ _ s
 rw [r8]
 exact NS h
theorem yP (xs:Array Value) (i k:Nat):((OD k).filterMap λ(m:Nat)=>xs[((i:Int)+(m:Int) * 1).toNat]?).toArray=((xs.toList.drop i).take k).toArray:=by
 have e:(λ(m:Nat)=>xs[((i:Int)+(m:Int) * 1).toNat]?)=λm=>xs[i+m]?:=by
  funext m
  have:((i:Int)+(m:Int) * 1).toNat=i+m:=by lia
  rw [this]
 rw [e]
 have:=pick_run xs i k
 rw [Sg] at this
 have e2:((λx=>xs[x]?)∘λx=>i+x)=λm=>xs[i+m]?:=rfl
 rw [e2] at this
 rw [this]
theorem iJ {lo hi:Option Int} (ht:IsTup s.heap t items) (hs:s.heap.IsSliceOf sl vl vu .none) (pl:IsPart vl lo) (pu:IsPart vu hi)
 (hw:¬ (cz items.size 0 lo=0/\cz items.size items.size hi=items.size))
 (h:Q (.ref s.heap.objs.size) { s with heap:=s.heap.push { cls:=.type "tuple",data:=.seq ((items.toList.drop (cz items.size 0 lo)).take (cz items.size items.size hi - cz items.size 0 lo)).toArray } })
 (hsz:items.size<=sizeLine):wpAny (model prog w) A (getItem (.ref t) (.ref sl)) Q E s:=by
 have htake:sizeOk (.seq ((items.toList.drop (cz items.size 0 lo)).take (cz items.size items.size hi - cz items.size 0 lo)).toArray):=by
  show ((items.toList.drop (cz items.size 0 lo)).take (cz items.size items.size hi - cz items.size 0 lo)).toArray.size<=sizeLine
  rw [Of,OW,Sw,OM]
  lia
 have hj:cz items.size items.size hi<=items.size:=GS _ _ (NT _) hi
 obtain ⟨os,hos,hcs,hds⟩:=id hs
 have hTs:s.TypeIs (.ref sl) "slice":=⟨os,hos,hcs⟩
 unfold getItem
 try with_reducible refine O6 ?_
 first | refine NP (NS ?_) | skip
 refine NP (T5 ht.typeIs (by decide) ?_)
 refine NP (P7 (name:=NQ "__getitem__") ht.typeIs QK
  (Pq QK ht.typeIs entry_tuple_getitem ?_ (args_tuple_getitem _ _)))
 show wpAny _ _ (Builtin.Tuple.tupleItemsOf (.ref t) >>= _) _ _ s
 refine NP (tupleItemsOf_ ht ?_)
 refine NP (Qf hTs ?_)
 rw [if_pos (by decide)]
 refine NP (fy hs pl pu ?_)
 have hno:¬ ((((cz items.size 0 lo:Nat):Int) == 0 && (1:Int) == 1 && (cz items.size items.size hi - cz items.size 0 lo) == items.size)=true):=by
  intro q
  rw [Rq,Rq] at q
  have q1:((cz items.size 0 lo:Nat):Int)=0:=eq_of_beq q.1.1
  have q2:cz items.size items.size hi - cz items.size 0 lo=items.size:=eq_of_beq q.2
  exact hw ⟨by lia,by lia⟩
 show wpAny _ _ (if (((cz items.size 0 lo:Nat):Int) == 0 && (1:Int) == 1 && (cz items.size items.size hi - cz items.size 0 lo) == items.size)=true then _ else _) _ _ s
 rw [if_neg hno,yP]
 first
  | exact NP (m:=RZ _) (O0 (NS ⟨_,rfl,NS h⟩) htake)
  | exact NP (m:=RZ _) (O0 (NP (NS (NS ⟨_,rfl,NS h⟩))) htake)
  | exact NP (NP (m:=RZ _) (O0 (NS (NS ⟨_,rfl,NS h⟩)) htake))
  | exact NP (NP (m:=RZ _) (O0 (NS ⟨_,rfl,NS h⟩) htake))
end HT
namespace L2
open PySem PySem.Spec PyProof.Rows
noncomputable abbrev TO:=St->Hp->(Option Int->Hp->Prop)->Prop
def PO (X:Cx) (e:Option Expr) (t:TO):Prop :=
 ∀ (aa:List (Addr×Obj)) (s:Shared) (σ:St) (H:Hp) (Q:Option Int->Hp->Prop),Inv X aa σ H s->t σ H Q ->
  wpAny (model X.prog X.w) X.A (evalPart e X.env) (λu s'=>∃ o H',Inv X aa σ H' s'/\IsPart u o/\Q o H') X.xe s
noncomputable def CO:TO:=λ_ H Q=>Q none H
noncomputable def Ks (t:TE):TO:=λσ H Q=>t σ H λx H1=>∃ i,x=.int i/\Q (some i) H1
theorem intsAre_of:∀ {us:List Value},Vals (ns.map V.int) us->IntsAre us ns:=by
 induction ns with
 | nil=>intro us r; rw [PF] at r; cases r; exact .nil
 | cons n ns ih =>
  intro us r
  rw [NW] at r
  cases r with
  | cons r1 r2 =>
   obtain ⟨t,e⟩:=r1
   subst e
   exact .cons n t (ih r2)
section
variable {lo hi:Option Expr}
theorem CP:PO X none CO:=by
 intro aa s σ H Q I h
 rw [evalPart_none]
 exact NS ⟨none,H,I,.none,h⟩
theorem CQ (h:PE X e te):PO X (some e) (Ks te):=by
 intro aa s σ H Q I hw
 rw [evalPart_some]
 refine bD (h aa s σ H _ I hw) λu s1 ⟨x,H1,I1,r1,q1⟩=>?_
 obtain ⟨i,rfl,q⟩:=q1
 obtain ⟨t,rfl⟩:=r1
 exact ⟨some i,H1,I1,.int i t,q⟩
def Cv (X:Cx) (r:V->Option Int->Option Int->Hp->VK->Prop):Prop :=
 ∀ (aa:List (Addr×Obj)) (s:Shared) (σ:St) (H:Hp) (x:V) (v vl vu:Value) (lo hi:Option Int) (sl:Addr) (Q:VK),Inv X aa σ H s->RelV x v->s.heap.IsSliceOf sl vl vu .none->IsPart vl lo->IsPart vu hi->r x lo hi H Q ->
  ∃ T id,typeLookup (.type T) "__getitem__"=pure (some (.builtin id))/\s.TypeIs v T/\wpAny (model X.prog X.w) X.A (getItem v (.ref sl)) (EP X aa σ Q) X.xe s
theorem Cv.or (h:Cv X r) (h':Cv X r'):Cv X (λx lo hi H Q=>r x lo hi H Q\/r' x lo hi H Q):=by
 intro aa s σ H x v vl vu lo hi sl Q I rx hs pl pu q
 rcases q with q | q
 ·exact h aa s σ H x v vl vu lo hi sl Q I rx hs pl pu q
 ·exact h' aa s σ H x v vl vu lo hi sl Q I rx hs pl pu q
noncomputable def NJ (r:V->Option Int->Option Int->Hp->VK->Prop) (te:TE) (tl th:TO):TE:=λσ H Q=>te σ H λx H1=>tl σ H1 λl H2=>th σ H2 λu H3=>r x l u H3 Q
theorem yQ (hr:Cv X r) (he:PE X e te) (hl:PO X lo tl) (hu:PO X hi th):PE X (.Subscript e (.Slice lo hi none p2) pos) (NJ r te tl th):=by
 intro aa s σ H Q I h
 refine Subscript_ (bD (he aa s σ H _ I h) λv s1 ⟨x,H1,I1,r1,q1⟩=>?_)
 refine wpAny_Slice (bD (hl aa s1 σ H1 _ I1 q1) λvl s2 ⟨l,H2,I2,pl,q2⟩=>bD (hu aa s2 σ H2 _ I2 q2) λvu s3 ⟨u,H3,I3,pu,q3⟩=>?_)
 rw [evalPart_none]
 refine NS ?_
 have I4:Inv X aa σ H3 { s3 with heap:=s3.heap.push { cls:=.type "slice",data:=.fields #[vl,vu,.none] } }:=I3.kept (t':=s3.toks) λb ob q=>NY _ q
 obtain ⟨T,id,hT,ht,hg⟩:=hr aa { s3 with heap:=s3.heap.push { cls:=.type "slice",data:=.fields #[vl,vu,.none] } } σ H3 x v vl vu l u s3.heap.objs.size Q I4 r1 (Heap.IsSliceOf.new ..) pl pu q3
 show wpAny (model X.prog X.w) X.A (subscriptTail e (.Slice lo hi none p2) v (.ref s3.heap.objs.size)) (EP X aa σ Q) X.xe { s3 with heap:=s3.heap.push { cls:=.type "slice",data:=.fields #[vl,vu,.none] } }
 exact tail_any (ops:=[.ref s3.heap.objs.size,v]) ht hT hg (by walk_at "u")
noncomputable def nR (xs:List V) (lo hi:Option Int):List V:=(xs.drop (HT.cz xs.length 0 lo)).take (HT.cz xs.length xs.length hi - HT.cz xs.length 0 lo)
theorem jH (xs) (lo hi):(nR xs lo hi).length<=xs.length:=by
 unfold nR
 rw [OW,Sw]
 lia
noncomputable def MH (K:NR):V->Option Int->Option Int->Hp->VK->Prop:=λx lo hi H Q=>∃ a xs,x=.ref a/\dB K H a xs /\
 ¬ (HT.cz xs.length 0 lo=0/\HT.cz xs.length xs.length hi=xs.length)/\∀ p,H p=none->Q (.ref p) (upd H p (.tup (nR xs lo hi)))
theorem GU:Cv X (MH X.K):=by
 intro aa s σ H x v vl vu lo hi sl Q I rx hs pl pu h
 obtain ⟨a,xs,rfl,hx,hw,q⟩:=h
 cases rx
 obtain ⟨its,r,ht,hz⟩:=I.tuple hx
 have hlen:its.toArray.size=xs.length:=by rw [Of]; exact r.length.symm
 refine ⟨"tuple",_,QK.lookup,ht.typeIs,?_⟩
 refine HT.iJ ht hs pl pu (by rw [hlen]; exact hw) ?_ (by rw [hlen]; exact hz)
 rw [hlen]
 refine ⟨.ref s.heap.objs.size,_,I.laid (t':=s.toks) (o:=.tup (nR xs lo hi)) (λb ob q=>NY _ q) (NT _) ?_,rfl,q _ (I.hok.fresh (NT _))⟩
 exact ⟨N3 (jH xs lo hi) hz,_,(r.drop (HT.cz xs.length 0 lo)).take (HT.cz xs.length xs.length hi - HT.cz xs.length 0 lo),IsTup.new _ _⟩
theorem Vals.uq (r:Vals xs us):us=[]↔xs=[]:=by
 cases r with
 | nil=>simp
 | cons _ _=>simp
end
noncomputable def JS (n:Nat) (i:Int):Option Nat:=if 0<=i then (if i<n then some i.toNat else none) else if -(n:Int)<=i then some (i+n).toNat else none
noncomputable def jI {α:Type} (xs:List α) (i:Int):Option α:=(JS xs.length i).bind λj=>xs[j]?
theorem CS (h:JS n i=some j):seqIndex? i n=some j/\j<n/\ -(n:Int)<=i/\i<n:=by
 unfold JS at h
 by_cases h0:0<=i
 ·rw [if_pos h0] at h
  by_cases h1:i<n
  ·rw [if_pos h1] at h
   have e:i.toNat=j:=Pr h
   exact ⟨by rw [seqIndex_of h0 h1,e],by lia,by lia,h1⟩
  ·rw [if_neg h1] at h; cases h
 ·rw [if_neg h0] at h
  by_cases h1: -(n:Int)<=i
  ·rw [if_pos h1] at h
   have e:(i+n).toNat=j:=Pr h
   exact ⟨by rw [seqIndex_neg (by lia) h1,e],by lia,h1,by lia⟩
  ·rw [if_neg h1] at h; cases h
theorem uu (h:jI xs i=some v):∃ j,seqIndex? i xs.length=some j/\xs[j]?=some v/\j<xs.length/\ -(xs.length:Int)<=i/\i<xs.length:=by
 unfold jI at h
 cases e:JS xs.length i with
 | none=>rw [e] at h; cases h
 | some j =>
  rw [e] at h
  obtain ⟨h1,h2,h3,h4⟩:=CS e
  exact ⟨j,h1,h,h2,h3,h4⟩
def gJ (b:Expr):Prop:=∀ o i,subscripted b false o i=operate [o,i] (getItem o i)
def Fl (X:Cx) (r:R2):Prop :=
 ∀ (value slice:Expr) (aa:List (Addr×Obj)) (s:Shared) (σ:St) (H:Hp) (x y:V) (v u:Value) (Q:VK),Inv X aa σ H s->RelV x v->RelV y u->r x y H Q ->
  subscripted slice false v u=operate [v,u] (getItem v u)->wpAny (model X.prog X.w) X.A (subscriptTail value slice v u) (EP X aa σ Q) X.xe s
def MI (X:Cx) (id:String) (r:V->List V->Hp->VK->Prop):Prop :=
 ∀ (aa:List (Addr×Obj)) (s:Shared) (σ:St) (H:Hp) (x:V) (xs:List V) (v:Value) (us:List Value) (Q:VK),Inv X aa σ H s->RelV x v->Vals xs us->r x xs H Q ->
  wpAny (model X.prog X.w) X.A (call (.builtin id) (v::us)) (EP X aa σ Q) X.xe s
section
theorem Fl.or (h:Fl X r) (h':Fl X r'):Fl X (λx y H Q=>r x y H Q\/r' x y H Q):=by
 intro value slice aa s σ H x y v u Q I rx ry q hs
 rcases q with q | q
 ·exact h value slice aa s σ H x y v u Q I rx ry q hs
 ·exact h' value slice aa s σ H x y v u Q I rx ry q hs
theorem yR (hr:Fl X r) (ha:PE X a ta) (hb:PE X b tb) (hs:gJ b):PE X (.Subscript a b pos) (LZ r ta tb):=by
 intro aa s σ H Q I h
 exact Subscript_ (GF ha hb I h λv u s2 x y H2 I2 rx ry q=>hr a b aa s2 σ H2 x y v u Q I2 rx ry q (hs _ _))
noncomputable def MJ (K:NR):R2:=λx y H Q=>∃ p xs i v,x=.ref p/\y=.int i/\gI K H p xs/\jI xs i=some v/\Q v H
noncomputable def MK (K:NR):R2:=λx y H Q=>∃ p xs i v,x=.ref p/\y=.int i/\dB K H p xs/\jI xs i=some v/\Q v H
theorem nS:Fl X (MJ X.K):=by
 intro value slice aa s σ H x y v u Q I rx ry h hs
 obtain ⟨p,xs,i,z,rfl,rfl,hq,he,q⟩:=h
 cases rx
 obtain ⟨t,rfl⟩:=ry
 obtain ⟨its,r,pl,hz⟩:=I.list hq
 obtain ⟨j,h1,h2,h3,h4,h5⟩:=uu he
 obtain ⟨w,ew,rw'⟩:=r.get h2
 have hl:=r.length
 have hn:=nP
 have fin:EP X aa σ Q w s:=⟨z,H,I,rw',q⟩
 by_cases h0:0<=i
 ·have hj:i.toNat=j:=by
   rw [seqIndex_of h0 h5] at h1
   exact Pr h1
  exact item_listR pl.isList h0 (by lia) (by rw [hj]; simpa using ew) fin hs
 ·have hj:(i+(its.toArray.size:Int)).toNat=j:=by
   rw [seqIndex_neg (by lia) h4] at h1
   rw [Of,<- hl]
   exact Pr h1
  exact subscriptTail_builtinR (x:=w) pl.isList.typeIs T8.lookup
   (wpAny_getItem_list_neg (Q:=λr s'=>r=w/\EP X aa σ Q r s') pl.isList (by lia) (by rw [Of] <;> lia) (by lia) (by rw [hj]; simpa using ew) ⟨rfl,fin⟩) hs
theorem GV:Fl X (MK X.K):=by
 intro value slice aa s σ H x y v u Q I rx ry h hs
 obtain ⟨p,xs,i,z,rfl,rfl,hq,he,q⟩:=h
 cases rx
 obtain ⟨t,rfl⟩:=ry
 obtain ⟨its,r,pl,hz⟩:=I.tuple hq
 obtain ⟨j,h1,h2,h3,h4,h5⟩:=uu he
 obtain ⟨w,ew,rw'⟩:=r.get h2
 have hl:=r.length
 have hn:=nP
 have fin:EP X aa σ Q w s:=⟨z,H,I,rw',q⟩
 exact subscriptTail_builtinR (x:=w) pl.typeIs slot_tuple_getitem.lookup
  (getItem_tuple (j:=j) (Q:=λr s'=>r=w/\EP X aa σ Q r s') pl (by lia) (by lia) (by rw [Of,<- hl]; exact h1) (by simpa using ew) ⟨rfl,fin⟩) hs
theorem nT (lo hi) (n):(sliceBounds lo hi none n).1=((HT.cz n 0 lo:Nat):Int)/\(sliceBounds lo hi none n).2.1=((HT.cz n n hi:Nat):Int)/\(sliceBounds lo hi none n).2.2=1:=by
 refine ⟨?_,?_,rfl⟩
 ·cases lo with
  | none=>simp [sliceBounds,HT.cz]
  | some i =>
   simp only [sliceBounds,HT.cz,Option.getD_none,show (1:Int)>0 by decide,if_true]
   by_cases h:i<0
   ·simp only [h,if_true] <;> lia
   ·simp only [h,if_false] <;> lia
 ·cases hi with
  | none=>simp [sliceBounds,HT.cz]
  | some i =>
   simp only [sliceBounds,HT.cz,Option.getD_none,show (1:Int)>0 by decide,if_true]
   by_cases h:i<0
   ·simp only [h,if_true] <;> lia
   ·simp only [h,if_false] <;> lia
theorem lW (its:List Value) (lo hi):slicePick its.toArray lo hi none=((its.drop (HT.cz its.length 0 lo)).take (HT.cz its.length its.length hi - HT.cz its.length 0 lo)).toArray:=by
 obtain ⟨h1,h2,h3⟩:=nT lo hi its.toArray.size
 unfold slicePick
 rw [h1,h2,h3]
 simp only [sliceRange_one,pick_run,Of] <;> rfl
noncomputable def ML (K:NR):V->Option Int->Option Int->Hp->VK->Prop:=λx lo hi H Q=>∃ a xs,x=.ref a/\gI K H a xs/\∀ p,H p=none->Q (.ref p) (upd H p (.lst (nR xs lo hi)))
theorem CT:Cv X (ML X.K):=by
 intro aa s σ H x v vl vu lo hi sl Q I rx hs pl pu h
 obtain ⟨a,xs,rfl,hx,q⟩:=h
 cases rx
 obtain ⟨its,r,ht,hz⟩:=I.list hx
 have hlen:=r.length
 refine ⟨"list",_,T8.lookup,ht.isList.typeIs,?_⟩
 refine wpAny_getItem_list_slice ht.isList hs pl pu .none (by simp) ?_ (by rw [Of] <;> lia)
 rw [lW,<- hlen]
 refine ⟨.ref s.heap.objs.size,_,I.laid (t':=s.toks) (o:=.lst (nR xs lo hi)) (λb ob q=>NY _ q) (NT _) ?_,rfl,q _ (I.hok.fresh (NT _))⟩
 exact ⟨N3 (jH xs lo hi) hz,_,0,(r.drop (HT.cz xs.length 0 lo)).take (HT.cz xs.length xs.length hi - HT.cz xs.length 0 lo),Ob _ rfl⟩
theorem nU:f7 X (.builtin "len") (λxs H Q=>∃ p ys,xs=[.ref p]/\(gI X.K H p ys\/dB X.K H p ys)/\Q (.int ys.length) H):=by
 intro aa s σ H xs us Q I r h
 obtain ⟨p,ys,rfl,hq,q⟩:=h
 obtain ⟨u,rfl,rx⟩:=vals1 r
 cases rx
 have hn:=nP
 rcases hq with hq | hq
 ·obtain ⟨its,r',pl,hz⟩:=I.list hq
  have hlen:=r'.length
  exact Calls.call_len_list pl.isList (by simp only [Of] <;> lia) ⟨.int ys.length,H,I.tok _,⟨s.toks+1,by rw [Of,hlen]⟩,q⟩
 ·obtain ⟨its,r',pl,hz⟩:=I.tuple hq
  have hlen:=r'.length
  exact len_tuple pl (by simp only [Of] <;> lia) ⟨.int ys.length,H,I.tok _,⟨s.toks+1,by rw [Of,hlen]⟩,q⟩
theorem nV:f7 X (.type "list") (λxs H Q=>∃ p ys,xs=[.ref p]/\(gI X.K H p ys\/dB X.K H p ys)/\∀ l,H l=none->Q (.ref l) (upd H l (.lst ys))):=by
 intro aa s σ H xs us Q I r h
 obtain ⟨p,ys,rfl,hq,q⟩:=h
 obtain ⟨u,rfl,rx⟩:=vals1 r
 cases rx
 have fin:∀ (its:List Value),Vals ys its->ys.length<=sizeLine->∀ (h':Heap) (c':Nat),(∀ b o',s.heap.get? b=some o'->h'.get? b=some o') ->
  h'.get? s.heap.objs.size=some { cls:=.type "list",dict:=none,data:=.seq its.toArray c',slots:= #[] }->EP X aa σ Q (.ref s.heap.objs.size) { s with heap:=h' }:=λits r' hz h' c' kp e =>
  ⟨.ref s.heap.objs.size,_,I.laid (t':=s.toks) kp (NT _) (show bq X.prog X.w _ h' _ (.lst ys) from ⟨hz,its,c',r',e⟩),rfl,q _ (I.hok.fresh (NT _))⟩
 rcases hq with hq | hq
 ·obtain ⟨its,r',pl,hz⟩:=I.list hq
  have hlen:=r'.length
  obtain ⟨o,ho,hc,n,hd⟩:=pl.isList
  exact call_list_seq p (.inl rfl) ho hc hd (λh' c' kp e=>fin its r' hz h' c' kp e) (by simp only [Of] <;> lia)
 ·obtain ⟨its,r',pl,hz⟩:=I.tuple hq
  have hlen:=r'.length
  obtain ⟨o,ho,hc,n,hd⟩:=pl
  exact call_list_seq p (.inr rfl) ho hc hd (λh' c' kp e=>fin its r' hz h' c' kp e) (by simp only [Of] <;> lia)
theorem lX:f7 X (.type "tuple") (λxs H Q=>∃ p ys,xs=[.ref p]/\((gI X.K H p ys/\∀ l,H l=none->Q (.ref l) (upd H l (.tup ys)))\/(dB X.K H p ys/\Q (.ref p) H))):=by
 intro aa s σ H xs us Q I r h
 obtain ⟨p,ys,rfl,h⟩:=h
 obtain ⟨u,rfl,rx⟩:=vals1 r
 cases rx
 rcases h with ⟨hq,q⟩ | ⟨hq,q⟩
 ·obtain ⟨its,r',pl,hz⟩:=I.list hq
  have hlen:=r'.length
  refine call_tuple_list pl.isList (λh' kp=>?_) (by simp only [Of] <;> lia)
  have I1:Inv X aa σ H { s with heap:=h' }:=I.kept (t':=s.toks) kp
  have I2:Inv X aa σ (upd H h'.objs.size (.tup ys)) { s with heap:=h'.push { cls:=.type "tuple",data:=.seq its.toArray } } :=
   I1.laid (t':=s.toks) (λb o e=>NY _ e) (NT _) (show bq X.prog X.w _ _ _ (.tup ys) from ⟨hz,its,r',IsTup.new _ _⟩)
  exact ⟨.ref h'.objs.size,_,I2,rfl,q _ (I1.hok.fresh (NT _))⟩
 ·obtain ⟨its,r',pl,hz⟩:=I.tuple hq
  exact call_tuple_same pl ⟨.ref p,H,I,rfl,q⟩
def MM (K:NR) (T:String) (x:V) (H:Hp):Prop:=match x with
 | .str _=>T="str"
 | .int _=>T="int"
 | .ref p=>(T="list"/\∃ xs,gI K H p xs)\/(T="tuple"/\∃ o,K.lookup p=some o/\o.cls=.type "tuple"/\o.dict=none) \/
  (T="dict"/\((∃ kvs,H p=some (.dK kvs))\/∃ kvs,H p=some (.dT kvs)))\/(T="set"/\∃ S n,H p=some (.set S n))
 | _=>False
theorem yS (I:Inv X aa σ H s) (r:RelV x v) (ty:MM X.K T x H) :
 s.TypeIs v T/\∀ a,v=.ref a->∃ ob,s.heap.get? a=some ob/\ob.dict=none:=by
 cases x with
 | str z =>
  obtain ⟨t,rfl⟩:=r
  cases (show T="str" from ty)
  exact ⟨typeIs_str s z t,λ_ e=>nomatch e⟩
 | int i =>
  obtain ⟨t,rfl⟩:=r
  cases (show T="int" from ty)
  exact ⟨Q9 s i t,λ_ e=>nomatch e⟩
 | ref p =>
  cases r
  rcases ty with ⟨rfl,xs,hq⟩ | ⟨rfl,o,hk,hc,hd⟩ | ⟨rfl,hk⟩ | ⟨rfl,S,n,hk⟩
  ·obtain ⟨its,_,pl,_⟩:=I.list hq
   refine ⟨pl.isList.typeIs,λa e=>?_⟩
   cases e
   obtain ⟨o,n,e,c,hd,_⟩:=pl
   exact ⟨o,e,hd⟩
  ·refine ⟨⟨o,I.nN p o hk,hc⟩,λa e=>?_⟩
   cases e
   exact ⟨o,I.nN _ o hk,hd⟩
  ·have z:∃ o,s.heap.get? p=some o/\o.ExactDict:=by
    rcases hk with ⟨kvs,hk⟩ | ⟨kvs,hk⟩
    ·obtain ⟨_,_,_,_,o,_,_,e,ex,_⟩:=I.hok p _ hk
     exact ⟨o,e,ex⟩
    ·obtain ⟨_,_,_,_,o,_,_,e,ex,_⟩:=I.hok p _ hk
     exact ⟨o,e,ex⟩
   obtain ⟨o,e,ex⟩:=z
   refine ⟨⟨o,e,ex.1⟩,λa e2=>?_⟩
   cases e2
   exact ⟨o,e,ex.2.1⟩
  ·obtain ⟨o,_,_,_,e,ex,_⟩:=I.hok p _ hk
   refine ⟨⟨o,e,ex.1⟩,λa e2=>?_⟩
   cases e2
   exact ⟨o,e,ex.2.1⟩
 | _=>exact OT ty
noncomputable def MN (K:NR) (T:String) (r:V->List V->Hp->VK->Prop) (to:TE):TE:=λσ H Q=>to σ H λx H1=>MM K T x H1/\r x [] H1 Q
noncomputable def NK (K:NR) (T:String) (r:V->List V->Hp->VK->Prop) (to:TE) (t:TA):TE:=λσ H Q=>to σ H λx H1=>MM K T x H1/\t σ H1 λxs H2=>r x xs H2 Q
variable {T id:String}
theorem GW (pa:PlainAttrs T) (slot:Slot T name id) (hty:typeOf (.builtin id)=pure (.type "method_descriptor")) (hm:MI X id r) (ho:PE X o to)
 (hbase:attributeBase o name X.env (eval o X.env)=eval o X.env:=by rfl) (hline:(apos.endLine == cpos.line)=true:=by rfl):PE X (.Call (.Attribute o name apos) [] [] cpos) (MN X.K T r to):=by
 intro aa s σ H Q I h
 refine wpAny_Call_method0_late hbase hline (bD (ho aa s σ H _ I h) λv s1 ⟨x,H1,I1,r1,ty,q1⟩=>?_)
 obtain ⟨h1,h2⟩:=yS I1 r1 ty
 exact ⟨T,id,pa,slot,hty,h1,h2,TJ rfl (PySem.evalArgs_none (hm aa s1 σ H1 x [] v [] Q I1 r1 .nil q1))⟩
theorem Fo (pa:PlainAttrs T) (slot:Slot T name id) (hty:typeOf (.builtin id)=pure (.type "method_descriptor")) (hm:MI X id r) (ho:PE X o to) (ha:PA X (e::es) t)
 (hbase:attributeBase o name X.env (eval o X.env)=eval o X.env:=by rfl)
 (hfew:((backTo cpos (starEach (e::es) X.env)).all (λx=> !x.1) && (backToKw cpos (keywordEach [] X.env)).all (λx=>x.1.isSome)
   && decide ((e::es).length+([]:List Keyword).length+(if ([]:List Keyword).isEmpty then 0 else 1)<30))=true:=by rfl)
 (hline:(apos.endLine == cpos.line)=true:=by rfl) (hs:starEach (e::es) X.env=(false,eval e X.env)::starEach es X.env:=by rfl) (hplain:(backTo cpos (starEach es X.env)).any (·.1)=false:=by rfl) :
 PE X (.Call (.Attribute o name apos) (e::es) [] cpos) (NK X.K T r to t):=by
 intro aa s σ H Q I h
 refine wpAny_Call_method_late hbase hfew hline rfl (bD (ho aa s σ H _ I h) λv s1 ⟨x,H1,I1,r1,ty,q1⟩=>?_)
 obtain ⟨h1,h2⟩:=yS I1 r1 ty
 refine ⟨T,id,pa,slot,hty,h1,h2,?_⟩
 have hA:=ha cpos aa s1 σ H1 _ I1 q1
 rw [hs] at hA |-
 refine TJ (by show (false || (backTo cpos (starEach es X.env)).any (·.1))=false; rw [hplain] <;> rfl) (Calls.evalArgs_plain ?_)
 exact bD hA λus s2 ⟨vs,H2,I2,r2,q2⟩=>hm aa s2 σ H2 x vs v us Q I2 r1 r2 q2
end
def Nn (X:Cx) (id:String) (r:V->List V->Hp->VK->Prop):Prop :=
 ∀ (aa:List (Addr×Obj)) (s:Shared) (σ:St) (H:Hp) (x:V) (xs:List V) (v:Value) (us:List Value) (Q:VK),Inv X aa σ H s->RelV x v->Vals xs us->r x xs H Q ->
  wpAny (model X.prog X.w) X.A (call (.builtin id) (v::us)) (EP X aa σ Q) X.xe s
theorem Vals.one:∀ {x:V} {us:List Value},Vals [x] us->∃ u,us=[u]/\RelV x u
 | _,_,.cons r .nil=>⟨_,rfl,r⟩
theorem Vals.rep (h:Vals xs us):∀ k:Nat,Vals (N7 k xs).flatten (N7 k us).flatten
 | 0=>.nil
 | k+1=>by
  rw [PK,PK,Qv,Qv]
  exact Vals.append h (Vals.rep h k)
theorem foldl_rep (its):∀ (k:Nat) (acc:List Value),
 Rb (λx1 x2=>x1++x2) acc.toArray (N7 k its.toArray)=(acc++(N7 k its).flatten).toArray
 | 0,acc=>by simp
 | k+1,acc=>by
  have e:acc.toArray++its.toArray=(acc++its).toArray:=by simp
  have e2:(acc++its)++(N7 k its).flatten=acc++(N7 (k+1) its).flatten:=by
   rw [PK,Qv,Oh]
  rw [<- e2,<- foldl_rep its k (acc++its),<- e,PK,Pj]
theorem Inv.r9 {its its':List Value} (I:Inv X aa σ H s) (hH:H l=some (.lst xs))
 (e:s.heap.get? l=some { cls:=.type "list",data:=.seq its.toArray n }) (hf:f its.toArray=its'.toArray) (hv:Vals ys its') (hz:ys.length<=sizeLine) :
 Inv X aa σ (upd H l (.lst ys)) { s with heap:=s.heap.update l (OC f),toks:=t' }:=by
 have q:=PySem.IsL.update e f
 rw [hf] at q
 refine I.write (x:=l) (e:=l) (by rw [hH]; exact trivial) (.inl rfl) (λb' u hb hu=>(R3 s.heap (OC f) (Og hb)).trans hu) ⟨_,q⟩ ?_
 exact ⟨hz,its',_,hv,q⟩
theorem Inv.CU (I:Inv X aa σ H s) (hv:Vals ys its) (hz:ys.length<=sizeLine) :
 Inv X aa σ (upd H s.heap.objs.size (.lst ys)) { s with heap:=s.heap.push { cls:=.type "list",data:=.seq its.toArray },toks:=t' } :=
 I.laid (λ_ _ q=>NY _ q) (NT _) ⟨hz,its,0,hv,Ob _ rfl⟩
theorem Inv.fresh (I:Inv X aa σ H s):H s.heap.objs.size=none:=I.hok.fresh (NT _)
theorem Inv.pO (I:Inv X aa σ H s) (hH:H l=some (.lst xs)):xs.length<=sizeLine/\∃ (its:List Value) (n:Nat),Vals xs its/\xs.length=its.length/\s.heap.get? l=some { cls:=.type "list",data:=.seq its.toArray n }:=by
 obtain ⟨z,its,n,r,e⟩:=I.hok l _ hH
 exact ⟨z,its,n,r,r.length,e⟩
theorem yT (h:n<=sizeLine):Tt n=false:=by
 unfold Tt
 exact decide_eq_false (by lia)
noncomputable def CV:V->List V->Hp->VK->Prop:=λx vs H Q=>∃ l xs y,x=.ref l/\vs=[y]/\H l=some (.lst xs)/\xs.length<sizeLine/\Q .non (upd H l (.lst (xs++[y])))
theorem mQ:Nn X "list.append" CV:=by
 intro aa s σ H x vs v us Q I rx rv h
 obtain ⟨l,xs,y,rfl,rfl,hH,hz,q⟩:=h
 cases rx
 obtain ⟨u,rfl,ru⟩:=rv.one
 obtain ⟨z,its,n,r,hl,e⟩:=I.pO hH
 refine Ra F.slot_list_append ⟨_,e,rfl⟩ F.entry_list_append (F.args_list_append_2 _ _) (PySem.list_append l its.toArray n u (by rw [Of]; lia)) ⟨e,?_⟩
 refine ⟨.non,_,I.r9 (its':=its++[u]) hH e (by simp) (r.append (.cons ru .nil)) ?_,rfl,q⟩
 rw [OF,R5]
 lia
noncomputable def MO:R2:=λx y H Q=>∃ l k xs,x=.ref l/\y=.int k/\H l=some (.lst xs)/\ -(2 ^ 63)<=k/\k<2 ^ 63/\xs.length * k.toNat<=sizeLine /\
 ∀ p,H p=none->Q (.ref p) (upd H p (.lst (N7 k.toNat xs).flatten))
theorem len_rep {α:Type} (xs:List α) (k):(N7 k xs).flatten.length=k * xs.length:=by
 induction k with
 | zero=>simp
 | succ k ih=>rw [PK,Qv,OF,ih,RE,Nat.add_comm]
theorem GX:fL X (binaryOp .Mult) MO:=by
 intro aa s σ H x y v u Q I rx ry h
 obtain ⟨l,k,xs,rfl,rfl,hH,h1,h2,hz,q⟩:=h
 cases rx
 obtain ⟨t,rfl⟩:=ry
 obtain ⟨z,its,n,r,hl,e⟩:=I.pO hH
 have hlen:its.toArray.size * k.toNat<=sizeLine:=by rw [Of,<- hl]; exact hz
 have hcap:¬ its.toArray.size * k.toNat>(2 ^ 63 - 1) / 8:=by
  have:(sizeLine:Nat)<=(2 ^ 63 - 1) / 8:=by decide
  lia
 have hfit:¬ (!Builtin.List.listFitsIndex k)=true:=by
  rw [fitsIndex_both h1 h2]
  exact N5
 have hlong:¬ Tt (its.toArray.size * k.toNat)=true:=by
  rw [yT hlen]
  exact N5
 have hnew:Rb (λx1 x2=>x1++x2) #[] (N7 (if its.toArray.isEmpty=true then 0 else k.toNat) its.toArray)=(N7 k.toNat its).flatten.toArray:=by
  have f0:∀ m:Nat,Rb (λx1 x2=>x1++x2) #[] (N7 m its.toArray)=(N7 m its).flatten.toArray:=λm=>by
   have:=foldl_rep its m []
   rw [PN] at this
   exact this
  rw [f0]
  cases its with
  | nil=>simp
  | cons a r'=>rw [if_neg (by simp)]
 refine wpAny_binaryOp_repeat_ref (T:="list") (U:="int") (by decide) ⟨_,e,rfl⟩ (λs'=>Q9 s' k t) noFill_list_mul F.fills_int_mul SE repeat_list F.slot_int_index.lookup
  (Ra SE (Q9 s k t) F.entry_int_rmul (F.args_int_rmul_2 _ _) (int___rmul___int_list k t l its.toArray n)
    ⟨e,rfl,⟨_,e,rfl⟩,Ra F.slot_list_mul ⟨_,e,rfl⟩ F.entry_list_mul (F.args_list_mul_2 _ _) (AutoListH.list___mul___list_int_3 l its.toArray n k t hfit hcap hlong) ⟨e,?_⟩⟩)
 rw [hnew]
 exact ⟨.ref _,_,I.CU (t':=s.toks) (r.rep k.toNat) (by rw [len_rep,QD]; exact hz),rfl,q _ I.fresh⟩
section
variable {κ:Type} [DecidableEq κ]
noncomputable def kC (kvs:List (κ×V)) (k:κ):Option V:=(kvs.find? λkv=>decide (kv.1=k)).map (·.2)
noncomputable def putK (kvs:List (κ×V)) (k:κ) (v:V):List (κ×V) :=
 if (kvs.any λkv=>decide (kv.1=k))=true then kvs.map (λkv=>if kv.1=k then (kv.1,v) else kv) else kvs++[(k,v)]
theorem kD {p:κ×V} {r:List (κ×V)} {k:κ} (e:p.1=k):kC (p::r) k=some p.2:=by simp [kC,Pu,e]
theorem kE {p:κ×V} {r:List (κ×V)} {k:κ} (e:¬ p.1=k):kC (p::r) k=kC r k:=by simp [kC,Pu,e]
theorem pP (k:κ):∀ kvs:List (κ×V),(kvs.any λkv=>decide (kv.1=k))=(kC kvs k).isSome
 | []=>rfl
 | p::r=>by
  rw [List.any_cons]
  by_cases e:p.1=k
  ·simp only [kD e,decide_eq_true e,Bool.true_or,Option.isSome_some]
  ·rw [kE e,decide_eq_false e,Bool.false_or]; exact pP k r
theorem pQ (kvs) (k:κ) (v):(putK kvs k v).length<=kvs.length+1:=by
 unfold putK
 split
 ·rw [NX]; lia
 ·rw [OF,Oz,PB]; lia
theorem jO.jl (r:jO o u):o.isSome=u.isSome:=by
 cases o with
 | none=>cases u with
  | none=>rfl
  | some _=>exact (show False from r).elim
 | some _=>cases u with
  | none=>exact (show False from r).elim
  | some _=>rfl
theorem jO.getD (r:jO o u) (rd:RelV d d'):RelV (o.getD d) (u.getD d'):=by
 cases o with
 | none=>cases u with
  | none=>exact rd
  | some _=>exact (show False from r).elim
 | some _=>cases u with
  | none=>exact (show False from r).elim
  | some _=>exact r
theorem KV.val (r:KV kvs vs) (k:κ):jO (kC kvs k) (valueAt vs k):=by
 unfold KV at r
 induction r with
 | nil=>exact PV
 | @cons p q ps qs h t ih =>
  obtain ⟨h1,h2⟩:=h
  by_cases e:p.1=k
  ·have e':q.1=k:=h1.symm.trans e
   have b:valueAt (q::qs) k=some q.2:=by simp [valueAt,Pu,e']
   rw [kD e,b]; exact h2
  ·have e':¬ q.1=k:=λz=>e (h1.trans z)
   have b:valueAt (q::qs) k=valueAt qs k:=by simp [valueAt,Pu,e']
   rw [kE e,b]; exact ih
theorem KV.any (r:KV kvs vs) (k:κ):(kvs.any λkv=>decide (kv.1=k))=vs.any λkv=>decide (kv.1=k):=by
 unfold KV at r
 induction r with
 | nil=>rfl
 | cons h t ih=>rw [List.any_cons,List.any_cons,ih,h.1]
theorem KV.repl (r:KV kvs vs) (k:κ) (ry:RelV y u) :
 KV (kvs.map λkv=>if kv.1=k then (kv.1,y) else kv) (vs.map λkv=>if kv.1=k then (kv.1,u) else kv):=by
 unfold KV at r |-
 induction r with
 | nil=>exact .nil
 | @cons p q ps qs h t ih =>
  rw [NW,NW]
  refine .cons ?_ ih
  obtain ⟨h1,h2⟩:=h
  by_cases e:p.1=k
  ·rw [if_pos e,if_pos (h1.symm.trans e)]; exact ⟨h1,ry⟩
  ·rw [if_neg e,if_neg (λz=>e (h1.trans z))]; exact ⟨h1,h2⟩
theorem KV.put (r:KV kvs vs) (k:κ) (ry:RelV y u):KV (putK kvs k y) (stored vs k u):=by
 unfold putK stored
 rw [r.any k]
 by_cases e:(vs.any λkv=>decide (kv.1=k))=true
 ·rw [if_pos e,if_pos e]; exact r.repl k ry
 ·rw [if_neg e,if_neg e]; exact Td r ⟨rfl,ry⟩
theorem KV.length {kvs:List (κ×V)} {vs:List (κ×Value)} (r:KV kvs vs):kvs.length=vs.length:=Pc r
end
theorem pR (r:RelV (kV k) u):(cg P w).is k u=true:=by
 cases k with
 | inl i=>obtain ⟨t,e⟩:=(show ∃ t,u=RL i t from r); subst e; exact pG P w i t
 | inr x=>obtain ⟨t,e⟩:=(show ∃ t,u=RK x t from r); subst e; exact pH P w x t
theorem mR:∀ {ks:List Key} {us:List Value},Vals (ks.map kV) us->ItemsAre (cg P w) ks us
 | [],_,r=>by rw [PF] at r; cases r; exact .nil
 | k::ks,_,r=>by
  rw [NW] at r
  cases r with
  | cons h t=>exact .cons (pR h) (mR t)
noncomputable abbrev KT:List (List Key×Addr×V)->List (List Key×Addr×Value)->Prop:=Paired λp q=>p.1=q.1/\p.2.1=q.2.1/\RelV p.2.2 q.2.2
noncomputable def atT (kvs:List (List Key×Addr×V)) (k:List Key):Option V:=(kvs.find? λkv=>decide (kv.1=k)).map (·.2.2)
noncomputable def nW (k:List Key) (v:V) (x:List Key×Addr×V):List Key×Addr×V:=if x.1=k then (x.1,x.2.1,v) else x
noncomputable def pS (kvs:List (List Key×Addr×V)) (k:List Key) (b:Addr) (v:V):List (List Key×Addr×V) :=
 if (atT kvs k).isSome=true then kvs.map (nW k v) else kvs++[(k,b,v)]
theorem pU (kvs) (k) (b) (v):(pS kvs k b v).length<=kvs.length+1:=by
 unfold pS
 split
 ·rw [NX]; lia
 ·rw [OF,Oz,PB]; lia
theorem KT.val (r:KT kvs xs) (k):jO (atT kvs k) ((atKey xs k).map (·.2)):=by
 induction r with
 | nil=>exact PV
 | @cons p q ps qs h t ih =>
  obtain ⟨h1,_,h2⟩:=h
  by_cases e:p.1=k
  ·have e':q.1=k:=h1.symm.trans e
   have b:atKey (q::qs) k=some q.2:=by simp [atKey,Pu,e']
   have b2:atT (p::ps) k=some p.2.2:=by simp [atT,Pu,e]
   rw [b2,b]; exact h2
  ·have e':¬ q.1=k:=λz=>e (h1.trans z)
   have b:atKey (q::qs) k=atKey qs k:=by simp [atKey,Pu,e']
   have b2:atT (p::ps) k=atT ps k:=by simp [atT,Pu,e]
   rw [b2,b]; exact ih
theorem KT.repl (r:KT kvs xs) (k) (ry:RelV y u) :
 KT (kvs.map (nW k y)) (xs.map (putAt k u)):=by
 induction r with
 | nil=>exact .nil
 | @cons p q ps qs h t ih =>
  rw [NW,NW]
  refine .cons ?_ ih
  obtain ⟨h1,h2,h3⟩:=h
  unfold putAt nW
  by_cases e:p.1=k
  ·rw [if_pos e,if_pos (h1.symm.trans e)]; exact ⟨h1,h2,ry⟩
  ·rw [if_neg e,if_neg (λz=>e (h1.trans z))]; exact ⟨h1,h2,h3⟩
theorem KT.put (r:KT kvs xs) (k) (ry:RelV y u) :
 KT (pS kvs k b y) (storedH xs k b u):=by
 have e:(atT kvs k).isSome=(atKey xs k).isSome:=by
  rw [(r.val k).jl,Qu]
 unfold pS storedH
 rw [e]
 by_cases q:(atKey xs k).isSome=true
 ·rw [if_pos q,if_pos q]; exact r.repl k ry
 ·rw [if_neg q,if_neg q]; exact Td r ⟨rfl,rfl,ry⟩
theorem yU (ok:jh P w H h) (e:Rd H a u):bq P w H h a u:=e.ok ok
theorem mS (ok:jh P w H h) (e:Rd H a (.dK kvs)):kvs.length<=sizeLine/\(a == sysModules)=false/\∃ vs,KV kvs vs/\h.DictOf (cg P w) a vs :=
 show bq P w H h a (.dK kvs) from yU ok e
theorem Ku (ok:jh P w H h) (e:H a=some (.dK kvs)):kvs.length<=sizeLine/\(a == sysModules)=false/\∃ vs,KV kvs vs/\h.DictOf (cg P w) a vs:=mS ok (.inl e)
theorem kF (I:Inv X aa σ H s) (e:dB X.K H a (ks.map kV)):(tupleKind (cg X.prog X.w)).is s.heap ks a:=by
 obtain ⟨its,r,⟨o,h1,h2,n,h3⟩,_⟩:=I.tuple e
 exact ⟨o,its.toArray,n,h1,h2,h3,by simpa using mR r⟩
theorem pV (I:Inv X aa σ H s) (e:Rd H a (.dT kvs)) (hk:∀ x∈kvs,dB X.K H x.2.1 (x.1.map kV)):kvs.length<=sizeLine/\(a == sysModules)=false /\
 ∃ xs,KT kvs xs/\s.heap.DictOfH (tupleKind (cg X.prog X.w)) a xs:=by
 obtain ⟨z,y,xs,r,o,es,ep,h1,h2,h3,h4,h5⟩:=(show bq X.prog X.w H s.heap a (.dT kvs) from yU I.hok e)
 refine ⟨z,y,xs,r,o,es,ep,h1,h2,h3,h4,?_,h5⟩
 have all:∀ {l:List (List Key×Addr×V)} {m:List (List Key×Addr×Value)},KT l m->(∀ x∈l,dB X.K H x.2.1 (x.1.map kV))->∀ x∈m,(tupleKind (cg X.prog X.w)).is s.heap x.1 x.2.1:=by
  intro l m q
  induction q with
  | nil=>intro _ x hx; exact nomatch hx
  | @cons p q ps qs hq t ih =>
   intro hl x hx
   rcases N9.mp hx with e | hx
   ·subst e
    rw [<- hq.1,<- hq.2.1]
    exact kF I (hl p N2)
   ·exact ih (λy hy=>hl y (N6 _ hy)) x hx
 exact all r hk
def nX (K:NR) (H:Hp) (a:Addr) (y:V) (r:Option V):Prop :=
 (∃ kvs k,Rd H a (.dK kvs)/\y=kV k/\r=kC kvs k)\/∃ kvs k b,Rd H a (.dT kvs)/\(∀ x∈kvs,dB K H x.2.1 (x.1.map kV))/\y=.ref b/\dB K H b (k.map kV)/\r=atT kvs k
def CW (K:NR) (H:Hp) (a:Addr) (y v:V) (H':Hp):Prop :=
 (∃ kvs k,H a=some (.dK kvs)/\y=kV k/\kvs.length<sizeLine/\H'=upd H a (.dK (putK kvs k v))) \/
 ∃ kvs k b,H a=some (.dT kvs)/\(∀ x∈kvs,dB K H x.2.1 (x.1.map kV))/\y=.ref b/\dB K H b (k.map kV)/\kvs.length<sizeLine/\H'=upd H a (.dT (pS kvs k b v))
theorem Inv.big (I:Inv X aa σ H s):sysModules<s.heap.objs.size:=by
 have h:mainGlobals<s.heap.objs.size:=(I.mod.glob.keeps I.bk).lt
 exact Nat.lt_trans (by decide) h
theorem mT (hu:A.units+1<cLine) (I:Inv X aa σ H s) (g:nX X.K H a y (some v)) (ry:RelV y u) (h:∀ w' s',Inv X aa σ H s'->RelV v w'->Q w' s') :
 wpAny (model X.prog X.w) A (getItem (.ref a) u) Q E s:=by
 rcases g with ⟨kvs,k,e,ey,l⟩ | ⟨kvs,k,b,e,hk,ey,eb,l⟩
 ·subst ey
  obtain ⟨z,hd,vs,rel,dd⟩:=mS I.hok e
  obtain ⟨w',hw,rw'⟩:=jO.some_of (v:=v) (o:=valueAt vs k) (by rw [l]; exact rel.val k)
  exact wpAny_getItem_of (pR ry) dd.mapOf hw (h w' _ (I.tok _) rw')
 ·subst ey
  cases (show u=Ol b from ry)
  obtain ⟨z,hd,xs,rel,dd⟩:=pV I e hk
  obtain ⟨w',hw,rw'⟩:=jO.some_of (v:=v) (o:=(atKey xs k).map (·.2)) (by rw [l]; exact rel.val k)
  obtain ⟨p,hp,hp2⟩:=N8.mp hw
  refine wpAny_getItem_heap (Sa hu) (kF I eb) dd hp ?_
  rw [hp2]
  exact h w' _ (I.tok _) rw'
theorem MQ (hu:A.units+1<cLine) (I:Inv X aa σ H s) (g:nX X.K H a y o) (ry:RelV y u) (h:∀ s',Inv X aa σ H s'->Q (.bool o.isSome) s') :
 wpAny (model X.prog X.w) A (compareOp .In u (.ref a)) Q E s:=by
 rcases g with ⟨kvs,k,e,ey,l⟩ | ⟨kvs,k,b,e,hk,ey,eb,l⟩
 ·subst ey
  obtain ⟨z,hd,vs,rel,dd⟩:=mS I.hok e
  refine wpAny_in_of (pR ry) hd dd.mapOf ?_
  rw [<- (rel.val k).jl,<- l]
  exact h _ (I.tok _)
 ·subst ey
  cases (show u=Ol b from ry)
  obtain ⟨z,hd,xs,rel,dd⟩:=pV I e hk
  refine wpAny_in_heap (Sa hu) (kF I eb) hd dd ?_
  have q:=(rel.val k).jl
  rw [Qu] at q
  rw [<- q,<- l]
  exact h _ (I.tok _)
theorem uv (I:Inv X aa σ H s) (mu:J3 (H a)) (hs:Pb a s.heap h') (he:∃ q,h'.get? a=some q) (new:bq X.prog X.w (upd H a ob) h' a ob) :
 Inv X aa σ (upd H a ob) { s with heap:=h',toks:=t' } :=
 I.write (x:=a) (e:=a) mu (.inl rfl) (λb q hb z=>(hs.2 b hb).trans z) he new
theorem GY (z:kvs.length<=sizeLine) (hd:(a == sysModules)=false) (rel:KV kvs vs) (dd:h'.DictOf (cg P w) a vs) :
 bq P w H' h' a (.dK kvs):=⟨z,hd,vs,rel,dd⟩
theorem mU (hu:A.units+1<cLine) (I:Inv X aa σ H s) (g:CW X.K H a y v H') (ry:RelV y u) (rv:RelV v r) (h:∀ s',Inv X aa σ H' s'->Q () s') :
 wpAny (model X.prog X.w) A (setItem (.ref a) u r) Q E s:=by
 rcases g with ⟨kvs,k,e,ey,l,eH⟩ | ⟨kvs,k,b,e,hk,ey,eb,l,eH⟩
 ·subst ey eH
  obtain ⟨z,hd,vs,rel,dd⟩:=Ku I.hok e
  have hz:vs.length<=sizeLine:=by rw [<- rel.length]; exact z
  have hl:(putK kvs k v).length<=sizeLine:=by have:=pQ kvs k v; lia
  refine wpAny_setItem_pairs (hsz:=hz) (pR ry) dd λh' dd' hs=>h _ ?_
  have he:∃ q,h'.get? a=some q:=let ⟨q,_,_,hq,_⟩:=dd'; ⟨q,hq⟩
  exact uv I (by rw [e]; exact PV) hs he (GY hl hd (rel.put k rv) dd')
 ·subst ey eH
  cases (show u=Ol b from ry)
  obtain ⟨z,hd,xs,rel,dd⟩:=pV I (.inl e) hk
  have hz:xs.length<=sizeLine:=by rw [<- Pc rel]; exact z
  have hl:(pS kvs k b v).length<=sizeLine:=by have:=pU kvs k b v; lia
  refine wpAny_setItem_heap (hsz:=hz) (Sa hu) (kF I eb) dd λh' dd' hs=>h _ ?_
  obtain ⟨q,es,ep,hq,h2,h3,h4,_,h5⟩:=dd'
  exact uv I (by rw [e]; exact PV) hs ⟨q,hq⟩ ⟨hl,hd,_,rel.put k rv,q,es,ep,hq,h2,h3,h4,h5⟩
def CY (i:Expr):Prop:=∀ ov iv,subscripted i false ov iv=operate [ov,iv] (getItem ov iv)
theorem CZ {T id:String}
 (hl:typeLookup (.type T) "__getitem__"=pure (some (.builtin id))) (hs:CY slice)
 (h:wpAny (model prog w) A (eval value env) (λo s₁=>wpAny (model prog w) A (eval slice env) (λi s₂=>s₂.TypeIs o T/\wpAny (model prog w) A (getItem o i) Q E s₂) E s₁) E s) :
 wpAny (model prog w) A (eval (.Subscript value slice pos) env) Q E s:=by
 refine Subscript_ (OI h (λo s₁ h₁=>OI h₁ (λi s₂ h₂=>?_) λ_ _ x=>x) λ_ _ x=>x)
 obtain ⟨hT,h₂⟩:=h₂
 unfold subscriptTail
 refine NP ?_
 rw [getitemInPython_of_ne hT.not_modules]
 refine NP (wpAny_specialOf hT hl ?_)
 have fin:wpAny (model prog w) A (subscripted slice false o i) (λr s₃=>wpAny (model prog w) A (letTemporaryGo value o r >>= λ_=>pure r) Q E s₃) E s₂:=by
  rw [hs o i]
  exact wpAny_operating (OI h₂ (λr s₃ h₃=>NP (wpAny_letTemporaryGo (NS h₃))) λ_ _ x=>x)
 first
  | exact NS (NP fin)
  | exact NP (NS (NP fin))
  | exact NP fin
theorem pW (I:Inv X aa σ H s) (g:nX X.K H a y o):s.TypeIs (.ref a) "dict":=by
 rcases g with ⟨kvs,k,e,_,_⟩ | ⟨kvs,k,b,e,hk,_,_,_⟩
 ·obtain ⟨_,_,vs,_,dd⟩:=mS I.hok e
  exact dd.typeIs
 ·obtain ⟨_,_,xs,_,dd⟩:=pV I e hk
  exact dd.typeIs
noncomputable def Kv (X:Cx) (td ty:TE):TE:=λσ H Q=>td σ H λx H1=>ty σ H1 λy H2=>∃ a v,x=.ref a/\nX X.K H2 a y (some v)/\Q v H2
noncomputable def MR (X:Cx) (ty td:TE):TE:=λσ H Q=>ty σ H λy H1=>td σ H1 λx H2=>∃ a o,x=.ref a/\nX X.K H2 a y o/\Q (.bl o.isSome) H2
noncomputable def Kw (X:Cx) (td ty tv:TE):TS:=λD σ H=>tv σ H λv H1=>td σ H1 λx H2=>ty σ H2 λy H3=>∃ a H4,x=.ref a/\CW X.K H3 a y v H4/\D.nx σ H4
noncomputable def Kx (X:Cx) (td ty tv:TE) (rd:V->V->Hp->VK->Prop):TS:=λD σ H=>td σ H λx H1=>ty σ H1 λy H2=>∃ a v,x=.ref a/\nX X.K H2 a y (some v) /\
 tv σ H2 λy2 H3=>rd v y2 H3 λz H4=>∃ H5,CW X.K H4 a y z H5/\D.nx σ H5
theorem uw (hu:X.A.units+1<cLine) (ho:PE X o td) (hi:PE X i ty) (hs:CY i):PE X (.Subscript o i pos) (Kv X td ty):=by
 intro aa s σ H Q I h
 refine CZ PySem.F.slot_dict_getitem.lookup hs (bD (ho aa s σ H _ I h) λu s1 ⟨x,H1,I1,rx,q1⟩=>bD (hi aa s1 σ H1 _ I1 q1) λiv s2 ⟨y,H2,I2,ry,a,v,ex,g,q2⟩=>?_)
 subst ex
 obtain rfl:u=Ol a:=rx
 exact ⟨pW I2 g,mT hu I2 g ry λw' s3 I3 rw'=>⟨v,H2,I3,rw',q2⟩⟩
theorem GZ (hu:X.A.units+1<cLine) (hi:PE X i ty) (ho:PE X o td):PC X .In i o (MR X ty td):=by
 intro aa s σ H Q I h
 refine bD (hi aa s σ H _ I h) λiv s1 ⟨y,H1,I1,ry,q1⟩=>bD (ho aa s1 σ H1 _ I1 q1) λu s2 ⟨x,H2,I2,rx,a,ov,ex,g,q2⟩=>?_
 subst ex
 obtain rfl:u=Ol a:=rx
 exact MQ hu I2 g ry λs3 I3=>⟨.bl ov.isSome,H2,I3,rfl,q2⟩
theorem C0 (hu:X.A.units+1<cLine) (ho:PE X o td) (hi:PE X i ty) (hv:PE X value tv) (hs:swapsWith value (some (.Subscript o i pos')) pos.line X.env=pure false) :
 PS X (.Assign [.Subscript o i pos'] value pos) (Kw X td ty tv):=by
 intro aa s σ H D I h
 refine wpAny_Assign_Subscript (bD (hv aa s σ H _ I h) λr s1 ⟨v,H1,I1,rv,q1⟩=>bD (ho aa s1 σ H1 _ I1 q1) λu s2 ⟨x,H2,I2,rx,q2⟩=>bD (hi aa s2 σ H2 _ I2 q2) λiv s3 ⟨y,H3,I3,ry,a,H4,ex,g,q3⟩=>?_) hs
 subst ex
 obtain rfl:u=Ol a:=rx
 exact mU hu I3 g ry rv λs4 I4=>⟨σ,H4,I4,q3⟩
theorem C1 (hu:X.A.units+1<cLine) (ho:PE X o td) (hi:PE X i ty) (hv:PE X value tv) (hop:Kq X op rd)
 (ha:∀ ov iv new,augStore i ov iv new=(do holding [new,ov,iv] (setItem ov iv new); release [new,ov,iv] []; pure .next)):PS X (.AugAssign (.Subscript o i tpos) op value pos) (Kx X td ty tv rd):=by
 intro aa s σ H D I h
 refine wpAny_AugAssign_SubscriptAny (bD (ho aa s σ H _ I h) λu s1 ⟨x,H1,I1,rx,q1⟩=>bD (hi aa s1 σ H1 _ I1 q1) λiv s2 ⟨y,H2,I2,ry,a,v,ex,g,q2⟩=>?_) ha
 subst ex
 obtain rfl:u=Ol a:=rx
 refine mT hu I2 g ry λw' s3 I3 rw'=>bD (hv aa s3 σ H2 _ I3 q2) λw2 s4 ⟨y2,H3,I4,ry2,q3⟩=>bD (hop aa s4 σ H3 v y2 w' w2 _ I4 rw' ry2 q3) λw3 s5 ⟨z,H4,I5,rz,H5,g5,q4⟩=>?_
 exact mU hu I5 g5 ry rz λs6 I6=>⟨σ,H5,I6,q4⟩
theorem yV (h:Heap) (hb:sysModules<h.objs.size):bq P w H (h.push { cls:=.type "dict",data:=.dict #[] }) h.objs.size (.dK []) :=
 ⟨OB _,beq_eq_false_iff_ne.mpr (Og (Ou hb)),[],.nil,Heap.DictOf.new h⟩
theorem yW (h:Heap) (hb:sysModules<h.objs.size):bq P w H (h.push { cls:=.type "dict",data:=.dict #[] }) h.objs.size (.dT []) :=
 ⟨OB _,beq_eq_false_iff_ne.mpr (Og (Ou hb)),[],.nil,_,#[],0,Ob _ rfl,⟨rfl,rfl,rfl⟩,rfl,rfl,SK⟩
noncomputable def G0:TE:=λ_ H Q=>∀ p,H p=none->Q (.ref p) (upd H p (.dK []))
noncomputable def G1:TE:=λ_ H Q=>∀ p,H p=none->Q (.ref p) (upd H p (.dT []))
theorem yX:PE X (.Dict [] [] pos) G0:=λaa s σ H Q I h =>
 wpAny_Dict_empty ⟨.ref s.heap.objs.size,_,I.laid (a:=s.heap.objs.size) (o:=.dK []) (t':=s.toks) (λ_ _ q=>NY _ q) (NT _) (yV s.heap I.big),rfl,h _ (I.hok.fresh (NT _))⟩
theorem yY:PE X (.Dict [] [] pos) G1:=λaa s σ H Q I h =>
 wpAny_Dict_empty ⟨.ref s.heap.objs.size,_,I.laid (a:=s.heap.objs.size) (o:=.dT []) (t':=s.toks) (λ_ _ q=>NY _ q) (NT _) (yW s.heap I.big),rfl,h _ (I.hok.fresh (NT _))⟩
structure M1 (X:Cx) (o:Expr) (m:Str) (apos:Pos) (e:Expr) (cpos:Pos):Prop where
 base:attributeBase o m X.env (eval o X.env)=eval o X.env
 few:((backTo cpos (starEach [e] X.env)).all (λx=> !x.1) && (backToKw cpos (keywordEach [] X.env)).all (λx=>x.1.isSome)
  && decide (([e]:List Expr).length+([]:List Keyword).length+(if ([]:List Keyword).isEmpty then 0 else 1)<30))=true
 line:(apos.endLine == cpos.line)=true
 trees:backTo cpos (starEach [e] X.env)=[(false,eval e X.env)]
structure M2 (X:Cx) (o:Expr) (m:Str) (apos:Pos) (e f:Expr) (cpos:Pos):Prop where
 base:attributeBase o m X.env (eval o X.env)=eval o X.env
 few:((backTo cpos (starEach [e,f] X.env)).all (λx=> !x.1) && (backToKw cpos (keywordEach [] X.env)).all (λx=>x.1.isSome)
  && decide (([e,f]:List Expr).length+([]:List Keyword).length+(if ([]:List Keyword).isEmpty then 0 else 1)<30))=true
 line:(apos.endLine == cpos.line)=true
 trees:backTo cpos (starEach [e,f] X.env)=[(false,eval e X.env),(false,eval f X.env)]
def MS (H:Hp) (a:Addr):Prop:=(∃ kvs,Rd H a (.dK kvs))\/∃ kvs,Rd H a (.dT kvs)
theorem G2 (I:Inv X aa σ H s) (d:MS H a) :
 s.TypeIs (.ref a) "dict"/\(∀ b,Ol a=.ref b->∃ ob,s.heap.get? b=some ob/\ob.dict=none)/\(a == sysModules)=false:=by
 rcases d with ⟨kvs,e⟩ | ⟨kvs,e⟩
 ·obtain ⟨_,hd,vs,_,dd⟩:=mS I.hok e
  refine ⟨dd.typeIs,λb q=>?_,hd⟩
  cases q
  obtain ⟨ob,_,_,h1,h2,_⟩:=dd
  exact ⟨ob,h1,h2.2.1⟩
 ·obtain ⟨_,hd,xs,_,ob,es,ep,h1,h2,_⟩:=(show bq X.prog X.w H s.heap a (.dT kvs) from yU I.hok e)
  refine ⟨⟨ob,h1,h2.1⟩,λb q=>?_,hd⟩
  cases q
  exact ⟨ob,h1,h2.2.1⟩
theorem G3 (hu:A.units+1<cLine) (I:Inv X aa σ H s) (g:nX X.K H a y o) (ry:RelV y u) (rd:RelV d r) (h:∀ w' s',Inv X aa σ H s'->RelV (o.getD d) w'->Q w' s') :
 wpAny (model X.prog X.w) A (call (.builtin "dict.get") [.ref a,u,r]) Q E s:=by
 rcases g with ⟨kvs,k,e,ey,l⟩ | ⟨kvs,k,b,e,hk,ey,eb,l⟩
 ·subst ey
  obtain ⟨z,hd,vs,rel,dd⟩:=mS I.hok e
  refine call_meetsIn TM dd.typeIs PySem.F.entry_dict_get (PySem.F.args_dict_get_3 _ _ _) (meets_dict_get_default (cg X.prog X.w) a (pR ry) hd r) ⟨_,dd.mapOf,h _ _ (I.tok _) ?_⟩
  rw [l]
  exact (rel.val k).getD rd
 ·subst ey
  cases (show u=Ol b from ry)
  obtain ⟨z,hd,xs,rel,dd⟩:=pV I e hk
  refine call_meetsIn TM dd.typeIs PySem.F.entry_dict_get (PySem.F.args_dict_get_3 _ _ _) (meetsH_dict_get_default (tupleKind (cg X.prog X.w)) a b hd r) ⟨Sa hu,k,xs,kF I eb,dd,h _ _ (I.tok _) ?_⟩
  rw [l]
  exact (rel.val k).getD rd
noncomputable def G4 (X:Cx) (td ty tx:TE):TE:=λσ H Q=>td σ H λx H1=>∃ a,x=.ref a/\MS H1 a/\ty σ H1 λy H2=>tx σ H2 λz H3=>∃ o,nX X.K H3 a y o/\Q (o.getD z) H3
theorem yZ (hu:X.A.units+1<cLine) (ho:PE X o td) (he:PE X e ty) (hf:PE X f tx) (m:M2 X o "get" apos e f cpos):PE X (.Call (.Attribute o "get" apos) [e,f] [] cpos) (G4 X td ty tx):=by
 intro aa s σ H Q I h
 refine wpAny_Call_method m.base m.few m.line PySem.F.plainAttrs_dict TM PySem.F.type_dict_get (bD (ho aa s σ H _ I h) λu s1 ⟨x,H1,I1,rx,a,ex,d,q1⟩=>?_)
 subst ex
 obtain rfl:u=Ol a:=rx
 obtain ⟨t1,t2,_⟩:=G2 I1 d
 refine ⟨t1,t2,?_⟩
 rw [m.trees]
 refine TJ rfl (Calls.evalArgs_plain (T4 (bD (he aa s1 σ H1 _ I1 q1) λiv s2 ⟨y,H2,I2,ry,q2⟩ =>
  T4 (bD (hf aa s2 σ H2 _ I2 q2) λfv s3 ⟨z,H3,I3,rz,ov,g,q3⟩=>Calls.spliced_nil ?_))))
 exact G3 hu I3 g ry rz λw' s4 I4 rw'=>⟨_,H3,I4,rw',q3⟩
end L2
namespace Att
open PySem PySem.W PySem.Calls PyProof.Rows
theorem jP:∀ (ns:List Int) (vs:List Value),WellAll P h vs (ns.map WData.int)->IntsAre vs ns:=by
 intro ns
 induction ns with
 | nil =>
  intro vs w
  rw [PF] at w
  cases w
  exact .nil
 | cons n ns ih =>
  intro vs w
  rw [NW] at w
  cases w with
  | cons a b =>
   cases a
   exact .cons _ _ (ih _ b)
theorem wJ {l:OpenLaw} (hn:l.most=some n)
 (hpre:l.row.toRowW.claim.pre args=true) (hwl:WellAll P h vals args) :
 ∃ a vs ns,vals=[Ol a]/\args=[WData.list (ns.map WData.int)]/\h.get? a=some { cls:=.type "list",data:=.seq vs.toArray }/\IntsAre vs ns/\ns.length<=n:=by
 have hsh:WShape.hasAll [] args [.list .int]=true:=(pre_splitW hpre).1
 have hc:l.pre.holds [] { args:=args }=true:=(pre_splitW hpre).2
 obtain ⟨d,r,rfl,h1,h2⟩:=hasAllW_cons hsh
 obtain rfl:=hasAllW_nil h2
 obtain ⟨xs,rfl,h3⟩:=hasW_list h1
 obtain ⟨ns,rfl⟩:=items_int h3
 have hlen:ns.length<=n:=by
  unfold OpenLaw.pre at hc
  have h4:(WTm.not (.lt (.lit (.int (n:Int))) (.len (.arg 0)))).holds [] { args:=[.list (ns.map .int)] }=true:=by
   have h4:=(holds_andW hc).1
   rw [hn] at h4
   exact h4
  have h5:=condW_of h4 (w_not (w_lt w_lit (w_len_list (w_arg rfl))))
  rw [NX] at h5
  refine Nat.le_of_not_lt λq=>?_
  have q':(n:Int)<((ns.length:Nat):Int):=by lia
  first
   | (rw [decide_eq_true q'] at h5; exact absurd h5 (by decide))
   | (simp at h5; lia)
 cases hwl with
 | cons w1 w2 =>
  cases w2
  cases w1 with
  | list ho hall=>exact ⟨_,_,ns,rfl,rfl,ho,jP ns _ hall,hlen⟩
theorem wK (l:OpenLaw) (args):l.row.toRowW.claim.post args (.bool true) args=true :=
 postW_of (r:=l.row.toRowW) (X:=(true == true))
  (show WShape.has [] (.bool true) .bool=true by first | rfl | decide | simp [WShape.has,WShape.arms,WShape.armsAll])
  (show (WTm.eq .res (.lit (.bool true))).value [] { args:=args,res:=some (.bool true),after:=args }=some (.bool (true == true)) from w_eq_bool (w_res rfl) w_lit) rfl
theorem pX {l:OpenLaw}
 (hn:l.most=some n) (hdf:d.params.defaults=[])
 (call:∀ (w:World) (s₀ s₁:Shared) (mg mb:Str->Option Value) (fa:Addr) (o:Obj) (pm cd doc:Value) (a:Addr) (vs:List Value) (ns:List Int),
   Ground q loose [] XP w s₀ mg mb s₁.heap->YP w s₁.heap ->
   s₁.heap.get? fa=some o->o.data=.func (docDef d.name d.params d.body d.scope pm cd doc)->s₁.heap.CodeRec cd d.name->mg d.name=some (.ref fa) ->
   s₁.heap.get? a=some { cls:=.type "list",data:=.seq vs.toArray }->IntsAre vs ns->ns.length<=n->s₁.gens= #[] ->
   codeAny (model l.prog w) callerA (.call (.ref fa) ⟨[.ref a],[]⟩) (λr s'=>r=.ok (.ret (.bool true))/\OldK s₁.heap s'.heap/\s'.os=s₁.os/\AllBare s'.gens) s₁) :
 WalkO q loose XP YP l.row.toRowW d [] (λf vs=>PySem.call f vs):=by
 intro w s₀ s₁ mg mb G Y fa o pm cd doc dV kV ho hd hcd hD hmg hg args vals as hpre hlay hrd hwl hlo
 obtain rfl:dV=.none:=Dflts.none hD hdf
 obtain rfl:kV=.none:=Dflts.noKw hD
 obtain ⟨a,vs,ns,rfl,rfl,hobj,hints,hlen⟩:=wJ hn hpre hwl
 refine enter_call (Q5 (call w s₀ s₁ mg mb fa o pm cd doc a vs ns G Y ho (fd_plain hd) hcd hmg hobj hints hlen hg) λr s' hq=>?_)
 obtain ⟨rfl,h2,h3,h4⟩:=hq
 exact ⟨.inl ⟨.bool true,.bool true,[],rfl,λ_=>rfl,.bool true,wK l _,λ_=>⟨Rp,λ_ hm=>(nomatch hm)⟩⟩,h2,h3,h4⟩
end Att
namespace L2
open PySem PySem.Spec PyProof.Rows
theorem mV:∀ {vs:List Value} {ns:List Int},IntsAre vs ns->Vals (ns.map V.int) vs
 | _,_,.nil=>.nil
 | _,_,.cons n t h=>.cons ⟨t,rfl⟩ (mV h)
def G5 (H:Hp):Prop:=∀ b,H b=none\/∃ o xs,H b=some (.frz o (.lst xs))
theorem y9 {K:NR}
 (KX:K.In s₁.heap) (hns:s₁.heap.Ns mainGlobals mg) (hb:s₁.heap.Ns builtinsNs mb) (hbb:∀ x:Str,x≠"__name__"->mb x=bootBuiltins x) (hlim:s₁.heap.NoLimit) (hg:s₁.gens= #[])
 (ha:s₁.heap.get? a=some { cls:=.type "list",data:=.seq vs.toArray }) (hi:IntsAre vs ns) (hl:ns.length<=sizeLine) (hr:gW k callerA)
 (F:∀ base:Heap,K.In base->base.Ns mainGlobals mg->bz P w K mg base CX k fa fd [x] sp) (hbind:∀ (s:Shared) (u:Value),BindsTo s fd ⟨[u],[]⟩ [(x,u)])
 (pF:∀ H:Hp,G5 H->gI K H a (ns.map V.int)->sp [.ref a] H (λv _=>v=.bl true) λ_ _ _=>False)
 (hCX:∀ H e s',CX [] H s₁ (λ_ _ _=>False) e s'->False) :
 codeAny (model P w) callerA (.call (.ref fa) ⟨[.ref a],[]⟩) (λr s'=>r=.ok (.ret (.bool true))/\OldK s₁.heap s'.heap/\s'.os=s₁.os/\AllBare s'.gens) s₁:=by
 have rv:=mV hi
 have lenV:=hi.length
 have core:∀ H:Hp,G5 H->gI K H a (ns.map V.int)->jh P w H s₁.heap->(∀ b,H b≠none->b=a)->(H a≠none->K.lookup a=none) ->
  codeAny (model P w) callerA (.call (.ref fa) ⟨[.ref a],[]⟩) (λr s'=>r=.ok (.ret (.bool true))/\OldK s₁.heap s'.heap/\s'.os=s₁.os/\AllBare s'.gens) s₁:=by
  intro H hO hS hok hA hK
  have base_of:∀ {b:Addr} {o:Obj},s₁.heap.get? b=some o->H b=none->(nM s₁.heap H).get? b=some o:=λe n=>yx e n
  have noA:∀ {b:Addr} {o:Obj} {es:Array DictEntry} {ep:Nat},s₁.heap.get? b=some o->o.data=.dict es ep->H b=none:=λ{b o es ep} e d=>by
   cases q:H b with
   | none=>rfl
   | some u =>
    have e':b=a:=hA b (by rw [q]; simp)
    subst e'
    rw [ha] at e; cases e
    have d':Data.seq vs.toArray _=Data.dict es ep:=d
    cases d'
  have nsK:∀ {b:Addr} {m:Str->Option Value},s₁.heap.Ns b m->(nM s₁.heap H).Ns b m:=λ{b m} ⟨o,es,ep,e,d,r⟩=>⟨o,es,ep,base_of e (noA e d),d,r⟩
  have hKb:K.In (nM s₁.heap H):=λb o e=>base_of (KX b o e) (by
   cases q:H b with
   | none=>rfl
   | some u =>
    have e':b=a:=hA b (by rw [q]; simp)
    subst e'
    rw [hK (by rw [q]; simp)] at e; cases e)
  have hM:Mod K mg (nM s₁.heap H):=⟨hKb,nsK hns,⟨mb,nsK hb,hbb⟩,let ⟨mc,h1,h2⟩:=hlim; ⟨mc,nsK h1,h2⟩⟩
  have e0:CM P w K mg (nM s₁.heap H) callerA [] s₁ H:=⟨rfl,hM,λb o e=>CD e,Nat.le_of_eq (wB _ _),trivial,λb hb=>absurd (show b∈([]:List Addr) from hb) (by simp),hok,.of_eq hg⟩
  refine Q5 ((F _ hKb (nsK hns)).run callerA [] s₁ H ⟨[.ref a],[]⟩ [.ref a] [.ref a] _ _ hr e0 (hbind s₁ (.ref a)) (.cons rfl .nil) (pF H hO hS)) λr s' h=>?_
  cases r with
  | error e=>exact (hCX H e s' h).elim
  | ok fl =>
   cases fl with
   | next=>exact OT h
   | brk=>exact OT h
   | cont=>exact OT h
   | ret u =>
    obtain ⟨v,H',os,bare,un,hok',r',q⟩:=h
    have q':v=.bl true:=q
    subst q'
    obtain rfl:u=Value.bool true:=r'
    refine ⟨rfl,OldK.of_keep λb o e=>?_,os,bare⟩
    cases q:H b with
    | none=>exact un.keep b o e q (by intro z; exact absurd (show b∈([]:List Addr) from z) (by simp)) (by simp)
    | some u =>
     rcases hO b with z | ⟨ob,xs,z⟩
     ·rw [q] at z; cases z
     ·have z2:=un.frzs b ob _ z
      obtain ⟨e1,_⟩:=hok b _ z
      obtain ⟨e2,_⟩:=hok' b _ z2
      rw [e] at e1; cases e1
      exact e2
 cases hk:K.lookup a with
 | some o =>
  have e:=KX a o hk
  rw [ha] at e
  cases e
  refine core (λ_=>none) (λ_=>.inl rfl) (.inr ⟨_,vs.toArray,_,hk,rfl,rfl,rfl,by rw [Of,lenV]; exact hl,by simpa using rv⟩) (λb u z=>by have z':(none:Option HO)=some u:=z; cases z') (λb z=>absurd rfl z) λz=>absurd rfl z
 | none =>
  refine core (λb=>if b=a then some (.frz { cls:=.type "list",data:=.seq vs.toArray } (.lst (ns.map V.int))) else none) (λb=>?_) (.inl (.inr ⟨{ cls:=.type "list",data:=.seq vs.toArray },if_pos rfl⟩)) (λb u z=>?_) (λb z=>?_) λ_=>hk
  ·by_cases hb:b=a
   ·exact .inr ⟨_,_,if_pos hb⟩
   ·exact .inl (if_neg hb)
  ·by_cases hb:b=a
   ·have z':=(if_pos hb).symm.trans z
    cases z'
    subst hb
    exact ⟨ha,by rw [NX]; exact hl,vs,_,rv,ha⟩
   ·have z':=(if_neg hb).symm.trans z
    cases z'
  ·by_cases hb:b=a
   ·exact hb
   ·exact absurd (if_neg hb) z
noncomputable abbrev gX {K:NR} {h:Heap} (_:K.In h):NR:=K
theorem C9 {l:PySem.W.OpenLaw} {K:Params->NR} {CX:World->GR} {sp:World->Sp}
 (hn:l.most=some n) (hn2:n<=sizeLine) (hdf:d.params.defaults=[]) (hr:gW k callerA)
 (hY:∀ (w:World) (h:Heap),YP w h->(K w.params).In h)
 (F:∀ (w:World) (mg:Str->Option Value) (fa:Addr) (h:Heap),(K w.params).In h->h.Ns mainGlobals mg->mg d.name=some (.ref fa) ->
   ∃ fd:FuncData,(∀ (s:Shared) (u:Value),BindsTo s fd ⟨[u],[]⟩ [(x,u)]) /\
    ∀ base:Heap,(K w.params).In base->base.Ns mainGlobals mg->bz l.prog w (K w.params) mg base (CX w) k fa fd [x] (sp w))
 (pF:∀ (w:World) (H:Hp) (a:Addr) (ns:List Int),ns.length<=n->G5 H->gI (K w.params) H a (ns.map V.int)->sp w [.ref a] H (λv _=>v=.bl true) λ_ _ _=>False)
 (hCX:∀ (w:World) (H:Hp) (s:Shared) (e:Value) (s':Shared),CX w [] H s (λ_ _ _=>False) e s'->False) :
 PySem.W.WalkO q loose XP YP l.row.toRowW d [] (λf vs=>PySem.call f vs):=by
 refine Att.pX hn hdf λw s₀ s₁ mg mb fa o pm cd doc a vs ns G Y ho hd hcd hmg hobj hints hlen hg=>?_
 have KX:=hY w _ Y
 obtain ⟨fd,hb,hF⟩:=F w mg fa _ KX G.T.g hmg
 exact y9 KX G.T.g G.T.b G.T.builtins G.T.nolimit hg hobj hints (N3 hlen hn2) hr hF hb (λH hO hS=>pF w H a ns hlen hO hS) λH e s'=>hCX w H s₁ e s'
end L2
namespace L2
open PySem PySem.Spec PyProof.Rows
noncomputable def fj (s:Stmt):Arguments:=match s with
 | .FunctionDef _ a _ _ _ _ _ _ _ _=>a
 | _=>{ posonlyargs:=[],args:=[],vararg:=none,kwonlyargs:=[],kw_defaults:=[],kwarg:=none,defaults:=[] }
noncomputable def ay (s:Stmt):List Stmt:=match s with
 | .FunctionDef _ _ b _ _ _ _ _ _ _=>b
 | _=>[]
noncomputable def aL (s:Stmt):Scope:=match s with
 | .FunctionDef _ _ _ _ _ _ sc _ _ _=>sc
 | _=>{ kind:=.function,names:=[],isGenerator:=false,isCoroutine:=false }
structure fC (K:NR) (x qual:Str) (st:Stmt) (f:Addr) (fd:FuncData):Prop where
 ex:∃ (oc:Value) (od:Option Addr) (kV doc pm:Value) (an:Option Addr) (cdv ct:Value) (osl:Array (Option Value)),
  fd=PR x qual (fj st) (ay st) (aL st) .none kV doc pm an cdv ct/\K.lookup f=some ⟨oc,od,.func fd,osl⟩/\SJ K cdv qual=true
 kp:PD K (.ref f)=true
section
variable {K:NR}
theorem fC.binds {st:Stmt} (F:fC K x qual st f fd)
 (h:∀ (kV doc pm:Value) (an:Option Addr) (cdv ct:Value) (us:List Value),us.length=ps.length->bindArgs (PR x qual (fj st) (ay st) (aL st) .none kV doc pm an cdv ct) ⟨us,[]⟩=pure (ps.zip us)):Binds K fd ps []:=by
 obtain ⟨oc,od,kV,doc,pm,an,cdv,ct,osl,rfl,lk,hcd⟩:=F.ex
 exact .all (h kV doc pm an cdv ct)
theorem G6 {st:Stmt} {kV doc pm cdv ct:Value} (l:K.lookup f=some ⟨oc,od,.func (PR x qual (fj st) (ay st) (aL st) .none kV doc pm an cdv ct),osl⟩)
 (c:SJ K cdv qual=true) (k:PD K (.ref f)=true):fC K x qual st f (PR x qual (fj st) (ay st) (aL st) .none kV doc pm an cdv ct):=⟨⟨oc,od,kV,doc,pm,an,cdv,ct,osl,rfl,l,c⟩,k⟩
end
theorem Ky (hr:gW k A):A.units+1<cLine:=PM (Nat.add_le_add_left (by decide:1<=64) _) hr.units
theorem wL (h:n<=1000):n<sizeLine:=PM h (by decide)
def aG (H H':Hp):Prop:=∀ b o,H b=some o->H' b=some o
theorem aG.refl (H):aG H H:=λ_ _ h=>h
theorem aG.trans (a:aG H H1) (b:aG H1 H2):aG H H2:=λc o h=>b c o (a c o h)
theorem aG.free (e:aG H H') (h:H' l=Option.none):H l=Option.none:=by
 cases q:H l with
 | none=>rfl
 | some o =>
  rw [e l o q] at h
  cases h
theorem aG.seq {K:NR} (e:aG H H') (h:gI K H a xs):gI K H' a xs:=by
 rcases h with (h | ⟨o,h⟩) | h
 ·exact .inl (.inl (e _ _ h))
 ·exact .inl (.inr ⟨o,e _ _ h⟩)
 ·exact .inr h
section
variable {κ:Type} [DecidableEq κ]
end
end L2
namespace EV
open PySem PySem.Spec PyProof.Rows L2
inductive D where
 | non | bl (b:Bool) | int (i:Int) | str (x:Str) | tup (ds:List D) | lst (ds:List D) | exc (C:Addr)
 | fdK (ks:List Key) (ds:List D) | fdT (ks:List (List Key)) (ds:List D) | adr (a:Addr)
noncomputable def sd (a C:Addr):Heap->Prop:=λh=>∃ o,h.get? a=some o/\o.cls=.ref C/\∃ vs,o.data=.fields vs
mutual
def Rep (K:NR) (H:Hp):D->V->Prop
 | .non,v=>v=.non
 | .bl b,v=>v=.bl b
 | .int i,v=>v=.int i
 | .str x,v=>v=.str x
 | .tup ds,v=>∃ a xs,v=.ref a/\dB K H a xs/\ak K H ds xs
 | .lst ds,v=>∃ a xs,v=.ref a/\gI K H a xs/\ak K H ds xs
 | .exc C,v=>∃ a,v=.ref a/\H a=some (.ext (sd a C))
 | .fdK ks ds,v=>∃ a ys o,v=.ref a/\H a=some (.frz o (.dK ys))/\ys.map (·.1)=ks/\ak K H ds (ys.map (·.2))
 | .fdT ks ds,v=>∃ a ys o,v=.ref a/\H a=some (.frz o (.dT ys))/\ys.map (·.1)=ks/\(∀ y∈ys,dB K H y.2.1 (y.1.map kV))/\ak K H ds (ys.map (·.2.2))
 | .adr a,v=>v=.ref a
def ak (K:NR) (H:Hp):List D->List V->Prop
 | [],xs=>xs=[]
 | d::ds,xs=>∃ x r,xs=x::r/\Rep K H d x/\ak K H ds r
end
theorem au {K:NR} (e:aG H H') (h:dB K H a xs):dB K H' a xs:=by
 rcases h with (h | ⟨o,h⟩) | h
 ·exact .inl (.inl (e _ _ h))
 ·exact .inl (.inr ⟨o,e _ _ h⟩)
 ·exact .inr h
mutual
theorem Rep.mono {K:NR} {H H':Hp} (e:aG H H'):∀ (d:D) {v:V},Rep K H d v->Rep K H' d v
 | .non,_,h=>by simpa [Rep] using h
 | .bl b,_,h=>by simpa [Rep] using h
 | .int i,_,h=>by simpa [Rep] using h
 | .str x,_,h=>by simpa [Rep] using h
 | .tup ds,_,h=>by
  simp only [Rep] at h |-
  obtain ⟨a,xs,e1,h1,h2⟩:=h
  exact ⟨a,xs,e1,au e h1,ak.mono e ds h2⟩
 | .lst ds,_,h=>by
  simp only [Rep] at h |-
  obtain ⟨a,xs,e1,h1,h2⟩:=h
  exact ⟨a,xs,e1,e.seq h1,ak.mono e ds h2⟩
 | .exc C,_,h=>by
  simp only [Rep] at h |-
  obtain ⟨a,e1,h1⟩:=h
  exact ⟨a,e1,e _ _ h1⟩
 | .fdK ks ds,_,h=>by
  simp only [Rep] at h |-
  obtain ⟨a,ys,o,e1,h1,h2,h3⟩:=h
  exact ⟨a,ys,o,e1,e _ _ h1,h2,ak.mono e ds h3⟩
 | .fdT ks ds,_,h=>by
  simp only [Rep] at h |-
  obtain ⟨a,ys,o,e1,h1,h2,h3,h4⟩:=h
  exact ⟨a,ys,o,e1,e _ _ h1,h2,λy hy=>au e (h3 y hy),ak.mono e ds h4⟩
 | .adr a,_,h=>by simpa [Rep] using h
theorem ak.mono {K:NR} {H H':Hp} (e:aG H H'):∀ (ds:List D) {xs:List V},ak K H ds xs->ak K H' ds xs
 | [],_,h=>by simpa [ak] using h
 | d::ds,_,h=>by
  simp only [ak] at h |-
  obtain ⟨x,r,e1,h1,h2⟩:=h
  exact ⟨x,r,e1,Rep.mono e d h1,ak.mono e ds h2⟩
end
section
variable {K:NR}
theorem av:Rep K H (.int i) v↔v=.int i:=by simp only [Rep]
theorem fu:Rep K H (.bl i) v↔v=.bl i:=by simp only [Rep]
theorem bU:Rep K H .non v↔v=.non:=by simp only [Rep]
theorem fN:Rep K H (.str i) v↔v=.str i:=by simp only [Rep]
theorem aH:Rep K H (.tup ds) v↔∃ a xs,v=.ref a/\dB K H a xs/\ak K H ds xs:=by simp only [Rep]
theorem bf:Rep K H (.lst ds) v↔∃ a xs,v=.ref a/\gI K H a xs/\ak K H ds xs:=by simp only [Rep]
theorem iK:Rep K H (.fdK ks ds) v↔∃ a ys o,v=.ref a/\H a=some (.frz o (.dK ys))/\ys.map (·.1)=ks/\ak K H ds (ys.map (·.2)):=by simp only [Rep]
theorem iL:Rep K H (.fdT ks ds) v↔∃ a ys o,v=.ref a/\H a=some (.frz o (.dT ys))/\ys.map (·.1)=ks/\(∀ y∈ys,dB K H y.2.1 (y.1.map kV))/\ak K H ds (ys.map (·.2.2)):=by simp only [Rep]
theorem dN:Rep K H (.adr a) v↔v=.ref a:=by simp only [Rep]
theorem Dc:Rep K H (.exc C) v↔∃ a,v=.ref a/\H a=some (.ext (sd a C)):=by simp only [Rep]
theorem aA:ak K H [] xs↔xs=[]:=by simp only [ak]
theorem aC:ak K H (d::ds) xs↔∃ x r,xs=x::r/\Rep K H d x/\ak K H ds r:=by simp only [ak]
theorem ak.length:∀ {ds:List D} {xs:List V},ak K H ds xs->ds.length=xs.length
 | [],_,h=>by rw [aA] at h; subst h; rfl
 | d::ds,_,h=>by
  rw [aC] at h
  obtain ⟨x,r,rfl,_,h2⟩:=h
  simp [ak.length h2]
theorem ak.get:∀ {ds:List D} {xs:List V} {i:Nat} {d:D},ak K H ds xs->ds[i]?=some d->∃ x,xs[i]?=some x/\Rep K H d x
 | [],_,_,_,_,e=>by simp at e
 | d::ds,_,i,d',h,e=>by
  rw [aC] at h
  obtain ⟨x,r,rfl,h1,h2⟩:=h
  cases i with
  | zero=>simp at e; subst e; exact ⟨x,by simp,h1⟩
  | succ i =>
   obtain ⟨y,e2,h3⟩:=ak.get (i:=i) (d:=d') h2 (by simpa using e)
   exact ⟨y,by simpa using e2,h3⟩
theorem ak.get':∀ {ds:List D} {xs:List V} {i:Nat} {x:V},ak K H ds xs->xs[i]?=some x->∃ d,ds[i]?=some d/\Rep K H d x:=λ{ds xs i x} h e=>by
 have hl:=h.length
 have hi:i<xs.length:=(N4.mp e).1
 obtain ⟨y,e2,h2⟩:=h.get (i:=i) (d:=ds[i]'(by lia)) (by simp)
 rw [e] at e2; cases e2
 exact ⟨_,by simp,h2⟩
theorem ak.append:∀ {ds es:List D} {xs ys:List V},ak K H ds xs->ak K H es ys->ak K H (ds++es) (xs++ys)
 | [],_,_,_,h,g=>by rw [aA] at h; subst h; exact g
 | d::ds,_,_,_,h,g=>by
  rw [aC] at h
  obtain ⟨x,r,rfl,h1,h2⟩:=h
  exact aC.mpr ⟨x,r++_,rfl,h1,ak.append h2 g⟩
theorem ak.drop:∀ (n:Nat) {ds:List D} {xs:List V},ak K H ds xs->ak K H (ds.drop n) (xs.drop n)
 | 0,_,_,h=>h
 | n+1,[],_,h=>by rw [aA] at h; subst h; exact aA.mpr rfl
 | n+1,d::ds,_,h=>by
  rw [aC] at h
  obtain ⟨x,r,rfl,h1,h2⟩:=h
  exact ak.drop n h2
theorem ak.take:∀ (n:Nat) {ds:List D} {xs:List V},ak K H ds xs->ak K H (ds.take n) (xs.take n)
 | 0,_,_,h=>aA.mpr rfl
 | n+1,[],_,h=>by rw [aA] at h; subst h; exact aA.mpr rfl
 | n+1,d::ds,_,h=>by
  rw [aC] at h
  obtain ⟨x,r,rfl,h1,h2⟩:=h
  exact aC.mpr ⟨x,r.take n,rfl,h1,ak.take n h2⟩
theorem ak.one (h:Rep K H d v):ak K H [d] [v]:=aC.mpr ⟨v,[],rfl,h,aA.mpr rfl⟩
theorem ak.cons (h:Rep K H d v) (t:ak K H ds xs):ak K H (d::ds) (v::xs):=aC.mpr ⟨v,xs,rfl,h,t⟩
theorem jm:∀ (ns:List Int),ak K H (ns.map D.int) (ns.map V.int)
 | []=>aA.mpr rfl
 | n::ns=>.cons (av.mpr rfl) (jm ns)
end
inductive Sh where
 | v (d:D) | l (ds:List D) | la (a:Addr) (ds:List D) | t (ss:List Sh) | ls (ss:List Sh)
noncomputable def pl (p:Addr) (xs:List V):HO:=.ext λh=>xs.length<=sizeLine/\∃ (its:List Value) (n:Nat),Vals xs its/\h.get? p=some { cls:=.type "list",data:=.seq its.toArray n }
mutual
def aI (K:NR) (H Hf:Hp):Sh->V->List (Addr×List V)->Prop
 | .v d,v,fp=>Rep K Hf d v/\fp=[]
 | .l ds,v,fp=>∃ p xs,v=.ref p/\H p=some (pl p xs)/\Hf p=none/\ak K Hf ds xs/\fp=[(p,xs)]
 | .la p ds,v,fp=>∃ xs,v=.ref p/\H p=some (pl p xs)/\Hf p=none/\ak K Hf ds xs/\fp=[(p,xs)]
 | .t ss,v,fp=>∃ a xs,v=.ref a/\dB K Hf a xs/\ai K H Hf ss xs fp
 | .ls ss,v,fp=>∃ p xs fq,v=.ref p/\H p=some (pl p xs)/\Hf p=none/\ai K H Hf ss xs fq/\fp=(p,xs)::fq
def ai (K:NR) (H Hf:Hp):List Sh->List V->List (Addr×List V)->Prop
 | [],xs,fp=>xs=[]/\fp=[]
 | s::ss,xs,fp=>∃ x r f1 f2,xs=x::r/\aI K H Hf s x f1/\ai K H Hf ss r f2/\fp=f1++f2
end
def za (H:Hp) (q:Addr):Prop:=∃ xs,H q=some (pl q xs)
mutual
theorem aI.mv {K:NR} {H Hf H' ah:Hp} (sf:aG Hf ah):∀ (s:Sh) {v:V} {fp:List (Addr×List V)},(∀ q∈fp,H q.1=some (pl q.1 q.2)->Hf q.1=none->H' q.1=some (pl q.1 q.2)/\ah q.1=none)->aI K H Hf s v fp->aI K H' ah s v fp
 | .v d,_,_,_,h=>by simp only [aI] at h |-; exact ⟨h.1.mono sf d,h.2⟩
 | .l ds,_,_,hk,h=>by
  simp only [aI] at h |-
  obtain ⟨p,xs,e,h1,h2,h3,rfl⟩:=h
  obtain ⟨q1,q2⟩:=hk _ N2 h1 h2
  exact ⟨p,xs,e,q1,q2,h3.mono sf ds,rfl⟩
 | .la p ds,_,_,hk,h=>by
  simp only [aI] at h |-
  obtain ⟨xs,e,h1,h2,h3,rfl⟩:=h
  obtain ⟨q1,q2⟩:=hk _ N2 h1 h2
  exact ⟨xs,e,q1,q2,h3.mono sf ds,rfl⟩
 | .t ss,_,_,hk,h=>by
  simp only [aI] at h |-
  obtain ⟨a,xs,e,h1,h2⟩:=h
  exact ⟨a,xs,e,au sf h1,ai.mv sf ss hk h2⟩
 | .ls ss,_,_,hk,h=>by
  simp only [aI] at h |-
  obtain ⟨p,xs,fq,e,h1,h2,h3,rfl⟩:=h
  obtain ⟨q1,q2⟩:=hk _ N2 h1 h2
  exact ⟨p,xs,fq,e,q1,q2,ai.mv sf ss (λq hq=>hk q (N6 _ hq)) h3,rfl⟩
theorem ai.mv {K:NR} {H Hf H' ah:Hp} (sf:aG Hf ah):∀ (ss:List Sh) {xs:List V} {fp:List (Addr×List V)},(∀ q∈fp,H q.1=some (pl q.1 q.2)->Hf q.1=none->H' q.1=some (pl q.1 q.2)/\ah q.1=none)->ai K H Hf ss xs fp->ai K H' ah ss xs fp
 | [],_,_,_,h=>by simpa only [ai] using h
 | s::ss,_,_,hk,h=>by
  simp only [ai] at h |-
  obtain ⟨x,r,f1,f2,e,h1,h2,rfl⟩:=h
  exact ⟨x,r,f1,f2,e,aI.mv sf s (λq hq=>hk q (Qq _ hq)) h1,ai.mv sf ss (λq hq=>hk q (OV _ hq)) h2,rfl⟩
end
inductive Sl where
 | un
 | va (d:D)
 | ow (ds:List D)
 | oT (kvs:List (List Key×D))
 | oK (kvs:List (Key×D))
 | aw (a:Addr) (ds:List D)
 | aT (a:Addr) (kvs:List (List Key×D))
 | aK (a:Addr) (kvs:List (Key×D))
 | fo (s:Sh)
noncomputable def lO (K:NR) (H:Hp) {κ:Type}:List (κ×D)->List (κ×V)->Prop:=Paired λa b=>a.1=b.1/\Rep K H a.2 b.2
theorem lO.mono {K:NR} (e:aG H H') (h:lO K H ks xs):lO K H' ks xs :=
 Paired.Gq h λa b z=>⟨z.1,Rep.mono e _ z.2⟩
noncomputable def kG (K:NR) (H:Hp):List (List Key×D)->List (List Key×Addr×V)->Prop:=Paired λa b=>a.1=b.1/\dB K H b.2.1 (a.1.map kV)/\Rep K H a.2 b.2.2
theorem kG.mono {K:NR} (e:aG H H') (h:kG K H ks xs):kG K H' ks xs :=
 Paired.Gq h λa b z=>⟨z.1,au e z.2.1,Rep.mono e _ z.2.2⟩
noncomputable def aU (K:NR) (fr:Addr->Prop) (H Hf:Hp):Sl->V->Prop
 | .un,_=>False
 | .va d,v=>Rep K Hf d v
 | .ow ds,v=>∃ p xs,v=.ref p/\fr p/\H p=some (.lst xs)/\Hf p=none/\ak K Hf ds xs
 | .oT kvs,v=>∃ p xs,v=.ref p/\fr p/\H p=some (.dT xs)/\Hf p=none/\kG K Hf kvs xs
 | .oK kvs,v=>∃ p xs,v=.ref p/\fr p/\H p=some (.dK xs)/\Hf p=none/\lO K Hf kvs xs
 | .aw a ds,v=>∃ p xs,v=.ref p/\(fr p/\p=a)/\H p=some (.lst xs)/\Hf p=none/\ak K Hf ds xs
 | .aT a kvs,v=>∃ p xs,v=.ref p/\(fr p/\p=a)/\H p=some (.dT xs)/\Hf p=none/\kG K Hf kvs xs
 | .aK a kvs,v=>∃ p xs,v=.ref p/\(fr p/\p=a)/\H p=some (.dK xs)/\Hf p=none/\lO K Hf kvs xs
 | .fo s,v=>∃ fp,aI K H Hf s v fp/\(fp.map (·.1)).Nodup/\∀ a∈fp,fr a.1
noncomputable def Sl.owned:Sl->Bool
 | .ow _=>true | .oT _=>true | .oK _=>true | .aw _ _=>true | .aT _ _=>true | .aK _ _=>true | _=>false
structure br (H Hf H' ah:Hp):Prop where
 s:aG H H'
 f:aG Hf ah
 b:aG ah H'
 n:∀ b,Hf b=none->H b≠none->(∀ xs,H b≠some (.tup xs))->ah b=none
theorem br.refl (b:aG Hf H):br H Hf H Hf:=⟨.refl _,.refl _,b,λ_ h _ _=>h⟩
theorem br.trans (a:br H Hf H1 aP) (b:br H1 aP H2 cI):br H Hf H2 cI :=
 ⟨a.s.trans b.s,a.f.trans b.f,b.b,λc h1 h2 h3=>by
   cases q:H c with
   | none=>exact absurd q h2
   | some o =>
    have e:=a.s c o q
    exact b.n c (a.n c h1 h2 h3) (by rw [e]; simp) (by intro xs; rw [e,<- q]; exact h3 xs)⟩
theorem br.new (b:aG Hf H) (hp:H p=none):br H Hf (upd H p o) (upd Hf p o):=by
 have hf:Hf p=none:=b.free hp
 refine ⟨λc u h=>?_,λc u h=>?_,λc u h=>?_,λc h1 h2 _=>?_⟩
 ·rw [aj (aB h hp)]; exact h
 ·rw [aj (aB h hf)]; exact h
 ·by_cases e:c=p
  ·subst e; rw [af] at h |-; exact h
  ·rw [aj e] at h |-; exact b c u h
 ·by_cases e:c=p
  ·subst e; exact absurd hp h2
  ·rw [aj e]; exact h1
theorem br.gh (b:aG Hf H) (hp:H p=none):br H Hf (upd H p o) Hf :=
 ⟨(br.new b hp (o:=o)).s,.refl _,λc u h=>(br.new b hp (o:=o)).s c u (b c u h),λ_ h _ _=>h⟩
inductive At {α:Type}:List α->Nat->α->Prop where
 | z {x:α} {l:List α}:At (x::l) 0 x
 | s {x y:α} {l:List α} {i:Nat}:At l i x->At (y::l) (i+1) x
theorem At.get (h:At l i x):l[i]?=some x:=by
 induction h with
 | z=>rfl
 | s _ ih=>simpa using ih
theorem At.mem (h:At l i x):x∈l:=O3 h.get
inductive SSet {α:Type}:List α->Nat->α->List α->Prop where
 | z {x r:α} {l:List α}:SSet (x::l) 0 r (r::l)
 | s {r y:α} {l l':List α} {i:Nat}:SSet l i r l'->SSet (y::l) (i+1) r (y::l')
theorem SSet.eq (h:SSet l i r l'):l'=l.set i r:=by
 induction h with
 | z=>rfl
 | s _ ih=>simp [ih]
structure cQ (K:NR) (H₀ dM:Hp) (σ:L2.St) (H Hf:Hp) (ρ:List Sl):Prop where
 bas:br H₀ dM H Hf
 len:σ.length=ρ.length
 at_:∀ (i:Nat) (r:Sl),ρ[i]?=some r->r≠.un->∃ v,σ[i]?=some (some v)/\aU K (λp=>H₀ p=none) H Hf r v
 sep:∀ (i j:Nat) (r r':Sl) (p:Addr),i≠j->ρ[i]?=some r->ρ[j]?=some r'->r.owned=true->r'.owned=true->σ[i]?=some (some (.ref p))->σ[j]?≠some (some (.ref p))
structure Kz (P:Program) (w:World) (outer:List Env) (H:Hp) (s:Shared) (a C:Addr) (H':Hp) (s':Shared):Prop where
 os:s'.os=s.os
 bare:AllBare s'.gens
 un:Un (frs outer) [] H H' s.heap s'.heap
 hok:jh P w H' s'.heap
 new:s.heap.get? a=none
 free:H' a=none
 fly:∃ (t:Addr) (B:Heap),Heap.FlyingW B outer a (.ref C) (.ref t) s'.heap/\(∀ b o,s.heap.get? b=some o->b∉frs outer->∃ o',s'.heap.get? b=some o'/\B.get? b=some o') /\
  ∀ b o,H' b≠none->s'.heap.get? b=some o->B.get? b=some o
noncomputable def dU (P:Program) (w:World):GR:=λouter H s E e s'=>∃ a C H',e=.ref a/\Kz P w outer H s a C H' s'/\E (.ref C) (some a) H'
set_option genInjectivity false in
structure Ctx (P:Program) (w:World) (K:NR) (mg:Str->Option Value) (base:Heap) (k:Nat) (N:List Str) (sc:Scope) (bk:Bool) where
 X:Cx
 eP:X.prog=P
 ew:X.w=w
 eK:X.K=K
 emg:X.mg=mg
 eb:X.base=base
 eN:X.N=N
 esc:X.env.scope=sc
 calm:X.calm=true
 top:bk=false->X.stack=X.env::X.outer/\X.env.frame=some X.env.locals/\X.ex=[]
 cb:bk=false->∀ (aa:List (Addr×Obj)) (σ:L2.St) (H:Hp) (s:Shared),Inv X aa σ H s->∀ (x:Str) (c:Addr),X.env.cells.lookup x=some c->X.s₀.heap.objs.size<=c
 fn:∀ x,bk=false\/sc.names.lookup x=some .local->X.fn x=true\/X.env.scope.names.lookup x=some .local
 room:gW k X.A
 nd:N.Nodup
 vis:∀ x∈N,Loc sc x
 Hf:Hp
 B:Hp
 RX:Addr->List Sl->Prop
 exc:∀ (C a:Addr) (aa:List (Addr×Obj)) (σ:L2.St) (H ah:Hp) (ρ:List Sl) (s:Shared) (H':Hp) (s':Shared),Inv X aa σ H s->cQ X.K B Hf σ H ah ρ->RX C ρ->Kz X.prog X.w X.stack H s a C H' s'->aG H H'->X.xe (.ref a) s'
 RM:Addr->List Sl->Prop
 mde:∀ (C a:Addr) (aa:List (Addr×Obj)) (σ:L2.St) (H ah:Hp) (ρ:List Sl) (s:Shared) (h':Heap) (us:List Value),Inv X aa σ H s->cQ X.K B Hf σ H ah ρ->RM C ρ->Heap.MadeExcOf s.heap h' a (.ref C) us->X.xe (.ref a) { s with heap:=h' }
noncomputable def Sl.uz:Sl->Bool | .fo _=>true | _=>false
abbrev pA {α:Type} (fr:Addr->Prop) (H Hf:Hp) (o:α->HO) (R:α->Prop) (v:V):Prop:=∃ (p:Addr) (xs:α),v=.ref p/\fr p/\H p=some (o xs)/\Hf p=none/\R xs
theorem pA.JT (h:pA fr H Hf o R v) (hk:∀ p,v=.ref p->∀ u,(∀ ys,u≠.tup ys)->H p=some u->Hf p=none->H' p=some u/\ah p=none) (ho:∀ xs ys,o xs≠.tup ys) (hR:∀ xs,R xs->R' xs):pA fr H' ah o R' v:=by
 obtain ⟨p,xs,e,f,h1,h2,h3⟩:=h
 exact ⟨p,xs,e,f,(hk p e _ (ho xs) h1 h2).1,(hk p e _ (ho xs) h1 h2).2,hR xs h3⟩
theorem pA.JU (h:pA fr H Hf o R v) (hf:∀ p,fr p->fr' p):pA fr' H Hf o R v :=
 let ⟨p,xs,e,f,h⟩:=h; ⟨p,xs,e,hf p f,h⟩
theorem aU.mv {K:NR} {B:Addr->Prop} (sf:aG Hf ah) (hk:∀ q o,¬ B q->H q=some o->(∀ xs,o≠.tup xs)->Hf q=none->H' q=some o/\ah q=none):∀ {r:Sl} {v:V},
 (r.uz=true->∀ q,B q->¬ za H q)->(r.owned=true->∀ q,v=.ref q->¬ B q)->aU K fr H Hf r v->aU K fr H' ah r v
 | .un,_,_,_,h=>h
 | .va d,_,_,_,h=>Rep.mono sf d h
 | .ow ds,_,_,hv,h=>pA.JT h (λp e o z ho hf=>hk p o (hv rfl p e) ho z hf) (λ_ _ z=>by cases z) λ_ h=>h.mono sf
 | .oT kvs,_,_,hv,h=>pA.JT h (λp e o z ho hf=>hk p o (hv rfl p e) ho z hf) (λ_ _ z=>by cases z) λ_ h=>h.mono sf
 | .oK kvs,_,_,hv,h=>pA.JT h (λp e o z ho hf=>hk p o (hv rfl p e) ho z hf) (λ_ _ z=>by cases z) λ_ h=>h.mono sf
 | .aw a ds,_,_,hv,h=>pA.JT h (λp e o z ho hf=>hk p o (hv rfl p e) ho z hf) (λ_ _ z=>by cases z) λ_ h=>h.mono sf
 | .aT a kvs,_,_,hv,h=>pA.JT h (λp e o z ho hf=>hk p o (hv rfl p e) ho z hf) (λ_ _ z=>by cases z) λ_ h=>h.mono sf
 | .aK a kvs,_,_,hv,h=>pA.JT h (λp e o z ho hf=>hk p o (hv rfl p e) ho z hf) (λ_ _ z=>by cases z) λ_ h=>h.mono sf
 | .fo s,_,hB,_,⟨fp,h1,h2,h3⟩=>⟨fp,aI.mv sf s (λq _ e1 e2=>hk q.1 _ (λb=>hB rfl q.1 b ⟨q.2,e1⟩) e1 (by intro ys z; cases z) e2) h1,h2,h3⟩
theorem aU.cF {K:NR} (g:br H Hf H' ah) (h:aU K fr H Hf r v):aU K fr H' ah r v :=
 aU.mv (B:=λ_=>False) g.f (λq o _ e1 e2 e3=>⟨g.s _ _ e1,g.n q e3 (by rw [e1]; simp) λxs z=>e2 xs (by rw [e1] at z; exact Pr z)⟩) (λ_ _ z=>z.elim) (λ_ _ _ z=>z) h
theorem aU.weak {K:NR} (hf:∀ p,fr p->fr' p):∀ {r:Sl} {v:V},aU K fr H Hf r v->aU K fr' H Hf r v
 | .un,_,h=>h
 | .va d,_,h=>h
 | .ow ds,_,h=>pA.JU h hf
 | .oT ds,_,h=>pA.JU h hf
 | .oK ds,_,h=>pA.JU h hf
 | .aw a ds,_,h=>pA.JU h λp f=>⟨hf p f.1,f.2⟩
 | .aT a ds,_,h=>pA.JU h λp f=>⟨hf p f.1,f.2⟩
 | .aK a ds,_,h=>pA.JU h λp f=>⟨hf p f.1,f.2⟩
 | .fo s,_,⟨fp,h1,h2,h3⟩=>⟨fp,h1,h2,λa ha=>hf _ (h3 a ha)⟩
section
variable {K:NR}
def Ctx.fr (c:Ctx P w K mg base k N sc bk) (p:Addr):Prop:=c.B p=none
abbrev bw (c:Ctx P w K mg base k N sc bk) (σ:L2.St) (H Hf:Hp) (ρ:List Sl):Prop:=cQ c.X.K c.B c.Hf σ H Hf ρ
theorem cQ.cF (S:cQ K H₀ dM σ H Hf ρ) (g:br H Hf H' ah):cQ K H₀ dM σ H' ah ρ :=
 ⟨S.bas.trans g,S.len,λi r h hr=>let ⟨v,e,q⟩:=S.at_ i r h hr; ⟨v,e,q.cF g⟩,S.sep⟩
theorem cQ.sb (S:cQ K H₀ dM σ H Hf ρ):aG Hf H:=S.bas.b
theorem cQ.va (S:cQ K H₀ dM σ H Hf ρ) {i:Nat} (h:ρ[i]?=some (.va d)):∃ v,σ[i]?=some (some v)/\Rep K Hf d v:=S.at_ i _ h (by simp)
theorem cQ.set (S:cQ K H₀ dM σ H Hf ρ) (g:br H Hf H1 aP) (hr:aU K (λp=>H p=none) H1 aP r v) :
 cQ K H₀ dM (σ.set i (some v)) H1 aP (ρ.set i r):=by
 have S1:=S.cF g
 have fr0:∀ p,H p=none->H₀ p=none:=λp h=>S.bas.s.free h
 have fresh:∀ p,r.owned=true->v=.ref p->H p=none:=λp ho e=>by
  subst e
  cases r with
  | un=>cases ho
  | va d=>cases ho
  | ow ds=>obtain ⟨p',xs,e,h,_⟩:=hr; cases e; exact h
  | oT ds=>obtain ⟨p',xs,e,h,_⟩:=hr; cases e; exact h
  | oK ds=>obtain ⟨p',xs,e,h,_⟩:=hr; cases e; exact h
  | aw a ds=>obtain ⟨p',xs,e,h,_⟩:=hr; cases e; exact h.1
  | aT a ds=>obtain ⟨p',xs,e,h,_⟩:=hr; cases e; exact h.1
  | aK a ds=>obtain ⟨p',xs,e,h,_⟩:=hr; cases e; exact h.1
  | fo s=>cases ho
 have old:∀ (j:Nat) (r':Sl) (p:Addr),ρ[j]?=some r'->r'.owned=true->σ[j]?=some (some (.ref p))->H p≠none:=λj r' p h ho hs=>by
  obtain ⟨v',e,q⟩:=S.at_ j r' h (by rintro rfl; cases ho)
  rw [hs] at e; cases e
  cases r' with
  | un=>cases ho
  | va d=>cases ho
  | ow ds=>obtain ⟨p',xs,e,_,h,_⟩:=q; cases e; rw [h]; simp
  | oT ds=>obtain ⟨p',xs,e,_,h,_⟩:=q; cases e; rw [h]; simp
  | oK ds=>obtain ⟨p',xs,e,_,h,_⟩:=q; cases e; rw [h]; simp
  | aw a ds=>obtain ⟨p',xs,e,_,h,_⟩:=q; cases e; rw [h]; simp
  | aT a ds=>obtain ⟨p',xs,e,_,h,_⟩:=q; cases e; rw [h]; simp
  | aK a ds=>obtain ⟨p',xs,e,_,h,_⟩:=q; cases e; rw [h]; simp
  | fo s=>cases ho
 refine ⟨S1.bas,by simp [S.len],λj r' hj hu=>?_,λj j' r1 r2 p hne h1 h2 o1 o2 e1 e2=>?_⟩
 ·by_cases q:j=i
  ·subst q
   have hi:j<ρ.length:=by
    have:=(N4.mp hj).1
    simpa using this
   rw [O2 hi] at hj; cases hj
   exact ⟨v,O2 (by rw [S.len]; exact hi),hr.weak fr0⟩
  ·rw [O4 (Og q)] at hj |-
   exact S1.at_ j r' hj hu
 ·have hlt:∀ {j:Nat} {r:Sl},(ρ.set i r)[j]?=some r->j<ρ.length:=λ{j r} h=>by
   have:=(N4.mp h).1
   simpa using this
  by_cases q1:j=i
  ·subst q1
   have hi:j<ρ.length:=by have:=(N4.mp h1).1; simpa using this
   rw [O2 hi] at h1; cases h1
   rw [O2 (by rw [S.len]; exact hi)] at e1
   rw [O4 hne] at h2 e2
   exact old j' r2 p h2 o2 e2 (fresh p o1 (by simpa using e1))
  ·by_cases q2:j'=i
   ·subst q2
    have hi:j'<ρ.length:=by have:=(N4.mp h2).1; simpa using this
    rw [O2 hi] at h2; cases h2
    rw [O2 (by rw [S.len]; exact hi)] at e2
    rw [O4 (Og hne)] at h1 e1
    exact old j r1 p h1 o1 e1 (fresh p o2 (by simpa using e2))
   ·rw [O4 (Og q1)] at h1 e1
    rw [O4 (Og q2)] at h2 e2
    exact S.sep j j' r1 r2 p hne h1 h2 o1 o2 e1 e2
theorem cQ.weak (S:cQ K H₀ dM σ H Hf ρ) (hl:ρ'.length=ρ.length) (h:∀ (i:Nat) (r:Sl),ρ'[i]?=some r->r≠.un->ρ[i]?=some r):cQ K H₀ dM σ H Hf ρ' :=
 ⟨S.bas,by rw [S.len,hl],λi r e hu=>S.at_ i r (h i r e hu) hu,λi j r r' p hne h1 h2 o1 o2=>S.sep i j r r' p hne (h i r h1 (by rintro rfl; cases o1)) (h j r' h2 (by rintro rfl; cases o2)) o1 o2⟩
end
section
variable {P:Program} {w:World} {K:NR} {mg:Str->Option Value} {base:Heap} {k:Nat} {N:List Str} {sc:Scope} {bk:Bool}
noncomputable def bE (X:Cx) (e:Expr):TE:=λσ H Q=>∀ aa s,Inv X aa σ H s->wpAny (model X.prog X.w) X.A (eval e X.env) (EP X aa σ Q) X.xe s
theorem dz:PE X e (bE X e):=λaa s σ H Q I h=>h aa s I
theorem bK (h:PE X e t) (q:t σ H Q):bE X e σ H Q:=λaa s I=>h aa s σ H Q I q
noncomputable def bT (X:Cx) (e:Expr):TT:=λσ H Q=>∀ aa s,Inv X aa σ H s->wpAny (model X.prog X.w) X.A (isTrue e X.env (eval e X.env)) (TP X aa σ Q) X.xe s
theorem Fq:PT X e (bT X e):=λaa s σ H Q I h=>h aa s I
theorem uA (h:PT X e t) (q:t σ H Q):bT X e σ H Q:=λaa s I=>h aa s σ H Q I q
noncomputable def bA (X:Cx) (es:List Expr):TA:=λσ H Q=>∀ pos aa s,Inv X aa σ H s->wpAny (model X.prog X.w) X.A (spliced (backTo pos (starEach es X.env))) (AP X aa σ Q) X.xe s
theorem Dd:PA X es (bA X es):=λpos aa s σ H Q I h=>h pos aa s I
theorem mW (h:PA X es t) (q:t σ H Q):bA X es σ H Q:=λpos aa s I=>h pos aa s σ H Q I q
noncomputable def bS (X:Cx) (st:Stmt):TS:=λD σ H=>∀ aa s,Inv X aa σ H s->wpAny (model X.prog X.w) X.A (exec st X.env) (SP X aa D) X.xe s
theorem NL {st:Stmt}:PS X st (bS X st):=λaa s σ H D I h=>h aa s I
theorem dO {st:Stmt} (h:PS X st t) {D:Ends} (q:t D σ H):bS X st D σ H:=λaa s I=>h aa s σ H D I q
noncomputable def G7 (X:Cx) (st:List Stmt):TS:=λD σ H=>∀ aa s,Inv X aa σ H s->wpAny (model X.prog X.w) X.A (execs st X.env) (SP X aa D) X.xe s
theorem pY {st:List Stmt}:rM X st (G7 X st):=λaa s σ H D I h=>h aa s I
theorem zb {st:List Stmt} (h:rM X st t) {D:Ends} (q:t D σ H):G7 X st D σ H:=λaa s I=>h aa s σ H D I q
noncomputable def bG (X:Cx) (tg:Expr):TG:=λv σ H Q=>∀ aa s u,Inv X aa σ H s->RelV v u->wpAny (model X.prog X.w) X.A (assign tg X.env u) (λ_ s'=>∃ σ' H',Inv X aa σ' H' s'/\Q σ' H') X.xe s
theorem Np:PG X tg (bG X tg):=λaa s σ H v u Q I r h=>h aa s u I r
theorem uB (h:PG X tg t) (q:t v σ H Q):bG X tg v σ H Q:=λaa s u I r=>h aa s σ H v u Q I r q
variable (c:Ctx P w K mg base k N sc bk)
def cS (e:Expr) (ρ:List Sl) (R:Sl->Prop):Prop :=
 ∀ (σ:L2.St) (H Hf:Hp) (Q:VK),bw c σ H Hf ρ->(∀ r v H' ah,R r->aU c.X.K (λp=>H p=none) H' ah r v->br H Hf H' ah->Q v H')->bE c.X e σ H Q
def aF (e:Expr) (ρ:List Sl) (R:D->Prop):Prop :=
 ∀ (σ:L2.St) (H Hf:Hp) (Q:VK),bw c σ H Hf ρ->(∀ d v H' ah,R d->Rep c.X.K ah d v->br H Hf H' ah->Q v H')->bE c.X e σ H Q
def iM (e:Expr) (ρ:List Sl) (R:Bool->Prop):Prop :=
 ∀ (σ:L2.St) (H Hf:Hp) (Q:Bool->Hp->Prop),bw c σ H Hf ρ->(∀ b H' ah,R b->br H Hf H' ah->Q b H')->bT c.X e σ H Q
def nY (es:List Expr) (ρ:List Sl) (R:List D->Prop):Prop :=
 ∀ (σ:L2.St) (H Hf:Hp) (Q:List V->Hp->Prop),bw c σ H Hf ρ->(∀ ds vs H' ah,R ds->ak c.X.K ah ds vs->br H Hf H' ah->Q vs H')->bA c.X es σ H Q
structure Pt where
 rt:Sl->Prop
 bk:List Sl->Prop:=λ_=>False
 ct:List Sl->Prop:=λ_=>False
structure zc (nx:List Sl->Prop) (p:Pt) (D:Ends):Prop where
 nx:∀ σ H Hf ρ,bw c σ H Hf ρ->nx ρ->D.nx σ H
 rt:∀ r v H Hf,br c.B c.Hf H Hf->aU c.X.K c.fr H Hf r v->p.rt r->D.rt v H
 bk:∀ σ H Hf ρ,bw c σ H Hf ρ->p.bk ρ->D.bk σ H
 ct:∀ σ H Hf ρ,bw c σ H Hf ρ->p.ct ρ->D.ct σ H
def eG (st:Stmt) (ρ:List Sl) (nx:List Sl->Prop) (p:Pt):Prop :=
 ∀ (σ:L2.St) (H Hf:Hp) (D:Ends),bw c σ H Hf ρ->zc c nx p D->bS c.X st D σ H
def aQ (st:List Stmt) (ρ:List Sl) (nx:List Sl->Prop) (p:Pt):Prop :=
 ∀ (σ:L2.St) (H Hf:Hp) (D:Ends),bw c σ H Hf ρ->zc c nx p D->G7 c.X st D σ H
def lP (tg:Expr) (d:D) (ρ:List Sl) (R:List Sl->Prop):Prop :=
 ∀ (σ:L2.St) (H Hf:Hp) (v:V) (Q:L2.St->Hp->Prop),bw c σ H Hf ρ->Rep c.X.K Hf d v->(∀ σ' H' ah ρ',bw c σ' H' ah ρ'->br H Hf H' ah->R ρ'->Q σ' H')->bG c.X tg v σ H Q
variable {c}
noncomputable def Sl.fz:Sl->Option D
 | .va d=>some d
 | .ow ds=>some (.lst ds)
 | _=>none
def G8 (R:D->Prop) (r:Sl):Prop:=∃ d,r.fz=some d/\R d
theorem G9 (e:r.fz=some d) (h:aU K (λp=>H p=none) H' ah r v) (g:br H Hf H' ah) :
 ∃ cI,Rep K cI d v/\br H Hf H' cI:=by
 cases r with
 | un=>cases e
 | va d'=>cases e; exact ⟨ah,h,g⟩
 | oT _=>cases e
 | oK _=>cases e
 | aw _ _=>cases e
 | aT _ _=>cases e
 | aK _ _=>cases e
 | fo _=>cases e
 | ow ds =>
  cases e
  obtain ⟨p,xs,rfl,hp,h1,h2,h3⟩:=h
  have sf:aG ah (upd ah p (.lst xs)):=λb o e=>by rw [aj (aB e h2)]; exact e
  have sb:aG (upd ah p (.lst xs)) H':=λb o e=>by
   by_cases q:b=p
   ·subst q; rw [af] at e; rw [h1]; exact e
   ·rw [aj q] at e; exact g.b b o e
  refine ⟨upd ah p (.lst xs),bf.mpr ⟨p,xs,rfl,.inl (.inl af),h3.mono sf⟩,g.s,g.f.trans sf,sb,λb q1 q2 q3=>?_⟩
  have e:=g.n b q1 q2 q3
  by_cases q:b=p
  ·subst q; exact absurd hp q2
  ·rw [aj q]; exact e
theorem e_x (h:cS c e ρ (G8 R)):aF c e ρ R:=λσ H Hf Q S q =>
 h σ H Hf Q S λr v H' ah ⟨d,e1,rd⟩ rs g=>let ⟨cI,h1,g2⟩:=G9 e1 rs g; q d v H' cI rd h1 g2
theorem Ft (h:aF c e ρ λd=>R (.va d)):cS c e ρ R:=λσ H Hf Q S q =>
 h σ H Hf Q S λd v H' ah rd h1 g=>q (.va d) v H' ah rd h1 g
theorem aF.imp (h:aF c e ρ R) (hi:∀ d,R d->R' d):aF c e ρ R':=λσ H Hf Q S q=>h σ H Hf Q S λd v H' ah rd=>q d v H' ah (hi d rd)
theorem cS.imp (h:cS c e ρ R) (hi:∀ d,R d->R' d):cS c e ρ R':=λσ H Hf Q S q=>h σ H Hf Q S λd v H' ah rd=>q d v H' ah (hi d rd)
theorem iM.imp (h:iM c e ρ R) (hi:∀ d,R d->R' d):iM c e ρ R':=λσ H Hf Q S q=>h σ H Hf Q S λd H' ah rd=>q d H' ah (hi d rd)
theorem uC (hN:At N i x) (hs:At ρ i (.va d)) (hR:R d)
 (hd:(x == ("__debug__":Str))=false:=by decide) (hcd:(x == ("__classdict__":Str))=false:=by decide) :
 aF c (.Name x pos) ρ R:=λσ H Hf Q S q=>by
 obtain ⟨v,e,r⟩:=S.va hs.get
 exact bK (rQ (X:=c.X) (i:=i) (by rw [c.eN]; exact hN.get) (by rw [c.esc]; rcases c.vis x hN.mem with h | h; exact .inl h; exact .inr (.inl h)) hd hcd) ⟨v,e,q d v H Hf hR r (.refl S.sb)⟩
theorem KA (hR:R (.int i)):aF c (.Constant (.int i) j pos) ρ R:=λσ H Hf Q S q =>
 bK nO (q _ _ H Hf hR (av.mpr rfl) (.refl S.sb))
theorem MT (hR:R (.bl i)):aF c (.Constant (.bool i) j pos) ρ R:=λσ H Hf Q S q =>
 bK Fg (q _ _ H Hf hR (fu.mpr rfl) (.refl S.sb))
theorem se (hm:mg x=some (.int i t)) (hR:R (.int i)) (hg:sc.names.lookup x=some .globalImplicit:=by walk_at "u") (hd:(x == ("__debug__":Str))=false:=by decide) :
 aF c (.Name x pos) ρ R:=λσ H Hf Q S q =>
 bK (ud (X:=c.X) (v:=.int i) (u:=.int i t) (by unfold Gl Ox; rw [c.esc]; exact hg) (by rw [c.emg]; exact hm) ⟨t,rfl⟩ hd) (q _ _ H Hf hR (av.mpr rfl) (.refl S.sb))
def L5 (K:NR) (r:R2) (p:D->D->(Sl->Prop)->Prop):Prop :=
 ∀ (x y:D) (v u:V) (H Hf:Hp) (Q:VK) (R:Sl->Prop),aG Hf H->Rep K Hf x v->Rep K Hf y u->p x y R ->
  (∀ z v' H' ah,R z->aU K (λp=>H p=none) H' ah z v'->br H Hf H' ah->Q v' H')->r v u H Q
theorem nZ (ho:fL c.X (binaryOp op) r) (hd:L5 c.X.K r p)
 (h:aF c a ρ λx=>aF c b ρ λy=>p x y R):cS c (.BinOp a op b pos) ρ R:=λσ H Hf Q S q =>
 bK (yH ho dz dz) (h σ H Hf _ S λx v1 H1 aP h1 r1 g1=>h1 σ H1 aP _ (S.cF g1) λy v2 H2 cI h2 r2 g2 =>
  hd x y v1 v2 H2 cI Q R g2.b (Rep.mono g2.f x r1) r2 h2 λz v' H' ah hz rz g3 =>
   q z v' H' ah hz (rz.weak λp hp=>(g1.trans g2).s.free hp) ((g1.trans g2).trans g3))
theorem mX {f:Int->Int->Int}:L5 K (rI C λi j=>.int (f i j)) λx y R=>∃ i j,x=.int i/\y=.int j/\C i j/\R (.va (.int (f i j))):=by
 rintro x y v u H Hf Q R s rx ry ⟨i,j,rfl,rfl,hC,hR⟩ q
 rw [av] at rx ry
 exact ⟨i,j,rx,ry,hC,q (.va (.int (f i j))) _ H Hf hR (show Rep K Hf (.int (f i j)) _ from av.mpr rfl) (.refl s)⟩
theorem zd {f:Int->Int->Int}:L5 K (ue λi j=>.int (f i j)) λx y R=>∃ i j,x=.int i/\y=.int j/\R (.va (.int (f i j))):=by
 rintro x y v u H Hf Q R s rx ry ⟨i,j,rfl,rfl,hR⟩ q
 rw [av] at rx ry
 exact ⟨i,j,rx,ry,q (.va (.int (f i j))) _ H Hf hR (show Rep K Hf (.int (f i j)) _ from av.mpr rfl) (.refl s)⟩
theorem iN (h:cS c e ρ λr=>∃ d,r=.va d/\R d):aF c e ρ R:=e_x (h.imp λr ⟨d,e,hr⟩=>⟨d,by subst e; rfl,hr⟩)
noncomputable def jJ:D->D->Bool
 | .non,.non=>true | .non,.int _=>true | .int _,.non=>true | .non,.bl _=>true | .bl _,.non=>true | .non,.str _=>true | .str _,.non=>true
 | .int _,.int _=>true | .bl _,.bl _=>true | .str _,.str _=>true | .int _,.str _=>true | .str _,.int _=>true | .bl _,.str _=>true | .str _,.bl _=>true
 | _,_=>false
noncomputable instance:DecidableEq D:=λ_ _=>Classical.propDecidable _
inductive jY:Nat->D->D->Prop where
 | sc {n:Nat} {x y:D} (h:jJ x y=true):jY n x y
 | tup {n:Nat} {ds es:List D} (h:∀ (i:Nat) (d e:D),ds[i]?=some d->es[i]?=some e->jY n d e):jY (n+1) (.tup ds) (.tup es)
 | lst {n:Nat} {ds es:List D} (h:∀ (i:Nat) (d e:D),ds[i]?=some d->es[i]?=some e->jY n d e):jY (n+1) (.lst ds) (.lst es)
 | ln {n:Nat} {ds:List D}:jY n (.lst ds) .non
 | nl {n:Nat} {ds:List D}:jY n .non (.lst ds)
 | tn {n:Nat} {ds:List D}:jY n (.tup ds) .non
 | nt {n:Nat} {ds:List D}:jY n .non (.tup ds)
def n5 (ds es:List D):Prop:=∀ (i:Nat) (d e:D),ds[i]?=some d->es[i]?=some e->jY 40 d e
def KC (x y:D):Prop:=jJ x y=true\/∃ ds es,((x=.tup ds/\y=.tup es)\/(x=.lst ds/\y=.lst es))/\n5 ds es
section
variable {a b:Expr} {pos:Pos} {ρ:List Sl} {R:D->Prop}
structure Sd (A B:Prop):Prop where
 s:A
 r:B
structure lY (A B:Prop) (x:Bool):Prop where
 t:x=true->A
 f:x=false->B
theorem Fv (h1:A):lY A B true:=⟨λ_=>h1,λh=>by cases h⟩
theorem Fw (h1:B):lY A B false:=⟨λh=>(by cases h),λ_=>h1⟩
theorem De (h1:p->A) (h2:¬ p->B):lY A B (@decide p i):=⟨λh=>h1 (of_decide_eq_true h),λh=>h2 (of_decide_eq_false h)⟩
theorem Df (h:lY B A x):lY A B (!x):=⟨λe=>h.f (by simpa using e),λe=>h.t (by simpa using e)⟩
def Dg (x y:D) (T:Bool->Prop):Prop:=KC x y/\T (decide (x=y))
theorem Dh (h:T (decide (i=j))):Dg (.int i) (.int j) T:=⟨.inl rfl,by
 have e:decide (D.int i=D.int j)=decide (i=j):=by simp
 rw [e]; exact h⟩
theorem Di (h:Sd (n5 ds es) (T (decide (ds=es)))):Dg (.lst ds) (.lst es) T:=⟨.inr ⟨ds,es,.inr ⟨rfl,rfl⟩,h.s⟩,by
 have e:decide (D.lst ds=D.lst es)=decide (ds=es):=by simp
 rw [e]; exact h.r⟩
noncomputable def I2 (k:Int->Int->Prop):D->D->Prop:=λx y=>∃ i j,x=.int i/\y=.int j/\k i j
theorem i2 {k:Int->Int->Prop} (h:k i j):I2 k (.int i) (.int j):=⟨i,j,rfl,rfl,h⟩
noncomputable def I1 (k:Int->Prop):D->Prop:=λx=>∃ i,x=.int i/\k i
theorem i1 {k:Int->Prop} (h:k i):I1 k (.int i):=⟨i,rfl,h⟩
noncomputable def B1 (k:Bool->Prop):D->Prop:=λx=>∃ i,x=.bl i/\k i
theorem b1 {k:Bool->Prop} (h:k i):B1 k (.bl i):=⟨i,rfl,h⟩
theorem KD (h:aF c a ρ λx=>aF c b ρ λy=>I2 (λi j=>R (.int (i - j))) x y):aF c (.BinOp a .Sub b pos) ρ R :=
 iN (nZ GI zd (h.imp λx hx=>hx.imp λy ⟨i,j,e1,e2,r⟩=>⟨i,j,e1,e2,_,rfl,r⟩))
def MulOk (i j:Int):Prop:=IntMulOk i j
def ze (j:Int):Prop:=0<j/\j.natAbs.log2<9000
theorem Dj:fL c.X (binaryOp .Mult) (rI MulOk λi j=>.int (i * j)):=JR λ_ _ _ _ _ _ _ hc q=>mul_int q hc
theorem zf:fL c.X (binaryOp .FloorDiv) (rI (λ_ j=>ze j) λi j=>.int (i / j)):=JR λi j _ _ _ _ _ hc q=>by
 have h1:(0:Int)<j:=hc.1
 exact floordiv_int (by lia) (by rw [Int.fdiv_eq_ediv_of_nonneg i (by lia)]; exact q) (.inl (PyProof.noPylong_of_log2 hc.2))
theorem KG (h:aF c a ρ λx=>aF c b ρ λy=>I2 (λi j=>Sd (MulOk i j) (R (.int (i * j)))) x y):aF c (.BinOp a .Mult b pos) ρ R :=
 iN (nZ Dj mX (h.imp λx hx=>hx.imp λy ⟨i,j,e1,e2,⟨hc,r⟩⟩=>⟨i,j,e1,e2,hc,_,rfl,r⟩))
theorem Hg (h:aF c a ρ λx=>aF c b ρ λy=>I2 (λi j=>Sd (ze j) (R (.int (i / j)))) x y):aF c (.BinOp a .FloorDiv b pos) ρ R :=
 iN (nZ zf mX (h.imp λx hx=>hx.imp λy ⟨i,j,e1,e2,⟨hc,r⟩⟩=>⟨i,j,e1,e2,hc,_,rfl,r⟩))
theorem KH (h:aF c a ρ λx=>aF c b ρ λy=>I2 (λi j=>Sd (0<j) (R (.int (i % j)))) x y):aF c (.BinOp a .Mod b pos) ρ R :=
 iN (nZ GJ mX (h.imp λx hx=>hx.imp λy ⟨i,j,e1,e2,⟨hc,r⟩⟩=>⟨i,j,e1,e2,hc,_,rfl,r⟩))
theorem KI (h:aF c a ρ λx=>aF c b ρ λy=>I2 (λi j=>Sd (rV i j) (R (.int (i ^ j.toNat)))) x y):aF c (.BinOp a .Pow b pos) ρ R :=
 iN (nZ GK mX (h.imp λx hx=>hx.imp λy ⟨i,j,e1,e2,⟨hc,r⟩⟩=>⟨i,j,e1,e2,hc,_,rfl,r⟩))
theorem KJ (h:aF c a ρ (I1 λi=>R (.int (-i)))):aF c (.UnaryOp .USub a pos) ρ R:=λσ H Hf Q S q =>
 bK (Kg GP dz) (h σ H Hf _ S λx v H' ah hx r g=>by
  obtain ⟨i,rfl,hR⟩:=hx
  rw [av] at r
  exact ⟨i,r,q _ _ H' ah hR (av.mpr rfl) g⟩)
def zg (K:NR) (r:R2) (p:D->D->(Bool->Prop)->Prop):Prop :=
 ∀ (x y:D) (v u:V) (H Hf:Hp) (Q:VK) (R:Bool->Prop),aG Hf H->Rep K Hf x v->Rep K Hf y u->p x y R->(∀ b,R b->Q (.bl b) H)->r v u H Q
theorem KL (ho:fL c.X (compareOp op) r) (hd:zg c.X.K r p) (h:aF c a ρ λx=>aF c b ρ λy=>p x y λz=>R (.bl z))
 (hm:behindInMarks op b=false):aF c (.Compare a [op] [b] pos) ρ R:=λσ H Hf Q S q =>
 bK (CK ho dz dz hm) (h σ H Hf _ S λx v1 H1 aP h1 r1 g1=>h1 σ H1 aP _ (S.cF g1) λy v2 H2 cI h2 r2 g2 =>
  hd x y v1 v2 H2 cI Q _ g2.b (Rep.mono g2.f x r1) r2 h2 λz hz=>q _ _ H2 cI hz (fu.mpr rfl) (g1.trans g2))
theorem pZ (ho:fL c.X (compareOp op) r) (hd:zg c.X.K r p) (h:aF c a ρ λx=>aF c b ρ λy=>p x y T)
 (hm:behindInMarks op b=false):iM c (.Compare a [op] [b] pos) ρ T:=λσ H Hf Q S q =>
 uA (CL ho dz dz hm) (h σ H Hf _ S λx v1 H1 aP h1 r1 g1=>h1 σ H1 aP _ (S.cF g1) λy v2 H2 cI h2 r2 g2 =>
  hd x y v1 v2 H2 cI _ T g2.b (Rep.mono g2.f x r1) r2 h2 λz hz=>⟨z,rfl,q _ H2 cI hz (g1.trans g2)⟩)
theorem zh {f:Int->Int->Bool}:zg K (ue λi j=>.bl (f i j)) λx y R=>I2 (λi j=>R (f i j)) x y:=by
 rintro x y v u H Hf Q R s rx ry ⟨i,j,rfl,rfl,hR⟩ q
 rw [av] at rx ry
 exact ⟨i,j,rx,ry,q _ hR⟩
theorem uD (h:jJ x y=true) (rx:Rep K H x v) (ry:Rep K H y u):CJ v u=true/\decide (v=u)=decide (x=y):=by
 cases x <;> cases y <;> simp [jJ] at h <;> simp only [av,fu,bU,fN] at rx ry <;> subst rx <;> subst ry <;> simp [CJ]
theorem MU (h:aF c a ρ λx=>aF c b ρ λy=>I2 (λi j=>T (decide (i<j))) x y):iM c (.Compare a [.Lt] [b] pos) ρ T:=pZ Km zh h (jk b)
theorem MV (h:aF c a ρ λx=>aF c b ρ λy=>I2 (λi j=>T (decide (j<i))) x y):iM c (.Compare a [.Gt] [b] pos) ρ T:=pZ Kn zh h (jk b)
theorem MW (h:aF c a ρ λx=>aF c b ρ λy=>I2 (λi j=>T (decide (j<=i))) x y):iM c (.Compare a [.GtE] [b] pos) ρ T:=pZ Ko zh h (jk b)
end
end
section
variable {K:NR} {c:Ctx P w K mg base k N sc bk}
variable {es rest:List Expr}
noncomputable def bW (X:Cx) (e:Expr):TT:=λσ H Q=>∀ whole aa s,Inv X aa σ H s->wpAny (model X.prog X.w) X.A (isTrue e X.env whole) (TP X aa σ Q) X.xe s
theorem Nq:PW X e (bW X e):=λwhole aa s σ H Q I h=>h whole aa s I
theorem uE (h:PW X e t) (q:t σ H Q):bW X e σ H Q:=λwhole aa s I=>h whole aa s σ H Q I q
def Fx (c:Ctx P w K mg base k N sc bk) (e:Expr) (ρ:List Sl) (R:Bool->Prop):Prop :=
 ∀ (σ:L2.St) (H Hf:Hp) (Q:Bool->Hp->Prop),bw c σ H Hf ρ->(∀ b H' ah,R b->br H Hf H' ah->Q b H')->bW c.X e σ H Q
theorem Nr (h:Fx c e ρ T):iM c e ρ T:=λσ H Hf Q S q aa s I=>h σ H Hf Q S q _ aa s I
theorem Hh (h:iM c a ρ T):Fx c (.BoolOp .And [a] pos) ρ T:=λσ H Hf Q S q=>uE (pw_and1 Fq) (h σ H Hf Q S q)
theorem KN (h:iM c a ρ T):Fx c (.BoolOp .Or [a] pos) ρ T:=λσ H Hf Q S q=>uE (pw_or1 Fq) (h σ H Hf Q S q)
theorem w_and (h:iM c a ρ (lY (Fx c (.BoolOp .And (b::rest) pos) ρ T) (T false))):Fx c (.BoolOp .And (a::b::rest) pos) ρ T:=λσ H Hf Q S q =>
 uE (pw_and Fq Nq) (h σ H Hf _ S λx H' ah hx g=>by
  cases x with
  | true=>exact hx.t rfl σ H' ah Q (S.cF g) λy H2 cI hy g2=>q y H2 cI hy (g.trans g2)
  | false=>exact q false H' ah (hx.f rfl) g)
theorem w_or (h:iM c a ρ (lY (T true) (Fx c (.BoolOp .Or (b::rest) pos) ρ T))):Fx c (.BoolOp .Or (a::b::rest) pos) ρ T:=λσ H Hf Q S q =>
 uE (pw_or Fq Nq) (h σ H Hf _ S λx H' ah hx g=>by
  cases x with
  | false=>exact hx.f rfl σ H' ah Q (S.cF g) λy H2 cI hy g2=>q y H2 cI hy (g.trans g2)
  | true=>exact q true H' ah (hx.t rfl) g)
theorem KO (h:iM c a ρ λx=>T (!x)):iM c (.UnaryOp .Not a pos) ρ T:=λσ H Hf Q S q =>
 uA (Gv Fq) (h σ H Hf _ S λx H' ah hx g=>q _ H' ah hx g)
theorem KP (h:aF c a ρ R):aF c (.BoolOp op [a] pos) ρ R:=λσ H Hf Q S q=>bK (Gw dz) (h σ H Hf Q S q)
theorem KQ (h:aF c a ρ (B1 (lY (aF c (.BoolOp .And (b::rest) pos) ρ R) (R (.bl false))))):aF c (.BoolOp .And (a::b::rest) pos) ρ R:=λσ H Hf Q S q =>
 bK (Gx dz dz) (h σ H Hf _ S λx v H' ah ⟨k,e,h1⟩ r g=>by
  subst e
  rw [fu] at r
  refine ⟨k,r,?_⟩
  cases k with
  | true=>rw [if_pos rfl]; exact h1.t rfl σ H' ah Q (S.cF g) λy v2 H2 cI hy r2 g2=>q y v2 H2 cI hy r2 (g.trans g2)
  | false=>rw [if_neg N5]; exact q _ _ H' ah (h1.f rfl) (fu.mpr rfl) g)
theorem Dk {R:Sl->Prop} (h:iM c t ρ (lY (cS c a ρ R) (cS c b ρ R))):cS c (.IfExp t a b pos) ρ R:=λσ H Hf Q S q =>
 bK (yy Fq dz dz) (h σ H Hf _ S λx H' ah hx g=>by
  cases x with
  | true=>rw [if_pos rfl]; exact hx.t rfl σ H' ah Q (S.cF g) λy v2 H2 cI hy r2 g2=>q y v2 H2 cI hy (r2.weak λp hp=>g.s.free hp) (g.trans g2)
  | false=>rw [if_neg N5]; exact hx.f rfl σ H' ah Q (S.cF g) λy v2 H2 cI hy r2 g2=>q y v2 H2 cI hy (r2.weak λp hp=>g.s.free hp) (g.trans g2))
theorem Dl (h:iM c t ρ (lY (aF c a ρ R) (aF c b ρ R))):aF c (.IfExp t a b pos) ρ R :=
 iN (Dk (h.imp λx hx=>⟨λe=>Ft ((hx.t e).imp λd h=>⟨d,rfl,h⟩),λe=>Ft ((hx.f e).imp λd h=>⟨d,rfl,h⟩)⟩))
theorem KR (h:aF c e ρ (B1 T)) (he:∀ (env:Env) whole,isTrue e env whole=(do let v <- whole; standAt e.pos; holding [v] (truthy v)):=by intro _ _; walk_at "u"):iM c e ρ T:=λσ H Hf Q S q =>
 uA (Gu dz (he _)) (h σ H Hf _ S λx v H' ah ⟨k,e,h1⟩ r g=>by
  subst e; rw [fu] at r
  exact ⟨k,r,q k H' ah h1 g⟩)
theorem kH {R:List D->Prop} (h:R []):nY c [] ρ R:=λσ H Hf Q S q=>mW dS (q [] [] H Hf h (aA.mpr rfl) (.refl S.sb))
theorem eU {R:List D->Prop} (h:aF c e ρ λd=>nY c es ρ λds=>R (d::ds)) (hs:∀ env,starEach (e::es) env=(false,eval e env)::starEach es env:=by intro _; walk_at "u"):nY c (e::es) ρ R:=λσ H Hf Q S q =>
 mW (bR dz Dd (hs _)) (h σ H Hf _ S λd v H1 aP h1 r1 g1=>h1 σ H1 aP _ (S.cF g1) λds vs H2 cI h2 r2 g2=>q _ _ H2 cI h2 (.cons (Rep.mono g2.f d r1) r2) (g1.trans g2))
theorem Fy (h:nY c es ρ λds=>Sd (ds.length<=sizeLine) (R (.tup ds))):aF c (.Tuple es j pos) ρ R:=λσ H Hf Q S q =>
 bK (yK Dd) (h σ H Hf _ S λds vs H' ah ⟨hl,hR⟩ r g=>⟨by rw [<- r.length]; exact hl,λp hp=>by
  have g2:=br.new g.b hp (o:=.tup vs)
  exact q _ _ _ _ hR (aH.mpr ⟨p,vs,rfl,.inl (.inl af),r.mono g2.f⟩) (g.trans g2)⟩)
theorem Fz {R:Sl->Prop} (h:nY c es ρ λds=>Sd (ds.length<=sizeLine) (R (.ow ds))):cS c (.List es pos) ρ R:=λσ H Hf Q S q =>
 bK (GQ Dd) (h σ H Hf _ S λds vs H' ah ⟨hl,hR⟩ r g=>⟨by rw [<- r.length]; exact hl,λp hp=>by
  have g2:=br.gh g.b hp (o:=.lst vs)
  exact q _ _ _ _ hR ⟨p,vs,rfl,g.s.free hp,af,g.b.free hp,r⟩ (g.trans g2)⟩)
variable {st:Stmt}
theorem n6 (h:nx ρ):aQ c [] ρ nx p:=λσ H Hf D S o=>zb CF (o.nx σ H Hf ρ S h)
theorem az (h:eG c st ρ (λρ'=>aQ c sts ρ' nx p) p):aQ c (st::sts) ρ nx p:=λσ H Hf D S o =>
 zb (yz NL pY) (h σ H Hf { D with nx:=G7 c.X sts D } S ⟨λσ' H' ah ρ' S' q=>q σ' H' ah D S' o,o.rt,o.bk,o.ct⟩)
theorem fD (h:cS c e ρ p.rt):eG c (.Return (some e) pos) ρ nx p:=λσ H Hf D S o =>
 dO (rR dz) (h σ H Hf _ S λr v H' ah hr rs g=>o.rt r v H' ah (S.bas.trans g) (rs.weak λp hp=>S.bas.s.free hp) hr)
theorem zj (hN:At N i x) (hi:At ρ i r) (hu:r.owned=true) (h:p.rt r)
 (hd:(x == ("__debug__":Str))=false:=by decide) (hcd:(x == ("__classdict__":Str))=false:=by decide) :
 eG c (.Return (some (.Name x pos2)) pos) ρ nx p:=λσ H Hf D S o=>by
 obtain ⟨v,e,rs⟩:=S.at_ i r hi.get (by rintro rfl; cases hu)
 exact dO (rR (rQ (X:=c.X) (i:=i) (by rw [c.eN]; exact hN.get) (by rw [c.esc]; rcases c.vis x hN.mem with h | h; exact .inl h; exact .inr (.inl h)) hd hcd)) ⟨v,e,o.rt r v H Hf S.bas rs h⟩
theorem Dm (h:iM c t ρ (lY (aQ c A ρ nx p) (aQ c B ρ nx p))):eG c (.If t A B pos) ρ nx p:=λσ H Hf D S o =>
 dO (J9 Fq pY pY) (h σ H Hf _ S λx H' ah hx g=>by
  cases x with
  | true=>rw [if_pos rfl]; exact hx.t rfl σ H' ah D (S.cF g) o
  | false=>rw [if_neg N5]; exact hx.f rfl σ H' ah D (S.cF g) o)
def Nx (ρ:List Sl) (i:Nat) (R:List Sl->Prop) (r:Sl):Prop:=∃ ρ',SSet ρ i r ρ'/\R ρ'
theorem jZ {R:List Sl->Prop} (h:SSet ρ i r ρ') (hr:R ρ'):Nx ρ i R r:=⟨ρ',h,hr⟩
theorem uF (hN:At N i x) (h:cS c e ρ (Nx ρ i nx))
 (hs:∀ env,swapsWith e (some (.Name x pos2)) pos.line env=pure false:=by intro _; walk_at "u") (hf:bk=false\/sc.names.lookup x=some .local:=by first | exact .inl rfl | exact .inr (by walk_at "u")):eG c (.Assign [.Name x pos2] e pos) ρ nx p:=λσ H Hf D S o =>
 dO (yE (X:=c.X) (i:=i) (by rw [c.eN]; exact c.nd) (by rw [c.eN]; exact hN.get) (by rw [c.esc]; exact c.vis x hN.mem) dz (hs _) (c.fn x hf)) (h σ H Hf _ S λr v H' ah ⟨ρ',hs,hx⟩ rs g=>o.nx _ H' ah _ (hs.eq ▸ S.set g rs) hx)
theorem cB {R:List Sl->Prop} (hN:At N i x) (h:Nx ρ i R (.va d)) (hf:bk=false\/sc.names.lookup x=some .local:=by first | exact .inl rfl | exact .inr (by walk_at "u")):lP c (.Name x pos) d ρ R:=λσ H Hf v Q S r q=>by
 obtain ⟨ρ',hs,h⟩:=h
 exact uB (jX (X:=c.X) (i:=i) (by rw [c.eN]; exact c.nd) (by rw [c.eN]; exact hN.get) (by rw [c.esc]; exact c.vis x hN.mem) (c.fn x hf)) (q _ H Hf _ (hs.eq ▸ S.set (.refl S.sb) (r:=.va d) r) (.refl S.sb) h)
def wM (c:Ctx P w K mg base k N sc bk) (ts:List Expr) (ds:List D) (ρ:List Sl) (R:List Sl->Prop):Prop :=
 ∀ (σ:L2.St) (H Hf:Hp) (vs:List V) (Q:L2.St->Hp->Prop),bw c σ H Hf ρ->ak c.X.K Hf ds vs->(∀ σ' H' ah ρ',bw c σ' H' ah ρ'->br H Hf H' ah->R ρ'->Q σ' H') ->
  ∀ aa s us,Inv c.X aa σ H s->Vals vs us->wpAny (model c.X.prog c.X.w) c.X.A (assignInOrder ((assignEach ts c.X.env).map (·.2)) us) (λ_ s'=>∃ σ' H',Inv c.X aa σ' H' s'/\Q σ' H') c.X.xe s
theorem Hi {R:List Sl->Prop} (h:R ρ):wM c [] [] ρ R:=λσ H Hf vs Q S r q aa s us I rv=>by
 rw [aA] at r; subst r
 exact CG aa s σ H [] us Q I rv ⟨rfl,q σ H Hf ρ S (.refl S.sb) h⟩
theorem Dn {R:List Sl->Prop} (hN:At N i x) (h:Nx ρ i (λρ'=>wM c ts ds ρ' R) (.va d))
 (hs:∀ env,(assignEach (.Name x pos::ts) env).map (·.2)=assign (.Name x pos) env::(assignEach ts env).map (·.2):=by intro _; walk_at "u") (hf:bk=false\/sc.names.lookup x=some .local:=by first | exact .inl rfl | exact .inr (by walk_at "u")):wM c (.Name x pos::ts) (d::ds) ρ R:=λσ H Hf vs Q S r q aa s us I rv=>by
 obtain ⟨ρ',hs',h⟩:=h
 rw [aC] at r
 obtain ⟨v,vr,rfl,r1,r2⟩:=r
 have hp:JQ c.X ts (λvs' σ' H' Q'=>∀ aa s us,Inv c.X aa σ' H' s->Vals vs' us->wpAny (model c.X.prog c.X.w) c.X.A (assignInOrder ((assignEach ts c.X.env).map (·.2)) us) (λ_ s'=>∃ σ'' H'',Inv c.X aa σ'' H'' s'/\Q' σ'' H'') c.X.xe s) :=
  λaa s σ H vs us Q I r h=>h aa s us I r
 refine yC (jX (X:=c.X) (i:=i) (by rw [c.eN]; exact c.nd) (by rw [c.eN]; exact hN.get) (by rw [c.esc]; exact c.vis x hN.mem) (c.fn x hf)) hp (hs _) aa s σ H _ us Q I rv ⟨v,vr,rfl,?_⟩
 have S1:=S.set (i:=i) (.refl S.sb) (r:=.va d) (v:=v) r1
 rw [<- hs'.eq] at S1
 exact h _ H Hf vr Q S1 r2 q
theorem uG {R:List Sl->Prop} (he:d=.tup ds) (hl:ds.length=ts.length) (h:wM c ts ds ρ R)
 (hn:∀ env,(assignEach ts env).length=ts.length:=by intro _; walk_at "u") (hst:∀ env,(assignEach ts env).findIdx? (·.1)=none:=by intro _; walk_at "u"):lP c (.Tuple ts j pos) d ρ R:=λσ H Hf v Q S r q=>by
 subst he
 rw [aH] at r
 obtain ⟨a,xs,rfl,h1,h2⟩:=r
 have hp:JQ c.X ts (λvs' σ' H' Q'=>∀ aa s us,Inv c.X aa σ' H' s->Vals vs' us->wpAny (model c.X.prog c.X.w) c.X.A (assignInOrder ((assignEach ts c.X.env).map (·.2)) us) (λ_ s'=>∃ σ'' H'',Inv c.X aa σ'' H'' s'/\Q' σ'' H'') c.X.xe s) :=
  λaa s σ H vs us Q I r h=>h aa s us I r
 refine uB (Gz (X:=c.X) (k:=j) (n:=ts.length) c.calm hp (hn _) (hst _)) ⟨a,xs,rfl,au S.sb h1,by rw [<- h2.length,hl],?_⟩
 exact h σ H Hf xs Q S h2 λσ' H' ah ρ' S' g' hR=>q σ' H' ah ρ' S' g' hR
theorem KS (h:aF c e ρ λd=>lP c tg d ρ nx) (hs:∀ env,swapsWithSole [tg] e pos.line env=pure false:=by intro _; walk_at "u") (hw:∀ env,swappedStores [tg] e env=pure none:=by intro _; walk_at "u") (h1:∀ env,(assignEach [tg] env).map (·.2)=[assign tg env]:=by intro _; walk_at "u"):eG c (.Assign [tg] e pos) ρ nx p:=λσ H Hf D S o =>
 dO (yD dz Np (hs _) (hw _) (h1 _)) (h σ H Hf _ S λd v H' ah hx r g=>hx σ H' ah v _ (S.cF g) r λσ' H2 cI ρ' S' _ hR=>o.nx σ' H2 cI ρ' S' hR)
theorem KU {f:Int->Int->Int} (ho:fL c.X (inplaceOp op) (rI C λi j=>.int (f i j))) (hN:At N i x) (hi:At ρ i (.va (.int m)))
 (h:aF c e ρ (I1 λj=>Sd (C m j) (Nx ρ i nx (.va (.int (f m j)))))) (hf:bk=false\/sc.names.lookup x=some .local:=by first | exact .inl rfl | exact .inr (by walk_at "u")):eG c (.AugAssign (.Name x pos2) op e pos) ρ nx p:=λσ H Hf D S o=>by
 obtain ⟨v,e1,r1⟩:=S.va hi.get
 rw [av] at r1; subst r1
 have hip:Nl c.X op (rI C λi j=>.int (f i j)):=λaa s σ H x y v u Q I rx ry h=>ho aa s σ H x y v u Q I rx ry h
 refine dO (GB (X:=c.X) (i:=i) (by rw [c.eN]; exact c.nd) (by rw [c.eN]; exact hN.get) (by rw [c.esc]; exact c.vis x hN.mem) dz hip (c.fn x hf)) ⟨_,e1,h σ H Hf _ S λd v H' ah ⟨j,ed,⟨hC,ρ',hs,hn⟩⟩ r g=>?_⟩
 subst ed; rw [av] at r
 have S2:=S.set g (i:=i) (r:=.va (.int (f m j))) (show Rep c.X.K ah (.int (f m j)) (.int (f m j)) from av.mpr rfl)
 rw [<- hs.eq] at S2
 exact ⟨m,j,rfl,r,hC,o.nx _ H' ah _ S2 hn⟩
theorem Hj (hN:At N i x) (hi:At ρ i (.va (.int m))) (h:aF c e ρ (I1 λj=>Nx ρ i nx (.va (.int (m - j))))) (hf:bk=false\/sc.names.lookup x=some .local:=by first | exact .inl rfl | exact .inr (by walk_at "u")) :
 eG c (.AugAssign (.Name x pos2) .Sub e pos) ρ nx p :=
 KU (C:=λ_ _=>True) (f:=λi j=>i - j) (λaa s σ H x y v u Q I rx ry ⟨i,j,e1,e2,_,q⟩=>CI aa s σ H x y v u Q I rx ry ⟨i,j,e1,e2,q⟩) hN hi (h.imp λd ⟨j,e,q⟩=>⟨j,e,trivial,q⟩) hf
theorem uH (hq:c.X.xe=λ_ _=>False) (I:Nat->List Sl->Prop) (h0:I m₀ ρ)
 (h:∀ m ρ',I m ρ'->iM c t ρ' (lY (aQ c body ρ' (λr=>∃ m',m'<m/\I m' r) { ct:=λr=>∃ m',m'<m/\I m' r,bk:=nx,rt:=p.rt }) (nx ρ'))) :
 eG c (.While t body [] pos) ρ nx p:=λσ H Hf D S o =>
 dO (yF (by rw [hq]; exact PassesOwn.never) Fq pY) ⟨λm σ H=>∃ Hf ρ',bw c σ H Hf ρ'/\I m ρ',⟨m₀,Hf,ρ,S,h0⟩,λm σ H ⟨Hf,ρ',S,hI⟩=>h m ρ' hI σ H Hf _ S λx H' ah hx g=>by
  cases x with
  | false=>rw [if_neg N5]; exact o.nx σ H' ah ρ' (S.cF g) (hx.f rfl)
  | true =>
   rw [if_pos rfl]
   refine ⟨λσ' H'=>∃ m',m'<m/\∃ Hf ρ',bw c σ' H' Hf ρ'/\I m' ρ',λσ' H' ⟨m',hl,hh⟩=>⟨m',hl,hh⟩,?_⟩
   exact hx.t rfl σ H' ah _ (S.cF g) ⟨λσ H Hf ρ S ⟨m',hl,hi⟩=>⟨m',hl,Hf,ρ,S,hi⟩,o.rt,λσ H Hf ρ S q=>o.nx σ H Hf ρ S q,λσ H Hf ρ S ⟨m',hl,hi⟩=>⟨m',hl,Hf,ρ,S,hi⟩⟩⟩
end
theorem cU (h:n<=1000):n<=sizeLine:=Qh (wL h)
theorem zk (h:0<j) (h2:j.natAbs.log2<9000):ze j:=⟨h,h2⟩
inductive Res where
 | ok (r:Sl)
 | ex (C:Addr)
noncomputable abbrev Fn:=List D->Res->Prop
noncomputable def fM (K:NR) (F:Fn):Sp:=λvs H Q E=>∃ Hf ds r,aG Hf H/\ak K Hf ds vs/\F ds r/\match r with
 | .ok sl=>∀ v H' ah,br H Hf H' ah->aU K (λp=>H p=none) H' ah sl v->Q v H'
 | .ex C=>∀ a H',aG H H'->E (.ref C) (some a) H'
structure fO (P:Program) (w:World) (K:NR) (mg:Str->Option Value) (base:Heap) (k:Nat) (x:Str) (F:Fn):Prop where
 ex:∃ f fd ps,mg x=some (.ref f)/\PD K (.ref f)=true/\Binds K fd ps []/\bz P w K mg base (dU P w) k f fd ps (fM K F)
section
variable {K:NR} {c:Ctx P w K mg base k N sc bk}
noncomputable def Hl (c:Ctx P w K mg base k N sc bk) (ρ:List Sl) (R:Sl->Prop):Res->Prop
 | .ok sl=>R sl
 | .ex C=>c.RX C ρ
theorem Dp (h:fO P w K mg base j x F) (hj:j<=k):∃ f,mg x=some (.ref f)/\PD K (.ref f)=true /\
 ∀ (aa:List (Addr×Obj)) (σ:L2.St) (H Hf:Hp) (s:Shared) (us:List Value) (vs:List V) (ds:List D) (r:Res) (Q:VK),Inv c.X aa σ H s->bw c σ H Hf ρ->Vals vs us->ak c.X.K Hf ds vs->F ds r ->
  (∀ sl v H' ah,r=.ok sl->aU c.X.K (λp=>H p=none) H' ah sl v->br H Hf H' ah->Q v H')->(∀ C,r=.ex C->c.RX C ρ)->wpAny (model c.X.prog c.X.w) c.X.A (call (.ref f) us) (EP c.X aa σ Q) c.X.xe s:=by
 obtain ⟨f,fd,ps,hm,hk,hb,hF⟩:=h.ex
 refine ⟨f,hm,hk,λaa σ H Hf s us vs ds r Q I S rv rs hr q hx=>?_⟩
 have hF':bz c.X.prog c.X.w c.X.K c.X.mg c.X.base (dU c.X.prog c.X.w) k f fd ps (fM c.X.K F):=by rw [c.eP,c.ew,c.eK,c.emg,c.eb]; exact hF.mono hj
 have pF:fM c.X.K F vs H Q (λcv ao H'=>∃ C,r=.ex C/\cv=.ref C/\aG H H'):=by
  refine ⟨Hf,ds,r,S.bas.b,rs,hr,?_⟩
  cases r with
  | ok sl=>exact λv H' ah g rs2=>q sl v H' ah rfl rs2 g
  | ex C=>exact λa H' s2=>⟨C,rfl,rfl,s2⟩
 have hl:us.length=ps.length:=by rw [<- rv.length]; exact hF'.len _ _ _ _ pF
 have hb':Binds c.X.K fd ps []:=by rw [c.eK]; exact hb
 have hb2:=hb' s us I.nN (by simpa using hl)
 rw [OP] at hb2
 refine Q8 (Q5 (hF'.run c.X.A c.X.stack s H ⟨us,[]⟩ us vs Q _ c.room I.CN hb2 rv pF) λr' s' hq=>?_)
 cases r' with
 | error e =>
  obtain ⟨a,C,H',rfl,hE,C',e1,e2,sm⟩:=hq
  cases e2
  exact c.exc C a aa σ H Hf ρ s H' s' I S (hx C e1) hE sm
 | ok fl =>
  cases fl with
  | ret u=>exact I.after hq
  | next=>exact OT hq
  | brk=>exact OT hq
  | cont=>exact OT hq
theorem x_call {R:Sl->Prop} (h:fO P w K mg base j x F) (hj:j<=k)
 (ha:nY c (e::es) ρ λds=>∃ r,F ds r/\Hl c ρ R r)
 (hg:sc.names.lookup x=some .globalImplicit:=by walk_at "u") (hdb:(x == ("__debug__":Str))=false:=by decide) (he:∀ env,starEach (e::es) env=(false,eval e env)::starEach es env:=by intro _; walk_at "u")
 (hpl:∀ env,(backTo pos (starEach es env)).any (·.1)=false:=by intro _; walk_at "u"):cS c (.Call (.Name x p) (e::es) [] pos) ρ R:=λσ H Hf Q S q aa s I=>by
 obtain ⟨f,hm,hk,run⟩:=Dp (c:=c) (ρ:=ρ) h hj
 refine Pz (iI I (by unfold Gl Ox; rw [c.esc]; exact hg) (by rw [c.emg]; exact hm) ?_ hdb)
 refine Sb (h₀:=c.X.base) I.ok.mod.kin (by rw [c.eK]; exact hk) (bD (ha σ H Hf (λvs H1=>∃ aP ds,(∃ r,F ds r/\Hl c ρ R r)/\ak c.X.K aP ds vs/\br H Hf H1 aP) S (λds vs H1 aP hr rs g=>⟨aP,ds,hr,rs,g⟩) pos aa s I) λus s1 hh=>z2 hh λvs H1 hh=>w3 hh λI1 rv hh=>z2 hh λaP ds hh=>w3 hh λhh rs g=>hh.elim λr hh=>w2 hh λhF hR=>⟨I1.nN,?_⟩) (he _) (hpl _)
 refine run aa σ H1 aP s1 us vs ds r Q I1 (S.cF g) rv rs hF (λsl v H' ah e1 rs2 g2=>?_) λC e1=>?_
 ·subst e1
  exact q sl v H' ah hR (rs2.weak λp hp=>g.s.free hp) (g.trans g2)
 ·subst e1
  exact hR
theorem bZ (h:fO P w K mg base j x F) (hj:j<=k)
 (ha:nY c (e::es) ρ λds=>∃ r,F ds r/\Hl c ρ (G8 R) r)
 (hg:sc.names.lookup x=some .globalImplicit:=by walk_at "u") (hdb:(x == ("__debug__":Str))=false:=by decide) (he:∀ env,starEach (e::es) env=(false,eval e env)::starEach es env:=by intro _; walk_at "u")
 (hpl:∀ env,(backTo pos (starEach es env)).any (·.1)=false:=by intro _; walk_at "u"):aF c (.Call (.Name x p) (e::es) [] pos) ρ R:=e_x (x_call h hj ha hg hdb he hpl)
noncomputable def ig (N:List Str) (ds:List D):List Sl:=ds.map .va++N7 (N.length - ds.length) .un
theorem zm (r:ak K dM ds vs) (sb:aG dM H₀):cQ K H₀ dM (L2.start N vs) H₀ dM (ig N ds):=by
 have hl:=r.length
 refine ⟨.refl sb,by simp [L2.start,ig,hl],λi r' h hu=>?_,λi j r1 r2 p hne h1 h2 o1 o2=>?_⟩
 ·by_cases q:i<ds.length
  ·have e:(ig N ds)[i]?=some (.va ds[i]):=by
    unfold ig
    rw [P6 (by simpa using q)]; simp [q]
   rw [e] at h; cases h
   obtain ⟨x,e2,rx⟩:=r.get (i:=i) (d:=ds[i]) (by simp)
   refine ⟨x,?_,rx⟩
   unfold L2.start
   rw [P6 (by simp; lia)]
   simp [e2]
  ·unfold ig at h
   rw [QN (by simp; lia)] at h
   have:=O3 h
   exact absurd (RY this) hu
 ·exfalso
  unfold ig at h1
  by_cases q:i<(ds.map Sl.va).length
  ·rw [P6 q] at h1
   rw [NZ] at h1
   cases z:ds[i]? with
   | none=>rw [z] at h1; cases h1
   | some d=>rw [z] at h1; cases h1; cases o1
  ·rw [QN (by lia)] at h1
   have e3:=RY (O3 h1)
   subst e3; cases o1
abbrev FS (N P:List Str) (st:Stmt):Prop:=(aL st).kind=.function/\(aL st).isCoroutine=false/\(aL st).isGenerator=false/\N.Nodup/\N.take P.length=P/\(∀ x∈P,(aL st).names.lookup x=some .local\/(aL st).names.lookup x=some .cell)/\(∀ y∈(aL st).names,y.2≠.free)/\∀ x∈N,(aL st).names.lookup x=some .local\/(aL st).names.lookup x=some .cell
theorem zp {N P:List Str} {st:Stmt} (h:FS N P st):nQ N P (aL st)/\∀ x∈N,Loc (aL st) x:=⟨⟨h.1,h.2.1,h.2.2.1,h.2.2.2.1,h.2.2.2.2.1,h.2.2.2.2.2.1,h.2.2.2.2.2.2.1⟩,h.2.2.2.2.2.2.2⟩
theorem dD {st:Stmt} (Fu:fC K x qual st f fd) (SV:FS N ps st) (ar:∀ ds r,F ds r->ds.length=ps.length)
 (hok:∀ ds r,F ds r->∃ sl,r=.ok sl)
 (body:∀ (c:Ctx P w K mg base k N (aL st) false),c.X.xe=(λ_ _=>False)->∀ ds sl,F ds (.ok sl)->aQ c (ay st) (ig N ds) (λ_=>sl=.va .non) { rt:=λr=>r=sl }) :
 bz P w K mg base (dU P w) (k+1) f fd ps (fM K F):=by
 obtain ⟨Sc,Vi⟩:=zp SV
 obtain ⟨oc,od,kV,doc,pm,an,cdv,ct,osl,rfl,lk,hcd⟩:=Fu.ex
 refine yL lk hcd Sc (λvs H Q E ⟨Hf,ds,r,_,rs,hF,_⟩=>by rw [<- rs.length]; exact ar _ _ hF) λA outer s H vs Q E hr ⟨Hf,ds,r,sb,rs,hF,hq⟩=>?_
 obtain ⟨sl,rfl⟩:=hok _ _ hF
 let X:Cx:=(pK (dU P w) P w K mg base N qual (aL st) f cdv A outer s H E).Fi
 let c:Ctx P w K mg base k N (aL st) false :=
  { X:=X,eP:=rfl,ew:=rfl,eK:=rfl,emg:=rfl,eb:=rfl,eN:=rfl,esc:=rfl,calm:=rfl,top:=λ_=>⟨rfl,rfl,rfl⟩,cb:=λ_ _ _ _ _ I x c h=>I.ok.cab x c rfl h,fn:=λ_ _=>.inl rfl,B:=H,room:=hr,nd:=Sc.nd,vis:=Vi,Hf:=Hf,RX:=λ_ _=>False,
    exc:=λ_ _ _ _ _ _ _ _ _ _ _ _ h _ _=>h.elim,RM:=λ_ _=>False,mde:=λ_ _ _ _ _ _ _ _ _ _ _ _ h _=>h.elim }
 refine ⟨_,rM.Fi (t:=G7 X (ay st)) (pY (X:=X)),?_⟩
 refine body c rfl ds sl hF (L2.start N vs) H Hf _ (zm rs sb) ⟨λσ H' ah ρ S e=>?_,λr v H' ah g rv e=>?_,λ_ _ _ _ _ h=>h.elim,λ_ _ _ _ _ h=>h.elim⟩
 ·subst e
  exact hq .non H' ah S.bas (show Rep K ah .non .non from bU.mpr rfl)
 ·have e:r=sl:=e
  subst e
  exact hq v H' ah g rv
def MX (K:NR) (r:List V->Hp->VK->Prop) (p:List D->(Sl->Prop)->Prop):Prop :=
 ∀ (ds:List D) (vs:List V) (H Hf:Hp) (Q:VK) (R:Sl->Prop),aG Hf H->ak K Hf ds vs->p ds R->(∀ z v' H' ah,R z->aU K (λp=>H p=none) H' ah z v'->br H Hf H' ah->Q v' H')->r vs H Q
theorem KW {id:String} {R:Sl->Prop} (hc:f7 c.X (.type id) r) (hd:MX c.X.K r q) (hm:mg x=none) (hv:bootBuiltins x=some (.type id))
 (ha:nY c (e::es) ρ λds=>q ds R) (hg:sc.names.lookup x=some .globalImplicit:=by walk_at "u") (hn:x≠"__name__":=by decide) (hdb:(x == ("__debug__":Str))=false:=by decide)
 (he:∀ env,starEach (e::es) env=(false,eval e env)::starEach es env:=by intro _; walk_at "u") (hpl:∀ env,(backTo pos (starEach es env)).any (·.1)=false:=by intro _; walk_at "u"):cS c (.Call (.Name x p) (e::es) [] pos) ρ R:=λσ H Hf Q S qq =>
 bK (mP hc (by unfold Gl Ox; rw [c.esc]; exact hg) (by rw [c.emg]; exact hm) hv Dd hn hdb (he _) (hpl _))
  (ha σ H Hf _ S λds vs H1 aP h1 rs g=>hd ds vs H1 aP Q R g.b rs h1 λz v' H' ah hz rz g2=>qq z v' H' ah hz (rz.weak λp hp=>g.s.free hp) (g.trans g2))
theorem p5 (h:ak K H [d] vs):∃ v,vs=[v]/\Rep K H d v:=by
 rw [aC] at h
 obtain ⟨x,r,rfl,h1,h2⟩:=h
 rw [aA] at h2; subst h2
 exact ⟨x,rfl,h1⟩
def zq (K:NR) (r:List V->Hp->VK->Prop) (p:List D->(D->Prop)->Prop):Prop :=
 ∀ (ds:List D) (vs:List V) (H Hf:Hp) (Q:VK) (R:D->Prop),aG Hf H->ak K Hf ds vs->p ds R->(∀ d v H' ah,R d->Rep K ah d v->br H Hf H' ah->Q v H')->r vs H Q
theorem uI {id:String} (hc:f7 c.X (.builtin id) r) (hd:zq c.X.K r q) (hm:mg x=none) (hv:bootBuiltins x=some (.builtin id))
 (ha:nY c (e::es) ρ λds=>q ds R) (hg:sc.names.lookup x=some .globalImplicit) (hn:x≠"__name__") (hdb:(x == ("__debug__":Str))=false)
 (he:∀ env,starEach (e::es) env=(false,eval e env)::starEach es env) (hpl:∀ env,(backTo pos (starEach es env)).any (·.1)=false):aF c (.Call (.Name x p) (e::es) [] pos) ρ R:=λσ H Hf Q S qq =>
 bK (yM hc (by unfold Gl Ox; rw [c.esc]; exact hg) (by rw [c.emg]; exact hm) hv Dd hn hdb (he _) (hpl _))
  (ha σ H Hf _ S λds vs H1 aP h1 rs g=>hd ds vs H1 aP Q R g.b rs h1 λz v' H' ah hz rz g2=>qq z v' H' ah hz rz (g.trans g2))
theorem KY {id:String} (hc:f7 c.X (.type id) r) (hd:zq c.X.K r q) (hm:mg x=none) (hv:bootBuiltins x=some (.type id))
 (ha:nY c (e::es) ρ λds=>q ds R) (hg:sc.names.lookup x=some .globalImplicit) (hn:x≠"__name__") (hdb:(x == ("__debug__":Str))=false)
 (he:∀ env,starEach (e::es) env=(false,eval e env)::starEach es env) (hpl:∀ env,(backTo pos (starEach es env)).any (·.1)=false):aF c (.Call (.Name x p) (e::es) [] pos) ρ R:=λσ H Hf Q S qq =>
 bK (mP hc (by unfold Gl Ox; rw [c.esc]; exact hg) (by rw [c.emg]; exact hm) hv Dd hn hdb (he _) (hpl _))
  (ha σ H Hf _ S λds vs H1 aP h1 rs g=>hd ds vs H1 aP Q R g.b rs h1 λz v' H' ah hz rz g2=>qq z v' H' ah hz rz (g.trans g2))
end
end EV
namespace EV
open PySem PySem.Spec PySem.Calls PyProof.Rows L2
theorem Ho (x:bq P w H h a o):∃ u,h.get? a=some u:=by
 cases o with
 | lst xs=>obtain ⟨_,_,_,_,e⟩:=x; exact ⟨_,e⟩
 | tup xs=>obtain ⟨_,_,_,ob,e,_⟩:=x; exact ⟨_,e⟩
 | dK kvs=>obtain ⟨_,_,_,_,o,_,_,e,_⟩:=x; exact ⟨_,e⟩
 | dT kvs=>obtain ⟨_,_,_,_,o,_,_,e,_⟩:=x; exact ⟨_,e⟩
 | set S n=>obtain ⟨o,_,_,_,e,_⟩:=x; exact ⟨_,e⟩
 | ins C dx fs=>obtain ⟨_,_,_,e,_⟩:=x; exact ⟨_,e⟩
 | own y=>exact x
 | xd fs=>obtain ⟨_,⟨_,_,_,e,_⟩,_⟩:=x; exact ⟨_,e⟩
 | rng lo hi=>obtain ⟨_,_,_,e⟩:=x; exact ⟨_,e⟩
 | frz ob u=>obtain ⟨e,_⟩:=x; exact ⟨_,e⟩
 | tbl ps=>exact ⟨_,x⟩
 | met f y=>exact ⟨_,x⟩
 | ext φ =>exact x.2.1
section
variable {K:NR}
end
open PySem.W Builtin Builtin.ObjectAttr Builtin.Getset_descriptor
structure L6 (K:NR) (C:Addr):Prop where
 ga:Qc K (.ref C) "__getattribute__"=some (some (.builtin "BaseException.__getattribute__"))
 hk:Qc K (.ref C) "__getattr__"=some none
 ca:Qc K (.ref C) "__class__"=some (some (.builtin "object.__class__"))
 gt:T9 K (.builtin "object.__class__") "__get__"=some (some (.builtin "getset_descriptor.__get__"))
 tk:PySem.W.takesIn K (.builtin "object.__class__")=some true
 mo:SQ K C (.type "object")=some true
 mb:SQ K C (.type "BaseException")=some true
section
variable {prog:Program} {w:World} {A:Around} {E:Value->Shared->Prop} {s:Shared} {K:NR} {x C:Addr} {R:Result->Shared->Prop}
theorem uJ (p:sd x C h):Looks M h (typeOf (.ref x)) (.ref C):=by
 obtain ⟨o,ho,hc,_⟩:=p
 rw [<- hc]
 exact (Looks.ld ho).andThen .now
theorem lZ (X:K.In s.heap) (L:Looks (model prog w) s.heap (typeOf (.ref x)) (.ref C)) (hm:SQ K C (.type "object")=some true)
 (h:R (.ok (.ret (.ref C))) s):codeAny (model prog w) A (.call (.builtin "getset_descriptor.__get__") ⟨[.builtin "object.__class__",.ref x,tp],[]⟩) R s:=by
 obtain ⟨hh,g,dr,t,os⟩:=s
 have L0:=L
 have L1:=looks_mroIn (M:=model prog w) X hm
 refine codeAny_call_builtin KF.slot_gs.plain KF.entry_gs (KF.slot_gs.check _ _ _ _ _ _ _ _ KF.type_class (KF.args_gs _ _ _) ?_)
 unfold Builtin.«getset_descriptor.__get__» descrGet
 rw [dga_obj]
 refine NP (NS ?_)
 unfold descrGetter descrCheckInstance descrNameAndClass isInstance
 simp only [KF.owner_class]
 repeat lk
 refine ⟨Code.quiet_builtin _ (by decide +kernel),Rr KF.entry_class ?_⟩
 unfold Builtin.«object.__class__» shownTypeOf
 repeat lk
 exact h
theorem zu (X:K.In h) (k:L6 K C):Looks M h (find (.ref x) (.ref C) "__class__") (.bind (.builtin "getset_descriptor.__get__") (.builtin "object.__class__")):=by
 have L1:=looks_findIn (M:=M) X k.ca
 have L2:Looks M h (getOf (some (.builtin "object.__class__"))) (some (.builtin "getset_descriptor.__get__")):=looks_specialIn X k.gt
 have L3:=looks_takesIn (M:=M) X k.tk
 unfold find
 refine L1.andThen (L2.andThen ?_)
 refine Looks.andThen (a:=some (.builtin "getset_descriptor.__get__",.builtin "object.__class__")) ?_ (Looks.tag .now)
 unfold dataDescriptor?
 exact L3.andThen .now
theorem wN (X:K.In s.heap) (p:sd x C s.heap) (k:L6 K C) (h:Q (some (.ref C)) { s with toks:=s.toks+1 }):wpAny (model prog w) A (getAttr? (.ref x) "__class__") Q E s:=by
 obtain ⟨hh,g,d,t,os⟩:=s
 have L0:Looks (model prog w) hh (typeOf (.ref x)) (.ref C):=uJ p
 have L1:=looks_findIn (M:=model prog w) X k.ga
 have L2:=looks_findIn (M:=model prog w) X k.hk
 have L3:=looks_mroIn (M:=model prog w) X k.mb
 have L4:=zu (M:=model prog w) (x:=x) X k
 unfold getAttr? getAttrBy? getAttrBy
 refine NP (wpAny_mkText (NP (Qe (O6 (NP (L0.at (NP (L1.at ?_))))))))
 dsimp only
 have hx2:(Value.builtin "BaseException.__getattribute__" == Value.builtin "object.__getattribute__")=false:=by decide +kernel
 rw [hx2,Bool.and_false,if_neg N5]
 unfold getAttrByItsOwn hookBefore
 rw [if_pos (by rfl)]
 refine NP (L2.at ?_)
 refine NP (Qe (O6 ?_))
 unfold callGetattribute
 rw [if_neg (by simp)]
 unfold boundAndCalled
 have f3:=PySem.F.attrBase_ValueError.ga.bind (.ref x)
 rw [f3]
 refine NP (NS ?_)
 refine Q8 (codeAny_call_builtin PySem.F.attrBase_ValueError.ga.plain PySem.F.entry_bexc_ga ?_)
 have hk:builtinKind "BaseException.__getattribute__"=some .slot:=by decide +kernel
 have hsplit:splitId "BaseException.__getattribute__"=some ("BaseException","__getattribute__"):=by decide +kernel
 have ha:=PySem.F.args_bexc_ga (.ref x) (RK "__class__" t)
 simp only [checkBuiltinCall,hk,hsplit]
 dsimp only [Ph,PN]
 have LI:Looks (model prog w) hh (isInstance (.ref x) (.type "BaseException")) true:=L0.andThen L3
 refine NP (LI.at ?_)
 rw [if_neg (by decide)]
 refine OI (Q:=λ_ s1=>s1=⟨hh,g,d,t+1,os⟩) (E:=λ_ _=>False) ?_ (λ_ s1 e1=>?_) (λ_ _ z=>z.elim)
 ·repeat (any_goals (first | assumption | rfl | wp_step))
 subst e1
 unfold «object.__getattribute__»
 repeat (first | with_reducible refine Q8 ?_ | lk)
 refine lZ X L0 k.mo ?_
 repeat lk
 exact h
theorem zw (k:L6 K C):PySem.W.KitX K (.ref x) (.ref C) (sd x C) where
 ty:=λ_ _ _ p=>uJ p
 it:=λ_ _ X _=>by
  have hdct:∃ cd,Rz K C=some cd:=by
   obtain ⟨cd,h1,_⟩:=Tv.mp (show (Rz K C).bind _=some true from k.mo)
   exact ⟨cd,h1⟩
  obtain ⟨cdD,hcD⟩:=hdct
  unfold Rz at hcD
  split at hcD
  ·rename_i c' d' cd' sl' ho
   intro A' Q' E' s' k q
   unfold isType loadHead
   exact NP (wpAny_loadPart (k _ _ (X _ _ ho)) (NS q))
  ·cases hcD
 ne:=λh tp dd its n sl X htp=>by
  obtain ⟨cdD,hcD,_⟩:=Tv.mp (show (Rz K C).bind _=some true from k.mo)
  refine Bool.eq_false_iff.mpr λq=>?_
  have e:C=tp:=Ol.inj (beq_iff_eq.mp q)
  subst e
  unfold Rz at hcD
  split at hcD
  ·rename_i c' d' cd' sl' ho
   have z:=(X _ _ ho).symm.trans htp
   cases z
  ·cases hcD
 ca:=λX p h=>wN X p k h
end
inductive wO (K:NR):D->Value->Prop where
 | non:wO K .non (.type "NoneType")
 | bl {x:Bool}:wO K (.bl x) (.type "bool")
 | int {i:Int}:wO K (.int i) (.type "int")
 | str {x:Str}:wO K (.str x) (.type "str")
 | lst {ds:List EV.D}:wO K (.lst ds) (.type "list")
 | tup {ds:List EV.D}:wO K (.tup ds) (.type "tuple")
 | exc {C:Addr} (k:L6 K C):wO K (.exc C) (.ref C)
theorem Dq (I:Inv X aa σ H s) (sb:aG Hf H) (rx:RelV v u) (rd:Rep X.K Hf d v) (ty:wO X.K d t) (e:Pk X.K t cv=some b) (h:∀ tk,Q (.bool b) { s with toks:=tk }) :
 wpAny (model X.prog X.w) A (call (.builtin "isinstance") [u,cv]) Q E s:=by
 cases ty with
 | non=>rw [bU] at rd; subst rd; cases (show u=OX from rx); exact Qy PySem.W.kitx_none I.nN PV e (λz=>nomatch z) h
 | bl=>rw [fu] at rd; subst rd; cases (show u=Value.bool _ from rx); exact Qy PySem.W.kitx_bool I.nN PV e (λz=>nomatch z) h
 | int=>rw [av] at rd; subst rd; obtain ⟨t,q⟩:=(show ∃ t,u=RL _ t from rx); cases q; exact Qy PySem.W.kitx_int I.nN PV e (λz=>nomatch z) h
 | str=>rw [fN] at rd; subst rd; obtain ⟨t,q⟩:=(show ∃ t,u=RK _ t from rx); cases q; exact Qy PySem.W.kitx_str I.nN PV e (λz=>nomatch z) h
 | lst =>
  rw [bf] at rd
  obtain ⟨a,xs,rfl,h1,_⟩:=rd
  cases (show u=Ol a from rx)
  obtain ⟨its,_,p,_⟩:=I.list (sb.seq h1)
  obtain ⟨o,n1,p1,p2,_⟩:=p
  exact Qy PySem.W.kitx_list I.nN ⟨o,p1,p2⟩ e (λz=>nomatch z) h
 | tup =>
  rw [aH] at rd
  obtain ⟨a,xs,rfl,h1,_⟩:=rd
  cases (show u=Ol a from rx)
  obtain ⟨its,_,p,_⟩:=I.tuple (au sb h1)
  obtain ⟨o,p1,p2,_⟩:=p
  exact Qy PySem.W.kitx_tuple I.nN ⟨o,p1,p2⟩ e (λz=>nomatch z) h
 | @exc C k =>
  rw [Dc] at rd
  obtain ⟨a,rfl,h1⟩:=rd
  cases (show u=Ol a from rx)
  have p:sd a C s.heap:=(show bq X.prog X.w H s.heap a (.ext (sd a C)) from I.hok a _ (sb _ _ h1)).1
  exact Qy (zw k) I.nN p e (λz=>nomatch z) h
section
variable {K:NR} {c:Ctx P w K mg base k N sc bk}
def iO (mg:Str->Option Value) (x:Str) (cv:Value):Prop:=(∃ C,cv=.ref C/\mg x=some (.ref C))\/(∃ T,cv=.type T/\mg x=none/\bootBuiltins x=some (.type T)/\x≠"__name__")
theorem wQ:bootBuiltins "isinstance"=some (.builtin "isinstance"):=by decide +kernel
theorem n8 (hm:mg "isinstance"=none) (hc:iO mg x cv) (h:aF c e ρ λd=>∃ t b,wO K d t/\Pk K t cv=some b/\R (.bl b))
 (hgi:sc.names.lookup (NQ "isinstance")=some .globalImplicit:=by walk_at "u") (hgx:sc.names.lookup x=some .globalImplicit:=by walk_at "u") (hdx:(x == ("__debug__":Str))=false:=by decide)
 (he:∀ env,starEach [e,.Name x cp] env=(false,eval e env)::starEach [.Name x cp] env:=by intro _; walk_at "u") (he2:∀ env,starEach [.Name x cp] env=[(false,eval (.Name x cp) env)]:=by intro _; walk_at "u")
 (hpl:∀ env,(backTo pos (starEach [.Name x cp] env)).any (·.1)=false:=by intro _; walk_at "u"):aF c (.Call (.Name "isinstance" np) [e,.Name x cp] [] pos) ρ R:=λσ H Hf Q S q aa s I=>by
 refine Pz (dR I (by unfold Gl Ox; rw [c.esc]; exact hgi) (by rw [c.emg]; exact hm) wQ ?_ (by decide) (by decide))
 have hx:∀ (s1:Shared) (H1:Hp) (Q':Value->Shared->Prop),Inv c.X aa σ H1 s1->Q' cv s1->wpAny (model c.X.prog c.X.w) c.X.A (eval (.Name x cp) c.X.env) Q' c.X.xe s1:=λs1 H1 Q' I1 q'=>by
  rcases hc with ⟨C,rfl,hm'⟩ | ⟨T,rfl,hm',hb,hn⟩
  ·exact iI I1 (by unfold Gl Ox; rw [c.esc]; exact hgx) (by rw [c.emg]; exact hm') q' hdx
  ·exact dR I1 (by unfold Gl Ox; rw [c.esc]; exact hgx) (by rw [c.emg]; exact hm') hb q' hn hdx
 refine Ti (spliced_more (h σ H Hf (λv H1=>∃ d aP,(∃ t b,wO K d t/\Pk K t cv=some b/\R (.bl b))/\Rep c.X.K aP d v/\br H Hf H1 aP) S (λd v H' ah hR r g=>⟨d,ah,hR,r,g⟩) aa s I |> (bD · λu s1 hh=>z2 hh λv H1 hh=>w3 hh λI1 rv hh=>z2 hh λd aP hh=>w3 hh λhh rd g=>z2 hh λt b hh=>w3 hh λty ek hR=>?_)) (he _)) (he _) (hpl _)
 refine spliced_more (hx s1 H1 _ I1 (spliced_none ?_)) (he2 _)
 refine Dq I1 g.b rv rd (by rw [c.eK]; exact ty) (by rw [c.eK]; exact ek) λtk=>?_
 exact ⟨.bl b,H1,I1.tok tk,rfl,q _ _ H1 aP hR (fu.mpr rfl) g⟩
end
section
variable {X:Cx}
theorem n9 (I:Inv X aa σ H s) (sb:aG Hf H):∀ (n:Nat) (d e:D) (v:V),jY n d e->Rep X.K Hf d v->Rep X.K Hf e v->d=e:=by
 intro n
 induction n with
 | zero =>
  intro d e v h r1 r2
  cases h with
  | sc h=>cases d <;> cases e <;> simp [jJ] at h <;> simp_all [Rep]
  | ln=>rw [bU] at r2; subst r2; rw [bf] at r1; obtain ⟨_,_,e,_⟩:=r1; cases e
  | nl=>rw [bU] at r1; subst r1; rw [bf] at r2; obtain ⟨_,_,e,_⟩:=r2; cases e
  | tn=>rw [bU] at r2; subst r2; rw [aH] at r1; obtain ⟨_,_,e,_⟩:=r1; cases e
  | nt=>rw [bU] at r1; subst r1; rw [aH] at r2; obtain ⟨_,_,e,_⟩:=r2; cases e
 | succ n ih =>
  have els:∀ (ds es:List D) (xs:List V),(∀ (i:Nat) (d e:D),ds[i]?=some d->es[i]?=some e->jY n d e)->ak X.K Hf ds xs->ak X.K Hf es xs->ds=es:=λds es xs h q1 q2=>by
   apply Sq
   intro i
   cases a:ds[i]? with
   | none =>
    have:ds.length<=i:=by simpa using a
    symm
    rw [List.getElem?_eq_none_iff,q2.length,<- q1.length]; exact this
   | some d =>
    obtain ⟨x,ex,rx⟩:=q1.get a
    obtain ⟨e,ee,re⟩:=q2.get' ex
    rw [ee,ih d e x (h i d e a ee) rx re]
  intro d e v h r1 r2
  cases h with
  | sc h=>cases d <;> cases e <;> simp [jJ] at h <;> simp_all [Rep]
  | ln=>rw [bU] at r2; subst r2; rw [bf] at r1; obtain ⟨_,_,e,_⟩:=r1; cases e
  | nl=>rw [bU] at r1; subst r1; rw [bf] at r2; obtain ⟨_,_,e,_⟩:=r2; cases e
  | tn=>rw [bU] at r2; subst r2; rw [aH] at r1; obtain ⟨_,_,e,_⟩:=r1; cases e
  | nt=>rw [bU] at r1; subst r1; rw [aH] at r2; obtain ⟨_,_,e,_⟩:=r2; cases e
  | tup h =>
   rw [aH] at r1 r2
   obtain ⟨a,xs,rfl,p1,q1⟩:=r1
   obtain ⟨a',ys,e',p2,q2⟩:=r2
   cases e'
   have:=I.jj (au sb p1) (au sb p2)
   subst this
   rw [els _ _ _ h q1 q2]
  | lst h =>
   rw [bf] at r1 r2
   obtain ⟨a,xs,rfl,p1,q1⟩:=r1
   obtain ⟨a',ys,e',p2,q2⟩:=r2
   cases e'
   have:=I.pJ (sb.seq p1) (sb.seq p2)
   subst this
   rw [els _ _ _ h q1 q2]
theorem oh {α:Type} [BEq α] [LawfulBEq α] {a b:α} {i:Decidable (a=b)}:(a == b)=@decide (a=b) i:=by
 by_cases h:a=b
 ·subst h; simp
 ·simp [h]
theorem all_range {ds es:List D} (hn:ds.length=n) (hm:es.length=m) (h:n=m):((OD n).all λj=>decide (ds[j]?=es[j]?))=decide (ds=es):=by
 rw [Rv,List.all_eq_true]
 simp only [SM,decide_eq_true_eq]
 constructor
 ·intro q
  apply Sq
  intro i
  by_cases hi:i<n
  ·exact q i hi
  ·rw [Py (by lia),Py (by lia)]
 ·rintro rfl; intro _ _; rfl
theorem uK (h:jJ x y=true) (r1:Rep X.K Hf x v) (r2:Rep X.K Hf y v') (e1:RelV v u) (e2:RelV v' u'):Oo A s u u' (decide (x=y)):=by
 cases x <;> cases y <;> simp [jJ] at h <;> simp only [av,fu,bU,fN] at r1 r2 <;> subst r1 <;> subst r2
 case non.non=>cases e1; cases e2; simpa using Oo.same _
 case non.bl b=>cases e1; cases e2; simpa using Oo.none_bool (A:=A) (s:=s) b
 case non.int i=>cases e1; obtain ⟨t,rfl⟩:=e2; simpa using Oo.none_int (A:=A) (s:=s) i t
 case non.str i=>cases e1; obtain ⟨t,rfl⟩:=e2; simpa using Oo.none_str (A:=A) (s:=s) i t
 case bl.non b=>cases e1; cases e2; simpa using Oo.bool_none (A:=A) (s:=s) b
 case bl.bl a b=>cases e1; cases e2; have q:=Oo.bool_bool (A:=A) (s:=s) a b; rw [oh (i:=inferInstance)] at q; simpa using q
 case bl.str a b=>cases e1; obtain ⟨t,rfl⟩:=e2; simpa using Oo.bool_str (A:=A) (s:=s) a b t
 case int.non a=>obtain ⟨t,rfl⟩:=e1; cases e2; simpa using Oo.int_none (A:=A) (s:=s) a t
 case int.int a b=>obtain ⟨t,rfl⟩:=e1; obtain ⟨t',rfl⟩:=e2; have q:=Oo.int_int (A:=A) (s:=s) a t b t'; rw [oh (i:=inferInstance)] at q; simpa using q
 case int.str a b=>obtain ⟨t,rfl⟩:=e1; obtain ⟨t',rfl⟩:=e2; simpa using Oo.int_str (A:=A) (s:=s) a t b t'
 case str.non a=>obtain ⟨t,rfl⟩:=e1; cases e2; simpa using Oo.str_none (A:=A) (s:=s) a t
 case str.bl a b=>obtain ⟨t,rfl⟩:=e1; cases e2; simpa using Oo.str_bool (A:=A) (s:=s) a t b
 case str.int a b=>obtain ⟨t,rfl⟩:=e1; obtain ⟨t',rfl⟩:=e2; simpa using Oo.str_int (A:=A) (s:=s) a t b t'
 case str.str a b=>obtain ⟨t,rfl⟩:=e1; obtain ⟨t',rfl⟩:=e2; have q:=Oo.str_str (A:=A) (s:=s) a t b t'; rw [oh (i:=inferInstance)] at q; simpa using q
theorem in1_units (A:Around):A.in1.units=A.units+1:=rfl
theorem uL:decide (D.tup ds=D.tup es)=decide (ds=es):=by simp
theorem j4:decide (D.lst ds=D.lst es)=decide (ds=es):=by simp
theorem oi (I:Inv X aa σ H s) {A:Around} (h:∀ (i:Nat) (d e:D),ds[i]?=some d->es[i]?=some e->jY n d e)
 (ih:∀ (d e:D) (v v':V) (u u':Value) (A:Around),jY n d e->Rep X.K Hf d v->Rep X.K Hf e v'->RelV v u->RelV v' u'->A.units+n<cLine->Oo A s u u' (decide (d=e)))
 (q1:ak X.K Hf ds xs) (q2:ak X.K Hf es ys) (r1:Vals xs us) (r2:Vals ys ws) (hu:A.in1.units+n<cLine) :
 ∀ j (h1:j<us.toArray.size) (h2:j<ws.toArray.size),Oo A.in1 s us.toArray[j] ws.toArray[j] (decide (ds[j]?=es[j]?)):=λj h1 h2=>by
 have l1:=q1.length
 have l2:=q2.length
 have m1:=r1.length
 have m2:=r2.length
 simp only [Of] at h1 h2
 have hd:ds[j]?=some ds[j]:=Od (by lia)
 have he:es[j]?=some es[j]:=Od (by lia)
 obtain ⟨x,ex,rx⟩:=q1.get hd
 obtain ⟨y,ey,ry⟩:=q2.get he
 obtain ⟨u,eu,ru⟩:=r1.get ex
 obtain ⟨u',eu',ru'⟩:=r2.get ey
 have z1:us.toArray[j]=u:=by
  have:=Od h1
  rw [this] at eu
  simpa using eu
 have z2:ws.toArray[j]=u':=by
  have:=Od h2
  rw [this] at eu'
  simpa using eu'
 rw [z1,z2,hd,he]
 have q:=ih _ _ x y u u' A.in1 (h j _ _ hd he) rx ry ru ru' hu
 simpa using q
theorem wR (I:Inv X aa σ H s) (sb:aG Hf H):∀ (n:Nat) (d e:D) (v v':V) (u u':Value) (A:Around),jY n d e->Rep X.K Hf d v->Rep X.K Hf e v'->RelV v u->RelV v' u'->A.units+n<cLine->Oo A s u u' (decide (d=e)):=by
 have non:∀ (n:Nat) (d e:D) (v v':V) (u u':Value) (A:Around),A.units<cLine->Rep X.K Hf d v->Rep X.K Hf e v'->RelV v u->RelV v' u' ->
  ((∃ ds,d=.lst ds/\e=.non)\/(∃ ds,d=.non/\e=.lst ds)\/(∃ ds,d=.tup ds/\e=.non)\/(∃ ds,d=.non/\e=.tup ds))->Oo A s u u' (decide (d=e)):=by
  intro n d e v v' u u' A hu r1 r2 e1 e2 h
  rcases h with ⟨ds,rfl,rfl⟩ | ⟨ds,rfl,rfl⟩ | ⟨ds,rfl,rfl⟩ | ⟨ds,rfl,rfl⟩
  ·rw [bU] at r2; subst r2; rw [bf] at r1; obtain ⟨a,xs,rfl,p,_⟩:=r1; cases e1; cases e2
   obtain ⟨its,_,q,_⟩:=I.list (sb.seq p)
   simpa using Oo.list_none (A:=A) q.isList hu
  ·rw [bU] at r1; subst r1; rw [bf] at r2; obtain ⟨a,xs,rfl,p,_⟩:=r2; cases e1; cases e2
   obtain ⟨its,_,q,_⟩:=I.list (sb.seq p)
   simpa using Oo.none_list (A:=A) q.isList hu
  ·rw [bU] at r2; subst r2; rw [aH] at r1; obtain ⟨a,xs,rfl,p,_⟩:=r1; cases e1; cases e2
   obtain ⟨its,_,q,_⟩:=I.tuple (au sb p)
   simpa using Oo.tuple_none (A:=A) (show s.heap.IsTuple a its.toArray from q) hu
  ·rw [bU] at r1; subst r1; rw [aH] at r2; obtain ⟨a,xs,rfl,p,_⟩:=r2; cases e1; cases e2
   obtain ⟨its,_,q,_⟩:=I.tuple (au sb p)
   simpa using Oo.none_tuple (A:=A) (show s.heap.IsTuple a its.toArray from q) hu
 intro n
 induction n with
 | zero =>
  intro d e v v' u u' A h r1 r2 e1 e2 hu
  cases h with
  | sc h=>exact uK h r1 r2 e1 e2
  | ln=>exact non 0 _ _ _ _ _ _ A (by lia) r1 r2 e1 e2 (.inl ⟨_,rfl,rfl⟩)
  | nl=>exact non 0 _ _ _ _ _ _ A (by lia) r1 r2 e1 e2 (.inr (.inl ⟨_,rfl,rfl⟩))
  | tn=>exact non 0 _ _ _ _ _ _ A (by lia) r1 r2 e1 e2 (.inr (.inr (.inl ⟨_,rfl,rfl⟩)))
  | nt=>exact non 0 _ _ _ _ _ _ A (by lia) r1 r2 e1 e2 (.inr (.inr (.inr ⟨_,rfl,rfl⟩)))
 | succ n ih =>
  intro d e v v' u u' A h r1 r2 e1 e2 hu
  cases h with
  | sc h=>exact uK h r1 r2 e1 e2
  | ln=>exact non 0 _ _ _ _ _ _ A (by lia) r1 r2 e1 e2 (.inl ⟨_,rfl,rfl⟩)
  | nl=>exact non 0 _ _ _ _ _ _ A (by lia) r1 r2 e1 e2 (.inr (.inl ⟨_,rfl,rfl⟩))
  | tn=>exact non 0 _ _ _ _ _ _ A (by lia) r1 r2 e1 e2 (.inr (.inr (.inl ⟨_,rfl,rfl⟩)))
  | nt=>exact non 0 _ _ _ _ _ _ A (by lia) r1 r2 e1 e2 (.inr (.inr (.inr ⟨_,rfl,rfl⟩)))
  | @tup _ ds es h =>
   have hh:=jY.tup h
   have r1':=r1; have r2':=r2
   rw [aH] at r1 r2
   obtain ⟨a,xs,rfl,p1,q1⟩:=r1
   obtain ⟨b,ys,rfl,p2,q2⟩:=r2
   cases e1; cases e2
   by_cases hab:a=b
   ·subst hab
    have:=n9 I sb _ _ _ _ hh r1' r2'
    rw [this]
    simpa using Oo.same _
   ·obtain ⟨us,v1,t1,_⟩:=I.tuple (au sb p1)
    obtain ⟨ws,v2,t2,_⟩:=I.tuple (au sb p2)
    have key:=QJ.tuples (A:=A) (s:=s) (show s.heap.IsTuple a us.toArray from t1) (show s.heap.IsTuple b ws.toArray from t2) (by lia) (oi I h ih q1 q2 v1 v2 (by rw [in1_units]; lia))
    have hl1:us.toArray.size=ds.length:=by simp [<- v1.length,q1.length]
    have hl2:ws.toArray.size=es.length:=by simp [<- v2.length,q2.length]
    have e:((OD (min us.toArray.size ws.toArray.size)).all (λj=>decide (ds[j]?=es[j]?)) && us.toArray.size == ws.toArray.size)=decide (D.tup ds=D.tup es):=by
     rw [uL,hl1,hl2]
     by_cases hl:ds.length=es.length
     ·rw [hl,Nat.min_self]
      simp only [beq_self_eq_true,Bool.and_true]
      exact all_range hl rfl rfl
     ·have:¬ ds=es:=λz=>hl (by rw [z])
      simp [hl,this]
    rw [e] at key
    exact .of_refs hab key
  | @lst _ ds es h =>
   have hh:=jY.lst h
   have r1':=r1; have r2':=r2
   rw [bf] at r1 r2
   obtain ⟨a,xs,rfl,p1,q1⟩:=r1
   obtain ⟨b,ys,rfl,p2,q2⟩:=r2
   cases e1; cases e2
   by_cases hab:a=b
   ·subst hab
    have:=n9 I sb _ _ _ _ hh r1' r2'
    rw [this]
    simpa using Oo.same _
   ·obtain ⟨us,v1,t1,_⟩:=I.list (sb.seq p1)
    obtain ⟨ws,v2,t2,_⟩:=I.list (sb.seq p2)
    have hl1:us.toArray.size=ds.length:=by simp [<- v1.length,q1.length]
    have hl2:ws.toArray.size=es.length:=by simp [<- v2.length,q2.length]
    by_cases hl:ds.length=es.length
    ·have key:=QJ.lists (A:=A) (s:=s) t1.isList t2.isList (by rw [hl1,hl2,hl]) (by lia) (oi I h ih q1 q2 v1 v2 (by rw [in1_units]; lia))
     rw [hl1,all_range rfl hl.symm rfl,<- j4] at key
     exact .of_refs hab key
    ·have key:=QJ.lists_lengths (A:=A) (s:=s) t1.isList t2.isList (by rw [hl1,hl2]; simpa using hl) (by lia)
     have e:decide (D.lst ds=D.lst es)=false:=by
      rw [j4]; exact decide_eq_false λz=>hl (by rw [z])
     rw [e]
     exact .of_refs hab key
theorem p6 (I:Inv X aa σ H s) (sb:aG Hf H) (hu:A.units+50<cLine) (hk:(d=.tup ds/\e=.tup es)\/(d=.lst ds/\e=.lst es)) (h:n5 ds es)
 (r1:Rep X.K Hf d v) (r2:Rep X.K Hf e v') (e1:RelV v u) (e2:RelV v' u'):QJ A s u u' (decide (d=e))/\SX A s u u' (!decide (d=e)):=by
 have ih:=wR I sb 40
 rcases hk with ⟨rfl,rfl⟩ | ⟨rfl,rfl⟩
 ·rw [aH] at r1 r2
  obtain ⟨a,xs,rfl,p1,q1⟩:=r1
  obtain ⟨b,ys,rfl,p2,q2⟩:=r2
  cases e1; cases e2
  obtain ⟨us,v1,t1,_⟩:=I.tuple (au sb p1)
  obtain ⟨ws,v2,t2,_⟩:=I.tuple (au sb p2)
  have els:=oi (A:=A) I h ih q1 q2 v1 v2 (by rw [in1_units]; lia)
  have key:=QJ.tuples (A:=A) (s:=s) (show s.heap.IsTuple a us.toArray from t1) (show s.heap.IsTuple b ws.toArray from t2) (by lia) els
  have key2:=SX.tuples (A:=A) (s:=s) (show s.heap.IsTuple a us.toArray from t1) (show s.heap.IsTuple b ws.toArray from t2) (by lia) els
  have hl1:us.toArray.size=ds.length:=by simp [<- v1.length,q1.length]
  have hl2:ws.toArray.size=es.length:=by simp [<- v2.length,q2.length]
  have e:((OD (min us.toArray.size ws.toArray.size)).all (λj=>decide (ds[j]?=es[j]?)) && us.toArray.size == ws.toArray.size)=decide (D.tup ds=D.tup es):=by
   rw [uL,hl1,hl2]
   by_cases hl:ds.length=es.length
   ·rw [hl,Nat.min_self]
    simp only [beq_self_eq_true,Bool.and_true]
    exact all_range hl rfl rfl
   ·have:¬ ds=es:=λz=>hl (by rw [z])
    simp [hl,this]
  rw [e] at key key2
  exact ⟨key,key2⟩
 ·rw [bf] at r1 r2
  obtain ⟨a,xs,rfl,p1,q1⟩:=r1
  obtain ⟨b,ys,rfl,p2,q2⟩:=r2
  cases e1; cases e2
  obtain ⟨us,v1,t1,_⟩:=I.list (sb.seq p1)
  obtain ⟨ws,v2,t2,_⟩:=I.list (sb.seq p2)
  have hl1:us.toArray.size=ds.length:=by simp [<- v1.length,q1.length]
  have hl2:ws.toArray.size=es.length:=by simp [<- v2.length,q2.length]
  by_cases hl:ds.length=es.length
  ·have els:=oi (A:=A) I h ih q1 q2 v1 v2 (by rw [in1_units]; lia)
   have key:=QJ.lists (A:=A) (s:=s) t1.isList t2.isList (by rw [hl1,hl2,hl]) (by lia) els
   have key2:=SX.lists (A:=A) (s:=s) t1.isList t2.isList (by rw [hl1,hl2,hl]) (by lia) els
   rw [hl1,all_range rfl hl.symm rfl,<- j4] at key key2
   exact ⟨key,key2⟩
  ·have key:=QJ.lists_lengths (A:=A) (s:=s) t1.isList t2.isList (by rw [hl1,hl2]; simpa using hl) (by lia)
   have key2:=SX.lists_lengths (A:=A) (s:=s) t1.isList t2.isList (by rw [hl1,hl2]; simpa using hl) (by lia)
   have e:decide (D.lst ds=D.lst es)=false:=by
    rw [j4]; exact decide_eq_false λz=>hl (by rw [z])
   rw [e]
   exact ⟨key,key2⟩
end
section
variable {K:NR} {c:Ctx P w K mg base k N sc bk}
noncomputable def Dr (K:NR) (neg:Bool):R2:=λv u H Q=>∃ x y Hf,aG Hf H/\Rep K Hf x v/\Rep K Hf y u/\KC x y/\Q (.bl (if neg then !decide (x=y) else decide (x=y))) H
theorem zz:fL c.X (compareOp .Eq) (Dr c.X.K false):=λaa s σ H v u v' u' Q I rv ru ⟨x,y,Hf,sb,rx,ry,ok,q⟩=>by
 rcases ok with h | ⟨ds,es,hk,hi⟩
 ·obtain ⟨z1,z2⟩:=uD h rx ry
  exact Kh aa s σ H v u v' u' Q I rv ru ⟨z1,by rw [z2]; exact q⟩
 ·exact (p6 I sb (by have:=c.room.un; lia) hk hi rx ry rv ru).1 _ _ _ _ ⟨.bl (decide (x=y)),H,I,rfl,q⟩
theorem Hq:fL c.X (compareOp .NotEq) (Dr c.X.K true):=λaa s σ H v u v' u' Q I rv ru ⟨x,y,Hf,sb,rx,ry,ok,q⟩=>by
 rcases ok with h | ⟨ds,es,hk,hi⟩
 ·obtain ⟨z1,z2⟩:=uD h rx ry
  exact Kl aa s σ H v u v' u' Q I rv ru ⟨z1,by rw [z2]; exact q⟩
 ·exact (p6 I sb (by have:=c.room.un; lia) hk hi rx ry rv ru).2 _ _ _ _ ⟨.bl (!decide (x=y)),H,I,rfl,q⟩
theorem zA:zg K (Dr K false) λx y R=>Dg x y R:=λx y v u H Hf Q R s rx ry ⟨h1,h2⟩ q=>⟨x,y,Hf,s,rx,ry,h1,q _ h2⟩
theorem Hr:zg K (Dr K true) λx y R=>Dg x y λb=>R (!b):=λx y v u H Hf Q R s rx ry ⟨h1,h2⟩ q=>⟨x,y,Hf,s,rx,ry,h1,q _ h2⟩
theorem MY (h:aF c a ρ λx=>aF c b ρ λy=>Dg x y T):iM c (.Compare a [.Eq] [b] pos) ρ T:=pZ zz zA h (jk b)
theorem MZ (h:aF c a ρ λx=>aF c b ρ λy=>Dg x y λb=>T (!b)):iM c (.Compare a [.NotEq] [b] pos) ρ T:=pZ Hq Hr h (jk b)
theorem M0 (h:aF c a ρ λx=>aF c b ρ λy=>Dg x y λb=>R (.bl b)):aF c (.Compare a [.Eq] [b] pos) ρ R:=KL zz zA h (jk b)
end
section
variable {P:Program} {w:World} {K:NR} {mg:Str->Option Value} {base:Heap} {k:Nat} {N:List Str} {sc:Scope} {bk:Bool} {c:Ctx P w K mg base k N sc bk} {ρ:List Sl} {pos:Pos} {a b e:Expr} {es:List Expr} {R:D->Prop} {T:Bool->Prop}
noncomputable def D.row:D->Option (List D)
 | .lst ds=>some ds
 | .tup ds=>some ds
 | _=>none
theorem iP (e:d.row=some ds) (h:Rep K H d v):∃ p xs,v=.ref p/\ak K H ds xs/\((d=.lst ds/\gI K H p xs)\/(d=.tup ds/\dB K H p xs)):=by
 cases d with
 | lst _=>cases e; rw [bf] at h; obtain ⟨p,xs,rfl,h1,h2⟩:=h; exact ⟨p,xs,rfl,h2,.inl ⟨rfl,h1⟩⟩
 | tup _=>cases e; rw [aH] at h; obtain ⟨p,xs,rfl,h1,h2⟩:=h; exact ⟨p,xs,rfl,h2,.inr ⟨rfl,h1⟩⟩
 | _=>cases e
def JV (x y:D) (R:D->Prop):Prop:=∃ ds i d,x.row=some ds/\y=.int i/\jI ds i=some d/\R d
theorem gi (h:jI ds i=some d) (hR:R d):JV (.lst ds) (.int i) R:=⟨ds,i,d,rfl,rfl,h,hR⟩
theorem iQ (h:jI ds i=some d) (hR:R d):JV (.tup ds) (.int i) R:=⟨ds,i,d,rfl,rfl,h,hR⟩
theorem zB (h:ak K H ds xs) (e:jI ds i=some d):∃ x,jI xs i=some x/\Rep K H d x:=by
 unfold jI at e |-
 rw [<- h.length]
 obtain ⟨j,e1,e2⟩:=Tv.mp e
 obtain ⟨x,e3,rx⟩:=h.get e2
 exact ⟨x,by rw [e1]; exact e3,rx⟩
theorem KZ (h:aF c a ρ λx=>aF c b ρ λy=>JV x y R) (hs:gJ b:=by intro _ _; walk_at "u"):aF c (.Subscript a b pos) ρ R:=λσ H Hf Q S q =>
 bK (yR (Fl.or nS GV) dz dz hs) (h σ H Hf _ S λx v H1 aP h1 r1 g1=>h1 σ H1 aP _ (S.cF g1) λy u H2 cI ⟨ds,i,d,e1,e2,e3,hR⟩ r2 g2=>by
  subst e2
  rw [av] at r2; subst r2
  obtain ⟨p,xs,rfl,hr,hk⟩:=iP e1 (Rep.mono g2.f x r1)
  obtain ⟨z,ez,rz⟩:=zB hr e3
  have fin:=q d z H2 cI hR rz (g1.trans g2)
  rcases hk with ⟨_,hk⟩ | ⟨_,hk⟩
  ·exact .inl ⟨p,xs,i,z,rfl,rfl,g2.b.seq hk,ez,fin⟩
  ·exact .inr ⟨p,xs,i,z,rfl,rfl,au g2.b hk,ez,fin⟩)
theorem uM (sb:aG Hf H) {d:D} (h:(d=.lst ds/\gI K Hf p xs)\/(d=.tup ds/\dB K Hf p xs)):gI K H p xs\/dB K H p xs:=h.elim (λz=>.inl (sb.seq z.2)) λz=>.inr (au sb z.2)
theorem zC:zq K (λxs H Q=>∃ p ys,xs=[.ref p]/\(gI K H p ys\/dB K H p ys)/\Q (.int ys.length) H) (λds R=>∃ x,ds=[x]/\∃ ys,x.row=some ys/\R (.int ys.length)):=by
 rintro ds vs H Hf Q R s rs ⟨x,rfl,ys,e,hR⟩ q
 obtain ⟨v,rfl,rv⟩:=p5 rs
 obtain ⟨p,xs,rfl,hr,hk⟩:=iP e rv
 exact ⟨p,xs,rfl,uM s hk,q _ _ H Hf hR (by rw [hr.length]; exact av.mpr rfl) (.refl s)⟩
theorem e_len (hm:mg "len"=none) (h:aF c e ρ λx=>∃ ys,x.row=some ys/\R (.int ys.length)) (hg:sc.names.lookup (NQ "len")=some .globalImplicit:=by walk_at "u")
 (he:∀ env,starEach [e] env=(false,eval e env)::starEach [] env:=by intro _; walk_at "u"):aF c (.Call (.Name "len" p) [e] [] pos) ρ R :=
 uI nU zC hm PySem.boot_len (eU (h.imp λd hd=>kH ⟨d,rfl,hd⟩) he) hg (by decide) (by decide) he (by intro _; walk_at "u")
theorem zD {R:Sl->Prop} (hm:mg "list"=none) (h:aF c e ρ λx=>∃ ys,x.row=some ys/\R (.ow ys)) (hg:sc.names.lookup (NQ "list")=some .globalImplicit:=by walk_at "u")
 (he:∀ env,starEach [e] env=(false,eval e env)::starEach [] env:=by intro _; walk_at "u"):cS c (.Call (.Name "list" p) [e] [] pos) ρ R :=
 KW nV (q:=λds R=>∃ x ys,ds=[x]/\x.row=some ys/\R (.ow ys)) (λds vs H Hf Q R s rs ⟨x,ys,e1,e2,hR⟩ q=>by
  subst e1
  obtain ⟨v,rfl,rv⟩:=p5 rs
  obtain ⟨p,xs,rfl,hr,hk⟩:=iP e2 rv
  exact ⟨p,xs,rfl,uM s hk,λl hl=>by
   have g2:=br.gh s hl (o:=.lst xs)
   exact q _ _ _ _ hR ⟨l,xs,rfl,hl,af,s.free hl,hr⟩ g2⟩) hm PyProof.Rows.boot_list (eU (h.imp λd ⟨ys,h1,h2⟩=>kH ⟨d,ys,rfl,h1,h2⟩) he) hg (by decide) (by decide) he (by intro _; walk_at "u")
theorem j5 (hm:mg "tuple"=none) (h:aF c e ρ λx=>∃ ys,x.row=some ys/\R (.tup ys)) (hg:sc.names.lookup (NQ "tuple")=some .globalImplicit:=by walk_at "u")
 (he:∀ env,starEach [e] env=(false,eval e env)::starEach [] env:=by intro _; walk_at "u"):aF c (.Call (.Name "tuple" p) [e] [] pos) ρ R :=
 KY lX (q:=λds R=>∃ x ys,ds=[x]/\x.row=some ys/\R (.tup ys)) (λds vs H Hf Q R s rs ⟨x,ys,e1,e2,hR⟩ q=>by
  subst e1
  obtain ⟨v,rfl,rv⟩:=p5 rs
  obtain ⟨p,xs,rfl,hr,hk⟩:=iP e2 rv
  rcases hk with ⟨_,hk⟩ | ⟨_,hk⟩
  ·exact ⟨p,xs,rfl,.inl ⟨s.seq hk,λl hl=>by
    have g2:=br.new s hl (o:=.tup xs)
    exact q _ _ _ _ hR (aH.mpr ⟨l,xs,rfl,.inl (.inl af),hr.mono g2.f⟩) g2⟩⟩
  ·exact ⟨p,xs,rfl,.inr ⟨au s hk,q _ _ H Hf hR (aH.mpr ⟨p,xs,rfl,hk,hr⟩) (.refl s)⟩⟩) hm PyProof.Rows.boot_tuple (eU (h.imp λd ⟨ys,h1,h2⟩=>kH ⟨d,ys,rfl,h1,h2⟩) he) hg (by decide) (by decide) he (by intro _; walk_at "u")
noncomputable def FA (K:NR):R2:=λx y H Q=>∃ l b xs zs,x=.ref l/\y=.ref b/\gI K H l xs/\gI K H b zs/\xs.length+zs.length<=sizeLine/\∀ p,H p=none->Q (.ref p) (upd H p (.lst (xs++zs)))
theorem Ds:fL X (binaryOp .Add) (FA X.K):=by
 intro aa s σ H x y v u Q I rx ry h
 obtain ⟨l,b,xs,zs,rfl,rfl,hH,hB,hz,q⟩:=h
 cases rx
 cases ry
 obtain ⟨its,r,hl,z⟩:=I.list hH
 obtain ⟨its2,r2,hl2,z2⟩:=I.list hB
 have e1:=r.length
 have e2:=r2.length
 obtain ⟨⟨cls,dd,data,sl⟩,n,p1,p2,p3,p4⟩:=hl
 obtain ⟨⟨cls2,dd2,data2,sl2⟩,n',q1,q2,q3,q4⟩:=hl2
 simp only at p2 p3 p4 q2 q3 q4
 subst p2 p3 p4 q2 q3 q4
 have ea:its.toArray++its2.toArray=(its++its2).toArray:=by simp
 refine SW ⟨_,p1,rfl⟩ ⟨_,q1,rfl⟩ noFill_list_add seq_list_add PySem.F.slot_list_add PySem.F.entry_list_add (PySem.F.args_list_add_2 _ _) (list_addW l b its.toArray its2.toArray n n' none none sl sl2 (by simp; lia)) ⟨p1,q1,?_⟩
 rw [ea]
 exact ⟨.ref _,_,I.CU (t':=s.toks) (r.append r2) (by rw [OF]; lia),rfl,q _ I.fresh⟩
noncomputable def zE (K:NR):R2:=λx y H Q=>∃ a b xs ys,x=.ref a/\y=.ref b/\dB K H a xs/\dB K H b ys/\xs.length+ys.length<=sizeLine /\
 (xs=[]->Q (.ref b) H)/\(ys=[]->Q (.ref a) H)/\∀ p,H p=none->Q (.ref p) (upd H p (.tup (xs++ys)))
theorem zF:fL X (binaryOp .Add) (zE X.K):=by
 intro aa s σ H x y v u Q I rx ry h
 obtain ⟨t,b,xs,ys,rfl,rfl,hH,hB,hz,c1,c2,q⟩:=h
 cases rx
 cases ry
 obtain ⟨vs,r,ht,z⟩:=I.tuple hH
 obtain ⟨ws,r2,hb,z2⟩:=I.tuple hB
 obtain ⟨⟨cls,dd,data,sl⟩,ho,hc,n,hd⟩:=id ht
 obtain ⟨⟨cls2,dd2,data2,sl2⟩,ho2,hc2,n2,hd2⟩:=id hb
 simp only at hc hd hc2 hd2
 subst hc hd hc2 hd2
 have e:vs.toArray++ws.toArray=(vs++ws).toArray:=by simp
 have e1:=r.length
 have e2:=r2.length
 by_cases hv:vs=[]
 ·exact SW ⟨_,ho,rfl⟩ ⟨_,ho2,rfl⟩ Ue seq_tuple_add TF Tu (Tr _ _)
   (tuple_addW0 t b vs.toArray ws.toArray n n2 dd dd2 sl sl2 (by simp [hv])) ⟨ho,ho2,⟨.ref b,H,I,rfl,c1 (by rw [Vals.uq r] at hv; exact hv)⟩⟩
 ·by_cases hw:ws=[]
  ·exact SW ⟨_,ho,rfl⟩ ⟨_,ho2,rfl⟩ Ue seq_tuple_add TF Tu (Tr _ _)
    (tuple_addW1 t b vs.toArray ws.toArray n n2 dd dd2 sl sl2 (by simpa using hv) (by simp [hw])) ⟨ho,ho2,⟨.ref t,H,I,rfl,c2 (by rw [Vals.uq r2] at hw; exact hw)⟩⟩
  ·refine SW ⟨_,ho,rfl⟩ ⟨_,ho2,rfl⟩ Ue seq_tuple_add TF Tu (Tr _ _)
    (tuple_addW2 t b vs.toArray ws.toArray n n2 dd dd2 sl sl2 (by simpa using hv) (by simpa using hw) (by rw [Of,Of]; lia)) ⟨ho,ho2,?_⟩
   rw [e]
   refine ⟨.ref s.heap.objs.size,_,I.laid (t':=s.toks) (o:=.tup (xs++ys)) (λb ob q=>NY _ q) (NT _) ?_,rfl,q _ (I.hok.fresh (NT _))⟩
   exact ⟨by rw [OF]; exact hz,_,r.append r2,IsTup.new _ _⟩
inductive kI:D->D->(Sl->Prop)->Prop where
 | int {i j:Int} {R:Sl->Prop} (h:R (.va (.int (i+j)))):kI (.int i) (.int j) R
 | lst {ds es:List D} {R:Sl->Prop} (h:Sd (ds.length+es.length<=sizeLine) (R (.ow (ds++es)))):kI (.lst ds) (.lst es) R
 | tup {ds es:List D} {R:Sl->Prop} (h:Sd (ds.length+es.length<=sizeLine) (R (.va (.tup (ds++es))))):kI (.tup ds) (.tup es) R
 | str {x y:Str} {R:Sl->Prop} (h:Sd (x.length+y.length<=sizeLine) (R (.va (.str (x++y))))):kI (.str x) (.str y) R
theorem jK (h:ak K H ds []):ds=[]:=by
 have:=h.length; cases ds with
 | nil=>rfl
 | cons _ _=>simp at this
theorem Dt:L5 K (λx y H Q=>(((ue λi j=>V.int (i+j)) x y H Q\/FA K x y H Q)\/zE K x y H Q)\/∃ i j,x=.str i/\y=.str j/\i.length+j.length<=sizeLine/\Q (.str (i++j)) H) kI:=by
 rintro x y v u H Hf Q R s rx ry h q
 cases h with
 | @int i j _ h =>
  rw [av] at rx ry
  exact .inl (.inl (.inl ⟨i,j,rx,ry,q (.va (.int (i+j))) _ H Hf h (show Rep K Hf (.int (i+j)) _ from av.mpr rfl) (.refl s)⟩))
 | @lst ds es _ h =>
  rw [bf] at rx ry
  obtain ⟨a,xs,rfl,h1,h2⟩:=rx
  obtain ⟨b,ys,rfl,h3,h4⟩:=ry
  refine .inl (.inl (.inr ⟨a,b,xs,ys,rfl,rfl,s.seq h1,s.seq h3,by rw [<- h2.length,<- h4.length]; exact h.s,λp hp=>?_⟩))
  exact q (.ow (ds++es)) _ _ _ h.r ⟨p,xs++ys,rfl,hp,af,s.free hp,h2.append h4⟩ (br.gh s hp)
 | @tup ds es _ h =>
  rw [aH] at rx ry
  obtain ⟨a,xs,rfl,h1,h2⟩:=rx
  obtain ⟨b,ys,rfl,h3,h4⟩:=ry
  refine .inl (.inr ⟨a,b,xs,ys,rfl,rfl,au s h1,au s h3,by rw [<- h2.length,<- h4.length]; exact h.s,λe=>?_,λe=>?_,λp hp=>?_⟩)
  ·subst e
   have:=jK h2
   subst this
   exact q (.va (.tup ([]++es))) _ H Hf h.r (show Rep K Hf (.tup ([]++es)) _ from aH.mpr ⟨b,ys,rfl,h3,h4⟩) (.refl s)
  ·subst e
   have:=jK h4
   subst this
   exact q (.va (.tup (ds++[]))) _ H Hf h.r (show Rep K Hf (.tup (ds++[])) _ from aH.mpr ⟨a,xs,rfl,h1,by rw [OP]; exact h2⟩) (.refl s)
  ·have g:=br.new s hp (o:=.tup (xs++ys))
   exact q (.va (.tup (ds++es))) _ _ _ h.r (show Rep K _ (.tup (ds++es)) _ from aH.mpr ⟨p,xs++ys,rfl,.inl (.inl af),(h2.append h4).mono g.f⟩) g
 | @str x y _ h =>
  rw [fN] at rx ry
  exact .inr ⟨x,y,rx,ry,h.s,q (.va (.str (x++y))) _ H Hf h.r (show Rep K Hf (.str (x++y)) _ from fN.mpr rfl) (.refl s)⟩
theorem zG {R:Sl->Prop} (h:aF c a ρ λx=>aF c b ρ λy=>kI x y R):cS c (.BinOp a .Add b pos) ρ R :=
 nZ (fL.or (fL.or (fL.or GH Ds) zF) rY) Dt h
noncomputable def cutD {α:Type} (xs:List α) (lo hi:Option Int):List α:=(xs.drop (HT.cz xs.length 0 lo)).take (HT.cz xs.length xs.length hi - HT.cz xs.length 0 lo)
theorem p7 (h:ak K H ds xs) (lo hi):ak K H (cutD ds lo hi) (nR xs lo hi):=by
 unfold cutD nR
 rw [h.length]
 exact (h.drop _).take _
noncomputable def bP (X:Cx) (e:Option Expr):TO:=λσ H Q=>∀ aa s,Inv X aa σ H s->wpAny (model X.prog X.w) X.A (evalPart e X.env) (λu s'=>∃ o H',Inv X aa σ H' s'/\IsPart u o/\Q o H') X.xe s
theorem K0 {X:Cx} {e:Option Expr}:PO X e (bP X e):=λaa s σ H Q I h=>h aa s I
def Cw (c:Ctx P w K mg base k N sc bk) (e:Option Expr) (ρ:List Sl) (R:Option Int->Prop):Prop :=
 ∀ (σ:L2.St) (H Hf:Hp) (Q:Option Int->Hp->Prop),bw c σ H Hf ρ->(∀ o H' ah,R o->br H Hf H' ah->Q o H')->bP c.X e σ H Q
theorem Hs {R:Option Int->Prop} (h:R none):Cw c none ρ R:=λσ H Hf Q S q aa s I=>CP aa s σ H Q I (q none H Hf h (.refl S.sb))
theorem Ht {R:Option Int->Prop} (h:aF c e ρ (I1 λi=>R (some i))):Cw c (some e) ρ R:=λσ H Hf Q S q aa s I =>
 CQ dz aa s σ H Q I (h σ H Hf _ S λd v H' ah ⟨i,e,hR⟩ r g=>by subst e; rw [av] at r; exact ⟨i,r,q _ H' ah hR g⟩)
noncomputable def K1 (K:NR):V->Option Int->Option Int->Hp->VK->Prop:=λx lo hi H Q=>∃ a xs,x=.ref a/\dB K H a xs /\
 (HT.cz xs.length 0 lo=0/\HT.cz xs.length xs.length hi=xs.length)/\Q (.ref a) H
theorem gY {lo hi:Option Int} (ht:IsTup s.heap t items) (hs:s.heap.IsSliceOf sl vl vu .none) (pl:IsPart vl lo) (pu:IsPart vu hi)
 (hw:HT.cz items.size 0 lo=0/\HT.cz items.size items.size hi=items.size) (h:Q (.ref t) s):wpAny (model prog w) A (getItem (.ref t) (.ref sl)) Q E s:=by
 obtain ⟨os,hos,hcs,hds⟩:=id hs
 have hTs:s.TypeIs (.ref sl) "slice":=⟨os,hos,hcs⟩
 unfold getItem
 try with_reducible refine O6 ?_
 first | refine NP (NS ?_) | skip
 refine NP (T5 ht.typeIs (by decide) ?_)
 refine NP (P7 (name:=NQ "__getitem__") ht.typeIs QK
  (Pq QK ht.typeIs entry_tuple_getitem ?_ (args_tuple_getitem _ _)))
 show wpAny _ _ (Builtin.Tuple.tupleItemsOf (.ref t) >>= _) _ _ s
 refine NP (tupleItemsOf_ ht ?_)
 refine NP (Qf hTs ?_)
 rw [if_pos (by decide)]
 refine NP (HT.fy hs pl pu ?_)
 have hyes:((((HT.cz items.size 0 lo:Nat):Int) == 0 && (1:Int) == 1 && (HT.cz items.size items.size hi - HT.cz items.size 0 lo) == items.size)=true):=by
  rw [hw.1,hw.2]; simp
 show wpAny _ _ (if (((HT.cz items.size 0 lo:Nat):Int) == 0 && (1:Int) == 1 && (HT.cz items.size items.size hi - HT.cz items.size 0 lo) == items.size)=true then _ else _) _ _ s
 rw [if_pos hyes]
 obtain ⟨⟨cls,dd,data,sl'⟩,ho,hc,n,hd⟩:=id ht
 simp only at hc hd
 subst hc hd
 unfold Builtin.Tuple.tupleIsExact
 wp_walk using R0 ho
 exact ⟨_,rfl,NS h⟩
theorem zH:Cv X (K1 X.K):=by
 intro aa s σ H x v vl vu lo hi sl Q I rx hs pl pu h
 obtain ⟨a,xs,rfl,hx,hw,q⟩:=h
 cases rx
 obtain ⟨its,r,ht,hz⟩:=I.tuple hx
 have hlen:its.toArray.size=xs.length:=by rw [Of]; exact r.length.symm
 refine ⟨"tuple",_,QK.lookup,ht.typeIs,?_⟩
 exact gY ht hs pl pu (by rw [hlen]; exact hw) ⟨.ref a,H,I,rfl,q⟩
inductive Hu:D->Option Int->Option Int->(Sl->Prop)->Prop where
 | lst {ds:List D} {lo hi:Option Int} {R:Sl->Prop} (h:R (.ow (cutD ds lo hi))):Hu (.lst ds) lo hi R
 | tup {ds:List D} {lo hi:Option Int} {R:Sl->Prop} (h:R (.va (.tup (cutD ds lo hi)))):Hu (.tup ds) lo hi R
theorem wU {lo hi:Option Int} (h:HT.cz xs.length 0 lo=0/\HT.cz xs.length xs.length hi=xs.length):cutD xs lo hi=xs:=by
 unfold cutD; rw [h.1,h.2]; simp
theorem uN {lo hi:Option Expr} {R:Sl->Prop} (h:aF c e ρ λx=>Cw c lo ρ λl=>Cw c hi ρ λu=>Hu x l u R):cS c (.Subscript e (.Slice lo hi none p2) pos) ρ R:=λσ H Hf Q S q =>
 bK (yQ (Cv.or (Cv.or CT GU) zH) dz K0 K0) (h σ H Hf _ S λx v H1 aP h1 r1 g1=>h1 σ H1 aP _ (S.cF g1) λl H2 cI h2 g2=>h2 σ H2 cI _ (S.cF (g1.trans g2)) λu H3 Hf3 h3 g3=>by
  have r3:=Rep.mono g3.f x (Rep.mono g2.f x r1)
  have g:=(g1.trans g2).trans g3
  cases h3 with
  | lst h =>
   rw [bf] at r3
   obtain ⟨a,xs,rfl,k1,k2⟩:=r3
   refine .inl (.inl ⟨a,xs,rfl,g3.b.seq k1,λp hp=>?_⟩)
   exact q _ _ _ _ h ⟨p,_,rfl,g.s.free hp,af,g3.b.free hp,p7 k2 l u⟩ (g.trans (br.gh g3.b hp))
  | tup h =>
   rw [aH] at r3
   obtain ⟨a,xs,rfl,k1,k2⟩:=r3
   by_cases hw:HT.cz xs.length 0 l=0/\HT.cz xs.length xs.length u=xs.length
   ·refine .inr ⟨a,xs,rfl,au g3.b k1,hw,?_⟩
    refine q _ _ _ _ h (show Rep c.X.K Hf3 _ _ from aH.mpr ⟨a,xs,rfl,k1,?_⟩) g
    rw [wU (by rw [k2.length]; exact hw)]; exact k2
   ·refine .inl (.inr ⟨a,xs,rfl,au g3.b k1,hw,λp hp=>?_⟩)
    have g4:=br.new g3.b hp (o:=.tup (nR xs l u))
    exact q _ _ _ _ h (show Rep c.X.K _ _ _ from aH.mpr ⟨p,_,rfl,.inl (.inl af),(p7 k2 l u).mono g4.f⟩) (g.trans g4))
theorem zI (a:br H₀ dM H1 aP) (b:br H₀ aP H Hf):br H₀ dM H Hf :=
 ⟨b.s,a.f.trans b.f,b.b,λc h1 h2 h3=>b.n c (a.n c h1 h2 h3) h2 h3⟩
theorem cQ.re (a:br H₀ dM H1 aP) (S:cQ K H₀ aP σ H Hf ρ):cQ K H₀ dM σ H Hf ρ:=⟨zI a S.bas,S.len,S.at_,S.sep⟩
theorem cQ.anew (S:cQ K H₀ dM σ H Hf ρ):cQ K H₀ Hf σ H Hf ρ:=⟨⟨S.bas.s,.refl _,S.bas.b,λ_ h _ _=>h⟩,S.len,S.at_,S.sep⟩
noncomputable def Ctx.at_ (c:Ctx P w K mg base k N sc bk) {H1 aP:Hp} (a:br c.B c.Hf H1 aP):Ctx P w K mg base k N sc bk :=
 { X:=c.X,eP:=c.eP,ew:=c.ew,eK:=c.eK,emg:=c.emg,eb:=c.eb,eN:=c.eN,esc:=c.esc,calm:=c.calm,top:=c.top,cb:=c.cb,fn:=c.fn,room:=c.room,nd:=c.nd,vis:=c.vis,B:=c.B,Hf:=aP,RX:=c.RX,RM:=c.RM,
   exc:=λC x aa σ H ah ρ s H' s' I S h X sm=>c.exc C x aa σ H ah ρ s H' s' I (S.re a) h X sm,mde:=λC x aa σ H ah ρ s h' us I S h hx=>c.mde C x aa σ H ah ρ s h' us I (S.re a) h hx }
theorem zc.at_ {nx:List Sl->Prop} {p:Pt} {D:Ends} {H1 aP:Hp} (a:br c.B c.Hf H1 aP) (o:zc c nx p D):zc (c.at_ a) nx p D :=
 ⟨λσ H Hf ρ S q=>o.nx σ H Hf ρ (cQ.re a S) q,λr v H Hf g rv q=>o.rt r v H Hf (zI a g) rv q,λσ H Hf ρ S q=>o.bk σ H Hf ρ (cQ.re a S) q,λσ H Hf ρ S q=>o.ct σ H Hf ρ (cQ.re a S) q⟩
noncomputable def bI (X:Cx) (tg iter:Expr):TI:=λσ H R=>∀ aa s,Inv X aa σ H s->wpAny (model X.prog X.w) X.A (eval iter X.env) (λv s1=>wpAny (model X.prog X.w) X.A (pyIter v) (Mx X aa σ tg R) X.xe s1) X.xe s
theorem NN {X:Cx} {tg iter:Expr}:PI X tg iter (bI X tg iter):=λaa s σ H R I h=>h aa s I
structure jn (K:NR) (J:It) (ds:List D) (dM:Hp):Prop where
 go:∀ i d H Hf,aG dM Hf->aG Hf H->ds[i]?=some d->J.go i H/\∀ x H',J.yld i H x H'->∃ ah,br H Hf H' ah/\Rep K ah d x
 stop:∀ i H Hf,aG dM Hf->aG Hf H->ds.length<=i->J.stop i H
def zJ (c:Ctx P w K mg base k N sc bk) (tg iter:Expr) (ρ:List Sl) (R:List D->Prop):Prop :=
 ∀ (σ:L2.St) (H Hf:Hp) (Q:It->Hp->Prop),bw c σ H Hf ρ->(∀ ds J H' ah,R ds->br H Hf H' ah->jn c.X.K J ds ah->Q J H')->bI c.X tg iter σ H Q
theorem wV {K:NR} {ds:List D} {xs:List V} {p:Addr} {dM:Hp} (h:gI K dM p xs) (r:ak K dM ds xs):jn K (Mz K p) ds dM where
 go:=λi d H Hf s1 s2 e=>by
  obtain ⟨x,ex,rx⟩:=r.get e
  refine ⟨⟨xs,x,(s1.trans s2).seq h,ex⟩,λy H' ⟨e1,e2⟩=>?_⟩
  subst e1
  have:=e2 xs ((s1.trans s2).seq h)
  rw [ex] at this; cases this
  exact ⟨Hf,.refl s2,Rep.mono s1 d rx⟩
 stop:=λi H Hf s1 s2 e=>⟨xs,(s1.trans s2).seq h,by rw [<- r.length]; exact e⟩
theorem zK {K:NR} {ds:List D} {xs:List V} {p:Addr} {dM:Hp} (h:dB K dM p xs) (r:ak K dM ds xs):jn K (MA K p) ds dM where
 go:=λi d H Hf s1 s2 e=>by
  obtain ⟨x,ex,rx⟩:=r.get e
  refine ⟨⟨xs,x,au (s1.trans s2) h,ex⟩,λy H' ⟨e1,e2⟩=>?_⟩
  subst e1
  have:=e2 xs (au (s1.trans s2) h)
  rw [ex] at this; cases this
  exact ⟨Hf,.refl s2,Rep.mono s1 d rx⟩
 stop:=λi H Hf s1 s2 e=>⟨xs,au (s1.trans s2) h,by rw [<- r.length]; exact e⟩
noncomputable def M3 (K:NR) (tl:TE):TI:=λσ H R=>tl σ H λx H1=>∃ a,x=.ref a/\(((∃ xs,gI K H1 a xs)/\R (Mz K a) H1)\/((∃ xs,dB K H1 a xs)/\R (MA K a) H1))
theorem Hw (hl:PE X l tl):PI X tg l (M3 X.K tl):=by
 intro aa s σ H R I h
 refine bD (hl aa s σ H _ I h) λv s1 ⟨x,H1,I1,r1,q1⟩=>?_
 obtain ⟨a,e,h⟩:=q1
 subst e
 cases r1
 rcases h with ⟨⟨xs,hq⟩,q⟩ | ⟨⟨xs,hq⟩,q⟩
 ·obtain ⟨its,rv,p,hz⟩:=I1.list hq
  refine T7 p.isList ?_
  refine ⟨s1.heap.objs.size,[s1.heap.objs.size],_,_,H1,rfl,I1.kept (t':=s1.toks) λb o e=>NY _ e,wD a _,⟨_,Ob _ rfl,rfl,rfl⟩,λb hb=>?_,q⟩
  have e:b=s1.heap.objs.size:=by simpa using hb
  subst e
  exact I1.lV (NT _) (I1.hok.fresh (NT _))
 ·obtain ⟨its,rv,p,hz⟩:=I1.tuple hq
  refine TX (show s1.heap.IsTuple a its.toArray from p) ?_
  refine ⟨s1.heap.objs.size,[s1.heap.objs.size],_,_,H1,rfl,I1.kept (t':=s1.toks) λb o e=>NY _ e,rS a _,⟨_,Ob _ rfl,rfl,rfl⟩,λb hb=>?_,q⟩
  have e:b=s1.heap.objs.size:=by simpa using hb
  subst e
  exact I1.lV (NT _) (I1.hok.fresh (NT _))
theorem ck {R:List D->Prop} (h:aF c e ρ λd=>∃ ds,d.row=some ds/\R ds):zJ c tg e ρ R:=λσ H Hf Q S q aa s I =>
 Hw dz aa s σ H Q I (h σ H Hf _ S λd v H' ah ⟨ds,er,hR⟩ r g=>by
  obtain ⟨p,xs,rfl,hr,hk⟩:=iP er r
  refine ⟨p,rfl,?_⟩
  rcases hk with ⟨_,hk⟩ | ⟨_,hk⟩
  ·exact .inl ⟨⟨xs,g.b.seq hk⟩,q ds _ H' ah hR g (wV hk hr)⟩
  ·exact .inr ⟨⟨xs,au g.b hk⟩,q ds _ H' ah hR g (zK hk hr)⟩)
noncomputable def p8 (lo:Int) (n:Nat):List D:=(OD n).map λ(i:Nat)=>D.int (lo+(i:Int))
theorem zL {K:NR} {lo:Int} {n:Nat} {dM:Hp}:jn K (LY lo n) (p8 lo n) dM where
 go:=λi d H Hf s1 s2 e=>by
  unfold p8 at e
  rw [NZ] at e
  obtain ⟨j,e1,e2⟩:=N8.mp e
  have hi:i<n:=by
   have:=(N4.mp e1).1
   simpa using this
  have:j=i:=by
   rw [Qs hi] at e1; cases e1; rfl
  subst this
  refine ⟨hi,λx H' ⟨e3,e4⟩=>?_⟩
  subst e3 e4 e2
  exact ⟨Hf,.refl s2,av.mpr rfl⟩
 stop:=λi H Hf s1 s2 e=>by
  show n<=i
  simpa [p8] using e
def zM (i:Int):Prop:= -(2 ^ 62)<=i/\i<2 ^ 62
theorem eV {R:List D->Prop} (hm:mg "range"=none) (h:aF c e ρ (I1 λj=>Sd (zM j) (R (p8 0 j.toNat)))) (hg:sc.names.lookup (NQ "range")=some .globalImplicit:=by walk_at "u")
 (hs:∀ env,starEach [e] env=(false,eval e env)::starEach [] env:=by intro _; walk_at "u"):zJ c tg (.Call (.Name "range" p) [e] [] pos) ρ R:=λσ H Hf Q S q aa s I =>
 wF (by unfold Gl Ox; rw [c.esc]; exact hg) (by rw [c.emg]; exact hm) (bR dz dS (hs _)) (hs _) aa s σ H Q I (h σ H Hf _ S λd v H' ah ⟨j,ed,⟨hj,hR⟩⟩ r g=>by
  subst ed; rw [av] at r; subst r
  exact ⟨j,rfl,hj.1,hj.2,q _ _ H' ah hR g zL⟩)
theorem cO {tg iter:Expr} {body:List Stmt} {nx:List Sl->Prop} {p:Pt} (hq:c.X.xe=λ_ _=>False)
 (h:zJ c tg iter ρ λds=>∃ I:Nat->List Sl->Prop,I 0 ρ /\
   (∀ c':Ctx P w K mg base k N sc bk,c'.X=c.X->c'.RX=c.RX->c'.RM=c.RM->∀ i d ρ',ds[i]?=some d->I i ρ'->lP c' tg d ρ' λρ''=>aQ c' body ρ'' (I (i+1)) { rt:=p.rt,bk:=nx,ct:=I (i+1) })/\∀ ρ',I ds.length ρ'->nx ρ')
 (hs:∀ env x,foldedSetIterable iter env x=pure x:=by intro _ _; walk_at "u"):eG c (.For tg iter body [] pos) ρ nx p:=λσ H Hf D S o =>
 dO (GD (by rw [hq]; exact PassesOwn.never) c.calm NN Np pY (hs _)) (h σ H Hf _ S λds J H1 aP ⟨I,h0,hb,he⟩ g io=>by
  have S1:=S.cF g
  have gb:br c.B c.Hf H1 aP:=S1.bas
  refine ⟨λi m σ H=>m=ds.length - i/\i<=ds.length/\∃ Hf ρ',bw (c.at_ gb) σ H Hf ρ'/\I i ρ',⟨_,rfl,OB _,aP,ρ,S1.anew,h0⟩,?_⟩
  rintro i m σ H ⟨rfl,hi,Hf,ρ',S',hI⟩
  by_cases hlt:i<ds.length
  ·have ed:ds[i]?=some ds[i]:=Od hlt
   obtain ⟨hgo,hy⟩:=io.go i _ H Hf S'.bas.f S'.bas.b ed
   refine .inr ⟨hgo,λσ' H'=>∃ ah ρ'',bw (c.at_ gb) σ' H' ah ρ''/\I (i+1) ρ'',λσ' H' ⟨ah,ρ'',S'',hI'⟩=>⟨_,by omega,rfl,hlt,ah,ρ'',S'',hI'⟩,λx H' hx=>?_⟩
   obtain ⟨ah,g',rx⟩:=hy x H' hx
   refine hb (c.at_ gb) rfl rfl rfl i _ ρ' ed hI σ H' ah x _ (S'.cF g') rx λσ2 H2 cI ρ2 S2 _ hbody=>?_
   exact hbody σ2 H2 cI _ S2 ⟨λσ H Hf ρ S q=>⟨Hf,ρ,S,q⟩,(o.at_ gb).rt,λσ H Hf ρ S q=>(o.at_ gb).nx σ H Hf ρ S q,λσ H Hf ρ S q=>⟨Hf,ρ,S,q⟩⟩
  ·have e:i=ds.length:=by omega
   subst e
   exact .inl ⟨io.stop _ H Hf S'.bas.f S'.bas.b (NT _),(o.at_ gb).nx σ H Hf ρ' S' (he ρ' hI)⟩)
end
section
variable {K:NR}
end
section
variable {K:NR} {R:D->Prop}
theorem FD (h:R d):G8 R (.va d):=⟨d,rfl,h⟩
theorem cJ (h:R (.lst ds)):G8 R (.ow ds):=⟨.lst ds,rfl,h⟩
theorem Hx (h:aF c a ρ λx=>aF c b ρ λy=>kI x y (G8 R)):aF c (.BinOp a .Add b pos) ρ R:=e_x (zG h)
theorem nY.imp {R R':List D->Prop} (h:nY c es ρ R) (hi:∀ d,R d->R' d):nY c es ρ R':=λσ H Hf Q S q=>h σ H Hf Q S λd v H' ah rd=>q d v H' ah (hi d rd)
theorem Hy (h:nY c es ρ λds=>Sd (ds.length<=sizeLine) (R (.lst ds))):aF c (.List es pos) ρ R:=e_x (Fz (h.imp λds hd=>⟨hd.s,cJ hd.r⟩))
theorem zN {lo hi:Option Expr} (h:aF c e ρ λx=>Cw c lo ρ λl=>Cw c hi ρ λu=>Hu x l u (G8 R)):aF c (.Subscript e (.Slice lo hi none p2) pos) ρ R:=e_x (uN h)
theorem zO {R:Sl->Prop} (h:R (.va (.int (i+j)))):kI (.int i) (.int j) R:=.int h
theorem zP {ds es:List D} {R:Sl->Prop} (h:Sd (ds.length+es.length<=sizeLine) (R (.ow (ds++es)))):kI (.lst ds) (.lst es) R:=.lst h
theorem zQ {ds es:List D} {R:Sl->Prop} (h:Sd (ds.length+es.length<=sizeLine) (R (.va (.tup (ds++es))))):kI (.tup ds) (.tup es) R:=.tup h
theorem Hz {b:Bool} (ty:wO K d t) (e:Pk K t cv=some b) (h:R (.bl b)):∃ t b,wO K d t/\Pk K t cv=some b/\R (.bl b):=⟨t,b,ty,e,h⟩
theorem kJ (h:aF c a ρ λx=>aF c b ρ λy=>JV x y R) (hs:gJ b:=by with_unfolding_all exact λ_ _=>rfl):aF c (.Subscript a b pos) ρ R:=KZ h hs
theorem zR {x:D} {Q:List D->Prop} (e:x.row=some ds) (h:Q ds):∃ ys,x.row=some ys/\Q ys:=⟨ds,e,h⟩
theorem aJ {F:Fn} {R:Sl->Prop} (h:F ds (.ok sl)) (r:R sl):∃ r,F ds r/\Hl c ρ R r:=⟨_,h,r⟩
end
section
variable {K:NR}
end
noncomputable def del (H:Hp) (p:Addr):Hp:=λb=>if b=p then none else H b
theorem iR:del H p p=none:=if_pos rfl
theorem cC (h:b≠p):del H p b=H b:=if_neg h
theorem zS (h:H₀ p=none) (s:aG H₀ H):aG H₀ (del H p):=λb o e=>by
 rw [cC (aB e h)]; exact s b o e
theorem iS (h:del H p b=some o):b≠p/\H b=some o:=by
 by_cases e:b=p
 ·subst e; rw [iR] at h; cases h
 ·rw [cC e] at h; exact ⟨e,h⟩
theorem gK (sb:aG Hf H) (hp:Hf p=none):br (del H p) Hf (upd H p o) Hf :=
 ⟨λb u e=>by obtain ⟨h1,h2⟩:=iS e; rw [aj h1]; exact h2,.refl _,λb u e=>by rw [aj (aB e hp)]; exact sb b u e,λ_ h _ _=>h⟩
section
variable {K:NR}
theorem aU.mY (ho:r.owned=true) (h:aU K fr H Hf r v):∃ p o,v=.ref p/\fr p/\H p=some o/\Hf p=none/\¬ za H p:=by
 have nf:∀ {p:Addr} {u:HO},H p=some u->(∀ φ,u≠.ext φ)->¬ za H p:=λe k ⟨z,e2⟩=>by rw [e] at e2; exact k _ (Pr e2)
 cases r with
 | un=>cases ho
 | va d=>cases ho
 | fo s=>cases ho
 | ow ds=>obtain ⟨p,xs,rfl,f,h1,h2,_⟩:=h; exact ⟨p,_,rfl,f,h1,h2,nf h1 (by intro _ z; cases z)⟩
 | oT ds=>obtain ⟨p,xs,rfl,f,h1,h2,_⟩:=h; exact ⟨p,_,rfl,f,h1,h2,nf h1 (by intro _ z; cases z)⟩
 | oK ds=>obtain ⟨p,xs,rfl,f,h1,h2,_⟩:=h; exact ⟨p,_,rfl,f,h1,h2,nf h1 (by intro _ z; cases z)⟩
 | aw a ds=>obtain ⟨p,xs,rfl,f,h1,h2,_⟩:=h; exact ⟨p,_,rfl,f.1,h1,h2,nf h1 (by intro _ z; cases z)⟩
 | aT a ds=>obtain ⟨p,xs,rfl,f,h1,h2,_⟩:=h; exact ⟨p,_,rfl,f.1,h1,h2,nf h1 (by intro _ z; cases z)⟩
 | aK a ds=>obtain ⟨p,xs,rfl,f,h1,h2,_⟩:=h; exact ⟨p,_,rfl,f.1,h1,h2,nf h1 (by intro _ z; cases z)⟩
theorem aU.p9 (ho:r.owned=true) (h:aU K fr H Hf r v):∃ p o,v=.ref p/\fr p/\H p=some o/\Hf p=none :=
 let ⟨p,o,a,b,c,d,_⟩:=h.mY ho; ⟨p,o,a,b,c,d⟩
theorem aU.K2 (nf:¬ za H p) (hv:r.owned=true->v≠.ref p) (h:aU K fr H Hf r v):aU K fr (del H p) Hf r v :=
 aU.mv (B:=λq=>q=p) (.refl _) (λq o hq e1 _ e3=>⟨by rw [cC hq]; exact e1,e3⟩) (λ_ q e=>by subst e; exact nf) (λho q z e=>by subst e; exact hv ho z) h
theorem cQ.own (S:cQ K H₀ dM σ H Hf ρ) {i:Nat} (hi:ρ[i]?=some r) (ho:r.owned=true):∃ p,σ[i]?=some (some (.ref p))/\aU K (λp=>H₀ p=none) H Hf r (.ref p):=by
 obtain ⟨v,e,q⟩:=S.at_ i r hi (by rintro rfl; cases ho)
 obtain ⟨p,o,rfl,_⟩:=q.p9 ho
 exact ⟨p,e,q⟩
theorem cQ.upd (S:cQ K H₀ dM σ H Hf ρ) (hi:ρ[i]?=some r) (ho:r.owned=true) (hp:σ[i]?=some (some (.ref p))) (g:br (del H p) Hf H1 aP)
 (hr:aU K (λq=>q=p) H1 aP r' (.ref p)) (ho':r'.owned=true):cQ K H₀ dM σ H1 aP (ρ.set i r'):=by
 obtain ⟨p',ep,q⟩:=S.own hi ho
 rw [hp] at ep; cases ep
 obtain ⟨_,o,e,fp,hHp,hfp,nfz⟩:=q.mY ho
 cases e
 have hlt:i<ρ.length:=(N4.mp hi).1
 refine ⟨⟨(zS fp S.bas.s).trans g.s,S.bas.f.trans g.f,g.b,λb h1 h2 h3=>?_⟩,by simp [S.len],λj r1 hj hu=>?_,λj j' r1 r2 q' hne h1 h2 o1 o2=>?_⟩
 ·have hb:b≠p:=λz=>by subst z; exact h2 fp
  cases z:H₀ b with
  | none=>exact absurd z h2
  | some o1 =>
   have e1:=S.bas.s b o1 z
   refine g.n b (S.bas.n b h1 h2 h3) (by rw [cC hb,e1]; simp) λxs=>?_
   rw [cC hb,e1,<- z]; exact h3 xs
 ·by_cases e:j=i
  ·subst e
   rw [O2 hlt] at hj; cases hj
   exact ⟨_,hp,hr.weak λq' z=>by subst z; exact fp⟩
  ·rw [O4 (Og e)] at hj
   obtain ⟨v,e1,e2⟩:=S.at_ j r1 hj hu
   exact ⟨v,e1,(e2.K2 (p:=p) nfz λow z=>by subst z; exact S.sep i j _ _ p (Og e) hi hj ho ow hp e1).cF g⟩
 ·have out:∀ {j:Nat} {r1:Sl},(ρ.set i r')[j]?=some r1->r1.owned=true->∃ r2,ρ[j]?=some r2/\r2.owned=true:=λ{j r1} hj how=>by
   by_cases e:j=i
   ·subst e; exact ⟨r,hi,ho⟩
   ·rw [O4 (Og e)] at hj; exact ⟨r1,hj,how⟩
  obtain ⟨r3,a1,a2⟩:=out h1 o1
  obtain ⟨r4,b1,b2⟩:=out h2 o2
  exact S.sep j j' r3 r4 q' hne a1 b1 a2 b2
end
section
variable {K:NR} {c:Ctx P w K mg base k N sc bk}
theorem Ctx.jo (c:Ctx P w K mg base k N sc bk) (hN:At N i x) (hd:(x == ("__debug__":Str))=false) (hcd:(x == ("__classdict__":Str))=false):PE c.X (.Name x px) (J5 i) :=
 rQ (X:=c.X) (i:=i) (by rw [c.eN]; exact hN.get) (by rw [c.esc]; rcases c.vis x hN.mem with h | h; exact .inl h; exact .inr (.inl h)) hd hcd
noncomputable def Sl.getL:Sl->Option (List D) | .ow ds=>some ds | .aw _ ds=>some ds | _=>none
noncomputable def Sl.putL:Sl->List D->Sl | .ow _,es=>.ow es | .aw a _,es=>.aw a es | s,_=>s
theorem dH {r:Sl} (h:r.getL=some ds):r.owned=true:=by cases r <;> first | rfl | cases h
theorem ir {r:Sl} {ds es:List D} (h:r.getL=some ds):(r.putL es).owned=true:=by cases r <;> first | rfl | cases h
theorem HA {p:Addr} (h:r.getL=some ds) (q:aU K fr H Hf r (.ref p)):∃ xs,H p=some (.lst xs)/\Hf p=none/\ak K Hf ds xs:=by
 cases r with
 | ow es=>cases h; obtain ⟨_,xs,e,_,h1,h2,h3⟩:=q; cases e; exact ⟨xs,h1,h2,h3⟩
 | aw a es=>cases h; obtain ⟨_,xs,e,_,h1,h2,h3⟩:=q; cases e; exact ⟨xs,h1,h2,h3⟩
 | _=>cases h
theorem kK {ds es:List D} {p:Addr} (h:r.getL=some ds) (q:aU K fr H Hf r (.ref p)) (h1:H1 p=some (.lst ys)) (h2:aP p=none) (h3:ak K aP es ys) :
 aU K (λq=>q=p) H1 aP (r.putL es) (.ref p):=by
 cases r with
 | ow _=>exact ⟨p,ys,rfl,rfl,h1,h2,h3⟩
 | aw a _=>obtain ⟨_,xs,e,f,_⟩:=q; cases e; exact ⟨p,ys,rfl,⟨rfl,f.2⟩,h1,h2,h3⟩
 | _=>cases h
theorem sj (hN:At N i x) (hi:At ρ i r) (hr:r.getL=some ds) (h:aF c e ρ λd=>Sd (ds.length<sizeLine) (Nx ρ i nx (r.putL (ds++[d]))))
 (hs:∀ env,swapsWith (.Call (.Attribute (.Name x px) "append" ap) [e] [] cp) none pos.line env=pure false:=by intro _; walk_at "u") (hd:(x == ("__debug__":Str))=false:=by decide) (hcd:(x == ("__classdict__":Str))=false:=by decide)
 (hbase:∀ env,attributeBase (.Name x px) "append" env (eval (.Name x px) env)=eval (.Name x px) env:=by intro _; walk_at "u")
 (hfew:∀ env,((backTo cp (starEach [e] env)).all (λx=> !x.1) && (backToKw cp (keywordEach [] env)).all (λx=>x.1.isSome)
   && decide (([e]:List Expr).length+([]:List Keyword).length+(if ([]:List Keyword).isEmpty then 0 else 1)<30))=true:=by intro _; walk_at "u")
 (hline:(ap.endLine == cp.line)=true:=by walk_at "u") (he:∀ env,starEach [e] env=(false,eval e env)::starEach [] env:=by intro _; walk_at "u") (hpl:∀ env,(backTo cp (starEach [] env)).any (·.1)=false:=by intro _; walk_at "u") :
 eG c (.Expr (.Call (.Attribute (.Name x px) "append" ap) [e] [] cp) pos) ρ nx p:=λσ H Hf D S o=>by
 obtain ⟨q,eq,rq⟩:=S.own hi.get (dH hr)
 obtain ⟨xs,h1,h2,h3⟩:=HA hr rq
 refine dO (jW (Fo PySem.F.plainAttrs_list PySem.F.slot_list_append PySem.F.type_list_append mQ (c.jo hN hd hcd) (bR dz dS (he _)) (hbase _) (hfew _) hline (he _) (hpl _)) (hs _)) ⟨_,eq,.inl ⟨rfl,xs,.inl (.inl h1)⟩,?_⟩
 refine h σ H Hf _ S λd v H' ah ⟨hz,ρ',hs',hn⟩ rd g=>?_
 have S':=S.cF g
 have e1:H' q=some (.lst xs):=g.s _ _ h1
 have e2:ah q=none:=g.n q h2 (by rw [h1]; simp) (by intro ys; rw [h1]; simp)
 refine ⟨q,xs,v,rfl,rfl,e1,by rw [<- h3.length]; exact hz,?_⟩
 refine o.nx _ _ ah ρ' ?_ hn
 rw [hs'.eq]
 have rq':=rq.cF g
 exact S'.upd hi.get (dH hr) eq (gK g.b e2) (kK hr rq' af e2 ((h3.mono g.f).append (.one rd))) (ir hr)
end
section
variable {κ β:Type} [DecidableEq κ]
noncomputable def bC (kvs:List (κ×β)) (k:κ):Option β:=(kvs.find? λkv=>decide (kv.1=k)).map (·.2)
noncomputable def putD (kvs:List (κ×β)) (k:κ) (v:β):List (κ×β) :=
 if (bC kvs k).isSome=true then kvs.map (λkv=>if kv.1=k then (kv.1,v) else kv) else kvs++[(k,v)]
theorem bu {q:κ×β} {r:List (κ×β)} {k:κ} (e:q.1=k):bC (q::r) k=some q.2:=by simp [bC,Pu,e]
theorem aV {q:κ×β} {r:List (κ×β)} {k:κ} (e:¬ q.1=k):bC (q::r) k=bC r k:=by simp [bC,Pu,e]
end
noncomputable def D.wW:D->Option Key | .int i=>some (.inl i) | .str x=>some (.inr x) | _=>none
noncomputable def D.keys:List D->Option (List Key)
 | []=>some []
 | d::r=>match d.wW,D.keys r with | some k,some ks=>some (k::ks) | _,_=>none
theorem iT {K:NR} (h:d.wW=some k) (r:Rep K H d v):v=kV k:=by
 cases d with
 | int i=>cases h; exact av.mp r
 | str x=>cases h; exact fN.mp r
 | _=>cases h
theorem gM {K:NR}:∀ {ds:List D} {ks:List Key} {xs:List V},D.keys ds=some ks->ak K H ds xs->xs=ks.map kV
 | [],ks,xs,h,r=>by cases h; rw [aA.mp r]; rfl
 | d::ds,ks,xs,h,r=>by
  obtain ⟨x,t,rfl,r1,r2⟩:=aC.mp r
  unfold D.keys at h
  cases e1:d.wW with
  | none=>rw [e1] at h; cases h
  | some k =>
   cases e2:D.keys ds with
   | none=>rw [e1,e2] at h; cases h
   | some ks' =>
    rw [e1,e2] at h; cases h
    rw [iT e1 r1,gM e2 r2]; rfl
noncomputable def Sl.FE:Sl->Bool | .oK _=>true | .aK _ _=>true | .oT _=>true | .aT _ _=>true | _=>false
theorem qa {r:Sl} (h:r.FE=true):r.owned=true:=by cases r <;> first | rfl | cases h
noncomputable def Sl.su:Sl->Option (List (Key×D)) | .oK kvs=>some kvs | .aK _ kvs=>some kvs | _=>none
noncomputable def Sl.qb:Sl->List (Key×D)->Sl | .oK _,es=>.oK es | .aK a _,es=>.aK a es | s,_=>s
noncomputable def Sl.wX:Sl->Option (List (List Key×D)) | .oT kvs=>some kvs | .aT _ kvs=>some kvs | _=>none
noncomputable def Sl.zT:Sl->List (List Key×D)->Sl | .oT _,es=>.oT es | .aT a _,es=>.aT a es | s,_=>s
theorem kL {r:Sl} (h:r.su=some kvs):r.owned=true:=by cases r <;> first | rfl | cases h
theorem kM {r:Sl} (h:r.su=some kvs):(r.qb es).owned=true:=by cases r <;> first | rfl | cases h
theorem sA {r:Sl} (h:r.wX=some kvs):(r.zT es).owned=true:=by cases r <;> first | rfl | cases h
section
variable {K:NR} {fr:Addr->Prop} {H Hf H1 aP:Hp} {r:Sl} {p:Addr}
theorem wY (h:r.su=some kvs) (q:aU K fr H Hf r (.ref p)):∃ xs,H p=some (.dK xs)/\Hf p=none/\lO K Hf kvs xs:=by
 cases r with
 | oK es=>cases h; obtain ⟨_,xs,e,_,h1,h2,h3⟩:=q; cases e; exact ⟨xs,h1,h2,h3⟩
 | aK a es=>cases h; obtain ⟨_,xs,e,_,h1,h2,h3⟩:=q; cases e; exact ⟨xs,h1,h2,h3⟩
 | _=>cases h
theorem Du (h:r.wX=some kvs) (q:aU K fr H Hf r (.ref p)):∃ xs,H p=some (.dT xs)/\Hf p=none/\kG K Hf kvs xs:=by
 cases r with
 | oT es=>cases h; obtain ⟨_,xs,e,_,h1,h2,h3⟩:=q; cases e; exact ⟨xs,h1,h2,h3⟩
 | aT a es=>cases h; obtain ⟨_,xs,e,_,h1,h2,h3⟩:=q; cases e; exact ⟨xs,h1,h2,h3⟩
 | _=>cases h
theorem qe (h:r.su=some kvs) (q:aU K fr H Hf r (.ref p)) (h1:H1 p=some (.dK ys)) (h2:aP p=none) (h3:lO K aP es ys):aU K (λq=>q=p) H1 aP (r.qb es) (.ref p):=by
 cases r with
 | oK _=>exact ⟨p,ys,rfl,rfl,h1,h2,h3⟩
 | aK a _=>obtain ⟨_,xs,e,f,_⟩:=q; cases e; exact ⟨p,ys,rfl,⟨rfl,f.2⟩,h1,h2,h3⟩
 | _=>cases h
theorem zU (h:r.wX=some kvs) (q:aU K fr H Hf r (.ref p)) (h1:H1 p=some (.dT ys)) (h2:aP p=none) (h3:kG K aP es ys):aU K (λq=>q=p) H1 aP (r.zT es) (.ref p):=by
 cases r with
 | oT _=>exact ⟨p,ys,rfl,rfl,h1,h2,h3⟩
 | aT a _=>obtain ⟨_,xs,e,f,_⟩:=q; cases e; exact ⟨p,ys,rfl,⟨rfl,f.2⟩,h1,h2,h3⟩
 | _=>cases h
noncomputable def zV (K:NR) (Hf:Hp):Option D->Option V->Prop
 | none,none=>True
 | some d,some v=>Rep K Hf d v
 | _,_=>False
theorem lO.val (h:lO K Hf kvs xs) (k:Key):zV K Hf (bC kvs k) (kC xs k):=by
 unfold lO at h
 induction h with
 | nil=>exact PV
 | @cons a b as bs h t ih =>
  by_cases e:a.1=k
  ·rw [bu e,kD (h.1.symm.trans e)]; exact h.2
  ·rw [aV e,kE (λz=>e (h.1.trans z))]; exact ih
theorem zV.isSome (h:zV K Hf o u):o.isSome=u.isSome:=by
 cases o <;> cases u <;> first | rfl | exact h.elim
theorem lO.put (h:lO K Hf kvs xs) (k:Key) (rd:Rep K Hf d v):lO K Hf (putD kvs k d) (putK xs k v):=by
 have e:=(h.val k).isSome
 unfold putD putK
 rw [e,pP]
 by_cases q:(kC xs k).isSome=true
 ·rw [if_pos q,if_pos q]
  unfold lO at h |-
  clear e q
  induction h with
  | nil=>exact .nil
  | @cons a b as bs h t ih =>
   rw [NW,NW]
   refine .cons ?_ ih
   by_cases e:a.1=k
   ·rw [if_pos e,if_pos (h.1.symm.trans e)]; exact ⟨h.1,rd⟩
   ·rw [if_neg e,if_neg (λz=>e (h.1.trans z))]; exact h
 ·rw [if_neg q,if_neg q]; exact Td h ⟨rfl,rd⟩
theorem kG.val (h:kG K Hf kvs xs) (k):zV K Hf (bC kvs k) (atT xs k):=by
 unfold kG at h
 induction h with
 | nil=>exact PV
 | @cons a b as bs h t ih =>
  by_cases e:a.1=k
  ·have z:L2.atT (b::bs) k=some b.2.2:=by simp [L2.atT,Pu,h.1.symm.trans e]
   rw [bu e,z]; exact h.2.2
  ·have z:L2.atT (b::bs) k=L2.atT bs k:=by
    have:¬ b.1=k:=λz=>e (h.1.trans z)
    simp [L2.atT,Pu,this]
   rw [aV e,z]; exact ih
theorem kG.put (h:kG K Hf kvs xs) (k) (hb:dB K Hf b (k.map kV)) (rd:Rep K Hf d v):kG K Hf (putD kvs k d) (pS xs k b v):=by
 have e:=(h.val k).isSome
 unfold putD pS
 rw [e]
 by_cases q:(atT xs k).isSome=true
 ·rw [if_pos q,if_pos q]
  unfold kG at h |-
  clear e q
  induction h with
  | nil=>exact .nil
  | @cons a b' as bs h t ih =>
   rw [NW,NW]
   refine .cons ?_ ih
   unfold nW
   by_cases e:a.1=k
   ·rw [if_pos e,if_pos (h.1.symm.trans e)]; exact ⟨h.1,h.2.1,rd⟩
   ·rw [if_neg e,if_neg (λz=>e (h.1.trans z))]; exact h
 ·rw [if_neg q,if_neg q]; exact Td h ⟨rfl,hb,rd⟩
theorem kG.zW (h:kG K Hf kvs xs):∀ x∈xs,dB K Hf x.2.1 (x.1.map kV):=by
 unfold kG at h
 induction h with
 | nil=>intro x hx; cases hx
 | @cons a b as bs h t ih =>
  intro x hx
  rcases N9.mp hx with e | hx
  ·subst e; rw [<- h.1]; exact h.2.1
  ·exact ih x hx
inductive FF:Sl->D->Option D->Prop
 | k {r:Sl} {kvs:List (Key×D)} {d:D} {k:Key} (h:r.su=some kvs) (hk:d.wW=some k):FF r d (bC kvs k)
 | t {r:Sl} {kvs:List (List Key×D)} {ds:List D} {k:List Key} (h:r.wX=some kvs) (hk:D.keys ds=some k):FF r (.tup ds) (bC kvs k)
inductive Dv:Sl->D->D->Sl->Prop
 | k {r:Sl} {kvs:List (Key×D)} {d e:D} {k:Key} (h:r.su=some kvs) (hk:d.wW=some k) (hz:kvs.length<sizeLine):Dv r d e (r.qb (putD kvs k e))
 | t {r:Sl} {kvs:List (List Key×D)} {ds:List D} {e:D} {k:List Key} (h:r.wX=some kvs) (hk:D.keys ds=some k) (hz:kvs.length<sizeLine):Dv r (.tup ds) e (r.zT (putD kvs k e))
theorem Dv.owned' (h:Dv r d e r'):r'.owned=true:=by cases h with | k h _ _=>exact kM h | t h _ _=>exact sA h
theorem FF.get (h:FF r d o) (q:aU K fr H Hf r (.ref p)) (rv:Rep K Hf d v) (sb:aG Hf H):∃ u,nX K H p v u/\zV K Hf o u:=by
 cases h with
 | k h hk =>
  obtain ⟨xs,h1,_,h3⟩:=wY h q
  rw [iT hk rv]
  exact ⟨_,.inl ⟨xs,_,.inl h1,rfl,rfl⟩,h3.val _⟩
 | t h hk =>
  obtain ⟨xs,h1,_,h3⟩:=Du h q
  obtain ⟨a,ys,rfl,h4,h5⟩:=aH.mp rv
  have:=gM hk h5
  subst this
  exact ⟨_,.inr ⟨xs,_,a,.inl h1,λx hx=>au sb (h3.zW x hx),rfl,au sb h4,rfl⟩,h3.val _⟩
theorem lO.length (h:lO K Hf kvs xs):kvs.length=xs.length:=Pc h
theorem kG.length (h:kG K Hf kvs xs):kvs.length=xs.length:=Pc h
theorem Dv.put (h:Dv r d e r') (q:aU K fr H Hf r (.ref p)) (rv:Rep K Hf d v) (ry:Rep K Hf e y) (sb:aG Hf H) :
 ∃ o,CW K H p v y (upd H p o)/\aU K (λq=>q=p) (upd H p o) Hf r' (.ref p):=by
 cases h with
 | k h hk hz =>
  obtain ⟨xs,h1,h2,h3⟩:=wY h q
  rw [iT hk rv]
  exact ⟨_,.inl ⟨xs,_,h1,rfl,by rw [<- h3.length]; exact hz,rfl⟩,qe h q af h2 (h3.put _ ry)⟩
 | t h hk hz =>
  obtain ⟨xs,h1,h2,h3⟩:=Du h q
  obtain ⟨a,ys,rfl,h4,h5⟩:=aH.mp rv
  have:=gM hk h5
  subst this
  exact ⟨_,.inr ⟨xs,_,a,h1,λx hx=>au sb (h3.zW x hx),rfl,au sb h4,by rw [<- h3.length]; exact hz,rfl⟩,zU h q af h2 (h3.put _ h4 ry)⟩
end
section
variable {K:NR} {c:Ctx P w K mg base k N sc bk}
theorem Ctx.hu (c:Ctx P w K mg base k N sc bk):c.X.A.units+1<cLine:=Ky c.room
theorem uO {R:Sl->Prop} (h:R (.oK [])):cS c (.Dict [] [] pos) ρ R:=λσ H Hf Q S q =>
 bK yX λp hp=>q (.oK []) (.ref p) _ Hf h ⟨p,[],rfl,hp,af,S.sb.free hp,.nil⟩ (br.gh S.sb hp)
theorem Dw {R:Sl->Prop} (h:R (.oT [])):cS c (.Dict [] [] pos) ρ R:=λσ H Hf Q S q =>
 bK yY λp hp=>q (.oT []) (.ref p) _ Hf h ⟨p,[],rfl,hp,af,S.sb.free hp,.nil⟩ (br.gh S.sb hp)
theorem HB (hN:At N i x) (hi:At ρ i r) (h:aF c e ρ λdk=>aF c f ρ λdf=>∃ o,FF r dk o/\R (o.getD df)) (hd:(x == ("__debug__":Str))=false:=by decide) (hcd:(x == ("__classdict__":Str))=false:=by decide) (ho:r.FE=true:=by rfl)
 (m1:∀ env,attributeBase (.Name x px) "get" env (eval (.Name x px) env)=eval (.Name x px) env:=by intro _; walk_at "u")
 (m2:∀ env,((backTo cp (starEach [e,f] env)).all (λx=> !x.1) && (backToKw cp (keywordEach [] env)).all (λx=>x.1.isSome)
   && decide (([e,f]:List Expr).length+([]:List Keyword).length+(if ([]:List Keyword).isEmpty then 0 else 1)<30))=true:=by intro _; walk_at "u")
 (m3:(ap.endLine == cp.line)=true:=by walk_at "u") (m4:∀ env,backTo cp (starEach [e,f] env)=[(false,eval e env),(false,eval f env)]:=by intro _; walk_at "u") :
 aF c (.Call (.Attribute (.Name x px) "get" ap) [e,f] [] cp) ρ R:=λσ H Hf Q S q=>by
 obtain ⟨p,ep,rp⟩:=S.own hi.get (qa ho)
 have Hz:MS H p:=by
  cases r with
  | oK kvs=>obtain ⟨xs,h1,_⟩:=wY (r:=.oK kvs) rfl rp; exact .inl ⟨xs,.inl h1⟩
  | aK a kvs=>obtain ⟨xs,h1,_⟩:=wY (r:=.aK a kvs) rfl rp; exact .inl ⟨xs,.inl h1⟩
  | oT kvs=>obtain ⟨xs,h1,_⟩:=Du (r:=.oT kvs) rfl rp; exact .inr ⟨xs,.inl h1⟩
  | aT a kvs=>obtain ⟨xs,h1,_⟩:=Du (r:=.aT a kvs) rfl rp; exact .inr ⟨xs,.inl h1⟩
  | _=>cases ho
 refine bK (yZ c.hu (c.jo hN hd hcd) dz dz ⟨m1 _,m2 _,m3,m4 _⟩) ⟨_,ep,p,rfl,Hz,h σ H Hf _ S λdk v H1 aP h1 rv g1=>h1 σ H1 aP _ (S.cF g1) λdf y H2 cI ⟨o,lk,hR⟩ ry g2=>?_⟩
 obtain ⟨u,dg,rel⟩:=lk.get (rp.cF (g1.trans g2)) (Rep.mono g2.f _ rv) g2.b
 refine ⟨u,dg,?_⟩
 cases o with
 | none=>cases u with
  | none=>exact q df y H2 cI hR ry (g1.trans g2)
  | some _=>exact rel.elim
 | some d=>cases u with
  | none=>exact rel.elim
  | some v'=>exact q d v' H2 cI hR rel (g1.trans g2)
theorem HC (hN:At N i x) (hi:At ρ i r) (h:aF c e ρ λdv=>aF c b ρ λdk=>∃ r',Dv r dk dv r'/\Nx ρ i nx r') (ho:r.owned=true:=by rfl)
 (hs:∀ env,swapsWith e (some (.Subscript (.Name x px) b tp)) pos.line env=pure false:=by intro _; walk_at "u") (hd:(x == ("__debug__":Str))=false:=by decide) (hcd:(x == ("__classdict__":Str))=false:=by decide) :
 eG c (.Assign [.Subscript (.Name x px) b tp] e pos) ρ nx p:=λσ H Hf D S o=>by
 obtain ⟨p,ep,rp⟩:=S.own hi.get ho
 refine dO (C0 c.hu (c.jo hN hd hcd) dz dz (hs _)) (h σ H Hf _ S λdv v H1 aP h1 rv g1=>⟨_,ep,h1 σ H1 aP _ (S.cF g1) λdk y H2 cI ⟨r',pt,ρ',hs',hn⟩ ry g2=>?_⟩)
 have g:=g1.trans g2
 obtain ⟨ob,dp,rp'⟩:=pt.put (rp.cF g) ry (Rep.mono g2.f _ rv) g.b
 refine ⟨p,_,rfl,dp,o.nx _ _ cI ρ' ?_ hn⟩
 rw [hs'.eq]
 obtain ⟨_,_,e0,_,_,hf⟩:=(rp.cF g).p9 ho
 cases e0
 exact (S.cF g).upd hi.get ho ep (gK g.b hf) rp' pt.owned'
theorem uP (hN:At N i x) (hi:At ρ i r) (h:aF c b ρ λdk=>∃ m:Int,FF r dk (some (.int m))/\aF c e ρ (I1 λj=>∃ r',Dv r dk (.int (m+j)) r'/\Nx ρ i nx r')) (ho:r.owned=true:=by rfl)
 (ha:∀ ov iv new,augStore b ov iv new=(do holding [new,ov,iv] (setItem ov iv new); release [new,ov,iv] []; pure .next):=by intro _ _ _; walk_at "u") (hd:(x == ("__debug__":Str))=false:=by decide) (hcd:(x == ("__classdict__":Str))=false:=by decide) :
 eG c (.AugAssign (.Subscript (.Name x px) b tp) .Add e pos) ρ nx p:=λσ H Hf D S o=>by
 obtain ⟨p,ep,rp⟩:=S.own hi.get ho
 have hop:Kq c.X .Add (ue λi j=>.int (i+j)):=CH
 refine dO (C1 c.hu (c.jo hN hd hcd) dz dz hop ha) ⟨_,ep,h σ H Hf _ S λdk y H1 aP ⟨m,lk,h1⟩ ry g1=>?_⟩
 obtain ⟨u,dg,rel⟩:=lk.get (rp.cF g1) ry g1.b
 cases u with
 | none=>exact rel.elim
 | some u =>
  have eu:u=V.int m:=(av (K:=c.X.K) (H:=aP)).mp rel
  subst eu
  refine ⟨p,_,rfl,dg,h1 σ H1 aP _ (S.cF g1) λdj y2 H2 cI ⟨j,ej,r',pt,ρ',hs',hn⟩ ry2 g2=>?_⟩
  subst ej
  rw [av.mp ry2]
  have g:=g1.trans g2
  obtain ⟨ob,dp,rp'⟩:=pt.put (rp.cF g) (Rep.mono g2.f _ ry) (v:=y) (y:=.int (m+j)) (av.mpr rfl) g.b
  refine ⟨m,j,rfl,rfl,_,dp,o.nx _ _ cI ρ' ?_ hn⟩
  rw [hs'.eq]
  obtain ⟨_,_,e0,_,_,hf⟩:=(rp.cF g).p9 ho
  cases e0
  exact (S.cF g).upd hi.get ho ep (gK g.b hf) rp' pt.owned'
theorem FG (hN:At N i x) (hi:At ρ i r) (h:aF c e ρ λdk=>∃ o,FF r dk o/\T o.isSome) (ho:r.owned=true:=by rfl) (hm:behindInMarks CmpOp.In (.Name x px)=false:=by walk_at "u")
 (hd:(x == ("__debug__":Str))=false:=by decide) (hcd:(x == ("__classdict__":Str))=false:=by decide):iM c (.Compare e [.In] [.Name x px] pos) ρ T:=λσ H Hf Q S q=>by
 obtain ⟨p,ep,rp⟩:=S.own hi.get ho
 refine uA (Gs (GZ c.hu dz (c.jo hN hd hcd)) hm) (h σ H Hf _ S λdk y H1 aP ⟨o,lk,hT⟩ ry g=>⟨_,ep,?_⟩)
 obtain ⟨u,dg,rel⟩:=lk.get (rp.cF g) ry g.b
 refine ⟨p,u,rfl,dg,u.isSome,rfl,q _ H1 aP ?_ g⟩
 rw [<- rel.isSome]; exact hT
end
noncomputable abbrev fZ:Value->Shared->Prop:=λ_ _=>False
section
variable {prog:Program} {w:World} {A:Around} {R:Result->Shared->Prop} {s:Shared}
theorem oj {elt target iter:Expr} {ifs:List Expr} {scope:Scope} {pos:Pos} {it acc:Value} {env:Env} (I:Nat->Shared->Prop)
 (turn:∀ n s,I n s->wpAny (model prog w) A (pyNext it) (λr s₁=>match r with
   | none=>R (.ok .next) s₁
   | some v=>wpAny (model prog w) A (letOwnedTupleGo target it v) (λ_ s₁'=>wpAny (model prog w) A (assign target env v) (λ_ s₂ =>
    wpAny (model prog w) A (forIn ifs true λc r=>if r=true then do let ok <- isTrue c env (eval c env); pure (OQ ok) else pure (OQ r)) (λok s₃ =>
     if ok=true then wpAny (model prog w) A (eval elt env) (λx s₄ =>
      wpAny (model prog w) A (call (.builtin "list.append") [acc,x]) (λ_ s₅=>∃ m,m<n/\I m s₅) fZ s₄) fZ s₃
     else ∃ m,m<n/\I m s₃) fZ s₂) fZ s₁') fZ s₁) fZ s)
 (n:Nat) (h:I n s) :
 codeAny (model prog w) A (.compLoop (.ListComp elt [⟨target,iter,ifs,0⟩] scope pos) 0 it acc env) R s:=by
 refine codeAny_loop rfl I (λn s hI=>?_) n h
 show wpAny _ A ((compTurn (.ListComp elt [⟨target,iter,ifs,0⟩] scope pos) 0 it acc env).onRaise (λx=>do noteFrame x env; theTreesLotGoes x)) _ _ s
 refine wpAny_noted ?_
 rw [compTurn_list]
 refine NP (SO (NP (OI (turn n s hI) (λr s₁ h₁=>?_) λ_ _ f=>f.elim)))
 cases r with
 | none=>exact NS h₁
 | some v =>
  refine NP (OI h₁ (λ_ s₁' h₁'=>?_) λ_ _ f=>f.elim)
  refine NP (OI h₁' (λ_ s₂ h₂=>NP (OI h₂ (λok s₃ h₃=>?_) λ_ _ f=>f.elim)) λ_ _ f=>f.elim)
  cases ok with
  | false=>exact NS ⟨rfl,h₃⟩
  | true =>
   exact NP (NP (OI h₃ (λx s₄ h₄=>NP (OI h₄ (λ_ s₅ h₅=>NS (NS ⟨rfl,h₅⟩)) λ_ _ f=>f.elim)) λ_ _ f=>f.elim))
theorem jL:∀ (ifs:List Expr),Q false s ->
 wpAny (model prog w) A (forIn ifs false λc r=>if r=true then do let ok <- isTrue c env (eval c env); pure (OQ ok) else pure (OQ r)) Q E s
 | [],h=>NS h
 | t::ts,h=>by
  simp only [SD,ON,if_false]
  exact NP (NS (jL ts h))
theorem sC
 (h:wpAny (model prog w) A (isTrue t env (eval t env)) (λb s'=>if b=true then wpAny (model prog w) A (forIn ts true λc r=>if r=true then do let ok <- isTrue c env (eval c env); pure (OQ ok) else pure (OQ r)) Q E s' else Q false s') E s) :
 wpAny (model prog w) A (forIn (t::ts) true λc r=>if r=true then do let ok <- isTrue c env (eval c env); pure (OQ ok) else pure (OQ r)) Q E s:=by
 simp only [SD,if_true]
 refine NP (NP (OI h (λb s' hb=>NS ?_) λ_ _ x=>x))
 cases b with
 | true=>exact hb
 | false=>exact jL ts hb
end
noncomputable def bL (scope sc:Scope):Scope:={ scope with names:=scope.names.map λ(n,k)=>if (k == .free && sc.kind == .function && sc.names.lookup n == some .cell) then (n,.cell) else (n,k) }
theorem qf (h:env.scope=sc):relabel scope env=bL scope sc:=by
 subst h; rfl
noncomputable def Sl.tag (a:Addr):Sl->Sl
 | .ow ds=>.aw a ds | .oT ds=>.aT a ds | .oK ds=>.aK a ds
 | .aw b ds=>.aw b ds | .aT b ds=>.aT b ds | .aK b ds=>.aK b ds | .fo s=>.fo s
 | .un=>.un | .va d=>.va d
inductive sD (t:Str->Addr) (nm:List (Str×NameKind)) (N:List Str) (ρ:List Sl):List Str->List Sl->Prop
 | nil:sD t nm N ρ [] []
 | un {y:Str} {M:List Str} {r:List Sl}:sD t nm N ρ M r->sD t nm N ρ (y::M) (.un::r)
 | fr {y:Str} {i:Nat} {s s':Sl} {M:List Str} {r:List Sl} (hN:At N i y) (hs:At ρ i s) (hy:(y,P1)∈nm) (ht:s.tag (t y)=s'):sD t nm N ρ M r->sD t nm N ρ (y::M) (s'::r)
theorem sD.len (h:sD t nm N ρ M r):M.length=r.length:=by
 induction h with
 | nil=>rfl
 | un t ih=>simp [ih]
 | fr hN hs hy ht t ih=>simp [ih]
inductive zX:List Sl->List Sl->Prop
 | nil:zX [] []
 | un {r:Sl} {a b:List Sl}:zX a b->zX (.un::a) (r::b)
 | same {r:Sl} {a b:List Sl}:zX a b->zX (r::a) (r::b)
theorem zX.weak (h:zX a b):a.length=b.length/\∀ (i:Nat) (r:Sl),a[i]?=some r->r≠.un->b[i]?=some r:=by
 induction h with
 | nil=>exact ⟨rfl,λi r e=>by simp at e⟩
 | un t ih=>exact ⟨by simp [ih.1],λi r e hu=>by cases i with | zero=>simp at e; exact absurd e.symm hu | succ i=>simpa using ih.2 i r (by simpa using e) hu⟩
 | same t ih=>exact ⟨by simp [ih.1],λi r e hu=>by cases i with | zero=>simpa using e | succ i=>simpa using ih.2 i r (by simpa using e) hu⟩
section
variable {K:NR}
noncomputable def jQ (c:Ctx P w K mg base k N sc bk):List Expr->List Sl->(Bool->Prop)->Prop
 | [],_,T=>T true
 | t::ts,ρ,T=>iM c t ρ (lY (jQ c ts ρ T) (T false))
theorem mZ (hq:c.X.xe=fZ):∀ (ifs:List Expr) {H Hf:Hp} {s:Shared},bw c σ H Hf ρ->jQ c ifs ρ T->(∀ b H' ah,T b->br H Hf H' ah->Q b H')->Inv c.X aa σ H s ->
 wpAny (model c.X.prog c.X.w) c.X.A (forIn ifs true λt r=>if r=true then do let ok <- isTrue t c.X.env (eval t c.X.env); pure (OQ ok) else pure (OQ r)) (TP c.X aa σ Q) fZ s
 | [],H,Hf,s,S,h,q,I=>wpAny_tests_nil ⟨H,I,q true H Hf h (.refl S.sb)⟩
 | t::ts,H,Hf,s,S,h,q,I=>by
  have h0:=h σ H Hf (λb H'=>∃ ah,lY (jQ c ts ρ T) (T false) b/\br H Hf H' ah) S (λb H' ah hb g=>⟨ah,hb,g⟩) aa s I
  rw [hq] at h0
  refine sC (bD h0 λb s' ⟨H',I',ah,hb,g⟩=>?_)
  cases b with
  | true=>exact mZ hq ts (S.cF g) (hb.t rfl) (λb H2 cI hT g2=>q b H2 cI hT (g.trans g2)) I'
  | false=>exact ⟨H',I',q false H' ah (hb.f rfl) g⟩
end
theorem kN:∀ (names:List (Str×NameKind)) (cs:List (Str×Addr)),(∀ x∈names,x.2=.free->∃ a,env.cells.lookup x.1=some a) ->
 ∃ cl,(forIn names cs (λ(x:Str×NameKind) (r:List (Str×Addr))=>(if (x.2 == P1)=true then do let a <- cellOf env x.1; pure (OQ ((x.1,a)::r)) else pure (OQ r):Sem (ForInStep (List (Str×Addr))))))=(pure cl:Sem (List (Str×Addr))) /\
  (∀ y a,cl.lookup y=some a->cs.lookup y=some a\/env.cells.lookup y=some a/\(y,P1)∈names)/\(∀ y a,(y,P1)∈names\/(∃ b,cs.lookup y=some b/\env.cells.lookup y=some b)->env.cells.lookup y=some a->cl.lookup y=some a)
 | [],cs,_=>⟨cs,rfl,λy a e=>.inl e,λy a h e=>by
  rcases h with h | ⟨b,h1,h2⟩
  ·cases h
  ·rw [e] at h2; cases h2; exact h1⟩
 | (n,kd)::r,cs,h=>by
  by_cases hk:kd=.free
  ·subst hk
   obtain ⟨a,ea⟩:=h (n,.free) N2 rfl
   obtain ⟨cl,e1,e2,e3⟩:=kN r ((n,a)::cs) λx hx=>h x (N6 _ hx)
   refine ⟨cl,?_,λy b e=>?_,λy b hy e=>?_⟩
   ·rw [SD]
    simp only [beq_self_eq_true,if_true,cellOf,ea,pure_bind]
    exact e1
   ·rcases e2 y b e with z | ⟨z1,z2⟩
    ·rw [Ug] at z
     cases q:(y == n) with
     | true =>
      rw [q] at z; cases z
      have:y=n:=by simpa using q
      subst this
      exact .inr ⟨ea,N2⟩
     | false=>rw [q] at z; exact .inl z
    ·exact .inr ⟨z1,N6 _ z2⟩
   ·refine e3 y b ?_ e
    rcases hy with hy | ⟨b',h1,h2⟩
    ·rcases N9.mp hy with z | z
     ·cases z; exact .inr ⟨a,by simp,ea⟩
     ·exact .inl z
    ·refine .inr ⟨b',?_,h2⟩
     rw [Ug]
     cases q:(y == n) with
     | true =>
      have:y=n:=by simpa using q
      subst this
      rw [ea] at h2; exact h2
     | false=>exact h1
  ·have hb:(kd == P1)=false:=by simpa using hk
   obtain ⟨cl,e1,e2,e3⟩:=kN r cs λx hx=>h x (N6 _ hx)
   refine ⟨cl,?_,λy b e=>?_,λy b hy e=>?_⟩
   ·rw [SD]
    simp only [hb,ON,if_false,pure_bind]
    exact e1
   ·rcases e2 y b e with z | ⟨z1,z2⟩
    ·exact .inl z
    ·exact .inr ⟨z1,N6 _ z2⟩
   ·refine e3 y b ?_ e
    rcases hy with hy | hy
    ·rcases N9.mp hy with z | z
     ·cases z; exact absurd rfl hk
     ·exact .inl z
    ·exact .inr hy
theorem Dy (h:∀ x∈scope.names,x.2=.free->∃ a,env.cells.lookup x.1=some a) :
 ∃ cl,closureFor scope env=pure cl/\(∀ y a,cl.lookup y=some a->env.cells.lookup y=some a/\(y,P1)∈scope.names)/\(∀ y a,(y,P1)∈scope.names->env.cells.lookup y=some a->cl.lookup y=some a):=by
 obtain ⟨cl,e1,e2,e3⟩:=kN scope.names [] h
 refine ⟨cl,?_,λy a e=>?_,λy a hy e=>e3 y a (.inl hy) e⟩
 ·unfold closureFor
  have e1':=congrArg (· >>= λcs=>(pure cs:Sem _)) e1
  simp only [pure_bind] at e1'
  exact e1'
 ·rcases e2 y a e with z | z
  ·simp at z
  ·exact z
section
variable {P:Program} {w:World} {K:NR} {mg:Str->Option Value} {base:Heap} {k:Nat} {N:List Str} {sc:Scope} {bk:Bool} {c:Ctx P w K mg base k N sc bk} {ρ:List Sl} {pos:Pos}
def uQ (c:Ctx P w K mg base k N sc bk) (tg:Expr) (ifs:List Expr) (elt:Expr) (ρ0:List Sl) (d:D) (o:Option D):Prop :=
 lP c tg d ρ0 λρ1=>zX ρ0 ρ1/\jQ c ifs ρ1 (lY (aF c elt ρ1 λe=>o=some e) (o=none))
theorem iU {nm:List (Str×NameKind)}:∀ {y:Str} {kd:NameKind},(nm.map λ(x:Str×NameKind)=>match x with | (n,k)=>(if (k == .free && sc.kind == .function && sc.names.lookup n == some .cell)=true then (n,QC) else (n,k))).lookup y=some kd->∃ k0,(y,k0)∈nm/\(kd=k0\/kd=.cell/\k0=.free):=by
 induction nm with
 | nil=>intro y kd h; simp at h
 | cons x r ih =>
  obtain ⟨n,k0⟩:=x
  intro y kd h
  rw [NW,Ug] at h
  by_cases e:(k0 == .free && sc.kind == .function && sc.names.lookup n == some .cell)=true
  ·simp only [e,if_true] at h
   cases q:(y == n) with
   | true =>
    rw [q] at h; cases h
    have:y=n:=by simpa using q
    subst this
    have hf:k0=.free:=by simp only [Rq,beq_iff_eq] at e; exact e.1.1
    exact ⟨k0,N2,.inr ⟨rfl,hf⟩⟩
   | false=>rw [q] at h; obtain ⟨k1,h1,h2⟩:=ih h; exact ⟨k1,N6 _ h1,h2⟩
  ·simp only [e,ON,if_false] at h
   cases q:(y == n) with
   | true =>
    rw [q] at h; cases h
    have:y=n:=by simpa using q
    subst this
    exact ⟨k0,N2,.inl rfl⟩
   | false=>rw [q] at h; obtain ⟨k1,h1,h2⟩:=ih h; exact ⟨k1,N6 _ h1,h2⟩
theorem sD.start {σ:L2.St} (h:sD t nm N ρ M r) (hσ:∀ (i:Nat) (s:Sl),ρ[i]?=some s->s≠.un->∃ v,σ[i]?=some (some v)) :
 ∃ σ0:L2.St,σ0.length=r.length/\∀ (j:Nat) (s:Sl),r[j]?=some s->(s=.un/\σ0[j]?=some none)\/∃ (i:Nat) (y:Str) (v:V) (s0:Sl),M[j]?=some y/\(y,P1)∈nm/\N[i]?=some y/\ρ[i]?=some s0/\s=s0.tag (t y)/\s0≠.un/\σ[i]?=some (some v)/\σ0[j]?=some (some v):=by
 induction h with
 | nil=>exact ⟨[],rfl,λj s e=>by simp at e⟩
 | un t ih =>
  obtain ⟨σ0,hl,h0⟩:=ih
  refine ⟨none::σ0,by simp [hl],λj s e=>?_⟩
  cases j with
  | zero=>simp at e; exact .inl ⟨e.symm,by simp⟩
  | succ j =>
   rcases h0 j s (by simpa using e) with ⟨h1,h2⟩ | ⟨i,y,v,s0,h1,h2,h3,h4,h5,h6,h7,h8⟩
   ·exact .inl ⟨h1,by simpa using h2⟩
   ·exact .inr ⟨i,y,v,s0,by simpa using h1,h2,h3,h4,h5,h6,h7,by simpa using h8⟩
 | @fr y i s' s'' M r hN hs hy ht t ih =>
  obtain ⟨σ0,hl,h0⟩:=ih
  by_cases hu:s'=.un
  ·refine ⟨none::σ0,by simp [hl],λj s e=>?_⟩
   cases j with
   | zero=>simp at e; subst hu; exact .inl ⟨e.symm.trans ht.symm,by simp⟩
   | succ j =>
    rcases h0 j s (by simpa using e) with ⟨h1,h2⟩ | ⟨i,y,v,s0,h1,h2,h3,h4,h5,h6,h7,h8⟩
    ·exact .inl ⟨h1,by simpa using h2⟩
    ·exact .inr ⟨i,y,v,s0,by simpa using h1,h2,h3,h4,h5,h6,h7,by simpa using h8⟩
  ·obtain ⟨v,ev⟩:=hσ i s' hs.get hu
   refine ⟨some v::σ0,by simp [hl],λj s e=>?_⟩
   cases j with
   | zero=>simp at e; subst e; exact .inr ⟨i,y,v,s',by simp,hy,hN.get,hs.get,ht.symm,hu,ev,by simp⟩
   | succ j =>
    rcases h0 j s (by simpa using e) with ⟨h1,h2⟩ | ⟨i,y,v,s0,h1,h2,h3,h4,h5,h6,h7,h8⟩
    ·exact .inl ⟨h1,by simpa using h2⟩
    ·exact .inr ⟨i,y,v,s0,by simpa using h1,h2,h3,h4,h5,h6,h7,by simpa using h8⟩
noncomputable def Sl.adr:Sl->Option Addr | .aw a _=>some a | .aT a _=>some a | .aK a _=>some a | _=>none
theorem m5 {s:Sl}:(s.tag a).owned=s.owned:=by cases s <;> rfl
theorem Dz {s:Sl} (h:s.owned=true):∃ b,(s.tag a).adr=some b:=by cases s <;> first | exact ⟨_,rfl⟩ | cases h
theorem uR (hv:s.owned=true->v=.ref a) (h:aU K fr H Hf s v):aU K fr H Hf (s.tag a) v:=by
 cases s with
 | ow ds=>obtain ⟨p,xs,e,f,r⟩:=h; exact ⟨p,xs,e,⟨f,by have:=hv rfl; rw [e] at this; cases this; rfl⟩,r⟩
 | oT ds=>obtain ⟨p,xs,e,f,r⟩:=h; exact ⟨p,xs,e,⟨f,by have:=hv rfl; rw [e] at this; cases this; rfl⟩,r⟩
 | oK ds=>obtain ⟨p,xs,e,f,r⟩:=h; exact ⟨p,xs,e,⟨f,by have:=hv rfl; rw [e] at this; cases this; rfl⟩,r⟩
 | _=>exact h
theorem uS (hb:s.adr=some b) (h:aU K fr H Hf s (.ref p)):p=b:=by
 cases s with
 | aw a ds=>cases hb; obtain ⟨q,xs,e,f,r⟩:=h; cases e; exact f.2
 | aT a ds=>cases hb; obtain ⟨q,xs,e,f,r⟩:=h; cases e; exact f.2
 | aK a ds=>cases hb; obtain ⟨q,xs,e,f,r⟩:=h; cases e; exact f.2
 | _=>cases hb
theorem cQ.apart (S:cQ K H₀ dM σ H Hf ρ) (h0:H₀ a=none) (hf:Hf a=none) (nf:¬ za H a) (ha:∀ (i:Nat) (r:Sl),ρ[i]?=some r->r.owned=true->σ[i]?≠some (some (.ref a))):cQ K H₀ dM σ (L2.upd H a o) Hf ρ :=
 ⟨⟨λb u e=>by rw [L2.aj (aB e h0)]; exact S.bas.s b u e,S.bas.f,λb u e=>by rw [L2.aj (aB e hf)]; exact S.bas.b b u e,S.bas.n⟩,S.len,λi r hi hu=>by
   obtain ⟨v,e,q⟩:=S.at_ i r hi hu
   refine ⟨v,e,?_⟩
   have hg:br (del H a) Hf (L2.upd H a o) Hf:=gK S.bas.b hf
   exact (q.K2 (p:=a) nf λow z=>by subst z; exact ha i r hi ow e).cF hg,S.sep⟩
theorem j6 (g:br H1 aP H' ah) (h1:H1 a=none) (hf:ah a=none):br H1 aP (upd H' a o) ah :=
 ⟨λb u e=>by rw [aj (aB e h1)]; exact g.s b u e,g.f,λb u e=>by rw [aj (aB e hf)]; exact g.b b u e,g.n⟩
section
variable {K:NR} {H Hf H' ah:Hp}
noncomputable abbrev Fp:=List (Addr×List V)
mutual
theorem aI.fz:∀ (s:Sh) {v:V} {fp:Fp},aI K H Hf s v fp->∀ a∈fp,H a.1=some (pl a.1 a.2)/\Hf a.1=none
 | .v d,_,_,h=>by simp only [aI] at h; obtain ⟨_,rfl⟩:=h; intro a ha; cases ha
 | .l ds,_,_,h=>by
  simp only [aI] at h
  obtain ⟨p,xs,e,h1,h2,h3,rfl⟩:=h
  intro a ha
  obtain rfl:=Oa.mp ha
  exact ⟨h1,h2⟩
 | .la p ds,_,_,h=>by
  simp only [aI] at h
  obtain ⟨xs,e,h1,h2,h3,rfl⟩:=h
  intro a ha
  obtain rfl:=Oa.mp ha
  exact ⟨h1,h2⟩
 | .t ss,_,_,h=>by
  simp only [aI] at h
  obtain ⟨a,xs,e,h1,h2⟩:=h
  exact ai.fz ss h2
 | .ls ss,_,_,h=>by
  simp only [aI] at h
  obtain ⟨p,xs,fq,e,h1,h2,h3,rfl⟩:=h
  intro a ha
  rcases N9.mp ha with rfl | ha
  ·exact ⟨h1,h2⟩
  ·exact ai.fz ss h3 a ha
theorem ai.fz:∀ (ss:List Sh) {xs:List V} {fp:Fp},ai K H Hf ss xs fp->∀ a∈fp,H a.1=some (pl a.1 a.2)/\Hf a.1=none
 | [],_,_,h=>by simp only [ai] at h; obtain ⟨_,rfl⟩:=h; intro a ha; cases ha
 | s::ss,_,_,h=>by
  simp only [ai] at h
  obtain ⟨x,r,f1,f2,e,h1,h2,rfl⟩:=h
  intro a ha
  rcases Om.mp ha with ha | ha
  ·exact aI.fz s h1 a ha
  ·exact ai.fz ss h2 a ha
end
end
noncomputable def Sl.sh:Sl->Option Sh | .va d=>some (.v d) | .fo s=>some s | _=>none
theorem zY {H H' ah:Hp} (e:r.sh=some s) (h:aU K (λp=>H p=none) H' ah r v):∃ fp,aI K H' ah s v fp/\(fp.map (·.1)).Nodup/\∀ a∈fp,H a.1=none:=by
 cases r with
 | va d=>cases e; exact ⟨[],by simp only [aI]; exact ⟨h,trivial⟩,by simp,by intro a ha; cases ha⟩
 | fo s=>cases e; exact h
 | _=>cases e
theorem ai.snoc (h:aI K H Hf s v fp):∀ {ss:List Sh} {vs:List V} {fq:Fp},ai K H Hf ss vs fq->ai K H Hf (ss++[s]) (vs++[v]) (fq++fp)
 | [],_,_,q=>by
  simp only [ai] at q
  obtain ⟨rfl,rfl⟩:=q
  simp only [PN,ai]
  exact ⟨v,[],fp,[],rfl,h,⟨rfl,rfl⟩,(OP _).symm⟩
 | s'::ss,_,_,q=>by
  simp only [ai] at q
  obtain ⟨x,r,f1,f2,rfl,h1,h2,rfl⟩:=q
  have:=ai.snoc h h2
  simp only [Ph,ai]
  exact ⟨x,r++[v],f1,f2++fp,rfl,h1,this,Oh _ _ _⟩
def uT (c:Ctx P w K mg base k N sc bk) (tg:Expr) (ifs:List Expr) (elt:Expr) (ρ0:List Sl) (d:D) (o:Option Sh):Prop :=
 lP c tg d ρ0 λρ1=>zX ρ0 ρ1/\jQ c ifs ρ1 (lY (cS c elt ρ1 λr=>∃ z,o=some z/\r.sh=some z) (o=none))
abbrev JW (scope sc:Scope) (N':List Str):Prop:=scope.kind=.function/\(∀ x∈scope.names,x.2≠.cell)/\(∀ x∈scope.names,x.2=.local->scope.names.lookup x.1=some .local)/\(∀ x∈scope.names,x.2=.free->sc.names.lookup x.1=some .cell)/\N'.Nodup/\(∀ x∈N',(bL scope sc).names.lookup x=some .local\/(bL scope sc).names.lookup x=some .cell)/\∀ x∈scope.names,x.2=.free->(bL scope sc).names.lookup x.1=some .cell
theorem uU {elt tg iter:Expr} {ifs:List Expr} {scope:Scope} {N':List Str} {ρ0:(Str->Addr)->List Sl} {R:List Sh->Prop} (hq:c.X.xe=fZ) (hfr:∀ t,sD t scope.names N ρ N' (ρ0 t))
 (h:zJ c tg iter ρ λds=>Sd (ds.length<=sizeLine) (∃ os:List (Option Sh),os.length=ds.length /\
   (∀ c':Ctx P w K mg base k N' (bL scope sc) true,c'.X.xe=fZ->∀ (t:Str->Addr) (i:Nat) (d:D) (o:Option Sh),ds[i]?=some d->os[i]?=some o->uT c' tg ifs elt (ρ0 t) d o)/\R (os.filterMap id)))
 (hcp:JW scope sc N':=by decide +kernel)
 (hs:∀ env v,foldedSetIterable iter env v=pure v:=by intro _ _; walk_at "u")
 {σ:L2.St} {H Hf:Hp} (S:bw c σ H Hf ρ) {aa:List (Addr×Obj)} {s:Shared} (I:Inv c.X aa σ H s) {use:Option (Value->Sem Unit)} {QQ:Value->Shared->Prop}
 (kont:∀ (s':Shared) (H' ah:Hp) (a C:Addr) (ss:List Sh) (vs:List V) (fq:Fp),R ss->(∃ m,s'.heap.Ns C m)->C∉c.X.fs->eO c.X aa H' C->H a=none->H' a=some (.lst vs)->ah a=none->ai c.X.K H' ah ss vs fq->(fq.map (·.1)).Nodup->(∀ b∈fq,H b.1=none)->br H Hf H' ah->(∀ h5,Pb C s'.heap h5->Inv c.X aa σ H' { s' with heap:=h5 })->compPost (model c.X.prog c.X.w) c.X.A fZ use QQ (.ref a) C (.ok .next) s') :
 wpAny (model c.X.prog c.X.w) c.X.A (comprehension (.ListComp elt [⟨tg,iter,ifs,0⟩] scope pos) scope c.X.env (firstIterPos [⟨tg,iter,ifs,0⟩] pos) (newList []) (firstAsync [⟨tg,iter,ifs,0⟩]) (firstIter [⟨tg,iter,ifs,0⟩] c.X.env) use) QQ fZ s:=by
 obtain ⟨hk,hnc,hnl,hfree,hnd,hv,hvf⟩:=hcp
 have hI:=h σ H Hf (λJ H1=>∃ ds aP,Sd (ds.length<=sizeLine) (∃ os:List (Option Sh),os.length=ds.length /\
  (∀ c':Ctx P w K mg base k N' (bL scope sc) true,c'.X.xe=fZ->∀ (t:Str->Addr) (i:Nat) (d:D) (o:Option Sh),ds[i]?=some d->os[i]?=some o->uT c' tg ifs elt (ρ0 t) d o)/\R (os.filterMap id))/\br H Hf H1 aP/\jn c.X.K J ds aP) S (λds J H' ah hR g io=>⟨ds,ah,hR,g,io⟩) aa s I
 rw [hq] at hI
 have hcells:∀ x∈scope.names,x.2=.free->∃ a,c.X.env.cells.lookup x.1=some a:=λx hx hf=>I.ok.has x.1 (.inl (by unfold Ox; rw [c.esc]; exact hfree x hx hf))
 obtain ⟨cl,hclos,yu,hcl2⟩:=Dy hcells
 refine wpAny_comprehension_free (cl:=cl) (use:=use) rfl (hs _) hclos hk hnl ?_
 refine bD (show wpAny _ _ (eval iter c.X.env) _ _ _ from hI) λv s1 h1=>bD h1 λitv s2 hh=>z5 hh λit fp tn J H1 hh=>w6 hh λe0 I1 Tn t0 hfp hh=>z2 hh λds aP hh=>w3 hh λhz g io=>?_
 obtain ⟨hz,os,hh⟩:=hz
 refine w3 hh λhol hb hR=>?_
 subst e0
 have hcell':∀ y∈scope.names,y.2≠.cell:=hnc
 refine O0 (wpAny_newFunctionEnv hcell' (by intro y hy; simp at hy) (λh4 hns hsb=>?_) hk)
 dsimp only at hns hsb |-
 generalize hDe:s2.heap.objs.size=Da at *
 have k3:∀ b u,s2.heap.get? b=some u->(s2.heap.push { cls:=.type "list",dict:=none,data:=.seq ([]:List Value).toArray }).get? b=some u:=λb u e=>NY _ e
 generalize hH3:s2.heap.push { cls:=.type "list",dict:=none,data:=.seq ([]:List Value).toArray }=h3 at *
 have hCe:h3.objs.size=Da+1:=by rw [<- hH3,Qd,hDe]
 have hgD:h3.get? Da=some { cls:=.type "list",dict:=none,data:=.seq ([]:List Value).toArray }:=by rw [<- hH3,<- hDe]; exact Ob _ rfl
 have t6:H1 Da=none:=by rw [<- hDe]; exact I1.hok.fresh (NT _)
 have I3:Inv c.X aa σ (upd H1 Da (.lst [])) { s2 with heap:=h3,toks:=s2.toks }:=I1.laid (a:=Da) (o:=.lst []) (t':=s2.toks) k3 (by rw [hDe]; exact NT _) ⟨OB _,[],0,.nil,hgD⟩
 have fpne:∀ b∈fp,b≠Da:=λb hb z=>by
  obtain ⟨o,e,_⟩:=Tn.obj _ _ t0 b hb
  subst z
  exact absurd (N1 e) (by rw [hDe]; exact Pw _)
 have fplt:∀ b∈fp,b<h3.objs.size:=λb hb=>by
  obtain ⟨o,e,_⟩:=Tn.obj _ _ t0 b hb
  exact N1 (k3 b o e)
 let s3:Shared:={ s2 with heap:=h3,toks:=s2.toks }
 let H2:Hp:=upd H1 Da (.lst [])
 let X':Cx:={ prog:=c.X.prog,w:=c.X.w,K:=c.X.K,mg:=c.X.mg,base:=c.X.base,A:=c.X.A,N:=N',s₀:=s3,H₀:=H2,env:=compEnvC scope cl h3.objs.size c.X.env,outer:=c.X.stack,stack:=c.X.stack,ex:=fp,fn:=λ_=>false,calm:=true,pn:=[],xe:=fZ }
 have S1:=S.cF g
 have S2:bw c σ H2 aP ρ:=S1.cF (br.gh g.b t6)
 obtain ⟨t,ht⟩:∃ t:Str->Addr,∀ (i:Nat) (y:Str) (p:Addr),N[i]?=some y->σ[i]?=some (some (.ref p))->t y=p:=by
  classical
  refine ⟨λy=>if h:∃ (i:Nat) (p:Addr),N[i]?=some y/\σ[i]?=some (some (.ref p)) then h.choose_spec.choose else 0,λi y p e1 e2=>?_⟩
  have h:∃ (i:Nat) (p:Addr),N[i]?=some y/\σ[i]?=some (some (.ref p)):=⟨i,p,e1,e2⟩
  show (if h:_ then _ else _)=p
  rw [dif_pos h]
  obtain ⟨e3,e4⟩:=h.choose_spec.choose_spec
  have hi:h.choose<N.length:=(N4.mp e3).1
  have e5:h.choose=i:=(List.getElem?_inj hi c.nd).mp (e3.trans e1.symm)
  have e6:=(congrArg (λz=>σ[z]?) e5).symm.trans e4
  rw [show σ[i]?=some (some (.ref p)) from e2] at e6
  have e4:=e6
  exact (V.ref.inj (Pr (Pr e4))).symm
 have hfr:=hfr t
 generalize hρ:ρ0 t=ρt at hfr
 obtain ⟨σ0,hσl,hσ0⟩:=hfr.start (σ:=σ) λi s e hu=>let ⟨v,e2,_⟩:=S2.at_ i s e hu; ⟨v,e2⟩
 have k4:∀ b u,h3.get? b=some u->h4.get? b=some u:=λb u e=>hsb.extBut b u (Ou (N1 e)) (NY _ e)
 have hsc:X'.env.scope=bL scope sc:=qf c.esc
 have okX:X'.Ok:={
  mod:=I3.ok.mod
  kind:=hk
  glob:=I3.ok.glob
  blt:=I3.ok.blt
  above:=NT _
  inj:=λx y a e1 e2=>I3.ok.inj x y a (yu x a e1).1 (yu y a e2).1
  has:=λx hx=>by
   have key:(x,P1)∈scope.names:=by
    have hx':(bL scope sc).names.lookup x=some .cell\/(bL scope sc).names.lookup x=some .free:=by
     unfold Ox at hx; rw [hsc] at hx; exact hx
    rcases hx' with hx' | hx'
    ·obtain ⟨k0,h1,h2⟩:=iU hx'
     rcases h2 with h2 | ⟨_,h2⟩
     ·subst h2; exact absurd rfl (hnc _ h1)
     ·subst h2; exact h1
    ·obtain ⟨k0,h1,h2⟩:=iU hx'
     rcases h2 with h2 | ⟨h2,_⟩
     ·subst h2; exact h1
     ·cases h2
   obtain ⟨a,ea⟩:=hcells _ key rfl
   exact ⟨a,hcl2 x a key ea⟩
  cab:=λx a hf=>by cases hf
  hd:=λ_=>I3.ok.hd c.calm
  frames:=I3.ok.frames
  stk:=.inl rfl
  exf:=λb hb=>⟨Ou (fplt b hb),λx a ea=>(hfp b hb).2.2.2.2.1 x a (yu x a ea).1⟩
  bs:=I3.bs
  bsz:=N3 I3.ok.bsz I3.sz
  noex:=λb o e hb=>by
   rcases (hfp b hb).2.2.2.1 with z | z
   ·exact I3.ok.noex b o e z
   ·exact absurd (OJ (N1 e) (N3 I3.ok.bsz z)) (Pw _)
  exfs:=λb hb m=>by
   rcases N9.mp (I3.rP b m) with z | z
   ·exact (hfp b hb).2.1 z
   ·exact (hfp b hb).2.2.1 z
  ji:=I3.stack
  frf:=I3.t8 }
 have I4:Inv X' [] σ0 H2 { s2 with heap:=h4,toks:=s2.toks+([]:List (Str×Value)).length }:={
  ok:=okX
  os:=rfl
  bare:=I3.bare
  base:=Un.kept k4
  loc:=⟨_,hns,λj y v hy hv' _=>by
   have hj:j<ρt.length:=by
    have:=(N4.mp hv').1
    rw [hσl] at this; exact this
   rcases hσ0 j ρt[j] (Od hj) with ⟨_,z⟩ | hh
   ·rw [z] at hv'; cases hv'
   ·refine z4 hh λi y' v' s0 hh=>w8 hh λh1 h2 h3' h4' hs5 hs6 h5 h6=>?_
    rw [h6] at hv'; cases hv'
    have hy':N'[j]?=some y:=hy
    rw [h1] at hy'; cases hy'
    obtain ⟨m0,hm0,hl⟩:=I3.loc
    have hkc:c.X.env.kindOf y=some .cell:=by unfold Ox; rw [c.esc]; exact hfree _ h2 rfl
    obtain ⟨u,r,lk⟩:=hl i y v (by rw [c.eN]; exact h3') h5 (.inr (.inl hkc))
    refine ⟨u,r,?_⟩
    rcases lk with ⟨q1,_⟩ | ⟨_,a,e1,e2⟩
    ·rw [hkc] at q1; cases q1
    ·refine .inr ⟨.inl ?_,a,hcl2 _ a h2 e1,?_⟩
     ·show List.lookup y X'.env.scope.names=_
      rw [hsc]; exact hvf _ h2 rfl
     ·obtain ⟨oc,e3,e4⟩:=e2
      exact ⟨oc,k4 _ _ e3,e4⟩⟩
  cell:=λx a ea=>by
   obtain ⟨v',oc,e3,e4⟩:=I3.cell x a (yu x a ea).1
   exact ⟨v',oc,k4 _ _ e3,e4⟩
  free:=I3.hok.fresh (NT _)
  freeC:=λx a ea=>I3.freeC x a (yu x a ea).1
  pin:=λq hq'=>by simp at hq'; cases hq'
  hok:=I3.hok.kept k4
  len:=by rw [hσl]; exact hfr.len.symm }
 let c':Ctx P w K mg base k N' (bL scope sc) true :=
  { X:=X',eP:=c.eP,ew:=c.ew,eK:=c.eK,emg:=c.emg,eb:=c.eb,eN:=rfl,esc:=hsc,calm:=rfl,top:=λz=>(by cases z),cb:=λz=>(by cases z),fn:=λx hx=>.inr (by rw [hsc]; exact hx.resolve_left (λz=>by cases z)),room:=c.room,nd:=hnd,vis:=hv,
    Hf:=c.Hf,B:=c.B,RX:=λ_ _=>False,exc:=λ_ _ _ _ _ _ _ _ _ _ _ _ h _ _=>h.elim,RM:=λ_ _=>False,mde:=λ_ _ _ _ _ _ _ _ _ _ _ _ h _=>h.elim }
 have hN0:N'.length=ρt.length:=hfr.len
 have S4:bw c' σ0 H2 aP ρt:=by
  refine ⟨S2.bas,hσl,λj r hj hu=>?_,λj j' r r' p hne e1 e2 o1 o2 f1 f2=>?_⟩
  ·rcases hσ0 j r hj with ⟨z,_⟩ | hh
   ·exact absurd z hu
   ·refine z4 hh λi y v s0 hh=>w8 hh λh1 h2 h3' h4' hs5 hs6 h5 h6=>?_
    obtain ⟨v',e3,q3⟩:=S2.at_ i s0 h4' hs6
    rw [h5] at e3; cases e3
    subst hs5
    exact ⟨v,h6,uR (λow=>by
     obtain ⟨p,_,rfl,_⟩:=q3.p9 ow
     rw [ht i y p h3' h5]) q3⟩
  ·have u1:r≠.un:=by rintro rfl; cases o1
   have u2:r'≠.un:=by rintro rfl; cases o2
   rcases hσ0 j r e1 with ⟨z,_⟩ | hh
   ·exact u1 z
   rcases hσ0 j' r' e2 with ⟨z,_⟩ | hh'
   ·exact u2 z
   refine z4 hh λi y v s0 hh=>w8 hh λh1 h2 h3' h4' hs5 hs6 h5 h6=>z4 hh' λi' y' v' s0' hh'=>w8 hh' λh1' h2' h3'' h4'' hs5' hs6' h5' h6'=>?_
   rw [f1] at h6; cases h6
   rw [f2] at h6'; cases h6'
   have hii:i≠i':=λz=>by
    subst z
    rw [h3'] at h3''; cases h3''
    have a1:j<N'.length:=(N4.mp h1).1
    exact hne ((List.getElem?_inj a1 hnd).mp (h1.trans h1'.symm))
   subst hs5; subst hs5'
   rw [m5] at o1 o2
   exact S2.sep i i' s0 s0' p hii h4' h4'' o1 o2 h5 h5'
 have howA:∀ (j:Nat) (r:Sl),ρt[j]?=some r->r.owned=true->∃ b,r.adr=some b/\b≠Da:=λj r hj ho=>by
  rcases hσ0 j r hj with ⟨z,_⟩ | hh
  ·subst z; cases ho
  ·refine z4 hh λi y v s0 hh=>w8 hh λh1 h2 h3' h4' hs5 hs6 h5 h6=>?_
   subst hs5
   rw [m5] at ho
   obtain ⟨b,eb⟩:=Dz (a:=t y) ho
   refine ⟨b,eb,λz=>?_⟩
   obtain ⟨v',e3,q3⟩:=S1.at_ i s0 h4' hs6
   obtain ⟨p,o,e4,_,e5,_⟩:=q3.p9 ho
   subst e4
   have q4:=uR (a:=t y) (λ_=>by rw [ht i y p h3' e3]) q3
   have:=uS eb q4
   rw [this,z,t6] at e5; cases e5
 have hB0:c.B Da=none:=S1.bas.s.free t6
 have fps:∀ {H':Hp},(∀ b∈fp,H' b=none)->∀ b∈fp,eO X' [] H' b:=λhn b hb =>
  ⟨hn b hb,Ou (fplt b hb),okX.exfs b hb,.inl hb,λx a ea=>(hfp b hb).2.2.2.2.1 x a (yu x a ea).1,λp hp=>by cases hp⟩
 have fin:∀ (s':Shared) (σ':L2.St) (H' ah:Hp) (vs:List V) (fq:Fp),Inv X' [] σ' H' s'->br H1 aP H' ah->H' Da=some (.lst vs)->ah Da=none->ai c.X.K H' ah (os.filterMap id) vs fq->(fq.map (·.1)).Nodup->(∀ b∈fq,H1 b.1=none) ->
  compPost (model c.X.prog c.X.w) c.X.A fZ use QQ (.ref Da) h3.objs.size (.ok .next) s':=λs' σ' H' ah vs fq I' g' hD hfD hr hnd2 hfr2=>by
  obtain ⟨m,hm,_⟩:=I'.loc
  have hCX:h3.objs.size∉c.X.fs:=I3.J4 (NT _)
  have hCf:eO c.X aa H' h3.objs.size:=by
   refine ⟨I'.free,λz=>?_,hCX,.inr I3.sz,λx a ea z=>?_,λp hp z=>?_⟩
   ·obtain ⟨m0,hm0,_⟩:=I3.loc
    obtain ⟨o,_,_,e,_⟩:=hm0
    exact absurd (N1 e) (by rw [<- z]; exact Pw _)
   ·obtain ⟨v',oc,e,_⟩:=I3.cell x a ea
    exact absurd (N1 e) (by rw [z]; exact Pw _)
   ·exact absurd (N1 (I3.pin p hp).1) (by rw [z]; exact Pw _)
  refine kont s' H' ah Da h3.objs.size (os.filterMap id) vs fq hR ⟨m,hm⟩ hCX hCf (g.s.free t6) hD hfD hr hnd2 (λb hb=>g.s.free (hfr2 b hb)) (g.trans g') λh5 yv=>?_
  have ub:Un (frs c.X.stack) fp H2 H' s3.heap h5:=by
   have u:=I'.base
   have ne:∀ b o,s3.heap.get? b=some o->b≠h3.objs.size:=λb o e=>Ou (N1 e)
   refine ⟨λb o e n hf hx=>(yv.2 b (ne b o e)).trans (u.keep b o e n hf hx),λb o e n hf hx=>?_,u.free,λb o e hx=>?_,u.tups,u.frzs,u.tbls⟩
   ·obtain ⟨sl,e2⟩:=u.slot b o e n hf hx
    exact ⟨sl,(yv.2 b (ne b o e)).trans e2⟩
   ·obtain ⟨o',e2⟩:=u.there b o e hx
    exact ⟨o',(yv.2 b (ne b o e)).trans e2⟩
  have hokf:jh c.X.prog c.X.w H' h5:=λb u e=>(I'.hok b u e).stay (λa o ha e2=>by
   refine (yv.2 a ?_).trans e2
   intro z; subst z
   have hfree':H' h3.objs.size=none:=I'.free
   rcases ha with z | z
   ·subst z; rw [hfree'] at e; cases e
   ·rw [hfree'] at z; cases z) (λ_ z=>z) λ_ _ z=>z
  exact I3.Ff (ch:=fp) I'.os ub hokf I'.bare λb hb=>⟨(hfp b hb).2.2.2.1,(hfp b hb).2.1,(hfp b hb).2.2.2.2.1,(hfp b hb).2.2.2.2.2⟩
 have loop:codeAny (model c.X.prog c.X.w) c.X.A (.compLoop (.ListComp elt [⟨tg,iter,ifs,0⟩] scope pos) 0 (.ref it) (.ref Da) X'.env) (compPost (model c.X.prog c.X.w) c.X.A fZ use QQ (.ref Da) h3.objs.size) { s2 with heap:=h4,toks:=s2.toks+([]:List (Str×Value)).length }:=by
  refine oj (λn s'=>∃ (i:Nat) (σ':L2.St) (H' ah:Hp) (vs:List V) (fq:Fp),n=ds.length - i/\i<=ds.length/\Inv X' [] σ' H' s'/\tn i s'.heap/\bw c' σ' H' ah ρt/\br H1 aP H' ah/\H' Da=some (.lst vs)/\ah Da=none/\ai c.X.K H' ah ((os.take i).filterMap id) vs fq/\(fq.map (·.1)).Nodup/\(∀ b∈fq,H1 b.1=none)/\vs.length<=i/\∀ b∈fp,H' b=none) ?_ ds.length
   ⟨0,σ0,H2,aP,[],[],by simp,OB _,I4,Tn.keep _ _ _ t0 λb hb o e=>k4 b o (k3 b o e),S4,br.gh g.b t6,af,g.b.free t6,by simp [ai],SK,(λb hb=>by cases hb),NT _,λb hb=>by show upd H1 Da _ b=none; rw [aj (fpne b hb)]; exact (hfp b hb).1⟩
  refine λn s5 hh=>z5 hh λi σ5 H5 Hf5 vs hh=>hh.elim λfq hh=>w6 hh λen hi I5 t5 S5 hh=>w6 hh λg5 hD5 hfD5 hr5 hnd5 hh=>w3 hh λhfr5 hlv fr5=>?_
  subst en
  by_cases hlt:i<ds.length
  ·have ed:ds[i]?=some ds[i]:=Od hlt
   have eo:os[i]?=some (os[i]'(by rw [hol]; exact hlt)):=Od _
   generalize ds[i]=d at ed
   generalize os[i]'(by rw [hol]; exact hlt)=o at eo
   obtain ⟨hgo,hy⟩:=io.go i d H5 Hf5 g5.f g5.b ed
   refine bD (Tn.item X' rfl rfl rfl rfl i [] s5 σ5 H5 fZ I5 (fps fr5) t5 hgo) λr s6 hh=>hh.elim λu hh=>w2 hh λhr h6=>?_
   subst hr
   refine bD h6 λ_ s7 hh=>z2 hh λx H7 hh=>w5 hh λI7 rx y7 t7 fr7=>?_
   obtain ⟨Hf7,g7,rx7⟩:=hy x H7 y7
   have I7':=I7.pinned (fps fr7) (Tn.obj _ _ t7)
   have S7:bw c' σ5 H7 Hf7 ρt:=S5.cF g7
   have hasg0:=hb c' rfl t i d o ed eo
   rw [hρ] at hasg0
   have hasg:=hasg0 σ5 H7 Hf7 x (λσ2 H2'=>∃ cI ρ1,bw c' σ2 H2' cI ρ1/\br H7 Hf7 H2' cI/\zX ρt ρ1/\jQ c' ifs ρ1 (lY (cS c' elt ρ1 λr=>∃ z,o=some z/\r.sh=some z) (o=none))) S7 rx7 (λσ2 H2' cI ρ1 S' g' hw=>⟨cI,ρ1,S',g',hw⟩) _ s7 u I7' rx
   refine bD (show wpAny _ _ _ _ fZ _ from hasg) λ_ s8 hh=>z2 hh λσ8 H8 hh=>w2 hh λI8 hh=>z2 hh λHf8 ρ8 hh=>w4 hh λS8 g8 w8 hC8=>?_
   refine bD (mZ (c:=c') rfl ifs S8 hC8 (Q:=λb H'=>∃ ah,lY (cS c' elt ρ8 λr=>∃ z,o=some z/\r.sh=some z) (o=none) b/\br H8 Hf8 H' ah) (λb H' ah hb' g'=>⟨ah,hb',g'⟩) I8) λb s9 hh=>hh.elim λH9 hh=>w2 hh λI9 hh=>hh.elim λHf9 hh=>w2 hh λhb9 g9=>?_
   have g79:=(g7.trans g8).trans g9
   have hD9:H9 Da=some (.lst vs):=g79.s _ _ hD5
   have hfD9:Hf9 Da=none:=g79.n Da hfD5 (by rw [hD5]; simp) (by intro ys; rw [hD5]; simp)
   have keepT:∀ {σ':L2.St} {H':Hp} {s':Shared},Inv X' ([]++ie fp s7.heap) σ' H' s'->tn (i+1) s'.heap/\∀ b∈fp,H' b=none:=λ{σ' H' s'} I' =>
    ⟨Tn.keep _ _ _ t7 λb hb' ob e=>(I'.pin (b,ob) (OV _ (OV _ (dG hb' e)))).1,λb hb'=>by
      obtain ⟨ob,e,_⟩:=Tn.obj _ _ t7 b hb'
      exact (I'.pin (b,ob) (OV _ (OV _ (dG hb' e)))).2.1⟩
   have wk:∀ {σ':L2.St} {H' ah:Hp},bw c' σ' H' ah ρ8->bw c' σ' H' ah ρt:=λS'=>cQ.weak S' w8.weak.1 w8.weak.2
   have tk:(os.take (i+1)).filterMap id=(os.take i).filterMap id++o.toList:=by
    rw [Sn,eo,List.filterMap_append]
    cases o <;> rfl
   cases b with
   | false =>
    have eo':=hb9.f rfl
    subst eo'
    rw [if_neg N5]
    obtain ⟨t9,fr9⟩:=keepT I9
    have hr9:ai c.X.K H9 Hf9 ((os.take i).filterMap id) vs fq:=ai.mv g79.f _ (λa _ e1 e2=>⟨g79.s _ _ e1,g79.n a.1 e2 (by rw [e1]; simp) (by intro ys z; rw [e1] at z; cases z)⟩) hr5
    exact ⟨_,Nat.sub_lt_sub_left hlt (Qw i),i+1,σ8,H9,Hf9,vs,fq,rfl,hlt,I9.eS,t9,wk (S8.cF g9),g5.trans g79,hD9,hfD9,by rw [tk]; simpa using hr9,hnd5,hfr5,Nat.le_succ_of_le hlv,fr9⟩
   | true =>
    rw [if_pos rfl]
    have hev:=hb9.t rfl σ8 H9 Hf9 (λv H'=>∃ ah r,(∃ z,o=some z/\r.sh=some z)/\aU c.X.K (λp=>H9 p=none) H' ah r v/\br H9 Hf9 H' ah) (S8.cF g9) (λr v H' ah he r' g'=>⟨ah,r,he,r',g'⟩) _ s9 I9
    refine bD (show wpAny _ _ _ _ fZ _ from hev) λu2 s10 hh=>z2 hh λv2 H10 hh=>w3 hh λI10 r10 hh=>z2 hh λHf10 r hh=>w3 hh λeo0 re g10=>?_
    obtain ⟨z,rfl,eo'⟩:=eo0
    obtain ⟨f1,rf1,nd1,fr1⟩:=zY eo' re
    have z1:=aI.fz z rf1
    have z0:=ai.fz _ hr5
    have g510:=g79.trans g10
    have hr10:ai c.X.K H10 Hf10 ((os.take i).filterMap id) vs fq:=ai.mv g510.f _ (λa _ e1 e2=>⟨g510.s _ _ e1,g510.n a.1 e2 (by rw [e1]; simp) (by intro ys z; rw [e1] at z; cases z)⟩) hr5
    have hD10:H10 Da=some (.lst vs):=g10.s _ _ hD9
    have hfD10:Hf10 Da=none:=g10.n Da hfD9 (by rw [hD9]; simp) (by intro ys; rw [hD9]; simp)
    have app:=mQ (X:=X') _ s10 σ8 H10 (.ref Da) [v2] (.ref Da) [u2] (λ_ H'=>H'=upd H10 Da (.lst (vs++[v2]))) I10 rfl (.cons r10 .nil) ⟨Da,vs,v2,rfl,rfl,hD10,OJ (PM hlv hlt) hz,rfl⟩
    refine bD (show wpAny _ _ _ _ fZ _ from app) λ_ s11 ⟨_,H11,I11,_,e11⟩=>?_
    subst e11
    obtain ⟨t11,fr11⟩:=keepT I11
    have S10:bw c' σ8 H10 Hf10 ρ8:=(S8.cF g9).cF g10
    have gA:br H1 aP (upd H10 Da (.lst (vs++[v2]))) Hf10:=j6 ((g5.trans g79).trans g10) t6 hfD10
    refine ⟨_,Nat.sub_lt_sub_left hlt (Qw i),i+1,σ8,_,Hf10,vs++[v2],fq++f1,rfl,hlt,I11.eS,t11,?_,gA,af,hfD10,?_,?_,?_,by rw [OF]; exact Su hlv,fr11⟩
    ·refine (wk S10).apart hB0 hfD10 (λ⟨_,z⟩=>by rw [hD10] at z; cases z) λj r hj ho=>λz=>?_
     obtain ⟨b,eb,nb⟩:=howA j r hj ho
     obtain ⟨v',e3,q3⟩:=(wk S10).at_ j r hj (by rintro rfl; cases ho)
     rw [z] at e3; cases e3
     exact nb (uS eb q3).symm
    ·rw [tk]
     refine ai.mv (.refl _) _ (λa ha e1 e2=>⟨?_,e2⟩) (ai.snoc rf1 hr10)
     rw [aj λz=>by rw [z,hD10] at e1; cases e1]; exact e1
    ·rw [Ot,Rn]
     refine ⟨hnd5,nd1,λa ha b hb z=>?_⟩
     subst z
     obtain ⟨p,hp,ep⟩:=Oi.mp ha
     obtain ⟨q,hq',eq⟩:=Oi.mp hb
     have e1:=g79.s _ _ (z0 p hp).1
     have e2:=fr1 q hq'
     rw [eq,<- ep,e1] at e2; cases e2
    ·intro b hb
     rcases Om.mp hb with hb | hb
     ·exact hfr5 b hb
     ·exact (g5.trans g79).s.free (fr1 b hb)
  ·have e:i=ds.length:=Nat.le_antisymm hi (Nat.le_of_not_lt hlt)
   subst e
   refine bD (Tn.done X' rfl rfl rfl rfl ds.length [] s5 σ5 H5 fZ I5 (fps fr5) t5 (io.stop _ H5 Hf5 g5.f g5.b (NT _))) λr s6 ⟨hr,I6⟩=>?_
   subst hr
   refine fin s6 σ5 H5 Hf5 vs fq I6 g5 hD5 hfD5 ?_ hnd5 hfr5
   rw [P9 (by rw [hol]; exact NT _)] at hr5
   exact hr5
 exact codeAny_compStart_list loop (Tn.self _ 0 _ _ _ (Tn.keep _ _ _ t0 λb hb o e=>k4 b o (k3 b o e)) loop)
theorem uV:∀ {ds:List D} {vs:List V} {fq:Fp},ai K H Hf (ds.map .v) vs fq->ak K Hf ds vs
 | [],_,_,h=>by simp only [PF,ai] at h; exact aA.mpr h.1
 | d::ds,_,_,h=>by
  simp only [NW,ai,aI] at h
  obtain ⟨x,r,f1,f2,rfl,h1,h2,-⟩:=h
  exact ak.cons h1.1 (uV h2)
theorem HD:∀ os:List (Option D),(os.map (Option.map Sh.v)).filterMap id=(os.filterMap id).map Sh.v
 | []=>rfl
 | none::os=>HD os
 | some d::os=>congrArg (Sh.v d:: ·) (HD os)
theorem jQ.imp (h:∀ b,T b->T' b):∀ {ifs:List Expr} {ρ:List Sl},jQ c ifs ρ T->jQ c ifs ρ T'
 | [],_,q=>h _ q
 | _::_,_,q=>λσ H Hf Q S z=>q σ H Hf Q S λb H' ah hb g=>z b H' ah ⟨λe=>jQ.imp h (hb.t e),λe=>h _ (hb.f e)⟩ g
theorem zZ (h:uQ c tg ifs elt ρ0 d o):uT c tg ifs elt ρ0 d (o.map .v):=λσ H Hf v Q S r q=>h σ H Hf v Q S r λσ' H' ah ρ' S' g hw=>q σ' H' ah ρ' S' g ⟨hw.1,jQ.imp (λb hb=>⟨λe=>λσ2 H2 cI Q2 S2 q2=>hb.t e σ2 H2 cI Q2 S2 λd2 v2 H3 Hf3 ed rv g3=>q2 (.va d2) v2 H3 Hf3 ⟨.v d2,by rw [ed]; rfl,rfl⟩ rv g3,λe=>by rw [hb.f e]; rfl⟩) hw.2⟩
theorem uW {elt tg iter:Expr} {ifs:List Expr} {scope:Scope} {N':List Str} {ρ0:(Str->Addr)->List Sl} {R:Sl->Prop} (hq:c.X.xe=fZ) (hfr:∀ t,sD t scope.names N ρ N' (ρ0 t))
 (h:zJ c tg iter ρ λds=>Sd (ds.length<=sizeLine) (∃ os:List (Option D),os.length=ds.length /\
   (∀ c':Ctx P w K mg base k N' (bL scope sc) true,c'.X.xe=fZ->∀ (t:Str->Addr) (i:Nat) (d:D) (o:Option D),ds[i]?=some d->os[i]?=some o->uQ c' tg ifs elt (ρ0 t) d o)/\R (.ow (os.filterMap id))))
 (hcp:JW scope sc N':=by decide +kernel)
 (hs:∀ env v,foldedSetIterable iter env v=pure v:=by intro _ _; walk_at "u")
 {σ:L2.St} {H Hf:Hp} (S:bw c σ H Hf ρ) {aa:List (Addr×Obj)} {s:Shared} (I:Inv c.X aa σ H s) {use:Option (Value->Sem Unit)} {QQ:Value->Shared->Prop}
 (kont:∀ (s':Shared) (H' ah:Hp) (a C:Addr) (r:Sl),R r->(∃ m,s'.heap.Ns C m)->C∉c.X.fs->eO c.X aa H' C->aU c.X.K (λp=>H p=none) H' ah r (.ref a)->br H Hf H' ah->(∀ h5,Pb C s'.heap h5->Inv c.X aa σ H' { s' with heap:=h5 })->compPost (model c.X.prog c.X.w) c.X.A fZ use QQ (.ref a) C (.ok .next) s') :
 wpAny (model c.X.prog c.X.w) c.X.A (comprehension (.ListComp elt [⟨tg,iter,ifs,0⟩] scope pos) scope c.X.env (firstIterPos [⟨tg,iter,ifs,0⟩] pos) (newList []) (firstAsync [⟨tg,iter,ifs,0⟩]) (firstIter [⟨tg,iter,ifs,0⟩] c.X.env) use) QQ fZ s:=by
 refine uU (R:=λss=>∃ os:List D,ss=os.map .v/\R (.ow os)) hq hfr (λσ' H' ah Q S' q=>h σ' H' ah Q S' λds J H1 aP hd=>q ds J H1 aP ⟨hd.1,hd.2.elim λos ho=>⟨os.map (Option.map .v),by rw [NX]; exact ho.1,λc' hc t i d o e1 e2=>?_,os.filterMap id,?_,ho.2.2⟩⟩) hcp hs S I λs' H' ah a C ss vs fq hR hC1 hC2 yt ha h1 h2 r nd fr g hJ=>?_
 ·rw [NZ,N8] at e2
  obtain ⟨o',e3,rfl⟩:=e2
  exact zZ (ho.2.1 c' hc t i d o' e1 e3)
 ·exact HD os
 ·obtain ⟨os,rfl,hR⟩:=hR
  exact kont s' H' ah a C (.ow os) hR hC1 hC2 yt ⟨a,vs,rfl,ha,h1,h2,uV r⟩ g hJ
theorem dW {elt tg iter:Expr} {ifs:List Expr} {scope:Scope} {N':List Str} {ρ0:(Str->Addr)->List Sl} {R:Sl->Prop} (hq:c.X.xe=fZ) (hfr:∀ t,sD t scope.names N ρ N' (ρ0 t))
 (h:zJ c tg iter ρ λds=>Sd (ds.length<=sizeLine) (∃ os:List (Option D),os.length=ds.length /\
   (∀ c':Ctx P w K mg base k N' (bL scope sc) true,c'.X.xe=fZ->∀ (t:Str->Addr) (i:Nat) (d:D) (o:Option D),ds[i]?=some d->os[i]?=some o->uQ c' tg ifs elt (ρ0 t) d o)/\R (.ow (os.filterMap id))))
 (hcp:JW scope sc N':=by decide +kernel)
 (hs:∀ env v,foldedSetIterable iter env v=pure v:=by intro _ _; walk_at "u"):cS c (.ListComp elt [⟨tg,iter,ifs,0⟩] scope pos) ρ R:=λσ H Hf Q S q aa s I=>by
 rw [hq]
 rw [show (eval (.ListComp elt [⟨tg,iter,ifs,0⟩] scope pos) c.X.env)=comprehension (.ListComp elt [⟨tg,iter,ifs,0⟩] scope pos) scope c.X.env (firstIterPos [⟨tg,iter,ifs,0⟩] pos) (newList []) (firstAsync [⟨tg,iter,ifs,0⟩]) (firstIter [⟨tg,iter,ifs,0⟩] c.X.env) from rfl]
 exact uW hq hfr h hcp hs S I λs' H' ah a C r hr ⟨m,hm⟩ _ _ hrep g hJ=>⟨m,hm,λh5 yv=>⟨.ref a,H',hJ h5 yv,rfl,q r _ H' ah hr hrep g⟩⟩
theorem iV:Pb a h h:=⟨rfl,λ_ _=>rfl⟩
theorem uX (I:Inv X aa σ H s) (hC:eO X aa H C) (hsb:Pb C s.heap h5):Inv X aa σ H { s with heap:=h5 }:=by
 refine I.Ff (ch:=[C]) rfl ⟨λb o e _ _ hx=>?_,λb o e _ _ hx=>⟨o.slots,?_⟩,λb o e n _=>n,λb o e hx=>⟨o,?_⟩,λb xs e=>e,λb o u e=>e,λb ps e=>⟨#[],by simpa using e⟩⟩ (λb u e=>(I.hok b u e).stay (λa o ha e2=>?_) (λ_ z=>z) λ_ _ z=>z) I.bare λb hb=>?_
 ·exact (hsb.2 b (λz=>hx (by rw [z]; exact N2))).trans e
 ·exact (hsb.2 b (λz=>hx (by rw [z]; exact N2))).trans e
 ·exact (hsb.2 b (λz=>hx (by rw [z]; exact N2))).trans e
 ·refine (hsb.2 a ?_).trans e2
  intro z; subst z
  rcases ha with z | z
  ·subst z; rw [hC.1] at e; cases e
  ·rw [hC.1] at z; cases z
 ·have:b=C:=by simpa using hb
  subst this
  exact ⟨hC.2.2.2.1,hC.2.1,hC.2.2.2.2.1,hC.2.2.2.2.2⟩
theorem Aa {elt tg iter:Expr} {ifs:List Expr} {scope:Scope} {N':List Str} {ρ0:(Str->Addr)->List Sl} {nx:List Sl->Prop} {p:Pt} {x:Str} {pos2 posA:Pos} {i:Nat} (hN:At N i x) (hq:c.X.xe=fZ) (hfr:∀ t,sD t scope.names N ρ N' (ρ0 t))
 (h:zJ c tg iter ρ λds=>Sd (ds.length<=sizeLine) (∃ os:List (Option D),os.length=ds.length /\
   (∀ c':Ctx P w K mg base k N' (bL scope sc) true,c'.X.xe=fZ->∀ (t:Str->Addr) (i:Nat) (d:D) (o:Option D),ds[i]?=some d->os[i]?=some o->uQ c' tg ifs elt (ρ0 t) d o)/\Nx ρ i nx (.ow (os.filterMap id))))
 (hsw:(pos2.line == pos.line && !scope.names.any λ(n,k)=>n == x && (k == NameKind.local || k == QC))=true:=by decide +kernel) (hl:sc.names.lookup x=some .local:=by walk_at "u")
 (hcp:JW scope sc N':=by decide +kernel)
 (hs:∀ env v,foldedSetIterable iter env v=pure v:=by intro _ _; walk_at "u"):eG c (.Assign [.Name x pos2] (.ListComp elt [⟨tg,iter,ifs,0⟩] scope pos) posA) ρ nx p:=λσ H Hf D S o aa s I=>by
 have hsw':swapsWith (.ListComp elt [⟨tg,iter,ifs,0⟩] scope pos) (some (.Name x pos2)) posA.line c.X.env=pure true:=by
  have e1:c.X.env.blockKind=.function:=by unfold Env.blockKind; rw [show c.X.env.scope.kind=.function from I.ok.kind]; rfl
  have e2:c.X.env.kindOf x=some .local:=by unfold Ox; rw [c.esc]; exact hl
  show pure (c.X.env.blockKind == TY && c.X.env.kindOf x == some NameKind.local && pos2.line == pos.line && !scope.names.any λ(n,k)=>n == x && (k == NameKind.local || k == QC))=pure true
  rw [e1,e2]; exact congrArg pure hsw
 rw [hq,exec_Assign_Name_used x pos2 _ posA hsw']
 refine NP (SO ?_)
 refine NP ?_
 rw [show (evalThenUse (.ListComp elt [⟨tg,iter,ifs,0⟩] scope pos) c.X.env (assign (.Name x pos2) c.X.env))=(do let _ <- comprehension (.ListComp elt [⟨tg,iter,ifs,0⟩] scope pos) scope c.X.env (firstIterPos [⟨tg,iter,ifs,0⟩] pos) (newList []) (firstAsync [⟨tg,iter,ifs,0⟩]) (firstIter [⟨tg,iter,ifs,0⟩] c.X.env) (some (assign (.Name x pos2) c.X.env)); pure ()) from rfl]
 refine NP (uW hq hfr h hcp hs S I λs' H' ah a C r hr ⟨m,hm⟩ hCX hCf hrep g hJ=>?_)
 have J:=hJ s'.heap iV
 obtain ⟨oC,es,ep,e1,e2,e3,e4⟩:=hm
 have fps:∀ b∈[C],eO c.X aa H' b:=λb hb=>by rw [Oa.mp hb]; exact hCf
 have hob:∀ b∈[C],∃ o,s'.heap.get? b=some o/\∀ v:Option Value,o.data≠.cell v:=λb hb=>by
  rw [Oa.mp hb]; exact ⟨oC,e1,λv z=>by rw [e2] at z; cases z⟩
 have J2:=J.pinned fps hob
 have hmem:(C,oC)∈ie [C] s'.heap:=dG N2 e1
 obtain ⟨ρ',hset,hx⟩:=hr
 have st:=uB (jX (X:=c.X) (i:=i) (pos:=pos2) (by rw [c.eN]; exact c.nd) (by rw [c.eN]; exact hN.get) (by rw [c.esc]; exact c.vis x hN.mem) (c.fn x (.inr hl))) (v:=.ref a) (σ:=σ) (H:=H') (Q:=λσ' H''=>D.nx σ' H'') (o.nx _ H' ah _ (hset.eq ▸ S.set g hrep) hx) _ s' (.ref a) J2 rfl
 rw [hq] at st
 refine bD st λ_ s'' ⟨σ',H'',I'',dn⟩=>?_
 have pC:=I''.pin (C,oC) (OV _ (OV _ hmem))
 refine ⟨m,⟨oC,es,ep,pC.1,e2,e3,e4⟩,λh' hsb=>?_⟩
 have I3:Inv c.X aa σ' H'' s'':=I''.eS
 have I4:=uX I3 (C:=C) ⟨pC.2.1,hCf.2⟩ hsb
 exact NS (NS ⟨_,_,I4,dn⟩)
end
mutual
def D.nl:D->Prop
 | .lst _=>False
 | .fdK _ _=>False
 | .fdT _ _=>False
 | .tup ds=>D.lQ ds
 | _=>True
def D.lQ:List D->Prop
 | []=>True
 | d::ds=>d.nl/\D.lQ ds
end
theorem uY:∀ {ds:List D},D.lQ ds↔∀ d∈ds,d.nl
 | []=>by simp [D.lQ]
 | d::ds=>by simp [D.lQ,uY (ds:=ds)]
theorem cV {α:Type} {f:α->D} {l:List α} (h:∀ x∈l,(f x).nl):D.lQ (l.map f):=uY.mpr λd hd=>by
 obtain ⟨x,hx,rfl⟩:=Oi.mp hd
 exact h x hx
theorem kO:(D.int i).nl:=by simp [D.nl]
theorem DA (l:List Int):D.lQ (l.map D.int):=cV λx _=>kO
theorem sE (h:D.lQ ds):(D.tup ds).nl:=by simpa [D.nl] using h
noncomputable def HO.mt:HO->Prop | .lst _=>True | .dK _=>True | .dT _=>True | _=>False
theorem wZ {K:NR} (hp:Hf p=some o) (hm:HO.mt o) (h:dB K Hf a xs):dB K (del Hf p) a xs:=by
 rcases h with (h | ⟨o',h⟩) | h
 ·exact .inl (.inl (by rw [cC (by rintro rfl; rw [hp] at h; cases h; exact hm)]; exact h))
 ·exact .inl (.inr ⟨o',by rw [cC (by rintro rfl; rw [hp] at h; cases h; exact hm)]; exact h⟩)
 ·exact .inr h
mutual
theorem sF {K:NR} {Hf:Hp} {p:Addr} {o:HO} (hp:Hf p=some o) (hm:HO.mt o):∀ (d:D) {v:V},d.nl->Rep K Hf d v->Rep K (del Hf p) d v
 | .non,_,_,h=>by simpa [Rep] using h
 | .bl _,_,_,h=>by simpa [Rep] using h
 | .int _,_,_,h=>by simpa [Rep] using h
 | .str _,_,_,h=>by simpa [Rep] using h
 | .adr _,_,_,h=>by simpa [Rep] using h
 | .tup ds,v,f,h=>by
  simp only [Rep] at h |-
  obtain ⟨a,xs,e,h1,h2⟩:=h
  exact ⟨a,xs,e,wZ hp hm h1,om hp hm ds (by simpa [D.nl] using f) h2⟩
 | .lst _,_,f,_=>by simp [D.nl] at f
 | .fdK _ _,_,f,_=>by simp [D.nl] at f
 | .fdT _ _,_,f,_=>by simp [D.nl] at f
 | .exc C,_,_,h=>by
  simp only [Rep] at h |-
  obtain ⟨a,e,h⟩:=h
  exact ⟨a,e,by rw [cC (by rintro rfl; rw [hp] at h; cases h; exact hm)]; exact h⟩
theorem om {K:NR} {Hf:Hp} {p:Addr} {o:HO} (hp:Hf p=some o) (hm:HO.mt o):∀ (ds:List D) {xs:List V},D.lQ ds->ak K Hf ds xs->ak K (del Hf p) ds xs
 | [],_,_,h=>by simpa [ak] using h
 | d::ds,xs,f,h=>by
  simp only [ak] at h |-
  simp only [D.lQ] at f
  obtain ⟨x,r,e,h1,h2⟩:=h
  exact ⟨x,r,e,sF hp hm d f.1 h1,om hp hm ds f.2 h2⟩
end
noncomputable def Sl.nl:Sl->Prop
 | .va d=>d.nl
 | .ow ds=>D.lQ ds
 | _=>False
theorem aU.M4 {K:NR} {H H' ah:Hp} (hp:ah p=some oz) (hm:HO.mt oz) (h0:H p=some o) (f:r.nl) (h:aU K (λp=>H p=none) H' ah r v):aU K (λp=>H p=none) H' (del ah p) r v:=by
 cases r with
 | va d=>exact sF hp hm d f h
 | ow ds =>
  obtain ⟨q,xs,rfl,fq,h1,h2,h3⟩:=h
  refine ⟨q,xs,rfl,fq,h1,?_,om hp hm ds f h3⟩
  rw [cC (by rintro rfl; rw [h0] at fq; cases fq)]; exact h2
 | _=>exact f.elim
section
variable {P:Program} {w:World} {K:NR} {mg:Str->Option Value} {base:Heap} {k:Nat} {N:List Str} {sc:Scope} {bk:Bool} {c:Ctx P w K mg base k N sc bk} {ρ ρ':List Sl} {pos ap cp px tp:Pos} {a b e f:Expr} {es:List Expr} {R:D->Prop} {T:Bool->Prop} {nx:List Sl->Prop} {p:Pt} {x:Str} {i:Nat} {r:Sl} {ds:List D}
noncomputable def Sl.l5:Sl->Option D
 | .ow ds=>some (.lst ds) | .aw _ ds=>some (.lst ds)
 | _=>none
theorem kP (h:r.l5=some d):r.owned=true:=by cases r <;> first | rfl | cases h
theorem iW {κ:Type} {Hf:Hp} {kvs:List (κ×D)} {xs:List (κ×V)} (h:lO K Hf kvs xs):xs.map (·.1)=kvs.map (·.1)/\ak K Hf (kvs.map (·.2)) (xs.map (·.2)):=by
 unfold lO at h
 induction h with
 | nil=>exact ⟨rfl,aA.mpr rfl⟩
 | cons h t ih=>exact ⟨by rw [NW,NW,ih.1,h.1],.cons h.2 ih.2⟩
theorem fE (h:kG K Hf kvs xs):xs.map (·.1)=kvs.map (·.1)/\(∀ y∈xs,dB K Hf y.2.1 (y.1.map kV))/\ak K Hf (kvs.map (·.2)) (xs.map (·.2.2)):=by
 refine ⟨?_,h.zW,?_⟩
 ·unfold kG at h
  induction h with
  | nil=>rfl
  | cons h t ih=>rw [NW,NW,ih,h.1]
 ·unfold kG at h
  induction h with
  | nil=>exact aA.mpr rfl
  | cons h t ih=>exact .cons h.2.2 ih
theorem aU.l5 (h:r.l5=some d) (q:aU K fr H Hf r v):∃ p o,v=.ref p/\fr p/\H p=some o/\Hf p=none/\HO.mt o/\Rep K (upd Hf p o) d v:=by
 have sf:∀ {p:Addr} {o:HO},Hf p=none->aG Hf (upd Hf p o):=λhp b u e=>by rw [aj (aB e hp)]; exact e
 cases r with
 | ow ds=>cases h; obtain ⟨p,xs,rfl,f,h1,h2,h3⟩:=q; exact ⟨p,_,rfl,f,h1,h2,trivial,bf.mpr ⟨p,xs,rfl,.inl (.inl af),h3.mono (sf h2)⟩⟩
 | aw a ds=>cases h; obtain ⟨p,xs,rfl,f,h1,h2,h3⟩:=q; exact ⟨p,_,rfl,f.1,h1,h2,trivial,bf.mpr ⟨p,xs,rfl,.inl (.inl af),h3.mono (sf h2)⟩⟩
 | _=>cases h
theorem cQ.j7 (S:cQ K H₀ dM σ H Hf ρ) (h:ρ[i]?=some r) (hr:r.l5=some d) :
 ∃ q o,H q=some o/\Hf q=none/\HO.mt o/\cQ K H₀ dM σ H (L2.upd Hf q o) (ρ.set i (.va d)):=by
 obtain ⟨q,ev,rq⟩:=S.own h (kP hr)
 obtain ⟨_,o,e0,fq,hq,rN,hm,rd⟩:=rq.l5 hr
 cases e0
 have hi:i<ρ.length:=(N4.mp h).1
 have hown:=kP hr
 have sf:aG Hf (L2.upd Hf q o):=λb u e=>by rw [L2.aj (aB e rN)]; exact e
 have sb:aG (L2.upd Hf q o) H:=λb u e=>by
  by_cases z:b=q
  ·subst z; rw [L2.af] at e; rw [hq]; exact e
  ·rw [L2.aj z] at e; exact S.sb b u e
 refine ⟨q,o,hq,rN,hm,⟨S.bas.s,S.bas.f.trans sf,sb,λb h1 h2 h3=>?_⟩,by simp [S.len],λj r' hj hu=>?_,λj j' r1 r2 q' hne h1 h2 o1 o2=>?_⟩
 ·have e:=S.bas.n b h1 h2 h3
  by_cases z:b=q
  ·subst z; exact absurd fq h2
  ·rw [L2.aj z]; exact e
 ·by_cases z:j=i
  ·subst z
   rw [O2 hi] at hj
   cases hj
   exact ⟨_,ev,rd⟩
  ·rw [O4 (Og z)] at hj
   obtain ⟨v,e1,e2⟩:=S.at_ j r' hj hu
   refine ⟨v,e1,?_⟩
   have key:r'.owned=true->v≠.ref q:=λho z=>by
    subst z
    exact S.sep i j _ _ q (Og ‹_›) h hj hown ho ev e1
   exact aU.mv (B:=λz=>z=q) sf (λz u hz e1 _ e3=>⟨e1,by rw [L2.aj hz]; exact e3⟩) (by rintro _ z rfl ⟨ys,e9⟩; rw [hq] at e9; cases e9; exact hm) (λho z e=>by rintro rfl; exact key ho e) e2
 ·have out:∀ {j:Nat} {r:Sl},(ρ.set i (.va d))[j]?=some r->r.owned=true->ρ[j]?=some r:=λ{j r} hj ho=>by
   by_cases z:j=i
   ·subst z; rw [O2 hi] at hj; cases hj; cases ho
   ·rw [O4 (Og z)] at hj; exact hj
  exact S.sep j j' r1 r2 q' hne (out h1 o1) (out h2 o2) o1 o2
theorem qg (sb:aG Hf H) (hq:H q=some o) (rN:Hf q=none) (g:br H (upd Hf q o) H' ah):br H Hf H' (del ah q) :=
 ⟨g.s,λb o e=>by rw [cC (aB e rN)]; exact g.f b o (by rw [aj (aB e rN)]; exact e),λb o e=>by obtain ⟨_,e2⟩:=iS e; exact g.b b o e2,λb h1 h2 h3=>by
   by_cases z:b=q
   ·subst z; exact iR
   ·rw [cC z]; exact g.n b (by rw [aj z]; exact h1) h2 h3⟩
theorem K3 (i) (hi:At ρ i r) (hr:r.l5=some d0) (hs:SSet ρ i (.va d0) ρ') (h:aF c e ρ' λd=>Sd d.nl (R d)):aF c e ρ R:=λσ H Hf Q S q=>by
 obtain ⟨a,o,ha,yw,hm,S1⟩:=S.j7 hi.get hr
 rw [<- hs.eq] at S1
 exact h σ H _ Q S1 λd v H' ah ⟨fl,rd⟩ rv g=>q d v H' _ rd (sF (g.f a _ af) hm d fl rv) (qg S.sb ha yw g)
theorem uZ (i) {R:Sl->Prop} (hi:At ρ i r) (hr:r.l5=some d0) (hs:SSet ρ i (.va d0) ρ') (h:cS c e ρ' λd=>Sd d.nl (R d)):cS c e ρ R:=λσ H Hf Q S q=>by
 obtain ⟨a,o,ha,yw,hm,S1⟩:=S.j7 hi.get hr
 rw [<- hs.eq] at S1
 exact h σ H _ Q S1 λd v H' ah ⟨fl,rd⟩ rv g=>q d v H' _ rd (rv.M4 (g.f a _ af) hm ha fl) (qg S.sb ha yw g)
theorem cW {st:List Stmt} (i) (hi:At ρ i r) (hr:r.l5=some d0) (hs:SSet ρ i (.va d0) ρ') (h:aQ c st ρ' nx p):aQ c st ρ nx p:=λσ H Hf D S o=>by
 obtain ⟨a,ob,ha,yw,hm,S1⟩:=S.j7 hi.get hr
 rw [<- hs.eq] at S1
 exact h σ H _ D S1 o
theorem K4 {st:Stmt} (i) (hi:At ρ i r) (hr:r.l5=some d0) (hs:SSet ρ i (.va d0) ρ') (h:eG c st ρ' nx p):eG c st ρ nx p:=λσ H Hf D S o=>by
 obtain ⟨a,ob,ha,yw,hm,S1⟩:=S.j7 hi.get hr
 rw [<- hs.eq] at S1
 exact h σ H _ D S1 o
theorem K5 (hN:At N i x) (hi:At ρ i r) (hr:r.l5=some (.lst ds)) (hs:SSet ρ i (.va (.lst ds)) ρ') (h:aF c b ρ' λy=>Sd y.nl (∃ j d,y=.int j/\jI ds j=some d/\Sd d.nl (R d))) (hx:At ρ' i (.va (.lst ds)))
 (hd:(x == ("__debug__":Str))=false:=by decide) (hcd:(x == ("__classdict__":Str))=false:=by decide) (hp:gJ b:=by with_unfolding_all exact λ_ _=>rfl):aF c (.Subscript (.Name x p2) b pos) ρ R :=
 K3 i hi hr hs (KZ (uC hN hx (h.imp λy ⟨_,j,d,e1,e2,e3⟩=>⟨ds,j,d,rfl,e1,e2,e3⟩) hd hcd) hp)
end
end EV
set_option maxHeartbeats 0
namespace EV
open PySem PySem.Spec PyProof.Rows L2
section
variable {P:Program} {w:World} {K:NR} {mg:Str->Option Value} {base h:Heap}
def aD (K:NR) (mg:Str->Option Value) (x:Str) (st:Stmt):Prop:=∃ f fd,mg x=some (.ref f)/\fC K x x st f fd
theorem HE {st:Stmt} {kV doc pm cdv ct:Value} (KX:K.In h) (G:h.Ns mainGlobals mg) (a:OS K mainGlobals x=some (some (.ref f)))
 (l:K.lookup f=some ⟨oc,od,.func (PR x x (fj st) (ay st) (aL st) .none kV doc pm an cdv ct),osl⟩) (c:SJ K cdv x=true) (k:PD K (.ref f)=true):aD K mg x st :=
 ⟨f,_,PySem.W.mg_of KX G a,G6 l c k⟩
theorem HF (e:(t == O9 T)=false) (m:PySem.W.kitMeta T=true) (s:PySem.W.subIn K t (.type T)=some b):Pk K t (.type T)=some b:=by
 unfold Pk PySem.W.kitCls
 simp [e,m,s]
theorem kQ (e:(t == t)=true):Pk K t t=some true:=by
 unfold Pk
 simp [e]
structure Txt (K:NR) (mg:Str->Option Value):Prop where
 abs:mg "abs"=none
 len:mg "len"=none
 isin:mg "isinstance"=none
 range:mg "range"=none
 int:mg "int"=none
 bool:mg "bool"=none
 tuple:mg "tuple"=none
 list:mg "list"=none
 max:mg "max"=none
 min:mg "min"=none
 sum:mg "sum"=none
 sorted:mg "sorted"=none
 zip:mg "zip"=none
 enum:mg "enumerate"=none
 all:mg "all"=none
 any:mg "any"=none
 dict:mg "dict"=none
 ib:Pk K (.type "int") (.type "bool")=some false
theorem Txt.K6 (T:Txt K mg):iO mg "int" (.type "int"):=.inr ⟨_,rfl,T.int,by decide +kernel,by decide +kernel⟩
theorem Txt.HG (T:Txt K mg):iO mg "bool" (.type "bool"):=.inr ⟨_,rfl,T.bool,by decide +kernel,by decide +kernel⟩
theorem Txt.DB (T:Txt K mg):iO mg "tuple" (.type "tuple"):=.inr ⟨_,rfl,T.tuple,by decide +kernel,by decide +kernel⟩
theorem Txt.HH (T:Txt K mg):iO mg "list" (.type "list"):=.inr ⟨_,rfl,T.list,by decide +kernel,by decide +kernel⟩
theorem HJ:Pk K (.type "int") (.type "int")=some true:=kQ (by decide)
theorem HK:Pk K (.type "tuple") (.type "tuple")=some true:=kQ (by decide)
theorem HL:Pk K (.type "list") (.type "list")=some true:=kQ (by decide)
theorem HM (KX:K.In h) (G:h.Ns mainGlobals mg)
 (z1:OS K mainGlobals "abs"=some none)
 (z2:OS K mainGlobals "len"=some none)
 (z3:OS K mainGlobals "isinstance"=some none)
 (z4:OS K mainGlobals "range"=some none)
 (z5:OS K mainGlobals "int"=some none)
 (z6:OS K mainGlobals "bool"=some none)
 (z7:OS K mainGlobals "tuple"=some none)
 (z8:OS K mainGlobals "list"=some none)
 (z9:OS K mainGlobals "max"=some none)
 (z10:OS K mainGlobals "min"=some none)
 (z11:OS K mainGlobals "sum"=some none)
 (z12:OS K mainGlobals "sorted"=some none)
 (z13:OS K mainGlobals "zip"=some none)
 (z14:OS K mainGlobals "enumerate"=some none)
 (z15:OS K mainGlobals "all"=some none)
 (z16:OS K mainGlobals "any"=some none)
 (z17:OS K mainGlobals "dict"=some none)
 (sib:PySem.W.subIn K (.type "int") (.type "bool")=some false):Txt K mg :=
 ⟨OZ KX G z1,OZ KX G z2,OZ KX G z3,OZ KX G z4,OZ KX G z5,OZ KX G z6,OZ KX G z7,OZ KX G z8,
  OZ KX G z9,OZ KX G z10,OZ KX G z11,OZ KX G z12,OZ KX G z13,OZ KX G z14,OZ KX G z15,OZ KX G z16,OZ KX G z17,
  HF (by decide) (by decide) sib⟩
theorem HN {α:Type} (us:List α) (h:us.length=1):∃ a,us=[a]:=by match us,h with | [a],_=>exact ⟨a,rfl⟩
theorem HP {α:Type} (us:List α) (h:us.length=2):∃ a b,us=[a,b]:=by match us,h with | [a,b],_=>exact ⟨a,b,rfl⟩
theorem HQ {α:Type} (us:List α) (h:us.length=3):∃ a b c,us=[a,b,c]:=by match us,h with | [a,b,c],_=>exact ⟨a,b,c,rfl⟩
theorem HR {α:Type} (us:List α) (h:us.length=4):∃ a b c d,us=[a,b,c,d]:=by match us,h with | [a,b,c,d],_=>exact ⟨a,b,c,d,rfl⟩
theorem bx (P) (w) (base) {st:Stmt} (D:aD K mg x st) (ok:∀ {f:Addr} {fd:FuncData},fC K x x st f fd->bz P w K mg base (dU P w) k f fd ps (fM K F))
 (hb:∀ (kV doc pm:Value) (an:Option Addr) (cdv ct:Value) (us:List Value),us.length=ps.length->bindArgs (PR x x (fj st) (ay st) (aL st) .none kV doc pm an cdv ct) ⟨us,[]⟩=pure (ps.zip us):=by intro _ _ _ _ _ _ us hl; first | (obtain ⟨a,rfl⟩:=HN us hl; rfl) | (obtain ⟨a,b,rfl⟩:=HP us hl; rfl) | (obtain ⟨a,b,c,rfl⟩:=HQ us hl; rfl) | (obtain ⟨a,b,c,d,rfl⟩:=HR us hl; rfl) | (obtain ⟨a,b,c,d,e,rfl⟩:=len5 us hl; rfl) | (obtain ⟨a,b,c,d,e,f,rfl⟩:=len6 us hl; rfl) | (obtain rfl:=len0 us hl; rfl)):fO P w K mg base k x F :=
 let ⟨f,fd,m,Fu⟩:=D; ⟨f,fd,ps,m,Fu.kp,Fu.binds hb,ok Fu⟩
noncomputable def Ab:Fn:=λds r=>∃ ns:List Int,ns.length<=63/\ds=[.lst (ns.map D.int)]/\r=.ok (.va (.bl true))
theorem HU (H) (a) (ns:List Int) (hl:ns.length<=63) (hS:gI K H a (ns.map V.int)):fM K Ab [.ref a] H (λv _=>v=.bl true) λ_ _ _=>False :=
 ⟨H,[.lst (ns.map D.int)],.ok (.va (.bl true)),.refl H,.cons (bf.mpr ⟨a,_,rfl,hS,jm ns⟩) (aA.mpr rfl),⟨ns,hl,rfl,rfl⟩,λv H' ah _ r=>(fu (K:=K) (H:=ah)).mp r⟩
theorem walk {l:PySem.W.OpenLaw} {K:Params->NR} (hk:k<=20) (hn:l.most=some 63) (hdf:d.params.defaults=[])
 (hY:∀ (w:World) (h:Heap),YP w h->(K w.params).In h)
 (F:∀ (w:World) (mg:Str->Option Value) (fa:Addr) (h:Heap),(K w.params).In h->h.Ns mainGlobals mg->mg d.name=some (.ref fa) ->
   ∃ fd:FuncData,(∀ (s:Shared) (u:Value),BindsTo s fd ⟨[u],[]⟩ [("_law_script",u)])/\∀ base:Heap,(K w.params).In base->base.Ns mainGlobals mg->bz l.prog w (K w.params) mg base (dU l.prog w) 20 fa fd ["_law_script"] (fM (K w.params) Ab)) :
 PySem.W.WalkO q loose XP YP l.row.toRowW d [] (λf vs=>PySem.call f vs) :=
 L2.C9 (n:=63) (k:=20) (x:="_law_script") (CX:=λw=>dU l.prog w) (sp:=λw=>fM (K w.params) Ab) hn (by decide) hdf ⟨rfl,by decide,by decide⟩ hY F (λ_ H a ns hl _ hS=>HU H a ns hl hS) λ_ _ _ _ _ ⟨_,_,_,_,_,q⟩=>q
end
theorem qh (f:α->β) (xs) (lo hi):EV.cutD (xs.map f) lo hi=(EV.cutD xs lo hi).map f:=by
 unfold EV.cutD; simp only [NX,List.map_take,List.map_drop]
theorem d7 (h0:0<=j) (h1:j<xs.length):jI xs j=xs[j.toNat]?:=by
 unfold jI JS
 rw [if_pos h0,if_pos h1]; rfl
theorem u5 {j:Int} (h0:j<0) (h1:0<=j+xs.length):jI xs j=xs[(j+xs.length).toNat]?:=by
 unfold jI JS
 rw [if_neg (by lia)]
 rw [if_pos (by lia)]; rfl
theorem qi (h:a.natAbs<2 ^ 63):Pa a<=64:=by
 unfold Pa
 by_cases z:a=0
 ·subst z; decide
 ·have e:(a == 0)=false:=by simpa using z
  rw [e,if_neg N5]
  have:=(Nat.log2_lt (n:=a.natAbs) (k:=63) (by lia)).mpr h
  lia
theorem qj (h:a.natAbs<2 ^ 63):EV.MulOk a b:=IntMulOk.of_left (qi h)
theorem gO (h:(p8 0 n)[i]?=some d):i<n/\d=.int (i:Int):=by
 unfold p8 at h
 simp only [NZ,N8] at h
 obtain ⟨j,h1,rfl⟩:=h
 obtain ⟨hj,rfl⟩:=N4.mp h1
 simp at hj
 exact ⟨hj,by simp⟩
section
variable {K:NR}
end
end EV
namespace EV
open PySem PySem.Spec PySem.Calls PyProof.Rows L2
noncomputable def HO.dct:HO->Prop | .dK _=>True | .dT _=>True | _=>False
theorem oq (I:Inv X aa σ H s) (hu:H a=some u) (nu:∀ xs,u≠.tup xs) (nw:∀ y,u≠.own y) (nt:∀ ps,u≠.tbl ps) (nf:∀ o z,X.H₀ a≠some (.frz o z))
 (hv:bq X.prog X.w H s.heap a v):Inv X aa σ (upd H a v) s:=by
 have hne:∀ {b:Addr} {z:HO},H b=some z->z≠u->b≠a:=λe d q=>by subst q; rw [hu] at e; cases e; exact d rfl
 have hno:∀ {b:Addr},H b=none->b≠a:=λe q=>by subst q; rw [hu] at e; cases e
 have hst:∀ {b:Addr} {z:HO},bq X.prog X.w H s.heap b z->bq X.prog X.w (upd H a v) s.heap b z:=λq =>
  q.stay (λ_ _ _ e=>e) (λb e=>by rw [aj (hne e (Og (nw _)))]; exact e) λb xs e=>by rw [aj (hne e (Og (nu xs)))]; exact e
 have fr:=I.free
 exact {
  ok:=I.ok,os:=I.os,bare:=I.bare,loc:=I.loc,cell:=I.cell,len:=I.len
  base:=⟨I.base.keep,I.base.slot,λb o h1 h2 h3=>by have e:=I.base.free b o h1 h2 h3; rw [aj (hno e)]; exact e,I.base.there,
   λb xs e=>by have q:=I.base.tups b xs e; rw [aj (hne q (Og (nu xs)))]; exact q,
   λb o z e=>by
    have q:=I.base.frzs b o z e
    by_cases w:b=a
    ·subst w; exact absurd e (nf o z)
    ·rw [aj w]; exact q,
   λb ps e=>by obtain ⟨m,q⟩:=I.base.tbls b ps e; exact ⟨m,by rw [aj (hne q (Og (nt _)))]; exact q⟩⟩
  free:=by rw [aj (hno I.free)]; exact I.free
  freeC:=λx c e=>by have q:=I.freeC x c e; rw [aj (hno q)]; exact q
  pin:=λq hq=>by obtain ⟨h1,h2,h3⟩:=I.pin q hq; exact ⟨h1,by rw [aj (hno h2)]; exact h2,h3⟩
  hok:=λb z e=>by
   by_cases w:b=a
   ·subst w; rw [af] at e; cases e; exact hst hv
   ·rw [aj w] at e; exact hst (I.hok b z e) }
theorem DC (I:Inv X aa σ H s) (hu:H a=some u) (hd:HO.dct u) :
 ∃ o,Inv X aa σ (upd H a (.frz o u)) s/\∀ o z,X.H₀ a≠some (.frz o z):=by
 obtain ⟨o,ho⟩:=Ho (I.hok a u hu)
 have nf:∀ o z,X.H₀ a≠some (.frz o z):=λo z e=>by
  have q:=I.base.frzs a o z e
  rw [hu] at q; cases q; exact hd
 exact ⟨o,oq I hu (by rintro xs rfl; exact hd) (by rintro y rfl; exact hd) (by rintro ps rfl; exact hd) nf ⟨ho,I.hok a u hu⟩,nf⟩
theorem Ac (I:Inv X aa σ H s) (hu:H a=some (.frz o u)) (nf:∀ o z,X.H₀ a≠some (.frz o z)):Inv X aa σ (upd H a u) s :=
 oq I hu (by intro xs z; cases z) (by intro y z; cases z) (by intro ps z; cases z) nf (I.hok a _ hu).2
noncomputable def Sl.qk:Sl->Option D
 | .oK kvs=>some (.fdK (kvs.map (·.1)) (kvs.map (·.2))) | .aK _ kvs=>some (.fdK (kvs.map (·.1)) (kvs.map (·.2)))
 | .oT kvs=>some (.fdT (kvs.map (·.1)) (kvs.map (·.2))) | .aT _ kvs=>some (.fdT (kvs.map (·.1)) (kvs.map (·.2)))
 | _=>none
theorem kR {r:Sl} (h:r.qk=some d):r.owned=true:=by cases r <;> first | rfl | cases h
section
variable {K:NR}
theorem aU.qk (h:r.qk=some d) (q:aU K fr H Hf r v):∃ p u,v=.ref p/\fr p/\H p=some u/\Hf p=none/\HO.dct u/\∀ o,Rep K (L2.upd Hf p (.frz o u)) d v:=by
 have sf:∀ {p:Addr} {o:HO},Hf p=none->aG Hf (L2.upd Hf p o):=λhp b u e=>by rw [aj (aB e hp)]; exact e
 cases r with
 | oK ds=>cases h; obtain ⟨p,xs,rfl,f,h1,h2,h3⟩:=q; exact ⟨p,_,rfl,f,h1,h2,trivial,λo=>iK.mpr ⟨p,xs,o,rfl,af,(iW h3).1,(iW h3).2.mono (sf h2)⟩⟩
 | aK a ds=>cases h; obtain ⟨p,xs,rfl,f,h1,h2,h3⟩:=q; exact ⟨p,_,rfl,f.1,h1,h2,trivial,λo=>iK.mpr ⟨p,xs,o,rfl,af,(iW h3).1,(iW h3).2.mono (sf h2)⟩⟩
 | oT ds=>cases h; obtain ⟨p,xs,rfl,f,h1,h2,h3⟩:=q; exact ⟨p,_,rfl,f,h1,h2,trivial,λo=>iL.mpr ⟨p,xs,o,rfl,af,(fE h3).1,λy hy=>au (sf h2) ((fE h3).2.1 y hy),(fE h3).2.2.mono (sf h2)⟩⟩
 | aT a ds=>cases h; obtain ⟨p,xs,rfl,f,h1,h2,h3⟩:=q; exact ⟨p,_,rfl,f.1,h1,h2,trivial,λo=>iL.mpr ⟨p,xs,o,rfl,af,(fE h3).1,λy hy=>au (sf h2) ((fE h3).2.1 y hy),(fE h3).2.2.mono (sf h2)⟩⟩
 | _=>cases h
theorem cQ.DE (S:cQ K H₀ dM σ H Hf ρ) (h:ρ[i]?=some r) (hr:r.qk=some d) :
 ∃ q u,H q=some u/\Hf q=none/\HO.dct u/\∀ o,cQ K H₀ dM σ (L2.upd H q (.frz o u)) (L2.upd Hf q (.frz o u)) (ρ.set i (.va d)):=by
 obtain ⟨q,ev,rq⟩:=S.own h (kR hr)
 obtain ⟨_,u,e0,fq,hq,rN,hd,rd⟩:=rq.qk hr
 cases e0
 have hi:i<ρ.length:=(N4.mp h).1
 have hown:=kR hr
 refine ⟨q,u,hq,rN,hd,λo=>⟨⟨λb z e=>?_,λb z e=>?_,λb z e=>?_,λb h1 h2 h3=>?_⟩,by simp [S.len],λj r' hj hu=>?_,λj j' r1 r2 q' hne h1 h2 o1 o2=>?_⟩⟩
 ·rw [L2.aj (aB e fq)]; exact S.bas.s b z e
 ·have e2:=S.bas.f b z e
  rw [L2.aj (aB e2 rN)]; exact e2
 ·by_cases w:b=q
  ·subst w; rw [L2.af] at e |-; exact e
  ·rw [L2.aj w] at e |-; exact S.sb b z e
 ·have e:=S.bas.n b h1 h2 h3
  by_cases z:b=q
  ·subst z; exact absurd fq h2
  ·rw [L2.aj z]; exact e
 ·have sf:aG Hf (L2.upd Hf q (.frz o u)):=λb z e=>by rw [L2.aj (aB e rN)]; exact e
  by_cases z:j=i
  ·subst z
   rw [O2 hi] at hj
   cases hj
   exact ⟨_,ev,rd o⟩
  ·rw [O4 (Og z)] at hj
   obtain ⟨v,e1,e2⟩:=S.at_ j r' hj hu
   refine ⟨v,e1,?_⟩
   have key:r'.owned=true->v≠.ref q:=λho z=>by
    subst z
    exact S.sep i j _ _ q (Og ‹_›) h hj hown ho ev e1
   exact aU.mv (B:=λz=>z=q) sf (λz w hz e1 _ e3=>⟨by rw [L2.aj hz]; exact e1,by rw [L2.aj hz]; exact e3⟩) (by rintro _ z rfl ⟨ys,e9⟩; rw [hq] at e9; cases e9; exact hd) (λho z e=>by rintro rfl; exact key ho e) e2
 ·have out:∀ {j:Nat} {r:Sl},(ρ.set i (.va d))[j]?=some r->r.owned=true->ρ[j]?=some r:=λ{j r} hj ho=>by
   by_cases z:j=i
   ·subst z; rw [O2 hi] at hj; cases hj; cases ho
   ·rw [O4 (Og z)] at hj; exact hj
  exact S.sep j j' r1 r2 q' hne (out h1 o1) (out h2 o2) o1 o2
end
theorem w9 (sb:aG Hf H) (hq:H q=some u) (rN:Hf q=none) (g:br (upd H q (.frz o u)) (upd Hf q (.frz o u)) H' ah):br H Hf (upd H' q u) (del ah q) :=
 ⟨λb z e=>by
   by_cases w:b=q
   ·subst w; rw [af]; rw [hq] at e; exact e
   ·rw [aj w]; exact g.s b z (by rw [aj w]; exact e),
   λb z e=>by rw [cC (aB e rN)]; exact g.f b z (by rw [aj (aB e rN)]; exact e),
   λb z e=>by obtain ⟨w,e2⟩:=iS e; rw [aj w]; exact g.b b z e2,λb h1 h2 h3=>by
   by_cases w:b=q
   ·subst w; exact iR
   ·rw [cC w]; exact g.n b (by rw [aj w]; exact h1) (by rw [aj w]; exact h2) λxs=>by rw [aj w]; exact h3 xs⟩
theorem DF {K:NR} (hp:Hf p=some (.frz o u)) (hd:HO.dct u) (h:dB K Hf a xs):dB K (del Hf p) a xs:=by
 rcases h with (h | ⟨o',h⟩) | h
 ·exact .inl (.inl (by rw [cC (by rintro rfl; rw [hp] at h; cases h)]; exact h))
 ·exact .inl (.inr ⟨o',by rw [cC (by rintro rfl; rw [hp] at h; cases h; exact hd)]; exact h⟩)
 ·exact .inr h
mutual
theorem Ad {K:NR} {Hf:Hp} {p:Addr} {o:Obj} {u:HO} (hp:Hf p=some (.frz o u)) (hd:HO.dct u):∀ (d:D) {v:V},d.nl->Rep K Hf d v->Rep K (del Hf p) d v
 | .non,_,_,h=>by simpa [Rep] using h
 | .bl _,_,_,h=>by simpa [Rep] using h
 | .int _,_,_,h=>by simpa [Rep] using h
 | .str _,_,_,h=>by simpa [Rep] using h
 | .adr _,_,_,h=>by simpa [Rep] using h
 | .tup ds,v,f,h=>by
  simp only [Rep] at h |-
  obtain ⟨a,xs,e,h1,h2⟩:=h
  exact ⟨a,xs,e,DF hp hd h1,ou hp hd ds (by simpa [D.nl] using f) h2⟩
 | .lst _,_,f,_=>by simp [D.nl] at f
 | .fdK _ _,_,f,_=>by simp [D.nl] at f
 | .fdT _ _,_,f,_=>by simp [D.nl] at f
 | .exc C,_,_,h=>by
  simp only [Rep] at h |-
  obtain ⟨a,e,h⟩:=h
  exact ⟨a,e,by rw [cC (by rintro rfl; rw [hp] at h; cases h)]; exact h⟩
theorem ou {K:NR} {Hf:Hp} {p:Addr} {o:Obj} {u:HO} (hp:Hf p=some (.frz o u)) (hd:HO.dct u):∀ (ds:List D) {xs:List V},D.lQ ds->ak K Hf ds xs->ak K (del Hf p) ds xs
 | [],_,_,h=>by simpa [ak] using h
 | d::ds,xs,f,h=>by
  simp only [ak] at h |-
  simp only [D.lQ] at f
  obtain ⟨x,r,e,h1,h2⟩:=h
  exact ⟨x,r,e,Ad hp hd d f.1 h1,ou hp hd ds f.2 h2⟩
end
section
variable {K:NR}
theorem Ae (S:bw c σ H Hf ρ) (hi:At ρ i r) (hr:r.qk=some d0) (hs:SSet ρ i (.va d0) ρ')
 (h:∀ q u o,H q=some u->Hf q=none->HO.dct u->bw c σ (upd H q (.frz o u)) (upd Hf q (.frz o u)) ρ'->bE c.X e σ (upd H q (.frz o u)) λv H'=>∃ ah,br (upd H q (.frz o u)) (upd Hf q (.frz o u)) H' ah/\Q v (upd H' q u)):bE c.X e σ H Q:=by
 obtain ⟨q,u,hq,rN,hd,S1⟩:=S.DE hi.get hr
 intro aa s I
 obtain ⟨o,I1,nf⟩:=DC I hq hd
 have S2:=S1 o
 rw [<- hs.eq] at S2
 refine bD (h q u o hq rN hd S2 aa s I1) λv s' ⟨x,H',I',rv,ah,g,hQ⟩=>⟨x,_,Ac I' (g.s q _ af) nf,rv,hQ⟩
theorem sG (i) {R:Sl->Prop} (hi:At ρ i r) (hr:r.qk=some d0) (hs:SSet ρ i (.va d0) ρ') (h:cS c e ρ' λd=>Sd d.nl (R d)):cS c e ρ R:=λσ H Hf Q S q=>by
 refine Ae S hi hr hs λa u o ha yw hd S1=>h σ _ _ _ S1 λr1 v H' ah ⟨fl,rd⟩ rv g=>⟨ah,g,?_⟩
 have hp:=g.f a _ af
 refine q r1 v _ (del ah a) rd ?_ (w9 S.sb ha yw g)
 have hH:H' a=some (.frz o u):=g.s a _ af
 cases r1 with
 | va d=>exact Ad hp hd d fl rv
 | ow ds =>
  obtain ⟨b,xs,rfl,fb,h1,h2,h3⟩:=rv
  have nb:b≠a:=by rintro rfl; rw [show (upd H b (.frz o u)) b=_ from af] at fb; cases fb
  exact ⟨b,xs,rfl,by rw [aj nb] at fb; exact fb,by rw [aj nb]; exact h1,by rw [cC nb]; exact h2,ou hp hd ds fl h3⟩
 | _=>exact fl.elim
end
def Af (h:Heap) (it d:Addr) (i n ep:Nat):Prop :=
 ∃ (x:Value) (f:Bool) (k v:Value),h.get? it=some { cls:=.type "dict_itemiterator",dict:=none,data:=.fields #[x,.bool f,.ref d,.int i 0,.int n 0,.int ep 0,k,v],slots:= #[] }/\(x=.none\/∃ a:Addr,x=rawInt a)
section
variable {s:Shared} {i n ep:Nat}
theorem oA:Tj "dict_itemiterator"=true:=by decide
theorem ql (h:Q (s.heap.get? a) s):wpAny M A (loadIfAlive a) Q E s:=λΓ p z=>by
 show Sem.wp M Γ (Sem.loadIfAlive a Sem.pure) _ _ p s
 rw [Sem.wp_loadIfAlive,Sem.wp]
 exact h
theorem Ag (hs:s.heap=h) (hit:h.get? it=some { cls:=.type "dict_itemiterator",dict:=none,data:=.fields #[x,.bool f,.ref d,.int i 0,.int n 0,.int ep 0,k,v],slots:= #[] }) (hx:x=.none\/∃ a:Addr,x=rawInt a)
 (hQ:∀ h',Af h' it d i n ep->h'.get? h.objs.size=some { cls:=.type "tuple",data:=.seq #[a,b] }->h'.objs.size=h.objs.size+1->(∀ c o,c≠it->h.get? c=some o->h'.get? c=some o)->Q (.ref h.objs.size) { s with heap:=h' }) :
 wpAny (model prog w) A (Tg (.ref it) 6 a b) Q E s:=by
 subst hs
 have lt:it<s.heap.objs.size:=N1 hit
 have ne:s.heap.objs.size≠it:=Q6 lt
 unfold Tg
 refine NP (wpAny_newTuple ?_)
 have rL:=NY ({ cls:=.type "tuple",data:=.seq [a,b].toArray }:Obj) hit
 have htu:(s.heap.push { cls:=.type "tuple",data:=.seq [a,b].toArray }).get? s.heap.objs.size=some { cls:=.type "tuple",data:=.seq #[a,b] }:=Ob _ rfl
 have hsz:(s.heap.push { cls:=.type "tuple",data:=.seq [a,b].toArray }).objs.size=s.heap.objs.size+1:=Qd ..
 have hold:∀ c o,s.heap.get? c=some o->(s.heap.push { cls:=.type "tuple",data:=.seq [a,b].toArray }).get? c=some o:=λc o e=>NY _ e
 generalize (s.heap.push { cls:=.type "tuple",data:=.seq [a,b].toArray })=h2 at rL htu hsz hold |-
 have free:wpAny (model prog w) A (do
  let old:=[<- field (.ref it) 6,<- field (.ref it) (6+1)]
  setField (.ref it) 6 a; setField (.ref it) (6+1) b
  setField (.ref it) 0 (rawInt s.heap.objs.size); setField (.ref it) 1 (.bool false)
  letGo old [.ref s.heap.objs.size]
  pure (Ol s.heap.objs.size)) Q E { s with heap:=h2 }:=by
  refine NP (PU rL rfl (x:=k) rfl (NP (PU rL rfl (x:=v) rfl ?_)))
  refine NP (Qt rL (by simp) λh3 e3 s3=>?_)
  refine NP (Qt e3 (by simp) λh4 e4 s4=>?_)
  refine NP (Qt e4 (by simp) λh5 e5 s5=>?_)
  refine NP (Qt e5 (by simp) λh6 e6 s6=>?_)
  have keep:∀ c o,c≠it->h2.get? c=some o->h6.get? c=some o:=λc o hc e=>s6.extBut c o hc (s5.extBut c o hc (s4.extBut c o hc (s3.extBut c o hc e)))
  refine NP (S9 (NS (hQ h6 ⟨_,_,_,_,e6,.inr ⟨_,rfl⟩⟩ (keep _ _ ne htu) ?_ λc o hc e=>keep c o hc (hold c o e))))
  rw [s6.1,s5.1,s4.1,s3.1,hsz]
 have told:∀ (h3:Heap) (x:Value) (f:Bool),h3.get? it=some { cls:=.type "dict_itemiterator",dict:=none,data:=.fields #[x,.bool f,.ref d,.int i 0,.int n 0,.int ep 0,k,v],slots:= #[] }->(x=.none\/∃ a:Addr,x=rawInt a) ->
  Pb it h2 h3->Q (.ref s.heap.objs.size) { s with heap:=h3 }:=λh3 x f e hx' s3 =>
  hQ h3 ⟨x,f,k,v,e,hx'⟩ (s3.extBut _ _ ne htu) (by rw [s3.1,hsz]) λc o hc e=>s3.extBut c o hc (hold c o e)
 show wpAny _ _ (Um (.ref it) >>= _) _ _ _
 unfold Um
 refine NP (NP (PU rL rfl (x:=x) rfl ?_))
 rcases hx with rfl | ⟨a0,rfl⟩
 ·exact NS free
 ·show wpAny _ _ (loadIfAlive (a0:Int).toNat >>= _) _ _ _
  refine NP (ql ?_)
  split
  ·exact NS free
  ·refine NP ?_
   refine PU rL rfl (x:=.bool f) rfl ?_
   cases f with
   | true =>
    dsimp only
    rw [if_neg (by decide)]
    exact NS (NS (told h2 _ _ rL (.inr ⟨a0,rfl⟩) (.refl ..)))
   | false =>
    dsimp only
    rw [if_pos (by decide)]
    refine NP (Qt rL (by simp) λh3 e3 s3=>?_)
    exact NS (NS (told h3 _ true e3 (.inr ⟨a0,rfl⟩) s3))
theorem Af.HV (h:Af s.heap it d i n ep):s.TypeIs (.ref it) "dict_itemiterator":=let ⟨_,_,_,_,e,_⟩:=h; ⟨_,e,rfl⟩
theorem next_item (hit:Af s.heap it d i es.size ep) (hod:s.heap.get? d=some od) (hdd:od.data=.dict es ep) (hx:es[i]?=some e)
 (hQ:∀ h',Af h' it d (i+1) es.size ep->h'.get? s.heap.objs.size=some { cls:=.type "tuple",data:=.seq #[e.key,e.val] }->h'.objs.size=s.heap.objs.size+1->(∀ c o,c≠it->s.heap.get? c=some o->h'.get? c=some o)->Q (some (.ref s.heap.objs.size)) { s with heap:=h' }) :
 wpAny (model prog w) A (pyNext (.ref it)) Q E s:=by
 have hT:=hit.HV
 obtain ⟨x,f,k,v,hat,hxx⟩:=hit
 have hlt:i<es.size:=(QS.mp hx).1
 unfold pyNext
 refine NP (Qe (P7 (name:=NQ "__next__") hT QL (Pq QL hT Ut ?_ (Uq _))))
 refine NP (NS (NP (NP ?_)))
 first | refine NP (RO hT (NS ?_)) | refine NP (RS hT (NS ?_))
 refine NP (SG hat rfl ?_)
 simp only [oA,if_true]
 show wpAny _ _ (if (Ol d == OX)=true then _ else _) _ _ _
 rw [if_neg (show ¬ (Ol d == OX)=true from N5)]
 refine NP (NS (NP (Q0 hod hdd ?_)))
 rw [if_neg (by simp)]
 refine NP (NS (NP (Q4 hod hdd ?_)))
 rw [if_neg (by simp)]
 refine NS ?_
 simp only [show ¬ ((i:Int)<0) from by lia,if_false,OH,hx]
 refine NP ?_
 first | refine NP (RO hT (NS ?_)) | refine NP (RS hT (NS ?_))
 refine NP (Tz hT ?_)
 show wpAny _ _ (setField (.ref it) 3 (rawInt ((i:Int)+1)) >>= _) _ _ s
 refine NP (Qt hat (by simp) λh1 e1 s1=>?_)
 have e1':h1.get? it=some { cls:=.type "dict_itemiterator",dict:=none,data:=.fields #[x,.bool f,.ref d,.int ((i+1:Nat):Int) 0,.int es.size 0,.int ep 0,k,v],slots:= #[] }:=by
  have q:((i+1:Nat):Int)=(i:Int)+1:=by lia
  rw [q]; simpa [rawInt] using e1
 have hT1:Shared.TypeIs { s with heap:=h1 } (.ref it) "dict_itemiterator":=⟨_,e1',rfl⟩
 refine NP (O6 ?_)
 refine NP (Tz hT1 (NP (Tz hT1 ?_)))
 show wpAny _ _ (Tg (.ref it) 6 e.key e.val) _ _ { s with heap:=h1 }
 have z1:h1.objs.size=s.heap.objs.size:=s1.1
 refine Ag (s:={ s with heap:=h1 }) rfl e1' hxx λh2 g2 t2 z2 k2=>?_
 rw [z1] at t2 z2 |-
 exact NS ⟨_,rfl,NS (hQ h2 g2 t2 z2 λc o hc q=>k2 c o hc (s1.extBut c o hc q))⟩
theorem next_end (hh:A.handled=none) (hit:Af s.heap it d i es.size ep) (hod:s.heap.get? d=some od) (hdd:od.data=.dict es ep) (hx:es.size<=i)
 (hQ:∀ h',Qi it s.heap h'->Q none { s with heap:=h' }):wpAny (model prog w) A (pyNext (.ref it)) Q E s:=by
 have hT:=hit.HV
 obtain ⟨x,f,k,v,hat,hxx⟩:=hit
 unfold pyNext
 refine NP (Qe (P7 (name:=NQ "__next__") hT QL (Pq QL hT Ut ?_ (Uq _))))
 refine NP (NS (NP (NP ?_)))
 first | refine NP (RO hT (NS ?_)) | refine NP (RS hT (NS ?_))
 refine NP (SG hat rfl ?_)
 simp only [oA,if_true]
 show wpAny _ _ (if (Ol d == OX)=true then _ else _) _ _ _
 rw [if_neg (show ¬ (Ol d == OX)=true from N5)]
 refine NP (NS (NP (Q0 hod hdd ?_)))
 rw [if_neg (by simp)]
 refine NP (NS (NP (Q4 hod hdd ?_)))
 rw [if_neg (by simp)]
 refine NS ?_
 simp only [show ¬ ((i:Int)<0) from by lia,if_false,OH,Array.getElem?_eq_none hx]
 refine NP ?_
 first | refine NP (RO hT (NS ?_)) | refine NP (RS hT (NS ?_))
 show wpAny _ _ (setField (.ref it) 2 .none >>= _) _ _ s
 refine NP (Rx hat rfl (by simp) (NP ?_))
 simp only [newExc,newTuple]
 refine NP (O0 ?_ (by size_fits))
 refine NP (m:=firstArgMember _ _) (wpAny_of_eq (a:=OX) (by first | rfl | (simp only [firstArgMember]; rfl)) ?_)
 refine O0 ?_ (by size_fits)
 simp only [raiseNew]
 refine NP (wpAny_handled ?_)
 rw [show A.in1.handled=none from hh]
 refine NP (NS (wpAny_throw ?_))
 refine NP (Ss (T:="StopIteration") (b:=true) ⟨_,Ob _ rfl,rfl⟩ isSubtype_stop ?_)
 exact NS (hQ _ (((Rl ..).extBut.push _).push _))
theorem DG (hit:Af s.heap it d i n ep) (h:∀ h',Af h' it d i n ep->Pb it s.heap h'->Q () { s with heap:=h' }):wpAny (model prog w) A (letOwnedTupleGo tg (.ref it) (.ref a)) Q E s:=by
 have stay:Q () s:=h s.heap hit (.refl ..)
 obtain ⟨x,f,k,v,hat,hxx⟩:=hit
 have part:wpAny (model prog w) A (do
  let o <- load it
  match o.cls,o.data with
  | .type n,.fields vs =>
   if (["enumerate","zip","dict_itemiterator","dict_reverseitemiterator","odict_iterator","itertools.zip_longest","itertools.pairwise"].contains n && vs[0]? == some (rawInt a))=true then do
    rule "for.unpacks-the-owned-tuple"
    updateField it 0 .none
   else pure ()
  | _,_=>pure ()) Q E s:=by
  refine NP (wpAny_load hat ?_)
  dsimp only
  split
  ·refine NP (Pe ?_)
   show wpAny _ _ (setField (.ref it) 0 .none) Q E s
   exact Qt hat (by simp) λh' e' s'=>h h' ⟨_,_,_,_,e',.inl rfl⟩ s'
  ·exact NS stay
 unfold letOwnedTupleGo
 cases tg <;> first
  | exact NS stay
  | exact part
end
noncomputable def bO:HO->List (V×V)
 | .dK ys=>ys.map λy=>(kV y.1,y.2)
 | .dT ys=>ys.map λy=>(.ref y.2.1,y.2.2)
 | _=>[]
theorem u6 (h:kq k v=true):RelV (kV k) v:=by
 rcases bJ h with ⟨i,t,rfl,rfl⟩ | ⟨x,t,rfl,rfl⟩
 ·exact ⟨t,rfl⟩
 ·exact ⟨t,rfl⟩
theorem cP (ok:bq P w H h d u) (hd:HO.dct u) (ho:h.get? d=some o) :
 o.ExactDict/\∃ es ep,o.data=.dict es ep/\Paired (λ(a:V×V) (e:DictEntry)=>RelV a.1 e.key/\RelV a.2 e.val) (bO u) es.toList/\(d == sysModules)=false/\(bO u).length<=sizeLine:=by
 cases u with
 | dK ys =>
  obtain ⟨z,y,vs,kv,o',es,ep,h1,h2,h3,h4,h5,h6⟩:=ok
  rw [ho] at h1; cases h1
  refine ⟨h2,es,ep,h3,?_,y,by simpa [bO] using z⟩
  show Paired _ (ys.map _) _
  clear h3 h4 h6 z
  generalize es.toList=l at h5 |-
  unfold KV at kv
  induction kv generalizing l with
  | nil=>cases h5; exact .nil
  | @cons a b as bs q t ih =>
   cases h5 with
   | cons r t' t''=>exact .cons ⟨by show L2.RelV (kV a.1) _; rw [q.1]; exact u6 r,by rw [t']; exact q.2⟩ (ih hd _ t'')
 | dT ys =>
  obtain ⟨z,y,xs,kv,o',es,ep,h1,h2,h3,h4,h5⟩:=ok
  rw [ho] at h1; cases h1
  refine ⟨h2,es,ep,h3,?_,y,by simpa [bO] using z⟩
  rw [h4]
  show Paired _ (ys.map _) _
  clear h3 h4 h5 z
  induction kv with
  | nil=>exact .nil
  | @cons a b as bs q t ih =>
   rw [NW,NW]
   refine .cons ⟨?_,q.2.2⟩ (ih hd)
   show Ol b.2.1=Ol a.2.1
   rw [q.2.1]
 | _=>exact hd.elim
theorem dI:∀ {l:List α} {m:List β} {i:Nat} {a:α},Paired F l m->l[i]?=some a->∃ b,m[i]?=some b/\F a b
 | _,_,_,_,.nil,e=>by simp at e
 | _,_,0,_,.cons r _,e=>by simp at e; subst e; exact ⟨_,rfl,r⟩
 | _,_,i+1,a,.cons _ t,e=>by
  obtain ⟨b,h1,h2⟩:=dI (i:=i) t (by simpa using e)
  exact ⟨b,by simpa using h1,h2⟩
noncomputable def M5 (d:Addr) (o:Obj) (u:HO):It :=
 ⟨λi H=>H d=some (.frz o u)/\i<(bO u).length,λi H x H'=>∃ p kv,(bO u)[i]?=some kv/\x=.ref p/\H p=none/\H'=upd H p (.tup [kv.1,kv.2]),λi H=>H d=some (.frz o u)/\(bO u).length<=i⟩
theorem xg:entryFor table "dict_itemiterator.__iter__"=some Builtin.«dict_keyiterator.__iter__» :=entryFor_alias (id':="dict_keyiterator.__iter__") (by kernel_rfl) rfl (by decide +kernel) (by kernel_rfl)
theorem sH {P:Program} {w:World} {K:NR} {tg:Expr} {d it:Addr} {o:Obj} {u:HO} {es:Array DictEntry} {ep:Nat} (hd:HO.dct u) (hod:o.data=.dict es ep) (hne:it≠d) (hes:es.size=(bO u).length) :
 Turn P w K tg (M5 d o u) [it] it (λi h=>Af h it d i es.size ep) where
 mem:=by simp
 obj:=λi h st b hb=>by
  have e:b=it:=by simpa using hb
  subst e
  obtain ⟨x,f,k,v,e,_⟩:=st
  exact ⟨_,e,λv z=>by
   have z':Tf _=Data.cell v:=z
   cases z'⟩
 keep:=λi h h' st k=>by
  obtain ⟨x,f,kk,v,e,hx⟩:=st
  exact ⟨x,f,kk,v,k it (by simp) _ e,hx⟩
 item:=by
  intro X hP hw hK hc i aa s σ H E I hf st hg
  subst hP hw hK
  obtain ⟨hH,hi⟩:=hg
  obtain ⟨f0,f1,f2,f3,f4,f5⟩:=hf it (by simp)
  obtain ⟨ho,ok⟩:=(show bq X.prog X.w H s.heap d (.frz o u) from I.hok d _ hH)
  obtain ⟨_,es',ep',e1,e2,_⟩:=cP ok hd ho
  rw [hod] at e1; cases e1
  obtain ⟨e,he,re⟩:=dI e2 (Od hi)
  have he':es[i]?=some e:=by simpa using he
  refine next_item st ho hod he' λh1 g1 t1 z1 k1=>?_
  have hil:it<s.heap.objs.size:=by
   obtain ⟨_,_,_,_,q,_⟩:=st
   exact N1 q
  have Hp:H s.heap.objs.size=none:=I.hok.fresh (NT _)
  have hit0:it≠s.heap.objs.size:=Ou hil
  generalize hkv:(bO u)[i]=kv at re
  have IA:Inv X aa σ (upd H s.heap.objs.size (.tup [kv.1,kv.2])) { s with heap:=s.heap.push { cls:=.type "tuple",data:=.seq #[e.key,e.val] },toks:=s.toks } :=
   I.laid (a:=s.heap.objs.size) (o:=.tup [kv.1,kv.2]) (λ_ _ q=>NY _ q) (NT _) ⟨by show 2<=sizeLine; decide,[e.key,e.val],.cons re.1 (.cons re.2 .nil),_,Ob _ rfl,rfl,0,rfl⟩
  have g0:upd H s.heap.objs.size (.tup [kv.1,kv.2]) it=none:=by rw [aj hit0]; exact f0
  have I1:Inv X aa σ (upd H s.heap.objs.size (.tup [kv.1,kv.2])) { s with heap:=h1,toks:=s.toks }:=IA.turned (λb o hb q=>by
   by_cases z:b=s.heap.objs.size
   ·subst z
    rw [Ob _ rfl] at q; cases q; exact t1
   ·have lt:b<s.heap.objs.size:=by
     have:=N1 q
     rw [Qd] at this
     exact Nat.lt_of_le_of_ne (Nat.le_of_lt_succ this) z
    refine k1 b o hb ?_
    rw [Heap.get?_push_ne _ _ _ z] at q; exact q) g0 f1 f3 f4 f5
  refine ⟨_,rfl,DG (s:={ s with heap:=h1 }) g1 λh2 g2 s2=>?_⟩
  refine ⟨.ref s.heap.objs.size,_,I1.turned (t':=s.toks) (λb o hb q=>(s2.2 b hb).trans q) g0 f1 f3 f4 f5,rfl,⟨_,kv,by rw [Od hi,hkv],rfl,Hp,rfl⟩,g2,λb hb=>?_⟩
  have e:b=it:=by simpa using hb
  rw [e]; exact g0
 done:=by
  intro X hP hw hK hc i aa s σ H E I hf st hg
  subst hP hw hK
  obtain ⟨hH,hi⟩:=hg
  obtain ⟨f0,f1,f2,f3,f4,f5⟩:=hf it (by simp)
  obtain ⟨ho,ok⟩:=(show bq X.prog X.w H s.heap d (.frz o u) from I.hok d _ hH)
  exact next_end (I.ok.hd hc) st ho hod (by lia) λh' eb=>⟨rfl,I.turned (t':=s.toks) (λb o hb e=>eb b o hb e) f0 f1 f3 f4 f5⟩
 self:=by
  intro A i s Q E st h
  have hT:=st.HV
  refine T6 hT Uw (Pq Uw hT xg ?_ (F.args_dict_itemiterator_iter_1 _))
  show wpAny _ _ (ret (.ref it)) _ _ s
  exact NS ⟨_,rfl,"dict_itemiterator",_,hT,QL.lookup,h⟩
theorem qm (d) (hd:(d == sysModules)=false) :
 MeetsIn prog w (Builtin.«dict.items» ⟨[.ref d],[]⟩) (λ_ R s=>s.TypeIs (.ref d) "dict"/\R (.ok (.ret (.ref s.heap.objs.size))) { s with heap:=s.heap.push { cls:=.type "dict_items",data:=.fields #[.ref d] } }) :=
 .of_wp λA R s ⟨hT,h⟩=>by
  unfold Builtin.«dict.items»
  refine NP ?_
  unfold Builtin.Dict.noArgs
  refine NP (wpAny_notOrdered_dict hT (show wpAny _ _ (pure d) _ _ s from NS ?_))
  show wpAny _ _ (R6 d >>= _) _ _ s
  unfold R6
  rw [if_neg (by rw [hd]; exact N5)]
  exact NP (NS (NP (O0 (NS ⟨_,rfl,h⟩))))
theorem xh (hv:s.heap.IsItemsView v d) (hod:s.heap.get? d=some od) (hdd:od.data=.dict es ep)
 (hQ:Q (.ref s.heap.objs.size) { s with heap:=s.heap.push { cls:=.type "dict_itemiterator",data:=.fields #[.none,.bool false,.ref d,.int 0 0,.int es.size 0,.int ep 0,.none,.none] } }) :
 wpAny (model prog w) A (pyIter (.ref v)) Q E s:=by
 obtain ⟨ov,hov,hcv,hdv⟩:=id hv
 refine T6 hv.typeIs F.slot_dict_items_iter (Pq F.slot_dict_items_iter hv.typeIs F.entry_dict_items_iter ?_ (F.args_dict_items_iter_1 _))
 unfold Builtin.«dict_items.__iter__»
 refine NP (NS (NP ?_))
 unfold Builtin.Dict_items.dictOf
 refine NP (PU hov hdv (x:=.ref d) rfl (NS (NP ?_)))
 unfold Builtin.Dict_items.newIterator
 refine NP (Q0 hod hdd (NP (Q4 hod hdd ?_)))
 simp only [oA,if_true]
 refine O0 (NS ⟨_,rfl,"dict_itemiterator",_,⟨_,Ob _ rfl,rfl⟩,QL.lookup,?_⟩)
  (by simp only [sizeOk,Uo,Of,OF,Oz,PB,sizeLine_eq]; lia)
 simpa [rawInt,Uo] using hQ
noncomputable def xj:Key->D | .inl i=>.int i | .inr x=>.str x
noncomputable def D.pairs:D->Option (List D)
 | .fdK ks ds=>some (S0 (λk d=>D.tup [xj k,d]) ks ds)
 | .fdT ks ds=>some (S0 (λk d=>D.tup [.tup (k.map xj),d]) ks ds)
 | _=>none
section
variable {K:NR} {Hf:Hp}
theorem qo:Rep K Hf (xj k) (kV k):=by
 cases k with
 | inl i=>exact av.mpr rfl
 | inr x=>exact fN.mpr rfl
theorem m6:∀ {ks:List Key},ak K Hf (ks.map xj) (ks.map kV)
 | []=>aA.mpr rfl
 | k::ks=>.cons qo m6
def m8 (K:NR) (Hf:Hp) (d:D) (kv:V×V):Prop:=∃ k e,d=.tup [k,e]/\Rep K Hf k kv.1/\Rep K Hf e kv.2
theorem u7:∀ {ys:List (Key×V)} {vs:List D},ak K Hf vs (ys.map (·.2))->Paired (m8 K Hf) (S0 (λk d=>D.tup [xj k,d]) (ys.map (·.1)) vs) (ys.map λy=>(kV y.1,y.2))
 | [],vs,h=>by
  cases vs with
  | nil=>exact .nil
  | cons d ds=>obtain ⟨x,r,e,_⟩:=aC.mp h; cases e
 | y::ys,vs,h=>by
  cases vs with
  | nil=>rw [aA] at h; cases h
  | cons d ds =>
   obtain ⟨x,r,e,h1,h2⟩:=aC.mp h
   cases e
   exact .cons ⟨_,_,rfl,qo,h1⟩ (u7 h2)
theorem u9:∀ {ys:List (List Key×Addr×V)} {vs:List D},(∀ y∈ys,dB K Hf y.2.1 (y.1.map kV))->ak K Hf vs (ys.map (·.2.2))->Paired (m8 K Hf) (S0 (λk d=>D.tup [.tup (k.map xj),d]) (ys.map (·.1)) vs) (ys.map λy=>(.ref y.2.1,y.2.2))
 | [],vs,_,h=>by
  cases vs with
  | nil=>exact .nil
  | cons d ds=>obtain ⟨x,r,e,_⟩:=aC.mp h; cases e
 | y::ys,vs,hk,h=>by
  cases vs with
  | nil=>rw [aA] at h; cases h
  | cons d ds =>
   obtain ⟨x,r,e,h1,h2⟩:=aC.mp h
   cases e
   exact .cons ⟨_,_,rfl,aH.mpr ⟨_,_,rfl,hk y N2,m6⟩,h1⟩ (u9 (λz hz=>hk z (N6 _ hz)) h2)
theorem xm (hp:d.pairs=some ds) (h:Rep K Hf d v):∃ a o u,v=.ref a/\Hf a=some (.frz o u)/\HO.dct u/\Paired (m8 K Hf) ds (bO u):=by
 cases d with
 | fdK ks vs =>
  cases hp
  obtain ⟨a,ys,o,rfl,h1,h2,h3⟩:=iK.mp h
  subst h2
  exact ⟨a,o,_,rfl,h1,trivial,u7 h3⟩
 | fdT ks vs =>
  cases hp
  obtain ⟨a,ys,o,rfl,h1,h2,h3,h4⟩:=iL.mp h
  subst h2
  exact ⟨a,o,_,rfl,h1,trivial,u9 h3 h4⟩
 | _=>cases hp
theorem sI {ds:List D} {a:Addr} {o:Obj} {u:HO} (h:Hf a=some (.frz o u)) (hp:Paired (m8 K Hf) ds (bO u)):jn K (M5 a o u) ds Hf where
 go:=λi d H aP s1 s2 e=>by
  obtain ⟨kv,ekv,k,dd,rfl,r1,r2⟩:=dI hp e
  refine ⟨⟨s2 _ _ (s1 _ _ h),(N4.mp ekv).1⟩,λx H' ⟨p,kv',e1,e2,e3,e4⟩=>?_⟩
  rw [ekv] at e1; cases e1
  subst e2 e4
  have g:=br.new s2 e3 (o:=.tup [kv.1,kv.2])
  exact ⟨upd aP p (.tup [kv.1,kv.2]),g,aH.mpr ⟨p,_,rfl,.inl (.inl af),.cons (Rep.mono (s1.trans g.f) _ r1) (.cons (Rep.mono (s1.trans g.f) _ r2) (aA.mpr rfl))⟩⟩
 stop:=λi H aP s1 s2 e=>⟨s2 _ _ (s1 _ _ h),by rw [<- Pc hp]; exact e⟩
end
section
variable {K:NR}
end
end EV
namespace SR
open PySem PyProof.Rows
noncomputable def c6:Bool->Keyed->Array Keyed->Nat->Nat->Nat->StateT SortSt Sem (Option Nat):=sortPriv% PySem.Builtin.gallop
noncomputable def cK:Nat->StateT SortSt Sem Unit:=sortPriv% PySem.Builtin.setMinGallop
noncomputable def d8 (left:Bool) (key:Keyed) (arr:Array Keyed) (base i:Nat):StateT SortSt Sem (Option Bool):=do
 let x <- elem' arr (base+i)
 if left then lt' x key else return (<- lt' key x).map (!·)
noncomputable abbrev qp:=Option (Option Nat)×Nat×Nat
noncomputable def kT (bey:Nat->StateT SortSt Sem (Option Bool)) (n lo hi:Nat):StateT SortSt Sem (Option Nat):=do
 let __s <- forIn [0:n] ((none,lo,hi):qp) λ_ __s =>
  if __s.snd.fst>=__s.snd.snd then pure (Pn (none,__s.snd.fst,__s.snd.snd))
  else do
   let __x <- bey (__s.snd.fst+(__s.snd.snd - __s.snd.fst) / 2)
   match __x with
   | some more=>if more=true then pure (OQ (none,__s.snd.fst+(__s.snd.snd - __s.snd.fst) / 2+1,__s.snd.snd)) else pure (OQ (none,__s.snd.fst,__s.snd.fst+(__s.snd.snd - __s.snd.fst) / 2))
   | _=>pure (Pn (some none,__s.snd.fst,__s.snd.snd))
 match __s.fst with
 | some r=>pure r
 | none=>pure (some __s.snd.snd)
noncomputable def Ah (bey:Nat->StateT SortSt Sem (Option Bool)) (n hint maxofs:Nat):StateT SortSt Sem qp :=
 forIn [0:n] ((none,0,1):qp) λ_ __s =>
  if __s.snd.snd>=maxofs then pure (Pn (none,__s.snd.fst,__s.snd.snd))
  else do
   let __x <- bey (hint+__s.snd.snd)
   match __x with
   | some more=>if (!more)=true then pure (Pn (none,__s.snd.fst,__s.snd.snd)) else pure (OQ (none,__s.snd.snd,2 * __s.snd.snd+1))
   | _=>pure (Pn (some none,__s.snd.fst,__s.snd.snd))
noncomputable def Ai (bey:Nat->StateT SortSt Sem (Option Bool)) (n hint maxofs:Nat):StateT SortSt Sem qp :=
 forIn [0:n] ((none,0,1):qp) λ_ __s =>
  if __s.snd.snd>=maxofs then pure (Pn (none,__s.snd.fst,__s.snd.snd))
  else do
   let __x <- bey (hint - __s.snd.snd)
   match __x with
   | some found=>if found=true then pure (Pn (none,__s.snd.fst,__s.snd.snd)) else pure (OQ (none,__s.snd.snd,2 * __s.snd.snd+1))
   | _=>pure (Pn (some none,__s.snd.fst,__s.snd.snd))
local macro_rules | `(tactic| walk_at "dl gallop")=>do
 let i:=QE (Qo `PySem.Builtin.List.W1All `PySem.Builtin.gallop)
 `(tactic| delta $i)
theorem sJ (left) (key) (arr) (base n hint):c6 left key arr base n hint=(do
 let __x <- d8 left key arr base hint
 match __x with
 | some right =>
  if right=true then do
   let __s <- Ah (d8 left key arr base) n hint (n - hint)
   match __s.fst with
   | some r=>pure r
   | none=>kT (d8 left key arr base) n (hint+__s.snd.fst+1) (hint+min __s.snd.snd (n - hint))
  else do
   let __s <- Ai (d8 left key arr base) n hint (hint+1)
   match __s.fst with
   | some r=>pure r
   | none=>kT (d8 left key arr base) n (hint+1 - min __s.snd.snd (hint+1)) (hint - __s.snd.fst)
 | _=>pure none):=by
 unfold c6
 walk_at "dl gallop"
 unfold Ah Ai kT d8
 dsimp only
 congr 1
 funext x
 cases x with
 | none=>rfl
 | some right =>
  dsimp only
  cases right with
  | true =>
   rw [if_pos rfl,if_pos rfl]
   congr 1
   funext c
   obtain ⟨r,l,o⟩:=c
   cases r with
   | some r=>rfl
   | none =>
    dsimp only
    congr 1
    funext c
    obtain ⟨r,l,o⟩:=c
    cases r <;> rfl
  | false =>
   rw [if_neg N5,if_neg N5]
   congr 1
   funext c
   obtain ⟨r,l,o⟩:=c
   cases r with
   | some r=>rfl
   | none =>
    dsimp only
    congr 1
    funext c
    obtain ⟨r,l,o⟩:=c
    cases r <;> rfl
def iH (prog:Program) (w:World) (A:Around) (s:Shared) (κ:SortKind) (rk:Keyed->Int) (L:List Keyed):Prop :=
 ∀ x∈L,∀ y∈L,∀ (E:Value->Shared->Prop) (Q:Bool->Shared->Prop),Q (decide (rk x<rk y)) s->wpAny (model prog w) A (keyLt' κ x.1 y.1) Q E s
noncomputable def R (rk:Keyed->Int) (xs:Array Keyed) (i:Nat):Int:=match xs[i]? with | some p=>rk p | none=>0
theorem d9 (h:xs[i]?=some p):R rk xs i=rk p:=by unfold R; rw [h]
theorem cA (h:xs[i]?=ys[j]?):R rk xs i=R rk ys j:=by unfold R; rw [h]
theorem kU {st:SortSt} (hC:iH prog w A s κ rk L) (hk:kindOf st=κ) (hx:x∈L) (hy:y∈L) (h:Q (some (decide (rk x<rk y))) st):wpS (model prog w) A E s (lt' x y) Q st:=by
 rw [lt'_eq]
 refine NU (Pp ?_)
 rw [hk]
 refine NU (Ql (Qe (hC x hx y hy _ _ ⟨rfl,?_⟩)))
 exact NV h
theorem aS {st:SortSt} (hi:arr[i]?=some p) (h:Q p st):wpS (model prog w) A E s (elem' arr i) Q st:=by
 rw [elem'_eq,hi]; exact NV h
theorem xo {st:SortSt} (hC:iH prog w A s κ rk L) (hk:kindOf st=κ) (hi:(arrOf st)[i]?=some p) (hj:(arrOf st)[j]?=some q) (hp:p∈L) (hq:q∈L)
 (h:Q (some (decide (R rk (arrOf st) i<R rk (arrOf st) j))) st):wpS (model prog w) A E s (ltAt' i j) Q st:=by
 rw [ltAt'_eq]
 refine NU (Pp ?_)
 show wpS _ _ _ _ (do let x <- elem' (arrOf st) i; let y <- elem' (arrOf st) j; lt' x y) Q st
 refine NU (aS hi (NU (aS hj (kU hC hk hp hq ?_))))
 rw [d9 hi,d9 hj] at h
 exact h
theorem sL {st:SortSt} (hC:iH prog w A s κ rk L) (hk:kindOf st=κ) (hkey:key∈L) (hi:arr[base+i]?=some p) (hp:p∈L)
 (hb:(if left=true then rk p<rk key else rk p<=rk key)↔i<k) (h:Q (some (decide (i<k))) st):wpS (model prog w) A E s (d8 left key arr base i) Q st:=by
 unfold d8
 refine NU (aS hi ?_)
 cases left with
 | true =>
  simp only [if_true] at hb |-
  refine kU hC hk hp hkey ?_
  rw [decide_eq_decide.mpr hb]; exact h
 | false =>
  simp only [ON,if_false] at hb |-
  refine NU (kU hC hk hkey hp (NV ?_))
  have e:(!decide (rk key<rk p))=decide (i<k):=by
   rw [<- decide_not]; exact decide_eq_decide.mpr (by rw [<- hb]; omega)
  rw [Option.map_some,e]; exact h
theorem kW {st:SortSt} {n lo hi k:Nat} (hb:∀ i,i<n->∀ (Q:Option Bool->SortSt->Prop),Q (some (decide (i<k))) st->wpS (model prog w) A E s (bey i) Q st)
 (h1:lo<=k) (h2:k<=hi) (h3:hi<=n) (h:Q (some k) st):wpS (model prog w) A E s (kT bey n lo hi) Q st:=by
 unfold kT
 refine NU (OE (O1 (I:=λx c st'=>st'=st/\∃ l r,c=(none,l,r)/\l<=k/\k<=r/\r<=n/\r - l<=n - x) (Q:=λc st'=>st'=st/\∃ l,c=(none,l,k)) ?step ?fin ⟨rfl,lo,hi,rfl,h1,h2,h3,by omega⟩) ?post)
 case fin =>
  rintro c st' ⟨rfl,l,r,rfl,a1,a2,a3,a4⟩
  have:r=k:=by omega
  subst this
  exact ⟨rfl,l,rfl⟩
 case step =>
  rintro x c st' _ hx ⟨rfl,l,r,rfl,a1,a2,a3,a4⟩
  dsimp only
  by_cases hge:l>=r
  ·rw [if_pos hge]
   have:r=k:=by omega
   subst this
   exact NV ⟨rfl,l,rfl⟩
  ·rw [if_neg hge]
   refine NU (hb _ (by omega) _ ?_)
   dsimp only
   by_cases hm:l+(r - l) / 2<k
   ·rw [decide_eq_true hm,if_pos rfl]
    exact NV ⟨rfl,_,_,rfl,by omega,by omega,by omega,by omega⟩
   ·rw [decide_eq_false hm,if_neg N5]
    exact NV ⟨rfl,_,_,rfl,by omega,by omega,by omega,by omega⟩
 case post =>
  rintro c st' ⟨rfl,l,rfl⟩
  exact NV h
theorem fP {st:SortSt} (hC:iH prog w A s κ rk L) (hk:kindOf st=κ) (hkey:key∈L) (harr:∀ i,i<n->∃ p,arr[base+i]?=some p/\p∈L)
 (hb:∀ i,i<n->((if left=true then R rk arr (base+i)<rk key else R rk arr (base+i)<=rk key)↔i<k)) (hkn:k<=n) (hh:hint<n) (h:Q (some k) st):wpS (model prog w) A E s (c6 left key arr base n hint) Q st:=by
 have bey:∀ i,i<n->∀ (Q:Option Bool->SortSt->Prop),Q (some (decide (i<k))) st->wpS (model prog w) A E s (d8 left key arr base i) Q st:=λi hi Q hQ=>by
  obtain ⟨p,e,hp⟩:=harr i hi
  refine sL hC hk hkey e hp ?_ hQ
  have:=hb i hi
  rw [d9 e] at this
  exact this
 rw [sJ]
 refine NU (bey hint hh _ ?_)
 dsimp only
 by_cases hr:hint<k
 ·rw [decide_eq_true hr,if_pos rfl]
  unfold Ah
  refine NU (OE (O1 (I:=λx c st'=>st'=st/\∃ l o,c=(none,l,o)/\hint+l<k/\x<o) (Q:=λc st'=>st'=st/\∃ l o,c=(none,l,o)/\hint+l<k/\(k<=hint+o\/n - hint<=o)) ?step ?fin ⟨rfl,0,1,rfl,hr,by omega⟩) ?post)
  case fin =>
   rintro c st' ⟨rfl,l,o,rfl,a1,a2⟩
   exact ⟨rfl,l,o,rfl,a1,.inr (by omega)⟩
  case step =>
   rintro x c st' _ hx ⟨rfl,l,o,rfl,a1,a2⟩
   dsimp only
   by_cases hge:o>=n - hint
   ·rw [if_pos hge]; exact NV ⟨rfl,l,o,rfl,a1,.inr hge⟩
   ·rw [if_neg hge]
    refine NU (bey _ (by omega) _ ?_)
    dsimp only
    by_cases hm:hint+o<k
    ·rw [decide_eq_true hm]; simp only [RC,ON,if_false]
     exact NV ⟨rfl,o,2 * o+1,rfl,hm,by omega⟩
    ·rw [decide_eq_false hm]; simp only [Bool.not_false,if_true]
     exact NV ⟨rfl,l,o,rfl,a1,.inl (by omega)⟩
  case post =>
   rintro c st' ⟨rfl,l,o,rfl,a1,a2⟩
   dsimp only
   exact kW bey (by omega) (by omega) (by omega) h
 ·rw [decide_eq_false hr,if_neg N5]
  unfold Ai
  refine NU (OE (O1 (I:=λx c st'=>st'=st/\∃ l o,c=(none,l,o)/\l<=hint/\k<=hint - l/\x<o) (Q:=λc st'=>st'=st/\∃ l o,c=(none,l,o)/\l<=hint/\k<=hint - l/\(hint+1<=k+o\/hint+1<=o)) ?step ?fin ⟨rfl,0,1,rfl,by omega,by omega,by omega⟩) ?post)
  case fin =>
   rintro c st' ⟨rfl,l,o,rfl,a1,a2,a3⟩
   exact ⟨rfl,l,o,rfl,a1,a2,.inr (by omega)⟩
  case step =>
   rintro x c st' _ hx ⟨rfl,l,o,rfl,a1,a2,a3⟩
   dsimp only
   by_cases hge:o>=hint+1
   ·rw [if_pos hge]; exact NV ⟨rfl,l,o,rfl,a1,a2,.inr hge⟩
   ·rw [if_neg hge]
    refine NU (bey _ (by omega) _ ?_)
    dsimp only
    by_cases hm:hint - o<k
    ·rw [decide_eq_true hm,if_pos rfl]
     exact NV ⟨rfl,l,o,rfl,a1,a2,.inl (by omega)⟩
    ·rw [decide_eq_false hm,if_neg N5]
     exact NV ⟨rfl,o,2 * o+1,rfl,by omega,by omega,by omega⟩
  case post =>
   rintro c st' ⟨rfl,l,o,rfl,a1,a2,a3⟩
   dsimp only
   exact kW bey (by omega) (by omega) (by omega) h
noncomputable def kX:Array Keyed->Array Keyed->StateT SortSt Sem (Array Keyed):=sortPriv% PySem.Builtin.mergeLo
theorem fQ {st:SortSt} (h:Q () (Qj (kindOf st) (arrOf st) (pendingOf st) g (failedOf st))):wpS M A E s (cK g) Q st :=
 PJ (f:=λst=>Qj (kindOf st) (arrOf st) (pendingOf st) g (failedOf st)) h
section
variable {rk:Keyed->Int} {a b:Array Keyed}
def Aj (rk:Keyed->Int) (xs:List Keyed):Prop:=xs.Pairwise λp q=>rk p<=rk q
theorem vc (h:xs.length<=1):Aj rk xs:=by
 cases xs with
 | nil=>exact Rp
 | cons x xs =>
  cases xs with
  | nil=>exact QU _ _
  | cons y ys=>simp at h
def Res (rk:Keyed->Int) (a b r:Array Keyed):Prop:=r.toList.Perm (a.toList++b.toList)/\Aj rk r.toList
structure WL (rk:Keyed->Int) (a b:Array Keyed) (out:Array Keyed) (ia ib:Nat):Prop where
 pa:ia<=a.size
 pb:ib<=b.size
 pm:out.toList.Perm (a.toList.take ia++b.toList.take ib)
 sr:Aj rk out.toList
 ha:∀ p∈out.toList,∀ (j:Nat) (q:Keyed),ia<=j->a[j]?=some q->rk p<=rk q
 hb:∀ p∈out.toList,∀ (j:Nat) (q:Keyed),ib<=j->b[j]?=some q->rk p<=rk q
def Up (rk:Keyed->Int) (a:Array Keyed):Prop:=∀ (i j:Nat) (p q:Keyed),i<=j->a[i]?=some p->a[j]?=some q->rk p<=rk q
theorem jq (h:Up rk a):Aj rk a.toList:=by
 unfold Aj
 rw [To]
 intro i j hi hj hij
 exact h i j _ _ (Qh hij) (by simp at hi |-) (by simp at hj |-)
theorem HW (h:Aj rk a.toList):Up rk a:=λi j p q hij e1 e2=>by
 rw [<- OL] at e1 e2
 obtain ⟨h1,r1⟩:=N4.mp e1
 obtain ⟨h2,r2⟩:=N4.mp e2
 subst r1 r2
 rcases Nat.lt_or_eq_of_le hij with z | z
 ·exact (To.mp h) i j h1 h2 z
 ·subst z; exact Pd _
theorem bQ (h1:Aj rk xs) (h2:Aj rk ys) (h3:∀ p∈xs,∀ q∈ys,rk p<=rk q):Aj rk (xs++ys):=List.pairwise_append.mpr ⟨h1,h2,h3⟩
theorem eX (xs:Array Keyed) (i j):(xs.extract i j).toList=(xs.toList.take j).drop i:=by
 rw [List.drop_take]; simp [List.extract_eq_take_drop]
theorem gP (xs:Array Keyed) (i):(xs.extract i xs.size).toList=xs.toList.drop i:=by
 rw [eX,P9 (by simp)]
theorem iX (xs:Array Keyed) (i):(xs.extract i i).toList=[]:=by
 rw [eX,List.drop_take]; simp
theorem vd {xs:Array Keyed} (h:q∈(xs.extract i j).toList):∃ k,i<=k/\k<j/\xs[k]?=some q:=by
 obtain ⟨n,hn⟩:=QW h
 rw [OL,R4] at hn
 split at hn
 ·rename_i z
  exact ⟨i+n,by lia,by lia,hn⟩
 ·cases hn
theorem WL.jr (h:WL rk a b out ia ib) (ua:Up rk a) (e:ib=b.size):Res rk a b (out++a.extract ia a.size++b.extract ib b.size):=by
 subst e
 have e0:(out++a.extract ia a.size++b.extract b.size b.size).toList=out.toList++a.toList.drop ia:=by
  rw [O7,O7,gP,gP,List.drop_of_length_le (show b.toList.length<=b.size by simp),OP]
 refine ⟨?_,?_⟩
 ·rw [e0]
  have hp:=h.pm
  rw [P9 (show b.toList.length<=b.size by simp)] at hp
  refine (hp.append_right _).trans ?_
  have:(a.toList.take ia++b.toList++a.toList.drop ia).Perm (a.toList.take ia++a.toList.drop ia++b.toList):=by
   rw [Oh,Oh]
   exact QV _ Qp
  rw [Px] at this
  exact this
 ·rw [e0]
  refine bQ h.sr ((jq ua).sublist (Uc _ _)) λp hp q hq=>?_
  obtain ⟨n,hn⟩:=QW hq
  rw [QZ] at hn
  exact h.ha p hp (ia+n) q (by lia) (by rw [<- OL]; exact hn)
theorem WL.ju (h:WL rk a b out ia ib) (ub:Up rk b) (e:ia=a.size):Res rk a b (out++a.extract ia a.size++b.extract ib b.size):=by
 subst e
 have e0:(out++a.extract a.size a.size++b.extract ib b.size).toList=out.toList++b.toList.drop ib:=by
  rw [O7,O7,gP,gP,List.drop_of_length_le (show a.toList.length<=a.size by simp),OP]
 refine ⟨?_,?_⟩
 ·rw [e0]
  have hp:=h.pm
  rw [P9 (show a.toList.length<=a.size by simp)] at hp
  refine (hp.append_right _).trans ?_
  rw [Oh,Px]
 ·rw [e0]
  refine bQ h.sr ((jq ub).sublist (Uc _ _)) λp hp q hq=>?_
  obtain ⟨n,hn⟩:=QW hq
  rw [QZ] at hn
  exact h.hb p hp (ib+n) q (by lia) (by rw [<- OL]; exact hn)
theorem WL.last (h:WL rk a b out ia ib) (ub:Up rk b) (e:ia+1=a.size) (hl:∀ (j:Nat) (p q:Keyed),a[ia]?=some p->b[j]?=some q->rk q<=rk p) :
 Res rk a b (out++b.extract ib b.size++a.extract ia a.size):=by
 have e0:(out++b.extract ib b.size++a.extract ia a.size).toList=out.toList++(b.toList.drop ib++a.toList.drop ia):=by
  rw [O7,O7,gP,gP,Oh]
 refine ⟨?_,?_⟩
 ·rw [e0]
  refine (h.pm.append_right _).trans ?_
  have:(a.toList.take ia++b.toList.take ib++(b.toList.drop ib++a.toList.drop ia)).Perm (a.toList.take ia++a.toList.drop ia++(b.toList.take ib++b.toList.drop ib)):=by
   rw [Oh,Oh]
   refine QV _ ?_
   rw [<- Oh]
   exact Qp
  rw [Px,Px] at this
  exact this
 ·rw [e0]
  have ml:∀ q∈b.toList.drop ib,∃ j,ib<=j/\b[j]?=some q:=λq hq=>by
   obtain ⟨n,hn⟩:=QW hq
   rw [QZ] at hn
   exact ⟨ib+n,by lia,by rw [<- OL]; exact hn⟩
  have ml2:∀ q∈a.toList.drop ia,a[ia]?=some q:=λq hq=>by
   obtain ⟨n,hn⟩:=QW hq
   rw [QZ] at hn
   have:=(N4.mp hn).1
   have hn0:n=0:=by simp at this; lia
   subst hn0
   rw [<- OL]; exact hn
  refine bQ h.sr (bQ ((jq ub).sublist (Uc _ _)) ?_ λp hp q hq=>?_) λp hp q hq=>?_
  ·exact vc (by simp; lia)
  ·obtain ⟨j,_,e1⟩:=ml p hp
   exact hl j q p (ml2 q hq) e1
  ·rcases Om.mp hq with z | z
   ·obtain ⟨j,h1,e1⟩:=ml q z
    exact h.hb p hp j q h1 e1
   ·exact h.ha p hp ia q (NT _) (ml2 q z)
theorem c7 {xs:Array Keyed} (h:xs[i]?=some p):xs.toList.take (i+1)=xs.toList.take i++[p]:=by
 rw [Sn,OL,h]; rfl
theorem WL.gj {out:Array Keyed} {ia ib:Nat} {p:Keyed} (h:WL rk a b out ia ib) (ub:Up rk b) (e:b[ib]?=some p) (hl:∀ (j:Nat) (q:Keyed),ia<=j->a[j]?=some q->rk p<=rk q):WL rk a b (out.push p) ia (ib+1) where
 pa:=h.pa
 pb:=(QS.mp e).1
 pm:=by
  rw [OG,c7 e,<- Oh]
  exact h.pm.append_right _
 sr:=by
  rw [OG]
  exact bQ h.sr (QU _ _) λq hq r hr=>by
   rw [Oa.mp hr]; exact h.hb q hq ib p (NT _) e
 ha:=λq hq j r hj er=>by
  rw [OG] at hq
  rcases Om.mp hq with z | z
  ·exact h.ha q z j r hj er
  ·rw [Oa.mp z]; exact hl j r hj er
 hb:=λq hq j r hj er=>by
  rw [OG] at hq
  rcases Om.mp hq with z | z
  ·exact h.hb q z j r (by lia) er
  ·rw [Oa.mp z]; exact ub ib j p r (by lia) e er
theorem WL.gm {out:Array Keyed} {ia ib:Nat} {p:Keyed} (h:WL rk a b out ia ib) (ua:Up rk a) (e:a[ia]?=some p) (hl:∀ (j:Nat) (q:Keyed),ib<=j->b[j]?=some q->rk p<=rk q):WL rk a b (out.push p) (ia+1) ib where
 pa:=(QS.mp e).1
 pb:=h.pb
 pm:=by
  rw [OG,c7 e]
  refine (h.pm.append_right _).trans ?_
  rw [Oh,Oh]
  exact QV _ Qp
 sr:=by
  rw [OG]
  exact bQ h.sr (QU _ _) λq hq r hr=>by
   rw [Oa.mp hr]; exact h.ha q hq ia p (NT _) e
 hb:=λq hq j r hj er=>by
  rw [OG] at hq
  rcases Om.mp hq with z | z
  ·exact h.hb q z j r hj er
  ·rw [Oa.mp z]; exact hl j r hj er
 ha:=λq hq j r hj er=>by
  rw [OG] at hq
  rcases Om.mp hq with z | z
  ·exact h.ha q z j r (by lia) er
  ·rw [Oa.mp z]; exact ua ia j p r (by lia) e er
theorem WL.qt (h:WL rk a b out ia ib) (ua:Up rk a):∀ (k:Nat),ia+k<=a.size->(∀ (i j:Nat) (p q:Keyed),ia<=i->i<ia+k->ib<=j->a[i]?=some p->b[j]?=some q->rk p<=rk q)->WL rk a b (out++a.extract ia (ia+k)) (ia+k) ib
 | 0,_,_=>by
  have:out++a.extract ia (ia+0)=out:=by
   apply Qk
   rw [O7,Nat.add_zero,iX,OP]
  rw [this]; exact h
 | k+1,hk,hl=>by
  have ih:=h.qt ua k (by lia) λi j p q h1 h2=>hl i j p q h1 (by lia)
  have e:a[ia+k]?=some (a[ia+k]'(by lia)):=Oq _
  have z:=ih.gm ua e λj q hj eq=>hl _ j _ q (by lia) (by lia) hj e eq
  have:out++a.extract ia (ia+(k+1))=(out++a.extract ia (ia+k)).push (a[ia+k]'(by lia)):=by
   apply Qk
   simp only [O7,OG,eX]
   rw [show ia+(k+1)=(ia+k)+1 by lia,c7 e,Uv (by simp; lia),Oh]
  rw [this]; exact z
theorem WL.qu (h:WL rk a b out ia ib) (ub:Up rk b):∀ (k:Nat),ib+k<=b.size->(∀ (i j:Nat) (p q:Keyed),ib<=i->i<ib+k->ia<=j->b[i]?=some p->a[j]?=some q->rk p<=rk q)->WL rk a b (out++b.extract ib (ib+k)) ia (ib+k)
 | 0,_,_=>by
  have:out++b.extract ib (ib+0)=out:=by
   apply Qk
   rw [O7,Nat.add_zero,iX,OP]
  rw [this]; exact h
 | k+1,hk,hl=>by
  have ih:=h.qu ub k (by lia) λi j p q h1 h2=>hl i j p q h1 (by lia)
  have e:b[ib+k]?=some (b[ib+k]'(by lia)):=Oq _
  have z:=ih.gj ub e λj q hj eq=>hl _ j _ q (by lia) (by lia) hj e eq
  have:out++b.extract ib (ib+(k+1))=(out++b.extract ib (ib+k)).push (b[ib+k]'(by lia)):=by
   apply Qk
   simp only [O7,OG,eX]
   rw [show ib+(k+1)=(ib+k)+1 by lia,c7 e,Uv (by simp; lia),Oh]
  rw [this]; exact z
end
section
variable {prog:Program} {w:World} {A:Around} {E:Value->Shared->Prop} {s:Shared} {L:List Keyed} {κ:SortKind} {rk:Keyed->Int} {a b:Array Keyed}
theorem kY (f:Nat->Int) (c):∀ n,(∀ i j,i<=j->j<n->f i<=f j)->∃ k,k<=n/\∀ i,i<n->(f i<=c↔i<k)
 | 0,_=>⟨0,NT _,λi hi=>by lia⟩
 | n+1,hm=>by
  obtain ⟨k,h1,h2⟩:=kY f c n λi j hij hj=>hm i j hij (by lia)
  by_cases hc:f n<=c
  ·refine ⟨n+1,NT _,λi hi=>⟨λ_=>hi,λ_=>?_⟩⟩
   exact OA (hm i n (by lia) (by lia)) hc
  ·refine ⟨k,by lia,λi hi=>?_⟩
   by_cases hin:i<n
   ·exact h2 i hin
   ·have:i=n:=by lia
    subst this
    exact ⟨λz=>absurd z hc,λz=>by lia⟩
theorem kZ (f:Nat->Int) (c):∀ n,(∀ i j,i<=j->j<n->f i<=f j)->∃ k,k<=n/\∀ i,i<n->(f i<c↔i<k)
 | 0,_=>⟨0,NT _,λi hi=>by lia⟩
 | n+1,hm=>by
  obtain ⟨k,h1,h2⟩:=kZ f c n λi j hij hj=>hm i j hij (by lia)
  by_cases hc:f n<c
  ·refine ⟨n+1,NT _,λi hi=>⟨λ_=>hi,λ_=>?_⟩⟩
   exact Sj (hm i n (by lia) (by lia)) hc
  ·refine ⟨k,by lia,λi hi=>?_⟩
   by_cases hin:i<n
   ·exact h2 i hin
   ·have:i=n:=by lia
    subst this
    exact ⟨λz=>absurd z hc,λz=>by lia⟩
theorem K7 (h:Up rk a) (hij:i<=j) (hj:j<a.size):R rk a i<=R rk a j:=by
 have e1:a[i]?=some (a[i]'(by lia)):=Oq _
 have e2:a[j]?=some a[j]:=Oq _
 rw [d9 e1,d9 e2]
 exact h i j _ _ hij e1 e2
structure c8 (st st':SortSt):Prop where
 k:kindOf st'=kindOf st
 a:arrOf st'=arrOf st
 p:pendingOf st'=pendingOf st
 f:failedOf st'=failedOf st
theorem c8.refl (st:SortSt):c8 st st:=⟨rfl,rfl,rfl,rfl⟩
theorem c8.min {st st':SortSt} (h:c8 st st') (g):c8 st (Qj (kindOf st') (arrOf st') (pendingOf st') g (failedOf st')):=⟨h.k,h.a,h.p,h.f⟩
theorem c8.trans (h:c8 s1 s2) (g:c8 s2 s3):c8 s1 s3:=⟨g.k.trans h.k,g.a.trans h.a,g.p.trans h.p,g.f.trans h.f⟩
theorem qv {st:SortSt} (hC:iH prog w A s κ rk L) (hk:kindOf st=κ) (hkey:key∈L) (mx:∀ (i:Nat) (p:Keyed),xs[i]?=some p->p∈L) (ux:Up rk xs) (n) (hn:base+n<=xs.size) (hh:hint<n)
 (h:∀ k,k<=n->(∀ (i:Nat) (p:Keyed),i<k->xs[base+i]?=some p->rk p<=rk key)->(∀ (i:Nat) (p:Keyed),k<=i->base+i<base+n->xs[base+i]?=some p->rk key<rk p)->Q (some k) st) :
 wpS (model prog w) A E s (c6 false key xs base n hint) Q st:=by
 obtain ⟨k,h1,h2⟩:=kY (λi=>R rk xs (base+i)) (rk key) n λi j hij hj=>K7 ux (by lia) (by lia)
 refine fP hC hk hkey (λi hi=>⟨xs[base+i]'(by lia),Oq _,mx _ _ (Oq _)⟩) (λi hi=>by simp only [ON,if_false]; exact h2 i hi) h1 hh (h k h1 (λi p hi e=>?_) λi p hi hb e=>?_)
 ·have:=(h2 i (by lia)).mpr hi
  rw [d9 e] at this; exact this
 ·have:=mt (h2 i (by lia)).mp (by lia)
  rw [d9 e] at this; lia
theorem qw {st:SortSt} (hC:iH prog w A s κ rk L) (hk:kindOf st=κ) (hkey:key∈L) (mx:∀ (i:Nat) (p:Keyed),xs[i]?=some p->p∈L) (ux:Up rk xs) (n) (hn:base+n<=xs.size) (hh:hint<n)
 (h:∀ k,k<=n->(∀ (i:Nat) (p:Keyed),i<k->xs[base+i]?=some p->rk p<rk key)->(∀ (i:Nat) (p:Keyed),k<=i->base+i<base+n->xs[base+i]?=some p->rk key<=rk p)->Q (some k) st) :
 wpS (model prog w) A E s (c6 true key xs base n hint) Q st:=by
 obtain ⟨k,h1,h2⟩:=kZ (λi=>R rk xs (base+i)) (rk key) n λi j hij hj=>K7 ux (by lia) (by lia)
 refine fP hC hk hkey (λi hi=>⟨xs[base+i]'(by lia),Oq _,mx _ _ (Oq _)⟩) (λi hi=>by simp only [if_true]; exact h2 i hi) h1 hh (h k h1 (λi p hi e=>?_) λi p hi hb e=>?_)
 ·have:=(h2 i (by lia)).mpr hi
  rw [d9 e] at this; exact this
 ·have:=mt (h2 i (by lia)).mp (by lia)
  rw [d9 e] at this; lia
structure l6 (rk:Keyed->Int) (a b out:Array Keyed) (ia ib:Nat):Prop where
 w:WL rk a b out ia ib
 la:ia+1<a.size
 lb:ib<b.size
end
section
local macro_rules | `(tactic| walk_at "dl mergeLo")=>do
 let i:=QE (Qo `PySem.Builtin.List.W1All `PySem.Builtin.mergeLo)
 `(tactic| delta $i)
noncomputable abbrev Ak:=Option (Array Keyed)×Array Keyed×Nat×Nat×Nat×Nat×Nat
noncomputable def FH (a b out:Array Keyed) (ia ib:Nat):Array Keyed:=out++a.extract ia a.size++b.extract ib b.size
noncomputable def Cy (a b out:Array Keyed) (ia ib:Nat):Array Keyed:=out++b.extract ib b.size++a.extract ia a.size
noncomputable def ve (a b:Array Keyed) (mg ac bc ia ib:Nat) (out:Array Keyed):StateT SortSt Sem (ForInStep Ak):=do
 let p <- elem' a ia
 if (ia+1+1 == a.size)=true then pure (.done (some (Cy a b (out.push p) (ia+1) ib),out.push p,ia+1,ib,mg,ac,bc))
 else if (decide (ac<7) && decide (bc<7))=true then pure (.done (none,out.push p,ia+1,ib,mg,ac,bc))
 else pure (.yield (none,out.push p,ia+1,ib,mg,ac,bc))
noncomputable def vf (a b:Array Keyed) (mg ac bc ia ib:Nat) (out:Array Keyed):StateT SortSt Sem (ForInStep Ak):=do
 let q <- elem' b ib
 if (ib+1 == b.size)=true then pure (.done (some (FH a b (out.push q) ia (ib+1)),out.push q,ia,ib+1,mg,ac,bc))
 else do
  let p <- elem' a ia
  let x <- c6 true p b (ib+1) (b.size - (ib+1)) 0
  match x with
  | some k=>(if k>0 then
   (if (ib+1+k == b.size)=true then pure (.done (some (FH a b (out.push q++b.extract (ib+1) (ib+1+k)) ia (ib+1+k)),out.push q++b.extract (ib+1) (ib+1+k),ia,ib+1+k,mg,ac,k))
    else ve a b mg ac k ia (ib+1+k) (out.push q++b.extract (ib+1) (ib+1+k)))
   else ve a b mg ac k ia (ib+1) (out.push q))
  | _=>pure (.done (some (FH a b (out.push q) ia (ib+1)),out.push q,ia,ib+1,mg,ac,bc))
noncomputable def vg (a b:Array Keyed) (mg ac bc ia ib:Nat) (out:Array Keyed):StateT SortSt Sem (ForInStep Ak):=do
 cK mg
 let q <- elem' b ib
 let x <- c6 false q a ia (a.size - ia) 0
 match x with
 | some k=>(if k>0 then
  (if (ia+k+1 == a.size)=true then pure (.done (some (Cy a b (out++a.extract ia (ia+k)) (ia+k) ib),out++a.extract ia (ia+k),ia+k,ib,mg,k,bc))
   else if (ia+k == a.size)=true then pure (.done (some (FH a b (out++a.extract ia (ia+k)) (ia+k) ib),out++a.extract ia (ia+k),ia+k,ib,mg,k,bc))
   else vf a b mg k bc (ia+k) ib (out++a.extract ia (ia+k)))
  else vf a b mg k bc ia ib out)
 | _=>pure (.done (some (FH a b out ia ib),out,ia,ib,mg,ac,bc))
noncomputable def Al (a b:Array Keyed) (c:Ak):StateT SortSt Sem (ForInStep Ak) :=
 if c.2.2.2.2.1>1 then vg a b (c.2.2.2.2.1 - 1) c.2.2.2.2.2.1 c.2.2.2.2.2.2 c.2.2.1 c.2.2.2.1 c.2.1 else vg a b c.2.2.2.2.1 c.2.2.2.2.2.1 c.2.2.2.2.2.2 c.2.2.1 c.2.2.2.1 c.2.1
noncomputable abbrev HX:=Option (Array Keyed)×Array Keyed×Nat×Nat×Nat×Nat
noncomputable def Am (a b:Array Keyed) (mg:Nat) (c:HX):StateT SortSt Sem (ForInStep HX):=do
 let q <- elem' b c.2.2.2.1
 let p <- elem' a c.2.2.1
 let x <- lt' q p
 match x with
 | some y=>(if y=true then (do
  let q <- elem' b c.2.2.2.1
  if (c.2.2.2.1+1 == b.size)=true then pure (.done (some (FH a b (c.2.1.push q) c.2.2.1 (c.2.2.2.1+1)),c.2.1.push q,c.2.2.1,c.2.2.2.1+1,0,c.2.2.2.2.2+1))
  else if c.2.2.2.2.2+1>=mg then pure (.done (none,c.2.1.push q,c.2.2.1,c.2.2.2.1+1,0,c.2.2.2.2.2+1))
  else pure (.yield (none,c.2.1.push q,c.2.2.1,c.2.2.2.1+1,0,c.2.2.2.2.2+1)))
  else (do
   let p <- elem' a c.2.2.1
   if (c.2.2.1+1+1 == a.size)=true then pure (.done (some (Cy a b (c.2.1.push p) (c.2.2.1+1) c.2.2.2.1),c.2.1.push p,c.2.2.1+1,c.2.2.2.1,c.2.2.2.2.1+1,0))
   else if c.2.2.2.2.1+1>=mg then pure (.done (none,c.2.1.push p,c.2.2.1+1,c.2.2.2.1,c.2.2.2.2.1+1,0))
   else pure (.yield (none,c.2.1.push p,c.2.2.1+1,c.2.2.2.1,c.2.2.2.2.1+1,0))))
 | _=>pure (.done (some (FH a b c.2.1 c.2.2.1 c.2.2.2.1),c.2.1,c.2.2.1,c.2.2.2.1,c.2.2.2.2.1,c.2.2.2.2.2))
noncomputable abbrev DH:=Option (Array Keyed)×Array Keyed×Nat×Nat×Nat
noncomputable def oB (a b:Array Keyed) (c:DH):StateT SortSt Sem (ForInStep DH):=do
 let s <- forIn [:a.size+b.size] ((none,c.2.1,c.2.2.1,c.2.2.2.1,0,0):HX) λ_ s=>Am a b c.2.2.2.2 s
 match s.1 with
 | some r=>pure (.done (some r,s.2.1,s.2.2.1,s.2.2.2.1,c.2.2.2.2))
 | none=>do
  liftM (rule "list.sort.gallop")
  let t <- forIn [:a.size+b.size] ((none,s.2.1,s.2.2.1,s.2.2.2.1,c.2.2.2.2+1,s.2.2.2.2.1,s.2.2.2.2.2):Ak) λ_ t=>Al a b t
  match t.1 with
  | some r=>pure (.done (some r,t.2.1,t.2.2.1,t.2.2.2.1,t.2.2.2.2.1))
  | none=>do
   cK (t.2.2.2.2.1+1)
   pure (.yield (none,t.2.1,t.2.2.1,t.2.2.2.1,t.2.2.2.2.1+1))
theorem qx (a b):kX a b=(do
 liftM (rule "list.sort.merge-lo")
 let p <- elem' b 0
 if (1 == b.size)=true then pure (FH a b #[p] 0 1)
 else if (0+1 == a.size)=true then pure (Cy a b #[p] 0 1)
 else do
  let st <- get
  let s <- forIn [:a.size+b.size] ((none,#[p],0,1,gallopOf st):DH) λ_ c=>oB a b c
  match s.1 with
  | some r=>pure r
  | none=>liftM (unsupported (α:=Array Keyed) "internal:list.sort.merge-bound")):=by
 unfold kX
 walk_at "dl mergeLo"
 dsimp only
 refine congrArg _ (funext λ_=>?_)
 refine congrArg _ (funext λp=>?_)
 refine congrArg _ (congrArg _ ?_)
 refine congrArg _ (funext λst=>?_)
 have e:∀ (f g:Nat->DH->StateT SortSt Sem (ForInStep DH)) (c:DH) (k:DH->StateT SortSt Sem (Array Keyed)),f=g->(forIn [:a.size+b.size] c f >>= k)=(forIn [:a.size+b.size] c g >>= k):=λ_ _ _ _ h=>by rw [h]
 refine (e _ _ _ _ (funext λ_=>funext λc=>?_)).trans (congrArg _ (funext λs=>?_))
 ·obtain ⟨o,out,ia,ib,mg⟩:=c
  unfold oB
  dsimp only
  have e2:∀ (f g:Nat->HX->StateT SortSt Sem (ForInStep HX)) (c:HX) (k l:HX->StateT SortSt Sem (ForInStep DH)),f=g->k=l->(forIn [:a.size+b.size] c f >>= k)=(forIn [:a.size+b.size] c g >>= l):=λ_ _ _ _ _ h h2=>by rw [h,h2]
  refine e2 _ _ _ _ _ (funext λ_=>funext λc=>?_) (funext λs=>?_)
  ·rfl
  ·obtain ⟨o,out,ia,ib,ac,bc⟩:=s
   cases o with
   | some r=>rfl
   | none =>
    dsimp only
    refine congrArg _ (funext λ_=>?_)
    have e3:∀ (f g:Nat->Ak->StateT SortSt Sem (ForInStep Ak)) (c:Ak) (k l:Ak->StateT SortSt Sem (ForInStep DH)),f=g->k=l->(forIn [:a.size+b.size] c f >>= k)=(forIn [:a.size+b.size] c g >>= l):=λ_ _ _ _ _ h h2=>by rw [h,h2]
    refine e3 _ _ _ _ _ (funext λ_=>funext λc=>?_) (funext λs=>?_)
    ·rfl
    ·obtain ⟨o,s⟩:=s
     cases o <;> rfl
 ·obtain ⟨o,s⟩:=s
  cases o <;> rfl
end
theorem some_at {xs:Array Keyed} (h:i<xs.size):∃ p,xs[i]?=some p:=⟨xs[i],Oq h⟩
def DI (rk:Keyed->Int) (a b:Array Keyed) (n:Nat) (o:Option (Array Keyed)) (ia ib:Nat) (out:Array Keyed):Prop:=(∃ r,o=some r/\Res rk a b r)\/(o=none/\l6 rk a b out ia ib/\n<=ia+ib)
noncomputable def DJ (rk:Keyed->Int) (a b:Array Keyed) (n:Nat):ForInStep Ak->Prop
 | .done c=>DI rk a b n c.1 c.2.2.1 c.2.2.2.1 c.2.1
 | .yield c=>c.1=none/\l6 rk a b c.2.1 c.2.2.1 c.2.2.2.1/\n<=c.2.2.1+c.2.2.2.1
theorem m9 {st:SortSt} (lA:∀ {out:Array Keyed} {ia ib:Nat},WL rk a b out ia ib->ia+1=a.size->Res rk a b (Cy a b out ia ib)) (W:WL rk a b out ia ib) (ua:Up rk a) (la:ia+1<a.size) (lb:ib<b.size) (ep:a[ia]?=some p)
 (hl:∀ (j:Nat) (r:Keyed),ib<=j->b[j]?=some r->rk p<=rk r) (hn:n<=ia+1+ib) (hQ:∀ x,DJ rk a b n x->Q x st):wpS (model prog w) A E s (ve a b mg ac bc ia ib out) Q st:=by
 unfold ve
 have W4:=W.gm ua ep hl
 refine NU (aS ep ?_)
 by_cases e9:ia+1+1=a.size
 ·rw [if_pos (by simpa using e9)]
  exact NV (hQ _ (.inl ⟨_,rfl,lA W4 e9⟩))
 rw [if_neg (by simpa using e9)]
 have hL:l6 rk a b (out.push p) (ia+1) ib:=⟨W4,Nat.lt_of_le_of_ne la e9,lb⟩
 split
 ·exact NV (hQ _ (.inr ⟨rfl,hL,hn⟩))
 ·exact NV (hQ _ ⟨rfl,hL,hn⟩)
theorem oE {xs:Array Keyed} {i j:Nat} (h:i<=j) (e:xs[j]?=some p):xs[i+(j - i)]?=some p:=by rw [TR h]; exact e
theorem nc {st:SortSt} (hC:iH prog w A s κ rk L) (hk:kindOf st=κ) (ma:∀ (i:Nat) (p:Keyed),a[i]?=some p->p∈L) (mb:∀ (i:Nat) (p:Keyed),b[i]?=some p->p∈L)
 (lA:∀ {out:Array Keyed} {ia ib:Nat},WL rk a b out ia ib->ia+1=a.size->Res rk a b (Cy a b out ia ib)) (W:WL rk a b out ia ib) (ua:Up rk a) (ub:Up rk b) (la:ia+1<a.size) (lb:ib<b.size) (eq:b[ib]?=some q)
 (hl:∀ (j:Nat) (r:Keyed),ia<=j->a[j]?=some r->rk q<=rk r) (hn:n<=ia+ib+2) (hQ:∀ x,DJ rk a b n x->Q x st):wpS (model prog w) A E s (vf a b mg ac bc ia ib out) Q st:=by
 unfold vf
 have W2:=W.gj ub eq hl
 refine NU (aS eq ?_)
 by_cases e5:ib+1=b.size
 ·rw [if_pos (by simpa using e5)]
  exact NV (hQ _ (.inl ⟨_,rfl,W2.jr ua e5⟩))
 rw [if_neg (by simpa using e5)]
 obtain ⟨p,ep⟩:=some_at (xs:=a) (i:=ia) (by lia)
 refine NU (aS ep ?_)
 refine NU (qw hC hk (ma _ _ ep) mb ub _ (by lia) (by lia) λk hj1 hj2 hj3=>?_)
 dsimp only
 have W3:=W2.qu ub k (by lia) λi j r p' z1 z2 z3 e6 e7=>OA (P5 (hj2 (i - (ib+1)) r (by lia) (oE z1 e6))) (ua ia j p p' z3 ep e7)
 have bwd:∀ (j:Nat) (r:Keyed),ib+1+k<=j->b[j]?=some r->rk p<=rk r:=λj r hj e6=>hj3 (j - (ib+1)) r (by lia) (by have:=(QS.mp e6).1; lia) (oE (N3 (Q3 _ _) hj) e6)
 by_cases hj0:k>0
 ·rw [if_pos hj0]
  by_cases e8:ib+1+k=b.size
  ·rw [if_pos (by simpa using e8)]
   exact NV (hQ _ (.inl ⟨_,rfl,W3.jr ua e8⟩))
  rw [if_neg (by simpa using e8)]
  exact m9 lA W3 ua la (by lia) ep bwd (by lia) hQ
 ·rw [if_neg hj0]
  exact m9 lA W2 ua la (by lia) ep (λj r hj e6=>bwd j r (by lia) e6) (by lia) hQ
theorem ng {st:SortSt} (hC:iH prog w A s κ rk L) (hk:kindOf st=κ) (ma:∀ (i:Nat) (p:Keyed),a[i]?=some p->p∈L) (mb:∀ (i:Nat) (p:Keyed),b[i]?=some p->p∈L)
 (lA:∀ {out:Array Keyed} {ia ib:Nat},WL rk a b out ia ib->ia+1=a.size->Res rk a b (Cy a b out ia ib)) (ua:Up rk a) (ub:Up rk b) (hL:l6 rk a b out ia ib) (hn:n<=ia+ib) (hQ:∀ x st',c8 st st'->DJ rk a b n x->Q x st') :
 wpS (model prog w) A E s (vg a b mg ac bc ia ib out) Q st:=by
 unfold vg
 have W:=hL.w
 have la:=hL.la
 have lb:=hL.lb
 obtain ⟨q,eq⟩:=some_at (xs:=b) lb
 refine NU (fQ ?_)
 have Gj:=λx=>hQ x _ ((c8.refl st).min mg)
 refine NU (aS eq ?_)
 refine NU (qv hC (by exact hk) (mb _ _ eq) ma ua _ (by lia) (by lia) λk hk1 hk2 hk3=>?_)
 dsimp only
 have Wk:=W.qt ua k (by lia) λi j p r z1 z2 z3 e3 e4=>OA (hk2 (i - ia) p (by lia) (oE z1 e3)) (ub ib j q r z3 eq e4)
 have fwd:∀ (j:Nat) (r:Keyed),ia+k<=j->a[j]?=some r->rk q<=rk r:=λj r hj e3=>P5 (hk3 (j - ia) r (by lia) (by have:=(QS.mp e3).1; lia) (oE (N3 (Q3 _ _) hj) e3))
 by_cases hk0:k>0
 ·rw [if_pos hk0]
  by_cases e3:ia+k+1=a.size
  ·rw [if_pos (by simpa using e3)]
   exact NV (Gj _ (.inl ⟨_,rfl,lA Wk e3⟩))
  rw [if_neg (by simpa using e3)]
  by_cases e4:ia+k=a.size
  ·rw [if_pos (by simpa using e4)]
   exact NV (Gj _ (.inl ⟨_,rfl,Wk.ju ub e4⟩))
  rw [if_neg (by simpa using e4)]
  exact nc hC (by exact hk) ma mb lA Wk ua ub (by lia) lb eq fwd (by lia) Gj
 ·rw [if_neg hk0]
  exact nc hC (by exact hk) ma mb lA W ua ub la lb eq (λj r hj e3=>fwd j r (by lia) e3) (by lia) Gj
theorem xq {st:SortSt} (hC:iH prog w A s κ rk L) (hk:kindOf st=κ) (ma:∀ (i:Nat) (p:Keyed),a[i]?=some p->p∈L) (mb:∀ (i:Nat) (p:Keyed),b[i]?=some p->p∈L)
 (lA:∀ {out:Array Keyed} {ia ib:Nat},WL rk a b out ia ib->ia+1=a.size->Res rk a b (Cy a b out ia ib)) (ua:Up rk a) (ub:Up rk b) (hL:l6 rk a b c.2.1 c.2.2.1 c.2.2.2.1) (hn:n<=c.2.2.1+c.2.2.2.1+1)
 (hQ:∀ o ia ib out z y,DI rk a b n o ia ib out->Q (.done (o,out,ia,ib,z)) st/\(o=none->Q (.yield (none,out,ia,ib,y)) st)):wpS (model prog w) A E s (Am a b mg c) Q st:=by
 obtain ⟨_,out,ia,ib,ac,bc⟩:=c
 unfold Am
 dsimp only at hL hn |-
 have W:=hL.w
 have la:=hL.la
 have lb:=hL.lb
 obtain ⟨q,eq⟩:=some_at (xs:=b) lb
 obtain ⟨p,ep⟩:=some_at (xs:=a) (Nat.lt_of_succ_lt la)
 refine NU (aS eq (NU (aS ep (NU (kU hC hk (mb _ _ eq) (ma _ _ ep) ?_)))))
 dsimp only
 by_cases hw:rk q<rk p
 ·rw [decide_eq_true hw,if_pos rfl]
  have W1:=W.gj ub eq λj r hj e=>OA (P5 hw) (ua ia j p r hj ep e)
  refine NU (aS eq ?_)
  by_cases e3:ib+1=b.size
  ·rw [if_pos (by simpa using e3)]
   exact NV (hQ _ _ _ _ _ (0,0) (.inl ⟨_,rfl,W1.jr ua e3⟩)).1
  rw [if_neg (by simpa using e3)]
  have z:=hQ none ia (ib+1) (out.push q) (0,bc+1) (0,bc+1) (.inr ⟨rfl,⟨W1,la,by lia⟩,by lia⟩)
  split
  ·exact NV z.1
  ·exact NV (z.2 rfl)
 ·rw [decide_eq_false hw,if_neg N5]
  have W1:=W.gm ua ep λj r hj e=>OA (Int.not_lt.mp hw) (ub ib j q r hj eq e)
  refine NU (aS ep ?_)
  by_cases e3:ia+1+1=a.size
  ·rw [if_pos (by simpa using e3)]
   exact NV (hQ _ _ _ _ _ (0,0) (.inl ⟨_,rfl,lA W1 e3⟩)).1
  rw [if_neg (by simpa using e3)]
  have z:=hQ none (ia+1) ib (out.push p) (ac+1,0) (ac+1,0) (.inr ⟨rfl,⟨W1,by lia,lb⟩,by lia⟩)
  split
  ·exact NV z.1
  ·exact NV (z.2 rfl)
theorem sM {st:SortSt} (hC:iH prog w A s κ rk L) (hk:kindOf st=κ) (ma:∀ (i:Nat) (p:Keyed),a[i]?=some p->p∈L) (mb:∀ (i:Nat) (p:Keyed),b[i]?=some p->p∈L)
 (lA:∀ {out:Array Keyed} {ia ib:Nat},WL rk a b out ia ib->ia+1=a.size->Res rk a b (Cy a b out ia ib)) (ua:Up rk a) (ub:Up rk b) (hL:l6 rk a b c.2.1 c.2.2.1 c.2.2.2.1) (hn:n<=c.2.2.1+c.2.2.2.1+1)
 (h1:∀ r z st',c8 st st'->Res rk a b r->Q (.done (some r,z)) st') (h2:∀ ia ib out g st',c8 st st'->l6 rk a b out ia ib->n<=ia+ib->Q (.yield (none,out,ia,ib,g)) st'):wpS (model prog w) A E s (oB a b c) Q st:=by
 unfold oB
 refine NU (OE (O1 (I:=λy c st'=>st'=st/\c.1=none/\l6 rk a b c.2.1 c.2.2.1 c.2.2.2.1/\n+y<=c.2.2.1+c.2.2.2.1+1) (Q:=λc st'=>st'=st/\DI rk a b n c.1 c.2.2.1 c.2.2.2.1 c.2.1) ?step ?fin ⟨rfl,rfl,hL,hn⟩) ?post)
 case fin =>
  rintro c st' ⟨rfl,hc,hL',hx⟩
  exact ⟨rfl,.inr ⟨hc,hL',by have:=hL'.la; have:=hL'.lb; lia⟩⟩
 case step =>
  rintro y c st' _ hy ⟨rfl,_,hL',hx⟩
  refine xq (n:=n+y) hC hk ma mb lA ua ub hL' hx λo ia ib out z y hR=>⟨?_,?_⟩
  ·refine ⟨rfl,?_⟩
   rcases hR with hR | ⟨q1,q2,q3⟩
   ·exact .inl hR
   ·exact .inr ⟨q1,q2,N3 (Q3 _ _) q3⟩
  ·rintro rfl
   rcases hR with ⟨_,q,_⟩ | ⟨q1,q2,q3⟩
   ·cases q
   ·exact ⟨rfl,rfl,q2,Su q3⟩
 case post =>
  rintro ⟨o,out,ia,ib,ac,bc⟩ st' ⟨rfl,hR⟩
  dsimp only at hR |-
  rcases hR with ⟨r,rfl,hr⟩ | ⟨rfl,hL2,hn2⟩
  ·exact NV (h1 r _ _ (.refl _) hr)
  refine NU (Ql (Pe ⟨rfl,?_⟩))
  refine NU (OE (O1 (I:=λy c st''=>c8 st' st''/\c.1=none/\l6 rk a b c.2.1 c.2.2.1 c.2.2.2.1/\n<=c.2.2.1+c.2.2.2.1) (Q:=λc st''=>c8 st' st''/\DI rk a b n c.1 c.2.2.1 c.2.2.2.1 c.2.1) ?gstep ?gfin ⟨.refl _,rfl,hL2,hn2⟩) ?gpost)
  case gfin=>exact λc st'' ⟨q1,q2,q3,q4⟩=>⟨q1,.inr ⟨q2,q3,q4⟩⟩
  case gstep =>
   rintro y c st'' _ _ ⟨q1,q2,q3,q4⟩
   have key:wpS (model prog w) A E s (Al a b c) (λx st3=>c8 st'' st3/\DJ rk a b n x) st'':=by
    unfold Al
    split
    ·exact ng hC (q1.k.trans hk) ma mb lA ua ub q3 q4 λx st3 k h=>⟨k,h⟩
    ·exact ng hC (q1.k.trans hk) ma mb lA ua ub q3 q4 λx st3 k h=>⟨k,h⟩
   refine OE key λx st3 ⟨k,h⟩=>?_
   cases x with
   | done c=>exact ⟨q1.trans k,h⟩
   | yield c=>exact ⟨q1.trans k,h⟩
  case gpost =>
   rintro ⟨o,out,ia,ib,g,ac,bc⟩ st'' ⟨q1,hR⟩
   dsimp only at hR |-
   rcases hR with ⟨r,rfl,hr⟩ | ⟨rfl,hL3,hn3⟩
   ·exact NV (h1 r _ _ q1 hr)
   ·exact NU (fQ (NV (h2 _ _ _ _ _ (q1.min _) hL3 hn3)))
theorem qy {st:SortSt} (hC:iH prog w A s κ rk L) (hk:kindOf st=κ) (ma:∀ (i:Nat) (p:Keyed),a[i]?=some p->p∈L) (mb:∀ (i:Nat) (p:Keyed),b[i]?=some p->p∈L) (ua:Up rk a) (ub:Up rk b) (na:1<=a.size) (nb:1<=b.size)
 (h0:∀ p q,a[0]?=some p->b[0]?=some q->rk q<=rk p) (hl:∀ (j:Nat) (p q:Keyed),a[a.size - 1]?=some p->b[j]?=some q->rk q<=rk p) (h:∀ r st',Res rk a b r->c8 st st'->Q r st'):wpS (model prog w) A E s (kX a b) Q st:=by
 have lastA:∀ {out:Array Keyed} {ia ib:Nat},WL rk a b out ia ib->ia+1=a.size->Res rk a b (Cy a b out ia ib):=λhw e=>hw.last ub e λj p q e1 e2=>hl j p q (by rw [<- e]; exact e1) e2
 obtain ⟨q0,eq0⟩:=some_at (xs:=b) (i:=0) nb
 obtain ⟨p0,ep0⟩:=some_at (xs:=a) (i:=0) na
 have W0:WL rk a b #[q0] 0 1:=by
  have z:WL rk a b #[] 0 0:=⟨OB _,OB _,by simp,Rp,by simp,by simp⟩
  exact z.gj ub eq0 λj q _ e=>OA (h0 p0 q0 ep0 eq0) (ua 0 j p0 q (OB _) ep0 e)
 rw [qx]
 refine NU (Ql (Pe ⟨rfl,?_⟩))
 refine NU (aS eq0 ?_)
 by_cases e1:1=b.size
 ·rw [if_pos (by simpa using e1)]
  exact NV (h _ _ (W0.jr ua e1) (.refl _))
 rw [if_neg (by simpa using e1)]
 by_cases e2:0+1=a.size
 ·rw [if_pos (by simpa using e2)]
  exact NV (h _ _ (lastA W0 e2) (.refl _))
 rw [if_neg (by simpa using e2)]
 refine NU (Pp ?_)
 refine NU (OE (O1 (I:=λx c st'=>c8 st st'/\c.1=none/\l6 rk a b c.2.1 c.2.2.1 c.2.2.2.1/\x+1<=c.2.2.1+c.2.2.2.1) (Q:=λc st'=>c8 st st'/\∃ r,c.1=some r/\Res rk a b r) ?step ?fin ⟨.refl _,rfl,⟨W0,by dsimp only; lia,by dsimp only; lia⟩,by dsimp only; lia⟩) ?post)
 case fin =>
  rintro c st' ⟨hK,hc,hL,hx⟩
  have h1:=hL.la
  have h2:=hL.lb
  lia
 case post =>
  rintro c st' ⟨hK,r,hc,hr⟩
  rw [hc]
  exact NV (h r st' hr hK)
 case step =>
  rintro x c st1 _ hx ⟨hK,_,hL,hn⟩
  exact sM (n:=x+2) hC (hK.k.trans hk) ma mb lastA ua ub hL (Su hn) (λr z st' k hr=>⟨hK.trans k,r,rfl,hr⟩) λia ib out g st' k q1 q2=>⟨hK.trans k,rfl,q1,q2⟩
noncomputable def k6:Array Keyed->Array Keyed->StateT SortSt Sem (Array Keyed):=sortPriv% PySem.Builtin.mergeHi
local macro_rules | `(tactic| walk_at "dl mergeHi")=>do
 let i:=QE (Qo `PySem.Builtin.List.W1All `PySem.Builtin.mergeHi)
 `(tactic| delta $i)
section
variable {rk:Keyed->Int} {a b:Array Keyed}
structure WH (rk:Keyed->Int) (a b:Array Keyed) (out:Array Keyed) (na nb:Nat):Prop where
 pa:na<=a.size
 pb:nb<=b.size
 pm:out.toList.Perm (a.toList.drop na++b.toList.drop nb)
 sr:Aj rk out.toList.reverse
 ha:∀ p∈out.toList,∀ (j:Nat) (q:Keyed),j<na->a[j]?=some q->rk q<=rk p
 hb:∀ p∈out.toList,∀ (j:Nat) (q:Keyed),j<nb->b[j]?=some q->rk q<=rk p
theorem dP (xs:Array Keyed) (i):(xs.extract 0 i).toList=xs.toList.take i:=by rw [eX,SN]
theorem iY {xs:Array Keyed} (h:q∈xs.toList.take i):∃ j,j<i/\xs[j]?=some q:=by
 obtain ⟨n,hn⟩:=QW h
 have hl:=(N4.mp hn).1
 rw [OW] at hl
 rw [RW (by lia)] at hn
 exact ⟨n,by lia,by rw [<- OL]; exact hn⟩
theorem WH.res (h:WH rk a b out na nb) (x) (hx:x.toList.Perm (a.toList.take na++b.toList.take nb)) (hs:Aj rk x.toList):Res rk a b (x++out.reverse):=by
 have e0:(x++out.reverse).toList=x.toList++out.toList.reverse:=by simp
 refine ⟨?_,?_⟩
 ·rw [e0]
  refine (hx.append ((So _).trans h.pm)).trans ?_
  have:(a.toList.take na++b.toList.take nb++(a.toList.drop na++b.toList.drop nb)).Perm (a.toList.take na++a.toList.drop na++(b.toList.take nb++b.toList.drop nb)):=by
   rw [Oh,Oh]
   refine QV _ ?_
   rw [<- Oh,<- Oh]
   exact List.Perm.append_right _ Qp
  rw [Px,Px] at this
  exact this
 ·rw [e0]
  refine bQ hs h.sr λp hp q hq=>?_
  have hq':q∈out.toList:=by simpa using hq
  rcases Om.mp (hx.mem_iff.mp hp) with z | z
  ·obtain ⟨j,h1,e⟩:=iY z
   exact h.ha q hq' j p h1 e
  ·obtain ⟨j,h1,e⟩:=iY z
   exact h.hb q hq' j p h1 e
theorem WH.ju (h:WH rk a b out na nb) (ub:Up rk b) (e:na=0):Res rk a b (a.extract 0 na++b.extract 0 nb++out.reverse):=by
 subst e
 refine h.res _ ?_ ?_
 ·simp [dP]
 ·have:(a.extract 0 0++b.extract 0 nb).toList=b.toList.take nb:=by rw [O7,dP,dP]; simp
  rw [this]; exact (jq ub).sublist (Sm _ _)
theorem WH.jr (h:WH rk a b out na nb) (ua:Up rk a) (e:nb=0):Res rk a b (a.extract 0 na++b.extract 0 nb++out.reverse):=by
 subst e
 refine h.res _ ?_ ?_
 ·simp [dP]
 ·have:(a.extract 0 na++b.extract 0 0).toList=a.toList.take na:=by rw [O7,dP,dP]; simp
  rw [this]; exact (jq ua).sublist (Sm _ _)
theorem WH.first (h:WH rk a b out na nb) (ua:Up rk a) (e:nb=1) (hf:∀ (j:Nat) (p q:Keyed),a[j]?=some p->b[0]?=some q->rk q<=rk p) :
 Res rk a b (b.extract 0 nb++a.extract 0 na++out.reverse):=by
 subst e
 have e1:(b.extract 0 1++a.extract 0 na).toList=b.toList.take 1++a.toList.take na:=by rw [O7,dP,dP]
 refine h.res _ ?_ ?_
 ·rw [e1]; exact Qp
 ·rw [e1]
  refine bQ ?_ ((jq ua).sublist (Sm _ _)) λp hp q hq=>?_
  ·exact vc (by simp; lia)
  ·obtain ⟨j,h1,e2⟩:=iY hp
   obtain ⟨j2,h2,e3⟩:=iY hq
   have:j=0:=by lia
   subst this
   exact hf j2 q p e3 e2
theorem nh {xs:Array Keyed} (hi:1<=i) (h:xs[i - 1]?=some p):xs.toList.drop (i - 1)=p::xs.toList.drop i:=by
 rw [<- OL] at h
 obtain ⟨h1,h2⟩:=N4.mp h
 rw [Tp h1,h2,show i - 1+1=i by lia]
theorem WH.gm {out:Array Keyed} {na nb:Nat} {p:Keyed} (h:WH rk a b out na nb) (ua:Up rk a) (hn:1<=na) (e:a[na - 1]?=some p) (hl:∀ (j:Nat) (q:Keyed),j<nb->b[j]?=some q->rk q<=rk p):WH rk a b (out.push p) (na - 1) nb where
 pa:=by have:=h.pa; lia
 pb:=h.pb
 pm:=by
  rw [OG,nh hn e]
  refine (h.pm.append_right _).trans ?_
  rw [Ph]
  exact Qp
 sr:=by
  rw [OG,TU]
  exact bQ (QU _ _) h.sr λr hr q hq=>by
   have hr':r=p:=by simpa using hr
   rw [hr']
   exact h.ha q (by simpa using hq) (na - 1) p (by lia) e
 ha:=λq hq j r hj er=>by
  rw [OG] at hq
  rcases Om.mp hq with z | z
  ·exact h.ha q z j r (by lia) er
  ·rw [Oa.mp z]; exact ua j (na - 1) r p (by lia) er e
 hb:=λq hq j r hj er=>by
  rw [OG] at hq
  rcases Om.mp hq with z | z
  ·exact h.hb q z j r hj er
  ·rw [Oa.mp z]; exact hl j r hj er
theorem WH.gj {out:Array Keyed} {na nb:Nat} {p:Keyed} (h:WH rk a b out na nb) (ub:Up rk b) (hn:1<=nb) (e:b[nb - 1]?=some p) (hl:∀ (j:Nat) (q:Keyed),j<na->a[j]?=some q->rk q<=rk p):WH rk a b (out.push p) na (nb - 1) where
 pa:=h.pa
 pb:=by have:=h.pb; lia
 pm:=by
  rw [OG,nh hn e]
  refine (h.pm.append_right _).trans ?_
  rw [Oh]
  exact QV _ Qp
 sr:=by
  rw [OG,TU]
  exact bQ (QU _ _) h.sr λr hr q hq=>by
   have hr':r=p:=by simpa using hr
   rw [hr']
   exact h.hb q (by simpa using hq) (nb - 1) p (by lia) e
 hb:=λq hq j r hj er=>by
  rw [OG] at hq
  rcases Om.mp hq with z | z
  ·exact h.hb q z j r (by lia) er
  ·rw [Oa.mp z]; exact ub j (nb - 1) r p (by lia) er e
 ha:=λq hq j r hj er=>by
  rw [OG] at hq
  rcases Om.mp hq with z | z
  ·exact h.ha q z j r hj er
  ·rw [Oa.mp z]; exact hl j r hj er
theorem vh {xs:Array Keyed} (h:m<n) (e:xs[m]?=some p):(xs.extract m n).reverse=(xs.extract (m+1) n).reverse.push p:=by
 apply Qk
 rw [OG,QX,QX,eX,eX]
 rw [<- OL] at e
 obtain ⟨h1,h2⟩:=N4.mp e
 have h3:m<(xs.toList.take n).length:=by rw [OW]; lia
 rw [Tp h3,List.reverse_cons,List.getElem_take,h2]
theorem qz (xs ys:Array Keyed) (p):xs++ys.push p=(xs++ys).push p:=by
 apply Qk; simp
theorem WH.qt (h:WH rk a b out na nb) (ua:Up rk a):∀ (k m:Nat),m+k=na->(∀ (i j:Nat) (p q:Keyed),m<=i->i<na->j<nb->a[i]?=some p->b[j]?=some q->rk q<=rk p)->WH rk a b (out++(a.extract m na).reverse) m nb
 | 0,m,hm,_=>by
  have e:m=na:=by lia
  subst e
  have:out++(a.extract m m).reverse=out:=by
   apply Qk
   rw [O7,QX,iX,List.reverse_nil,OP]
  rw [this]; exact h
 | k+1,m,hm,hl=>by
  have hp:=h.pa
  have ih:=h.qt ua k (m+1) (by lia) λi j p q h1 h2=>hl i j p q (by lia) h2
  have e:a[m+1 - 1]?=some (a[m]'(by lia)):=Oq (show m<a.size by lia)
  have z:=ih.gm ua (by lia) e λj q hj eq=>hl m j _ q (NT _) (by lia) hj (Oq (show m<a.size by lia)) eq
  rw [vh (show m<na by lia) (Oq (show m<a.size by lia)),qz]
  exact z
theorem WH.qu (h:WH rk a b out na nb) (ub:Up rk b):∀ (k m:Nat),m+k=nb->(∀ (i j:Nat) (p q:Keyed),m<=i->i<nb->j<na->b[i]?=some p->a[j]?=some q->rk q<=rk p)->WH rk a b (out++(b.extract m nb).reverse) na m
 | 0,m,hm,_=>by
  have e:m=nb:=by lia
  subst e
  have:out++(b.extract m m).reverse=out:=by
   apply Qk
   rw [O7,QX,iX,List.reverse_nil,OP]
  rw [this]; exact h
 | k+1,m,hm,hl=>by
  have hp:=h.pb
  have ih:=h.qu ub k (m+1) (by lia) λi j p q h1 h2=>hl i j p q (by lia) h2
  have e:b[m+1 - 1]?=some (b[m]'(by lia)):=Oq (show m<b.size by lia)
  have z:=ih.gj ub (by lia) e λj q hj eq=>hl m j _ q (NT _) (by lia) hj (Oq (show m<b.size by lia)) eq
  rw [vh (show m<nb by lia) (Oq (show m<b.size by lia)),qz]
  exact z
structure ic (rk:Keyed->Int) (a b out:Array Keyed) (na nb:Nat):Prop where
 w:WH rk a b out na nb
 la:1<=na
 lb:2<=nb
end
noncomputable abbrev An:=Option (Array Keyed)×Nat×Nat×Array Keyed×Nat×Nat×Nat
noncomputable def FI (a b out:Array Keyed) (na nb:Nat):Array Keyed:=a.extract 0 na++b.extract 0 nb++out.reverse
noncomputable def DK (a b out:Array Keyed) (na nb:Nat):Array Keyed:=b.extract 0 nb++a.extract 0 na++out.reverse
noncomputable def vm (a b:Array Keyed) (mg ac bc na nb:Nat) (out:Array Keyed):StateT SortSt Sem (ForInStep An):=do
 let p <- elem' a (na - 1)
 if (na - 1 == 0)=true then pure (.done (some (FI a b (out.push p) (na - 1) nb),na - 1,nb,out.push p,mg,ac,bc))
 else if (decide (ac<7) && decide (bc<7))=true then pure (.done (none,na - 1,nb,out.push p,mg,ac,bc))
 else pure (.yield (none,na - 1,nb,out.push p,mg,ac,bc))
noncomputable def vn (a b:Array Keyed) (mg ac bc na nb:Nat) (out:Array Keyed):StateT SortSt Sem (ForInStep An):=do
 let q <- elem' b (nb - 1)
 if (nb - 1 == 1)=true then pure (.done (some (DK a b (out.push q) na (nb - 1)),na,nb - 1,out.push q,mg,ac,bc))
 else do
  let p <- elem' a (na - 1)
  let x <- c6 true p b 0 (nb - 1) (nb - 1 - 1)
  match x with
  | some k=>(if nb - 1 - k>0 then
   (if (k == 1)=true then pure (.done (some (DK a b (out.push q++(b.extract k (nb - 1)).reverse) na k),na,k,out.push q++(b.extract k (nb - 1)).reverse,mg,ac,nb - 1 - k))
    else if (k == 0)=true then pure (.done (some (FI a b (out.push q++(b.extract k (nb - 1)).reverse) na k),na,k,out.push q++(b.extract k (nb - 1)).reverse,mg,ac,nb - 1 - k))
    else vm a b mg ac (nb - 1 - k) na k (out.push q++(b.extract k (nb - 1)).reverse))
   else vm a b mg ac (nb - 1 - k) na (nb - 1) (out.push q))
  | _=>pure (.done (some (FI a b (out.push q) na (nb - 1)),na,nb - 1,out.push q,mg,ac,bc))
noncomputable def vo (a b:Array Keyed) (mg ac bc na nb:Nat) (out:Array Keyed):StateT SortSt Sem (ForInStep An):=do
 cK mg
 let q <- elem' b (nb - 1)
 let x <- c6 false q a 0 na (na - 1)
 match x with
 | some k=>(if na - k>0 then
  (if (k == 0)=true then pure (.done (some (FI a b (out++(a.extract k na).reverse) k nb),k,nb,out++(a.extract k na).reverse,mg,na - k,bc))
   else vn a b mg (na - k) bc k nb (out++(a.extract k na).reverse))
  else vn a b mg (na - k) bc na nb out)
 | _=>pure (.done (some (FI a b out na nb),na,nb,out,mg,ac,bc))
noncomputable def Ao (a b:Array Keyed) (c:An):StateT SortSt Sem (ForInStep An) :=
 if c.2.2.2.2.1>1 then vo a b (c.2.2.2.2.1 - 1) c.2.2.2.2.2.1 c.2.2.2.2.2.2 c.2.1 c.2.2.1 c.2.2.2.1 else vo a b c.2.2.2.2.1 c.2.2.2.2.2.1 c.2.2.2.2.2.2 c.2.1 c.2.2.1 c.2.2.2.1
noncomputable abbrev HY:=Option (Array Keyed)×Nat×Nat×Array Keyed×Nat×Nat
noncomputable def Aq (a b:Array Keyed) (mg:Nat) (c:HY):StateT SortSt Sem (ForInStep HY):=do
 let q <- elem' b (c.2.2.1 - 1)
 let p <- elem' a (c.2.1 - 1)
 let x <- lt' q p
 match x with
 | some y=>(if y=true then (do
  let p <- elem' a (c.2.1 - 1)
  if (c.2.1 - 1 == 0)=true then pure (.done (some (FI a b (c.2.2.2.1.push p) (c.2.1 - 1) c.2.2.1),c.2.1 - 1,c.2.2.1,c.2.2.2.1.push p,c.2.2.2.2.1+1,0))
  else if c.2.2.2.2.1+1>=mg then pure (.done (none,c.2.1 - 1,c.2.2.1,c.2.2.2.1.push p,c.2.2.2.2.1+1,0))
  else pure (.yield (none,c.2.1 - 1,c.2.2.1,c.2.2.2.1.push p,c.2.2.2.2.1+1,0)))
  else (do
   let q <- elem' b (c.2.2.1 - 1)
   if (c.2.2.1 - 1 == 1)=true then pure (.done (some (DK a b (c.2.2.2.1.push q) c.2.1 (c.2.2.1 - 1)),c.2.1,c.2.2.1 - 1,c.2.2.2.1.push q,0,c.2.2.2.2.2+1))
   else if c.2.2.2.2.2+1>=mg then pure (.done (none,c.2.1,c.2.2.1 - 1,c.2.2.2.1.push q,0,c.2.2.2.2.2+1))
   else pure (.yield (none,c.2.1,c.2.2.1 - 1,c.2.2.2.1.push q,0,c.2.2.2.2.2+1))))
 | _=>pure (.done (some (FI a b c.2.2.2.1 c.2.1 c.2.2.1),c.2.1,c.2.2.1,c.2.2.2.1,c.2.2.2.2.1,c.2.2.2.2.2))
noncomputable abbrev Cz:=Option (Array Keyed)×Nat×Nat×Array Keyed×Nat
noncomputable def jv (a b:Array Keyed) (c:Cz):StateT SortSt Sem (ForInStep Cz):=do
 let s <- forIn [:a.size+b.size] ((none,c.2.1,c.2.2.1,c.2.2.2.1,0,0):HY) λ_ s=>Aq a b c.2.2.2.2 s
 match s.1 with
 | some r=>pure (.done (some r,s.2.1,s.2.2.1,s.2.2.2.1,c.2.2.2.2))
 | none=>do
  liftM (rule "list.sort.gallop")
  let t <- forIn [:a.size+b.size] ((none,s.2.1,s.2.2.1,s.2.2.2.1,c.2.2.2.2+1,s.2.2.2.2.1,s.2.2.2.2.2):An) λ_ t=>Ao a b t
  match t.1 with
  | some r=>pure (.done (some r,t.2.1,t.2.2.1,t.2.2.2.1,t.2.2.2.2.1))
  | none=>do
   cK (t.2.2.2.2.1+1)
   pure (.yield (none,t.2.1,t.2.2.1,t.2.2.2.1,t.2.2.2.2.1+1))
theorem qA (a b):k6 a b=(do
 liftM (rule "list.sort.merge-hi")
 let p <- elem' a (a.size - 1)
 if (a.size - 1 == 0)=true then pure (FI a b #[p] (a.size - 1) b.size)
 else if (b.size == 1)=true then pure (DK a b #[p] (a.size - 1) b.size)
 else do
  let st <- get
  let s <- forIn [:a.size+b.size] ((none,a.size - 1,b.size,#[p],gallopOf st):Cz) λ_ c=>jv a b c
  match s.1 with
  | some r=>pure r
  | none=>liftM (unsupported (α:=Array Keyed) "internal:list.sort.merge-bound")):=by
 unfold k6
 walk_at "dl mergeHi"
 dsimp only
 refine congrArg _ (funext λ_=>?_)
 refine congrArg _ (funext λp=>?_)
 refine congrArg _ (congrArg _ ?_)
 refine congrArg _ (funext λst=>?_)
 have h1:∀ (c:Cz),jv a b c=jv a b c:=λ_=>rfl
 have e:∀ (f g:Nat->Cz->StateT SortSt Sem (ForInStep Cz)) (c:Cz) (k:Cz->StateT SortSt Sem (Array Keyed)),f=g->(forIn [:a.size+b.size] c f >>= k)=(forIn [:a.size+b.size] c g >>= k):=λ_ _ _ _ h=>by rw [h]
 refine (e _ _ _ _ (funext λ_=>funext λc=>?_)).trans (congrArg _ (funext λs=>?_))
 ·obtain ⟨o,na,nb,out,mg⟩:=c
  unfold jv
  dsimp only
  have e2:∀ (f g:Nat->HY->StateT SortSt Sem (ForInStep HY)) (c:HY) (k l:HY->StateT SortSt Sem (ForInStep Cz)),f=g->k=l->(forIn [:a.size+b.size] c f >>= k)=(forIn [:a.size+b.size] c g >>= l):=λ_ _ _ _ _ h h2=>by rw [h,h2]
  refine e2 _ _ _ _ _ (funext λ_=>funext λc=>?_) (funext λs=>?_)
  ·rfl
  ·obtain ⟨o,na,nb,out,ac,bc⟩:=s
   cases o with
   | some r=>rfl
   | none =>
    dsimp only
    refine congrArg _ (funext λ_=>?_)
    have e3:∀ (f g:Nat->An->StateT SortSt Sem (ForInStep An)) (c:An) (k l:An->StateT SortSt Sem (ForInStep Cz)),f=g->k=l->(forIn [:a.size+b.size] c f >>= k)=(forIn [:a.size+b.size] c g >>= l):=λ_ _ _ _ _ h h2=>by rw [h,h2]
    refine e3 _ _ _ _ _ (funext λ_=>funext λc=>?_) (funext λs=>?_)
    ·rfl
    ·obtain ⟨o,s⟩:=s
     cases o <;> rfl
 ·obtain ⟨o,s⟩:=s
  cases o <;> rfl
def DL (rk:Keyed->Int) (a b:Array Keyed) (n:Nat) (o:Option (Array Keyed)) (na nb:Nat) (out:Array Keyed):Prop:=(∃ r,o=some r/\Res rk a b r)\/(o=none/\ic rk a b out na nb/\na+nb<=n)
noncomputable def DM (rk:Keyed->Int) (a b:Array Keyed) (n:Nat):ForInStep An->Prop
 | .done c=>DL rk a b n c.1 c.2.1 c.2.2.1 c.2.2.2.1
 | .yield c=>c.1=none/\ic rk a b c.2.2.2.1 c.2.1 c.2.2.1/\c.2.1+c.2.2.1<=n
theorem ni {st:SortSt} (W:WH rk a b out na nb) (ua:Up rk a) (ub:Up rk b) (la:1<=na) (lb:2<=nb) (ep:a[na - 1]?=some p)
 (hl:∀ (j:Nat) (r:Keyed),j<nb->b[j]?=some r->rk r<=rk p) (hn:na - 1+nb<=n) (hQ:∀ x,DM rk a b n x->Q x st):wpS (model prog w) A E s (vm a b mg ac bc na nb out) Q st:=by
 unfold vm
 have W4:=W.gm ua la ep hl
 refine NU (aS ep ?_)
 by_cases e9:na - 1=0
 ·rw [if_pos (by simpa using e9)]
  exact NV (hQ _ (.inl ⟨_,rfl,W4.ju ub e9⟩))
 rw [if_neg (by simpa using e9)]
 have hL:ic rk a b (out.push p) (na - 1) nb:=⟨W4,TH.mpr e9,lb⟩
 split
 ·exact NV (hQ _ (.inr ⟨rfl,hL,hn⟩))
 ·exact NV (hQ _ ⟨rfl,hL,hn⟩)
theorem nj {st:SortSt} (hC:iH prog w A s κ rk L) (hk:kindOf st=κ) (ma:∀ (i:Nat) (p:Keyed),a[i]?=some p->p∈L) (mb:∀ (i:Nat) (p:Keyed),b[i]?=some p->p∈L)
 (fB:∀ {out:Array Keyed} {na nb:Nat},WH rk a b out na nb->nb=1->Res rk a b (DK a b out na nb)) (W:WH rk a b out na nb) (ua:Up rk a) (ub:Up rk b) (la:1<=na) (lb:2<=nb) (eq:b[nb - 1]?=some q)
 (hl:∀ (j:Nat) (r:Keyed),j<na->a[j]?=some r->rk r<=rk q) (hn:na+nb<=n+2) (hQ:∀ x,DM rk a b n x->Q x st):wpS (model prog w) A E s (vn a b mg ac bc na nb out) Q st:=by
 unfold vn
 have W2:=W.gj ub (Nat.le_of_succ_le lb) eq hl
 have hpa:=W.pa
 have hpb:=W.pb
 refine NU (aS eq ?_)
 by_cases e5:nb - 1=1
 ·rw [if_pos (by simpa using e5)]
  exact NV (hQ _ (.inl ⟨_,rfl,fB W2 e5⟩))
 rw [if_neg (by simpa using e5)]
 have lb1:2<=nb - 1:=by lia
 obtain ⟨p,ep⟩:=some_at (xs:=a) (i:=na - 1) (by lia)
 refine NU (aS ep ?_)
 refine NU (qw hC hk (ma _ _ ep) mb ub _ (by lia) (by lia) λk hj1 hj2 hj3=>?_)
 dsimp only
 have dn2:∀ (i:Nat) (r:Keyed),i<k->b[i]?=some r->rk r<rk p:=λi r z1 e6=>hj2 i r z1 (by rw [Qg]; exact e6)
 by_cases hj0:nb - 1 - k>0
 ·rw [if_pos hj0]
  have W3:=W2.qu ub (nb - 1 - k) k (TR hj1) λi j r p' z1 z2 z3 e6 e7=>OA (ua j (na - 1) p' p (R7 z3) e7 ep) (hj3 i r z1 (Nat.add_lt_add_left z2 0) (by rw [Qg]; exact e6))
  by_cases e8:k=1
  ·rw [if_pos (by simpa using e8)]
   exact NV (hQ _ (.inl ⟨_,rfl,fB W3 e8⟩))
  rw [if_neg (by simpa using e8)]
  by_cases e10:k=0
  ·rw [if_pos (by simpa using e10)]
   exact NV (hQ _ (.inl ⟨_,rfl,W3.jr ua e10⟩))
  rw [if_neg (by simpa using e10)]
  exact ni W3 ua ub la (by lia) ep (λj r hj e6=>P5 (dn2 j r hj e6)) (by lia) hQ
 ·rw [if_neg hj0]
  exact ni W2 ua ub la lb1 ep (λj r hj e6=>P5 (dn2 j r (by lia) e6)) (by lia) hQ
theorem nk {st:SortSt} (hC:iH prog w A s κ rk L) (hk:kindOf st=κ) (ma:∀ (i:Nat) (p:Keyed),a[i]?=some p->p∈L) (mb:∀ (i:Nat) (p:Keyed),b[i]?=some p->p∈L)
 (fB:∀ {out:Array Keyed} {na nb:Nat},WH rk a b out na nb->nb=1->Res rk a b (DK a b out na nb)) (ua:Up rk a) (ub:Up rk b) (hL:ic rk a b out na nb) (hn:na+nb<=n) (hQ:∀ x st',c8 st st'->DM rk a b n x->Q x st') :
 wpS (model prog w) A E s (vo a b mg ac bc na nb out) Q st:=by
 unfold vo
 have W:=hL.w
 have la:=hL.la
 have lb:=hL.lb
 have hpa:=W.pa
 have hpb:=W.pb
 obtain ⟨q,eq⟩:=some_at (xs:=b) (i:=nb - 1) (by lia)
 refine NU (fQ ?_)
 have Gj:=λx=>hQ x _ ((c8.refl st).min mg)
 refine NU (aS eq ?_)
 refine NU (qv hC (by exact hk) (mb _ _ eq) ma ua _ (by lia) (by lia) λk hk1 hk2 hk3=>?_)
 dsimp only
 have dn1:∀ (i:Nat) (p:Keyed),i<k->a[i]?=some p->rk p<=rk q:=λi p z1 e3=>hk2 i p z1 (by rw [Qg]; exact e3)
 by_cases hk0:na - k>0
 ·rw [if_pos hk0]
  have Wk:=W.qt ua (na - k) k (TR hk1) λi j p r z1 z2 z3 e3 e4=>OA (ub j (nb - 1) r q (R7 z3) e4 eq) (P5 (hk3 i p z1 (Nat.add_lt_add_left z2 0) (by rw [Qg]; exact e3)))
  by_cases e4:k=0
  ·rw [if_pos (by simpa using e4)]
   exact NV (Gj _ (.inl ⟨_,rfl,Wk.ju ub e4⟩))
  rw [if_neg (by simpa using e4)]
  exact nj hC (by exact hk) ma mb fB Wk ua ub (TH.mpr e4) lb eq dn1 (by lia) Gj
 ·rw [if_neg hk0]
  exact nj hC (by exact hk) ma mb fB W ua ub la lb eq (λj r hj e3=>dn1 j r (by lia) e3) (by lia) Gj
theorem xr {st:SortSt} (hC:iH prog w A s κ rk L) (hk:kindOf st=κ) (ma:∀ (i:Nat) (p:Keyed),a[i]?=some p->p∈L) (mb:∀ (i:Nat) (p:Keyed),b[i]?=some p->p∈L)
 (fB:∀ {out:Array Keyed} {na nb:Nat},WH rk a b out na nb->nb=1->Res rk a b (DK a b out na nb)) (ua:Up rk a) (ub:Up rk b) (hL:ic rk a b c.2.2.2.1 c.2.1 c.2.2.1) (hn:c.2.1+c.2.2.1<=n+1)
 (hQ:∀ o na nb out z y,DL rk a b n o na nb out->Q (.done (o,na,nb,out,z)) st/\(o=none->Q (.yield (none,na,nb,out,y)) st)):wpS (model prog w) A E s (Aq a b mg c) Q st:=by
 obtain ⟨_,na,nb,out,ac,bc⟩:=c
 unfold Aq
 dsimp only at hL hn |-
 have W:=hL.w
 have la:=hL.la
 have lb:=hL.lb
 have hpa:=W.pa
 have hpb:=W.pb
 obtain ⟨q,eq⟩:=some_at (xs:=b) (i:=nb - 1) (by lia)
 obtain ⟨p,ep⟩:=some_at (xs:=a) (i:=na - 1) (by lia)
 refine NU (aS eq (NU (aS ep (NU (kU hC hk (mb _ _ eq) (ma _ _ ep) ?_)))))
 dsimp only
 by_cases hw:rk q<rk p
 ·rw [decide_eq_true hw,if_pos rfl]
  have W1:=W.gm ua la ep λj r hj e=>OA (ub j (nb - 1) r q (R7 hj) e eq) (P5 hw)
  refine NU (aS ep ?_)
  by_cases e3:na - 1=0
  ·rw [if_pos (by simpa using e3)]
   exact NV (hQ _ _ _ _ _ (0,0) (.inl ⟨_,rfl,W1.ju ub e3⟩)).1
  rw [if_neg (by simpa using e3)]
  have z:=hQ none (na - 1) nb (out.push p) (ac+1,0) (ac+1,0) (.inr ⟨rfl,⟨W1,TH.mpr e3,lb⟩,by lia⟩)
  split
  ·exact NV z.1
  ·exact NV (z.2 rfl)
 ·rw [decide_eq_false hw,if_neg N5]
  have W1:=W.gj ub (Nat.le_of_succ_le lb) eq λj r hj e=>OA (ua j (na - 1) r p (R7 hj) e ep) (Int.not_lt.mp hw)
  refine NU (aS eq ?_)
  by_cases e3:nb - 1=1
  ·rw [if_pos (by simpa using e3)]
   exact NV (hQ _ _ _ _ _ (0,0) (.inl ⟨_,rfl,fB W1 e3⟩)).1
  rw [if_neg (by simpa using e3)]
  have z:=hQ none na (nb - 1) (out.push q) (0,bc+1) (0,bc+1) (.inr ⟨rfl,⟨W1,la,by lia⟩,by lia⟩)
  split
  ·exact NV z.1
  ·exact NV (z.2 rfl)
theorem sN {st:SortSt} (hC:iH prog w A s κ rk L) (hk:kindOf st=κ) (ma:∀ (i:Nat) (p:Keyed),a[i]?=some p->p∈L) (mb:∀ (i:Nat) (p:Keyed),b[i]?=some p->p∈L)
 (fB:∀ {out:Array Keyed} {na nb:Nat},WH rk a b out na nb->nb=1->Res rk a b (DK a b out na nb)) (ua:Up rk a) (ub:Up rk b) (hL:ic rk a b c.2.2.2.1 c.2.1 c.2.2.1) (hn:c.2.1+c.2.2.1<=n+1) (hm:n+1<=a.size+b.size)
 (h1:∀ r z st',c8 st st'->Res rk a b r->Q (.done (some r,z)) st') (h2:∀ na nb out g st',c8 st st'->ic rk a b out na nb->na+nb<=n->Q (.yield (none,na,nb,out,g)) st'):wpS (model prog w) A E s (jv a b c) Q st:=by
 unfold jv
 refine NU (OE (O1 (I:=λy c st'=>st'=st/\c.1=none/\ic rk a b c.2.2.2.1 c.2.1 c.2.2.1/\y+c.2.1+c.2.2.1<=n+1) (Q:=λc st'=>st'=st/\DL rk a b n c.1 c.2.1 c.2.2.1 c.2.2.2.1) ?step ?fin ⟨rfl,rfl,hL,by dsimp only; lia⟩) ?post)
 case fin =>
  rintro c st' ⟨rfl,hc,hL',hx⟩
  exact ⟨rfl,.inr ⟨hc,hL',by lia⟩⟩
 case step =>
  rintro y c st' _ hy ⟨rfl,_,hL',hx⟩
  refine xr (n:=n - y) hC hk ma mb fB ua ub hL' (by have:=hL'.la; have:=hL'.lb; lia) λo na nb out z y hR=>⟨?_,?_⟩
  ·refine ⟨rfl,?_⟩
   rcases hR with hR | ⟨q1,q2,q3⟩
   ·exact .inl hR
   ·exact .inr ⟨q1,q2,by dsimp only; lia⟩
  ·rintro rfl
   rcases hR with ⟨_,q,_⟩ | ⟨q1,q2,q3⟩
   ·cases q
   ·exact ⟨rfl,rfl,q2,by have:=q2.la; have:=q2.lb; dsimp only; lia⟩
 case post =>
  rintro ⟨o,na,nb,out,ac,bc⟩ st' ⟨rfl,hR⟩
  dsimp only at hR |-
  rcases hR with ⟨r,rfl,hr⟩ | ⟨rfl,hL2,hn2⟩
  ·exact NV (h1 r _ _ (.refl _) hr)
  refine NU (Ql (Pe ⟨rfl,?_⟩))
  refine NU (OE (O1 (I:=λy c st''=>c8 st' st''/\c.1=none/\ic rk a b c.2.2.2.1 c.2.1 c.2.2.1/\c.2.1+c.2.2.1<=n) (Q:=λc st''=>c8 st' st''/\DL rk a b n c.1 c.2.1 c.2.2.1 c.2.2.2.1) ?gstep ?gfin ⟨.refl _,rfl,hL2,hn2⟩) ?gpost)
  case gfin=>exact λc st'' ⟨q1,q2,q3,q4⟩=>⟨q1,.inr ⟨q2,q3,q4⟩⟩
  case gstep =>
   rintro y c st'' _ _ ⟨q1,q2,q3,q4⟩
   have key:wpS (model prog w) A E s (Ao a b c) (λx st3=>c8 st'' st3/\DM rk a b n x) st'':=by
    unfold Ao
    split
    ·exact nk hC (q1.k.trans hk) ma mb fB ua ub q3 q4 λx st3 k h=>⟨k,h⟩
    ·exact nk hC (q1.k.trans hk) ma mb fB ua ub q3 q4 λx st3 k h=>⟨k,h⟩
   refine OE key λx st3 ⟨k,h⟩=>?_
   cases x with
   | done c=>exact ⟨q1.trans k,h⟩
   | yield c=>exact ⟨q1.trans k,h⟩
  case gpost =>
   rintro ⟨o,na,nb,out,g,ac,bc⟩ st'' ⟨q1,hR⟩
   dsimp only at hR |-
   rcases hR with ⟨r,rfl,hr⟩ | ⟨rfl,hL3,hn3⟩
   ·exact NV (h1 r _ _ q1 hr)
   ·exact NU (fQ (NV (h2 _ _ _ _ _ (q1.min _) hL3 hn3)))
theorem qB {st:SortSt} (hC:iH prog w A s κ rk L) (hk:kindOf st=κ) (ma:∀ (i:Nat) (p:Keyed),a[i]?=some p->p∈L) (mb:∀ (i:Nat) (p:Keyed),b[i]?=some p->p∈L) (ua:Up rk a) (ub:Up rk b) (na1:1<=a.size) (nb1:1<=b.size)
 (h0:∀ p q,a[0]?=some p->b[0]?=some q->rk q<=rk p) (hl:∀ (j:Nat) (p q:Keyed),a[a.size - 1]?=some p->b[j]?=some q->rk q<=rk p) (h:∀ r st',Res rk a b r->c8 st st'->Q r st'):wpS (model prog w) A E s (k6 a b) Q st:=by
 obtain ⟨p0,ep0⟩:=some_at (xs:=a) (i:=0) na1
 have firstB:∀ {out:Array Keyed} {na nb:Nat},WH rk a b out na nb->nb=1->Res rk a b (DK a b out na nb):=λhw e=>hw.first ua e λj p q e1 e2=>OA (h0 p0 q ep0 e2) (ua 0 j p0 p (OB _) ep0 e1)
 obtain ⟨pl,epl⟩:=some_at (xs:=a) (i:=a.size - 1) (by lia)
 have W0:WH rk a b #[pl] (a.size - 1) b.size:=by
  have z:WH rk a b #[] a.size b.size:=⟨NT _,NT _,by simp,Rp,by simp,by simp⟩
  exact z.gm ua na1 epl λj q _ e=>hl j pl q epl e
 rw [qA]
 refine NU (Ql (Pe ⟨rfl,?_⟩))
 refine NU (aS epl ?_)
 by_cases e1:a.size - 1=0
 ·rw [if_pos (by simpa using e1)]
  exact NV (h _ _ (W0.ju ub e1) (.refl _))
 rw [if_neg (by simpa using e1)]
 by_cases e2:b.size=1
 ·rw [if_pos (by simpa using e2)]
  exact NV (h _ _ (firstB W0 e2) (.refl _))
 rw [if_neg (by simpa using e2)]
 refine NU (Pp ?_)
 refine NU (OE (O1 (I:=λx c st'=>c8 st st'/\c.1=none/\ic rk a b c.2.2.2.1 c.2.1 c.2.2.1/\x+c.2.1+c.2.2.1<a.size+b.size) (Q:=λc st'=>c8 st st'/\∃ r,c.1=some r/\Res rk a b r) ?step ?fin ⟨.refl _,rfl,⟨W0,by dsimp only; lia,by dsimp only; lia⟩,by dsimp only; lia⟩) ?post)
 case fin =>
  rintro c st' ⟨hK,hc,hL,hx⟩
  have h1:=hL.la
  lia
 case post =>
  rintro c st' ⟨hK,r,hc,hr⟩
  rw [hc]
  exact NV (h r st' hr hK)
 case step =>
  rintro x c st1 _ hx ⟨hK,_,hL,hn⟩
  have l1:=hL.la
  have l2:=hL.lb
  exact sN (n:=a.size+b.size - x - 2) hC (hK.k.trans hk) ma mb firstB ua ub hL (by lia) (by lia) (λr z st' k hr=>⟨hK.trans k,r,rfl,hr⟩) λna nb out g st' k q1 q2=>⟨hK.trans k,rfl,q1,by have:=q1.la; dsimp only; lia⟩
def Seg (rk:Keyed->Int) (xs:Array Keyed) (lo hi:Nat):Prop:=∀ i j,lo<=i->i<=j->j<hi->R rk xs i<=R rk xs j
def FJ (rk:Keyed->Int) (xs:Array Keyed) (lo hi:Nat):Prop:=∀ i j,lo<=i->i<=j->j<hi->R rk xs j<=R rk xs i
structure Bs (κ:SortKind) (L:List Keyed) (st:SortSt):Prop where
 perm:(arrOf st).toList.Perm L
 kind:kindOf st=κ
 failed:failedOf st=none
structure Mv (st st':SortSt) (lo hi:Nat):Prop where
 out:∀ i,i<lo\/hi<=i->(arrOf st')[i]?=(arrOf st)[i]?
 pend:pendingOf st'=pendingOf st
section
variable {st st' st'':SortSt} {lo hi:Nat}
theorem Bs.size (h:Bs κ L st):(arrOf st).size=L.length:=by simpa using h.perm.length_eq
theorem Bs.at (h:Bs κ L st) (hi:i<L.length):∃ p,(arrOf st)[i]?=some p/\p∈L:=by
 have hs:=h.size
 refine ⟨(arrOf st)[i]'(by lia),Oq _,h.perm.mem_iff.mp ?_⟩
 rw [TN]; exact Ud _
theorem Bs.arr (h:Bs κ L st) (hp:xs.toList.Perm (arrOf st).toList):Bs κ L (setArr st xs):=⟨hp.trans h.perm,h.kind,h.failed⟩
theorem Mv.refl:Mv st st lo hi:=⟨λ_ _=>rfl,rfl⟩
theorem Mv.trans (a:Mv st st' lo hi) (b:Mv st' st'' lo hi):Mv st st'' lo hi:=⟨λi h=>(b.out i h).trans (a.out i h),b.pend.trans a.pend⟩
theorem Ar (hj:j<=xs.size) (k):R rk (mirror xs i j ((j - i) / 2)) k=if i<=k/\k<j then R rk xs (i+j - 1 - k) else R rk xs k:=by
 have e:=getElem?_mirror_all (i:=i) hj k
 by_cases h:i<=k/\k<j
 ·rw [if_pos h] at e |-; exact cA e
 ·rw [if_neg h] at e |-; exact cA e
theorem k7 (hj:j<=(arrOf st).size) (h1:lo<=i) (h2:j<=hi):Mv st (setArr st (mirror (arrOf st) i j ((j - i) / 2))) lo hi :=
 ⟨λk hk=>by
   have e:=getElem?_mirror_all (i:=i) hj k
   rw [if_neg (by lia)] at e; exact e,rfl⟩
theorem DN (i) (xs):Seg rk xs i (i+1):=λa b h1 h2 h3=>by
 have:a=b:=by lia
 subst this; exact Pd _
theorem Au (h:Seg rk xs lo (lo+n)) (hn:1<=n) (hl:¬ R rk xs (lo+n)<R rk xs (lo+n - 1)):Seg rk xs lo (lo+(n+1)):=λa b h1 h2 h3=>by
 by_cases hb:b<lo+n
 ·exact h a b h1 h2 hb
 ·have e:b=lo+n:=by lia
  subst e
  by_cases ha:a=lo+n
  ·subst ha; exact Pd _
  ·exact OA (h a (lo+n - 1) h1 (by lia) (by lia)) (Int.not_lt.mp hl)
theorem gn (h:FJ rk xs lo (lo+n)) (hn:1<=n) (hl:R rk xs (lo+n)<=R rk xs (lo+n - 1)):FJ rk xs lo (lo+(n+1)):=λa b h1 h2 h3=>by
 by_cases hb:b<lo+n
 ·exact h a b h1 h2 hb
 ·have e:b=lo+n:=by lia
  subst e
  by_cases ha:a=lo+n
  ·subst ha; exact Pd _
  ·exact OA hl (h a (lo+n - 1) h1 (by lia) (by lia))
end
section
variable {st:SortSt} {lo nrem:Nat}
theorem k8 (hC:iH prog w A s κ rk L) (hB:Bs κ L st) (hi:i<L.length) (hj:j<L.length) (h:Q (some (decide (R rk (arrOf st) i<R rk (arrOf st) j))) st):wpS (model prog w) A E s (ltAt' i j) Q st:=by
 obtain ⟨p,ep,hp⟩:=hB.at hi
 obtain ⟨q,eq,hq⟩:=hB.at hj
 exact xo hC hB.kind ep eq hp hq h
theorem fk (h:Q () (setArr st (mirror (arrOf st) i j ((j - i) / 2)))):wpS (model prog w) A E s (reverseSlice' i j) Q st :=
 PJ (f:=λs=>setArr s (mirror (arrOf s) i j ((j - i) / 2))) h
noncomputable abbrev K8:=Option (Option Nat)×Nat
noncomputable def asc (lo a nrem:Nat):StateT SortSt Sem K8 :=
 forIn [a:nrem] ((none,a):K8) λ_ c=>ltAt' (lo+c.2) (lo+c.2 - 1) >>= λx=>match x with
  | some smaller=>if smaller=true then pure (Pn (none,c.2)) else pure (OQ (none,c.2+1))
  | _=>pure (Pn (some none,c.2))
theorem vp (hC:iH prog w A s κ rk L) (hB:Bs κ L st) (hn:lo+nrem<=L.length) (h1:1<=a) (h2:a<=nrem) (hs:Seg rk (arrOf st) lo (lo+a))
 (h:∀ n,a<=n->n<=nrem->Seg rk (arrOf st) lo (lo+n)->(n=nrem\/R rk (arrOf st) (lo+n)<R rk (arrOf st) (lo+n - 1))->Q (none,n) st):wpS (model prog w) A E s (asc lo a nrem) Q st:=by
 unfold asc
 refine O1 (I:=λx c st'=>st'=st/\c=(none,x)/\Seg rk (arrOf st) lo (lo+x)) ?step ?fin ⟨rfl,rfl,hs⟩
 case fin =>
  rintro c st' ⟨rfl,rfl,hs'⟩
  rw [show max a nrem=nrem by lia] at hs' |-
  exact h nrem h2 (NT _) hs' (.inl rfl)
 case step =>
  rintro x c st' hax hxn ⟨rfl,rfl,hs'⟩
  refine NU (k8 hC hB (by dsimp only; lia) (by dsimp only; lia) ?_)
  dsimp only
  by_cases hl:R rk (arrOf st') (lo+x)<R rk (arrOf st') (lo+x - 1)
  ·rw [decide_eq_true hl,if_pos rfl]
   exact NV (h x hax (by lia) hs' (.inr hl))
  ·rw [decide_eq_false hl,if_neg N5]
   exact NV ⟨rfl,rfl,Au hs' (by lia) hl⟩
noncomputable abbrev K9:=Option (Option Nat)×Nat×Nat
noncomputable def La (lo n nrem:Nat):StateT SortSt Sem K9 :=
 forIn [n:nrem] ((none,n,0):K9) λ_ c=>ltAt' (lo+c.2.1) (lo+c.2.1 - 1) >>= λx=>match x with
  | some smaller=>if smaller=true then
   (if c.2.2>0 then reverseSlice' (lo+c.2.1 - (c.2.2+1)) (lo+c.2.1) >>= λ_=>pure (OQ (none,c.2.1+1,0)) else pure (OQ (none,c.2.1+1,0)))
   else ltAt' (lo+c.2.1 - 1) (lo+c.2.1) >>= λy=>match y with
    | some larger=>if larger=true then pure (Pn (none,c.2.1,c.2.2)) else pure (OQ (none,c.2.1+1,c.2.2+1))
    | _=>pure (Pn (some none,c.2.1,c.2.2))
  | _=>pure (Pn (some none,c.2.1,c.2.2))
theorem iZ (hj:j<=xs.size) (he:∀ k,i<=k->k<j->R rk xs k=R rk xs (j - 1)) (k):R rk (mirror xs i j ((j - i) / 2)) k=R rk xs k:=by
 rw [Ar hj]
 split
 ·rw [he _ (by lia) (by lia),he k (by lia) (by lia)]
 ·rfl
theorem DO (hC:iH prog w A s κ rk L) (hB:Bs κ L st) (hn:lo+nrem<=L.length) (h1:1<=n) (h2:n<=nrem) (hs:FJ rk (arrOf st) lo (lo+n))
 (h:∀ m neq st',Bs κ L st'->Mv st st' lo (lo+nrem)->n<=m->m<=nrem->FJ rk (arrOf st') lo (lo+m)->neq+1<=m->(∀ i,lo+m - (neq+1)<=i->i<lo+m->R rk (arrOf st') i=R rk (arrOf st') (lo+m - 1))->Q (none,m,neq) st') :
 wpS (model prog w) A E s (La lo n nrem) Q st:=by
 unfold La
 refine O1 (I:=λx c st'=>∃ neq,c=(none,x,neq)/\Bs κ L st'/\Mv st st' lo (lo+nrem)/\FJ rk (arrOf st') lo (lo+x)/\neq+1<=x/\(∀ i,lo+x - (neq+1)<=i->i<lo+x->R rk (arrOf st') i=R rk (arrOf st') (lo+x - 1))) ?step ?fin
  ⟨0,rfl,hB,.refl,hs,h1,λi a1 a2=>by congr 1; lia⟩
 case fin =>
  rintro c st' ⟨neq,rfl,jG,hM',hs',hq,he⟩
  rw [show max n nrem=nrem by lia] at hs' hq he |-
  exact h nrem neq st' jG hM' h2 (NT _) hs' hq he
 case step =>
  rintro x c st' hax hxn ⟨neq,rfl,jG,hM',hs',hq,he⟩
  have hsz:=jG.size
  refine NU (k8 hC jG (by dsimp only; lia) (by dsimp only; lia) ?_)
  dsimp only
  by_cases hl:R rk (arrOf st') (lo+x)<R rk (arrOf st') (lo+x - 1)
  ·rw [decide_eq_true hl,if_pos rfl]
   by_cases hq0:neq>0
   ·rw [if_pos hq0]
    have key:=iZ (rk:=rk) (xs:=arrOf st') (i:=lo+x - (neq+1)) (j:=lo+x) (by lia) he
    refine NU (fk (NV ⟨0,rfl,jG.arr (QO.mp (RH _ _ _ _)),hM'.trans (k7 (by lia) (by lia) (by lia)),?_,by lia,λi a1 a2=>by congr 1; lia⟩))
    refine gn (λa b z1 z2 z3=>?_) (by lia) ?_
    ·show R rk (mirror _ _ _ _) b<=R rk (mirror _ _ _ _) a
     rw [key,key]; exact hs' a b z1 z2 z3
    ·show R rk (mirror _ _ _ _) _<=R rk (mirror _ _ _ _) _
     rw [key,key]; lia
   ·rw [if_neg hq0]
    exact NV ⟨0,rfl,jG,hM',gn hs' (by lia) (by lia),by lia,λi a1 a2=>by congr 1; lia⟩
  ·rw [decide_eq_false hl,if_neg N5]
   refine NU (k8 hC jG (by lia) (by lia) ?_)
   dsimp only
   by_cases hg:R rk (arrOf st') (lo+x - 1)<R rk (arrOf st') (lo+x)
   ·rw [decide_eq_true hg,if_pos rfl]
    exact NV (h x neq st' jG hM' hax (by lia) hs' hq he)
   ·rw [decide_eq_false hg,if_neg N5]
    have heq:R rk (arrOf st') (lo+x)=R rk (arrOf st') (lo+x - 1):=by lia
    refine NV ⟨neq+1,rfl,jG,hM',gn hs' (by lia) (by lia),by lia,λi a1 a2=>?_⟩
    rw [show lo+(x+1) - 1=lo+x by lia]
    by_cases hi:i=lo+x
    ·rw [hi]
    ·rw [heq]; exact he i (by lia) (by lia)
noncomputable def countRun':Nat->Nat->StateT SortSt Sem (Option Nat):=sortPriv% PySem.Builtin.countRun
theorem i6 {Q:Option Nat->SortSt->Prop} (hC:iH prog w A s κ rk L) (hB:Bs κ L st) (hn:lo+nrem<=L.length) (h1:1<=n) (h2:n<=nrem) (hs:FJ rk (arrOf st) lo (lo+n))
 (h:∀ m st',Bs κ L st'->Mv st st' lo (lo+nrem)->1<=m->m<=nrem->Seg rk (arrOf st') lo (lo+m)->Q (some m) st') :
 wpS (model prog w) A E s (asc lo n nrem) (λc st'=>c.1=none/\Q (some c.2) st') (setArr st (mirror (arrOf st) lo (lo+n) ((lo+n - lo) / 2))):=by
 have hsz:=hB.size
 have jG:=hB.arr (QO.mp (RH (arrOf st) lo (lo+n) ((lo+n - lo) / 2)))
 refine vp hC jG hn h1 h2 (λa b z1 z2 z3=>?_) λm m1 m2 ms _=>⟨rfl,h m _ jG (k7 (by lia) (NT _) (by lia)) (by lia) m2 ms⟩
 show R rk (mirror _ _ _ _) a<=R rk (mirror _ _ _ _) b
 rw [Ar (by lia),Ar (by lia),if_pos (by lia),if_pos (by lia)]
 exact hs _ _ (by lia) (by lia) (by lia)
local macro_rules | `(tactic| walk_at "dl countRun")=>do
 let i:=QE (Qo `PySem.Builtin.List.W1All `PySem.Builtin.countRun)
 `(tactic| delta $i)
theorem wpS_countRun (hC:iH prog w A s κ rk L) (hB:Bs κ L st) (hn:lo+nrem<=L.length) (h1:1<=nrem)
 (h:∀ m st',Bs κ L st'->Mv st st' lo (lo+nrem)->1<=m->m<=nrem->Seg rk (arrOf st') lo (lo+m)->Q (some m) st'):wpS (model prog w) A E s (countRun' lo nrem) Q st:=by
 unfold countRun'
 walk_at "dl countRun"
 dsimp only
 have hsz:=hB.size
 refine NU (show wpS _ _ _ _ (asc lo 1 nrem) _ _ from vp hC hB hn (NT _) h1 (DN lo _) λn n1 n2 ns nor=>?_)
 dsimp only
 by_cases hnn:n=nrem
 ·rw [if_pos (by simpa using hnn)]
  exact NV (h n st hB .refl n1 n2 ns)
 rw [if_neg (by simpa using hnn)]
 have hlt:=nor.resolve_left hnn
 have rest:∀ (st1:SortSt),Bs κ L st1->Mv st st1 lo (lo+nrem)->FJ rk (arrOf st1) lo (lo+(n+1))->wpS (model prog w) A E s (La lo (n+1) nrem) (λc st2=>Bs κ L st2/\Mv st st2 lo (lo+nrem)/\c.1=none/\n+1<=c.2.1/\c.2.1<=nrem/\FJ rk (arrOf st2) lo (lo+c.2.1)/\c.2.2+1<=c.2.1/\(∀ i,lo+c.2.1 - (c.2.2+1)<=i->i<lo+c.2.1->R rk (arrOf st2) i=R rk (arrOf st2) (lo+c.2.1 - 1))) st1 :=
  λst1 hB1 hM1 hs1=>DO hC hB1 hn (by lia) (by lia) hs1 λm neq st2 a1 a2 a3 a4 a5 a6 a7=>⟨a1,hM1.trans a2,rfl,a3,a4,a5,a6,a7⟩
 by_cases hgt:n>1
 ·rw [if_pos hgt]
  refine NU (k8 hC hB (by lia) (by lia) ?_)
  dsimp only
  by_cases hrose:R rk (arrOf st) lo<R rk (arrOf st) (lo+n - 1)
  ·rw [decide_eq_true hrose,if_pos rfl]
   exact NV (h n st hB .refl n1 n2 ns)
  ·rw [decide_eq_false hrose,if_neg N5]
   have hall:∀ k,lo<=k->k<lo+n->R rk (arrOf st) k=R rk (arrOf st) (lo+n - 1):=λk z1 z2=>by
    have a1:=ns lo k (NT _) z1 z2
    have a2:=ns k (lo+n - 1) z1 (by lia) (by lia)
    lia
   have key:=iZ (rk:=rk) (xs:=arrOf st) (i:=lo) (j:=lo+n) (by lia) hall
   refine NU (fk ?_)
   refine NU (Ql (Pe ⟨rfl,?_⟩))
   refine NU (OE (show wpS _ _ _ _ (La lo (n+1) nrem) _ _ from rest _ (hB.arr (QO.mp (RH _ _ _ _))) (k7 (by lia) (NT _) (by lia)) (gn (λa b z1 z2 z3=>?_) (by lia) ?_)) λc st2 hc=>?_)
   ·show R rk (mirror _ _ _ _) b<=R rk (mirror _ _ _ _) a
    rw [key,key,hall b (by lia) z3,hall a z1 (by lia)]; exact Pd _
   ·show R rk (mirror _ _ _ _) _<=R rk (mirror _ _ _ _) _
    rw [key,key]; lia
   ·obtain ⟨r,m,neq⟩:=c
    obtain ⟨b1,b2,b3,b4,b5,b6,b7,b8⟩:=hc
    dsimp only at b3 b4 b5 b6 b7 b8 |-
    rw [b3]
    dsimp only
    by_cases hq0:neq>0
    ·rw [if_pos hq0]
     have hsz2:=b1.size
     have key2:=iZ (rk:=rk) (xs:=arrOf st2) (i:=lo+m - (neq+1)) (j:=lo+m) (by lia) b8
     refine NU (fk (NU (fk (NU (OE (show wpS _ _ _ _ (asc lo m nrem) _ _ from i6 (Q:=Q) hC (b1.arr (QO.mp (RH _ _ _ _))) hn (by lia) b5 (λa b z1 z2 z3=>?_) λk st3 c1 c2 c3 c4 c5=>h k st3 c1 ((b2.trans (k7 (by lia) (by lia) (by lia))).trans c2) c3 c4 c5) λc st4 hc=>?_)))))
     ·show R rk (mirror _ _ _ _) b<=R rk (mirror _ _ _ _) a
      rw [key2,key2]; exact b6 a b z1 z2 z3
     ·obtain ⟨r,k⟩:=c
      obtain ⟨e,hQ⟩:=hc
      dsimp only at e hQ |-
      rw [e]
      exact NV hQ
    ·rw [if_neg hq0]
     refine NU (fk (NU (OE (show wpS _ _ _ _ (asc lo m nrem) _ _ from i6 (Q:=Q) hC b1 hn (by lia) b5 b6 λk st3 c1 c2 c3 c4 c5=>h k st3 c1 (b2.trans c2) c3 c4 c5) λc st4 hc=>?_)))
     obtain ⟨r,k⟩:=c
     obtain ⟨e,hQ⟩:=hc
     dsimp only at e hQ |-
     rw [e]
     exact NV hQ
 ·rw [if_neg hgt]
  have e1:n=1:=by lia
  subst e1
  refine NU (Ql (Pe ⟨rfl,?_⟩))
  refine NU (OE (show wpS _ _ _ _ (La lo (1+1) nrem) _ _ from rest st hB .refl (gn (λa b z1 z2 z3=>?_) (NT _) (P5 hlt))) λc st2 hc=>?_)
  ·have:a=b:=by lia
   subst this; exact Pd _
  ·obtain ⟨r,m,neq⟩:=c
   obtain ⟨b1,b2,b3,b4,b5,b6,b7,b8⟩:=hc
   dsimp only at b3 b4 b5 b6 b7 b8 |-
   rw [b3]
   dsimp only
   by_cases hq0:neq>0
   ·rw [if_pos hq0]
    have hsz2:=b1.size
    have key2:=iZ (rk:=rk) (xs:=arrOf st2) (i:=lo+m - (neq+1)) (j:=lo+m) (by lia) b8
    refine NU (fk (NU (fk (NU (OE (show wpS _ _ _ _ (asc lo m nrem) _ _ from i6 (Q:=Q) hC (b1.arr (QO.mp (RH _ _ _ _))) hn (by lia) b5 (λa b z1 z2 z3=>?_) λk st3 c1 c2 c3 c4 c5=>h k st3 c1 ((b2.trans (k7 (by lia) (by lia) (by lia))).trans c2) c3 c4 c5) λc st4 hc=>?_)))))
    ·show R rk (mirror _ _ _ _) b<=R rk (mirror _ _ _ _) a
     rw [key2,key2]; exact b6 a b z1 z2 z3
    ·obtain ⟨r,k⟩:=c
     obtain ⟨e,hQ⟩:=hc
     dsimp only at e hQ |-
     rw [e]
     exact NV hQ
   ·rw [if_neg hq0]
    refine NU (fk (NU (OE (show wpS _ _ _ _ (asc lo m nrem) _ _ from i6 (Q:=Q) hC b1 hn (by lia) b5 b6 λk st3 c1 c2 c3 c4 c5=>h k st3 c1 (b2.trans c2) c3 c4 c5) λc st4 hc=>?_)))
    obtain ⟨r,k⟩:=c
    obtain ⟨e,hQ⟩:=hc
    dsimp only at e hQ |-
    rw [e]
    exact NV hQ
end
section
variable {st:SortSt} {lo:Nat}
theorem FL (hs:src<xs.size) (hd:d<=src) (k):R rk (bubble xs src d) k=if k=src - d then R rk xs src else if src - d<k/\k<=src then R rk xs (k - 1) else R rk xs k:=by
 have e:=getElem?_bubble hs d hd k
 by_cases h1:k=src - d
 ·rw [if_pos h1] at e |-; exact cA e
 ·rw [if_neg h1] at e |-
  by_cases h2:src - d<k/\k<=src
  ·rw [if_pos h2] at e |-; exact cA e
  ·rw [if_neg h2] at e |-; exact cA e
theorem Av (h:Q () (setArr st (bubble (arrOf st) i (i - j)))):wpS (model prog w) A E s (moveDown' i j) Q st :=
 PJ (f:=λs=>setArr s (bubble (arrOf s) i (i - j))) h
noncomputable def binarySort':Nat->Nat->Nat->StateT SortSt Sem Bool:=sortPriv% PySem.Builtin.binarySort
local macro_rules | `(tactic| walk_at "dl binarySort")=>do
 let i:=QE (Qo `PySem.Builtin.List.W1All `PySem.Builtin.binarySort)
 `(tactic| delta $i)
theorem wpS_binarySort (hC:iH prog w A s κ rk L) (hB:Bs κ L st) (hn:lo+n<=L.length) (hok:ok<=n) (hs:Seg rk (arrOf st) lo (lo+ok))
 (h:∀ st',Bs κ L st'->Mv st st' lo (lo+n)->Seg rk (arrOf st') lo (lo+n)->Q true st'):wpS (model prog w) A E s (binarySort' lo n ok) Q st:=by
 unfold binarySort'
 walk_at "dl binarySort"
 dsimp only
 refine NU (OE (O1 (I:=λk c st'=>c.1=none/\Bs κ L st'/\Mv st st' lo (lo+n)/\Seg rk (arrOf st') lo (lo+min k n)) (Q:=λc st'=>c.1=none/\Bs κ L st'/\Mv st st' lo (lo+n)/\Seg rk (arrOf st') lo (lo+n)) ?step ?fin ?init) ?post)
 case post =>
  rintro ⟨c,u⟩ st' ⟨hc,jG,hM',hs'⟩
  dsimp only at hc |-
  rw [hc]
  exact NV (h st' jG hM' hs')
 case init =>
  refine ⟨rfl,hB,.refl,λa b z1 z2 z3=>?_⟩
  by_cases h1:ok=0
  ·have:a=b:=by lia
   subst this; exact Pd _
  ·exact hs a b z1 z2 (by lia)
 case fin =>
  rintro c st' ⟨hc,jG,hM',hs'⟩
  rw [show min (max (max ok 1) n) n=n by lia] at hs'
  exact ⟨hc,jG,hM',hs'⟩
 case step =>
  rintro k ⟨c,u⟩ st' hak hkn ⟨rfl,jG,hM',hs'⟩
  rw [show min k n=k by lia] at hs'
  have hsz:=jG.size
  refine NU (OE (O1 (I:=λx c st2=>st2=st'/\∃ l r,c=(none,l,r)/\l<=r/\r<=k/\r - l<=k - x/\(∀ i,i<l->R rk (arrOf st') (lo+i)<=R rk (arrOf st') (lo+k))/\(∀ i,r<=i->i<k->R rk (arrOf st') (lo+k)<R rk (arrOf st') (lo+i)))
   (Q:=λc st2=>st2=st'/\∃ l r,c=(none,l,r)/\l<=k/\(∀ i,i<l->R rk (arrOf st') (lo+i)<=R rk (arrOf st') (lo+k))/\(∀ i,l<=i->i<k->R rk (arrOf st') (lo+k)<R rk (arrOf st') (lo+i))) ?istep ?ifin ⟨rfl,0,k,rfl,by lia,by lia,by lia,λi hi=>by lia,λi h1 h2=>by lia⟩) ?ipost)
  case ifin =>
   rintro c st2 ⟨rfl,l,r,rfl,a1,a2,a3,a4,a5⟩
   have:l=r:=by lia
   subst this
   exact ⟨rfl,l,l,rfl,a2,a4,a5⟩
  case istep =>
   rintro x c st2 _ hx ⟨rfl,l,r,rfl,a1,a2,a3,a4,a5⟩
   dsimp only
   by_cases hge:l>=r
   ·rw [if_pos hge]
    have:l=r:=by lia
    subst this
    exact NV ⟨rfl,l,l,rfl,a2,a4,a5⟩
   ·rw [if_neg hge]
    refine NU (k8 hC jG (by lia) (by lia) ?_)
    dsimp only
    by_cases hl:R rk (arrOf st2) (lo+k)<R rk (arrOf st2) (lo+(l+r) / 2)
    ·rw [decide_eq_true hl,if_pos rfl]
     refine NV ⟨rfl,l,(l+r) / 2,rfl,by lia,by lia,by lia,a4,λi h1 h2=>?_⟩
     exact Int.lt_of_lt_of_le hl (hs' _ _ (by lia) (by lia) (by lia))
    ·rw [decide_eq_false hl,if_neg N5]
     refine NV ⟨rfl,(l+r) / 2+1,r,rfl,by lia,by lia,by lia,λi h1=>?_,a5⟩
     exact OA (hs' (lo+i) (lo+(l+r) / 2) (by lia) (by lia) (by lia)) (Int.not_lt.mp hl)
  case ipost =>
   rintro c st2 ⟨rfl,l,r,rfl,hlk,a4,a5⟩
   dsimp only
   have e1:lo+k - (lo+l)=k - l:=by lia
   refine NU (Av (NV ⟨rfl,jG.arr (QO.mp (bubble_perm _ _ _)),?_,?_⟩))
   ·refine hM'.trans ⟨λi hi=>?_,rfl⟩
    have e:=getElem?_bubble (xs:=arrOf st2) (src:=lo+k) (by lia) (lo+k - (lo+l)) (by lia) i
    rw [if_neg (by lia),if_neg (by lia)] at e
    exact e
   ·rw [show min (k+1) n=k+1 by lia]
    intro i j hi hij hj
    show R rk (bubble (arrOf st2) (lo+k) (lo+k - (lo+l))) i<=R rk (bubble (arrOf st2) (lo+k) (lo+k - (lo+l))) j
    rw [FL (by lia) (by lia),FL (by lia) (by lia),e1]
    have sub:∀ i,lo<=i->lo+(i - lo)=i:=λi hi=>by lia
    have f4:∀ i,lo<=i->i<lo+l->R rk (arrOf st2) i<=R rk (arrOf st2) (lo+k):=λi h1 h2=>by have:=a4 (i - lo) (by lia); rwa [sub i h1] at this
    have f5:∀ i,lo+l<=i->i<lo+k->R rk (arrOf st2) (lo+k)<R rk (arrOf st2) i:=λi h1 h2=>by have:=a5 (i - lo) (by lia) (by lia); rwa [sub i (by lia)] at this
    repeat' split
    all_goals first
     | (exfalso; lia)
     | exact Pd _
     | exact f4 _ (by lia) (by lia)
     | exact P5 (f5 _ (by lia) (by lia))
     | exact hs' _ _ (by lia) (by lia) (by lia)
theorem nv:∀ (l:List Keyed) (k sa:Nat) (A:Array Keyed),sa+k+l.length<=A.size->((l.zipIdx k).foldl (λa (x:Keyed×Nat)=>a.setIfInBounds (sa+x.2) x.1) A).size=A.size /\
 ∀ i:Nat,((l.zipIdx k).foldl (λa (x:Keyed×Nat)=>a.setIfInBounds (sa+x.2) x.1) A)[i]?=if sa+k<=i/\i<sa+k+l.length then l[i - (sa+k)]? else A[i]?
 | [],k,sa,A,h=>⟨rfl,λi=>by rw [if_neg (by simp only [PB]; lia)]; rfl⟩
 | x::l,k,sa,A,h=>by
  rw [Oz] at h
  obtain ⟨h1,h2⟩:=nv l (k+1) sa (A.setIfInBounds (sa+k) x) (by rw [Array.size_setIfInBounds]; lia)
  rw [List.zipIdx_cons,Pj]
  refine ⟨by rw [h1,Array.size_setIfInBounds],λi=>?_⟩
  rw [h2 i,Oz]
  by_cases c1:sa+(k+1)<=i/\i<sa+(k+1)+l.length
  ·rw [if_pos c1,if_pos (by lia),show i - (sa+k)=i - (sa+(k+1))+1 by lia,List.getElem?_cons_succ]
  ·rw [if_neg c1]
   by_cases c2:i=sa+k
   ·subst c2
    rw [if_pos (by lia),Nat.sub_self,List.getElem?_cons_zero,Array.getElem?_setIfInBounds_self_of_lt (by lia)]
   ·rw [if_neg (by lia),Array.getElem?_setIfInBounds_ne (by lia)]
end
noncomputable def iu:Nat->StateT SortSt Sem Bool:=sortPriv% PySem.Builtin.mergeAt
local macro_rules | `(tactic| walk_at "dl mergeAt")=>do
 let i:=QE (Qo `PySem.Builtin.List.W1All `PySem.Builtin.mergeAt)
 `(tactic| delta $i)
section
variable {st:SortSt}
theorem DP (h:Q ⟨⟩ st1):wpS M A E s (set st1:StateT SortSt Sem PUnit) Q st:=by
 unfold wpS; rw [StateT.run_set]; exact NS ⟨rfl,h⟩
theorem xu (hC:iH prog w A s κ rk L) (hk:kindOf st=κ) (hkey:key∈L) (mx:∀ (i:Nat) (p:Keyed),xs[i]?=some p->p∈L) (hn:base+n<=xs.size) (us:Seg rk xs base (base+n)) (hh:hint<n)
 (h:∀ k,k<=n->(∀ i,base<=i->i<base+k->R rk xs i<=rk key)->(∀ i,base+k<=i->i<base+n->rk key<R rk xs i)->Q (some k) st):wpS (model prog w) A E s (c6 false key xs base n hint) Q st:=by
 obtain ⟨k,h1,h2⟩:=kY (λi=>R rk xs (base+i)) (rk key) n λi j hij hj=>us _ _ (by lia) (by lia) (by lia)
 refine fP hC hk hkey (λi hi=>⟨xs[base+i]'(by lia),Oq _,mx _ _ (Oq _)⟩) (λi hi=>by simp only [ON,if_false]; exact h2 i hi) h1 hh (h k h1 (λi hi hk=>?_) λi hi hk=>?_)
 ·have:=(h2 (i - base) (by lia)).mpr (by lia)
  rwa [show base+(i - base)=i by lia] at this
 ·have:=mt (h2 (i - base) (by lia)).mp (by lia)
  rw [show base+(i - base)=i by lia] at this
  lia
theorem xw (hC:iH prog w A s κ rk L) (hk:kindOf st=κ) (hkey:key∈L) (mx:∀ (i:Nat) (p:Keyed),xs[i]?=some p->p∈L) (hn:base+n<=xs.size) (us:Seg rk xs base (base+n)) (hh:hint<n)
 (h:∀ k,k<=n->(∀ i,base<=i->i<base+k->R rk xs i<rk key)->(∀ i,base+k<=i->i<base+n->rk key<=R rk xs i)->Q (some k) st):wpS (model prog w) A E s (c6 true key xs base n hint) Q st:=by
 obtain ⟨k,h1,h2⟩:=kZ (λi=>R rk xs (base+i)) (rk key) n λi j hij hj=>us _ _ (by lia) (by lia) (by lia)
 refine fP hC hk hkey (λi hi=>⟨xs[base+i]'(by lia),Oq _,mx _ _ (Oq _)⟩) (λi hi=>by simp only [if_true]; exact h2 i hi) h1 hh (h k h1 (λi hi hk=>?_) λi hi hk=>?_)
 ·have:=(h2 (i - base) (by lia)).mpr (by lia)
  rwa [show base+(i - base)=i by lia] at this
 ·have:=mt (h2 (i - base) (by lia)).mp (by lia)
  rw [show base+(i - base)=i by lia] at this
  lia
theorem fm {xs:Array Keyed} (h:(xs.extract i j)[m]?=some p):xs[i+m]?=some p/\i+m<j:=by
 rw [R4] at h
 split at h
 ·exact ⟨h,by lia⟩
 ·cases h
theorem vq {lo hi i j:Nat} (h:Seg rk xs lo hi) (h1:lo<=i) (h2:j<=hi):Up rk (xs.extract i j):=λa b p q hab e1 e2=>by
 obtain ⟨f1,g1⟩:=fm e1
 obtain ⟨f2,g2⟩:=fm e2
 have:=h (i+a) (i+b) (by lia) (by lia) (by lia)
 rwa [d9 f1,d9 f2] at this
theorem qC (hC:iH prog w A s κ rk L) (hB:Bs κ L st) (p1:(pendingOf st)[i]?=some (sa,na,pw)) (p2:(pendingOf st)[i+1]?=some (sa+na,nb,pw2)) (h1:1<=na) (h2:1<=nb) (hz:sa+na+nb<=L.length)
 (s1:Seg rk (arrOf st) sa (sa+na)) (s2:Seg rk (arrOf st) (sa+na) (sa+na+nb))
 (h:∀ st',Bs κ L st'->(∀ j,j<sa\/sa+na+nb<=j->(arrOf st')[j]?=(arrOf st)[j]?)->pendingOf st'=((pendingOf st).setIfInBounds i (sa,na+nb,pw)).eraseIdxIfInBounds (i+1)->Seg rk (arrOf st') sa (sa+na+nb)->Q true st') :
 wpS (model prog w) A E s (iu i) Q st:=by
 unfold iu
 walk_at "dl mergeAt"
 dsimp only
 refine NU (Pp ?_)
 rw [p1,p2]
 dsimp only
 have hsz:=hB.size
 have mL:∀ (i:Nat) (p:Keyed),(arrOf st)[i]?=some p->p∈L:=λi p e=>hB.perm.mem_iff.mp (by
  obtain ⟨h1,h2⟩:=QS.mp e
  rw [<- h2,TN]; exact Ud _)
 refine NU (DP ?_)
 obtain ⟨key,ek,hkL⟩:=hB.at (i:=sa+na) (by lia)
 refine NU (aS ek ?_)
 have rkey:R rk (arrOf st) (sa+na)=rk key:=d9 ek
 refine NU (xu hC hB.kind hkL mL (by show _<=(arrOf st).size; lia) s1 (by lia) λk k1 k2 k3=>?_)
 dsimp only
 by_cases e0:na - k=0
 ·rw [if_pos (by simpa using e0)]
  refine NV (h _ ⟨hB.perm,hB.kind,hB.failed⟩ (λ_ _=>rfl) rfl λa b z1 z2 z3=>?_)
  by_cases hb:b<sa+na
  ·exact s1 a b z1 z2 hb
  ·by_cases ha:sa+na<=a
   ·exact s2 a b ha z2 z3
   ·refine OA (k2 a z1 (by lia)) ?_
    rw [<- rkey]; exact s2 (sa+na) b (NT _) (by lia) z3
 rw [if_neg (by simpa using e0)]
 obtain ⟨key2,ek2,hk2L⟩:=hB.at (i:=sa+k+(na - k) - 1) (by lia)
 have rkey2:R rk (arrOf st) (sa+na - 1)=rk key2:=by rw [<- d9 (rk:=rk) ek2]; congr 1; lia
 refine NU (aS ek2 ?_)
 refine NU (xw hC (by exact hB.kind) hk2L mL (by show _<=(arrOf st).size; lia) s2 (by lia) λm m1 m2 m3=>?_)
 dsimp only
 by_cases e1:m=0
 ·exfalso
  have a1:=m3 (sa+na) (by lia) (by lia)
  have a2:=k3 (sa+na - 1) (by lia) (by lia)
  rw [rkey2] at a2; rw [rkey] at a1; lia
 rw [if_neg (by simpa using e1)]
 have mx:∀ (i:Nat) (p:Keyed),((arrOf st).extract (sa+k) (sa+na))[i]?=some p->p∈L:=λi p e=>mL _ p (fm e).1
 have my:∀ (i:Nat) (p:Keyed),((arrOf st).extract (sa+na) (sa+na+m))[i]?=some p->p∈L:=λi p e=>mL _ p (fm e).1
 have ux:Up rk ((arrOf st).extract (sa+k) (sa+na)):=vq s1 (by lia) (NT _)
 have uy:Up rk ((arrOf st).extract (sa+na) (sa+na+m)):=vq s2 (NT _) (by lia)
 have zx:((arrOf st).extract (sa+k) (sa+na)).size=na - k:=by rw [Array.size_extract]; lia
 have zy:((arrOf st).extract (sa+na) (sa+na+m)).size=m:=by rw [Array.size_extract]; lia
 have h0:∀ p q,((arrOf st).extract (sa+k) (sa+na))[0]?=some p->((arrOf st).extract (sa+na) (sa+na+m))[0]?=some q->rk q<=rk p:=λp q e2 e3=>by
  obtain ⟨f1,g1⟩:=fm e2
  obtain ⟨f2,g2⟩:=fm e3
  have a1:=k3 (sa+k+0) (by lia) (by lia)
  rw [d9 f1] at a1
  have a2:rk q=rk key:=by rw [<- rkey,<- d9 (rk:=rk) f2]; rfl
  lia
 have hl:∀ (j:Nat) (p q:Keyed),((arrOf st).extract (sa+k) (sa+na))[((arrOf st).extract (sa+k) (sa+na)).size - 1]?=some p->((arrOf st).extract (sa+na) (sa+na+m))[j]?=some q->rk q<=rk p:=λj p q e2 e3=>by
  rw [zx] at e2
  obtain ⟨f1,g1⟩:=fm e2
  obtain ⟨f2,g2⟩:=fm e3
  have a1:=m2 (sa+na+j) (by lia) (by lia)
  rw [d9 f2] at a1
  have a2:rk p=rk key2:=by rw [<- rkey2,<- d9 (rk:=rk) f1]; congr 1; lia
  lia
 have fin:∀ (r:Array Keyed) (st2:SortSt),Res rk ((arrOf st).extract (sa+k) (sa+na)) ((arrOf st).extract (sa+na) (sa+na+m)) r->kindOf st2=kindOf st->arrOf st2=arrOf st->pendingOf st2=((pendingOf st).setIfInBounds i (sa,na+nb,pw)).eraseIdxIfInBounds (i+1)->failedOf st2=failedOf st ->
  Q true (setArr st2 (Rb (λa (x:Keyed×Nat)=>a.setIfInBounds (sa+k+x.2) x.1) (arrOf st2) r.toList.zipIdx)):=λr st2 hr e2 e3 e4 e5=>by
  have hlen:r.toList.length=na - k+m:=by
   have:=hr.1.length_eq
   simp only [OF,OM,zx,zy] at this |-
   exact this
  obtain ⟨w1,w2⟩:=nv r.toList 0 (sa+k) (arrOf st) (by lia)
  generalize hW:Rb (λa (x:Keyed×Nat)=>a.setIfInBounds (sa+k+x.2) x.1) (arrOf st) r.toList.zipIdx=W at w1 w2
  rw [e3,hW]
  have rW:∀ i,sa+k<=i->i<sa+na+m->R rk W i=R rk r (i - (sa+k)):=λi z1 z2=>by
   refine cA ?_
   rw [w2,if_pos (by lia),OL]; rfl
  have rO:∀ i,(i<sa+k\/sa+na+m<=i)->R rk W i=R rk (arrOf st) i:=λi z=>by
   refine cA ?_
   rw [w2,if_neg (by lia)]
  have elt:∀ i,sa+k<=i->i<sa+na+m->∃ t,sa+k<=t/\t<sa+na+m/\R rk W i=R rk (arrOf st) t:=λi z1 z2=>by
   have hi:i - (sa+k)<r.size:=by rw [<- OM]; lia
   have e6:r[i - (sa+k)]?=some r[i - (sa+k)]:=Oq hi
   have hm:r[i - (sa+k)]∈r.toList:=by rw [TN]; exact Ud _
   rw [rW i z1 z2,d9 e6]
   rcases Om.mp (hr.1.mem_iff.mp hm) with z | z
   ·obtain ⟨t,t1,t2,t3⟩:=vd z
    exact ⟨t,t1,by lia,(d9 t3).symm⟩
   ·obtain ⟨t,t1,t2,t3⟩:=vd z
    exact ⟨t,by lia,by lia,(d9 t3).symm⟩
  have ur:=HW hr.2
  refine h _ ⟨?_,e2.trans hB.kind,e5.trans hB.failed⟩ (λj hj=>?_) e4 λa b z1 z2 z3=>?_
  ·
   refine List.Perm.trans ?_ hB.perm
   have eW:W.toList=(arrOf st).toList.take (sa+k)++r.toList++(arrOf st).toList.drop (sa+na+m):=by
    apply Sq
    intro j
    rw [OL,w2,Oh,Rj,Rj,OW,QZ,Qz (by rw [OM]; lia)]
    by_cases c1:j<sa+k
    ·rw [if_neg (by lia),if_pos c1,RW c1,OL]
    ·rw [if_neg c1]
     by_cases c2:j - (sa+k)<r.toList.length
     ·rw [if_pos (by lia),if_pos c2]; rfl
     ·rw [if_neg (by lia),if_neg c2,OL]; congr 1; lia
   have eA:(arrOf st).toList=(arrOf st).toList.take (sa+k)++(((arrOf st).extract (sa+k) (sa+na)).toList++((arrOf st).extract (sa+na) (sa+na+m)).toList)++(arrOf st).toList.drop (sa+na+m):=by
    apply Sq
    intro j
    rw [Oh,Oh,Rj,Rj,Rj,OW,OM,OM,OM,zx,zy,QZ,Qz (by lia)]
    by_cases c1:j<sa+k
    ·rw [if_pos c1,RW c1]
    ·rw [if_neg c1]
     by_cases c2:j - (sa+k)<na - k
     ·rw [if_pos c2,OL,OL,R4,if_pos (by lia)]; congr 1; lia
     ·rw [if_neg c2]
      by_cases c3:j - (sa+k) - (na - k)<m
      ·rw [if_pos c3,OL,OL,R4,if_pos (by lia)]; congr 1; lia
      ·rw [if_neg c3]; congr 1; lia
   show W.toList.Perm _
   rw [eW]
   conv=>rhs; rw [eA]
   exact (QV _ hr.1).append_right _
  ·show W[j]?=_
   rw [w2,if_neg (by lia)]
  ·show R rk W a<=R rk W b
   have kk:∀ t,sa+na<=t->t<sa+na+nb->rk key<=R rk (arrOf st) t:=λt t1 t2=>by rw [<- rkey]; exact s2 _ t (NT _) t1 t2
   have kk2:∀ t,sa<=t->t<sa+na->R rk (arrOf st) t<=rk key2:=λt t1 t2=>by rw [<- rkey2]; exact s1 t _ t1 (by lia) (by lia)
   by_cases c1:a<sa+k
   ·rw [rO a (.inl c1)]
    have la:=k2 a z1 c1
    by_cases d1:b<sa+k
    ·rw [rO b (.inl d1)]; exact s1 a b z1 z2 (by lia)
    ·by_cases d2:b<sa+na+m
     ·obtain ⟨t,t1,t2,t3⟩:=elt b (by lia) d2
      rw [t3]
      by_cases d3:t<sa+na
      ·exact s1 a t z1 (by lia) d3
      ·exact OA la (kk t (by lia) (by lia))
     ·rw [rO b (.inr (by lia))]
      exact OA la (kk b (by lia) z3)
   ·by_cases c2:a<sa+na+m
    ·by_cases d2:b<sa+na+m
     ·rw [rW a (by lia) c2,rW b (by lia) d2]
      have f1:r[a - (sa+k)]?=some (r[a - (sa+k)]'(by rw [<- OM]; lia)):=Oq _
      have f2:r[b - (sa+k)]?=some (r[b - (sa+k)]'(by rw [<- OM]; lia)):=Oq _
      rw [d9 f1,d9 f2]
      exact ur _ _ _ _ (by lia) f1 f2
     ·obtain ⟨t,t1,t2,t3⟩:=elt a (by lia) c2
      rw [t3,rO b (.inr (by lia))]
      by_cases d3:t<sa+na
      ·exact OA (kk2 t (by lia) d3) (m3 b (by lia) z3)
      ·exact s2 t b (by lia) (by lia) z3
    ·rw [rO a (.inr (by lia)),rO b (.inr (by lia))]
     exact s2 a b (by lia) z2 z3
 have post:∀ (r:Array Keyed) (st2:SortSt),failedOf st2=failedOf st->(failedOf st2).isNone=true:=λr st2 e=>by rw [e,hB.failed]; rfl
 by_cases hle:na - k<=m
 ·rw [if_pos hle]
  refine NU (qy hC (by exact hB.kind) mx my ux uy (by show 1<=((arrOf st).extract (sa+k) (sa+na)).size; lia) (by show 1<=((arrOf st).extract (sa+na) (sa+na+m)).size; lia) h0 hl λr st2 hr hK=>?_)
  refine NU (PJ (NU (Pp ?_)))
  have e9:failedOf st2=none:=hK.f.trans hB.failed
  have z:=fin r st2 hr hK.k hK.a hK.p hK.f
  refine NV ?_
  show Q (failedOf st2).isNone _
  rw [e9]; exact z
 ·rw [if_neg hle]
  refine NU (qB hC (by exact hB.kind) mx my ux uy (by show 1<=((arrOf st).extract (sa+k) (sa+na)).size; lia) (by show 1<=((arrOf st).extract (sa+na) (sa+na+m)).size; lia) h0 hl λr st2 hr hK=>?_)
  refine NU (PJ (NU (Pp ?_)))
  have e9:failedOf st2=none:=hK.f.trans hB.failed
  have z:=fin r st2 hr hK.k hK.a hK.p hK.f
  refine NV ?_
  show Q (failedOf st2).isNone _
  rw [e9]; exact z
end
noncomputable abbrev Lb:Nat->Nat->Nat->Nat:=sortPriv% PySem.Builtin.minRun
noncomputable def qD:StateT SortSt Sem Unit:=sortPriv% PySem.Builtin.sortRuns
local macro_rules | `(tactic| walk_at "dl sortRuns")=>do
 let i:=QE (Qo `PySem.Builtin.List.W1All `PySem.Builtin.sortRuns)
 `(tactic| delta $i)
noncomputable def fF (rk:Keyed->Int) (xs:Array Keyed):Nat->List (Nat×Nat×Nat)->Nat->Prop
 | a,[],b=>a=b
 | a,p::r,b=>p.1=a/\1<=p.2.1/\Seg rk xs a (a+p.2.1)/\fF rk xs (a+p.2.1) r b
theorem fF.le:∀ {ps:List (Nat×Nat×Nat)} {a b:Nat},fF rk xs a ps b->a+ps.length<=b
 | [],a,b,h=>by have:a=b:=h; simp; lia
 | p::r,a,b,h=>by
  obtain ⟨_,h1,_,h2⟩:=h
  have:=h2.le
  rw [Oz]; lia
theorem fF.app:∀ {ps qs:List (Nat×Nat×Nat)} {a b:Nat},fF rk xs a (ps++qs) b↔∃ m,fF rk xs a ps m/\fF rk xs m qs b
 | [],qs,a,b=>⟨λh=>⟨a,rfl,h⟩,λ⟨m,h1,h2⟩=>by have:a=m:=h1; subst this; exact h2⟩
 | p::r,qs,a,b=>by
  constructor
  ·rintro ⟨h1,h2,h3,h4⟩
   obtain ⟨m,h5,h6⟩:=fF.app.mp h4
   exact ⟨m,⟨h1,h2,h3,h5⟩,h6⟩
  ·rintro ⟨m,⟨h1,h2,h3,h5⟩,h6⟩
   exact ⟨h1,h2,h3,fF.app.mpr ⟨m,h5,h6⟩⟩
theorem fF.congr:∀ {ps:List (Nat×Nat×Nat)} {a b:Nat},fF rk xs a ps b->(∀ i,a<=i->i<b->R rk ys i=R rk xs i)->fF rk ys a ps b
 | [],a,b,h,_=>h
 | p::r,a,b,h,e=>by
  obtain ⟨h1,h2,h3,h4⟩:=h
  have hl:=h4.le
  refine ⟨h1,h2,λi j z1 z2 z3=>?_,h4.congr λi z1 z2=>e i (by lia) z2⟩
  rw [e i z1 (by lia),e j (by lia) (by lia)]
  exact h3 i j z1 z2 z3
theorem fF.mod (f) (hf:∀ p,(f p).1=p.1/\(f p).2.1=p.2.1):∀ {ps:List (Nat×Nat×Nat)} {a b:Nat} (i:Nat),fF rk xs a ps b->fF rk xs a (ps.modify i f) b
 | [],a,b,i,h=>by simpa using h
 | p::r,a,b,0,h=>by
  obtain ⟨h1,h2,h3,h4⟩:=h
  rw [List.modify_zero_cons]
  refine ⟨(hf p).1.trans h1,by rw [(hf p).2]; exact h2,by rw [(hf p).2]; exact h3,by rw [(hf p).2]; exact h4⟩
 | p::r,a,b,i+1,h=>by
  obtain ⟨h1,h2,h3,h4⟩:=h
  rw [List.modify_succ_cons]
  exact ⟨h1,h2,h3,h4.mod f hf i⟩
theorem fF.two:∀ {ps:List (Nat×Nat×Nat)} {a b:Nat} (i:Nat),fF rk xs a ps b->i+1<ps.length->∃ s n pw m pw2,ps[i]?=some (s,n,pw)/\ps[i+1]?=some (s+n,m,pw2)/\1<=n/\1<=m/\a<=s/\s+n+m<=b/\Seg rk xs s (s+n)/\Seg rk xs (s+n) (s+n+m) /\
 ∀ ys:Array Keyed,(∀ j,j<s\/s+n+m<=j->R rk ys j=R rk xs j)->Seg rk ys s (s+n+m)->fF rk ys a ((ps.set i (s,n+m,pw)).eraseIdx (i+1)) b
 | [],a,b,i,h,hi=>by simp at hi
 | [p],a,b,i,h,hi=>by simp at hi
 | p::q::r,a,b,0,h,hi=>by
  obtain ⟨h1,h2,h3,h4,h5,h6,h7⟩:=h
  obtain ⟨s,n,pw⟩:=p
  obtain ⟨s',m,pw2⟩:=q
  dsimp only at h1 h2 h3 h4 h5 h6 h7
  subst h1; subst h4
  have hl:=h7.le
  refine ⟨s,n,pw,m,pw2,rfl,rfl,h2,h5,NT _,by lia,h3,h6,λys e hs=>?_⟩
  refine ⟨rfl,by dsimp only; lia,by dsimp only; rw [<- Nat.add_assoc]; exact hs,?_⟩
  dsimp only
  rw [<- Nat.add_assoc]
  exact h7.congr λi z1 z2=>e i (.inr z1)
 | p::q::r,a,b,i+1,h,hi=>by
  obtain ⟨h1,h2,h3,h4⟩:=h
  obtain ⟨s,n,pw,m,pw2,e1,e2,a1,a2,a3,a4,a5,a6,a7⟩:=h4.two i (by simpa using hi)
  refine ⟨s,n,pw,m,pw2,by simpa using e1,by simpa using e2,a1,a2,by lia,a4,a5,a6,λys e hs=>?_⟩
  rw [List.set_cons_succ,List.eraseIdx_cons_succ]
  refine ⟨h1,h2,λj j' z1 z2 z3=>?_,a7 ys e hs⟩
  rw [e j (.inl (by lia)),e j' (.inl (by lia))]
  exact h3 j j' z1 z2 z3
section
variable {st:SortSt}
theorem iw (hC:iH prog w A s κ rk L) (hB:Bs κ L st) (hc:fF rk (arrOf st) 0 (pendingOf st).toList b) (hb:b<=L.length) (hi:i+1<(pendingOf st).size)
 (h:∀ st',Bs κ L st'->fF rk (arrOf st') 0 (pendingOf st').toList b->(∀ j,b<=j->(arrOf st')[j]?=(arrOf st)[j]?)->(pendingOf st').size+1=(pendingOf st).size->Q true st'):wpS (model prog w) A E s (iu i) Q st:=by
 obtain ⟨sa,n,pw,m,pw2,e1,e2,a1,a2,a3,a4,a5,a6,a7⟩:=hc.two i (by rw [OM]; exact hi)
 rw [OL] at e1 e2
 refine qC hC hB e1 e2 a1 a2 (by lia) a5 a6 λst' b1 b2 b3 b4=>h st' b1 ?_ (λj hj=>b2 j (.inr (by lia))) ?_
 ·rw [b3,Ur,Array.toList_setIfInBounds]
  exact a7 _ (λj hj=>cA (b2 j hj)) b4
 ·rw [b3,<- OM,Ur,Array.toList_setIfInBounds,List.length_eraseIdx,List.length_set,OM,if_pos hi]; lia
theorem wpS_sortRuns (hC:iH prog w A s κ rk L) (hB:Bs κ L st) (hp:pendingOf st= #[]) (h:∀ st',Bs κ L st'->Seg rk (arrOf st') 0 L.length->Q () st'):wpS (model prog w) A E s qD Q st:=by
 unfold qD
 walk_at "dl sortRuns"
 dsimp only
 refine NU (Pp ?_)
 have hsz:=hB.size
 rw [hsz]
 obtain ⟨mr,hmr⟩:∃ mr,Lb L.length L.length 0=mr:=⟨_,rfl⟩
 delta Lb at hmr
 rw [hmr]
 refine NU (OE (O1 (I:=λx c st'=>c.1=none/\Bs κ L st'/\fF rk (arrOf st') 0 (pendingOf st').toList c.2/\c.2<=L.length/\(x<=c.2\/L.length<=c.2)) (Q:=λc st'=>c.1=none/\Bs κ L st'/\fF rk (arrOf st') 0 (pendingOf st').toList L.length) ?step ?fin ?init) ?post)
 case init=>exact ⟨rfl,hB,by rw [hp]; rfl,OB _,.inl (NT _)⟩
 case fin =>
  rintro ⟨c,lo⟩ st' ⟨rfl,jG,hC',h1,h2⟩
  dsimp only at hC' h1 h2 |-
  have e:lo=L.length:=by
   rcases h2 with z | z
   ·lia
   ·lia
  subst e
  exact ⟨rfl,jG,hC'⟩
 case step =>
  rintro x ⟨c,lo⟩ st' _ hx ⟨rfl,jG,hC',h1,h2⟩
  dsimp only at hC' h1 h2 |-
  by_cases hge:lo>=L.length
  ·rw [if_pos hge]
   have e:lo=L.length:=by lia
   subst e
   exact NV ⟨rfl,jG,hC'⟩
  rw [if_neg hge]
  refine NU (show wpS _ _ _ _ (countRun' lo (L.length - lo)) _ _ from wpS_countRun hC jG (by lia) (by lia) λm st1 hB1 hM1 m1 m2 ms=>?_)
  have hC1:fF rk (arrOf st1) 0 (pendingOf st1).toList lo:=by
   rw [hM1.pend]; exact hC'.congr λi _ z=>cA (hM1.out i (.inl z))
  dsimp only
  by_cases hmin:m<mr
  ·rw [if_pos (show m<_ from hmin)]
   refine NU (Ql (Pe ⟨rfl,?_⟩))
   have hf1:m<=min (L.length - lo) mr:=by lia
   have hf2:lo+min (L.length - lo) mr<=L.length:=by lia
   refine NU (show wpS _ _ _ _ (binarySort' lo (min (L.length - lo) mr) m) _ _ from wpS_binarySort hC hB1 hf2 hf1 ms λst2 hB2 hM2 hS2=>?_)
   have hC2:fF rk (arrOf st2) 0 (pendingOf st2).toList lo:=by
    rw [hM2.pend]; exact hC1.congr λi _ z=>cA (hM2.out i (.inl z))
   simp only [RC,ON,if_false]
   generalize hF:min (L.length - lo) mr=F at hf1 hf2 hS2
   have hF':=hF
   clear hM2 hM1
   refine NU (Pp ?_)
   rcases hbk:(pendingOf st2).back? with _ | ⟨q1,q2,q3⟩
   ·dsimp only
    refine NU (PJ (NV ⟨rfl,⟨hB2.perm,hB2.kind,hB2.failed⟩,?_,by dsimp only; lia,by dsimp only; lia⟩))
    show fF rk (arrOf st2) 0 ((pendingOf st2).push (lo,F,0)).toList (lo+(F))
    rw [OG]
    exact fF.app.mpr ⟨lo,hC2,rfl,by dsimp only; lia,hS2,rfl⟩
   ·dsimp only
    refine NU (OE (O1 (I:=λy c st'=>c.1=none/\Bs κ L st'/\fF rk (arrOf st') 0 (pendingOf st').toList lo/\Seg rk (arrOf st') lo (lo+(F))) (Q:=λc st'=>c.1=none/\Bs κ L st'/\fF rk (arrOf st') 0 (pendingOf st').toList lo/\Seg rk (arrOf st') lo (lo+(F))) ?_ (λ_ _ z=>z) ⟨rfl,hB2,hC2,hS2⟩) ?_)
    ·rintro y ⟨c,u⟩ st3 _ hy ⟨rfl,tZ,yt,Cu⟩
     refine NU (Pp ?_)
     by_cases hs1:(pendingOf st3).size>1
     ·rw [if_pos hs1]
      obtain ⟨⟨r1,r2,r3⟩,er⟩:∃ t,(pendingOf st3)[(pendingOf st3).size - 2]?=some t:=⟨_,Oq (show (pendingOf st3).size - 2<(pendingOf st3).size by lia)⟩
      rw [er]
      dsimp only
      split
      ·exact NV ⟨rfl,tZ,yt,Cu⟩
      ·refine NU (show wpS _ _ _ _ (iu ((pendingOf st3).size - 2)) _ _ from iw hC tZ yt (by lia) (by lia) λst4 hB4 hC4 ho4 hz4=>?_)
       simp only [RC,ON,if_false]
       exact NV ⟨rfl,hB4,hC4,λa b z1 z2 z3=>by rw [cA (ho4 a z1),cA (ho4 b (by lia))]; exact Cu a b z1 z2 z3⟩
     ·rw [if_neg hs1]
      exact NV ⟨rfl,tZ,yt,Cu⟩
    ·rintro ⟨c,u⟩ st3 ⟨hc,tZ,yt,Cu⟩
     dsimp only at hc |-
     rw [hc]
     dsimp only
     refine NU (PJ (NU (PJ (NV ⟨rfl,⟨tZ.perm,tZ.kind,tZ.failed⟩,?_,by dsimp only; lia,by dsimp only; lia⟩))))
     show fF rk (arrOf st3) 0 (((pendingOf st3).modify ((pendingOf st3).size - 1) _).push (lo,F,0)).toList (lo+(F))
     rw [OG,Array.toList_modify]
     refine fF.app.mpr ⟨lo,?_,rfl,by dsimp only; lia,Cu,rfl⟩
     refine fF.mod _ (λp=>?_) _ yt
     exact ⟨rfl,rfl⟩
  ·rw [if_neg (show ¬ m<_ from hmin)]
   refine NU (Pp ?_)
   rcases hbk:(pendingOf st1).back? with _ | ⟨q1,q2,q3⟩
   ·dsimp only
    refine NU (PJ (NV ⟨rfl,⟨hB1.perm,hB1.kind,hB1.failed⟩,?_,by dsimp only; lia,by dsimp only; lia⟩))
    show fF rk (arrOf st1) 0 ((pendingOf st1).push (lo,m,0)).toList (lo+(m))
    rw [OG]
    exact fF.app.mpr ⟨lo,hC1,rfl,by dsimp only; lia,ms,rfl⟩
   ·dsimp only
    refine NU (OE (O1 (I:=λy c st'=>c.1=none/\Bs κ L st'/\fF rk (arrOf st') 0 (pendingOf st').toList lo/\Seg rk (arrOf st') lo (lo+(m))) (Q:=λc st'=>c.1=none/\Bs κ L st'/\fF rk (arrOf st') 0 (pendingOf st').toList lo/\Seg rk (arrOf st') lo (lo+(m))) ?_ (λ_ _ z=>z) ⟨rfl,hB1,hC1,ms⟩) ?_)
    ·rintro y ⟨c,u⟩ st3 _ hy ⟨rfl,tZ,yt,Cu⟩
     refine NU (Pp ?_)
     by_cases hs1:(pendingOf st3).size>1
     ·rw [if_pos hs1]
      obtain ⟨⟨r1,r2,r3⟩,er⟩:∃ t,(pendingOf st3)[(pendingOf st3).size - 2]?=some t:=⟨_,Oq (show (pendingOf st3).size - 2<(pendingOf st3).size by lia)⟩
      rw [er]
      dsimp only
      split
      ·exact NV ⟨rfl,tZ,yt,Cu⟩
      ·refine NU (show wpS _ _ _ _ (iu ((pendingOf st3).size - 2)) _ _ from iw hC tZ yt (by lia) (by lia) λst4 hB4 hC4 ho4 hz4=>?_)
       simp only [RC,ON,if_false]
       exact NV ⟨rfl,hB4,hC4,λa b z1 z2 z3=>by rw [cA (ho4 a z1),cA (ho4 b (by lia))]; exact Cu a b z1 z2 z3⟩
     ·rw [if_neg hs1]
      exact NV ⟨rfl,tZ,yt,Cu⟩
    ·rintro ⟨c,u⟩ st3 ⟨hc,tZ,yt,Cu⟩
     dsimp only at hc |-
     rw [hc]
     dsimp only
     refine NU (PJ (NU (PJ (NV ⟨rfl,⟨tZ.perm,tZ.kind,tZ.failed⟩,?_,by dsimp only; lia,by dsimp only; lia⟩))))
     show fF rk (arrOf st3) 0 (((pendingOf st3).modify ((pendingOf st3).size - 1) _).push (lo,m,0)).toList (lo+(m))
     rw [OG,Array.toList_modify]
     refine fF.app.mpr ⟨lo,?_,rfl,by dsimp only; lia,Cu,rfl⟩
     refine fF.mod _ (λp=>?_) _ yt
     exact ⟨rfl,rfl⟩
 case post =>
  rintro ⟨c,lo⟩ st' ⟨hc,jG,hC'⟩
  dsimp only at hc |-
  rw [hc]
  dsimp only
  have hl0:=hC'.le
  rw [OM] at hl0
  refine NU (OE (O1 (I:=λx c st2=>c.1=none/\Bs κ L st2/\fF rk (arrOf st2) 0 (pendingOf st2).toList L.length/\((pendingOf st2).size<=1\/(pendingOf st2).size+x<=L.length)) (Q:=λc st2=>c.1=none/\Bs κ L st2/\fF rk (arrOf st2) 0 (pendingOf st2).toList L.length/\(pendingOf st2).size<=1) ?mstep ?mfin ⟨rfl,jG,hC',.inr (by lia)⟩) ?mpost)
  case mfin =>
   rintro c2 st2 ⟨a1,a2,a3,a4⟩
   exact ⟨a1,a2,a3,by lia⟩
  case mpost =>
   rintro ⟨c2,u⟩ st2 ⟨a1,a2,a3,a4⟩
   dsimp only at a1 |-
   rw [a1]
   refine NV (h st2 a2 ?_)
   rw [<- OM] at a4
   match e:(pendingOf st2).toList,a4 with
   | [],_ =>
    rw [e] at a3
    have z:0=L.length:=a3
    intro i j _ _ hj; lia
   | [p],_ =>
    rw [e] at a3
    obtain ⟨b1,b2,b3,b4⟩:=a3
    have z:0+p.2.1=L.length:=b4
    rw [<- z]; exact b3
  case mstep =>
   rintro x ⟨c2,u⟩ st2 _ hx ⟨a1,a2,a3,a4⟩
   refine NU (Pp ?_)
   by_cases hs1:(pendingOf st2).size<=1
   ·rw [if_pos hs1]
    exact NV ⟨rfl,a2,a3,hs1⟩
   ·rw [if_neg hs1]
    have key:∀ i,i+1<(pendingOf st2).size->wpS (model prog w) A E s (iu i) (λr st3=>r=true/\Bs κ L st3/\fF rk (arrOf st3) 0 (pendingOf st3).toList L.length/\(pendingOf st3).size+1=(pendingOf st2).size) st2:=λi hi =>
     iw hC a2 a3 (NT _) hi λst3 b1 b2 _ b3=>⟨rfl,b1,b2,b3⟩
    refine NU (OE (show wpS _ _ _ _ (iu _) _ _ from key _ ?_) λr st3 hr=>?_)
    ·unfold pendingOf at hs1 |-
     repeat' split
     all_goals lia
    ·obtain ⟨rfl,b1,b2,b3⟩:=hr
     simp only [RC,ON,if_false]
     exact NV ⟨rfl,b1,b2,.inr (by lia)⟩
end
end SR
namespace SR
open PySem PyProof.Rows
noncomputable def dup (vs:List Value):List Keyed:=vs.map λv=>(v,v)
theorem vv (vs):(vs.toArray.zip vs.toArray).toList=dup vs:=by
 unfold dup
 rw [Array.toList_zip]
 induction vs with
 | nil=>rfl
 | cons v vs ih=>simpa using ih
def Ord (rk:Keyed->Int) (b:Bool) (out:List Value):Prop:=out.Pairwise λx y=>if b then rk (y,y)<=rk (x,x) else rk (x,x)<=rk (y,y)
theorem qE {xs:Array Keyed} (h:xs.toList.Perm (dup vs)):(xs.toList.map (·.2)).Perm vs/\∀ p∈xs.toList,p=(p.2,p.2):=by
 refine ⟨?_,λp hp=>?_⟩
 ·have q:=h.map (·.2)
  have e:(dup vs).map (·.2)=vs:=by
   unfold dup
   rw [Oj]
   exact List.map_id' vs
  rwa [e] at q
 ·have:=h.mem_iff.mp hp
  simp only [dup,Oi] at this
  obtain ⟨v,_,rfl⟩:=this
  rfl
theorem DQ {st:SortSt} (hp:(arrOf st).toList.Perm (dup vs)) (hs:Seg rk (arrOf st) 0 (dup vs).length) (b) :
 ((if b=true then ((arrOf st).map (·.2)).reverse else (arrOf st).map (·.2)).toList).Perm vs/\Ord rk b (if b=true then ((arrOf st).map (·.2)).reverse else (arrOf st).map (·.2)).toList:=by
 obtain ⟨h1,h2⟩:=qE hp
 have up:((arrOf st).toList.map (·.2)).Pairwise λx y=>rk (x,x)<=rk (y,y):=by
  rw [PZ]
  refine To.mpr λi j hi hj hij=>?_
  have l:=hp.length_eq
  simp only [OM] at hi hj l
  have z:=hs i j (OB _) (Qh hij) (by lia)
  have ei:(arrOf st)[i]?=some ((arrOf st).toList[i]'(by simpa using hi)):=by simp [hi]
  have ej:(arrOf st)[j]?=some ((arrOf st).toList[j]'(by simpa using hj)):=by simp [hj]
  rw [d9 ei,d9 ej] at z
  have e1:=h2 _ (Ow (show i<(arrOf st).toList.length by simpa using hi))
  have e2:=h2 _ (Ow (show j<(arrOf st).toList.length by simpa using hj))
  rw [e1,e2] at z
  exact z
 cases b with
 | false=>simp only [ON,if_false,Uk]; exact ⟨h1,up.imp λh=>by simpa using h⟩
 | true =>
  simp only [if_true,QX,Uk]
  refine ⟨(So _).trans h1,?_⟩
  unfold Ord
  rw [List.pairwise_reverse]
  exact up.imp λh=>by simpa using h
def M6 (prog:Program) (w:World) (A:Around) (s:Shared) (a:Addr) (vs:List Value) (κ:SortKind) (rk:Keyed->Int):Prop :=
 ∀ h':Heap,(∀ c o,c≠a->s.heap.get? c=some o->h'.get? c=some o) ->
  (∀ (Q:SortKind->Shared->Prop) (E:Value->Shared->Prop),2<=vs.length->Q κ { s with heap:=h' }->wpAny (model prog w) A (keyKind' vs.toArray) Q E { s with heap:=h' })/\iH prog w A { s with heap:=h' } κ rk (dup vs)
theorem ny (ho:s.heap.get? a=some (seqObj "list" vs.toArray n)) (hk:M6 prog w A s a vs κ rk) (hz:vs.length<=sizeLine)
 (h:∀ out:Array Value,out.toList.Perm vs->Ord rk b out.toList->P (.done (.ret .none)) { s with heap:=sortedHeap s.heap a vs out }) :
 wpAny (model prog w) A (Builtin.«list.sort» ⟨[.ref a],[(NQ "reverse",.bool b)]⟩) P E s:=by
 rw [list_sort_rev]
 have lta:a<s.heap.objs.size:=N1 ho
 refine NP (RD ho rfl (NP (Po ho rfl ?_ (by simpa using hz))))
 obtain ⟨e1,ho1⟩:∃ e1,(s.heap.update a (OC λ_=> #[])).get? a=some (seqObj "list" #[] e1):=⟨_,Sz ho (λ_=> #[])⟩
 have oth:∀ c o,c≠a->s.heap.get? c=some o->(s.heap.update a (OC λ_=> #[])).get? c=some o:=λc o hc q=>by rw [Qa _ _ _ _ hc]; exact q
 have sz1:(s.heap.update a (OC λ_=> #[])).objs.size=s.heap.objs.size:=Ui ..
 refine NP (Q7 ho1 rfl (NP (wpAny_newTuple ?_ (by simpa using hz))))
 refine NP (Ry (O6 ?_))
 show wpAny (model prog w) A _ P E { s with heap:=((s.heap.update a (OC λ_=> #[])).push (seqObj "tuple" vs.toArray 0)).push (seqObj "list" #[] 0) }
 have ho6:(((s.heap.update a (OC λ_=> #[])).push (seqObj "tuple" vs.toArray 0)).push (seqObj "list" #[] 0)).get? a=some (seqObj "list" #[] e1):=NY _ (NY _ ho1)
 obtain ⟨hkk,hC⟩:=hk (((s.heap.update a (OC λ_=> #[])).push (seqObj "tuple" vs.toArray 0)).push (seqObj "list" #[] 0)) λc o hc q=>NY _ (NY _ (oth c o hc q))
 have fin:∀ st':SortSt,(arrOf st').toList.Perm (dup vs)->Seg rk (arrOf st') 0 (dup vs).length ->
  P (.done (.ret .none)) { s with heap:=sortedHeap s.heap a vs (if b then ((arrOf st').map (·.2)).reverse else (arrOf st').map (·.2)) }:=λst' hp hs =>
  let ⟨q1,q2⟩:=DQ hp hs b; h _ q1 q2
 have hstart:(if b=true then (vs.toArray.zip vs.toArray).reverse else vs.toArray.zip vs.toArray).toList.Perm (dup vs):=by
  cases b with
  | false=>rw [if_neg N5,vv]
  | true=>rw [if_pos rfl,QX,vv]; exact So _
 dsimp only
 have told:∀ t:Sem Fin,wpAny (model prog w) A t P E { s with heap:=((s.heap.update a (OC λ_=> #[])).push (seqObj "tuple" vs.toArray 0)).push (seqObj "list" #[] 0) } ->
  wpAny (model prog w) A (if b=true then (do let _ <- rule "list.sort.reverse"; t) else t) P E { s with heap:=((s.heap.update a (OC λ_=> #[])).push (seqObj "tuple" vs.toArray 0)).push (seqObj "list" #[] 0) }:=λt ht=>by
  split
  ·exact NP (Pe ht)
  ·exact ht
 refine told _ ?_
 have hlen:∀ {xs:Array Keyed},xs.toList.Perm (dup vs)->(if b=true then (Array.map (λx=>x.snd) xs).reverse else Array.map (λx=>x.snd) xs).size<=sizeLine+1:=λ{xs} hp=>by
  have l:=hp.length_eq
  simp only [OM,dup,NX] at l
  split
  ·rw [Array.size_reverse,Array.size_map]; lia
  ·rw [Array.size_map]; lia
 by_cases h2:vs.toArray.size<2
 ·rw [if_pos h2,if_pos h2]
  refine NP (NS ?_)
  rw [StateT.run_pure]
  refine NP (NS ?_)
  dsimp only
  refine NP (Q7 ho6 rfl (NP (Po ho6 rfl ?_ (hsz2:=hlen hstart))))
  simp only [bne_self_eq_false,ON,if_false]
  refine NS (fin (Qj general' (if b=true then (vs.toArray.zip vs.toArray).reverse else vs.toArray.zip vs.toArray) #[] 7 none) hstart ?_)
  intro i j _ hij hj
  have hl:(dup vs).length<2:=by simpa [dup] using h2
  have:i=j:=by lia
  subst this; exact Pd _
 ·rw [if_neg h2,if_neg h2]
  refine NP (hkk _ _ (by simpa using h2) ?_)
  refine NP (OI (wpS_sortRuns (κ:=κ) (rk:=rk) (L:=dup vs) (st:=Qj κ (if b=true then (vs.toArray.zip vs.toArray).reverse else vs.toArray.zip vs.toArray) #[] 7 none)
   (Q:=λ_ st'=>(arrOf st').toList.Perm (dup vs)/\failedOf st'=none/\Seg rk (arrOf st') 0 (dup vs).length) hC ⟨hstart,rfl,rfl⟩ rfl λst' a1 a2=>⟨a1.perm,a1.failed,a2⟩) ?_ λ_ _ e=>e)
  rintro ⟨⟨⟩,st'⟩ s' ⟨rfl,hp,hf,hs⟩
  dsimp only
  refine NP (Q7 ho6 rfl (NP (Po ho6 rfl ?_ (hsz2:=hlen hp))))
  rw [hf]
  simp only [bne_self_eq_false,ON,if_false]
  exact NS (fin st' hp hs)
section
variable {α:Type} {lt:α->α->Bool} {L:List α}
theorem filter_le:∀ {l:List α},(∀ z∈l,p z=true->q z=true)->(l.filter p).length<=(l.filter q).length
 | [],_=>NT _
 | x::l,h=>by
  have ih:=filter_le (l:=l) λz hz=>h z (N6 _ hz)
  have hx:=h x N2
  cases e:p x with
  | false =>
   rw [Rg (by simp [e])]
   by_cases e2:q x=true
   ·rw [Qn e2]; exact Nat.le_succ_of_le ih
   ·rw [Rg e2]; exact ih
  | true =>
   rw [Qn e,Qn (hx e)]
   exact Su ih
theorem filter_lt:∀ {l:List α},(∀ z∈l,p z=true->q z=true)->(∃ z∈l,q z=true/\p z=false)->(l.filter p).length<(l.filter q).length
 | [],_,h=>by obtain ⟨z,h,_⟩:=h; cases h
 | x::l,h,g=>by
  have h':∀ z∈l,p z=true->q z=true:=λz hz=>h z (N6 _ hz)
  have hx:=h x N2
  by_cases e:p x=true
  ·rw [Qn e,Qn (hx e)]
   obtain ⟨z,hz,z1,z2⟩:=g
   rcases N9.mp hz with rfl | hz
   ·rw [e] at z2; cases z2
   ·exact Nat.succ_lt_succ (filter_lt h' ⟨z,hz,z1,z2⟩)
  ·rw [Rg e]
   by_cases e2:q x=true
   ·rw [Qn e2]; exact Nat.lt_succ_of_le (filter_le h')
   ·rw [Rg e2]
    obtain ⟨z,hz,z1,z2⟩:=g
    rcases N9.mp hz with rfl | hz
    ·exact absurd z1 e2
    ·exact filter_lt h' ⟨z,hz,z1,z2⟩
structure FN (lt:α->α->Bool) (L:List α):Prop where
 irr:∀ x∈L,lt x x=false
 tr:∀ x∈L,∀ y∈L,∀ z∈L,lt x y=true->lt y z=true->lt x z=true
 tot:∀ x∈L,∀ y∈L,x≠y->lt x y=true\/lt y x=true
noncomputable def rank (lt:α->α->Bool) (L:List α) (x:α):Int:=((L.filter λz=>lt z x).length:Int)
theorem j8 (h:FN lt L) (hx:x∈L) (hy:y∈L) (e:lt x y=true):rank lt L x<rank lt L y:=by
 have q:=filter_lt (l:=L) (p:=λz=>lt z x) (q:=λz=>lt z y) (λz hz hzx=>h.tr z hz x hx y hy hzx e) ⟨x,hx,e,h.irr x hx⟩
 unfold rank; lia
theorem DR (h:FN lt L) (hx:x∈L) (hy:y∈L):decide (rank lt L x<rank lt L y)=lt x y:=by
 classical
 cases e:lt x y with
 | true=>exact decide_eq_true (j8 h hx hy e)
 | false =>
  refine decide_eq_false λz=>?_
  by_cases w:x=y
  ·subst w; exact absurd z (Int.lt_irrefl _)
  ·rcases h.tot x hx y hy w with q | q
   ·rw [e] at q; cases q
   ·have:=j8 h hy hx q; lia
theorem gp (hp:n.Perm m):∀ {l:List α},Paired S l m->∃ l',l'.Perm l/\Paired S l' n:=by
 induction hp with
 | nil=>intro l h; exact ⟨l,.refl _,h⟩
 | cons x _ ih =>
  intro l h
  cases h with
  | cons r t=>obtain ⟨l',h1,h2⟩:=ih t; exact ⟨_::l',h1.cons _,.cons r h2⟩
 | swap x y l' =>
  intro l h
  cases h with
  | cons r t=>cases t with | cons r2 t2=>exact ⟨_,.swap _ _ _,.cons r2 (.cons r t2)⟩
 | trans _ _ ih1 ih2 =>
  intro l h
  obtain ⟨l1,h1,h2⟩:=ih2 h
  obtain ⟨l2,h3,h4⟩:=ih1 h2
  exact ⟨l2,h3.trans h1,h4⟩
theorem iy (h:Paired S l m):∀ u∈m,∃ x∈l,S x u:=by
 induction h with
 | nil=>intro u hu; cases hu
 | cons r t ih =>
  intro u hu
  rcases N9.mp hu with rfl | hu
  ·exact ⟨_,N2,r⟩
  ·obtain ⟨x,h1,h2⟩:=ih u hu; exact ⟨x,N6 _ h1,h2⟩
open Classical in
noncomputable def xx {β:Type} (S:α->Value->Prop) (lt:α->α->Bool) (L:List α) (p:Value×β):Int:=if h:∃ x,x∈L/\S x p.1 then rank lt L h.choose else 0
theorem j9 (inj:∀ x y u,S x u->S y u->x=y) (hx:x∈L) (h:S x p.1):xx S lt L p=rank lt L x:=by
 have e:∃ x,x∈L/\S x p.1:=⟨x,hx,h⟩
 unfold xx
 rw [dif_pos e,inj _ _ _ e.choose_spec.2 h]
theorem qF (inj:∀ x y u,S x u->S y u->x=y) (h:FN lt L) (nd:L.Nodup) (hL:Paired S L us) (hp:out.Perm us) (ho:Ord (xx S lt L) b out) :
 ∃ L',L'.Perm L/\L'.Pairwise (λx y=>if b then lt y x=true else lt x y=true)/\Paired S L' out:=by
 obtain ⟨L',h1,h2⟩:=gp hp hL
 refine ⟨L',h1,?_,h2⟩
 have hm:∀ x∈L',x∈L:=λx hx=>h1.mem_iff.mp hx
 have nd':L'.Nodup:=h1.nodup_iff.mpr nd
 clear h1 hp hL nd
 unfold Ord at ho
 induction h2 with
 | nil=>exact .nil
 | @cons x u xs us r t ih =>
  obtain ⟨q1,q2⟩:=QY.mp ho
  obtain ⟨n1,n2⟩:=O8.mp nd'
  refine .cons (λy hy=>?_) (ih q2 (λz hz=>hm z (N6 _ hz)) n2)
  have hx:=hm x N2
  have hyL:=hm y (N6 _ hy)
  obtain ⟨v,hv,sv⟩:∃ v∈us,S y v:=by
   clear ih ho q1 q2 n1 n2 hm nd'
   induction t with
   | nil=>cases hy
   | cons r t ih2 =>
    rcases N9.mp hy with rfl | hy
    ·exact ⟨_,N2,r⟩
    ·obtain ⟨v,h1,h2⟩:=ih2 hy; exact ⟨v,N6 _ h1,h2⟩
  have q:=q1 v hv
  rw [j9 inj hx (p:=(u,u)) r,j9 inj hyL (p:=(v,v)) sv] at q
  have ne:x≠y:=λz=>n1 (z ▸ hy)
  cases b with
  | true =>
   simp only [if_true] at q |-
   rcases h.tot x hx y hyL ne with w | w
   ·have:=j8 h hx hyL w; lia
   ·exact w
  | false =>
   simp only [ON,if_false] at q |-
   rcases h.tot x hx y hyL ne with w | w
   ·exact w
   ·have:=j8 h hyL hx w; lia
end
theorem Aw (inj:∀ x y u,S x u->S y u->x=y) (h:FN lt L) (hL:Paired S L us)
 (hk:∀ x∈L,∀ y∈L,∀ u v,S x u->S y v->∀ (E:Value->Shared->Prop) (Q:Bool->Shared->Prop),Q (lt x y) s->wpAny (model prog w) A (keyLt' κ u v) Q E s):iH prog w A s κ (xx S lt L) (dup us):=by
 intro p hp q hq E Q hQ
 simp only [dup,Oi] at hp hq
 obtain ⟨u,hu,rfl⟩:=hp
 obtain ⟨v,hv,rfl⟩:=hq
 obtain ⟨x,hx,sx⟩:=iy hL u hu
 obtain ⟨y,hy,sy⟩:=iy hL v hv
 refine hk x hx y hy u v sx sy E Q ?_
 rw [j9 inj hx (p:=(u,u)) sx,j9 inj hy (p:=(v,v)) sy,DR h hx hy] at hQ
 exact hQ
end SR
namespace SR
open PySem PySem.Calls PyProof.Rows L2 EV
theorem l7 (a):Builtin.«list.sort» ⟨[.ref a],[(NQ "key",.builtin "len")]⟩=(do
 let items <- Rh (.ref a)
 P8 (.ref a) λ_=> #[]
 let before <- seqEpoch a
 let held <- newTuple items.toList
 let keyStore <- newList []
 holding [held,keyStore] do
  rule "list.sort.key"
  for x in items do
   match <- (call (.builtin "len") [x]).attempt with
   | .ok k=>P8 keyStore (·.push k)
   | .error e =>
    rule "list.sort.key-raised"
    let made <- Rh keyStore
    P8 keyStore λ_=> #[]
    letGo made.toList.reverse [e]
    P8 (.ref a) λ_=>items; throw e
  let keys <- Rh keyStore
  let kind <- if items.size<2 then pure general' else keyKind' keys
  let ((),s) <- (if items.size<2 then pure () else sortRuns').run (Qj kind (keys.zip items) #[] 7 none)
  P8 keyStore λ_=> #[]
  letGo ((arrOf s).map (·.1)).toList (failedOf s).toList
  let touched:=(<- seqEpoch a) != before
  P8 (.ref a) λ_=>(arrOf s).map (·.2)
  if let some e:=failedOf s then rule "list.sort.comparison-raised"; throw e
  if touched then rule "list.sort.modified"; raiseError "ValueError" "list modified during sort"
  ret .none):=by
 rfl
theorem iz (a v):argsOk "list.sort" ⟨[a],[(NQ "key",v)]⟩:=by unfold argsOk; kernel_rfl
theorem jR (a v):argsOk "sorted" ⟨[a],[(NQ "key",v)]⟩:=by unfold argsOk; kernel_rfl
noncomputable def intOf (p:Keyed):Int:=match p.1 with | .int m _=>m | _=>0
theorem vz:∀ {ks vs:List Value},ks.length=vs.length->(ks.zip vs).map (·.2)=vs
 | [],[],_=>rfl
 | k::ks,v::vs,h=>by rw [Sf,NW,vz (by simpa using h)]
 | [],_::_,h=>by simp at h
 | _::_,[],h=>by simp at h
theorem vA {ks vs:List Value} {ms:List Int} (h:IntsAre ks ms) {p:Keyed} (hp:p∈ks.zip vs):∃ m t,p.1=.int m t:=by
 obtain ⟨k,v⟩:=p
 exact h.all k (SA hp).1
theorem Ax (ho:s.heap.get? a=some (seqObj "list" vs.toArray n)) (hz:vs.length<=sizeLine)
 (hv:∀ v∈vs,∃ (l:Addr) (items:Array Value),v=.ref l/\l≠a/\s.heap.IsList l items/\items.size<=sizeLine)
 (h:∀ (out:Array Value) (h':Heap) (tk e:Nat),out.toList.Perm vs->h'.get? a=some (seqObj "list" out e)->(∀ c o,c≠a->s.heap.get? c=some o->h'.get? c=some o)->P (.done (.ret .none)) { s with heap:=h',toks:=tk }) :
 wpAny (model prog w) A (Builtin.«list.sort» ⟨[.ref a],[(NQ "key",.builtin "len")]⟩) P E s:=by
 rw [l7]
 have lta:a<s.heap.objs.size:=N1 ho
 refine NP (RD ho rfl (NP (Po ho rfl ?_ (by simpa using hz))))
 obtain ⟨e1,ho1⟩:∃ e1,(s.heap.update a (OC λ_=> #[])).get? a=some (seqObj "list" #[] e1):=⟨_,Sz ho (λ_=> #[])⟩
 have oth:∀ c o,c≠a->s.heap.get? c=some o->(s.heap.update a (OC λ_=> #[])).get? c=some o:=λc o hc q=>by rw [Qa _ _ _ _ hc]; exact q
 refine NP (Q7 ho1 rfl (NP (wpAny_newTuple ?_ (by simpa using hz))))
 refine NP (Ry (O6 ?_))
 generalize hkS:((s.heap.update a (OC λ_=> #[])).push (seqObj "tuple" vs.toArray 0)).objs.size=kS
 have hks:(((s.heap.update a (OC λ_=> #[])).push (seqObj "tuple" vs.toArray 0)).push (seqObj "list" #[] 0)).get? kS=some (seqObj "list" #[] 0):=by rw [<- hkS]; exact Ob _ rfl
 have kne:∀ c,c<s.heap.objs.size->c≠kS:=λc hc e=>by
  rw [<- hkS,size_push',Ui] at e; lia
 have k1:∀ c o,c≠a->s.heap.get? c=some o->(((s.heap.update a (OC λ_=> #[])).push (seqObj "tuple" vs.toArray 0)).push (seqObj "list" #[] 0)).get? c=some o:=λc o hc q=>NY _ (NY _ (oth c o hc q))
 have ho6:(((s.heap.update a (OC λ_=> #[])).push (seqObj "tuple" vs.toArray 0)).push (seqObj "list" #[] 0)).get? a=some (seqObj "list" #[] e1):=NY _ (NY _ ho1)
 dsimp only
 generalize (((s.heap.update a (OC λ_=> #[])).push (seqObj "tuple" vs.toArray 0)).push (seqObj "list" #[] 0))=h1 at hks k1 ho6 |-
 have hak:a≠kS:=kne a lta
 refine NP (Pe ?_)
 refine NP (OI (wpAny_forIn_array' _ (λrest _ s'=>∃ (dn:List Value) (ks:List Value) (ms:List Int) (hh:Heap) (tk e:Nat),vs=dn++rest/\s'={ s with heap:=hh,toks:=tk }/\IntsAre ks ms/\ks.length=dn.length/\hh.get? kS=some (seqObj "list" ks.toArray e)/\∀ c o,c≠kS->h1.get? c=some o->hh.get? c=some o)
  (λ_ s'=>∃ (ks:List Value) (ms:List Int) (hh:Heap) (tk e:Nat),s'={ s with heap:=hh,toks:=tk }/\IntsAre ks ms/\ks.length=vs.length/\hh.get? kS=some (seqObj "list" ks.toArray e)/\∀ c o,c≠kS->h1.get? c=some o->hh.get? c=some o) ?turn ?fin _ _ ?beg) ?rest λ_ _ e=>e)
 case beg=>exact ⟨[],[],[],h1,_,0,rfl,rfl,.nil,rfl,hks,λ_ _ _ q=>q⟩
 case fin =>
  rintro _ s' ⟨dn,ks,ms,hh,tk,e,e1,e2,e3,e4,e5,e6⟩
  rw [OP] at e1
  exact ⟨ks,ms,hh,tk,e,e2,e3,by rw [e4,e1],e5,e6⟩
 case turn =>
  rintro v rest _ s' ⟨dn,ks,ms,hh,tk,e,ev,rfl,e3,e4,e5,e6⟩
  obtain ⟨l,items,rfl,hla,hli,hsz⟩:=hv v (by rw [ev]; simp)
  obtain ⟨o,q1,q2,q3⟩:=hli
  have hl':hh.IsList l items:=⟨o,e6 l o (kne l (N1 q1)) (k1 l o hla q1),q2,q3⟩
  refine NP (Qe (call_len_list hl' (by have:=nP; lia) ?_))
  dsimp only
  have hkl:ks.length<=sizeLine:=by rw [e4]; have:=congrArg QG ev; simp at this; lia
  refine NP (Po e5 rfl ?_ (by simpa using hkl) (by simp; lia))
  refine NS ⟨dn++[.ref l],ks++[.int items.size (tk+1)],ms++[(items.size:Int)],_,_,e+1,by rw [ev]; simp,rfl,e3.append (.cons _ _ .nil),by simp [e4],?_,λc o hc q=>?_⟩
  ·have:=Sz e5 (λa=>a.push (.int items.size (tk+1)))
   simpa using this
  ·rw [Qa _ _ _ _ hc]; exact e6 c o hc q
 case rest =>
  rintro _ s' ⟨ks,ms,hh,tk,e,rfl,e3,e4,e5,e6⟩
  refine NP (RD e5 rfl ?_)
  have zl:(ks.toArray.zip vs.toArray).toList=ks.zip vs:=by rw [Array.toList_zip]
  have hoa:=e6 a _ hak ho6
  have pl:∀ {st':SortSt},(arrOf st').toList.Perm (ks.zip vs)->((arrOf st').map (·.2)).toList.Perm vs:=λ{st'} hp=>by
   rw [Uk]
   have:=hp.map (·.2)
   rwa [vz e4] at this
  have ho7:(hh.update kS (OC λ_=>(#[]:Array Value))).get? a=some (seqObj "list" #[] e1):=by rw [Qa _ _ _ _ hak]; exact hoa
  have fin:∀ (out:Array Value),out.toList.Perm vs->P (.done (.ret .none)) { s with heap:=(hh.update kS (OC λ_=>(#[]:Array Value))).update a (OC λ_=>out),toks:=tk }:=λout hp =>
   h out _ _ _ hp (Sz ho7 (λ_=>out)) λc o hc q=>by
    have lc:=N1 q
    rw [Qa _ _ _ _ hc,Qa _ _ _ _ (kne c lc)]
    exact e6 c o (kne c lc) (k1 c o hc q)
  have hkz:(ks.toArray:Array Value).size<=sizeLine:=by rw [Of,e4]; exact hz
  have oz:∀ {out:Array Value},out.toList.Perm vs->out.size<=sizeLine+1:=λ{out} hp=>by
   have l:=hp.length_eq
   rw [OM] at l; lia
  by_cases h2:vs.toArray.size<2
  ·rw [if_pos h2,if_pos h2]
   refine NP (NS ?_)
   rw [StateT.run_pure]
   refine NP (NS ?_)
   dsimp only
   have p0:=pl (st':=Qj general' (ks.toArray.zip vs.toArray) #[] 7 none) (by show (ks.toArray.zip vs.toArray).toList.Perm _; rw [zl])
   refine NP (Po e5 rfl ?_ hkz)
   refine NP (S9 ?_)
   refine NP (Q7 ho7 rfl (NP (Po ho7 rfl ?_ (hsz2:=oz p0))))
   simp only [bne_self_eq_false,ON,if_false]
   exact NS (fin _ p0)
  ·rw [if_neg h2,if_neg h2]
   rw [ksk_kind (kz:=ms) e3 (by rw [Of,e4]; simpa using h2)]
   refine NP (NS ?_)
   have hC:iH prog w A { s with heap:=hh,toks:=tk } oneType' intOf (ks.zip vs):=λx hx y hy E Q hQ=>by
    obtain ⟨m,t,ex⟩:=vA e3 hx
    obtain ⟨m',t',ey⟩:=vA e3 hy
    unfold intOf at hQ
    rw [ex,ey] at hQ |-
    rw [keyLt'_oneType]
    exact oneLt_int hQ
   refine NP (OI (wpS_sortRuns (κ:=oneType') (rk:=intOf) (L:=ks.zip vs) (st:=Qj oneType' (ks.toArray.zip vs.toArray) #[] 7 none)
    (Q:=λ_ st'=>(arrOf st').toList.Perm (ks.zip vs)/\failedOf st'=none) hC ⟨(by show (ks.toArray.zip vs.toArray).toList.Perm _; rw [zl]),rfl,rfl⟩ rfl λst' a1 a2=>⟨a1.perm,a1.failed⟩) ?_ λ_ _ e=>e)
   rintro ⟨⟨⟩,st'⟩ s' ⟨rfl,hp,hf⟩
   dsimp only
   refine NP (Po e5 rfl ?_ hkz)
   refine NP (S9 ?_)
   refine NP (Q7 ho7 rfl (NP (Po ho7 rfl ?_ (hsz2:=oz (pl hp)))))
   rw [hf]
   simp only [bne_self_eq_false,ON,if_false]
   exact NS (fin _ (pl hp))
end SR
namespace EV
open PySem PySem.Spec PySem.Calls PyProof.Rows L2
theorem kc:∀ l:List Int,HT.lexLt l l=false
 | []=>rfl
 | x::l=>by rw [HT.cN,if_pos rfl]; exact kc l
theorem sO:∀ {a b c:List Int},HT.lexLt a b=true->HT.lexLt b c=true->HT.lexLt a c=true
 | [],[],_,h,_=>by cases h
 | [],_::_,[],_,h=>by cases h
 | [],_::_,_::_,_,_=>rfl
 | _::_,[],_,h,_=>by cases h
 | _::_,_::_,[],_,h=>by cases h
 | x::a,y::b,z::c,h,g=>by
  rw [HT.cN] at h g |-
  by_cases e:x=y
  ·subst e
   rw [if_pos rfl] at h
   by_cases f:x=z
   ·subst f; rw [if_pos rfl] at g |-; exact sO h g
   ·rw [if_neg f] at g |-; exact g
  ·rw [if_neg e] at h
   have h:=of_decide_eq_true h
   by_cases f:y=z
   ·subst f; rw [if_neg e]; exact decide_eq_true h
   ·rw [if_neg f] at g
    have g:=of_decide_eq_true g
    rw [if_neg (by lia)]; exact decide_eq_true (by lia)
theorem kg:∀ {a b:List Int},a≠b->HT.lexLt a b=true\/HT.lexLt b a=true
 | [],[],h=>absurd rfl h
 | [],_::_,_=>.inl rfl
 | _::_,[],_=>.inr rfl
 | x::a,y::b,h=>by
  rw [HT.cN,HT.cN]
  by_cases e:x=y
  ·subst e
   rw [if_pos rfl,if_pos rfl]
   exact kg λz=>h (by rw [z])
  ·rw [if_neg e,if_neg (Og e)]
   rcases Int.lt_or_gt_of_ne e with z | z
   ·exact .inl (decide_eq_true z)
   ·exact .inr (decide_eq_true z)
noncomputable abbrev aM:=List Int×Int
noncomputable def c9 (x y:aM):Bool:=if x.1=y.1 then decide (x.2<y.2) else HT.lexLt x.1 y.1
theorem oF (L:List aM):SR.FN c9 L where
 irr:=λx _=>by unfold c9; rw [if_pos rfl]; exact decide_eq_false (Int.lt_irrefl _)
 tr:=λx _ y _ z _ h g=>by
  unfold c9 at *
  by_cases e:x.1=y.1
  ·rw [if_pos e] at h
   by_cases f:y.1=z.1
   ·rw [if_pos f] at g; rw [if_pos (e.trans f)]
    exact decide_eq_true (Int.lt_trans (of_decide_eq_true h) (of_decide_eq_true g))
   ·rw [if_neg f] at g; rw [if_neg (λw=>f (e.symm.trans w)),e]; exact g
  ·rw [if_neg e] at h
   by_cases f:y.1=z.1
   ·rw [if_neg (λw=>e (w.trans f.symm)),<- f]; exact h
   ·rw [if_neg f] at g
    have q:=sO h g
    rw [if_neg λw=>by rw [w,kc] at q; cases q]; exact q
 tot:=λx _ y _ h=>by
  unfold c9
  by_cases e:x.1=y.1
  ·rw [if_pos e,if_pos e.symm]
   have:x.2≠y.2:=λz=>h (Prod.ext e z)
   rcases Int.lt_or_gt_of_ne this with z | z
   ·exact .inl (decide_eq_true z)
   ·exact .inr (decide_eq_true z)
  ·rw [if_neg e,if_neg (Og e)]
   exact kg e
noncomputable abbrev aR (t:aM):D:=.tup [.tup (t.1.map .int),.int t.2]
section
variable {X:Cx}
def jS (K:NR) (Hf:Hp) (d:D) (u:Value):Prop:=∃ v,RelV v u/\Rep K Hf d v
theorem Ay (l m:List Int):jY 1 (.tup (l.map .int)) (.tup (m.map .int)):=.tup λi d e h1 h2=>by
 simp only [NZ,N8] at h1 h2
 obtain ⟨x,_,rfl⟩:=h1
 obtain ⟨y,_,rfl⟩:=h2
 exact .sc rfl
theorem i7:∀ {l:List Int} {ys:List V},ak X.K Hf (l.map D.int) ys->ys=l.map V.int
 | [],ys,h=>aA.mp h
 | n::l,ys,h=>by
  obtain ⟨y,r,rfl,z1,z2⟩:=aC.mp h
  rw [av] at z1; subst z1
  rw [i7 z2]; rfl
theorem iA:∀ (l:List α) (r:List β) {Q:List β->Shared->Prop},Paired (λa b=>∀ (Q:β->Shared->Prop),Q b s->wpAny M A (f a) Q E s) l r->Q r s->wpAny M A (l.mapM f) Q E s
 | _,_,Q,.nil,h=>by rw [List.mapM_nil]; exact NS h
 | _,_,Q,.cons q t,h=>by
  rw [List.mapM_cons]
  exact NP (q _ (NP (iA _ _ t (NS h))))
end
noncomputable abbrev DS (X:Cx) (A:Around):Cx:={ X with A:=A }
theorem Lc (ok:X.Ok) (h1:X.calm=true->A.handled=none) (h2:A.frames=some X.stack):(DS X A).Ok :=
 ⟨ok.mod,ok.kind,ok.glob,ok.blt,ok.above,ok.inj,ok.has,ok.cab,h1,h2,ok.stk,ok.exf,ok.bs,ok.bsz,ok.noex,ok.exfs,ok.ji,ok.frf⟩
theorem jw (I:Inv X aa σ H s) (h1:X.calm=true->A.handled=none) (h2:A.frames=some X.stack):Inv (DS X A) aa σ H s :=
 ⟨Lc I.ok h1 h2,I.os,I.bare,I.base,I.loc,I.cell,I.free,I.freeC,I.pin,I.hok,I.len⟩
theorem gq (ok:X.Ok) (I:Inv (DS X A) aa σ H s):Inv X aa σ H s :=
 ⟨ok,I.os,I.bare,I.base,I.loc,I.cell,I.free,I.freeC,I.pin,I.hok,I.len⟩
theorem DT {fp:List Addr} (h:∀ b∈fp,eO X aa H b) (n:∀ b∈fp,H' b=none):∀ b∈fp,eO X aa H' b:=λb hb=>⟨n b hb,(h b hb).2⟩
theorem Az (hc:X.calm=true) (Tn:Turn X.prog X.w X.K (.Name nm np) J fp it tn) (io:jn X.K J ds CC)
 (hS0:Hb S=none) (hSf:S∉fp) (hn:ds.length<=sizeLine) (okX:X.Ok) (h1:X.A.in1.handled=none) (h2:X.A.in1.frames=some X.stack)
 (fin:∀ (s':Shared) (H' ah:Hp) (xs:List V),Inv X aa σ H' s'->H' S=some (.lst xs)->ah S=none->ak X.K ah ds xs->br Hb CC H' ah->R (.ok (.ret res)) s') :
 ∀ (k i:Nat) (s:Shared) (H Hf:Hp) (xs:List V),ds.length - i=k->i<=ds.length->Inv X aa σ H s->tn i s.heap->(∀ b∈fp,eO X aa H b)->H S=some (.lst xs)->Hf S=none->ak X.K Hf (ds.take i) xs->br Hb CC H Hf ->
  codeAny (model X.prog X.w) X.A (.builtin "list.extend.loop" ⟨[.ref S,.ref it,res],[]⟩) R s:=by
 intro k
 induction k with
 | zero =>
  intro i s H Hf xs hk hi I t hf hS hfS hr g
  have e:i=ds.length:=by omega
  subst e
  rw [OO] at hr
  refine Rr PySem.F.entry_extend_loop ?_
  rw [R9 RT _]
  show wpAny _ X.A.in1 (pyNext (.ref it) >>= _) _ _ s
  refine NP (OI (Tn.done (DS X X.A.in1) rfl rfl rfl hc _ aa s σ H _ (jw I (λ_=>h1) h2) hf t (io.stop _ H Hf g.f g.b (NT _))) (λr s' ⟨e,I'⟩=>?_) λ_ _ x=>x)
  subst e
  exact NS (fin s' H Hf xs (gq okX I') hS hfS hr g)
 | succ k ih =>
  intro i s H Hf xs hk hi I t hf hS hfS hr g
  have lt:i<ds.length:=by omega
  have ed:ds[i]?=some ds[i]:=Od lt
  obtain ⟨hgo,hy⟩:=io.go i ds[i] H Hf g.f g.b ed
  refine Rr PySem.F.entry_extend_loop ?_
  rw [R9 RT _]
  show wpAny _ X.A.in1 (pyNext (.ref it) >>= _) _ _ s
  refine NP (OI (Tn.item (DS X X.A.in1) rfl rfl rfl hc i aa s σ H _ (jw I (λ_=>h1) h2) hf t hgo) (λr s1 ⟨u,e,hu⟩=>?_) λ_ _ x=>x)
  subst e
  show wpAny _ X.A.in1 (letOwnedTupleGo (.Name nm np) (.ref it) u >>= λ_=>(P8 (.ref S) (·.push u) >>= λ_=>again (.builtin "list.extend.loop" ⟨[.ref S,.ref it,res],[]⟩))) _ _ s1
  refine NP (OI hu (λ_ s2 ⟨x,H',I2,rx,y,t2,n2⟩=>?_) λ_ _ x=>x)
  have I2:=gq okX I2
  obtain ⟨ah,g',rd⟩:=hy x H' y
  have hS':H' S=some (.lst xs):=g'.s _ _ hS
  have hfS':ah S=none:=g'.n S hfS (by rw [hS]; simp) (by intro ys; rw [hS]; simp)
  obtain ⟨z,its,n,rv,el,eo⟩:=I2.pO hS'
  have hx:xs.length=i:=by rw [<- hr.length,OW]; omega
  have hz:(xs++[x]).length<=sizeLine:=by simp only [OF,Oz,PB]; omega
  refine NP (Po eo rfl ?_ (by simp; omega) (by simp; omega))
  have ef:(λa:Array Value=>a.push u) its.toArray=(its++[u]).toArray:=by simp
  have I3:=I2.r9 (f:=λa=>a.push u) (t':=s2.toks) hS' eo ef (rv.append (.cons rx .nil)) hz
  refine NS ⟨plainId_quiet RT _,ih (i+1) _ (upd H' S (.lst (xs++[x]))) ah (xs++[x]) (by omega) lt I3 (Tn.keep _ _ _ t2 λb hb o e=>?_) (DT hf λb hb=>?_) af hfS' ?_ (j6 (g.trans g') hS0 hfS')⟩
  ·exact (R3 _ _ (λw:S=b=>hSf (w ▸ hb))).trans e
  ·rw [aj (λw:b=S=>hSf (w ▸ hb))]; exact n2 b hb
  ·rw [Sn,ed]
   exact (hr.mono g'.f).append (ak.one rd)
theorem xy (hT:s.TypeIs (.ref v) "dict_items") (hQ:Q false s):wpAny (model prog w) A (QM (.ref v)) Q E s:=by
 unfold QM
 refine NP (wpAny_specialOf hT PySem.F.slot_dict_items_len.lookup ?_)
 have e:splitId "dict_items.__len__"=some ("dict_items","__len__"):=by decide +kernel
 dsimp only
 rw [e]
 dsimp only
 refine NP (Ss (b:=true) hT (by rw [isSubtype_type]; kernel_rfl) ?_)
 rw [if_neg (by decide)]
 exact NP (Qf hT (NS hQ))
theorem DU (I:Inv X aa σ H s) (hv:s.heap.IsItemsView v d) (hH:H d=some (.frz o u)) (hd:HO.dct u) :
 wpAny (model X.prog X.w) A (pyIter (.ref v)) (λitv s2=>∃ (it:Addr) (es:Array DictEntry) (ep:Nat),itv=.ref it/\s.heap.objs.size<=it/\Inv X aa σ H s2/\Turn X.prog X.w X.K tg (M5 d o u) [it] it (λi h=>Af h it d i es.size ep)/\Af s2.heap it d 0 es.size ep/\(∀ b∈[it],eO X aa H b) /\
  (∀ b o,s.heap.get? b=some o->s2.heap.get? b=some o)) E s:=by
 obtain ⟨ho,ok⟩:=(show bq X.prog X.w H s.heap d (.frz o u) from I.hok d _ hH)
 obtain ⟨hx,es,ep,hod,hp,hs,hz⟩:=cP ok hd ho
 refine xh hv ho hod ?_
 have hsz:es.size=(bO u).length:=by rw [Pc hp]; simp
 refine ⟨_,es,ep,rfl,NT _,I.kept (t':=s.toks) λb o e=>NY _ e,sH (o:=o) (u:=u) (es:=es) (ep:=ep) hd hod (λz=>?_) hsz,⟨.none,false,.none,.none,Ob _ rfl,.inl rfl⟩,λb hb=>?_,λb o e=>NY _ e⟩
 ·have lt:=N1 ho
  rw [<- z] at lt
  exact absurd lt (Pw _)
 ·have e:b=s.heap.objs.size:=by simpa using hb
  subst e
  exact I.lV (NT _) (I.hok.fresh (NT _))
theorem nC (hc:X.calm=true) (h1:X.A.in1.handled=none) (h2:X.A.in1.frames=some X.stack) (I1:Inv X aa σ (upd H S (.lst [])) s) (sb:aG Hf H) (HS:H S=none) (hvS:S≠src) (hltS:S<s.heap.objs.size) (hn:ds.length<=sizeLine)
 (hT:(false || O9 T == O9 "list" || O9 T == O9 "tuple")=false) (ty:∀ s':Shared,(∀ b o,s.heap.get? b=some o->s'.heap.get? b=some o)->s'.TypeIs (.ref src) T)
 (hint:∀ (A:Around) (s':Shared) (Q:Bool->Shared->Prop) (E:Value->Shared->Prop),s'.TypeIs (.ref src) T->Q false s'->wpAny (model X.prog X.w) A (QM (.ref src)) Q E s')
 (iter:wpAny (model X.prog X.w) X.A.in1 (pyIter (.ref src)) (λitv s2=>∃ (it:Addr) (tn:Nat->Heap->Prop) (J:It),itv=.ref it /\
   s.heap.objs.size<=it/\Inv X aa σ (upd H S (.lst [])) s2/\Turn X.prog X.w X.K (.Name "x" ⟨0,0,0,0⟩) J [it] it tn/\tn 0 s2.heap/\(∀ b∈[it],eO X aa (upd H S (.lst [])) b)/\(∀ b o,s.heap.get? b=some o->s2.heap.get? b=some o)/\jn X.K J ds Hf) E s)
 (hR:∀ (s':Shared) (H' ah:Hp) (xs:List V),Inv X aa σ H' s'->H' S=some (.lst xs)->ah S=none->ak X.K ah ds xs->br H Hf H' ah->R (.ok (.ret res)) s') :
 wpAny (model X.prog X.w) X.A.in1 (RQ (.ref S) (.ref src) res) (λfin s'=>match fin with | .done f=>R (.ok f) s' | .again c=>c.quiet=true/\codeAny (model X.prog X.w) X.A c R s') E s:=by
 unfold RQ
 have ne:Builtin.List.listSameRef (.ref S) (.ref src)=false:=by simp [Builtin.List.listSameRef,hvS]
 refine NP (Qf (ty s λ_ _ e=>e) ?_)
 rw [if_neg (by rw [ne,hT]; decide)]
 refine NP (OI iter (λitv s2 hh=>z3 hh λit tn J hh=>w8 hh λe hit I2 Tn t0 hf k2 io=>?_) λ_ _ x=>x)
 subst e
 refine NP (O6 (hint _ s2 _ _ (ty s2 k2) ?_))
 have hSne:it≠S:=Q6 (OJ hltS hit)
 have g0:br H Hf (upd H S (.lst [])) Hf:=br.gh sb HS
 have fin:∀ s3:Shared,Inv X aa σ (upd H S (.lst [])) s3->tn 0 s3.heap->wpAny (model X.prog X.w) X.A.in1 (again (.builtin "list.extend.loop" ⟨[.ref S,.ref it,res],[]⟩)) (λfin s'=>match fin with | .done f=>R (.ok f) s' | .again c=>c.quiet=true/\codeAny (model X.prog X.w) X.A c R s') E s3:=λs3 I3 t3 =>
  NS ⟨plainId_quiet RT _,Az (X:=X) (Hb:=H) (CC:=Hf) hc Tn io HS (λm=>hSne (Oa.mp m).symm) hn I1.ok h1 h2 hR ds.length 0 s3 _ Hf [] (by simp) (OB _) I3 t3 hf af (sb.free HS) (aA.mpr rfl) g0⟩
 obtain ⟨_,its,n,rv,el,eo⟩:=I2.pO (l:=S) (xs:=[]) af
 cases rv
 split
 ·refine NP (Pe ?_)
  unfold Builtin.List.listTouch
  refine NP (NP (Po eo rfl ?_))
  have I3:=I2.r9 (f:=λa=>a.push .none) (its':=[.none]) (ys:=[.non]) (t':=s2.toks) af eo (by simp) (.cons rfl .nil) (by show 1<=sizeLine; decide)
  obtain ⟨_,its3,n3,rv3,el3,eo3⟩:=I3.pO (l:=S) (xs:=[.non]) af
  cases rv3 with
  | cons r3 t3 =>
   cases t3
   cases r3
   refine Po eo3 rfl ?_
   have I4:=I3.r9 (f:=λa=>a.pop) (its':=[]) (ys:=[]) (t':=s2.toks) af eo3 (by simp) .nil (OB _)
   rw [nL,nL] at I4
   refine fin _ I4 (Tn.keep 0 _ _ t0 λb hb o e=>?_)
   have hbS:S≠b:=λw=>hSne (by rw [Oa.mp hb] at w; exact w.symm)
   exact (R3 _ _ hbS).trans ((R3 _ _ hbS).trans e)
 ·exact fin s2 I2 t0
theorem k9 (hc:X.calm=true) (h1:X.A.in1.handled=none) (h2:X.A.in1.frames=some X.stack) (I:Inv X aa σ H s) (sb:aG Hf H) (hlt:src<s.heap.objs.size) (hn:ds.length<=sizeLine) (hT:(false || O9 T == O9 "list" || O9 T == O9 "tuple")=false)
 (ty:∀ s':Shared,(∀ b o,s.heap.get? b=some o->s'.heap.get? b=some o)->s'.TypeIs (.ref src) T)
 (hint:∀ (A:Around) (s':Shared) (Q:Bool->Shared->Prop) (E:Value->Shared->Prop),s'.TypeIs (.ref src) T->Q false s'->wpAny (model X.prog X.w) A (QM (.ref src)) Q E s')
 (iter:∀ (A:Around) (s1:Shared) (H1:Hp) (E:Value->Shared->Prop),Inv X aa σ H1 s1->aG Hf H1->(∀ b o,s.heap.get? b=some o->s1.heap.get? b=some o)->wpAny (model X.prog X.w) A (pyIter (.ref src)) (λitv s2=>∃ (it:Addr) (tn:Nat->Heap->Prop) (J:It),itv=.ref it /\
   s1.heap.objs.size<=it/\Inv X aa σ H1 s2/\Turn X.prog X.w X.K (.Name "x" ⟨0,0,0,0⟩) J [it] it tn/\tn 0 s2.heap/\(∀ b∈[it],eO X aa H1 b)/\(∀ b o,s1.heap.get? b=some o->s2.heap.get? b=some o)/\jn X.K J ds Hf) E s1)
 (hQ:∀ (us:List Value) (s':Shared) (H' ah:Hp) (xs:List V),Inv X aa σ H' s'->Vals xs us->ak X.K ah ds xs->br H Hf H' ah->ds.length<=sizeLine->Q us s'):wpAny (model X.prog X.w) X.A (collect (.ref src)) Q E s:=by
 unfold collect
 refine NP (wpAny_runValue (Rr PySem.F.entry_proto_collect ?_))
 rw [R9 PySem.F.plain_proto_collect _]
 show wpAny _ X.A.in1 (newList [] >>= λl=>again (.builtin "list.__iadd__" ⟨[l,.ref src],[]⟩)) _ _ s
 have HS:H s.heap.objs.size=none:=I.hok.fresh (NT _)
 have hvS:s.heap.objs.size≠src:=Q6 hlt
 refine NP (O0 (NS ⟨plainId_quiet PySem.F.plain_list_iadd _,Rr PySem.F.entry_list_iadd ?_⟩))
 rw [R9 PySem.F.plain_list_iadd _]
 generalize hS:s.heap.objs.size=S at *
 have I1:Inv X aa σ (upd H S (.lst [])) { s with heap:=s.heap.push { cls:=.type "list",data:=.seq ([]:List Value).toArray },toks:=s.toks }:=by
  have:=I.CU (t':=s.toks) (ys:=[]) (its:=[]) .nil (OB _)
  rw [hS] at this
  exact this
 show wpAny _ X.A.in1 (RQ (.ref S) (.ref src) (.ref S)) _ _ { s with heap:=s.heap.push { cls:=.type "list",data:=.seq ([]:List Value).toArray } }
 have k1:∀ b o,s.heap.get? b=some o->(s.heap.push { cls:=.type "list",data:=.seq ([]:List Value).toArray }).get? b=some o:=λb o e=>NY _ e
 generalize hs1:({ s with heap:=s.heap.push { cls:=.type "list",data:=.seq ([]:List Value).toArray } }:Shared)=s1
 replace I1:Inv X aa σ (upd H S (.lst [])) s1:=by rw [<- hs1]; exact I1
 replace k1:∀ b o,s.heap.get? b=some o->s1.heap.get? b=some o:=by rw [<- hs1]; exact k1
 have hltS:S<s1.heap.objs.size:=by rw [<- hs1,<- hS]; show _<(Heap.push _ _).objs.size; rw [Qd]; exact Qw _
 refine nC (R:=λr s'=>match r with
  | .ok (.ret v)=>wpAny (model X.prog X.w) X.A (do
   let .ref a:=v | unsupported "internal:collect"
   let o <- load a
   match o.data with
   | .seq xs _=>pure xs.toList
   | _=>unsupported "internal:collect") Q E s'
  | .ok _=>False
  | .error e=>E e s') hc h1 h2 I1 sb HS hvS hltS hn hT (λs' k=>ty s' λb o e=>k b o (k1 b o e)) hint (iter _ s1 _ _ I1 (br.gh sb HS (o:=.lst [])).b k1) λs' H' ah xs I' hS' _ hr g=>?_
 obtain ⟨_,its,n,rv,el,eo⟩:=I'.pO hS'
 exact NP (wpAny_load eo (NS (hQ its s' H' ah xs I' rv hr g hn)))
noncomputable def HZ (te:TE):TE:=λσ H Q=>te σ H λx H1=>∃ d o u,x=.ref d/\H1 d=some (.frz o u)/\HO.dct u/\∀ v,H1 v=none->Q (.ref v) (upd H1 v (.ext λh=>h.IsItemsView v d))
theorem AA (he:PE X e te) (hbase:attributeBase e "items" X.env (eval e X.env)=eval e X.env) (hline:(ap.endLine == cp.line)=true):PE X (.Call (.Attribute e "items" ap) [] [] cp) (HZ te):=by
 intro aa s σ H Q I h
 refine wpAny_Call_method (T:="dict") (id:="dict.items") hbase rfl hline F.plainAttrs_dict F.slot_dict_items F.type_dict_items (bD (he aa s σ H _ I h) λv s1 ⟨x,H1,I1,r1,d,o,u,ex,hH,hd,q⟩=>?_)
 subst ex
 cases r1
 obtain ⟨ho,ok⟩:=(show bq X.prog X.w H1 s1.heap d (.frz o u) from I1.hok d _ hH)
 obtain ⟨hx,es,ep,hod,hp,hs,hz⟩:=cP ok hd ho
 have hT:s1.TypeIs (.ref d) "dict":=⟨o,ho,hx.1⟩
 refine ⟨hT,λb z=>by cases z; exact ⟨o,ho,hx.2.1⟩,?_⟩
 show wpAny _ _ (callWith cp (.builtin "dict.items") [.ref d] [] []) _ _ s1
 refine method_meetsIn F.slot_dict_items F.entry_dict_items rfl (PySem.evalArgs_none ⟨rfl,hT,F.args_dict_items_1 _,_,qm d hs,hT,?_⟩)
 have Hv:H1 s1.heap.objs.size=none:=I1.hok.fresh (NT _)
 have hve:(s1.heap.push { cls:=.type "dict_items",data:=.fields #[.ref d] }).IsItemsView s1.heap.objs.size d:=⟨_,Ob _ rfl,rfl,rfl⟩
 have I2:Inv X aa σ (upd H1 s1.heap.objs.size (.ext λh=>h.IsItemsView s1.heap.objs.size d)) { s1 with heap:=s1.heap.push { cls:=.type "dict_items",data:=.fields #[.ref d] },toks:=s1.toks } :=
  I1.laid (a:=s1.heap.objs.size) (λ_ _ q=>NY _ q) (NT _) ⟨hve,⟨_,Ob _ rfl⟩,λh1 h2 ⟨o,e,r⟩ k=>⟨o,k o e,r⟩⟩
 exact ⟨.ref s1.heap.objs.size,_,I2,rfl,q _ Hv⟩
section
variable {X:Cx} {aa:List (Addr×Obj)} {σ:L2.St} {H Hf:Hp} {s:Shared} {E:Value->Shared->Prop} {α:Type} {enc:α->D} {lt:α->α->Bool} {κ:SortKind}
theorem lg {K:NR}:∀ {L:List α} {xs:List V} {us:List Value},ak K Hf (L.map enc) xs->Vals xs us->Paired (λx u=>jS K Hf (enc x) u) L us
 | [],xs,us,h,v=>by rw [PF,aA] at h; subst h; cases v; exact .nil
 | t::L,xs,us,h,v=>by
  rw [NW] at h
  obtain ⟨x,r,rfl,h1,h2⟩:=aC.mp h
  cases v with
  | cons r1 r2=>exact .cons ⟨x,r1,h1⟩ (lg h2 r2)
theorem lu {K:NR}:∀ {L:List α} {us:List Value},Paired (λx u=>jS K Hf (enc x) u) L us->∃ xs,ak K Hf (L.map enc) xs/\Vals xs us
 | _,_,.nil=>⟨[],aA.mpr rfl,.nil⟩
 | _,_,.cons ⟨x,r1,h1⟩ t=>by
  obtain ⟨xs,h2,h3⟩:=lu t
  exact ⟨x::xs,.cons h1 h2,.cons r1 h3⟩
structure Ld (X:Cx) (enc:α->D) (lt:α->α->Bool) (κ:SortKind):Prop where
 lin:∀ L:List α,SR.FN lt L
 inj:∀ (aa:List (Addr×Obj)) (σ:L2.St) (H Hf:Hp) (s:Shared),Inv X aa σ H s->aG Hf H->∀ x y u,jS X.K Hf (enc x) u->jS X.K Hf (enc y) u->x=y
 kind:∀ (aa:List (Addr×Obj)) (σ:L2.St) (H Hf:Hp) (s:Shared) (A:Around) (E:Value->Shared->Prop),Inv X aa σ H s->aG Hf H->∀ (L:List α) (us:List Value),Paired (λx u=>jS X.K Hf (enc x) u) L us->2<=us.length->∀ Q:SortKind->Shared->Prop,Q κ s->wpAny (model X.prog X.w) A (keyKind' us.toArray) Q E s
 cmp:∀ (aa:List (Addr×Obj)) (σ:L2.St) (H Hf:Hp) (s:Shared) (A:Around) (E:Value->Shared->Prop),Inv X aa σ H s->aG Hf H->A.units+10<cLine->∀ (x y:α) (u v:Value),jS X.K Hf (enc x) u->jS X.K Hf (enc y) v->∀ Q:Bool->Shared->Prop,Q (lt x y) s->wpAny (model X.prog X.w) A (keyLt' κ u v) Q E s
def fR (lt:α->α->Bool) (b:Bool) (L:List α):Prop:=L.Pairwise λx y=>if b then lt y x=true else lt x y=true
abbrev i8 (b:Bool) (L:List aM):Prop:=fR c9 b L
theorem AB {Q:Value->Shared->Prop} (hs:Ld X enc lt κ) (I:Inv X aa σ H s) (sb:aG Hf H) (hA:A.units+20<cLine) (hr:ak X.K Hf (L.map enc) xs) (hv:Vals xs us) (hz:us.length<=sizeLine) (nd:L.Nodup)
 (hQ:∀ (L':List α) (xs':List V) (s':Shared),L'.Perm L->fR lt b L'->ak X.K Hf (L'.map enc) xs'->xs'.length<=sizeLine->Inv X aa σ (upd H s.heap.objs.size (.lst xs')) s'->Q (.ref s.heap.objs.size) s') :
 wpAny (model X.prog X.w) A (newList us >>= λl=>(holding [l] (call (.builtin "list.sort") [l] [(NQ "reverse",.bool b)]) >>= λ_=>ret l)) (λfin s'=>∃ v,fin=.done (.ret v)/\Q v s') E s:=by
 refine NP (Ry ?_ hz)
 have ha:(s.heap.push (seqObj "list" us.toArray 0)).get? s.heap.objs.size=some (seqObj "list" us.toArray 0):=Ob _ rfl
 have I1:Inv X aa σ H { s with heap:=s.heap.push (seqObj "list" us.toArray 0),toks:=s.toks }:=I.kept λb o e=>NY _ e
 have Ha:H s.heap.objs.size=none:=I.hok.fresh (NT _)
 obtain ⟨f0,f1,f2,f3,f4,f5⟩:=I.lV (H':=H) (NT _) Ha
 have pL:=lg hr hv
 refine NP (O6 (TQ slot_list_sort ⟨_,ha,rfl⟩ entry_list_sort (SR.ny (κ:=κ) (rk:=SR.xx (λx u=>jS X.K Hf (enc x) u) lt L) (b:=b) ha ?_ hz λout hp ho=>⟨_,rfl,?_⟩) (args_list_sort_rev _ _)))
 ·intro h' k
  have I2:=I1.turned (h':=h') (t':=s.toks) (it:=s.heap.objs.size) (λb o hb e=>k b o hb e) f0 f1 f3 f4 f5
  refine ⟨λQ E h2 hQ=>hs.kind _ _ _ _ _ _ _ I2 sb _ _ pL h2 _ hQ,SR.Aw (λx y u h1 h2=>hs.inj _ _ _ _ _ I2 sb x y u h1 h2) (hs.lin L) pL λx _ y _ u v hx hy E Q hQ=>hs.cmp _ _ _ _ _ _ _ I2 sb ?_ _ _ _ _ hx hy _ hQ⟩
  show A.units+1+10<cLine
  lia
 ·obtain ⟨L',p1,p2,p3⟩:=SR.qF (S:=λx u=>jS X.K Hf (enc x) u) (λx y u h1 h2=>hs.inj _ _ _ _ _ I sb x y u h1 h2) (hs.lin L) nd pL hp ho
  obtain ⟨xs',r',v'⟩:=lu p3
  obtain ⟨e,he⟩:=sortedHeap_at (vs:=us) (out:=out) ha
  have hl:out.toList.length=us.length:=hp.length_eq
  refine NS ⟨_,rfl,hQ L' xs' _ p1 p2 r' ?_ ?_⟩
  ·have:=v'.length; lia
  ·refine I.laid (t':=s.toks) (λb o q=>?_) (NT _) ⟨by have:=v'.length; lia,out.toList,e,v',by simpa using he⟩
   have lt:=N1 q
   rw [sortedHeap_old (Ou lt) (by rw [size_push']; exact Sk lt)]
   exact NY _ q
end
section
variable {K:NR}
end
section
variable {K:NR}
end
end EV
namespace EV
open PySem PySem.Spec PyProof.Rows L2
noncomputable def trim (l:List Int):List Int:=(l.reverse.dropWhile λx=>x == 0).reverse
theorem gQ (l):trim (l++[0])=trim l:=by simp [trim]
theorem nD (l) (h:x≠0):trim (l++[x])=l++[x]:=by simp [trim,List.dropWhile_cons,h]
theorem jx {l:List Int} (h:m<l.length):l.take (m+1)=l.take m++[l.getD m 0]:=by
 rw [OU h]; simp [OY,h]
theorem nE (h:m<l.length) (z:l.getD m 0=0) (e:trim (l.take (m+1))=trim l):trim (l.take m)=trim l:=by
 rw [jx h,z,gQ] at e; exact e
theorem jy (h:m<l.length) (z:l.getD m 0≠0) (e:trim (l.take (m+1))=trim l):l.take (m+1)=trim l:=by
 rw [<- e,jx h,nD _ z]
theorem gr (l):(trim l).length<=l.length:=by
 unfold trim
 rw [TV]
 exact N3 (List.dropWhile_sublist _).length_le (by simp)
theorem cD (l):trim (trim l)=trim l:=by
 unfold trim
 rw [List.reverse_reverse]
 congr 1
 generalize l.reverse=r
 induction r with
 | nil=>rfl
 | cons x r ih=>by_cases h:x == 0 <;> simp [List.dropWhile_cons,h,ih]
theorem AD (l:List α) (h:m<=l.length):EV.cutD l none (some (m:Int))=l.take m:=by
 unfold EV.cutD HT.cz
 have e:¬ (m:Int)<0:=by lia
 simp only [e,if_false,OH]
 simp [Qz h]
section
variable {K:NR}
end
noncomputable def encA (A:List aM):List (List Key×D):=A.map λt=>(t.1.map Oe,.int t.2)
theorem oG:∀ {l m:List Int},(l.map (Oe:Int->Key))=m.map Oe->l=m
 | [],[],_=>rfl
 | x::l,y::m,h=>by
  simp only [NW,List.cons.injEq,Oe.injEq] at h
  rw [h.1,oG h.2]
 | [],_::_,h=>by simp at h
 | _::_,[],h=>by simp at h
theorem oH (A) (l):bC (encA A) (l.map Oe)=(bC A l).map D.int:=by
 induction A with
 | nil=>rfl
 | cons t A ih =>
  by_cases e:t.1=l
  ·rw [bu e]
   show bC ((t.1.map Oe,D.int t.2)::encA A) _=_
   rw [bu (by rw [e])]; rfl
  ·rw [aV e,<- ih]
   show bC ((t.1.map Oe,D.int t.2)::encA A) _=_
   rw [aV λz=>e (oG z)]
theorem DV (A) (l) (n):putD (encA A) (l.map Oe) (.int n)=encA (putD A l n):=by
 unfold putD
 rw [oH]
 by_cases h:(bC A l).isSome=true
 ·rw [if_pos h,if_pos (by rw [Qu]; exact h)]
  unfold encA
  rw [Oj,Oj]
  refine PY λt _=>?_
  simp only [SS]
  by_cases e:t.1=l
  ·rw [if_pos e,if_pos (by rw [e])]
  ·rw [if_neg e,if_neg λz=>e (oG z)]
 ·rw [if_neg h,if_neg (by rw [Qu]; exact h)]
  unfold encA
  simp
theorem fG:∀ l:List Int,D.keys (l.map D.int)=some (l.map Oe)
 | []=>rfl
 | x::l=>by
  simp only [NW]
  unfold D.keys
  rw [fG l]; rfl
theorem DW (A:List aM) (l:List Int) (n:Int):(putD A l n).length<=A.length+1:=by
 unfold putD; split <;> simp
theorem DX (A):(encA A).length=A.length:=by simp [encA]
theorem qG (l:List Int) (n:Int) (h:(A.map (·.1)).Nodup):((putD A l n).map (·.1)).Nodup:=by
 unfold putD
 split
 ·rw [Oj]
  have e:(A.map ((·.1)∘λkv:aM=>if kv.1=l then (kv.1,n) else kv))=A.map (·.1):=PY λt _=>by
   simp only [SS]; split <;> rfl
  rw [e]; exact h
 ·rename_i q
  rw [Ot,Rn]
  refine ⟨h,by simp,?_⟩
  intro a ha b hb
  simp at hb
  subst hb
  intro z
  subst z
  apply q
  obtain ⟨t,ht,e⟩:=Oi.mp ha
  unfold bC
  rw [Qu,List.find?_isSome]
  exact ⟨t,ht,decide_eq_true e⟩
theorem keys_nodup {A:List aM} (h:(A.map (·.1)).Nodup):A.Nodup:=by
 unfold RJ at *
 rw [PZ] at h
 exact h.imp λq z=>q (by rw [z])
noncomputable def fS (A:List aM) (t:aM):List aM:=putD A (trim t.1) ((bC A (trim t.1)).getD 0+t.2)
noncomputable def aN (ts:List aM):List aM:=ts.foldl fS []
theorem qH (ts) (t):aN (ts++[t])=fS (aN ts) t:=by simp [aN]
theorem oJ (ts:List aM) (A):(ts.foldl fS A).length<=A.length+ts.length:=by
 induction ts generalizing A with
 | nil=>simp
 | cons t ts ih =>
  have h1:=ih (fS A t)
  have h2:=DW A (trim t.1) ((bC A (trim t.1)).getD 0+t.2)
  simp only [Pj,Oz]
  unfold fS at *
  lia
theorem gR (ts):(aN ts).length<=ts.length:=by
 have:=oJ ts []
 simpa [aN] using this
theorem eY (ts):((aN ts).map (·.1)).Nodup:=by
 unfold aN
 have:∀ A:List aM,(A.map (·.1)).Nodup->((ts.foldl fS A).map (·.1)).Nodup:=by
  induction ts with
  | nil=>exact λA h=>h
  | cons t ts ih=>exact λA h=>ih _ (qG _ _ h)
 exact this [] (by simp)
theorem DY (x):c9 x x=false:=(oF [x]).irr x (by simp)
theorem AE (h:c9 x y=true) (g:c9 y z=true):c9 x z=true:=(oF [x,y,z]).tr x (by simp) y (by simp) z (by simp) h g
theorem ly:∀ {L M:List aM},L.Perm M->i8 true L->i8 true M->L=M
 | [],M,h,_,_=>by rw [List.nil_perm] at h; exact h.symm
 | x::L,[],h,_,_=>by simp at h
 | x::L,y::M,h,h1,h2=>by
  unfold i8 fR at h1 h2
  rw [QY] at h1 h2
  by_cases e:x=y
  ·subst e
   rw [ly ((List.perm_cons _).mp h) h1.2 h2.2]
  ·exfalso
   have hx:x∈M:=by
    have:=h.subset (N2)
    rcases N9.mp this with z | z
    ·exact absurd z e
    ·exact z
   have hy:y∈L:=by
    have:=h.symm.subset (N2)
    rcases N9.mp this with z | z
    ·exact absurd z.symm e
    ·exact z
   have a:=h1.1 y hy
   have b:=h2.1 x hx
   simp only [if_true] at a b
   have:=AE a b
   rw [DY] at this; cases this
noncomputable def xA (t:aM):List aM->List aM
 | []=>[t]
 | x::r=>if c9 x t=true then t::x::r else x::xA t r
noncomputable def fH (L:List aM):List aM:=L.foldr xA []
theorem lz (t):∀ L:List aM,(xA t L).Perm (t::L)
 | []=>.refl _
 | x::r=>by
  unfold xA
  split
  ·exact .refl _
  ·exact ((lz t r).cons x).trans (.swap _ _ _)
theorem bF:∀ L:List aM,(fH L).Perm L
 | []=>.refl _
 | t::L=>(lz t (fH L)).trans ((bF L).cons t)
theorem DZ (h:x≠y):c9 x y=true\/c9 y x=true:=(oF [x,y]).tot x (by simp) y (by simp) h
theorem vB (t):∀ L:List aM,t∉L->i8 true L->i8 true (xA t L)
 | [],_,_=>QU _ _
 | x::r,hn,h=>by
  have h':=h
  unfold i8 fR at h'
  rw [QY] at h'
  unfold xA
  by_cases e:c9 x t=true
  ·rw [if_pos e]
   unfold i8 fR
   rw [QY]
   refine ⟨λy hy=>?_,h⟩
   simp only [if_true]
   rcases N9.mp hy with rfl | z
   ·exact e
   ·have:=h'.1 y z
    simp only [if_true] at this
    exact AE this e
  ·rw [if_neg e]
   unfold i8 fR
   rw [QY]
   refine ⟨λy hy=>?_,vB t r (λz=>hn (N6 _ z)) h'.2⟩
   rcases N9.mp ((lz t r).subset hy) with rfl | z
   ·simp only [if_true]
    rcases DZ (x:=x) (y:=y) (λz=>hn (by rw [z]; exact N2)) with q | q
    ·exact absurd q e
    ·exact q
   ·exact h'.1 y z
theorem gS:∀ {L:List aM},L.Nodup->i8 true (fH L)
 | [],_=>Rp
 | t::L,h=>by
  rw [O8] at h
  exact vB t _ (λz=>h.1 ((bF L).subset z)) (gS h.2)
theorem AF (hn:L.Nodup) (hp:L'.Perm L) (hs:i8 true L'):L'=fH L:=ly (hp.trans (bF L).symm) hs (gS hn)
noncomputable def nz (L:List aM):List aM:=L.filter λt=>t.2 != 0
theorem AG (hn:L.Nodup):nz (fH L)=fH (nz L) :=
 AF (Th.filter _ hn) ((bF L).filter _) ((gS hn).filter _)
theorem encK (A):(Sl.oT (encA A)).qk=some (.fdT (A.map λt=>t.1.map Oe) (A.map λt=>.int t.2)):=by
 show some _=some _
 unfold encA
 rw [Oj,Oj]; rfl
theorem AH (h:r.wX=some (encA A)) (l):FF r (.tup (l.map .int)) ((bC A l).map D.int):=by
 rw [<- oH]; exact .t h (fG l)
theorem AI (hz:A.length<sizeLine):Dv (.oT (encA A)) (.tup (l.map .int)) (.int n) (.oT (encA (putD A l n))):=by
 rw [<- DV]
 exact .t (r:=.oT (encA A)) rfl (fG l) (by rw [DX]; exact hz)
theorem qI (o:Option Int):(o.map D.int).getD (.int 0)=.int (o.getD 0):=by cases o <;> rfl
end EV
namespace EV
open PySem PySem.Spec PySem.Calls PyProof.Rows L2
theorem oM {L:List Addr} (I:Inv X aa σ H s) (k:∀ b o,b∉L->s.heap.get? b=some o->h'.get? b=some o) (hf:∀ b∈L,eO X aa H b):Inv X aa σ H { s with heap:=h',toks:=t' }:=by
 have nit:∀ b u,H b=some u->b∉L:=λb u e z=>by rw [(hf b z).1] at e; cases e
 refine I.step (g':=s.gens) (d':=s.drawn) (ch:=L) (λb hb=>?_) (λb o _ _ hc e _=>k b o hc e) (λb o _ _ hc e _=>⟨o.slots,k b o hc e⟩) (λ_ _ _ _ n=>n)
  (λb o hc e=>⟨o,k b o hc e⟩) (λ_ _ e=>e) (λ_ _ _ e=>e) (λb ps e=>⟨#[],by rw [e]; simp⟩) (λm hm=>?_) (λb u e=>?_) I.bare
 ·obtain ⟨_,f1,_,f3,f4,f5⟩:=hf b hb
  exact ⟨f3,f1,f4,f5⟩
 ·obtain ⟨o,es,ep,ho,r⟩:=hm
  exact ⟨o,es,ep,k _ o (λz=>(hf _ z).2.1 rfl) ho,r⟩
 ·refine (I.hok b u e).stay (λc v hc q=>k c v ?_ q) (λ_ q=>q) λ_ _ q=>q
  rcases hc with z | z
  ·rw [z]; exact nit b u e
  ·exact nit c _ z
section
variable {K:NR}
end
end EV
namespace EV
open PySem PySem.Spec PyProof.Rows L2
theorem oN {A:List aM} {l:List Int} {n:Int} {t:aM} (h:t∈putD A l n):t.1=l\/t∈A:=by
 unfold putD at h
 split at h
 ·obtain ⟨u,hu,e⟩:=Oi.mp h
  split at e
  ·rename_i q; subst e; exact .inl q
  ·subst e; exact .inr hu
 ·rcases Om.mp h with q | q
  ·exact .inr q
  ·simp at q; subst q; exact .inl rfl
theorem oO (hl:∀ t∈ts,t.1.length<=n):∀ t∈aN ts,trim t.1=t.1/\t.1.length<=n:=by
 unfold aN
 suffices H:∀ A:List aM,(∀ t∈A,trim t.1=t.1/\t.1.length<=n)->∀ t∈ts.foldl fS A,trim t.1=t.1/\t.1.length<=n from H [] (by simp)
 induction ts with
 | nil=>exact λA h=>h
 | cons u ts ih =>
  refine λA h=>ih (λt ht=>hl t (N6 _ ht)) _ λt ht=>?_
  rcases oN ht with e | e
  ·rw [e,cD]
   exact ⟨rfl,N3 (gr _) (hl u N2)⟩
  ·exact h t e
noncomputable def bM (ts:List aM):List aM:=fH (nz (aN ts))
theorem vC (h:(A.map (·.1)).Nodup):((nz A).map (·.1)).Nodup:=RJ.sublist (List.filter_sublist.map _) h
theorem nF (ts):(bM ts).Perm (nz (aN ts)):=bF _
theorem qJ (h:t∈bM ts):t∈aN ts/\t.2≠0:=by
 have:=(nF ts).subset h
 unfold nz at this
 rw [Rt] at this
 exact ⟨this.1,by simpa using this.2⟩
theorem lB (ts):(bM ts).length<=ts.length:=by
 rw [(nF ts).length_eq]
 exact N3 (List.length_filter_le _ _) (gR ts)
end EV
namespace EV
open PySem PySem.Spec PySem.Calls PyProof.Rows L2
theorem D0 {K:NR} {f:Int->Int->Int}:zq K (λxs H Q=>∃ i j,xs=[.int i,.int j]/\Q (.int (f i j)) H) (λds R=>∃ i j:Int,ds=[.int i,.int j]/\R (.int (f i j))):=by
 rintro ds vs H Hf Q R s rs ⟨i,j,rfl,hR⟩ q
 obtain ⟨v,r,rfl,r1,r2⟩:=aC.mp rs
 obtain ⟨v',r',rfl,r1',r2'⟩:=aC.mp r2
 rw [aA] at r2'
 subst r2'
 rw [av] at r1 r1'
 subst r1 r1'
 exact ⟨i,j,rfl,q _ _ H Hf hR (av.mpr rfl) (.refl s)⟩
section
variable {K:NR} {c:Ctx P w K mg base k N sc bk}
theorem boot_max:bootBuiltins "max"=some (.builtin "max"):=by decide +kernel
theorem AJ (hm:mg "max"=none) (h:aF c a ρ λx=>aF c b ρ λy=>I2 (λi j=>R (.int (if j>i then j else i))) x y) (hg:sc.names.lookup (NQ "max")=some .globalImplicit:=by walk_at "u")
 (he:∀ env,starEach [a,b] env=(false,eval a env)::starEach [b] env:=by intro _; walk_at "u") (he2:∀ env,starEach [b] env=(false,eval b env)::starEach [] env:=by intro _; walk_at "u")
 (hpl:∀ env,(backTo pos (starEach [b] env)).any (·.1)=false:=by intro _; walk_at "u"):aF c (.Call (.Name "max" p) [a,b] [] pos) ρ R :=
 uI (wH c.calm) (D0 (f:=λi j=>if j>i then j else i)) hm boot_max (eU (h.imp λx h1=>eU (h1.imp λy ⟨i,j,e1,e2,hR⟩=>kH ⟨i,j,by rw [e1,e2],hR⟩) he2) he) hg (by decide) (by decide) he hpl
theorem FO (h:aF c a ρ λx=>aF c b ρ λy=>I2 (λi j=>Sd (rV i j) (R (.int (i * 2 ^ j.toNat)))) x y):aF c (.BinOp a .LShift b pos) ρ R :=
 iN (nZ GL mX (h.imp λx hx=>hx.imp λy ⟨i,j,e1,e2,⟨hc,r⟩⟩=>⟨i,j,e1,e2,hc,_,rfl,r⟩))
theorem FP (h:aF c a ρ λx=>aF c b ρ λy=>I2 (λi j=>Sd (0<=j) (R (.int (i / 2 ^ j.toNat)))) x y):aF c (.BinOp a .RShift b pos) ρ R :=
 iN (nZ GN mX (h.imp λx hx=>hx.imp λy ⟨i,j,e1,e2,⟨hc,r⟩⟩=>⟨i,j,e1,e2,hc,_,rfl,r⟩))
theorem AK (h:aF c a ρ λx=>aF c b ρ λy=>I2 (λi j=>R (.int (Builtin.bitAnd i j))) x y):aF c (.BinOp a .BitAnd b pos) ρ R :=
 iN (nZ GO zd (h.imp λx hx=>hx.imp λy ⟨i,j,e1,e2,r⟩=>⟨i,j,e1,e2,_,rfl,r⟩))
end
noncomputable abbrev L7:=List (Key×D)->List D->(List (Key×D)->Prop)->Prop
noncomputable def Ia (K:NR) (F:L7):Sp:=λvs H Q _=>∃ Hf p kvs xs us ds B,vs=.ref p::us/\aG Hf H/\H p=some (.dK xs)/\Hf p=none/\lO K Hf kvs xs/\ak K Hf ds us/\F kvs ds B /\
 ∀ kvs' H' ah xs',B kvs'->br (del H p) Hf H' ah->H' p=some (.dK xs')->ah p=none->lO K ah kvs' xs'->Q .non H'
structure D9 (P:Program) (w:World) (K:NR) (mg:Str->Option Value) (base:Heap) (k:Nat) (x:Str) (F:L7):Prop where
 ex:∃ f fd ps,mg x=some (.ref f)/\PD K (.ref f)=true/\Binds K fd ps []/\bz P w K mg base (dU P w) k f fd ps (Ia K F)
noncomputable def startM (q:Addr) (kvs:List (Key×D)) (N:List Str) (ds:List D):List Sl:=.aK q kvs::(ds.map .va++N7 (N.length - (ds.length+1)) .un)
theorem xB {K:NR} (r:ak K Hf ds us) (sb:aG Hf H) (h1:H q=some (.dK xs)) (h2:Hf q=none) (h3:lO K Hf kvs xs) :
 cQ K (del H q) Hf (L2.start N (.ref q::us)) H Hf (startM q kvs N ds):=by
 have hl:=r.length
 have rest:∀ (i:Nat) (r':Sl),(startM q kvs N ds)[i+1]?=some r'->r'≠.un->∃ d,ds[i]?=some d/\r'=.va d:=λi r' h hu=>by
  have h':(ds.map Sl.va++N7 (N.length - (ds.length+1)) Sl.un)[i]?=some r':=by simpa [startM] using h
  by_cases w:i<ds.length
  ·rw [P6 (by simpa using w),NZ,Od w] at h'
   cases h'
   exact ⟨_,by simp,rfl⟩
  ·rw [QN (by simp; lia)] at h'
   exact absurd (RY (O3 h')) hu
 refine ⟨⟨λb o e=>(iS e).2,.refl _,sb,λ_ h _ _=>h⟩,by simp [L2.start,startM,hl],λi r' h hu=>?_,λi j r1 r2 p hne e1 e2 o1 o2=>?_⟩
 ·cases i with
  | zero =>
   have:r'=.aK q kvs:=by simpa [startM] using h.symm
   subst this
   exact ⟨.ref q,by simp [L2.start],q,xs,rfl,⟨iR,rfl⟩,h1,h2,h3⟩
  | succ i =>
   obtain ⟨d,hd,rfl⟩:=rest i r' h hu
   obtain ⟨x,e2,rx⟩:=r.get hd
   refine ⟨x,?_,rx⟩
   have hi:i<us.length:=(N4.mp e2).1
   unfold L2.start
   rw [P6 (by simp; lia)]
   simp [e2]
 ·exfalso
  have own:∀ {i:Nat} {r:Sl},(startM q kvs N ds)[i]?=some r->r.owned=true->i=0:=λ{i r} h ho=>by
   cases i with
   | zero=>rfl
   | succ i =>
    obtain ⟨d,_,rfl⟩:=rest i r h (by rintro rfl; cases ho)
    cases ho
  exact hne ((own e1 o1).trans (own e2 o2).symm)
section
variable {K:NR} {c:Ctx P w K mg base k N sc bk}
theorem Le {st:Stmt} (Fu:fC K x qual st f fd) (SV:FS N ps st) (ar:∀ kvs ds B,F kvs ds B->ds.length+1=ps.length)
 (body:∀ (c:Ctx P w K mg base k N (aL st) false),c.X.xe=(λ_ _=>False)->∀ q kvs ds B,F kvs ds B->aQ c (ay st) (startM q kvs N ds) (λρ=>∃ kvs' r,B kvs'/\ρ=.aK q kvs'::r) { rt:=λ_=>False }) :
 bz P w K mg base (dU P w) (k+1) f fd ps (Ia K F):=by
 obtain ⟨Sc,Vi⟩:=zp SV
 obtain ⟨oc,od,kV,doc,pm,an,cdv,ct,osl,rfl,lk,hcd⟩:=Fu.ex
 refine yL lk hcd Sc (λvs H Q E hh=>z4 hh λHf q kvs xs hh=>z3 hh λus ds B hh=>w8 hh λe _ _ _ _ rs hF _=>by rw [e,Oz,<- rs.length]; exact ar _ _ _ hF) λA outer s H vs Q E hr hh=>z4 hh λHf q kvs xs hh=>z3 hh λus ds B hh=>w8 hh λe sb h1 h2 h3 rs hF hq=>?_
 subst e
 let X:Cx:=(pK (dU P w) P w K mg base N qual (aL st) f cdv A outer s H E).Fi
 let c:Ctx P w K mg base k N (aL st) false :=
  { X:=X,eP:=rfl,ew:=rfl,eK:=rfl,emg:=rfl,eb:=rfl,eN:=rfl,esc:=rfl,calm:=rfl,top:=λ_=>⟨rfl,rfl,rfl⟩,cb:=λ_ _ _ _ _ I x c h=>I.ok.cab x c rfl h,fn:=λ_ _=>.inl rfl,B:=del H q,room:=hr,nd:=Sc.nd,vis:=Vi,Hf:=Hf,RX:=λ_ _=>False,
    exc:=λ_ _ _ _ _ _ _ _ _ _ _ _ h _ _=>h.elim,RM:=λ_ _=>False,mde:=λ_ _ _ _ _ _ _ _ _ _ _ _ h _=>h.elim }
 refine ⟨_,rM.Fi (t:=G7 X (ay st)) (pY (X:=X)),?_⟩
 refine body c rfl q kvs ds B hF (L2.start N (.ref q::us)) H Hf _ (xB rs sb h1 h2 h3) ⟨λσ H' ah ρ S ⟨kvs',r,hB,e⟩=>?_,λr v H' ah g rv e=>e.elim,λ_ _ _ _ _ h=>h.elim,λ_ _ _ _ _ h=>h.elim⟩
 subst e
 obtain ⟨v,_,q',xs',_,⟨_,rfl⟩,a1,a2,a3⟩:=S.at_ 0 _ rfl (by simp)
 exact hq kvs' H' ah xs' hB S.bas a1 a2 a3
theorem vD (h:D9 P w K mg base j x F) (hj:j<=k) (hN:At N i y) (hi:At ρ i r) (hr:r.su=some kvs)
 (ha:nY c es ρ λds=>∃ B,F kvs ds B/\∀ kvs',B kvs'->Nx ρ i nx (r.qb kvs'))
 (hg:sc.names.lookup x=some .globalImplicit:=by walk_at "u") (hdb:(x == ("__debug__":Str))=false:=by decide) (hd:(y == ("__debug__":Str))=false:=by decide) (hcd:(y == ("__classdict__":Str))=false:=by decide)
 (he:∀ env,starEach (.Name y py::es) env=(false,eval (.Name y py) env)::starEach es env:=by intro _; walk_at "u")
 (hpl:∀ env,(backTo cp (starEach es env)).any (·.1)=false:=by intro _; walk_at "u")
 (hs:∀ env,swapsWith (.Call (.Name x px) (.Name y py::es) [] cp) none pos.line env=pure false:=by intro _; walk_at "u"):eG c (.Expr (.Call (.Name x px) (.Name y py::es) [] cp) pos) ρ nx p:=λσ H Hf D S o=>by
 obtain ⟨q,eq,rq⟩:=S.own hi.get (kL hr)
 obtain ⟨xs,h1,h2,h3⟩:=wY hr rq
 refine dO (jW dz (hs _)) (show bE c.X _ σ H (λ_ H'=>D.nx σ H') from λaa s I=>?_)
 obtain ⟨f,fd,ps,hm,hk,hb,hF⟩:=h.ex
 refine Pz (iI I (by unfold Gl Ox; rw [c.esc]; exact hg) (by rw [c.emg]; exact hm) ?_ hdb)
 have hA:bA c.X (.Name y py::es) σ H (λvs H1=>∃ us aP ds B,vs=.ref q::us/\F kvs ds B/\(∀ kvs',B kvs'->Nx ρ i nx (r.qb kvs'))/\ak c.X.K aP ds us/\br H Hf H1 aP) :=
  mW (bR (c.jo hN hd hcd) Dd (he _)) ⟨_,eq,ha σ H Hf _ S λds vs H1 aP ⟨B,hF,hn⟩ rs g=>⟨vs,aP,ds,B,rfl,hF,hn,rs,g⟩⟩
 refine Sb (h₀:=c.X.base) I.ok.mod.kin (by rw [c.eK]; exact hk) (bD (hA cp aa s I) λus s1 hh=>z2 hh λvs H1 hh=>w3 hh λI1 rv hh=>z4 hh λus' aP ds B hh=>w5 hh λev hF' hn rs g=>⟨I1.nN,?_⟩) (he _) (hpl _)
 subst ev
 have S1:=S.cF g
 have rq1:=rq.cF g
 obtain ⟨xs1,a1,a2,a3⟩:=wY hr rq1
 have hF2:bz c.X.prog c.X.w c.X.K c.X.mg c.X.base (dU c.X.prog c.X.w) k f fd ps (Ia c.X.K F):=by rw [c.eP,c.ew,c.eK,c.emg,c.eb]; exact hF.mono hj
 have pF:Ia c.X.K F (.ref q::us') H1 (λ_ H'=>D.nx σ H') (λ_ _ _=>False):=by
  refine ⟨aP,q,kvs,xs1,us',ds,B,rfl,g.b,a1,a2,a3,rs,hF',λkvs' H' ah xs' hB g2 b1 b2 b3=>?_⟩
  obtain ⟨ρ',hs',hn⟩:=hn kvs' hB
  refine o.nx σ H' ah ρ' ?_ hn
  rw [hs'.eq]
  exact S1.upd hi.get (kL hr) eq g2 (qe hr rq1 b1 b2 b3) (kM hr)
 have hl:us.length=ps.length:=by rw [<- rv.length]; exact hF2.len _ _ _ _ pF
 have hb':Binds c.X.K fd ps []:=by rw [c.eK]; exact hb
 have hb2:=hb' s1 us I1.nN (by simpa using hl)
 rw [OP] at hb2
 refine Q8 (Q5 (hF2.run c.X.A c.X.stack s1 H1 ⟨us,[]⟩ us _ _ _ c.room I1.CN hb2 rv pF) λr' s' hq=>?_)
 cases r' with
 | error e =>
  obtain ⟨a,C,H',rfl,hE,h⟩:=hq
  exact h.elim
 | ok fl =>
  cases fl with
  | ret u=>exact I1.after hq
  | next=>exact OT hq
  | brk=>exact OT hq
  | cont=>exact OT hq
end
theorem ak.many {K:NR} (h:ak K H ds xs):∀ k:Nat,ak K H (N7 k ds).flatten (N7 k xs).flatten
 | 0=>aA.mpr rfl
 | k+1=>by
  rw [PK,PK,Qv,Qv]
  exact h.append (ak.many h k)
theorem ak.set {K:NR}:∀ {ds:List D} {xs:List V} (i:Nat) {d:D} {v:V},ak K H ds xs->Rep K H d v->ak K H (ds.set i d) (xs.set i v)
 | [],_,i,_,_,h,_=>by rw [aA] at h; subst h; exact aA.mpr rfl
 | e::ds,_,i,d,v,h,q=>by
  obtain ⟨x,r,rfl,h1,h2⟩:=aC.mp h
  cases i with
  | zero=>exact .cons q h2
  | succ i=>exact .cons h1 (ak.set i h2 q)
theorem AL {n k:Nat} {i:Int} (hi:i=k) (e:s.heap.get? l=some { cls:=.type "list",data:=.seq items n }) (hk:k<items.size) (hf:items.size<2 ^ 63)
 (hQ:Q () { s with heap:=s.heap.update l (OC λxs=>xs.setIfInBounds k v) }):wpAny (model prog w) A (setItem (.ref l) (.int i t) v) Q E s:=by
 have ht:s.TypeIs (.ref l) "list":=⟨_,e,rfl⟩
 have hx:items[k]?=some items[k]:=Oq hk
 unfold setItem
 refine O6 (NP (T5 ht (by decide) ?_))
 refine NP (P7 (name:=NQ "__setitem__") ht PySem.slot_list_setitem (Pq PySem.slot_list_setitem ht PySem.entry_list_setitem ?_ (PySem.args_list_setitem _ _ _)))
 show wpAny _ _ (Builtin.List.listSubscript? (.int i t) >>= _) _ _ s
 refine NP (wpAny_listSubscript_int (fitsIndex_of (show 0<=i by lia) (show i<2 ^ 63 by lia)) ?_)
 clear hf
 subst hi
 show wpAny _ _ ((seqItemAt l k >>= λr=>pure (r.map λx=>(k,x))) >>= _) _ _ s
 refine NP (NP (wpAny_seqItemAt e rfl (NS ?_)))
 rw [hx]
 show wpAny _ _ (setSeqItemAt l k v >>= _) _ _ s
 refine NP (wpAny_setSeqItemAt e rfl ?_)
 first
  | exact NP (NS (NS ⟨OX,rfl,NS hQ⟩))
  | exact NS ⟨OX,rfl,NS hQ⟩
noncomputable def Lf:Gy:=λo i v H Q=>∃ l xs k,o=.ref l/\i=.int (k:Nat)/\H l=some (.lst xs)/\k<xs.length/\Q (upd H l (.lst (xs.set k v)))
theorem AM:Kc X Lf:=by
 intro aa s σ H o i v ov iv u Q I r1 r2 r3 h
 obtain ⟨l,xs,k,rfl,rfl,hH,hk,q⟩:=h
 cases r1
 obtain ⟨t,rfl⟩:=r2
 obtain ⟨z,its,n,r,hl,e⟩:=I.pO hH
 have hbig:xs.length<2 ^ 63:=PM z (by decide)
 refine AL rfl e (by rw [Of,<- hl]; exact hk) (by rw [Of,<- hl]; exact hbig) ⟨_,I.r9 (its':=its.set k u) (t':=s.toks) hH e ?_ (Vals.set r3 k r) (by rw [List.length_set]; exact z),q⟩
 show its.toArray.setIfInBounds k u=(its.set k u).toArray
 simp
theorem Ea:MI X "int.bit_length" (λx vs H Q=>∃ i,x=.int i/\vs=[]/\Q (.int (Pa i:Nat)) H):=by
 intro aa s σ H x xs v us Q I r1 r2 h
 obtain ⟨i,rfl,rfl,q⟩:=h
 obtain ⟨t,rfl⟩:=r1
 cases r2
 exact PyProof.Rows.call_int_bit_length ⟨.int (Pa i:Nat),H,I.tok _,⟨_,rfl⟩,q⟩
section
variable {K:NR} {c:Ctx P w K mg base k N sc bk}
theorem Ib (h:aF c e ρ (I1 λi=>R (.int (Pa i:Nat)))) (hbase:∀ env,attributeBase e "bit_length" env (eval e env)=eval e env:=by intro _; walk_at "u") (hline:(ap.endLine == cp.line)=true:=by walk_at "u") :
 aF c (.Call (.Attribute e "bit_length" ap) [] [] cp) ρ R:=λσ H Hf Q S q =>
 bK (GW PySem.F.plainAttrs_int PySem.F.slot_int_bit_length PySem.F.type_int_bit_length Ea dz (hbase _) hline) (h σ H Hf _ S λd v H' ah ⟨i,e,hR⟩ r g=>by
  subst e
  rw [av] at r; subst r
  exact ⟨rfl,i,rfl,rfl,q _ _ H' ah hR (av.mpr rfl) g⟩)
theorem Lg {R:Sl->Prop} (h:cS c a ρ λr=>∃ ds,r=.ow ds/\aF c b ρ (I1 λn=>Sd ((0<=n/\n<2 ^ 63)/\ds.length * n.toNat<=sizeLine) (R (.ow (N7 n.toNat ds).flatten)))):cS c (.BinOp a .Mult b pos) ρ R:=λσ H Hf Q S q =>
 bK (yH GX dz dz) (h σ H Hf _ S λr v H1 aP ⟨ds,er,h1⟩ rr g1=>h1 σ H1 aP _ (S.cF g1) λdn u H2 cI ⟨n,en,⟨⟨n0,n1⟩,hz⟩,hR⟩ rn g2=>by
  subst er en
  rw [av] at rn; subst rn
  obtain ⟨l,xs,rfl,fl,k1,k2,k3⟩:=rr
  have k1':=g2.s _ _ k1
  refine ⟨l,n,xs,rfl,rfl,k1',by lia,n1,by rw [<- k3.length]; exact hz,λp hp=>?_⟩
  have g3:=br.gh (o:=.lst (N7 n.toNat xs).flatten) g2.b hp
  exact q _ _ _ _ hR ⟨p,_,rfl,(g1.trans g2).s.free hp,af,g2.b.free hp,(k3.mono g2.f).many _⟩ ((g1.trans g2).trans g3))
theorem AN (hN:At N i x) (hi:At ρ i r) (hr:r.getL=some ds) (h:aF c e ρ λdv=>aF c b ρ λdk=>∃ m:Nat,dk=.int m/\Sd (m<ds.length) (Nx ρ i nx (r.putL (ds.set m dv))))
 (hs:∀ env,swapsWithSole [.Subscript (.Name x px) b tp] e pos.line env=pure false:=by intro _; walk_at "u") (hw:∀ env,swappedStores [.Subscript (.Name x px) b tp] e env=pure none:=by intro _; walk_at "u")
 (h1:∀ env,(assignEach [.Subscript (.Name x px) b tp] env).map (·.2)=[assign (.Subscript (.Name x px) b tp) env]:=by intro _; walk_at "u")
 (ha:∀ env v,assign (.Subscript (.Name x px) b tp) env v=(do
   let ov <- holding [v] (eval (.Name x px) env)
   let iv <- holding [v,ov] (eval b env)
   standAt tp
   holding [v,ov,iv] (setItem ov iv v)
   release [v,ov,iv] []):=by intro _ _; walk_at "u")
 (hd:(x == ("__debug__":Str))=false:=by decide) (hcd:(x == ("__classdict__":Str))=false:=by decide):eG c (.Assign [.Subscript (.Name x px) b tp] e pos) ρ nx p:=λσ H Hf D S o=>by
 obtain ⟨q,eq,rq⟩:=S.own hi.get (dH hr)
 refine dO (yD dz (GA (c.jo hN hd hcd) dz AM (ha _)) (hs _) (hw _) (h1 _)) (h σ H Hf _ S λdv v H1 aP h2 rv g1=>⟨_,eq,h2 σ H1 aP _ (S.cF g1) λdk y H2 cI ⟨m,em,hm,ρ',hs',hn⟩ ry g2=>?_⟩)
 subst em
 rw [av] at ry; subst ry
 have g:=g1.trans g2
 obtain ⟨xs,k1,k2,k3⟩:=HA hr (rq.cF g)
 refine ⟨q,xs,m,rfl,rfl,k1,by rw [<- k3.length]; exact hm,o.nx _ _ cI ρ' ?_ hn⟩
 rw [hs'.eq]
 exact (S.cF g).upd hi.get (dH hr) eq (gK g.b k2) (kK hr (rq.cF g) af k2 (k3.set m (Rep.mono g2.f _ rv))) (ir hr)
end
theorem iB {K:NR}:∀ {ns:List Int} {xs:List V},ak K H (ns.map D.int) xs->xs=ns.map V.int
 | [],xs,h=>by rw [PF,aA] at h; subst h; rfl
 | b::bs,xs,h=>by
  rw [NW,aC] at h
  obtain ⟨x,r,rfl,h1,h2⟩:=h
  rw [av] at h1
  rw [h1,iB h2]; rfl
theorem gu {ns:List Int} {us:List Value} (h:Vals (ns.map V.int) us) (i:Nat) (v:Value) (e:us.toArray[i]?=some v):∃ t,v=.int (ns.getD i 0) t:=by
 have e':us[i]?=some v:=by simpa using e
 have hi:i<ns.length:=by
  have:=(N4.mp e').1
  have l:=h.length
  rw [NX] at l
  omega
 obtain ⟨u,hu,r⟩:=h.get (i:=i) (x:=.int (ns.getD i 0)) (by simp [OY,hi])
 rw [e'] at hu; cases hu
 exact r
theorem lC (I:Inv X aa σ H s) (hq:gI X.K H p xs) :
 ∃ its:List Value,Vals xs its/\s.heap.IsList p its.toArray/\p<s.heap.objs.size:=by
 obtain ⟨its,rv,pl,hz⟩:=I.list hq
 exact ⟨its,rv,pl.isList,by obtain ⟨o,e,_⟩:=pl.isList; exact N1 e⟩
theorem nG (I:Inv X aa σ H s) (hk:∀ b o,b∉[s.heap.objs.size]->(s.heap.push ob).get? b=some o->h'.get? b=some o):Inv X aa σ H { s with heap:=h',toks:=tk } :=
 I.kept (h':=h') (t':=tk) λb u e=>hk b u (by simpa using Ou (N1 e)) (NY _ e)
theorem xC (hc:X.calm=true):f7 X (.builtin "max") (λxs H Q=>∃ (p:Addr) (ns:List Int),xs=[.ref p]/\ns≠[]/\gI X.K H p (ns.map V.int)/\∀ m∈ns,(∀ n∈ns,n<=m)->Q (.int m) H):=by
 intro aa s σ H xs us Q I r h
 obtain ⟨p,ns,rfl,hne,hq,q⟩:=h
 obtain ⟨u,rfl,rx⟩:=vals1 r
 cases rx
 obtain ⟨its,rv,pl,hlt⟩:=lC I hq
 have hn:its.toArray.size=ns.length:=by have l:=rv.length; rw [NX] at l; simp [l]
 have hpos:0<ns.length:=List.length_pos_iff.mpr hne
 refine call_max_walk (T7 pl ?_)
 have hh:X.A.in1.handled=none:=I.ok.hd hc
 refine ⟨_,_,_,_,_,_,_,rfl,Walks.list hh s.heap.objs.size p (Ou hlt) its.toArray,⟨⟨_,Ob _ rfl,rfl,rfl⟩,pl.at λo e=>NY _ e⟩,?_,by rw [hn]; exact hpos,CmpOf.ints_gt (λi=>ns.getD i 0) (gu rv),?_⟩
 ·intro b hb
  show b<(s.heap.push _).objs.size
  rw [Qd]
  simp only [N9,Pg,or_false] at hb
  rcases hb with rfl | rfl
  ·exact Qw _
  ·exact Sk hlt
 ·intro v h' tk hP hk
  obtain ⟨t,rfl⟩:=gu rv _ _ hP
  obtain ⟨b1,b2⟩:=argBest_gt (λi=>ns.getD i 0) (its.toArray.size - 1)
  rw [hn] at b1 b2 |-
  have J:=nG (s:=s) (tk:=tk) I hk
  refine ⟨.int _,H,J,⟨_,rfl⟩,q _ ?_ λn hm=>?_⟩
  ·rw [OY,Od (by omega)]
   exact Ow _
  ·obtain ⟨j,hj,rfl⟩:=List.getElem_of_mem hm
   have:=b2 j (by omega)
   rw [show ns.getD j 0=ns[j] by simp [OY,hj]] at this
   exact this
theorem vE (ns:List Int):∀ j,j<=ns.length->preSum (λi=>ns.getD i 0) j=(ns.take j).sum
 | 0,_=>rfl
 | j+1,h=>by
  show preSum (λi=>ns.getD i 0) j+ns.getD j 0=_
  rw [vE ns j (by omega),OU (by omega),QA]
  simp [OY,show j<ns.length by omega]
theorem xD (hc:X.calm=true):f7 X (.builtin "sum") (λxs H Q=>∃ (p:Addr) (ns:List Int),xs=[.ref p]/\gI X.K H p (ns.map V.int)/\Q (.int ns.sum) H):=by
 intro aa s σ H xs us Q I r h
 obtain ⟨p,ns,rfl,hq,q⟩:=h
 obtain ⟨u,rfl,rx⟩:=vals1 r
 cases rx
 obtain ⟨its,rv,pl,hlt⟩:=lC I hq
 have hn:its.toArray.size=ns.length:=by have l:=rv.length; rw [NX] at l; simp [l]
 refine call_sum_walkG (T7 pl ?_)
 have hh:X.A.in1.handled=none:=I.ok.hd hc
 refine ⟨_,_,_,_,_,_,λi=>ns.getD i 0,rfl,Walks.list hh s.heap.objs.size p (Ou hlt) its.toArray,⟨⟨_,Ob _ rfl,rfl,rfl⟩,pl.at λo e=>NY _ e⟩,?_,gu rv,?_⟩
 ·intro b hb
  show b<(s.heap.push _).objs.size
  rw [Qd]
  simp only [N9,Pg,or_false] at hb
  rcases hb with rfl | rfl
  ·exact Qw _
  ·exact Sk hlt
 ·intro h' tk t' hk
  rw [hn,vE ns _ (NT _),OO]
  have J:=nG (s:=s) (tk:=tk) I hk
  exact ⟨.int ns.sum,H,J,⟨_,rfl⟩,q⟩
section
variable {K:NR} {c:Ctx P w K mg base k N sc bk}
theorem boot_sum:bootBuiltins "sum"=some (.builtin "sum"):=by decide +kernel
theorem xE {Z:List Int->Int->Prop} (hr:∀ (p:Addr) (ns:List Int) H Q,gI K H p (ns.map V.int)->(∀ m,Z ns m->Q (.int m) H)->ns≠[]->r [.ref p] H Q) :
 zq K r (λds R=>∃ ns:List Int,ns≠[]/\ds=[.lst (ns.map D.int)]/\∀ m,Z ns m->R (.int m)):=by
 rintro ds vs H Hf Q R s rs ⟨ns,hne,rfl,hR⟩ q
 obtain ⟨v,rfl,rv⟩:=p5 rs
 rw [bf] at rv
 obtain ⟨a,xs,rfl,h1,h2⟩:=rv
 rw [iB h2] at h1
 exact hr a ns H Q (s.seq h1) (λm hm=>q _ _ H Hf (hR m hm) (av.mpr rfl) (.refl s)) hne
theorem Ic (hm:mg "max"=none) (h:aF c e ρ λx=>∃ ns:List Int,ns≠[]/\x=.lst (ns.map D.int)/\∀ m,(m∈ns/\∀ n∈ns,n<=m)->R (.int m)) (hg:sc.names.lookup (NQ "max")=some .globalImplicit:=by walk_at "u")
 (he:∀ env,starEach [e] env=(false,eval e env)::starEach [] env:=by intro _; walk_at "u"):aF c (.Call (.Name "max" p) [e] [] pos) ρ R :=
 uI (xC c.calm) (xE (Z:=λns m=>m∈ns/\∀ n∈ns,n<=m) λp ns H Q h q hne=>⟨p,ns,rfl,hne,h,λm h1 h2=>q m ⟨h1,h2⟩⟩) hm boot_max
  (eU (h.imp λd ⟨ns,hne,e,hR⟩=>kH ⟨ns,hne,by rw [e],hR⟩) he) hg (by decide) (by decide) he (by intro _; walk_at "u")
theorem Ie (hm:mg "sum"=none) (h:aF c e ρ λx=>∃ ns:List Int,x=.lst (ns.map D.int)/\R (.int ns.sum)) (hg:sc.names.lookup (NQ "sum")=some .globalImplicit:=by walk_at "u")
 (he:∀ env,starEach [e] env=(false,eval e env)::starEach [] env:=by intro _; walk_at "u"):aF c (.Call (.Name "sum" p) [e] [] pos) ρ R :=
 uI (xD c.calm) (q:=λds R=>∃ ns:List Int,ds=[.lst (ns.map D.int)]/\R (.int ns.sum)) (by
  rintro ds vs H Hf Q R s rs ⟨ns,rfl,hR⟩ q
  obtain ⟨v,rfl,rv⟩:=p5 rs
  rw [bf] at rv
  obtain ⟨a,xs,rfl,h1,h2⟩:=rv
  rw [iB h2] at h1
  exact ⟨a,ns,rfl,s.seq h1,q _ _ H Hf hR (av.mpr rfl) (.refl s)⟩) hm boot_sum (eU (h.imp λd ⟨ns,e,hR⟩=>kH ⟨ns,by rw [e],hR⟩) he) hg (by decide) (by decide) he (by intro _; walk_at "u")
end
section
variable {prog:Program} {w:World} {A:Around} {E:Value->Shared->Prop} {s:Shared}
variable {jt tp:Addr} {i:Nat} {items:Array Value}
theorem nextT (hh:A.handled=none) (h1:s.heap.IsTupleIter jt tp i) (h2:s.heap.IsTuple tp items)
 (hv:∀ v,items[i]?=some v->∀ h',h'.IsTupleIter jt tp (i+1)->Pb jt s.heap h'->Q v { s with heap:=h' })
 (hn:items[i]?=none->∀ h' e,Qi jt s.heap h'->(∃ o,h'.get? e=some o/\o.cls=.type "StopIteration")->E (.ref e) { s with heap:=h' }) :
 wpAny (model prog w) A (QT (.ref jt)) Q E s:=by
 obtain ⟨ob,hob,hcb,hdb⟩:=id h1
 obtain ⟨ot,hot,_,m,hdt⟩:=id h2
 unfold QT
 refine NP (P7 (name:=NQ "__next__") h1.typeIs F.slot_tuple_iterator_next (Pq F.slot_tuple_iterator_next h1.typeIs F.entry_tuple_iterator_next ?_ (F.args_tuple_iterator_next_1 _)))
 show wpAny _ _ (field (.ref jt) 0 >>= _) _ _ s
 refine NP (PU hob hdb (x:=.ref tp) rfl ?_)
 show wpAny _ _ (if (Ol tp == OX)=true then _ else _) _ _ s
 rw [if_neg (show ¬ ((Ol tp == OX)=true) from N5)]
 show wpAny _ _ (field (.ref jt) 1 >>= _) _ _ s
 refine NP (PU hob hdb (x:=.int i 0) rfl ?_)
 show wpAny _ _ (seqItems? (.ref tp) >>= _) _ _ s
 refine NP (wpAny_seqItems hot hdt ?_)
 rw [OH]
 dsimp only
 cases hx:items[i]? with
 | some v =>
  have q:=hv v hx (s.heap.update jt (Obj.mapFields λvs=>vs.setIfInBounds 1 (rawInt ((i:Int)+1)))) ⟨_,Heap.get?_update_self _ hob (Obj.isFreed_of_fields (Se hdb _)),(Obj.cls_mapFields ..).trans hcb,by rw [Se hdb]; simp [rawInt]⟩ (Rl ..)
  dsimp only
  exact NP (Rx hob hdb (by simp) (NS ⟨v,rfl,NS q⟩))
 | none =>
  dsimp only
  refine NP (Pe (NP (Rx hob hdb (by simp) (show wpAny _ _ (newExc (.type "StopIteration") [] >>= _) _ _ _ from NP ?_))))
  simp only [newExc,newTuple]
  refine NP (O0 (NP (m:=firstArgMember _ _) (wpAny_of_eq (a:=OX) (by first | rfl | (simp only [firstArgMember]; rfl)) (O0 ?_ (by size_fits)))) (by size_fits))
  simp only [raiseNew]
  refine NP (wpAny_handled ?_)
  rw [show A.in1.handled=none from hh]
  exact NP (NS (wpAny_throw (hn hx _ _ (((Rl ..).extBut.push _).push _) ⟨_,Ob _ rfl,rfl⟩)))
theorem Ig (hh:A.handled=none) (jt tp:Addr) (hne:tp≠jt) (items:Array Value) :
 Draws prog w A jt [jt,tp] items.size (λi v=>items[i]?=some v) (λi h=>h.IsTupleIter jt tp i/\h.IsTuple tp items) where
 live:=λ_ _ ⟨⟨o,ho,_⟩,_⟩=>⟨o,ho⟩
 frame:=λ_ _ _ ⟨⟨o,e,r⟩,⟨o',e',r'⟩⟩ hk=>⟨⟨o,hk jt (by simp) o e,r⟩,o',hk tp (by simp) o' e',r'⟩
 item:=λi s Q E hi ⟨s1,s2⟩ q=>nextT hh s1 s2 (λv hv h' a b=>q v h' s.toks hv ⟨a,s2.extBut b.extBut hne⟩ b) λhx=>by
  rw [Oq hi] at hx; cases hx
 done:=λs Q E ⟨s1,s2⟩ q=>nextT hh s1 s2 (λv hv=>by simp at hv) λ_=>q
end
set_option maxHeartbeats 1000000 in
theorem qK (tp) (items) (n) (dc) (sl) :
 Meets (Builtin.«enumerate.__new__» ⟨[.type "enumerate",.ref tp],[]⟩) (λ_ R s=>s.heap.get? tp=some { cls:=.type "tuple",dict:=dc,data:=.seq items n,slots:=sl } /\
  R (.ok (.ret (.ref (s.heap.push { cls:=.type "tuple_iterator",data:=.fields #[.ref tp,.int 0 0] }).objs.size)))
   { s with heap:=(s.heap.push { cls:=.type "tuple_iterator",data:=.fields #[.ref tp,.int 0 0] }).push { cls:=.type "enumerate",data:=.fields #[.none,.bool false,.ref s.heap.objs.size,rawInt 0,.none,.none] } }) :=
 .of_wp λprog w A R ⟨hp,g,d,tk,os⟩ ⟨hl,h⟩=>by
  have hz:=sub_enumerate
  have hT:Heap.IsTuple (Shared.heap ⟨hp,g,d,tk,os⟩) tp items:=⟨_,hl,rfl,n,rfl⟩
  wp_walk using R0 hl
  refine wpAny_stack_any λst=>NS ?_
  split
  ·rename_i k _ _ _ _ _
   cases (k == O9 "enumerate") <;> (wp_walk using R0 hl,TX hT; exact ⟨_,rfl,h⟩)
  ·wp_walk using R0 hl,TX hT; exact ⟨_,rfl,h⟩
theorem sP (hT:s.heap.IsTuple tp items)
 (h:∀ h',IsEnum h' (s.heap.objs.size+1) s.heap.objs.size 0 .none->h'.IsTupleIter s.heap.objs.size tp 0->(∀ b o,s.heap.get? b=some o->h'.get? b=some o)->Q (.ref (s.heap.objs.size+1)) { s with heap:=h' }) :
 wpAny (model prog w) A (call (.type "enumerate") [.ref tp]) Q E s:=by
 obtain ⟨⟨c,dc,dt,sl⟩,hl,hc,n,hd⟩:=hT
 obtain rfl:c=.type "tuple":=hc
 obtain rfl:dt=.seq items n:=hd
 refine callType_new F.called_enumerate (by decide) (F.typeCall_enumerate_1 _) (F.newCall_enumerate_1 _) (λob=>F.args_object_init_2 ob _) F.entry_enumerate_new (qK tp items n dc sl) ⟨hl,?_⟩
 generalize e1:s.heap.push { cls:=.type "tuple_iterator",data:=.fields #[.ref tp,.int 0 0] }=g1
 have hz:g1.objs.size=s.heap.objs.size+1:=by rw [<- e1]; exact Qd ..
 have hi:g1.get? s.heap.objs.size=some { cls:=.type "tuple_iterator",data:=.fields #[.ref tp,.int 0 0] }:=by rw [<- e1]; exact Ob _ rfl
 have hb:∀ b o,s.heap.get? b=some o->g1.get? b=some o:=λb o q=>by rw [<- e1]; exact NY _ q
 have he:IsEnum (g1.push { cls:=.type "enumerate",data:=.fields #[.none,.bool false,.ref s.heap.objs.size,rawInt 0,.none,.none] }) g1.objs.size s.heap.objs.size 0 .none:=Ob _ rfl
 rw [hz] at he
 show _/\_
 rw [hz]
 exact ⟨⟨_,he,rfl⟩,h _ he ⟨_,NY _ hi,rfl,rfl⟩ λb o q=>NY _ (hb b o q)⟩
noncomputable def lD (ds:List D):List D:=ds.zipIdx.map λx=>D.tup [.int x.2,x.1]
noncomputable def M7 (K:NR) (t:Addr):It :=
 ⟨λi H=>∃ xs x,dB K H t xs/\xs[i]?=some x,
  λi H v H'=>∃ p x,v=.ref p/\H p=none/\H'=upd H p (.tup [.int (i:Nat),x])/\∀ xs,dB K H t xs->xs[i]?=some x,
  λi H=>∃ xs,dB K H t xs/\xs.length<=i⟩
theorem Eb (I:Inv X aa σ H s) (h1:dB X.K H a xs) (h2:dB X.K H a ys):xs=ys:=I.jj h1 h2
theorem AO {prog:Program} {w:World} {A:Around} (hh:A.handled=none) (j t:Addr) (items:Array Value) (i:Nat) (hx:items[i]?=none) :
 Draws prog w A j [j,t] i (λ_ _=>False) (λk h=>k=i/\h.IsTupleIter j t i/\h.IsTuple t items) where
 live:=λ_ _ ⟨_,⟨o,ho,_⟩,_⟩=>⟨o,ho⟩
 frame:=λ_ _ _ ⟨ek,⟨o,e,r⟩,⟨o',e',r'⟩⟩ hk=>⟨ek,⟨o,hk j (by simp) o e,r⟩,o',hk t (by simp) o' e',r'⟩
 item:=λk s Q E hi ⟨ek,_⟩ _=>absurd ek (Ou hi)
 done:=λs Q E ⟨_,s1,s2⟩ q=>nextT hh s1 s2 (λv hv=>by rw [hx] at hv; cases hv) λ_=>q
theorem xF {P:Program} {w:World} {K:NR} {elts:List Expr} {k:Nat} {pos:Pos} {e j t:Addr} (hne:e≠j) :
 Turn P w K (.Tuple elts k pos) (M7 K t) [e,j] e (λi h=>(∃ old,IsEnum h e j i old)/\h.IsTupleIter j t i) where
 mem:=by simp
 obj:=λi h ⟨⟨old,he⟩,⟨o1,e1,_,d1⟩⟩ b hb=>by
  simp only [N9,Pg,or_false] at hb
  rcases hb with rfl | rfl
  ·exact ⟨_,he,λv q=>by have q':Tf _=Data.cell v:=q; cases q'⟩
  ·exact ⟨_,e1,λv q=>by rw [d1] at q; cases q⟩
 keep:=λi h h' ⟨⟨old,he⟩,⟨o1,e1,r1⟩⟩ hk=>⟨⟨old,hk e (by simp) _ he⟩,⟨o1,hk j (by simp) _ e1,r1⟩⟩
 item:=by
  intro X hP hw hK hc i aa s σ H E I hf st hg
  subst hP hw hK
  obtain ⟨⟨old,he⟩,hj⟩:=st
  obtain ⟨xs,x,q1,hx⟩:=hg
  obtain ⟨its,rv,p1,z1⟩:=I.tuple q1
  obtain ⟨u,hu,ru⟩:=rv.get hx
  have pT:s.heap.IsTuple t its.toArray:=by obtain ⟨o,ho,hc',n,hd⟩:=p1; exact ⟨o,ho,hc',n,hd⟩
  have hjt:t≠j:=by
   obtain ⟨o,ho,hc',n,hd⟩:=pT
   obtain ⟨o',ho',hc'',_⟩:=hj
   rintro rfl
   rw [ho] at ho'; cases ho'
   rw [hc'] at hc''; exact absurd hc'' (by simp)
  have het:e≠t:=by
   obtain ⟨o,ho,hc',n,hd⟩:=pT
   rintro rfl
   rw [he] at ho; cases ho
   exact absurd hc' (by simp)
  have hi:i<its.toArray.size:=by
   have:i<its.length:=(N4.mp hu).1
   simpa using this
  have hh:X.A.in1.handled=none:=I.ok.hd hc
  refine wpAny_pyNext_enum_itemD (Ig hh j t hjt its.toArray) he ⟨hj,pT⟩ hi hne (by simp; exact ⟨hne,het⟩) λx' h' tk hPx a1 a2 a3 a4 hk=>?_
  have ex:x'=u:=by
   have:its[i]?=some x':=by simpa using hPx
   rw [hu] at this; cases this; rfl
  subst ex
  have Hp:H s.heap.objs.size=none:=I.hok.fresh (NT _)
  have IA:Inv X aa σ (upd H s.heap.objs.size (.tup [.int (i:Nat),x])) { s with heap:=s.heap.push { cls:=.type "tuple",data:=.seq #[.int (i:Nat) tk,x'] },toks:=tk+1 } :=
   I.laid (a:=s.heap.objs.size) (o:=.tup [.int (i:Nat),x]) (λ_ _ q=>NY _ q) (NT _) ⟨by show 2<=sizeLine; decide,[.int (i:Nat) tk,x'],.cons ⟨tk,rfl⟩ (.cons ru .nil),_,Ob _ rfl,rfl,0,rfl⟩
  have lt:∀ b∈[e,j],b<s.heap.objs.size:=λb hb=>by
   obtain ⟨o1,e1,_⟩:=hj
   simp only [N9,Pg,or_false] at hb
   rcases hb with rfl | rfl
   ·exact N1 he
   ·exact N1 e1
  have gf:∀ b∈[e,j],eO X aa (upd H s.heap.objs.size (.tup [.int (i:Nat),x])) b:=λb hb=>⟨by rw [aj (Ou (lt b hb))]; exact (hf b hb).1,(hf b hb).2⟩
  have I1:Inv X aa σ (upd H s.heap.objs.size (.tup [.int (i:Nat),x])) { s with heap:=h',toks:=tk+1 } :=
   oM (s:={ s with heap:=s.heap.push { cls:=.type "tuple",data:=.seq #[.int (i:Nat) tk,x'] },toks:=tk+1 }) (t':=tk+1) (h':=h') (L:=[e,j]) IA (λb o hb q=>by
    simp only [N9,Pg,or_false,not_or] at hb
    by_cases z:b=s.heap.objs.size
    ·subst z
     rw [Ob _ rfl] at q; cases q; exact a3
    ·refine hk b o hb.1 hb.2 ?_
     rw [Heap.get?_push_ne _ _ _ z] at q; exact q) gf
  refine ⟨_,rfl,wpAny_letOwnedTupleGo_enum (s:={ s with heap:=h',toks:=tk+1 }) a1 λh2' hz' hs'=>?_⟩
  refine ⟨.ref s.heap.objs.size,_,oM (s:={ s with heap:=h',toks:=tk+1 }) (t':=tk+1) (h':=h2') (L:=[e,j]) I1 (λb o hb q=>hs'.extBut b o (λz=>hb (by simp [z])) q) gf,rfl,
   ⟨_,x,rfl,Hp,rfl,λxs' h=>by rw [Eb I h q1]; exact hx⟩,⟨⟨x',?_⟩,a2.1.extBut hs'.extBut (Og hne)⟩,λb hb=>(gf b hb).1⟩
  have hz2:=hz'
  rw [show ((i:Int)+1)=((i+1:Nat):Int) by lia] at hz2
  exact hz2
 done:=by
  intro X hP hw hK hc i aa s σ H E I hf st hg
  subst hP hw hK
  obtain ⟨⟨old,he⟩,hj⟩:=st
  obtain ⟨xs,q1,hend⟩:=hg
  obtain ⟨its,rv,p1,z1⟩:=I.tuple q1
  have pT:s.heap.IsTuple t its.toArray:=by obtain ⟨o,ho,hc',n,hd⟩:=p1; exact ⟨o,ho,hc',n,hd⟩
  have hl:=rv.length
  have hx:its.toArray[i]?=none:=by simp; lia
  have hh:X.A.in1.handled=none:=I.ok.hd hc
  exact wpAny_pyNext_enum_endD (AO hh j t its.toArray i hx) he ⟨rfl,hj,pT⟩ λh' hk=>⟨rfl,oM (t':=s.toks) (L:=[e,j]) I (λb o hb q=>hk b o (λz=>hb (by simp [z])) q) hf⟩
 self:=λA i s Q E ⟨⟨old,he⟩,_⟩ h=>wpAny_pyIter_enum he h
theorem xG {K:NR} {Hf:Hp} {ds:List D} {xs:List V} {t:Addr} (h1:dB K Hf t xs) (r1:ak K Hf ds xs):jn K (M7 K t) (lD ds) Hf where
 go:=λi d H aP s1 s2 e=>by
  unfold lD at e
  rw [NZ,N8] at e
  obtain ⟨⟨x,m⟩,ex,rfl⟩:=e
  rw [List.getElem?_zipIdx,N8] at ex
  obtain ⟨x',ex,ee⟩:=ex
  cases ee
  obtain ⟨v1,f1,g1⟩:=r1.get ex
  have q1:=au (s1.trans s2) h1
  refine ⟨⟨xs,v1,q1,f1⟩,λv H' ⟨p,y,e1,e2,e3,e4⟩=>?_⟩
  have z1:=e4 xs q1
  rw [f1] at z1; cases z1
  subst e1 e3
  have g:=br.new s2 e2 (o:=.tup [.int (i:Nat),v1])
  rw [Qg]
  exact ⟨upd aP p (.tup [.int (i:Nat),v1]),g,aH.mpr ⟨p,_,rfl,.inl (.inl af),.cons (av.mpr rfl) (.cons (Rep.mono (s1.trans g.f) _ g1) (aA.mpr rfl))⟩⟩
 stop:=λi H aP s1 s2 e=>⟨xs,au (s1.trans s2) h1,by
  rw [<- r1.length]
  simpa [lD] using e⟩
theorem xH:bootBuiltins "enumerate"=some (.type "enumerate"):=by decide +kernel
noncomputable def Lh (K:NR) (ta:TA):TI:=λσ H R=>ta σ H λvs H1=>∃ t xs,vs=[.ref t]/\dB K H1 t xs/\R (M7 K t) H1
theorem Ec (hg:Gl X "enumerate") (hm:X.mg "enumerate"=none) (ha:PA X [a] ta) (hs:starEach [a] X.env=[(false,eval a X.env)]) :
 PI X (.Tuple elts kt tpos) (.Call (.Name "enumerate" p) [a] [] pos) (Lh X.K ta):=by
 intro aa s σ H R I h
 refine Call_ (dR I hg hm xH (Rf (bD (ha pos aa s σ H _ I h) λus s1 ⟨vs,H1,I1,r1,q1⟩=>?_) hs (by rfl)))
 obtain ⟨t,xs,e,q1,q⟩:=q1
 subst e
 obtain ⟨u,rfl,rx⟩:=vals1 r1
 cases rx
 obtain ⟨its,rv,p1,z1⟩:=I1.tuple q1
 have pT:s1.heap.IsTuple t its.toArray:=by obtain ⟨o,ho,hc',n,hd⟩:=p1; exact ⟨o,ho,hc',n,hd⟩
 refine sP pT λh' a1 a2 hk=>wpAny_pyIter_enum a1 ?_
 refine ⟨s1.heap.objs.size+1,[s1.heap.objs.size+1,s1.heap.objs.size],_,_,H1,rfl,I1.kept (t':=s1.toks) hk,xF (Q6 (Qw _)),⟨⟨.none,a1⟩,a2⟩,λb hb=>?_,q⟩
 have hb':s1.heap.objs.size<=b:=by
  simp only [N9,Pg,or_false] at hb
  rcases hb with rfl | rfl
  ·exact Q3 _ _
  ·exact NT _
 exact I1.lV hb' (I1.hok.fresh hb')
section
variable {K:NR} {c:Ctx P w K mg base k N sc bk}
theorem AQ (hm:mg "enumerate"=none) (h:aF c a ρ λx=>∃ ds,x=.tup ds/\R (lD ds)) (hg:sc.names.lookup (NQ "enumerate")=some .globalImplicit:=by walk_at "u")
 (hs:∀ env,starEach [a] env=(false,eval a env)::starEach [] env:=by intro _; walk_at "u"):zJ c (.Tuple elts kt tpos) (.Call (.Name "enumerate" p) [a] [] pos) ρ R:=λσ H Hf Q S q aa s I =>
 Ec (by unfold Gl Ox; rw [c.esc]; exact hg) (by rw [c.emg]; exact hm) (bR dz dS (hs _)) (by rw [hs]; rfl) aa s σ H Q I
  (h σ H Hf _ S λx v1 H1 aP ⟨ds,e1,hR⟩ r1 g1=>by
    subst e1
    rw [aH] at r1
    obtain ⟨t,xs,rfl,s1,t1⟩:=r1
    exact ⟨t,xs,rfl,au g1.b s1,q _ _ H1 aP hR g1 (xG s1 t1)⟩)
end
noncomputable def Ih (lo:Int) (n:Nat):It:=⟨λi _=>i<n,λi H x H'=>H'=H/\x=.int (lo - i),λi _=>n<=i⟩
noncomputable def AR (lo:Int) (n:Nat):List D:=(OD n).map λ(i:Nat)=>D.int (lo - (i:Int))
theorem xJ {P:Program} {w:World} {K:NR} {tg:Expr} (j:Addr) (lo:Int) (n:Nat):Turn P w K tg (Ih lo n) [j] j (λi h=>IsRangeIter h j (lo+(i:Nat) * -1) ((n:Int) - (i:Nat)) (-1)) where
 mem:=Oa.mpr rfl
 obj:=λi h st b hb=>by
  obtain rfl:b=j:=Oa.mp hb
  exact ⟨_,st,λv z=>by have q:Tf _=Data.cell v:=z; cases q⟩
 keep:=λi h h' st k=>k j (Oa.mpr rfl) _ st
 item:=by
  intro X hP hw hK hc i aa s σ H E I hf st hg
  subst hP hw hK
  obtain ⟨f0,f1,f2,f3,f4,f5⟩:=hf j (Oa.mpr rfl)
  have W:=Walks.range (prog:=X.prog) (w:=X.w) (I.ok.hd hc) j lo (-1) n
  refine W.item i s _ _ hg st λv h' tk hv st' kk=>?_
  obtain ⟨t,rfl⟩:=hv
  have I1:Inv X aa σ H { s with heap:=h',toks:=tk }:=I.turned (λb o hb e=>kk b o (by simpa using hb) e) f0 f1 f3 f4 f5
  have e:lo+(i:Int) * -1=lo - i:=by lia
  exact ⟨_,rfl,mG (s:={ s with heap:=h',toks:=tk }) (n:="range_iterator") st' rfl rfl (by decide) ⟨.int (lo - i),H,I1,⟨t,by rw [e]⟩,⟨rfl,rfl⟩,st',λb hb=>(hf b hb).1⟩⟩
 done:=by
  intro X hP hw hK hc i aa s σ H E I hf st hg
  subst hP hw hK
  obtain ⟨f0,f1,f2,f3,f4,f5⟩:=hf j (Oa.mpr rfl)
  exact wpAny_pyNext_range_end (I.ok.hd hc) st (by have:n<=i:=hg; lia) λh' eb=>⟨rfl,I.turned (t':=s.toks) (λb o hb e=>eb b o hb e) f0 f1 f3 f4 f5⟩
 self:=λ_ _ _ _ _ st h=>wpAny_pyIter_rangeiter st h
theorem lE {lo hi:Int}:R1 lo hi (-1)=((lo - hi).toNat:Int):=by
 unfold R1
 rw [if_neg (by decide)]
 split
 ·rw [show - (-1:Int)=1 by decide,Int.ediv_one]; lia
 ·lia
theorem small_down (ha: -(2 ^ 62)<=a) (ha':a<2 ^ 62) (hb: -(2 ^ 62)<=b) (hb':b<2 ^ 62):Builtin.Range.small a b (-1)=true:=by
 unfold Builtin.Range.small
 rw [lE]
 simp only [Builtin.Range.rangeFitsLong,Rq,Bool.or_eq_true,decide_eq_true_eq,beq_iff_eq,show ¬ (-1:Int)>0 by decide,if_false]
 lia
noncomputable def Li (ta:TA):TI:=λσ H R=>ta σ H λvs H1=>∃ i j:Int,vs=[.int i,.int j,.int (-1)]/\(-(2 ^ 62)<=i/\i<2 ^ 62/\ -(2 ^ 62)<=j/\j<2 ^ 62)/\R (Ih i (i - j).toNat) H1
theorem Ed (hg:Gl X "range") (hm:X.mg "range"=none) (ha:PA X [a,b,c] ta) (hs:starEach [a,b,c] X.env=[(false,eval a X.env),(false,eval b X.env),(false,eval c X.env)])
 (hs2:starEach [b,c] X.env=[(false,eval b X.env),(false,eval c X.env)]):PI X tg (.Call (.Name "range" p) [a,b,c] [] pos) (Li ta):=by
 intro aa s σ H R I h
 refine Call_ (dR I hg hm boot_range (Rf (bD (ha pos aa s σ H _ I h) λus s1 ⟨vs,H1,I1,r1,q1⟩=>?_) (by rw [hs,hs2]) (by rw [hs2]; rfl)))
 obtain ⟨i,j,e,⟨q1,q2,q3,q4⟩,q⟩:=q1
 subst e
 cases r1 with
 | cons r rr=>cases rr with
  | cons r' rr=>cases rr with
   | cons r'' rr =>
    cases rr
    obtain ⟨t,rfl⟩:=r
    obtain ⟨t',rfl⟩:=r'
    obtain ⟨t'',rfl⟩:=r''
    refine call_range_3 (by decide) ?_ (.inl (PyProof.noPylong_of_log2 (by decide +kernel)))
    refine wpAny_pyIter_range (IsRange.new ..) (small_down q1 q2 q3 q4) ?_
    have I2:Inv X aa σ H1 { s1 with heap:=s1.heap.push { cls:=.type "range",data:=.fields #[.int i t,.int j t',.int (-1) t''] },toks:=s1.toks }:=I1.kept λb o e=>NY _ e
    generalize s1.heap.push { cls:=.type "range",data:=.fields #[.int i t,.int j t',.int (-1) t''] }=g at I2 |-
    refine ⟨g.objs.size,[g.objs.size],_,_,H1,rfl,I2.kept (t':=s1.toks) λb o e=>NY _ e,xJ _ i (i - j).toNat,?_,λb hb=>?_,q⟩
    ·show IsRangeIter _ _ (i+((0:Nat):Int) * -1) ((((i - j).toNat:Nat):Int) - ((0:Nat):Int)) (-1)
     rw [show i+((0:Nat):Int) * -1=i by simp,show (((i - j).toNat:Nat):Int) - ((0:Nat):Int)=R1 i j (-1) by rw [lE]; lia]
     exact Ob _ rfl
    ·obtain rfl:b=g.objs.size:=Oa.mp hb
     exact I2.lV (NT _) (I2.hok.fresh (NT _))
theorem AS {K:NR} {lo:Int} {n:Nat} {dM:Hp}:jn K (Ih lo n) (AR lo n) dM where
 go:=λi d H Hf s1 s2 e=>by
  unfold AR at e
  rw [NZ] at e
  obtain ⟨j,e1,e2⟩:=N8.mp e
  have hi:i<n:=by simpa using (N4.mp e1).1
  have:j=i:=by rw [Qs hi] at e1; cases e1; rfl
  subst this
  refine ⟨hi,λx H' ⟨e3,e4⟩=>?_⟩
  subst e3 e4 e2
  exact ⟨Hf,.refl s2,av.mpr rfl⟩
 stop:=λi H Hf s1 s2 e=>show n<=i by simpa [AR] using e
section
variable {K:NR} {c:Ctx P w K mg base k N sc bk}
theorem Ii (hm:mg "range"=none) (h:aF c a ρ λx=>aF c b ρ λy=>aF c e ρ λz=>∃ i j:Int,x=.int i/\y=.int j/\z=.int (-1)/\Sd (zM i) (Sd (zM j) (R (AR i (i - j).toNat))))
 (hg:sc.names.lookup (NQ "range")=some .globalImplicit:=by walk_at "u")
 (hs:∀ env,starEach [a,b,e] env=(false,eval a env)::starEach [b,e] env:=by intro _; walk_at "u") (hs2:∀ env,starEach [b,e] env=(false,eval b env)::starEach [e] env:=by intro _; walk_at "u")
 (hs3:∀ env,starEach [e] env=(false,eval e env)::starEach [] env:=by intro _; walk_at "u"):zJ c tg (.Call (.Name "range" p) [a,b,e] [] pos) ρ R:=λσ H Hf Q S q aa s I =>
 Ed (by unfold Gl Ox; rw [c.esc]; exact hg) (by rw [c.emg]; exact hm) (bR dz (bR dz (bR dz dS (hs3 _)) (hs2 _)) (hs _)) (by rw [hs,hs2,hs3]; rfl) (by rw [hs2,hs3]; rfl) aa s σ H Q I
  (h σ H Hf _ S λx v1 H1 aP h1 r1 g1=>h1 σ H1 aP _ (S.cF g1) λy v2 H2 cI h2 r2 g2=>h2 σ H2 cI _ (S.cF (g1.trans g2)) λz v3 H3 Hf3 ⟨i,j,e1,e2,e3,⟨hi,⟨hj,hR⟩⟩⟩ r3 g3=>by
    subst e1 e2 e3; rw [av] at r1 r2 r3; subst r1 r2 r3
    exact ⟨i,j,rfl,⟨hi.1,hi.2,hj.1,hj.2⟩,q _ _ H3 Hf3 hR ((g1.trans g2).trans g3) AS⟩)
end
noncomputable abbrev ltI (x y:Int):Bool:=decide (x<y)
noncomputable def Nt (d:Addr) (o:Obj) (ys:List (Key×V)):It :=
 ⟨λi H=>H d=some (.frz o (.dK ys))/\i<ys.length,λi H x H'=>H'=H/\∃ y,ys[i]?=some y/\x=kV y.1,λi H=>H d=some (.frz o (.dK ys))/\ys.length<=i⟩
theorem oQ (I:Inv X aa σ H s) (hH:H d=some (.frz o (.dK ys))):∃ (vs:List (Key×Value)) (es:Array DictEntry) (ep:Nat),o.data=.dict es ep/\KV ys vs/\s.heap.DictAt (cg X.prog X.w) d vs ep/\(d == sysModules)=false/\ys.length<=sizeLine:=by
 obtain ⟨ho,ok⟩:=(show bq X.prog X.w H s.heap d (.frz o (.dK ys)) from I.hok d _ hH)
 obtain ⟨z,y,vs,kv,o',es,ep,h1,h2,h3,h4,h5,h6⟩:=ok
 rw [ho] at h1; cases h1
 exact ⟨vs,es,ep,h3,kv,⟨o,es,ho,h2,h3,h4,h5,h6⟩,y,z⟩
theorem xK {P:Program} {w:World} {K:NR} {tg:Expr} {d j:Addr} {o:Obj} {ys:List (Key×V)} {es:Array DictEntry} {ep:Nat} (hod:o.data=.dict es ep):Turn P w K tg (Nt d o ys) [j] j (λi h=>h.IsKeyIter j d i ys.length ep) where
 mem:=Oa.mpr rfl
 obj:=λi h ⟨q,e,_,hd⟩ b hb=>by
  obtain rfl:b=j:=Oa.mp hb
  exact ⟨_,e,λv z=>by rw [hd] at z; cases z⟩
 keep:=λi h h' ⟨q,e,r⟩ k=>⟨q,k j (Oa.mpr rfl) _ e,r⟩
 item:=by
  intro X hP hw hK hc i aa s σ H E I hf st hg
  subst hP hw hK
  obtain ⟨f0,f1,f2,f3,f4,f5⟩:=hf j (Oa.mpr rfl)
  obtain ⟨hH,hi⟩:=hg
  obtain ⟨vs,es',ep',e1,kv,da,_⟩:=oQ I hH
  rw [hod] at e1; cases e1
  have hl:ys.length=vs.length:=Pc kv
  obtain ⟨⟨ky,v⟩,hv,r1,r2⟩:=dI kv (Od hi)
  rw [hl] at st
  refine wpAny_pyNext_dict_item st da hv λkey h' hkey hit' hs'=>?_
  have I1:Inv X aa σ H { s with heap:=h',toks:=s.toks }:=I.turned (λb o hb e=>hs'.extBut b o hb e) f0 f1 f3 f4 f5
  obtain ⟨q,e,qc,qd⟩:=id hit'
  rw [<- hl] at hit'
  exact ⟨_,rfl,mG (s:={ s with heap:=h',toks:=s.toks }) (n:="dict_keyiterator") e qc qd (by decide) ⟨kV ky,H,I1,u6 hkey,⟨rfl,_,Od hi,by rw [r1]⟩,hit',λb hb=>(hf b hb).1⟩⟩
 done:=by
  intro X hP hw hK hc i aa s σ H E I hf st hg
  subst hP hw hK
  obtain ⟨f0,f1,f2,f3,f4,f5⟩:=hf j (Oa.mpr rfl)
  obtain ⟨hH,hi⟩:=hg
  obtain ⟨vs,es',ep',e1,kv,da,_⟩:=oQ I hH
  rw [hod] at e1; cases e1
  have hl:ys.length=vs.length:=Pc kv
  rw [hl] at st
  exact wpAny_pyNext_dict_end (I.ok.hd hc) st da (Py (by lia)) λh' eb=>⟨rfl,I.turned (t':=s.toks) (λb o hb e=>eb b o hb e) f0 f1 f3 f4 f5⟩
 self:=λ_ _ _ _ _ st h=>wpAny_pyIter_keyiter st h
theorem xM {K:NR} {Hf:Hp} {d:Addr} {o:Obj} {ys:List (Key×V)} {ns:List Int} (hH:Hf d=some (.frz o (.dK ys))) (hk:ys.map (·.1)=ns.map Oe):jn K (Nt d o ys) (ns.map D.int) Hf where
 go:=λi x H aP s1 s2 e=>by
  rw [NZ,N8] at e
  obtain ⟨n,hn,rfl⟩:=e
  have hq:=congrArg (λl=>l[i]?) hk
  simp only [NZ,hn,Option.map_some] at hq
  obtain ⟨y,hy,ey⟩:=N8.mp hq
  refine ⟨⟨s2 _ _ (s1 _ _ hH),(N4.mp hy).1⟩,λv H' ⟨e1,y',e2,e3⟩=>?_⟩
  rw [hy] at e2; cases e2
  subst e1 e3
  exact ⟨aP,.refl s2,by rw [ey]; exact av.mpr rfl⟩
 stop:=λi H aP s1 s2 e=>⟨s2 _ _ (s1 _ _ hH),by
  have:=congrArg QG hk
  simp only [NX] at this e
  lia⟩
theorem nH (hT:s.TypeIs (.ref v) "dict") (hQ:Q false s):wpAny (model prog w) A (QM (.ref v)) Q E s:=by
 unfold QM
 refine NP (wpAny_specialOf hT PySem.F.slot_dict_len.lookup ?_)
 have e:splitId "dict.__len__"=some ("dict","__len__"):=by decide +kernel
 dsimp only
 rw [e]
 dsimp only
 refine NP (Ss (b:=true) hT (by rw [isSubtype_type]; kernel_rfl) ?_)
 rw [if_neg (by decide)]
 exact NP (Qf hT (NS hQ))
section
variable {X:Cx} {aa:List (Addr×Obj)} {σ:L2.St} {H Hf:Hp} {s:Shared} {E:Value->Shared->Prop}
theorem qL {K:NR}:∀ {L:List Int} {us:List Value},Paired (λx u=>jS K Hf (D.int x) u) L us->IntsAre us L
 | _,_,.nil=>.nil
 | _,_,.cons ⟨x,r1,h1⟩ t=>by
  rw [av] at h1; subst h1
  obtain ⟨tk,rfl⟩:=r1
  exact .cons _ _ (qL t)
theorem Ef:Ld X D.int ltI oneType' where
 lin:=λL=>⟨λx _=>by simp,λx _ y _ z _ h g=>by simp only [decide_eq_true_eq] at *; lia,λx _ y _ h=>by simp only [decide_eq_true_eq]; lia⟩
 inj:=λ_ _ _ _ _ _ _ x y u ⟨v,r1,h1⟩ ⟨v',r2,h2⟩=>by
  rw [av] at h1 h2; subst h1 h2
  obtain ⟨t,rfl⟩:=r1
  obtain ⟨t',e⟩:=r2
  cases e; rfl
 kind:=λ_ _ _ _ _ _ _ _ _ L us p h2 Q hQ=>by
  rw [ksk_kind (kz:=L) (qL p) (by simpa using h2)]
  exact NS hQ
 cmp:=λ_ _ _ _ _ _ _ _ _ _ x y u v ⟨a,r1,h1⟩ ⟨b,r2,h2⟩ Q hQ=>by
  rw [av] at h1 h2; subst h1 h2
  obtain ⟨t,rfl⟩:=r1
  obtain ⟨t',rfl⟩:=r2
  rw [keyLt'_oneType]
  exact oneLt_int hQ
theorem qM (hc:X.calm=true) (I:Inv X aa σ H s) (sb:aG Hf H) (hA:X.A.units+60<cLine) (hH:Hf d=some (.frz o (.dK ys))) (hk:ys.map (·.1)=ns.map Oe) (nd:ns.Nodup)
 (hQ:∀ (L':List Int) (xs':List V) (s':Shared) (H' ah:Hp) (a:Addr),L'.Perm ns->fR ltI b L'->ak X.K ah (L'.map D.int) xs'->br H Hf H' ah->H' a=none->Inv X aa σ (upd H' a (.lst xs')) s'->Q (.ref a) s') :
 wpAny (model X.prog X.w) X.A (call (.builtin "sorted") [.ref d] [(NQ "reverse",.bool b)]) Q E s:=by
 refine call_function_entry_kw kind_sorted plain_sorted entry_sorted (args_sorted_rev _ _) ?_
 unfold Builtin.«sorted»
 refine NP (m:=checkCount "sorted" 1 1 _) (NS ?_)
 have h1:X.A.in1.handled=none:=I.ok.hd hc
 have h2:X.A.in1.frames=some X.stack:=I.ok.frames
 obtain ⟨vs,es,ep,e1,kv,da,hs,hz⟩:=oQ I (sb _ _ hH)
 have hl:ys.length=vs.length:=Pc kv
 have hn:(ns.map D.int).length=ys.length:=by have:=congrArg QG hk; simp only [NX] at this |-; lia
 refine NP (k9 (X:=DS X X.A.in1) (H:=H) (Hf:=Hf) (ds:=ns.map D.int) (T:="dict") hc h1 h2 (jw I (λ_=>h1) h2) sb da.lt_size (by lia) (by decide) (λs' k=>(da.keep k).dictOf.typeIs) (λA s' Q E q h=>nH q h) (λA s1 H1 E I1 sb1 k1=>?_) λus s' H' ah xs I' rv rr g hz'=>?_)
 ·refine wpAny_pyIter_dict hs (da.keep k1) ?_
  refine ⟨_,_,_,rfl,NT _,I1.kept (t':=s1.toks) λb o e=>NY _ e,xK e1,⟨_,Ob _ rfl,rfl,?_⟩,λb hb=>?_,λb o e=>NY _ e,xM hH hk⟩
  ·rw [hl]; rfl
  ·obtain rfl:b=s1.heap.objs.size:=Oa.mp hb
   exact I1.lV (NT _) (I1.hok.fresh (NT _))
 ·have I2:=gq I.ok I'
  have el:=rr.length
  have el2:=rv.length
  refine AB (b:=b) Ef I2 g.b ?_ rr rv (by lia) nd λL' xs' s2 p1 p2 p3 p4 I3=>hQ L' xs' s2 H' ah _ p1 p2 p3 g (I2.hok.fresh (NT _)) I3
  show X.A.units+1+20<cLine
  lia
end
section
variable {K:NR} {c:Ctx P w K mg base k N sc bk}
theorem sQ (hm:mg "sorted"=none) (h:aF c e ρ λd=>∃ (ns:List Int) (ds:List D),d=.fdK (ns.map Oe) ds/\Sd ns.Nodup (∀ L':List Int,L'.Perm ns->fR ltI true L'->R (.ow (L'.map D.int))))
 (hg:sc.names.lookup (NQ "sorted")=some .globalImplicit:=by walk_at "u")
 (he:∀ env,starEach [e] env=(false,eval e env)::starEach [] env:=by intro _; walk_at "u")
 (hpl:∀ env,(backTo pos (starEach [e] env)).any (·.1)=false:=by intro _; walk_at "u") :
 cS c (.Call (.Name "sorted" np) [e] [⟨some "reverse",.Constant (.bool true) j kp1,kp⟩] pos) ρ R:=λσ H Hf Q S q aa s I=>by
 have hgl:Gl c.X "sorted":=by unfold Gl Ox; rw [c.esc]; exact hg
 refine Pz (dR I hgl (by rw [c.emg]; exact hm) (show bootBuiltins "sorted"=some (.builtin "sorted") by decide +kernel) ?_ (by decide) (by decide))
 refine callWith_kw ?_ (by rw [he]; rfl) (hpl _)
 have hpa:=bR (X:=c.X) (e:=e) (es:=[]) dz dS (he _)
 refine bD (hpa pos aa s σ H (λvs H1=>∃ x,vs=[x]/\∃ (ns:List Int) (ds:List D) (aP:Hp),Rep c.X.K aP (.fdK (ns.map Oe) ds) x/\ns.Nodup/\br H Hf H1 aP/\∀ L':List Int,L'.Perm ns->fR ltI true L'->R (.ow (L'.map D.int))) I ?_) λus s1 hh=>z2 hh λvs H1 hh=>w3 hh λI1 r1 hh=>hh.elim λx hh=>w2 hh λex hh=>z3 hh λns ds aP hh=>w4 hh λe1 e7 e8 e9=>?_
 ·exact h σ H Hf _ S λd v H1 aP ⟨ns,ds,hp,⟨hn,hR⟩⟩ rv g=>⟨_,rfl,ns,ds,aP,by rw [<- hp]; exact rv,hn,g,hR⟩
 ·subst ex
  obtain ⟨a0,ys,o,rfl,hs,hk,hr⟩:=iK.mp e1
  have eu:us=[.ref a0]:=by
   cases r1 with
   | cons q1 q2=>cases q2; cases q1; rfl
  subst eu
  refine kws_cons (bD (Fg (X:=c.X) (b:=true) (j:=j) (pos:=kp1) aa s1 σ _ (λx H2=>x=.bl true/\H2=H1) I1 ⟨rfl,rfl⟩) λkv s2 ⟨x,H2,I2,rx,e10,e11⟩=>kws_nil ?_)
  subst e10 e11
  have ek:kv=.bool true:=rx
  subst ek
  refine qM (b:=true) c.calm I2 e8.b ?_ hs hk e7 λL' xs' s' H' ah a p1 p2 p3 g na I3=>?_
  ·have:=c.room.un
   lia
  ·have gg:=e8.trans g
   exact ⟨.ref a,_,I3,rfl,q (.ow (L'.map D.int)) _ _ ah (e9 L' p1 p2) ⟨a,xs',rfl,gg.s.free na,af,g.b.free na,p3⟩ (gg.trans (br.gh g.b na))⟩
end
theorem Eg {Q:Value->Shared->Prop} (ho:s.heap.get? l=some o) (hc:o.cls=.type "tuple") (hd:o.data=.seq its.toArray n) (hk:0<=k) (hk2:k<2 ^ 63) (hz:its.length * k.toNat<=sizeLine) (hne:its≠[])
 (h1:k=1->Q (.ref l) s) (h2:k≠1->Q (.ref s.heap.objs.size) { s with heap:=s.heap.push { cls:=.type "tuple",data:=.seq (N7 k.toNat its).flatten.toArray } }) :
 wpAny (model prog w) A (Builtin.«tuple.__mul__» ⟨[.ref l,.int k u],[]⟩) (λfin s'=>∃ v,fin=.done (.ret v)/\Q v s') E s:=by
 unfold Builtin.«tuple.__mul__»
 show wpAny _ _ (asIndex (.int k u) >>= _) _ _ s
 have ea:asIndex (.int k u)=pure k:=rfl
 rw [ea]
 refine NP (NS ?_)
 have b1:(decide (k< -2 ^ 63) || decide (k>=2 ^ 63))=false:=by simp only [Bool.or_eq_false_iff,decide_eq_false_iff_not]; lia
 rw [if_neg (by rw [b1]; exact N5)]
 dsimp only
 refine NP (show wpAny _ _ (seqItems? (.ref l) >>= _) _ _ s from NP (wpAny_seqItems ho hd (NS ?_)))
 have hne':its.toArray.isEmpty=false:=by cases its with | nil=>exact absurd rfl hne | cons a r=>rfl
 rw [hne',Bool.false_or]
 by_cases e:k=1
 ·rw [if_pos (by simp [e])]
  refine NP (NP (Qf ⟨o,ho,hc⟩ (NS ?_)))
  rw [if_pos (by decide)]
  exact NP (Pe (NS ⟨_,rfl,h1 e⟩))
 ·rw [if_neg (by simpa using e)]
  have h2':=h2 e
  by_cases e0:k=0
  ·subst e0
   rw [if_pos (by decide)]
   exact NP (O0 (NS ⟨_,rfl,h2'⟩))
  ·have hpos:0<k:=by lia
   rw [if_neg (by simp; lia)]
   have hm:(its.toArray.size:Int) * k=((its.length * k.toNat:Nat):Int):=by
    rw [Int.natCast_mul,Int.toNat_of_nonneg hk,Of]
   have hs:(sizeLine:Nat)<=(2 ^ 63 - 1) / 8:=by decide
   rw [hm,if_neg (by lia),if_neg (by unfold Builtin.Tuple.tupleTooMany; simp only [decide_eq_true_eq]; lia)]
   have ef:=foldl_rep its k.toNat []
   rw [PN] at ef
   show wpAny _ _ (newObj (.type "tuple") (.seq (Rb (λx1 x2=>x1++x2) ([]:List Value).toArray (N7 k.toNat its.toArray))) >>= _) _ _ _
   rw [ef]
   exact NP (O0 (NS ⟨_,rfl,h2'⟩) (hd:=by
    show (N7 k.toNat its).flatten.toArray.size<=sizeLine
    rw [Of,len_rep,QD]; exact hz))
theorem sR:fillsNumberSlot (.type "tuple") "mul"=pure false:=PySem.fillsNumberSlot_seq (id:="tuple.__mul__") (r:=some (.builtin "tuple.__rmul__")) Uj.lookup (by decide +kernel) F.slot_tuple_rmul.lookup (by decide +kernel)
theorem sS:seqRepeat? (.type "tuple")=pure (some (.builtin "tuple.__mul__")):=by
 unfold seqRepeat?
 rw [PySem.seqSlot_of (T:="tuple") (name:="__mul__") (id:="tuple.__mul__") Uj.lookup (by decide +kernel),PySem.seqSlot_of (T:="tuple") (name:="__rmul__") (id:="tuple.__rmul__") F.slot_tuple_rmul.lookup (by decide +kernel)]
 rfl
theorem AU (a) (t:Tok) (l) (o) (items) (n) :
 Meets (Builtin.«int.__rmul__» ⟨[.int a t,.ref l],[]⟩) (λ_ R s=>s.heap.get? l=some o/\o.cls=.type "tuple"/\o.data=.seq items n/\R (.ok (.ret Value.notImplemented)) s) :=
 .of_wp λprog w A R ⟨hp,g,d,tk,os⟩ ⟨hl,hc,hd,h⟩=>by
  obtain ⟨c,dc,dt,sl⟩:=o
  obtain rfl:c=.type "tuple":=hc
  obtain rfl:dt=.seq items n:=hd
  wp_walk
  exact ⟨_,rfl,h⟩
noncomputable def Lj (K:NR):R2:=λx y H Q=>∃ l k xs,x=.ref l/\y=.int k/\dB K H l xs/\xs≠[]/\0<=k/\k<2 ^ 63/\xs.length * k.toNat<=sizeLine/\(k=1->Q (.ref l) H)/\(k≠1->∀ p,H p=none->Q (.ref p) (upd H p (.tup (N7 k.toNat xs).flatten)))
theorem Eh:fL X (binaryOp .Mult) (Lj X.K):=by
 intro aa s σ H x y v u Q I rx ry h
 obtain ⟨l,k,xs,rfl,rfl,hq,hne,h0,h1,hz,q1,q2⟩:=h
 cases rx
 obtain ⟨t,rfl⟩:=ry
 obtain ⟨its,r,pl,hz0⟩:=I.tuple hq
 obtain ⟨o,ho,hc,n,hd⟩:=pl
 have hl:=r.length
 refine wpAny_binaryOp_repeat_ref (T:="tuple") (U:="int") (by decide) ⟨o,ho,hc⟩ (λs'=>Q9 s' k t) sR F.fills_int_mul SE sS F.slot_int_index.lookup
  (Ra SE (Q9 s k t) F.entry_int_rmul (F.args_int_rmul_2 _ _) (AU k t l o _ _) ⟨ho,hc,hd,rfl,⟨o,ho,hc⟩,Pq Uj ⟨o,ho,hc⟩ F.entry_tuple_mul (Eg (its:=its) ho hc hd h0 h1 (by rw [<- hl]; exact hz) (by rintro rfl; cases r; exact hne rfl) (λe=>?_) λe=>?_) (F.args_tuple_mul_2 _ _)⟩)
 ·exact ⟨.ref l,H,I,rfl,q1 e⟩
 ·have Hp:H s.heap.objs.size=none:=I.hok.fresh (NT _)
  have hz2:(N7 k.toNat xs).flatten.length<=sizeLine:=by rw [len_rep,QD]; exact hz
  have IA:Inv X aa σ (upd H s.heap.objs.size (.tup (N7 k.toNat xs).flatten)) { s with heap:=s.heap.push { cls:=.type "tuple",data:=.seq (N7 k.toNat its).flatten.toArray },toks:=s.toks } :=
   I.laid (a:=s.heap.objs.size) (o:=.tup (N7 k.toNat xs).flatten) (λ_ _ q=>NY _ q) (NT _) ⟨hz2,_,r.rep k.toNat,_,Ob _ rfl,rfl,0,rfl⟩
  exact ⟨.ref s.heap.objs.size,_,IA,rfl,q2 e _ Hp⟩
section
variable {K:NR}
theorem Ij (h:aF c a ρ λx=>aF c b ρ λy=>∃ ds n,x=.tup ds/\y=.int n/\Sd (ds≠[]/\0<=n/\n<2 ^ 63/\ds.length * n.toNat<=sizeLine) (R (.tup (N7 n.toNat ds).flatten))):aF c (.BinOp a .Mult b pos) ρ R:=λσ H Hf Q S q =>
 bK (yH Eh dz dz) (h σ H Hf _ S λx v H1 aP h1 r1 g1=>h1 σ H1 aP _ (S.cF g1) λy u H2 cI ⟨ds,n,e1,e2,⟨hne,n0,n1,hz⟩,hR⟩ r2 g2=>by
  subst e1 e2
  have r1':=Rep.mono g2.f _ r1
  obtain ⟨l,xs,rfl,k1,k2⟩:=aH.mp r1'
  rw [av] at r2; subst r2
  have hl:=k2.length
  have g:=g1.trans g2
  refine ⟨l,n,xs,rfl,rfl,au g2.b k1,by rintro rfl; exact hne (List.eq_nil_of_length_eq_zero hl),n0,n1,by rw [<- hl]; exact hz,λe=>?_,λ_ p hp=>?_⟩
  ·subst e
   refine q _ _ H2 cI hR ?_ g
   rw [show (N7 (1:Int).toNat ds).flatten=ds by simp]
   exact r1'
  ·have g3:=br.new (o:=.tup (N7 n.toNat xs).flatten) g2.b hp
   exact q _ _ _ _ hR (aH.mpr ⟨p,_,rfl,.inl (.inl af),(k2.mono g3.f).many _⟩) (g.trans g3))
end
section
variable {K:NR}
end
end EV
namespace EV
open PySem PySem.Spec PyProof.Rows L2
noncomputable def dig (b:Int):Nat->(Nat->Int)->Int
 | 0,_=>0
 | m+1,f=>f 0 * b ^ m+dig b m (λi=>f (i+1))
noncomputable abbrev b9 (p:List Int) (i:Nat):Int:=p.getD i 0
noncomputable def pk (b:Int) (p:List Int):Int:=dig b 6 (b9 p)
theorem i9:∀ {m:Nat} {f g:Nat->Int},(∀ i,i<m->f i=g i)->dig b m f=dig b m g
 | 0,_,_,_=>rfl
 | m+1,f,g,h=>by
  unfold dig
  rw [h 0 (by lia),i9 (m:=m) λi hi=>h (i+1) (by lia)]
theorem vF:∀ (m:Nat) (f g:Nat->Int),dig b m (λi=>f i+g i)=dig b m f+dig b m g
 | 0,_,_=>rfl
 | m+1,f,g=>by
  unfold dig
  rw [vF m (λi=>f (i+1)) (λi=>g (i+1)),QI]
  lia
theorem ja:∀ (m:Nat),dig b m (λ_=>0)=0
 | 0=>rfl
 | m+1=>by unfold dig; rw [ja m,QF]; rfl
theorem iC (hb:0<b):∀ (m:Nat) (f:Nat->Int),(∀ i,i<m->0<=f i/\f i<b)->0<=dig b m f/\dig b m f<b ^ m
 | 0,_,_=>⟨Pd _,by show (0:Int)<b ^ 0; rw [Int.pow_zero]; decide⟩
 | m+1,f,h=>by
  have h0:=h 0 (by lia)
  have ih:=iC hb m (λi=>f (i+1)) λi hi=>h (i+1) (by lia)
  have hp:0<b ^ m:=QH hb
  unfold dig
  rw [Int.pow_succ]
  have a1:0<=f 0 * b ^ m:=Int.mul_nonneg h0.1 (by lia)
  have a2:(f 0+1) * b ^ m<=b * b ^ m:=Us (by lia) (by lia)
  rw [QI,Te] at a2
  rw [Int.mul_comm (b ^ m) b]
  lia
theorem vG (hb:0<b):∀ (m:Nat) (f:Nat->Int),(∀ i,i<m->0<=f i/\f i<b)->∀ i,i<m->dig b m f / b ^ (m - 1 - i) % b=f i
 | 0,_,_,_,hi=>absurd hi (Nat.not_lt_zero _)
 | m+1,f,h,i,hi=>by
  have ih:=vG hb m (λi=>f (i+1)) λi hi=>h (i+1) (by lia)
  have bd:=iC hb m (λi=>f (i+1)) λi hi=>h (i+1) (by lia)
  have hp:0<b ^ m:=QH hb
  unfold dig
  cases i with
  | zero =>
   rw [show m+1 - 1 - 0=m by lia,S6,Int.add_mul_ediv_right _ _ (by lia),Int.ediv_eq_zero_of_lt bd.1 bd.2,RG]
   exact Int.emod_eq_of_lt (h 0 (by lia)).1 (h 0 (by lia)).2
  | succ i =>
   have e:b ^ m=b ^ (i+1) * b ^ (m - 1 - i):=by rw [<- Int.pow_add]; congr 1; lia
   have hq:0<b ^ (m - 1 - i):=QH hb
   rw [show m+1 - 1 - (i+1)=m - 1 - i by lia,e,<- RA,S6,Int.add_mul_ediv_right _ _ (by lia),Int.pow_succ,<- RA,Int.add_mul_emod_self_right]
   exact ih i (by lia)
theorem jz (h:trim (x::p)=x::p):trim p=p:=by
 rcases List.eq_nil_or_concat p with rfl | ⟨r,z,rfl⟩
 ·rfl
 ·rw [List.concat_eq_append] at h |-
  by_cases e:z=0
  ·subst e
   rw [<- Ph,gQ] at h
   have:=congrArg QG h
   have l:=gr (x::r)
   simp only [Oz,OF,PB] at this l
   lia
  ·exact nD r e
theorem qN:∀ {p:List Int},trim p=p->p≠[]->(∀ x∈p,0<=x)->∃ i,i<p.length/\0<b9 p i
 | [],_,h,_=>absurd rfl h
 | [x],h,_,h0=>by
  refine ⟨0,by simp,?_⟩
  have:x≠0:=by rintro rfl; simp [trim] at h
  have:=h0 x (by simp)
  show 0<x
  lia
 | x::y::p,h,_,h0=>by
  obtain ⟨i,hi,hq⟩:=qN (jz h) (by simp) λz hz=>h0 z (N6 _ hz)
  exact ⟨i+1,by simp only [Oz] at *; lia,by simpa [b9] using hq⟩
theorem vH (hb:0<b):∀ (m:Nat) (f:Nat->Int),(∀ i,i<m->0<=f i/\f i<b)->(∃ i,i<m/\0<f i)->0<dig b m f
 | 0,_,_,h=>by obtain ⟨i,hi,_⟩:=h; lia
 | m+1,f,h,⟨i,hi,hq⟩=>by
  have bd:=iC hb m (λi=>f (i+1)) λi hi=>h (i+1) (by lia)
  have hp:0<b ^ m:=QH hb
  unfold dig
  cases i with
  | zero =>
   have:=Int.mul_pos hq hp
   lia
  | succ i =>
   have:=vH hb m (λi=>f (i+1)) (λi hi=>h (i+1) (by lia)) ⟨i,by lia,hq⟩
   have:=Int.mul_nonneg (h 0 (by lia)).1 (show 0<=b ^ m by lia)
   lia
theorem AV (hb:0<b):∀ (m:Nat) (p q:List Int),trim p=p->trim q=q->p.length<=m->q.length<=m->(∀ x∈p,0<=x/\x<b)->(∀ x∈q,0<=x/\x<b)->HT.lexLt p q=true->dig b m (b9 p)<dig b m (b9 q)
 | m,[],[],_,_,_,_,_,_,h=>by cases h
 | m,[],y::q,_,tq,_,lq,_,hq,_=>by
  have e:dig b m (b9 [])=0:=by
   rw [show b9 ([]:List Int)=λ_=>0 from funext λi=>by simp [b9]]; exact ja m
  rw [e]
  obtain ⟨i,hi,h0⟩:=qN tq (by simp) λx hx=>(hq x hx).1
  refine vH hb m _ (λj hj=>?_) ⟨i,by lia,h0⟩
  by_cases z:j<(y::q).length
  ·have:b9 (y::q) j=(y::q)[j]:=by unfold b9; rw [OY,Od z]; rfl
   rw [this]; exact hq _ (Ow _)
  ·have:b9 (y::q) j=0:=by simp only [b9,OY,Py (by lia:(y::q).length<=j)]; rfl
   rw [this]; lia
 | m,x::p,[],_,_,_,_,_,_,h=>by cases h
 | 0,x::p,y::q,_,_,lp,_,_,_,_=>by simp at lp
 | m+1,x::p,y::q,tp,tq,lp,lq,hp,hq,h=>by
  simp only [Oz] at lp lq
  rw [HT.cN] at h
  have rd:∀ (r:List Int),(∀ z∈r,0<=z/\z<b)->∀ j,0<=b9 r j/\b9 r j<b:=λr hr j=>by
   by_cases z:j<r.length
   ·have:b9 r j=r[j]:=by unfold b9; rw [OY,Od z]; rfl
    rw [this]; exact hr _ (Ow _)
   ·have:b9 r j=0:=by simp only [b9,OY,Py (by lia:r.length<=j)]; rfl
    rw [this]; lia
  have hp':∀ z∈p,0<=z/\z<b:=λz hz=>hp z (N6 _ hz)
  have hq':∀ z∈q,0<=z/\z<b:=λz hz=>hq z (N6 _ hz)
  unfold dig
  show x * b ^ m+dig b m (b9 p)<y * b ^ m+dig b m (b9 q)
  by_cases e:x=y
  ·rw [if_pos e] at h
   subst e
   have:=AV hb m p q (jz tp) (jz tq) (by lia) (by lia) hp' hq' h
   lia
  ·rw [if_neg e] at h
   have hxy:x<y:=of_decide_eq_true h
   have b1:=iC hb m (b9 p) λi _=>rd p hp' i
   have b2:=iC hb m (b9 q) λi _=>rd q hq' i
   have a2:(x+1) * b ^ m<=y * b ^ m:=Us (by lia) (by have hh:0<b ^ m:=QH hb; lia)
   rw [QI,Te] at a2
   lia
def Bd (b:Int) (p:List Int):Prop:=p.length<=6/\∀ x∈p,0<=x/\x<b
theorem dX (z:j<p.length):b9 p j=p[j]:=by unfold b9; rw [OY,Od z]; rfl
theorem dh (z:p.length<=j):b9 p j=0:=by unfold b9; rw [OY,Py z]; rfl
theorem FQ (hb:0<b) (h:Bd b p) (i):0<=b9 p i/\b9 p i<b:=by
 by_cases z:i<p.length
 ·rw [dX z]; exact h.2 _ (Ow _)
 ·rw [dh (by lia)]; lia
theorem qO (p):∃ m,p=trim p++N7 m 0:=by
 suffices H:∀ r:List Int,∃ m,r=N7 m 0++r.dropWhile λx=>x == 0 by
  obtain ⟨m,h⟩:=H p.reverse
  refine ⟨m,?_⟩
  have:=congrArg List.reverse h
  rw [List.reverse_reverse,TU,List.reverse_replicate] at this
  exact this
 intro r
 induction r with
 | nil=>exact ⟨0,rfl⟩
 | cons x r ih =>
  by_cases e:x=0
  ·subst e
   obtain ⟨m,h⟩:=ih
   refine ⟨m+1,?_⟩
   rw [PK,List.dropWhile_cons_of_pos (by simp),Ph,<- h]
  ·exact ⟨0,by rw [List.dropWhile_cons_of_neg (by simpa using e)]; rfl⟩
theorem eZ (p) (i):b9 (trim p) i=b9 p i:=by
 obtain ⟨m,h⟩:=qO p
 by_cases z:i<(trim p).length
 ·have e:b9 p i=b9 (trim p++N7 m 0) i:=by rw [<- h]
  rw [e]
  unfold b9
  simp only [OY]
  rw [P6 z]
 ·rw [dh (by lia)]
  have e:b9 p i=b9 (trim p++N7 m 0) i:=by rw [<- h]
  rw [e]
  unfold b9
  simp only [OY]
  rw [QN (by lia),Tw]
  split <;> rfl
theorem Ei (b) (p):pk b (trim p)=pk b p:=i9 λi _=>eZ p i
theorem qP (h:x∈trim p):x∈p:=by
 obtain ⟨m,e⟩:=qO p
 rw [e]; exact Qq _ h
theorem oR (h:Bd b p):Bd b (trim p):=⟨N3 (gr p) h.1,λx hx=>h.2 x (qP hx)⟩
theorem AW (hb:0<b) (hp:Bd b p) (hq:Bd b q) (tp:trim p=p) (tq:trim q=q) (h:HT.lexLt p q=true):pk b p<pk b q:=AV hb 6 p q tp tq hp.1 hq.1 hp.2 hq.2 h
theorem sU (hb:0<b) (hp:Bd b p) (hq:Bd b q) (tp:trim p=p) (tq:trim q=q) (h:pk b p=pk b q):p=q:=by
 by_cases e:p=q
 ·exact e
 ·exfalso
  rcases kg e with z | z
  ·have:=AW hb hp hq tp tq z; lia
  ·have:=AW hb hq hp tq tp z; lia
noncomputable def L8 (b:Int) (key:Int):List Int:=trim ((OD 6).map λ(i:Nat)=>key / b ^ (5 - i) % b)
theorem Ik (hb:0<b) (h:Bd b p):L8 b (pk b p)=trim p:=by
 have e:((OD 6).map λ(i:Nat)=>pk b p / b ^ (5 - i) % b)=p++N7 (6 - p.length) 0:=by
  refine Sy (by simp; have:=h.1; lia) λi h1 h2=>?_
  have hi:i<6:=by simpa using h1
  rw [Uh,TZ]
  have:=vG hb 6 (b9 p) (λj _=>FQ hb h j) i hi
  rw [show 6 - 1 - i=5 - i by lia] at this
  rw [show pk b p=dig b 6 (b9 p) from rfl,this]
  by_cases z:i<p.length
  ·rw [dX z,List.getElem_append_left z]
  ·rw [dh (by lia),List.getElem_append_right (by lia),List.getElem_replicate]
 unfold L8
 rw [e]
 generalize 6 - p.length=m
 induction m with
 | zero=>simp
 | succ m ih=>rw [List.replicate_succ',<- Oh,gQ]; exact ih
noncomputable def cR (B:List (Int×Int)):List (Key×D):=B.map λx=>(.inl x.1,.int x.2)
theorem jb (B) (k):bC (cR B) (.inl k)=(bC B k).map D.int:=by
 induction B with
 | nil=>rfl
 | cons t B ih =>
  by_cases e:t.1=k
  ·rw [bu e]
   show bC ((Oe t.1,D.int t.2)::cR B) _=_
   rw [bu (by rw [e])]; rfl
  ·rw [aV e,<- ih]
   show bC ((Oe t.1,D.int t.2)::cR B) _=_
   rw [aV λz=>e (Oe.inj z)]
theorem qQ (B) (k n):putD (cR B) (.inl k) (.int n)=cR (putD B k n):=by
 unfold putD
 rw [jb]
 by_cases h:(bC B k).isSome=true
 ·rw [if_pos h,if_pos (by rw [Qu]; exact h)]
  unfold cR
  rw [Oj,Oj]
  refine PY λt _=>?_
  simp only [SS]
  by_cases e:t.1=k
  ·rw [if_pos e,if_pos (by rw [e])]
  ·rw [if_neg e,if_neg λz=>e (Oe.inj z)]
 ·rw [if_neg h,if_neg (by rw [Qu]; exact h)]
  unfold cR
  simp
noncomputable def gv (b:Int) (t:aM):Int×Int:=(pk b t.1,t.2)
def Gd (b:Int) (A:List aM):Prop:=∀ t∈A,Bd b t.1/\trim t.1=t.1
theorem sV (hb:0<b) (h:Gd b A) (hp:Bd b p) (tp:trim p=p):bC (A.map (gv b)) (pk b p)=bC A p:=by
 induction A with
 | nil=>rfl
 | cons t A ih =>
  have ih:=ih λx hx=>h x (N6 _ hx)
  have ht:=h t N2
  by_cases e:t.1=p
  ·rw [bu e,NW,bu (show (gv b t).1=pk b p by unfold gv; rw [e])]; rfl
  ·rw [aV e,NW,aV λz=>e (sU hb ht.1 hp ht.2 tp z),ih]
theorem Il (hb:0<b) (h:Gd b A) (hp:Bd b p) (tp:trim p=p):putD (A.map (gv b)) (pk b p) n=(putD A p n).map (gv b):=by
 unfold putD
 rw [sV hb h hp tp]
 split
 ·rw [Oj,Oj]
  refine PY λt ht=>?_
  simp only [SS]
  by_cases e:t.1=p
  ·rw [if_pos e,if_pos (show (gv b t).1=pk b p by unfold gv; rw [e])]; rfl
  ·rw [if_neg e,if_neg (show ¬ (gv b t).1=pk b p from λz=>e (sU hb (h t ht).1 hp (h t ht).2 tp z))]
 ·simp [gv]
theorem Im (h:Gd b A) (hp:Bd b p) (tp:trim p=p):Gd b (putD A p n):=λt ht=>by
 rcases oN ht with e | e
 ·rw [e]; exact ⟨hp,tp⟩
 ·exact h t e
theorem oS (h:∀ t∈ts,Bd b t.1):Gd b (aN ts):=by
 unfold aN
 suffices H:∀ A,Gd b A->Gd b (ts.foldl fS A) from H [] (λ_ h=>by cases h)
 induction ts with
 | nil=>exact λA h=>h
 | cons u ts ih=>exact λA hA=>ih (λt ht=>h t (N6 _ ht)) _ (Im hA (oR (h u N2)) (cD _))
theorem Io (hb:0<b) (h:∀ t∈ts,Bd b t.1) (ht:Bd b t.1) :
 putD ((aN ts).map (gv b)) (pk b t.1) ((bC ((aN ts).map (gv b)) (pk b t.1)).getD 0+t.2)=(aN (ts++[t])).map (gv b):=by
 rw [qH]
 unfold fS
 rw [<- Ei b t.1,sV hb (oS h) (oR ht) (cD _),Il hb (oS h) (oR ht) (cD _)]
theorem qR:∀ {L M:List Int},L.Perm M->L.Pairwise (λx y=>y<x)->M.Pairwise (λx y=>y<x)->L=M
 | [],M,h,_,_=>by rw [List.nil_perm] at h; exact h.symm
 | x::L,[],h,_,_=>by simp at h
 | x::L,y::M,h,h1,h2=>by
  rw [QY] at h1 h2
  by_cases e:x=y
  ·subst e
   rw [qR ((List.perm_cons _).mp h) h1.2 h2.2]
  ·exfalso
   have hx:x∈M:=(N9.mp (h.subset N2)).resolve_left e
   have hy:y∈L:=(N9.mp (h.symm.subset N2)).resolve_left (Og e)
   have a:=h1.1 y hy
   have b:=h2.1 x hx
   lia
theorem oU {A:List aM} (hk:(A.map (·.1)).Nodup) {t:aM} (h:t∈A):bC A t.1=some t.2:=by
 induction A with
 | nil=>cases h
 | cons u A ih =>
  rw [NW,O8] at hk
  rcases N9.mp h with rfl | h
  ·exact bu rfl
  ·rw [aV λe=>hk.1 (by rw [e]; exact List.mem_map_of_mem h)]
   exact ih hk.2 h
theorem AX (hb:0<b) (h:∀ t∈ts,Bd b t.1) (hp:L'.Perm (((aN ts).map (gv b)).map (·.1))) (hs:L'.Pairwise λx y=>y<x):L'=(fH (aN ts)).map λt=>pk b t.1:=by
 have hg:=oS h
 have hk:=eY ts
 generalize aN ts=A at *
 refine qR (hp.trans ?_) hs ?_
 ·rw [Oj]
  exact ((bF A).map _).symm
 ·rw [PZ]
  have hs2:=gS (keys_nodup hk)
  have hm:∀ t∈fH A,t∈A:=λt ht=>(bF A).subset ht
  have hk2:(fH A).Pairwise λx y=>x.1≠y.1:=by
   have:=((bF A).map (·.1)).nodup_iff.mpr hk
   unfold RJ at this
   rwa [PZ] at this
  unfold i8 fR at hs2
  refine Th.imp_of_mem (R:=λx y=>(if true then c9 y x=true else c9 x y=true)/\x.1≠y.1) (λ{x y} hx hy q=>?_) (hs2.and hk2)
  obtain ⟨q1,q2⟩:=q
  rw [if_pos rfl] at q1
  unfold c9 at q1
  rw [if_neg (Og q2)] at q1
  exact AW hb (hg _ (hm _ hy)).1 (hg _ (hm _ hx)).1 (hg _ (hm _ hy)).2 (hg _ (hm _ hx)).2 q1
noncomputable def Ej (b:Int) (p:List Int):Int:=p.foldl (λa x=>a * b+x) 0
theorem AY (b) (p) (x):Ej b (p++[x])=Ej b p * b+x:=by unfold Ej; rw [Ub]; rfl
theorem qS (b):∀ (p:List Int) (a:Int),p.foldl (λa x=>a * b+x) a=a * b ^ p.length+dig b p.length (b9 p)
 | [],a=>by simp [dig]
 | x::p,a=>by
  rw [Pj,qS b p]
  show (a * b+x) * b ^ p.length+_=a * b ^ (p.length+1)+(x * b ^ p.length+dig b p.length (b9 p))
  rw [QI,Int.pow_succ,RA,Int.mul_comm b (b ^ p.length)]
  lia
theorem vI (b) (p):Ej b p=dig b p.length (b9 p):=by unfold Ej; rw [qS]; lia
theorem qT (k):∀ (m:Nat) (f:Nat->Int),(∀ i,m<=i->f i=0)->dig b (m+k) f=dig b m f * b ^ k
 | 0,f,h=>by
  rw [Qg,i9 (g:=λ_=>0) λi _=>h i (OB _),ja]
  show 0=0 * b ^ k
  rw [QF]
 | m+1,f,h=>by
  rw [show m+1+k=(m+k)+1 by lia]
  unfold dig
  rw [qT k m (λi=>f (i+1)) λi hi=>h (i+1) (by lia),QI,Int.pow_add,RA]
theorem Ip (h:p.length<=6):Ej b p * b ^ (6 - p.length)=pk b p:=by
 rw [vI,<- qT (6 - p.length) p.length (b9 p) λi hi=>dh hi]
 rw [show p.length+(6 - p.length)=6 by lia]
 rfl
theorem AZ (hb:0<b) (h:∀ x∈p,0<=x/\x<b):0<=Ej b p/\Ej b p<b ^ p.length:=by
 rw [vI]
 exact iC hb _ _ λi hi=>by rw [dX hi]; exact h _ (Ow _)
theorem Lk (hb:0<b) (h:Bd b p):0<=pk b p/\pk b p<b ^ 6:=iC hb _ _ λi _=>FQ hb h i
theorem two_pos (W):(0:Int)<2 ^ W:=QH (by decide)
theorem gT (W):((2:Int) ^ W)=((2 ^ W:Nat):Int):=by rw [Int.natCast_pow]; rfl
theorem A0 (hW:W<=10) (hn:n<=6):((2:Int) ^ W) ^ n<=2 ^ 60:=by
 rw [<- Int.pow_mul,gT,gT]
 exact Int.ofNat_le.mpr (Ri (by decide) (N3 (QB hW hn) (by decide)))
theorem vJ (hW:W<=10) (hn:n<=6) (h0:0<=x) (h:x<((2:Int) ^ W) ^ n):x.natAbs<2 ^ 64:=by
 have:=A0 hW hn
 have h60:(2:Int) ^ 60<2 ^ 64:=by decide
 have:x<((2 ^ 64:Nat):Int):=by rw [<- gT]; lia
 lia
theorem xN (W) (h:0<=x):Builtin.bitAnd x (1 * 2 ^ W - 1)=x % 2 ^ W:=by
 have hp:=two_pos W
 have e0:(1:Int) * 2 ^ W - 1=((2 ^ W - 1:Nat):Int):=by
  have:0<2 ^ W:=Nat.pow_pos (by decide)
  rw [Te,gT]; lia
 rw [e0]
 show (match decide (0<=x),decide (0<=((2 ^ W - 1:Nat):Int)) with
  | true,true=>(((x.toNat &&& (((2 ^ W - 1:Nat):Int)).toNat:Nat)):Int)
  | true,false=>_ | false,true=>_ | false,false=>_)=_
 rw [decide_eq_true h,decide_eq_true (Si _)]
 show ((x.toNat &&& (2 ^ W - 1):Nat):Int)=_
 rw [Nat.and_two_pow_sub_one_eq_mod,gT,Int.natCast_emod,Int.toNat_of_nonneg h]
noncomputable def cH (p q:List Int):List Int:=(OD (max p.length q.length)).map λk=>b9 p k+b9 q k
noncomputable def dY (l r:aM):aM:=(cH l.1 r.1,l.2 * r.2)
noncomputable def aO (A B:List aM):List aM:=A.flatMap λl=>B.map (dY l)
theorem jc (p q):(cH p q).length=max p.length q.length:=by simp [cH]
theorem cu (p q) (i):b9 (cH p q) i=b9 p i+b9 q i:=by
 by_cases z:i<max p.length q.length
 ·rw [dX (by rw [jc]; exact z)]; simp [cH]
 ·rw [dh (by rw [jc]; lia),dh (by lia),dh (by lia)]; rfl
theorem Ek (b) (p q):pk b (cH p q)=pk b p+pk b q:=by
 unfold pk
 rw [<- vF]
 exact i9 λi _=>cu p q i
theorem gw (h:t∈aO A B):∃ l∈A,∃ r∈B,t=dY l r:=by
 unfold aO at h
 obtain ⟨l,hl,h⟩:=Sv.mp h
 obtain ⟨r,hr,rfl⟩:=Oi.mp h
 exact ⟨l,hl,r,hr,rfl⟩
theorem nI (A B) (l):aO (A++[l]) B=aO A B++B.map (dY l):=by
 unfold aO
 rw [List.flatMap_append,Ro,Sx,OP]
theorem di (A B):(aO A B).length=A.length * B.length:=by
 induction A with
 | nil=>simp [aO]
 | cons a A ih =>
  unfold aO at *
  rw [Ro,OF,ih,NX,Oz,RE]
  lia
end EV
namespace EV
open PySem PySem.Spec PySem.Calls PyProof.Rows L2
theorem A1 {K:NR}:∀ {kvs:List (Key×D)} {ys:List (Key×V)},ys.map (·.1)=kvs.map (·.1)->ak K H (kvs.map (·.2)) (ys.map (·.2))->lO K H kvs ys
 | [],[],_,_=>.nil
 | [],y::ys,h,_=>by simp at h
 | x::kvs,[],h,_=>by simp at h
 | x::kvs,y::ys,h,r=>by
  rw [NW,NW] at h r
  obtain ⟨v,t,e,r1,r2⟩:=aC.mp r
  injection e with e1 e2
  injection h with h1 h2
  subst e1 e2
  exact .cons ⟨h1.symm,r1⟩ (A1 h2 r2)
section
variable {K:NR}
theorem Iq (h:aF c a ρ λx=>aF c b ρ λy=>∃ (kvs:List (Key×D)) (kk:Key) (d:D),x=.fdK (kvs.map (·.1)) (kvs.map (·.2))/\y.wW=some kk/\bC kvs kk=some d/\R d) (hs:CY b:=by with_unfolding_all exact λ_ _=>rfl):aF c (.Subscript a b pos) ρ R:=λσ H Hf Q S q =>
 bK (uw c.hu dz dz hs) (h σ H Hf _ S λx v H1 aP h1 r1 g1=>h1 σ H1 aP _ (S.cF g1) λy u H2 cI ⟨kvs,kk,d,e1,e2,e3,hR⟩ r2 g2=>by
  subst e1
  obtain ⟨p,ys,o,rfl,k1,k2,k3⟩:=iK.mp r1
  have kv:=(A1 k2 k3).mono g2.f
  have rel:=kv.val kk
  rw [e3] at rel
  rw [iT e2 r2]
  cases z:kC ys kk with
  | none=>rw [z] at rel; exact rel.elim
  | some v =>
   rw [z] at rel
   exact ⟨p,v,rfl,.inl ⟨ys,kk,.inr ⟨o,g2.b _ _ (g2.f _ _ k1)⟩,rfl,z.symm⟩,q d v H2 cI hR rel (g1.trans g2)⟩)
end
end EV
namespace EV
open PySem PySem.Spec PyProof.Rows L2
theorem qU {A:List aM} {l:List Int} {n:Int} {t:aM} (h:t∈putD A l n):t=(l,n)\/t∈A:=by
 unfold putD at h
 split at h
 ·obtain ⟨u,hu,e⟩:=Oi.mp h
  split at e
  ·rename_i q; subst e; exact .inl (by rw [q])
  ·subst e; exact .inr hu
 ·rcases Om.mp h with q | q
  ·exact .inr q
  ·simp at q; exact .inl q
theorem Ir {A:List aM} (h:∀ t∈A,t.2.natAbs<=c) (l):((bC A l).getD 0).natAbs<=c:=by
 unfold bC
 cases e:A.find? (λkv=>decide (kv.1=l)) with
 | none=>exact OB _
 | some u=>exact h u (List.mem_of_find?_eq_some e)
theorem vK:∀ (ts A:List aM) (c:Nat),(∀ t∈A,t.2.natAbs<=c)->(∀ t∈ts,t.2.natAbs<=m)->∀ t∈ts.foldl fS A,t.2.natAbs<=c+ts.length * m
 | [],A,c,h,_,t,ht=>by simpa using h t ht
 | u::ts,A,c,h,g,t,ht=>by
  have:=vK (m:=m) ts (fS A u) (c+m) (λt' ht'=>by
   rcases qU ht' with rfl | q
   ·have a:=Ir h (trim u.1)
    have b:=g u N2
    show ((bC A (trim u.1)).getD 0+u.2).natAbs<=c+m
    omega
   ·have:=h t' q; omega) (λt h=>g t (N6 _ h)) t ht
  rw [Oz,RE]
  omega
theorem Iu (h:∀ t∈ts,t.2.natAbs<=m):∀ t∈aN ts,t.2.natAbs<=ts.length * m:=λt ht=>by
 have:=vK ts [] 0 (by simp) h t ht
 omega
theorem xO (l m:List Int):jY (n+1) (.tup (l.map D.int)) (.tup (m.map D.int)):=.tup λi d e h1 h2=>by
 simp only [NZ,N8] at h1 h2
 obtain ⟨a,_,rfl⟩:=h1
 obtain ⟨b,_,rfl⟩:=h2
 exact .sc rfl
theorem qV (x y):jY (n+2) (aR x) (aR y):=.tup λi d e h1 h2=>by
 rcases i with _ | _ | i
 ·simp at h1 h2; subst h1 h2; exact xO _ _
 ·simp at h1 h2; subst h1 h2; exact .sc rfl
 ·simp at h1
theorem A2 (L M:List aM):jY (n+3) (.lst (L.map aR)) (.lst (M.map aR)):=.lst λi d e h1 h2=>by
 simp only [NZ,N8] at h1 h2
 obtain ⟨a,_,rfl⟩:=h1
 obtain ⟨b,_,rfl⟩:=h2
 exact qV a b
theorem A3 (es):n5 [] es:=λi d e h _=>by simp at h
theorem jA (h:jY 40 d e) (t:n5 ds es):n5 (d::ds) (e::es):=λi a b h1 h2=>by
 cases i with
 | zero=>simp at h1 h2; subst h1 h2; exact h
 | succ i=>exact t i a b (by simpa using h1) (by simpa using h2)
theorem xP (L M:List aM):n5 (L.map aR) (M.map aR):=λi d e h1 h2=>by
 simp only [NZ,N8] at h1 h2
 obtain ⟨a,_,rfl⟩:=h1
 obtain ⟨b,_,rfl⟩:=h2
 exact qV a b
theorem lF (h:n5 ds ds) (t:T true):Dg (.lst ds) (.lst ds) T:=Di ⟨h,by rw [decide_eq_true rfl]; exact t⟩
section
variable {K:NR}
theorem int_mk (KX:K.In h) (G:h.Ns mainGlobals mg) (a:OS K mainGlobals x=some (some (.int i tk))):∃ tk:Tok,mg x=some (.int i tk):=⟨tk,PySem.W.mg_of KX G a⟩
theorem vL (P) (w) (base) {st:Stmt} (D:aD K mg x st) (ok:∀ {f:Addr} {fd:FuncData},fC K x x st f fd->bz P w K mg base (dU P w) k f fd ps (Ia K F))
 (hb:∀ (kV doc pm:Value) (an:Option Addr) (cdv ct:Value) (us:List Value),us.length=ps.length->bindArgs (PR x x (fj st) (ay st) (aL st) .none kV doc pm an cdv ct) ⟨us,[]⟩=pure (ps.zip us):=by intro _ _ _ _ _ _ us hl; first | (obtain ⟨a,rfl⟩:=HN us hl; rfl) | (obtain ⟨a,b,rfl⟩:=HP us hl; rfl) | (obtain ⟨a,b,c,rfl⟩:=HQ us hl; rfl) | (obtain ⟨a,b,c,d,rfl⟩:=HR us hl; rfl) | (obtain ⟨a,b,c,d,e,rfl⟩:=len5 us hl; rfl) | (obtain ⟨a,b,c,d,e,f,rfl⟩:=len6 us hl; rfl) | (obtain rfl:=len0 us hl; rfl)):D9 P w K mg base k x F :=
 let ⟨f,fd,m,Fu⟩:=D; ⟨f,fd,ps,m,Fu.kp,Fu.binds hb,ok Fu⟩
end
theorem iD (h:n<=100000):n<sizeLine:=PM h (by decide)
theorem qW (h:n<=100000):n<=sizeLine:=Qh (iD h)
structure l8 (P:Program) (w:World) (K:NR) (mg:Str->Option Value) (base:Heap) (k:Nat) (f:Addr) (F:Fn):Prop where
 ex:∃ fd ps,PD K (.ref f)=true/\Binds K fd ps []/\bz P w K mg base (dU P w) k f fd ps (fM K F)
section
variable {K:NR} {c:Ctx P w K mg base k N sc bk}
theorem fO.at_ (h:fO P w K mg base j x F):∃ f,mg x=some (.ref f)/\l8 P w K mg base j f F:=by
 obtain ⟨f,fd,ps,a,b,c,d⟩:=h.ex
 exact ⟨f,a,fd,ps,b,c,d⟩
theorem Iv (hm:mg x=some (.ref f)) (hR:R (.adr f)) (hg:sc.names.lookup x=some .globalImplicit:=by walk_at "u") (hd:(x == ("__debug__":Str))=false:=by decide) :
 aF c (.Name x pos) ρ R:=λσ H Hf Q S q =>
 bK (ud (X:=c.X) (v:=.ref f) (u:=.ref f) (by unfold Gl Ox; rw [c.esc]; exact hg) (by rw [c.emg]; exact hm) rfl hd) (q _ _ H Hf hR (dN.mpr rfl) (.refl S.sb))
theorem A4 (h:l8 P w K mg base j f F) (hj:j<=k):PD K (.ref f)=true /\
 ∀ (aa:List (Addr×Obj)) (σ:L2.St) (H Hf:Hp) (s:Shared) (us:List Value) (vs:List V) (ds:List D) (r:Res) (Q:VK),Inv c.X aa σ H s->bw c σ H Hf ρ->Vals vs us->ak c.X.K Hf ds vs->F ds r ->
  (∀ sl v H' ah,r=.ok sl->aU c.X.K (λp=>H p=none) H' ah sl v->br H Hf H' ah->Q v H')->(∀ C,r=.ex C->c.RX C ρ)->wpAny (model c.X.prog c.X.w) c.X.A (call (.ref f) us) (EP c.X aa σ Q) c.X.xe s:=by
 obtain ⟨fd,ps,hk,hb,hF⟩:=h.ex
 refine ⟨hk,λaa σ H Hf s us vs ds r Q I S rv rs hr q hx=>?_⟩
 have hF':bz c.X.prog c.X.w c.X.K c.X.mg c.X.base (dU c.X.prog c.X.w) k f fd ps (fM c.X.K F):=by rw [c.eP,c.ew,c.eK,c.emg,c.eb]; exact hF.mono hj
 have pF:fM c.X.K F vs H Q (λcv ao H'=>∃ C,r=.ex C/\cv=.ref C/\aG H H'):=by
  refine ⟨Hf,ds,r,S.bas.b,rs,hr,?_⟩
  cases r with
  | ok sl=>exact λv H' ah g rs2=>q sl v H' ah rfl rs2 g
  | ex C=>exact λa H' s2=>⟨C,rfl,rfl,s2⟩
 have hl:us.length=ps.length:=by rw [<- rv.length]; exact hF'.len _ _ _ _ pF
 have hb':Binds c.X.K fd ps []:=by rw [c.eK]; exact hb
 have hb2:=hb' s us I.nN (by simpa using hl)
 rw [OP] at hb2
 refine Q8 (Q5 (hF'.run c.X.A c.X.stack s H ⟨us,[]⟩ us vs Q _ c.room I.CN hb2 rv pF) λr' s' hq=>?_)
 cases r' with
 | error e =>
  obtain ⟨a,C,H',rfl,hE,C',e1,e2,sm⟩:=hq
  cases e2
  exact c.exc C a aa σ H Hf ρ s H' s' I S (hx C e1) hE sm
 | ok fl =>
  cases fl with
  | ret u=>exact I.after hq
  | next=>exact OT hq
  | brk=>exact OT hq
  | cont=>exact OT hq
theorem jd {R:Sl->Prop} (h:l8 P w K mg base j f F) (hj:j<=k) (hN:At N i x) (hi:At ρ i (.va (.adr f)))
 (ha:nY c (e::es) ρ λds=>∃ r,F ds r/\Hl c ρ R r)
 (hdb:(x == ("__debug__":Str))=false:=by decide) (hcd:(x == ("__classdict__":Str))=false:=by decide) (he:∀ env,starEach (e::es) env=(false,eval e env)::starEach es env:=by intro _; walk_at "u")
 (hpl:∀ env,(backTo pos (starEach es env)).any (·.1)=false:=by intro _; walk_at "u"):cS c (.Call (.Name x p) (e::es) [] pos) ρ R:=λσ H Hf Q S q aa s I=>by
 obtain ⟨hk,run⟩:=A4 (c:=c) (ρ:=ρ) h hj
 obtain ⟨v0,e0,r0⟩:=S.va hi.get
 rw [dN] at r0
 subst r0
 refine Pz (bD (c.jo hN hdb hcd aa s σ H (λv H1=>v=.ref f/\H1=H) I ⟨_,e0,rfl,rfl⟩) λfv s1 ⟨v,H1,I1,rv,e1,e2⟩=>?_)
 subst e1 e2
 have ef:fv=.ref f:=rv
 subst ef
 refine Sb (h₀:=c.X.base) I1.ok.mod.kin (by rw [c.eK]; exact hk) (bD (ha σ _ Hf (λvs H1=>∃ aP ds,(∃ r,F ds r/\Hl c ρ R r)/\ak c.X.K aP ds vs/\br _ Hf H1 aP) S (λds vs H1 aP hr rs g=>⟨aP,ds,hr,rs,g⟩) pos aa s1 I1) λus s2 ⟨vs,H2,I2,rv,aP,ds,⟨r,hF,hR⟩,rs,g⟩=>⟨I2.nN,?_⟩) (he _) (hpl _)
 refine run aa σ H2 aP s2 us vs ds r Q I2 (S.cF g) rv rs hF (λsl v H' ah e1 rs2 g2=>?_) λC e1=>?_
 ·subst e1
  exact q sl v H' ah hR (rs2.weak λp hp=>g.s.free hp) (g.trans g2)
 ·subst e1
  exact hR
end
end EV
namespace EV
open PySem PySem.Spec PySem.Calls PyProof.Rows L2
theorem xQ (hc:X.calm=true) (I:Inv X aa σ H s) (sb:aG Hf H) (hv:s.heap.IsItemsView v d) (hH:Hf d=some (.frz o u)) (hd:HO.dct u) (hp:Paired (m8 X.K Hf) ds (bO u))
 (hQ:∀ (a:Addr) (s':Shared) (H' ah:Hp) (xs:List V),Inv X aa σ H' s'->H' a=some (.lst xs)->H a=none->ah a=none->ak X.K ah ds xs->br H Hf H' ah->Q (.ref a) s'):wpAny (model X.prog X.w) X.A (call (.type "list") [.ref v]) Q E s:=by
 obtain ⟨ho,ok⟩:=(show bq X.prog X.w H s.heap d (.frz o u) from I.hok d _ (sb _ _ hH))
 obtain ⟨_,_,_,_,_,_,hz⟩:=cP ok hd ho
 have h1:X.A.in1.handled=none:=I.ok.hd hc
 have h2:X.A.in1.frames=some X.stack:=I.ok.frames
 refine callType_codes (Q₁:=λobj s₁=>obj=.ref s.heap.objs.size/\s₁={ s with heap:=s.heap.push { cls:=.type "list",data:=.seq #[] } }) F.called_list (F.typeCall_list_1 _) F.entry_list_init
  (code_list_new _ ⟨rfl,rfl⟩) λobj s₁ h₁=>?_
 obtain ⟨rfl,rfl⟩:=h₁
 have hS:(s.heap.push { cls:=.type "list",data:=.seq #[] }).get? s.heap.objs.size=some { cls:=.type "list",data:=.seq #[] }:=Ob _ rfl
 refine ⟨⟨_,hS,rfl⟩,F.args_list_init_2 _ _,?_⟩
 show wpAny _ X.A.in1.in1 (do let old <- Rh (.ref s.heap.objs.size); P8 (.ref s.heap.objs.size) (λ_=> #[]); letGo old.toList.reverse; RQ (.ref s.heap.objs.size) (.ref v) .none) _ _ _
 refine NP (RD hS rfl ?_)
 have HS:H s.heap.objs.size=none:=I.hok.fresh (NT _)
 have I1:Inv X aa σ (upd H s.heap.objs.size (.lst [])) { s with heap:=s.heap.push { cls:=.type "list",data:=.seq ([]:List Value).toArray },toks:=s.toks }:=I.CU (t':=s.toks) (ys:=[]) (its:=[]) .nil (OB _)
 refine NP (Po hS rfl ?_)
 have I2:=I1.r9 (f:=λ_=>(#[]:Array Value)) (its':=[]) (ys:=[]) (t':=s.toks) af (n:=0) hS (by simp) .nil (OB _)
 rw [nL] at I2
 refine NP (S9 ?_)
 have k1:∀ b o,s.heap.get? b=some o->((s.heap.push { cls:=.type "list",data:=.seq ([]:List Value).toArray }).update s.heap.objs.size (OC λ_=>(#[]:Array Value))).get? b=some o:=λb o e=>by
  rw [Qa _ _ _ _ (Ou (N1 e))]
  exact NY _ e
 have up:∀ s':Shared,(∀ b o,s.heap.get? b=some o->s'.heap.get? b=some o)->s'.heap.IsItemsView v d:=λs' k=>by obtain ⟨q,q1,q2⟩:=hv; exact ⟨q,k _ _ q1,q2⟩
 have hne:s.heap.objs.size≠v:=Q6 (by obtain ⟨_,q,_⟩:=hv; exact N1 q)
 have g0:br H Hf (upd H s.heap.objs.size (.lst [])) Hf:=br.gh sb HS
 refine nC (X:=DS X X.A.in1) (T:="dict_items") (ds:=ds) (H:=H) (Hf:=Hf) (R:=wants (λr s₂=>r=.none/\Q (.ref s.heap.objs.size) s₂) E) hc h1 h2 (jw I2 (λ_=>h1) h2) sb HS hne ?_ (by rw [Pc hp]; exact hz) (by decide) (λs' k=>(up s' λb o e=>k b o (k1 b o e)).typeIs) (λA s' Q E q h=>xy q h) ?_ λs' H' ah xs I' hS' hfS hr g=>⟨rfl,hQ _ s' H' ah xs (gq I.ok I') hS' HS hfS hr g⟩
 ·show _<(Heap.update _ _ _).objs.size
  rw [Ui]
  show _<(Heap.push _ _).objs.size
  rw [Qd]; exact Qw _
 ·refine OI (DU (X:=DS X X.A.in1) (tg:=.Name "x" ⟨0,0,0,0⟩) (jw I2 (λ_=>h1) h2) (up _ k1) (g0.b _ _ hH) hd) (λitv s2 hh=>z3 hh λit es ep hh=>w7 hh λe hit I3 Tn t0 hf k2=>?_) λ_ _ x=>x
  exact ⟨it,_,_,e,hit,I3,Tn,t0,hf,k2,sI hH hp⟩
section
variable {K:NR} {c:Ctx P w K mg base k N sc bk}
theorem qX (hm:mg "list"=none) (h:aF c e ρ λd=>∃ ds,d.pairs=some ds/\R (.ow ds)) (hg:sc.names.lookup (NQ "list")=some .globalImplicit:=by walk_at "u")
 (hb:∀ env,attributeBase e "items" env (eval e env)=eval e env:=by intro _; walk_at "u") (hl:(ap.endLine == cp.line)=true:=by walk_at "u") :
 cS c (.Call (.Name "list" np) [.Call (.Attribute e "items" ap) [] [] cp] [] pos) ρ R:=λσ H Hf Q S q aa s I=>by
 have hgl:Gl c.X "list":=by unfold Gl Ox; rw [c.esc]; exact hg
 refine Pz (dR I hgl (by rw [c.emg]; exact hm) (show bootBuiltins "list"=some (.type "list") by decide +kernel) ?_ (by decide) (by decide))
 have hpa:=bR (X:=c.X) (e:=.Call (.Attribute e "items" ap) [] [] cp) (es:=[]) (AA dz (hb _) hl) dS (by rfl)
 refine Rf (bD (hpa pos aa s σ H (λvs H1=>∃ x,vs=[x]/\∃ (v d:Addr) (o:Obj) (u:HO) (ds:List D) (H0 CC:Hp),x=.ref v/\H1=upd H0 v (.ext λh=>h.IsItemsView v d)/\H0 v=none/\CC d=some (.frz o u)/\HO.dct u/\Paired (m8 c.X.K CC) ds (bO u)/\br H Hf H0 CC/\R (.ow ds)) I ?_) λus s1 hh=>z2 hh λvs H1 hh=>w3 hh λI1 r1 hh=>hh.elim λx hh=>w2 hh λex hh=>z4 hh λv d o u hh=>z3 hh λds H0 CC hh=>w8 hh λe1 e2 e3 e4 e5 e6 e8 e9=>?_) (by rfl) (by rfl)
 ·exact h σ H Hf _ S λd v H1 aP ⟨ds,hp,hR⟩ rv g=>by
   obtain ⟨a,o,u,e1,e2,e3,e4⟩:=xm hp rv
   exact ⟨a,o,u,e1,g.b _ _ e2,e3,λvw hv=>⟨_,rfl,vw,a,o,u,ds,H1,aP,rfl,rfl,hv,e2,e3,e4,g,hR⟩⟩
 ·subst ex e1 e2
  have eu:us=[.ref v]:=by
   cases r1 with
   | cons q1 q2=>cases q2; cases q1; rfl
  subst eu
  have g1:br H0 CC (upd H0 v (.ext λh=>h.IsItemsView v d)) CC:=br.gh e8.b e3
  obtain ⟨hvw,_⟩:=(show bq c.X.prog c.X.w _ s1.heap v (.ext λh=>h.IsItemsView v d) from I1.hok v _ af)
  refine xQ c.calm I1 g1.b hvw e4 e5 e6 λa s' H' ah xs I' hS' na yw hr g=>?_
  have gg:=(e8.trans g1).trans g
  exact ⟨.ref a,H',I',rfl,q (.ow ds) _ _ ah e9 ⟨a,xs,rfl,e8.s.free (g1.s.free na),hS',yw,hr⟩ gg⟩
end
theorem A5 {K:NR}:∀ {ds:List D} {xs:List V} {us:List Value},ak K Hf ds xs->Vals xs us->Paired (λd u=>jS K Hf d u) ds us
 | [],xs,us,h,v=>by rw [aA] at h; subst h; cases v; exact .nil
 | t::L,xs,us,h,v=>by
  obtain ⟨x,r,rfl,h1,h2⟩:=aC.mp h
  cases v with
  | cons r1 r2=>exact .cons ⟨x,r1,h1⟩ (A5 h2 r2)
theorem A6 {K:NR}:∀ {ds:List D} {us:List Value},Paired (λd u=>jS K Hf d u) ds us->∃ xs,ak K Hf ds xs/\Vals xs us
 | _,_,.nil=>⟨[],aA.mpr rfl,.nil⟩
 | _,_,.cons ⟨x,r1,h1⟩ t=>by
  obtain ⟨xs,h2,h3⟩:=A6 t
  exact ⟨x::xs,.cons h1 h2,.cons r1 h3⟩
theorem sW (hc:X.calm=true) (I:Inv X aa σ H s) (sb:aG Hf H) (hl:gI X.K Hf l ys) (hr:ak X.K Hf ds ys) (hd:∀ d∈ds,∃ es,d=.lst es)
 (hQ:∀ (ds':List D) (xs':List V) (s':Shared) (a:Addr),ds'.Perm ds->ak X.K Hf ds' xs'->H a=none->Inv X aa σ (upd H a (.lst xs')) s'->Q (.ref a) s') :
 wpAny (model X.prog X.w) X.A (call (.builtin "sorted") [.ref l] [(NQ "key",.builtin "len")]) Q E s:=by
 refine call_function_entry_kw kind_sorted plain_sorted entry_sorted (SR.jR _ _) ?_
 unfold Builtin.«sorted»
 refine NP (m:=checkCount "sorted" 1 1 _) (NS ?_)
 obtain ⟨its,rv,p,hz⟩:=I.list (sb.seq hl)
 have el:=rv.length
 refine NP (collect_list p.isList ?_ (by lia))
 have I2:Inv X aa σ H { s with heap:=(s.heap.push (seqObj "list" #[] 0)).update s.heap.objs.size (OC (· ++its.toArray)),toks:=s.toks }:=I.kept λc o e=>by
  rw [Qa _ _ _ _ (Ou (N1 e))]
  exact NY _ e
 generalize (s.heap.push (seqObj "list" #[] 0)).update s.heap.objs.size (OC (· ++its.toArray))=h0 at I2 |-
 refine NP (Ry ?_ (by lia))
 have ha:(h0.push (seqObj "list" its.toArray 0)).get? h0.objs.size=some (seqObj "list" its.toArray 0):=Ob _ rfl
 have Ha:H h0.objs.size=none:=I2.hok.fresh (NT _)
 have k2:∀ b o,h0.get? b=some o->(h0.push (seqObj "list" its.toArray 0)).get? b=some o:=λb o e=>NY _ e
 have I3:Inv X aa σ H { s with heap:=h0.push (seqObj "list" its.toArray 0),toks:=s.toks }:=I2.kept (t':=s.toks) k2
 have pL:=A5 hr rv
 refine NP (O6 (TQ slot_list_sort ⟨_,ha,rfl⟩ entry_list_sort (SR.Ax ha (by lia) (λv hv=>?_) λout h' tk e hp he hk=>⟨_,rfl,?_⟩) (SR.iz _ _)))
 ·obtain ⟨d,hd',x,r1,h1⟩:=SR.iy pL v hv
  obtain ⟨es,rfl⟩:=hd d hd'
  obtain ⟨b,zs,rfl,q1,q2⟩:=bf.mp h1
  cases r1
  obtain ⟨its',rv',p',hz'⟩:=I3.list (sb.seq q1)
  have e':=rv'.length
  refine ⟨b,its'.toArray,rfl,?_,p'.isList,by simp only [Of]; lia⟩
  rintro rfl
  obtain ⟨_,_,p2,_⟩:=I2.list (sb.seq q1)
  obtain ⟨o,q,_⟩:=p2.isList
  exact Pw _ (N1 q)
 ·obtain ⟨ds',p1,p2⟩:=SR.gp hp pL
  obtain ⟨xs',r',v'⟩:=A6 p2
  have hlen:out.toList.length=its.length:=hp.length_eq
  refine NS ⟨_,rfl,hQ ds' xs' _ _ p1 r' Ha ?_⟩
  refine I2.laid (t':=tk) (a:=h0.objs.size) (λb o q=>hk b o (Ou (N1 q)) (k2 b o q)) (NT _) ⟨by have:=v'.length; lia,out.toList,e,v',by simpa using he⟩
section
variable {K:NR} {c:Ctx P w K mg base k N sc bk}
theorem xR (hm:mg "sorted"=none) (hml:mg "len"=none) (h:aF c e ρ λd=>∃ ds,d=.lst ds/\Sd (∀ x∈ds,∃ es,x=.lst es) (∀ ds':List D,ds'.Perm ds->R (.ow ds')))
 (hg:sc.names.lookup (NQ "sorted")=some .globalImplicit:=by walk_at "u") (hgl:sc.names.lookup (NQ "len")=some .globalImplicit:=by walk_at "u")
 (he:∀ env,starEach [e] env=(false,eval e env)::starEach [] env:=by intro _; walk_at "u")
 (hpl:∀ env,(backTo pos (starEach [e] env)).any (·.1)=false:=by intro _; walk_at "u") :
 cS c (.Call (.Name "sorted" np) [e] [⟨some "key",.Name "len" kp1,kp⟩] pos) ρ R:=λσ H Hf Q S q aa s I=>by
 have hgs:Gl c.X "sorted":=by unfold Gl Ox; rw [c.esc]; exact hg
 have hgl':Gl c.X "len":=by unfold Gl Ox; rw [c.esc]; exact hgl
 refine Pz (dR I hgs (by rw [c.emg]; exact hm) (show bootBuiltins "sorted"=some (.builtin "sorted") by decide +kernel) ?_ (by decide) (by decide))
 refine callWith_kw ?_ (by rw [he]; rfl) (hpl _)
 have hpa:=bR (X:=c.X) (e:=e) (es:=[]) dz dS (he _)
 refine bD (hpa pos aa s σ H (λvs H1=>∃ x,vs=[x]/\∃ (ds:List D) (aP:Hp),Rep c.X.K aP (.lst ds) x/\(∀ x∈ds,∃ es,x=.lst es)/\br H Hf H1 aP/\∀ ds':List D,ds'.Perm ds->R (.ow ds')) I ?_) λus s1 hh=>z2 hh λvs H1 hh=>w3 hh λI1 r1 hh=>hh.elim λx hh=>w2 hh λex hh=>z2 hh λds aP hh=>w4 hh λe1 e7 e8 e9=>?_
 ·exact h σ H Hf _ S λd v H1 aP ⟨ds,hp,⟨hn,hR⟩⟩ rv g=>⟨_,rfl,ds,aP,by rw [<- hp]; exact rv,hn,g,hR⟩
 ·subst ex
  obtain ⟨a0,ys,rfl,hs,hr⟩:=bf.mp e1
  have eu:us=[.ref a0]:=by
   cases r1 with
   | cons q1 q2=>cases q2; cases q1; rfl
  subst eu
  refine kws_cons (dR I1 hgl' (by rw [c.emg]; exact hml) (show bootBuiltins "len"=some (.builtin "len") by decide +kernel) ?_ (by decide) (by decide))
  refine kws_nil ?_
  exact sW c.calm I1 e8.b hs hr e7 λds' xs' s' a p1 p3 na I3=>⟨.ref a,_,I3,rfl,q (.ow ds') _ _ aP (e9 ds' p1) ⟨a,xs',rfl,e8.s.free na,af,e8.b.free na,p3⟩ (e8.trans (br.gh e8.b na))⟩
end
mutual
def Sh.d:Sh->D
 | .v d=>d
 | .l ds=>.lst ds
 | .la _ ds=>.lst ds
 | .t ss=>.tup (Sh.ds ss)
 | .ls ss=>.lst (Sh.ds ss)
def Sh.ds:List Sh->List D
 | []=>[]
 | s::ss=>s.d::Sh.ds ss
end
section
variable {K:NR} {H Hf H' ah:Hp}
mutual
theorem aI.rep (sf:aG Hf ah):∀ (s:Sh) {v:V} {fp:Fp},(∀ a∈fp,ah a.1=some (.lst a.2))->aI K H Hf s v fp->Rep K ah s.d v
 | .v d,_,_,_,h=>by simp only [aI] at h; exact h.1.mono sf d
 | .l ds,_,_,hk,h=>by
  simp only [aI] at h
  obtain ⟨p,xs,e,h1,h2,h3,rfl⟩:=h
  exact bf.mpr ⟨p,xs,e,.inl (.inl (hk _ N2)),h3.mono sf ds⟩
 | .la p ds,_,_,hk,h=>by
  simp only [aI] at h
  obtain ⟨xs,e,h1,h2,h3,rfl⟩:=h
  exact bf.mpr ⟨p,xs,e,.inl (.inl (hk _ N2)),h3.mono sf ds⟩
 | .t ss,_,_,hk,h=>by
  simp only [aI] at h
  obtain ⟨a,xs,e,h1,h2⟩:=h
  exact aH.mpr ⟨a,xs,e,au sf h1,ai.rep sf ss hk h2⟩
 | .ls ss,_,_,hk,h=>by
  simp only [aI] at h
  obtain ⟨p,xs,fq,e,h1,h2,h3,rfl⟩:=h
  exact bf.mpr ⟨p,xs,e,.inl (.inl (hk _ N2)),ai.rep sf ss (λa ha=>hk a (N6 _ ha)) h3⟩
theorem ai.rep (sf:aG Hf ah):∀ (ss:List Sh) {xs:List V} {fp:Fp},(∀ a∈fp,ah a.1=some (.lst a.2))->ai K H Hf ss xs fp->ak K ah (Sh.ds ss) xs
 | [],_,_,_,h=>by simp only [ai] at h; exact aA.mpr h.1
 | s::ss,_,_,hk,h=>by
  simp only [ai] at h
  obtain ⟨x,r,f1,f2,e,h1,h2,rfl⟩:=h
  exact aC.mpr ⟨x,r,e,aI.rep sf s (λa ha=>hk a (Qq _ ha)) h1,ai.rep sf ss (λa ha=>hk a (OV _ ha)) h2⟩
end
noncomputable def gx (H:Hp) (fp:Fp):Hp:=λa=>if a∈fp.map (·.1) then none else H a
noncomputable def dJ (g:Addr->List V->HO):Fp->Hp->Hp
 | [],H=>H
 | p::fp,H=>upd (dJ g fp H) p.1 (g p.1 p.2)
noncomputable def l9:Addr->List V->HO:=λ_ xs=>.lst xs
theorem dw (h:a∉fp.map (·.1)):gx H fp a=H a:=if_neg h
theorem kh (h:a∈fp.map (·.1)):gx H fp a=none:=if_pos h
theorem aE:∀ {fp:Fp},a∉fp.map (·.1)->dJ g fp H a=H a
 | [],_=>rfl
 | p::fp,h=>by
  rw [NW,N9,not_or] at h
  show upd _ _ _ a=_
  rw [aj h.1,aE h.2]
theorem cj:∀ {fp:Fp},(fp.map (·.1)).Nodup->∀ a∈fp,dJ g fp H a.1=some (g a.1 a.2)
 | p::fp,nd,a,ha=>by
  rw [NW,O8] at nd
  show upd _ _ _ a.1=_
  rcases N9.mp ha with rfl | ha
  ·exact af
  ·rw [aj λe=>nd.1 (by rw [<- e]; exact Oi.mpr ⟨a,ha,rfl⟩)]
   exact cj nd.2 a ha
theorem bH {fp:Fp} (h:a∈fp.map (·.1)):∃ p∈fp,p.1=a:=Oi.mp h
theorem xS (hp:∀ a∈fp,∃ xs,Hf a.1=some (.lst xs)) (h:dB K Hf a xs):dB K (gx Hf fp) a xs:=by
 have no:∀ {o:HO},Hf a=some o->(∀ ys,o≠.lst ys)->gx Hf fp a=some o:=λe k=>by
  rw [dw λm=>by obtain ⟨p,hm,rfl⟩:=bH m; obtain ⟨ys,e2⟩:=hp p hm; rw [e] at e2; cases e2; exact k _ rfl]; exact e
 rcases h with (h | ⟨o',h⟩) | h
 ·exact .inl (.inl (no h (by intro _ z; cases z)))
 ·exact .inl (.inr ⟨o',no h (by intro _ z; cases z)⟩)
 ·exact .inr h
mutual
theorem El {fp:Fp} (hp:∀ a∈fp,∃ xs,Hf a.1=some (.lst xs)):∀ (d:D) {v:V},d.nl->Rep K Hf d v->Rep K (gx Hf fp) d v
 | .non,_,_,h=>by simpa [Rep] using h
 | .bl _,_,_,h=>by simpa [Rep] using h
 | .int _,_,_,h=>by simpa [Rep] using h
 | .str _,_,_,h=>by simpa [Rep] using h
 | .adr _,_,_,h=>by simpa [Rep] using h
 | .tup ds,v,f,h=>by
  simp only [Rep] at h |-
  obtain ⟨a,xs,e,h1,h2⟩:=h
  exact ⟨a,xs,e,xS hp h1,lG hp ds (by simpa [D.nl] using f) h2⟩
 | .lst _,_,f,_=>by simp [D.nl] at f
 | .fdK _ _,_,f,_=>by simp [D.nl] at f
 | .fdT _ _,_,f,_=>by simp [D.nl] at f
 | .exc C,_,_,h=>by
  simp only [Rep] at h |-
  obtain ⟨a,e,h⟩:=h
  refine ⟨a,e,?_⟩
  rw [dw λm=>by obtain ⟨p,hm,rfl⟩:=bH m; obtain ⟨ys,e2⟩:=hp p hm; rw [h] at e2; cases e2]; exact h
theorem lG {fp:Fp} (hp:∀ a∈fp,∃ xs,Hf a.1=some (.lst xs)):∀ (ds:List D) {xs:List V},D.lQ ds->ak K Hf ds xs->ak K (gx Hf fp) ds xs
 | [],_,_,h=>by simpa [ak] using h
 | d::ds,xs,f,h=>by
  simp only [ak] at h |-
  simp only [D.lQ] at f
  obtain ⟨x,r,e,h1,h2⟩:=h
  exact ⟨x,r,e,El hp d f.1 h1,lG hp ds f.2 h2⟩
end
theorem qY (nd:(fp.map (·.1)).Nodup) (hz:∀ a∈fp,H a.1=some (pl a.1 a.2)/\Hf a.1=none) (g:br (dJ l9 fp H) (dJ l9 fp Hf) H' ah):br H Hf (dJ pl fp H') (gx ah fp):=by
 refine ⟨λb o e=>?_,λb o e=>?_,λb o e=>?_,λb h1 h2 h3=>?_⟩
 ·by_cases m:b∈fp.map (·.1)
  ·obtain ⟨p,hp,rfl⟩:=bH m
   rw [cj nd p hp,<- (hz p hp).1]; exact e
  ·rw [aE m]; exact g.s b o (by rw [aE m]; exact e)
 ·have m:b∉fp.map (·.1):=λm=>by obtain ⟨p,hp,rfl⟩:=bH m; rw [(hz p hp).2] at e; cases e
  rw [dw m]; exact g.f b o (by rw [aE m]; exact e)
 ·by_cases m:b∈fp.map (·.1)
  ·rw [kh m] at e; cases e
  ·rw [dw m] at e; rw [aE m]; exact g.b b o e
 ·by_cases m:b∈fp.map (·.1)
  ·exact kh m
  ·rw [dw m]; exact g.n b (by rw [aE m]; exact h1) (by rw [aE m]; exact h2) λxs=>by rw [aE m]; exact h3 xs
end
theorem FT:bq P w H h p (pl p xs)↔bq P w H h p (.lst xs):=by
 constructor
 ·exact λq=>q.1
 ·rintro ⟨z,its,n,r,e⟩
  exact ⟨⟨z,its,n,r,e⟩,⟨_,e⟩,λh1 h2 ⟨z,its,n,r,e⟩ k=>⟨z,its,n,r,k _ e⟩⟩
theorem oV (I:Inv X aa σ H s) (h:H a=some (.lst xs)):Inv X aa σ (upd H a (pl a xs)) s :=
 oq I h (by intro _ z; cases z) (by intro _ z; cases z) (by intro _ z; cases z) (λo z e=>by have q:=I.base.frzs a o z e; rw [h] at q; cases q) (FT.mpr (I.hok a _ h))
theorem A7 (I:Inv X aa σ H s) (h:H a=some (pl a xs)):Inv X aa σ (upd H a (.lst xs)) s :=
 oq I h (by intro _ z; cases z) (by intro _ z; cases z) (by intro _ z; cases z) (λo z e=>by have q:=I.base.frzs a o z e; rw [h] at q; cases q) (FT.mp (I.hok a _ h))
theorem gy (I:Inv X aa σ H s):∀ {fp:Fp},(fp.map (·.1)).Nodup->(∀ a∈fp,H a.1=some (pl a.1 a.2))->Inv X aa σ (dJ l9 fp H) s
 | [],_,_=>I
 | p::fp,nd,h=>by
  rw [NW,O8] at nd
  exact A7 (gy I nd.2 λa ha=>h a (N6 _ ha)) (by rw [aE nd.1]; exact h p N2)
theorem je (I:Inv X aa σ H s):∀ {fp:Fp},(fp.map (·.1)).Nodup->(∀ a∈fp,H a.1=some (.lst a.2))->Inv X aa σ (dJ pl fp H) s
 | [],_,_=>I
 | p::fp,nd,h=>by
  rw [NW,O8] at nd
  exact oV (je I nd.2 λa ha=>h a (N6 _ ha)) (by rw [aE nd.1]; exact h p N2)
inductive JX:List Sl->Prop where
 | nil:JX []
 | cons {r:Sl} {l:List Sl} (h:r.uz=false):JX l->JX (r::l)
inductive iE:List Sl->Nat->Sh->Prop where
 | z {s:Sh} {l:List Sl}:JX l->iE (.fo s::l) 0 s
 | s {r:Sl} {l:List Sl} {i:Nat} {s:Sh} (h:r.uz=false):iE l i s->iE (r::l) (i+1) s
theorem JX.get (h:JX l):∀ {j:Nat} {r:Sl},l[j]?=some r->r.uz=false:=by
 induction h with
 | nil=>intro j r e; simp at e
 | cons h _ ih =>
  intro j r e
  cases j with
  | zero=>simp at e; subst e; exact h
  | succ j=>exact ih (by simpa using e)
theorem iE.at_ {l:List Sl} {i:Nat} {s:Sh} (h:iE l i s):l[i]?=some (.fo s)/\∀ {j:Nat} {r:Sl},j≠i->l[j]?=some r->r.uz=false:=by
 induction h with
 | z h =>
  refine ⟨rfl,λ{j r} hj e=>?_⟩
  cases j with
  | zero=>exact absurd rfl hj
  | succ j=>exact h.get (by simpa using e)
 | s h _ ih =>
  refine ⟨by simpa using ih.1,λ{j r} hj e=>?_⟩
  cases j with
  | zero=>simp at e; subst e; exact h
  | succ j=>exact ih.2 (λz=>hj (congrArg (· +1) z)) (by simpa using e)
section
variable {K:NR}
theorem cQ.Ll (S:cQ K H₀ dM σ H Hf ρ) (h:iE ρ i s) :
 ∃ fp:Fp,(fp.map (·.1)).Nodup/\(∀ a∈fp,H a.1=some (pl a.1 a.2)/\Hf a.1=none)/\cQ K H₀ dM σ (dJ l9 fp H) (dJ l9 fp Hf) (ρ.set i (.va s.d)):=by
 obtain ⟨hi,ho⟩:=h.at_
 obtain ⟨v,ev,fp,rf,nd,hfr⟩:=S.at_ i _ hi (by intro z; cases z)
 have hz:=aI.fz s rf
 have hlt:i<ρ.length:=(N4.mp hi).1
 have none_in:∀ {b:Addr} {o:HO},Hf b=some o->b∉fp.map (·.1):=λe m=>by obtain ⟨p,hp,rfl⟩:=bH m; rw [(hz p hp).2] at e; cases e
 have fr_in:∀ {b:Addr},b∈fp.map (·.1)->H₀ b=none:=λm=>by obtain ⟨p,hp,rfl⟩:=bH m; exact hfr p hp
 have sf:aG Hf (dJ l9 fp Hf):=λb o e=>by rw [aE (none_in e)]; exact e
 refine ⟨fp,nd,hz,⟨⟨λb o e=>?_,S.bas.f.trans sf,λb o e=>?_,λb h1 h2 h3=>?_⟩,by simp [S.len],λj r hj hu=>?_,λj j' r r' q hne h1 h2 o1 o2=>?_⟩⟩
 ·rw [aE λm=>by rw [fr_in m] at e; cases e]; exact S.bas.s b o e
 ·by_cases m:b∈fp.map (·.1)
  ·obtain ⟨p,hp,rfl⟩:=bH m
   rw [cj nd p hp] at e |-; exact e
  ·rw [aE m] at e |-; exact S.sb b o e
 ·rw [aE λm=>h2 (fr_in m)]; exact S.bas.n b h1 h2 h3
 ·by_cases q:j=i
  ·subst q
   rw [O2 hlt] at hj
   cases hj
   exact ⟨v,ev,aI.rep sf s (λa ha=>cj nd a ha) rf⟩
  ·rw [O4 (Og q)] at hj
   obtain ⟨v,e1,e2⟩:=S.at_ j r hj hu
   refine ⟨v,e1,aU.mv (B:=λa=>a∈fp.map (·.1)) sf (λa o hm e1 _ e3=>⟨by rw [aE hm]; exact e1,by rw [aE hm]; exact e3⟩) (λhf=>by rw [ho q hj] at hf; cases hf) (λow a e m=>?_) e2⟩
   subst e
   obtain ⟨_,_,e,_,_,_,nf⟩:=e2.mY ow
   cases e
   obtain ⟨p,hp,rfl⟩:=bH m
   exact nf ⟨p.2,(hz p hp).1⟩
 ·have out:∀ {j:Nat} {r:Sl},(ρ.set i (.va s.d))[j]?=some r->r.owned=true->ρ[j]?=some r:=λ{j r} hj ho=>by
   by_cases q:j=i
   ·subst q; rw [O2 hlt] at hj; cases hj; cases ho
   ·rw [O4 (Og q)] at hj; exact hj
  exact S.sep j j' r r' q hne (out h1 o1) (out h2 o2) o1 o2
end
section
variable {K:NR}
theorem Iw (i) (h1:iE ρ i s) (hs:SSet ρ i (.va s.d) ρ') (h:iM c e ρ' T):iM c e ρ T:=λσ H Hf Q S q aa s' I=>by
 obtain ⟨fp,nd,hz,S1⟩:=S.Ll h1
 rw [<- hs.eq] at S1
 refine bD (h σ _ _ (λb H'=>∃ ah,T b/\br (dJ l9 fp H) (dJ l9 fp Hf) H' ah) S1 (λb H' ah rd g=>⟨ah,rd,g⟩) aa s' (gy I nd λa ha=>(hz a ha).1)) λb s1 ⟨H1,I1,aP,rd,g⟩=>?_
 have hL:∀ a∈fp,H1 a.1=some (.lst a.2):=λa ha=>g.s _ _ (cj nd a ha)
 exact ⟨_,je I1 nd hL,q b _ (gx aP fp) rd (qY nd hz g)⟩
theorem Em {R:Sl->Prop} (h:cS c e ρ λr=>∃ ds,r=.ow ds/\R (.fo (.l ds))):cS c e ρ R:=λσ H Hf Q S q aa s I=>by
 refine bD (h σ H Hf (λv H'=>∃ ds ah,aU c.X.K (λp=>H p=none) H' ah (.ow ds) v/\br H Hf H' ah/\R (.fo (.l ds))) S (λr v H' ah ⟨ds,e,hR⟩ rs g=>⟨ds,ah,by rw [<- e]; exact rs,g,hR⟩) aa s I) λu s1 hh=>z2 hh λv H1 hh=>w3 hh λI1 rv hh=>z2 hh λds aP hh=>w3 hh λhh g hR=>z2 hh λa xs hh=>w5 hh λev fa h1 h2 h3=>?_
 subst ev
 exact ⟨_,_,oV I1 h1,rv,q (.fo (.l ds)) _ _ aP hR ⟨[(a,xs)],by simp only [aI]; exact ⟨a,xs,rfl,af,h2,h3,rfl⟩,by simp,λb hb=>by obtain rfl:=Oa.mp hb; exact fa⟩ (j6 g fa h2)⟩
def En (c:Ctx P w K mg base k N sc bk) (es:List Expr) (ρ:List Sl) (R:List Sh->Prop):Prop :=
 ∀ (σ:L2.St) (H Hf:Hp) (Q:List V->Hp->Prop),bw c σ H Hf ρ->(∀ ss vs fp H' ah,R ss->ai c.X.K H' ah ss vs fp->(fp.map (·.1)).Nodup->(∀ a∈fp,H a.1=none)->br H Hf H' ah->Q vs H')->bA c.X es σ H Q
theorem FU {R:List Sh->Prop} (h:R []):En c [] ρ R:=λσ H Hf Q S q=>mW dS (q [] [] [] H Hf h (by simp [ai]) SK (by intro a ha; cases ha) (.refl S.sb))
theorem lH {R:List Sh->Prop} (h:cS c e ρ λr=>∃ s,r.sh=some s/\En c es ρ λss=>R (s::ss)) (hs:∀ env,starEach (e::es) env=(false,eval e env)::starEach es env:=by intro _; walk_at "u"):En c (e::es) ρ R:=λσ H Hf Q S q =>
 mW (bR dz Dd (hs _)) (h σ H Hf _ S λr v H1 aP ⟨s,es,h1⟩ rs g1=>by
  obtain ⟨f1,r1,n1,fr1⟩:=zY es rs
  have z1:=aI.fz s r1
  refine h1 σ H1 aP _ (S.cF g1) λss vs fp H2 cI h2 r2 n2 fr2 g2=>q (s::ss) (v::vs) (f1++fp) H2 cI h2 ?_ ?_ ?_ (g1.trans g2)
  ·simp only [ai]
   refine ⟨v,vs,f1,fp,rfl,aI.mv g2.f s (λa _ e1 e2=>⟨g2.s _ _ e1,g2.n a.1 e2 (by rw [e1]; simp) (by intro ys z; rw [e1] at z; cases z)⟩) r1,r2,rfl⟩
  ·rw [Ot,Rn]
   refine ⟨n1,n2,λa ha b hb e=>?_⟩
   subst e
   obtain ⟨p,hp,rfl⟩:=bH ha
   obtain ⟨p',hp',e'⟩:=bH hb
   have:=(z1 p hp).1
   rw [<- e',fr2 p' hp'] at this; cases this
  ·intro a ha
   rcases Om.mp ha with ha | ha
   ·exact fr1 a ha
   ·exact g1.s.free (fr2 a ha))
theorem ai.len:∀ {ss:List Sh} {xs:List V} {fp:Fp},ai K H Hf ss xs fp->ss.length=xs.length
 | [],_,_,h=>by simp only [ai] at h; rw [h.1]; rfl
 | s::ss,_,_,h=>by
  simp only [ai] at h
  obtain ⟨x,r,f1,f2,rfl,_,h2,_⟩:=h
  rw [Oz,Oz,ai.len h2]
theorem A8 {R:Sl->Prop} (h:En c es ρ λss=>Sd (ss.length<=sizeLine) (R (.fo (.t ss)))):cS c (.Tuple es j pos) ρ R:=λσ H Hf Q S q =>
 bK (yK Dd) (h σ H Hf _ S λss vs fp H' ah ⟨hl,hR⟩ r nd fr g=>⟨by rw [<- ai.len r]; exact hl,λp hp=>by
  have g2:=br.new g.b hp (o:=.tup vs)
  have hz:=ai.fz ss r
  refine q _ _ _ _ hR ⟨fp,?_,nd,fr⟩ (g.trans g2)
  simp only [aI]
  exact ⟨p,vs,rfl,.inl (.inl af),ai.mv g2.f ss (λa _ e1 e2=>⟨g2.s _ _ e1,g2.n a.1 e2 (by rw [e1]; simp) (by intro ys z; rw [e1] at z; cases z)⟩) r⟩⟩)
end
noncomputable def JY (K:NR) (ok:Sh->Prop):Sp:=λvs H Q _=>∃ Hf s v fp,vs=[v]/\aG Hf H/\aI K H Hf s v fp/\(fp.map (·.1)).Nodup/\ok s/\∀ H' ah,br (gx H fp) Hf H' ah->Q .non H'
structure Iz (P:Program) (w:World) (K:NR) (mg:Str->Option Value) (base:Heap) (k:Nat) (x:Str) (ok:Sh->Prop):Prop where
 ex:∃ f fd ps,mg x=some (.ref f)/\PD K (.ref f)=true/\Binds K fd ps []/\bz P w K mg base (dU P w) k f fd ps (JY K ok)
theorem oW:aG (gx H fp) H:=λb o e=>by
 by_cases m:b∈fp.map (·.1)
 ·rw [kh m] at e; cases e
 ·rw [dw m] at e; exact e
theorem A9 (sb:aG Hf H):br (gx H fp) Hf H Hf:=⟨oW,.refl _,sb,λ_ h _ _=>h⟩
theorem xT {K:NR} (r:aI K H Hf s v fp) (nd:(fp.map (·.1)).Nodup) (sb:aG Hf H) (hN:1<=N.length) :
 cQ K (gx H fp) Hf (L2.start N [v]) H Hf (.fo s::N7 (N.length - 1) .un):=by
 have rest:∀ (i:Nat) (r':Sl),(Sl.fo s::N7 (N.length - 1) Sl.un)[i]?=some r'->r'≠.un->i=0/\r'=.fo s:=λi r' h hu=>by
  cases i with
  | zero=>exact ⟨rfl,by simpa using h.symm⟩
  | succ i=>exact absurd (RY (O3 (by simpa using h))) hu
 refine ⟨A9 sb,by simp [L2.start],λi r' h hu=>?_,λi j r1 r2 p hne e1 e2 o1 o2=>?_⟩
 ·obtain ⟨rfl,rfl⟩:=rest i r' h hu
  exact ⟨v,by simp [L2.start],fp,r,nd,λa ha=>kh (Oi.mpr ⟨a,ha,rfl⟩)⟩
 ·obtain ⟨_,rfl⟩:=rest i r1 e1 (by rintro rfl; cases o1)
  cases o1
section
variable {K:NR} {c:Ctx P w K mg base k N sc bk}
theorem M8 {st:Stmt} (Fu:fC K x qual st f fd) (SV:FS N ps st) (h1:ps.length=1) (hN:1<=N.length)
 (body:∀ (c:Ctx P w K mg base k N (aL st) false),c.X.xe=(λ_ _=>False)->∀ s,ok s->aQ c (ay st) (.fo s::N7 (N.length - 1) .un) (λ_=>True) { rt:=λ_=>False }) :
 bz P w K mg base (dU P w) (k+1) f fd ps (JY K ok):=by
 obtain ⟨Sc,Vi⟩:=zp SV
 obtain ⟨oc,od,kV,doc,pm,an,cdv,ct,osl,rfl,lk,hcd⟩:=Fu.ex
 refine yL lk hcd Sc (λvs H Q E ⟨Hf,s,v,fp,e,_⟩=>by rw [e,h1]; rfl) λA outer st' H vs Q E hr hh=>z4 hh λHf s v fp hh=>w6 hh λe sb rf nd hok hq=>?_
 subst e
 let X:Cx:=(pK (dU P w) P w K mg base N qual (aL st) f cdv A outer st' H E).Fi
 let c:Ctx P w K mg base k N (aL st) false :=
  { X:=X,eP:=rfl,ew:=rfl,eK:=rfl,emg:=rfl,eb:=rfl,eN:=rfl,esc:=rfl,calm:=rfl,top:=λ_=>⟨rfl,rfl,rfl⟩,cb:=λ_ _ _ _ _ I x c h=>I.ok.cab x c rfl h,fn:=λ_ _=>.inl rfl,B:=gx H fp,room:=hr,nd:=Sc.nd,vis:=Vi,Hf:=Hf,RX:=λ_ _=>False,
    exc:=λ_ _ _ _ _ _ _ _ _ _ _ _ h _ _=>h.elim,RM:=λ_ _=>False,mde:=λ_ _ _ _ _ _ _ _ _ _ _ _ h _=>h.elim }
 refine ⟨_,rM.Fi (t:=G7 X (ay st)) (pY (X:=X)),?_⟩
 exact body c rfl s hok (L2.start N [v]) H Hf _ (xT rf nd sb hN) ⟨λσ H' ah ρ S _=>hq H' ah S.bas,λr v H' ah g rv e=>e.elim,λ_ _ _ _ _ h=>h.elim,λ_ _ _ _ _ h=>h.elim⟩
theorem aZ {α:Type} {l:List α} {a b:α} (h:(l.set i a)[j]?=some b):(j=i/\b=a)\/(j≠i/\l[j]?=some b):=by
 by_cases e:j=i
 ·subst e
  have hl:j<l.length:=by have:=(N4.mp h).1; simpa using this
  rw [O2 hl] at h
  exact .inl ⟨rfl,(Pr h).symm⟩
 ·rw [O4 (Og e)] at h
  exact .inr ⟨e,h⟩
theorem cQ.gone (S:cQ K H₀ dM σ H Hf ρ) (h:iE ρ i s) (ev:σ[i]?=some (some v)) (rf:aI K H Hf s v fp) (fr:∀ a∈fp,H₀ a.1=none) (g:br (gx H fp) Hf H1 aP):cQ K H₀ dM σ H1 aP (ρ.set i .un):=by
 obtain ⟨hi,ho⟩:=h.at_
 have hz:=aI.fz s rf
 have fr_in:∀ {b:Addr},b∈fp.map (·.1)->H₀ b=none:=λm=>by obtain ⟨p,hp,rfl⟩:=bH m; exact fr p hp
 have s0:aG H₀ (gx H fp):=λb o e=>by rw [dw λm=>by rw [fr_in m] at e; cases e]; exact S.bas.s b o e
 refine ⟨⟨s0.trans g.s,S.bas.f.trans g.f,g.b,λb h1 h2 h3=>?_⟩,by simp [S.len],λj r hj hu=>?_,λj j' r r' q hne h1 h2 o1 o2=>?_⟩
 ·cases z:H₀ b with
  | none=>exact absurd z h2
  | some o1 =>
   have e1:=s0 b o1 z
   exact g.n b (S.bas.n b h1 h2 h3) (by rw [e1]; simp) λxs=>by rw [e1,<- z]; exact h3 xs
 ·rcases aZ hj with ⟨_,rfl⟩ | ⟨q,hj⟩
  ·exact absurd rfl hu
  ·obtain ⟨v,e1,e2⟩:=S.at_ j r hj hu
   have e3:aU K (λp=>H₀ p=none) (gx H fp) Hf r v:=aU.mv (B:=λa=>a∈fp.map (·.1)) (.refl _) (λa o hm e1 _ e3=>⟨by rw [dw hm]; exact e1,e3⟩) (λhf=>by rw [ho q hj] at hf; cases hf) (λow a e m=>by
    subst e
    obtain ⟨_,_,e,_,_,_,nf⟩:=e2.mY ow
    cases e
    obtain ⟨p,hp,rfl⟩:=bH m
    exact nf ⟨p.2,(hz p hp).1⟩) e2
   exact ⟨v,e1,e3.cF g⟩
 ·have out:∀ {j:Nat} {r:Sl},(ρ.set i .un)[j]?=some r->r.owned=true->ρ[j]?=some r:=λ{j r} hj ho=>by
   rcases aZ hj with ⟨_,rfl⟩ | ⟨_,hj⟩
   ·cases ho
   ·exact hj
  exact S.sep j j' r r' q hne (out h1 o1) (out h2 o2) o1 o2
theorem Eo (h:Iz P w K mg base j x ok) (hj:j<=k) (hN:At N i y) (h1:iE ρ i s) (hok:ok s) (hn:Nx ρ i nx .un)
 (hg:sc.names.lookup x=some .globalImplicit:=by walk_at "u") (hdb:(x == ("__debug__":Str))=false:=by decide) (hd:(y == ("__debug__":Str))=false:=by decide) (hcd:(y == ("__classdict__":Str))=false:=by decide)
 (he:∀ env,starEach [.Name y py] env=(false,eval (.Name y py) env)::starEach [] env:=by intro _; walk_at "u")
 (hpl:∀ env,(backTo cp (starEach [] env)).any (·.1)=false:=by intro _; walk_at "u")
 (hs:∀ env,swapsWith (.Call (.Name x px) [.Name y py] [] cp) none pos.line env=pure false:=by intro _; walk_at "u"):eG c (.Expr (.Call (.Name x px) [.Name y py] [] cp) pos) ρ nx p:=λσ H Hf D S o=>by
 obtain ⟨v,ev,fp,rf,nd,hfr⟩:=S.at_ i _ h1.at_.1 (by intro z; cases z)
 obtain ⟨ρ',hs',hn⟩:=hn
 refine dO (jW dz (hs _)) (show bE c.X _ σ H (λ_ H'=>D.nx σ H') from λaa s' I=>?_)
 obtain ⟨f,fd,ps,hm,hk,hb,hF⟩:=h.ex
 refine Pz (iI I (by unfold Gl Ox; rw [c.esc]; exact hg) (by rw [c.emg]; exact hm) ?_ hdb)
 have hA:bA c.X [.Name y py] σ H (λvs H1=>vs=[v]/\H1=H):=mW (bR (c.jo hN hd hcd) dS (he _)) ⟨_,ev,rfl,rfl⟩
 refine Sb (h₀:=c.X.base) I.ok.mod.kin (by rw [c.eK]; exact hk) (bD (hA cp aa s' I) λus s1 ⟨vs,H1,I1,rv,e1,e2⟩=>⟨I1.nN,?_⟩) (he _) (hpl _)
 subst e1 e2
 have hF2:bz c.X.prog c.X.w c.X.K c.X.mg c.X.base (dU c.X.prog c.X.w) k f fd ps (JY c.X.K ok):=by rw [c.eP,c.ew,c.eK,c.emg,c.eb]; exact hF.mono hj
 have pF:JY c.X.K ok [v] H1 (λ_ H'=>D.nx σ H') (λ_ _ _=>False):=by
  refine ⟨Hf,s,v,fp,rfl,S.sb,rf,nd,hok,λH' ah g=>?_⟩
  refine o.nx σ H' ah ρ' ?_ hn
  rw [hs'.eq]
  exact S.gone h1 ev rf hfr g
 have hl:us.length=ps.length:=by rw [<- rv.length]; exact hF2.len _ _ _ _ pF
 have hb':Binds c.X.K fd ps []:=by rw [c.eK]; exact hb
 have hb2:=hb' s1 us I1.nN (by simpa using hl)
 rw [OP] at hb2
 refine Q8 (Q5 (hF2.run c.X.A c.X.stack s1 H1 ⟨us,[]⟩ us _ _ _ c.room I1.CN hb2 rv pF) λr' s' hq=>?_)
 cases r' with
 | error e =>
  obtain ⟨a,C,H',rfl,hE,h⟩:=hq
  exact h.elim
 | ok fl =>
  cases fl with
  | ret u=>exact I1.after hq
  | next=>exact OT hq
  | brk=>exact OT hq
  | cont=>exact OT hq
noncomputable def Sh.raw:Sh->Option D | .v d=>some d | .la a _=>some (.adr a) | _=>none
noncomputable def xU:List Sh->Option (List D)
 | []=>some []
 | s::ss=>match s.raw,xU ss with | some d,some ds=>some (d::ds) | _,_=>none
theorem aI.raw (e:s.raw=some d) (h:aI K H Hf s v fp):Rep K Hf d v:=by
 cases s with
 | v d'=>cases e; simp only [aI] at h; exact h.1
 | la a ds=>cases e; simp only [aI] at h; obtain ⟨xs,e,_⟩:=h; exact dN.mpr e
 | _=>cases e
theorem ai.raw:∀ {ss:List Sh} {vs:List V} {fp:Fp} {ds:List D},xU ss=some ds->ai K H Hf ss vs fp->ak K Hf ds vs
 | [],_,_,_,e,h=>by cases e; simp only [ai] at h; exact aA.mpr h.1
 | s::ss,_,_,_,e,h=>by
  simp only [ai] at h
  obtain ⟨x,r,f1,f2,rfl,h1,h2,_⟩:=h
  unfold xU at e
  split at e
  ·rename_i d ds q1 q2
   cases e
   exact .cons (h1.raw q1) (ai.raw q2 h2)
  ·cases e
theorem IB (hN:At N i y) (hi:At ρ i (.fo (.t ss))) (hr:xU ss=some ds) (hR:R (.tup ds)) (hd:(y == ("__debug__":Str))=false:=by decide) (hcd:(y == ("__classdict__":Str))=false:=by decide):aF c (.Name y py) ρ R:=λσ H Hf Q S q=>by
 obtain ⟨v,ev,fp,rf,nd,hfr⟩:=S.at_ i _ hi.get (by intro z; cases z)
 refine bK (c.jo hN hd hcd) ⟨v,ev,q (.tup ds) v H Hf hR ?_ (.refl S.sb)⟩
 simp only [aI] at rf
 obtain ⟨a,xs,e,h1,h2⟩:=rf
 exact aH.mpr ⟨a,xs,e,h1,ai.raw hr h2⟩
end
section
variable {K:NR}
noncomputable def fX (L:List (Addr×List D)):List Sh:=L.map λx=>.la x.1 x.2
theorem vM (q1:H q=some (pl q xs)) (q2:Hf q=none) (q3:ak K Hf ds xs):aI K H Hf (.la q ds) (.ref q) [(q,xs)]:=by
 simp only [aI]
 exact ⟨xs,trivial,q1,q2,q3,rfl⟩
theorem ai.tag:∀ {dss:List (List D)} {vs:List V} {fp:Fp},ai K H Hf (dss.map .l) vs fp->∃ L:List (Addr×List D),L.map (·.2)=dss/\ai K H Hf (fX L) vs fp
 | [],_,_,h=>⟨[],rfl,h⟩
 | ds::dss,_,_,h=>by
  simp only [NW,ai] at h
  obtain ⟨x,r,f1,f2,rfl,h1,h2,rfl⟩:=h
  obtain ⟨L,e,h3⟩:=ai.tag h2
  simp only [aI] at h1
  obtain ⟨p,xs,rfl,q1,q2,q3,rfl⟩:=h1
  refine ⟨(p,ds)::L,by rw [NW,e],?_⟩
  show ai K H Hf (.la p ds::fX L) _ _
  simp only [ai]
  exact ⟨_,r,_,f2,rfl,vM q1 q2 q3,h3,rfl⟩
theorem cQ.M9 (S:cQ K H₀ dM σ H Hf ρ) (h:ρ[i]?=some (.fo (.t (dss.map .l)))):∃ L:List (Addr×List D),L.map (·.2)=dss/\cQ K H₀ dM σ H Hf (ρ.set i (.fo (.t (fX L)))):=by
 obtain ⟨v,ev,fp,rf,nd,hfr⟩:=S.at_ i _ h (by intro z; cases z)
 simp only [aI] at rf
 obtain ⟨a,xs,e,h1,h2⟩:=rf
 obtain ⟨L,eL,h3⟩:=ai.tag h2
 refine ⟨L,eL,S.bas,by simp [S.len],λj r hj hu=>?_,λj j' r r' q hne h1 h2 o1 o2=>?_⟩
 ·rcases aZ hj with ⟨rfl,rfl⟩ | ⟨_,hj⟩
  ·exact ⟨v,ev,fp,by simp only [aI]; exact ⟨a,xs,e,h1,h3⟩,nd,hfr⟩
  ·exact S.at_ j r hj hu
 ·have out:∀ {j:Nat} {r:Sl},(ρ.set i (.fo (.t (fX L))))[j]?=some r->r.owned=true->ρ[j]?=some r:=λ{j r} hj ho=>by
   rcases aZ hj with ⟨_,rfl⟩ | ⟨_,hj⟩
   ·cases ho
   ·exact hj
  exact S.sep j j' r r' q hne (out h1 o1) (out h2 o2) o1 o2
theorem ai.FW:∀ {pre post:List Sh} {vs:List V} {fp:Fp},ai K H Hf (pre++.la q ds::post) vs fp ->
 ∃ (xs:List V) (f1 f2:Fp),fp=f1++(q,xs)::f2/\H q=some (pl q xs)/\Hf q=none/\ak K Hf ds xs/\ai K H Hf (pre++.v (.adr q)::post) vs (f1++f2)
 | [],post,_,_,h=>by
  simp only [PN,ai] at h
  obtain ⟨x,r,f1,f2,rfl,h1,h2,rfl⟩:=h
  simp only [aI] at h1
  obtain ⟨xs,rfl,q1,q2,q3,rfl⟩:=h1
  refine ⟨xs,[],f2,rfl,q1,q2,q3,?_⟩
  simp only [PN,ai]
  exact ⟨_,r,[],f2,rfl,by simp only [aI]; exact ⟨dN.mpr rfl,trivial⟩,h2,rfl⟩
 | s::pre,post,_,_,h=>by
  simp only [Ph,ai] at h
  obtain ⟨x,r,f1,f2,rfl,h1,h2,rfl⟩:=h
  obtain ⟨xs,g1,g2,rfl,q1,q2,q3,q4⟩:=ai.FW h2
  refine ⟨xs,f1++g1,g2,by rw [Oh],q1,q2,q3,?_⟩
  simp only [Ph,ai]
  exact ⟨x,r,f1,g1++g2,rfl,h1,q4,by rw [Oh]⟩
theorem ai.FY (q1:H q=some (pl q xs)) (q2:Hf q=none) (q3:ak K Hf ds xs):∀ {pre post:List Sh} {vs:List V} {fp:Fp},ai K H Hf (pre++.v (.adr q)::post) vs fp ->
 ∃ (f1 f2:Fp),fp=f1++f2/\ai K H Hf (pre++.la q ds::post) vs (f1++(q,xs)::f2)
 | [],post,_,_,h=>by
  simp only [PN,ai] at h
  obtain ⟨x,r,f1,f2,rfl,h1,h2,rfl⟩:=h
  simp only [aI] at h1
  obtain ⟨h1,rfl⟩:=h1
  rw [dN] at h1
  subst h1
  refine ⟨[],f2,rfl,?_⟩
  simp only [PN,ai]
  exact ⟨_,r,[(q,xs)],f2,rfl,vM q1 q2 q3,h2,rfl⟩
 | s::pre,post,_,_,h=>by
  simp only [Ph,ai] at h
  obtain ⟨x,r,f1,f2,rfl,h1,h2,rfl⟩:=h
  obtain ⟨g1,g2,rfl,q4⟩:=ai.FY q1 q2 q3 h2
  refine ⟨f1++g1,g2,by rw [Oh],?_⟩
  simp only [Ph,ai]
  exact ⟨x,r,f1,g1++(q,xs)::g2,rfl,h1,q4,by rw [Oh]⟩
theorem cQ.FZ (S:cQ K H₀ dM σ H Hf ρ) (h1:iE ρ i s) (hk:k<ρ.length) (hik:k≠i) (fq:H₀ q=none) (rN:Hf q=none) (hq:∀ (j:Nat) (r:Sl),j≠i->j≠k->ρ[j]?=some r->r.owned=true->σ[j]?≠some (some (.ref q)))
 (v1:r1≠.un->∃ v,σ[i]?=some (some v)/\aU K (λp=>H₀ p=none) (L2.upd H q o) Hf r1 v) (v2:r2≠.un->∃ v,σ[k]?=some (some v)/\aU K (λp=>H₀ p=none) (L2.upd H q o) Hf r2 v) (n1:r1.owned=false) (n2:r2.owned=true->σ[k]?=some (some (.ref q))) :
 cQ K H₀ dM σ (L2.upd H q o) Hf ((ρ.set i r1).set k r2):=by
 obtain ⟨hi,ho⟩:=h1.at_
 have get:∀ {j:Nat} {r:Sl},((ρ.set i r1).set k r2)[j]?=some r->(j=k/\r=r2)\/(j≠k/\j=i/\r=r1)\/(j≠k/\j≠i/\ρ[j]?=some r):=λ{j r} h=>by
  rcases aZ h with ⟨a,b⟩ | ⟨a,h⟩
  ·exact .inl ⟨a,b⟩
  ·rcases aZ h with ⟨b,c⟩ | ⟨b,h⟩
   ·exact .inr (.inl ⟨a,b,c⟩)
   ·exact .inr (.inr ⟨a,b,h⟩)
 refine ⟨⟨λb u e=>by rw [L2.aj (aB e fq)]; exact S.bas.s b u e,S.bas.f,λb u e=>by rw [L2.aj (aB e rN)]; exact S.bas.b b u e,S.bas.n⟩,by simp [S.len],λj r hj hu=>?_,λj j' r r' p hne e1 e2 o1 o2=>?_⟩
 ·rcases get hj with ⟨rfl,rfl⟩ | ⟨_,rfl,rfl⟩ | ⟨a,b,hj⟩
  ·exact v2 hu
  ·exact v1 hu
  ·obtain ⟨v,e1,e2⟩:=S.at_ j r hj hu
   exact ⟨v,e1,aU.mv (B:=λz=>z=q) (.refl _) (λz u hz e1 _ e3=>⟨by rw [L2.aj hz]; exact e1,e3⟩) (λhf=>by rw [ho b hj] at hf; cases hf) (λow z ez e=>by subst e; subst ez; exact hq j r b a hj ow e1) e2⟩
 ·rcases get e1 with ⟨rfl,rfl⟩ | ⟨_,rfl,rfl⟩ | ⟨a,b,f1⟩
  ·intro s1 s2
   rw [n2 o1] at s1; cases s1
   rcases get e2 with ⟨rfl,rfl⟩ | ⟨_,rfl,rfl⟩ | ⟨a2,b2,f2⟩
   ·exact hne rfl
   ·rw [n1] at o2; cases o2
   ·exact hq j' r' b2 a2 f2 o2 s2
  ·rw [n1] at o1; cases o1
  ·rcases get e2 with ⟨rfl,rfl⟩ | ⟨_,rfl,rfl⟩ | ⟨a2,b2,f2⟩
   ·intro s1 s2
    rw [n2 o2] at s2; cases s2
    exact hq j r b a f1 o1 s1
   ·rw [n1] at o2; cases o2
   ·exact S.sep j j' r r' p hne f1 f2 o1 o2
end
section
variable {K:NR} {st:Stmt}
theorem IC (i) (hi:At ρ i (.fo (.t (dss.map .l)))) (h:∀ L:List (Addr×List D),L.map (·.2)=dss->eG c st (ρ.set i (.fo (.t (fX L)))) nx p):eG c st ρ nx p:=λσ H Hf D S o=>by
 obtain ⟨L,e,S1⟩:=S.M9 hi.get
 exact h L e σ H Hf D S1 o
theorem Ba (i j) (h1:iE ρ i (.t (pre++.la q ds::post))) (hj:At ρ j (.va (.adr q))) (h:aQ c sts ((ρ.set i (.fo (.t (pre++.v (.adr q)::post)))).set j (.aw q ds)) nx p) (hij:j≠i):aQ c sts ρ nx p:=λσ H Hf D S o aa s I=>by
 obtain ⟨v,ev,fp,rf,nd,hfr⟩:=S.at_ i _ h1.at_.1 (by intro z; cases z)
 obtain ⟨vj,evj,rj⟩:=S.va hj.get
 rw [dN] at rj
 subst rj
 simp only [aI] at rf
 obtain ⟨a,vs,e,t1,t2⟩:=rf
 obtain ⟨xs,f1,f2,rfl,q1,q2,q3,q4⟩:=ai.FW t2
 have fq:c.B q=none:=hfr (q,xs) (by simp)
 have nq:q∉(f1++f2).map (·.1):=λm=>by
  rw [Ot,NW,Rn,O8] at nd
  rw [Ot,Om] at m
  rcases m with m | m
  ·exact nd.2.2 q m q N2 rfl
  ·exact nd.2.1.1 m
 have I1:=A7 I q1
 refine h σ _ Hf D (S.FZ h1 (N4.mp hj.get).1 hij fq q2 (λj' r a b hj' ow e=>?_) (λ_=>⟨v,ev,f1++f2,?_,?_,?_⟩) (λ_=>⟨_,evj,q,xs,rfl,⟨fq,rfl⟩,af,q2,q3⟩) rfl λ_=>evj) o aa s I1
 ·obtain ⟨v',e',r'⟩:=S.at_ j' r hj' (by rintro rfl; cases ow)
  rw [e] at e'; cases e'
  obtain ⟨_,_,e2,_,_,_,nf⟩:=r'.mY ow
  cases e2
  exact nf ⟨xs,q1⟩
 ·simp only [aI]
  exact ⟨a,vs,e,t1,ai.mv (.refl _) _ (λz hz e1 e2=>⟨by rw [aj λe=>nq (by rw [<- e]; exact Oi.mpr ⟨z,hz,rfl⟩)]; exact e1,e2⟩) q4⟩
 ·rw [Ot] at nd |-
  exact nd.sublist (List.Sublist.append (List.Sublist.refl _) (by rw [NW]; exact List.sublist_cons_self _ _))
 ·intro z hz
  exact hfr z (by rcases Om.mp hz with h | h; exact Qq _ h; exact OV _ (N6 _ h))
theorem Bb (i j) (h1:iE ρ i (.t (pre++.v (.adr q)::post))) (hj:At ρ j (.aw q ds)) (h:aQ c sts ((ρ.set i (.fo (.t (pre++.la q ds::post)))).set j .un) nx p) (hij:j≠i):aQ c sts ρ nx p:=λσ H Hf D S o aa s I=>by
 obtain ⟨v,ev,fp,rf,nd,hfr⟩:=S.at_ i _ h1.at_.1 (by intro z; cases z)
 obtain ⟨vj,evj,rj⟩:=S.at_ j _ hj.get (by intro z; cases z)
 obtain ⟨q',xs,rfl,⟨fq,rfl⟩,q1,q2,q3⟩:=rj
 have hz:=aI.fz _ rf
 simp only [aI] at rf
 obtain ⟨a,vs,e,t1,t2⟩:=rf
 have nq:q'∉fp.map (·.1):=λm=>by
  obtain ⟨z,hm,rfl⟩:=bH m
  have:=(hz z hm).1
  rw [q1] at this; cases this
 have t3:=ai.mv (H':=upd H q' (pl q' xs)) (.refl _) _ (λz hz e1 e2=>⟨by rw [aj λe=>nq (by rw [<- e]; exact Oi.mpr ⟨z,hz,rfl⟩)]; exact e1,e2⟩) t2
 obtain ⟨f1,f2,rfl,t4⟩:=ai.FY af q2 q3 t3
 have I1:=oV I q1
 refine h σ _ Hf D (S.FZ h1 (N4.mp hj.get).1 hij fq q2 (λj' r a b hj' ow e=>?_) (λ_=>⟨v,ev,f1++(q',xs)::f2,?_,?_,?_⟩) (λz=>absurd rfl z) rfl λz=>by cases z) o aa s I1
 ·exact S.sep j' j r _ q' b hj' hj.get ow rfl e evj
 ·simp only [aI]
  exact ⟨a,vs,e,t1,t4⟩
 ·rw [Ot,NW]
  rw [Ot] at nd nq
  rw [Rn] at nd |-
  rw [Om,not_or] at nq
  refine ⟨nd.1,O8.mpr ⟨nq.2,nd.2.1⟩,λa ha b hb e=>?_⟩
  rcases N9.mp hb with rfl | hb
  ·subst e; exact nq.1 ha
  ·exact nd.2.2 a ha b hb e
 ·intro z hz
  rcases Om.mp hz with h | h
  ·exact hfr z (Qq _ h)
  ·rcases N9.mp h with rfl | h
   ·exact fq
   ·exact hfr z (OV _ h)
end
end EV
namespace EV
open PySem PySem.Spec PyProof.Rows L2
noncomputable def xV (t:aM):aM:=(t.1,-t.2)
theorem Ep (h:trim m=m) (hn:m≠[]):b9 m (m.length - 1)≠0:=by
 rcases List.eq_nil_or_concat m with rfl | ⟨l,x,rfl⟩
 ·exact absurd rfl hn
 ·rw [List.concat_eq_append] at h |-
  intro z
  have e:b9 (l++[x]) ((l++[x]).length - 1)=x:=by
   rw [dX (by simp)]; simp
  rw [e] at z; subst z
  rw [gQ] at h
  have:=gr l
  rw [h,OF,R5] at this
  lia
theorem xW (hl:trim l=l) (hm:trim m=m) (h:∀ i,b9 l i=b9 m i):l=m:=by
 have key:∀ {l m:List Int},trim m=m->(∀ i,b9 l i=b9 m i)->m.length<=l.length:=λ{l m} hm h=>by
  rcases Nat.lt_or_ge l.length m.length with z | z
  ·have hn:m≠[]:=by rintro rfl; simp at z
   have:=Ep hm hn
   rw [<- h,dh (by lia)] at this
   exact absurd rfl this
  ·exact z
 have e:l.length=m.length:=Nat.le_antisymm (key hl λi=>(h i).symm) (key hm h)
 refine Sy e λi h1 h2=>?_
 have:=h i
 rwa [dX h1,dX h2] at this
theorem gz (h:∀ i,b9 p i=b9 q i):trim p=trim q:=xW (cD p) (cD q) λi=>by rw [eZ,eZ,h]
theorem xX (a b):trim (cH (trim a) (trim b))=trim (cH a b):=gz λi=>by rw [cu,cu,eZ,eZ]
theorem sX (a b):trim (cH (trim a) b)=trim (cH a b):=gz λi=>by rw [cu,cu,eZ]
theorem sY (a b):trim (cH a (trim b))=trim (cH a b):=gz λi=>by rw [cu,cu,eZ]
theorem xY (a b):cH a b=cH b a:=by
 unfold cH; rw [Nat.max_comm]; exact PY λk _=>S6 _ _
theorem lI (a):trim (cH [] a)=trim a:=gz λi=>by rw [cu,dh (OB _),RG]
theorem sZ (a b c):trim (cH (cH a b) c)=trim (cH a (cH b c)):=gz λi=>by
 rw [cu,cu,cu,cu,Int.add_assoc]
noncomputable def ev (g:List Int->Int):List aM->Int
 | []=>0
 | t::A=>t.2 * g (trim t.1)+ev g A
theorem bg (g) (t) (A):ev g (t::A)=t.2 * g (trim t.1)+ev g A:=rfl
theorem cy (g) (B):∀ A,ev g (A++B)=ev g A+ev g B
 | []=>by simp [ev]
 | t::A=>by rw [Ph,bg,bg,cy g B A]; lia
theorem jB (g):∀ A:List aM,ev g (A.map xV)= - ev g A
 | []=>rfl
 | t::A=>by
  rw [NW,bg,bg,jB g A]
  show -t.2 * g (trim t.1)+_=_
  rw [Int.neg_mul]; lia
theorem Bc (g) (l):∀ B:List aM,ev g (B.map (dY l))=l.2 * ev (λq=>g (trim (cH (trim l.1) q))) B
 | []=>by simp [ev]
 | r::B=>by
  rw [NW,bg,bg,Bc g l B]
  show l.2 * r.2 * g (trim (cH l.1 r.1))+_=_
  rw [Int.mul_add,xX,RA]
theorem bV (g) (B):∀ A:List aM,ev g (aO A B)=ev (λp=>ev (λq=>g (trim (cH p q))) B) A
 | []=>rfl
 | l::A=>by
  show ev g (B.map (dY l)++aO A B)=_
  rw [cy,Bc,bV g B A]; rfl
theorem gB (e:∀ p,trim p=p->g p=h p):∀ A,ev g A=ev h A
 | []=>rfl
 | t::A=>by rw [bg,bg,e _ (cD _),gB e A]
theorem Be (g h):∀ A,ev (λp=>g p+h p) A=ev g A+ev h A
 | []=>rfl
 | t::A=>by rw [bg,bg,bg,Be g h A,Int.mul_add]; lia
theorem F0 (c) (g):∀ A,ev (λp=>c * g p) A=c * ev g A
 | []=>by simp [ev]
 | t::A=>by rw [bg,bg,F0 c g A,Int.mul_add,Int.mul_left_comm]
theorem vN:∀ A,ev (λ_=>0) A=0
 | []=>rfl
 | t::A=>by rw [bg,vN A]; simp
theorem vO (f:List Int->List Int->Int) (B):∀ A,ev (λp=>ev (λq=>f p q) B) A=ev (λq=>ev (λp=>f p q) A) B
 | []=>by show 0=ev (λ_=>0) B; rw [vN]
 | t::A=>by
  show t.2 * ev (λq=>f (trim t.1) q) B+ev _ A=ev (λq=>t.2 * f (trim t.1) q+ev (λp=>f p q) A) B
  rw [Be,F0,vO f B A]
def eqv (A B:List aM):Prop:=∀ g,ev g A=ev g B
theorem eqv.rf (A):eqv A A:=λ_=>rfl
theorem eqv.app (h:eqv A A') (k:eqv B B'):eqv (A++B) (A'++B'):=λg=>by rw [cy,cy,h g,k g]
theorem eqv.neg (h:eqv A B):eqv (A.map xV) (B.map xV):=λg=>by rw [jB,jB,h g]
theorem eqv.prod (h:eqv A A') (k:eqv B B'):eqv (aO A B) (aO A' B'):=λg=>by
 rw [bV,bV,h]; exact gB (λp _=>k _) _
instance trmSetoid:Setoid (List aM):=⟨eqv,⟨eqv.rf,λh g=>(h g).symm,λh k g=>(h g).trans (k g)⟩⟩
noncomputable def MP:Type:=Quotient trmSetoid
noncomputable def mp (A:List aM):MP:=Quotient.mk trmSetoid A
theorem fc:mp A=mp B↔eqv A B:=⟨λh=>Quotient.exact h,λh=>SI h⟩
noncomputable def cT (n:Int):List aM:=[([],n)]
theorem jT (g) (n):ev g (cT n)=n * g []:=by show n * g (trim [])+0=_; rw [S3]; rfl
noncomputable instance:Add MP:=⟨Quotient.lift₂ (λA B=>mp (A++B)) λ_ _ _ _ h k=>SI (eqv.app h k)⟩
noncomputable instance:Mul MP:=⟨Quotient.lift₂ (λA B=>mp (aO A B)) λ_ _ _ _ h k=>SI (eqv.prod h k)⟩
noncomputable instance:Neg MP:=⟨Quotient.lift (λA=>mp (A.map xV)) λ_ _ h=>SI (eqv.neg h)⟩
noncomputable instance:Sub MP:=⟨λa b=>a+ -b⟩
noncomputable instance:NatCast MP:=⟨λn=>mp (cT n)⟩
noncomputable instance:IntCast MP:=⟨λn=>mp (cT n)⟩
noncomputable instance (n:Nat):OfNat MP n:=⟨mp (cT n)⟩
noncomputable instance:SMul Nat MP:=⟨λn a=>(n:MP) * a⟩
noncomputable instance:SMul Int MP:=⟨λn a=>(n:MP) * a⟩
noncomputable def MP.pow (a:MP):Nat->MP
 | 0=>1
 | n+1=>MP.pow a n * a
noncomputable instance:HPow MP Nat MP:=⟨MP.pow⟩
theorem oX (A B):mp (A++B)=mp A+mp B:=rfl
theorem tu (A B):mp (aO A B)=mp A * mp B:=rfl
theorem oY (n):mp (cT n)=(n:MP):=rfl
theorem pB {P:MP->Prop} (h:∀ A,P (mp A)) (a:MP):P a:=Quotient.inductionOn a h
theorem ID (g) (A):ev g (aO (cT 1) A)=ev g A:=by
 rw [bV,jT,Te]
 exact gB (λp hp=>by rw [lI,hp]) _
theorem mulC:∀ a b:MP,a * b=b * a:=pB λA=>pB λB=>fc.mpr λg=>by
 rw [bV,bV,vO]
 exact gB (λq _=>gB (λp _=>by rw [xY]) _) _
theorem Ln:∀ a:MP,1 * a=a:=pB λA=>fc.mpr λg=>ID g A
theorem Na:∀ a b:MP,a+b=b+a:=pB λA=>pB λB=>fc.mpr λg=>by rw [cy,cy,S6]
theorem F1:∀ a b c:MP,(a+b) * c=a * c+b * c:=pB λA=>pB λB=>pB λC=>fc.mpr λg=>by rw [bV,cy,cy,bV,bV]
theorem F2:∀ a:MP,0 * a=0:=pB λA=>fc.mpr λg=>by
 rw [bV,jT,jT]; show 0 * _=0 * _; rw [QF,QF]
noncomputable instance:Lean.Grind.CommRing MP where
 add_zero:=pB λA=>fc.mpr λg=>by rw [cy,jT]; show _+0 * _=_; rw [QF,S3]
 add_comm:=Na
 add_assoc:=pB λA=>pB λB=>pB λC=>fc.mpr λg=>by rw [cy,cy,cy,cy,Int.add_assoc]
 mul_assoc:=pB λA=>pB λB=>pB λC=>fc.mpr λg=>by
  rw [bV,bV,bV]
  refine gB (λp _=>?_) _
  rw [bV]
  refine gB (λq _=>gB (λr _=>?_) _) _
  rw [sX,sY,sZ]
 mul_one:=λa=>by rw [mulC,Ln]
 one_mul:=Ln
 left_distrib:=λa b c=>by rw [mulC,F1,mulC b,mulC c]
 right_distrib:=F1
 zero_mul:=F2
 mul_zero:=λa=>by rw [mulC,F2]
 pow_zero:=λ_=>rfl
 pow_succ:=λ_ _=>rfl
 ofNat_succ:=λn=>fc.mpr λg=>by
  show ev g (cT ((n+1:Nat):Int))=ev g (cT (n:Int)++cT ((1:Nat):Int))
  rw [cy,jT,jT,jT,Int.natCast_add,QI]
 ofNat_eq_natCast:=λ_=>rfl
 nsmul_eq_natCast_mul:=λ_ _=>rfl
 neg_add_cancel:=pB λA=>fc.mpr λg=>by
  rw [cy,jB,jT]; show _=0 * _; rw [QF]; lia
 sub_eq_add_neg:=λ_ _=>rfl
 neg_zsmul:=λi=>pB λA=>fc.mpr λg=>by
  show ev g (aO (cT (-i)) A)=ev g ((aO (cT i) A).map xV)
  rw [jB,bV,bV,jT,jT,Int.neg_mul]
 zsmul_natCast_eq_nsmul:=λ_ _=>rfl
 intCast_ofNat:=λ_=>rfl
 intCast_neg:=λi=>fc.mpr λg=>by
  show ev g (cT (-i))=ev g ((cT i).map xV)
  rw [jB,jT,jT,Int.neg_mul]
 mul_comm:=mulC
theorem Bf {A:List aM} {p q:List Int} {n:Int}:(bC (putD A p n) q).getD 0=if q=p then n else (bC A q).getD 0:=by
 unfold putD
 split
 ·rename_i h
  induction A with
  | nil=>simp [bC] at h
  | cons t A ih =>
   rw [NW]
   by_cases e:t.1=p
   ·rw [if_pos e]
    by_cases z:q=p
    ·rw [if_pos z,bu (by rw [e,z])]; rfl
    ·rw [if_neg z,aV (by rw [e]; exact λw=>z w.symm),aV (by rw [e]; exact λw=>z w.symm)]
     clear ih h
     induction A with
     | nil=>rfl
     | cons u A ih =>
      rw [NW]
      by_cases w:u.1=q
      ·rw [if_neg (by rw [w]; exact z),bu w,bu w]
      ·rw [aV w,<- ih,aV (by split <;> exact w)]
   ·rw [if_neg e]
    have h':(bC A p).isSome=true:=by rw [aV e] at h; exact h
    by_cases z:t.1=q
    ·rw [bu z,bu z,if_neg (by rw [<- z]; exact e)]
    ·rw [aV z,aV z,ih h']
 ·rename_i h
  induction A with
  | nil =>
   rw [PN]
   by_cases z:q=p
   ·rw [if_pos z,bu z.symm]; rfl
   ·rw [if_neg z,aV λw=>z w.symm]
  | cons t A ih =>
   have h0:¬ t.1=p:=λe=>h (by rw [bu e]; rfl)
   rw [Ph]
   by_cases z:t.1=q
   ·rw [bu z,bu z,if_neg (by rw [<- z]; exact h0)]
   ·rw [aV z,aV z,ih (by rw [aV h0] at h; exact h)]
noncomputable def cf (p:List Int) (A:List aM):Int:=ev (λq=>if q=p then 1 else 0) A
theorem Bg (p):∀ ts:List aM,(bC (aN ts) p).getD 0=cf p ts:=by
 intro ts
 suffices H:∀ (ts A:List aM),(bC (ts.foldl fS A) p).getD 0=(bC A p).getD 0+cf p ts by
  have:=H ts []
  rw [show (bC ([]:List aM) p).getD 0=0 from rfl,RG] at this
  exact this
 intro ts
 induction ts with
 | nil=>intro A; show _=_+0; rw [S3]; rfl
 | cons t ts ih =>
  intro A
  rw [Pj,ih]
  unfold fS
  rw [Bf]
  show _=_+(t.2 * (if trim t.1=p then 1 else 0)+cf p ts)
  by_cases z:p=trim t.1
  ·rw [if_pos z,if_pos z.symm,z]; lia
  ·rw [if_neg z,if_neg λw=>z w.symm]; lia
theorem Bh:t∈nz (aN ts)↔trim t.1=t.1/\t.2≠0/\t.2=cf t.1 ts:=by
 have hk:=eY ts
 constructor
 ·intro h
  unfold nz at h
  rw [Rt] at h
  refine ⟨?_,by simpa using h.2,?_⟩
  ·have bd:∃ n,∀ t∈ts,t.1.length<=n:=by
    clear h hk
    induction ts with
    | nil=>exact ⟨0,λt h=>by cases h⟩
    | cons u ts ih =>
     obtain ⟨n,hn⟩:=ih
     refine ⟨max n u.1.length,λt ht=>?_⟩
     rcases N9.mp ht with rfl | ht
     ·lia
     ·have:=hn t ht; lia
   obtain ⟨n,hn⟩:=bd
   exact (oO hn t h.1).1
  ·rw [<- Bg,oU hk h.1]; rfl
 ·rintro ⟨h1,h2,h3⟩
  unfold nz
  rw [Rt]
  refine ⟨?_,by simpa using h2⟩
  rw [<- Bg] at h3
  cases e:bC (aN ts) t.1 with
  | none=>rw [e] at h3; exact absurd h3 h2
  | some n =>
   rw [e] at h3
   have h3':t.2=n:=h3
   unfold bC at e
   obtain ⟨u,hu,e2⟩:=N8.mp e
   have m:=List.mem_of_find?_eq_some hu
   have z:u.1=t.1:=by simpa using List.find?_some hu
   have:u=t:=Prod.ext z (by rw [e2,h3'])
   rw [<- this]; exact m
theorem qZ {L M:List aM} (h1:L.Nodup) (h2:M.Nodup) (h:∀ t,t∈L↔t∈M):L.Perm M:=(List.perm_ext_iff_of_nodup h1 h2).mpr h
theorem Bj (h:eqv A B):bM A=bM B:=by
 have nA:=keys_nodup (vC (eY A))
 have nB:=keys_nodup (vC (eY B))
 have hp:(nz (aN A)).Perm (nz (aN B)):=qZ nA nB λt=>by rw [Bh,Bh]; unfold cf; rw [h]
 exact AF nB ((bF _).trans hp) (gS nA)
theorem fT (h:mp A=mp B):bM A=bM B:=Bj (fc.mp h)
theorem IE (g) (hp:trim p=p) (n) (hk:(A.map (·.1)).Nodup) (ht:∀ t∈A,trim t.1=t.1):ev g (putD A p n)=ev g A+(n - (bC A p).getD 0) * g p:=by
 unfold putD
 split
 ·rename_i h
  induction A with
  | nil=>simp [bC] at h
  | cons t A ih =>
   rw [NW]
   rw [NW,O8] at hk
   by_cases e:t.1=p
   ·rw [if_pos e]
    have same:A.map (λkv:aM=>if kv.1=p then (kv.1,n) else kv)=A:=by
     refine (PY λu hu=>?_).trans (List.map_id A)
     rw [if_neg λz=>hk.1 (by rw [e,<- z]; exact Oi.mpr ⟨u,hu,rfl⟩)]; rfl
    rw [same,bu e]
    rw [bg,bg]
    show n * g (trim t.1)+_=_+(n - t.2) * _
    rw [ht t N2,e,Int.sub_mul]; lia
   ·rw [if_neg e]
    rw [bg,bg,ih hk.2 (λu hu=>ht u (N6 _ hu)) (by rw [aV e] at h; exact h),aV e]; lia
 ·rename_i h
  have e:bC A p=none:=by
   cases e:bC A p with
   | none=>rfl
   | some n=>rw [e] at h; exact absurd rfl h
  rw [cy,e]
  show _+(n * g (trim p)+0)=_+(n - 0) * _
  rw [hp,Int.sub_zero,S3]
theorem vP (ts):eqv (aN ts) ts:=by
 suffices H:∀ (ts A:List aM),(A.map (·.1)).Nodup->(∀ t∈A,trim t.1=t.1)->eqv (ts.foldl fS A) (A++ts) from H ts [] (by simp) (by simp)
 intro ts
 induction ts with
 | nil=>intro A _ _ g; simp
 | cons t ts ih =>
  intro A hk ht g
  have ih':ev g (ts.foldl fS (fS A t))=ev g (fS A t++ts):=ih _ (qG _ _ hk) (λu hu=>by
   rcases oN hu with e | e
   ·rw [e,cD]
   ·exact ht u e) g
  rw [Pj,ih',cy,cy]
  unfold fS
  rw [IE g (cD _) _ hk ht]
  show _=_+(t.2 * g (trim t.1)+ev g ts)
  rw [Int.sub_mul,QI]; lia
theorem Er (g) (h:A.Perm B):ev g A=ev g B:=by
 induction h with
 | nil=>rfl
 | cons x _ ih=>rw [bg,bg,ih]
 | swap x y l=>rw [bg,bg,bg,bg]; lia
 | trans _ _ a b=>rw [a,b]
theorem Bk (g):∀ A:List aM,ev g (nz A)=ev g A
 | []=>rfl
 | t::A=>by
  unfold nz
  by_cases h:t.2=0
  ·rw [Rg (by simp [h])]
   show ev g (nz A)=t.2 * _+_
   rw [Bk g A,h,QF,RG]
  ·rw [Qn (by simp [h])]
   show _+ev g (nz A)=_
   rw [Bk g A]; rfl
theorem Bl (ts):eqv (bM ts) ts:=λg=>by
 show ev g (fH (nz (aN ts)))=_
 rw [Er g (bF _),Bk,vP ts g]
theorem vQ (A):mp (bM A)=mp A:=fc.mpr (Bl A)
theorem IF (A):mp (aN A)=mp A:=fc.mpr (vP A)
noncomputable def stp {α:Type} (xs:List α) (lo hi st:Option Int):List α:=(sliceRange (sliceBounds lo hi st xs.length).1 (sliceBounds lo hi st xs.length).2.1 (sliceBounds lo hi st xs.length).2.2).filterMap (xs[·]?)
theorem xZ (h:Vals xs its):∀ ns:List Nat,Vals (ns.filterMap (xs[·]?)) (ns.filterMap (its[·]?)):=by
 intro ns
 induction ns with
 | nil=>exact .nil
 | cons n ns ih =>
  rw [Pf,Pf]
  by_cases z:n<xs.length
  ·obtain ⟨u,e,hu⟩:=h.get (Od z)
   rw [Od z,e]
   exact .cons hu ih
  ·rw [Py (by lia),Py (by rw [<- h.length]; lia)]
   exact ih
theorem x6 {K:NR} (h:ak K H ds xs):∀ ns:List Nat,ak K H (ns.filterMap (ds[·]?)) (ns.filterMap (xs[·]?)):=by
 intro ns
 induction ns with
 | nil=>exact aA.mpr rfl
 | cons n ns ih =>
  rw [Pf,Pf]
  by_cases z:n<ds.length
  ·obtain ⟨u,e,hu⟩:=h.get (Od z)
   rw [Od z,e]
   exact aC.mpr ⟨_,_,rfl,hu,ih⟩
  ·rw [Py (by lia),Py (by rw [<- h.length]; lia)]
   exact ih
section
variable {K:NR}
end
end EV
namespace EV
open PySem PySem.Spec PySem.Calls PyProof.Rows L2
structure Drw (prog:Program) (w:World) (L:List Addr) (i:Addr) (N N':Heap->Prop) (x:Value):Prop where
 keep:∀ {b:Addr} {h h':Heap},b∈L->Qi b h h'->N h->N h'
 keep':∀ {b:Addr} {h h':Heap},b∈L->Qi b h h'->N' h->N' h'
 run:∀ {A:Around} {E Q:Value->Shared->Prop} {s:Shared},N s.heap->(∀ h',N' h'->Pb i s.heap h'->Q x { s with heap:=h' })->wpAny (model prog w) A (QT (.ref i)) Q E s
structure Dry (prog:Program) (w:World) (L:List Addr) (i:Addr) (N:Heap->Prop):Prop where
 keep:∀ {b:Addr} {h h':Heap},b∈L->Qi b h h'->N h->N h'
 run:∀ {A:Around} {E Q:Value->Shared->Prop} {s:Shared},A.handled=none->N s.heap->(∀ h' e,Qi i s.heap h'->(∃ o,h'.get? e=some o/\o.cls=.type "StopIteration")->E (.ref e) { s with heap:=h' })->wpAny (model prog w) A (QT (.ref i)) Q E s
structure NO (z TI TO i1 i2:Addr):Prop where
 a:TI≠z
 b:TO≠z
 c:i1≠z
 d:i2≠z
 e:TI≠TO
 f:TI≠i1
 g:TI≠i2
 h:TO≠i1
 i:TO≠i2
 j:i1≠i2
end EV
namespace EV
open PySem PySem.Spec PyProof.Rows L2
theorem Es (nd:(fp.map (·.1)).Nodup) (hn:∀ a∈fp,aP a.1=none) (fr:∀ a∈fp,H a.1=none) (g:br H Hf H1 aP):br H Hf (dJ l9 fp H1) (dJ l9 fp aP):=by
 have o1:∀ {b:Addr} {o:HO},H b=some o->b∉fp.map (·.1):=λe m=>by obtain ⟨p,hp,rfl⟩:=bH m; rw [fr p hp] at e; cases e
 refine ⟨λb o e=>?_,λb o e=>?_,λb o e=>?_,λb h1 h2 h3=>?_⟩
 ·rw [aE (o1 e)]; exact g.s b o e
 ·have e1:=g.f b o e
  rw [aE λm=>by obtain ⟨p,hp,rfl⟩:=bH m; rw [hn p hp] at e1; cases e1]; exact e1
 ·by_cases m:b∈fp.map (·.1)
  ·obtain ⟨p,hp,rfl⟩:=bH m
   rw [cj nd p hp] at e |-; exact e
  ·rw [aE m] at e |-; exact g.b b o e
 ·rw [aE λm=>by obtain ⟨p,hp,rfl⟩:=bH m; exact h2 (fr p hp)]; exact g.n b h1 h2 h3
section
variable {K:NR}
theorem F3 (h:cS c e ρ λr=>∃ s,r=.fo s/\R s.d):aF c e ρ R:=λσ H Hf Q S q aa s I=>by
 refine bD (h σ H Hf (λv H'=>∃ (sh:Sh) (fp:Fp) (ah:Hp),aI c.X.K H' ah sh v fp/\(fp.map (·.1)).Nodup/\(∀ a∈fp,H a.1=none)/\br H Hf H' ah/\R sh.d) S (λr v H' ah ⟨sh,e,hR⟩ rs g=>by subst e; obtain ⟨fp,r1,r2,r3⟩:=rs; exact ⟨sh,fp,ah,r1,r2,r3,g,hR⟩) aa s I) λu s1 hh=>z2 hh λv H1 hh=>w3 hh λI1 rv hh=>z3 hh λsh fp aP hh=>w5 hh λrf nd fr g hR=>?_
 have hz:=aI.fz sh rf
 exact ⟨v,_,gy I1 nd λa ha=>(hz a ha).1,rv,q sh.d v _ (dJ l9 fp aP) hR (aI.rep (λb o e=>by rw [aE λm=>by obtain ⟨p,hp,rfl⟩:=bH m; rw [(hz p hp).2] at e; cases e]; exact e) sh (λa ha=>cj nd a ha) rf) (Es nd (λa ha=>(hz a ha).2) fr g)⟩
end
end EV
namespace EV
open PySem PySem.Spec PySem.Calls PyProof.Rows L2
structure ZS (K:NR) where
 sq:Hp->Addr->List V->Prop
 it:Heap->Addr->Addr->Nat->Prop
 us:Heap->Addr->Array Value->Prop
 dm:List D->D
 cl:String
 rep:∀ {H:Hp} {ds:List D} {v:V},Rep K H (dm ds) v↔∃ a xs,v=.ref a/\sq H a xs/\ak K H ds xs
 same:∀ {H H':Hp} {a:Addr} {xs:List V},aG H H'->sq H a xs->sq H' a xs
 ini:∀ {h:Heap} {i l:Addr},h.get? i=some { cls:=.type cl,data:=.fields #[.ref l,.int 0 0] }->it h i l 0
 get:∀ {X:Cx} {aa:List (Addr×Obj)} {σ:L2.St} {H:Hp} {s:Shared} {l:Addr} {xs:List V},X.K=K->Inv X aa σ H s->sq H l xs->∃ its,Vals xs its/\us s.heap l its.toArray
 inj:∀ {X:Cx} {aa:List (Addr×Obj)} {σ:L2.St} {H:Hp} {s:Shared} {l:Addr} {xs ys:List V},X.K=K->Inv X aa σ H s->sq H l xs->sq H l ys->xs=ys
 ito:∀ {h:Heap} {i l:Addr} {k:Nat},it h i l k->∃ o,h.get? i=some o/\∀ v,o.data≠.cell v
 itk:∀ {h h':Heap} {i l:Addr} {k:Nat},(∀ o,h.get? i=some o->h'.get? i=some o)->it h i l k->it h' i l k
 usk:∀ {h h':Heap} {l:Addr} {a:Array Value},(∀ o,h.get? l=some o->h'.get? l=some o)->us h l a->us h' l a
 uso:∀ {h:Heap} {l:Addr} {a:Array Value},us h l a->∃ o,h.get? l=some o
 run:∀ {prog:Program} {w:World} {i l:Addr} {a:Array Value} {k:Nat} {x:Value} {A:Around} {E Q:Value->Shared->Prop} {s:Shared},l≠i->a[k]?=some x->it s.heap i l k->us s.heap l a->(∀ h',it h' i l (k+1)->Pb i s.heap h'->Q x { s with heap:=h' })->wpAny (model prog w) A (QT (.ref i)) Q E s
 dry:∀ {prog:Program} {w:World} {i l:Addr} {a:Array Value} {k:Nat} {A:Around} {E Q:Value->Shared->Prop} {s:Shared},A.handled=none->a[k]?=none->it s.heap i l k->us s.heap l a->(∀ h' e,Qi i s.heap h'->(∃ o,h'.get? e=some o/\o.cls=.type "StopIteration")->E (.ref e) { s with heap:=h' })->wpAny (model prog w) A (QT (.ref i)) Q E s
section
variable {K:NR}
end
section
variable (c d:String)
end
section
variable {K:NR}
end
section
variable {K:NR}
end
end EV
namespace EV
open PySem PySem.Spec PyProof.Rows L2
theorem Et (P) (w) (base) {K:NR} {st:Stmt} (D:aD K mg x st) (h:∀ {f:Addr} {fd:FuncData},fC K x x st f fd->bz P w K mg base (dU P w) k f fd ps (JY K ok))
 (hb:∀ (kV doc pm:Value) (an:Option Addr) (cdv ct:Value) (us:List Value),us.length=ps.length->bindArgs (PR x x (fj st) (ay st) (aL st) .none kV doc pm an cdv ct) ⟨us,[]⟩=pure (ps.zip us):=by intro _ _ _ _ _ _ us hl; first | (obtain ⟨a,rfl⟩:=HN us hl; rfl) | (obtain ⟨a,b,rfl⟩:=HP us hl; rfl) | (obtain ⟨a,b,c,rfl⟩:=HQ us hl; rfl) | (obtain ⟨a,b,c,d,rfl⟩:=HR us hl; rfl) | (obtain ⟨a,b,c,d,e,rfl⟩:=len5 us hl; rfl) | (obtain ⟨a,b,c,d,e,f,rfl⟩:=len6 us hl; rfl) | (obtain rfl:=len0 us hl; rfl)):Iz P w K mg base k x ok :=
 let ⟨f,fd,m,Fu⟩:=D; ⟨f,fd,ps,m,Fu.kp,Fu.binds hb,h Fu⟩
end EV
namespace EV
open PySem PySem.Spec PySem.Calls PyProof.Rows L2
noncomputable abbrev gC (l:List Int):D:=.tup (l.map .int)
section
variable {X:Cx}
theorem ki (I:Inv X aa σ H s) (sb:aG Hf H) (h:jS X.K Hf (gC l) u):∃ b its,u=.ref b/\IsTup s.heap b its/\IntsAre its.toList l:=by
 obtain ⟨v,rv,q⟩:=h
 obtain ⟨b,ys,rfl,h3,h4⟩:=aH.mp q
 cases rv
 obtain ⟨its2,rel2,tu2,_⟩:=I.tuple (au sb h3)
 have e:=i7 h4
 subst e
 exact ⟨b,its2.toArray,rfl,tu2,intsAre_of rel2⟩
theorem Bm (h:gC x=gC y):x=y:=by
 simp only [gC,D.tup.injEq] at h
 exact (List.map_inj_right (f:=D.int) (λa b e=>by injection e)).mp h
theorem Bo (I:Inv X aa σ H s) (sb:aG Hf H) (h1:jS X.K Hf (gC x) u) (h2:jS X.K Hf (gC y) u):x=y:=by
 obtain ⟨v,r1,q1⟩:=h1
 obtain ⟨v',r2,q2⟩:=h2
 have:=r1.inj r2
 subst this
 exact Bm (n9 I sb 1 _ _ _ (Ay x y) q1 q2)
theorem Eu (L):SR.FN HT.lexLt L:=⟨λ_ _=>kc _,λ_ _ _ _ _ _ h g=>sO h g,λ_ _ _ _ h=>kg h⟩
noncomputable def Bp (L:List (List Int)):SortKind:=open Classical in if ∀ l∈L,l≠[] then tuples' true else if L.head?=some [] then oneType' else general'
theorem Ew (b) (h:Q (decide (m<n)) s):wpAny (model X.prog X.w) A (oneLt' b (.int m t) (.int n u)) Q E s:=by
 cases b with
 | true=>exact oneLt_int h
 | false =>
  rw [oneLt'_eq,if_neg N5]
  exact NP (lt_int (NS h))
theorem vR:∀ {vs ws:List Value} {x y:List Int} (i:Nat),IntsAre vs x->IntsAre ws y->x.length+n=y.length+m->Q (HT.lexLt x y) s->PySem.W.KatLex X.prog X.w A b (decide (m<n)) Q (vs.zip ws) i s
 | _,_,_,_,i,.nil,.nil,e,h=>PySem.W.kat_nil (by rw [HT.gZ] at h; rw [decide_eq_false (by simp at e; lia)]; exact h)
 | _,_,_,_,i,.nil,.cons c u hw,e,h=>PySem.W.kat_nil (by rw [HT.f9] at h; rw [decide_eq_true (by simp at e; lia)]; exact h)
 | _,_,_,_,i,.cons a t hv,.nil,e,h=>PySem.W.kat_nil (by rw [HT.gc] at h; rw [decide_eq_false (by simp at e; lia)]; exact h)
 | _,_,_,_,i,.cons a t hv,.cons c u hw,e,h=>by
  rw [Sf]
  refine PySem.W.kat_cons (wpAny_eqBool_int ?_)
  rw [HT.cN] at h
  by_cases z:a=c
  ·rw [if_pos z] at h
   rw [show (a == c)=true by simpa using z]
   exact PySem.W.kat_yes (vR (i+1) hv hw (by simp at e; lia) h)
  ·rw [if_neg z] at h
   rw [show (a == c)=false by simpa using z]
   exact PySem.W.kat_no (Ew _ h)
theorem jM:∀ {l:List α} {m:List β} {i:Nat} {b:β},Paired F l m->m[i]?=some b->∃ a,l[i]?=some a/\F a b
 | _,_,_,_,.nil,e=>by simp at e
 | _,_,0,_,.cons r _,e=>by simp at e; subst e; exact ⟨_,rfl,r⟩
 | _,_,i+1,a,.cons _ t,e=>by
  obtain ⟨b,h1,h2⟩:=jM (i:=i) t (by simpa using e)
  exact ⟨b,by simpa using h1,h2⟩
theorem Bq (I:Inv X aa σ H s) (sb:aG Hf H) (h:Paired (λx u=>jS X.K Hf (gC x) u) L us) (h2:2<=us.length) (hQ:Q (Bp L) s):wpAny (model X.prog X.w) A (keyKind' us.toArray) Q E s:=by
 have key:∃ fs:List (Option Value),Paired (λ(l:List Int) o=>(l=[]/\o=none)\/∃ n r t,l=n::r/\o=some (RL n t)) L fs/\Paired (λu o=>∀ (Q:Option Value->Shared->Prop),Q o s->wpAny (model X.prog X.w) A (firstOfTuple' u) Q E s) us fs:=by
  clear h2 hQ
  induction h with
  | nil=>exact ⟨[],.nil,.nil⟩
  | @cons x u L us r t ih =>
   obtain ⟨fs,e1,e2⟩:=ih
   obtain ⟨a,its,rfl,⟨o,ho,hc,n,hd⟩,ia⟩:=ki I sb r
   refine ⟨its[0]?::fs,.cons ?_ e1,.cons (λQ hQ=>?_) e2⟩
   ·rw [<- OL]
    generalize its.toList=il at ia
    cases ia with
    | nil=>exact .inl ⟨rfl,rfl⟩
    | cons n t' _=>exact .inr ⟨n,_,t',rfl,rfl⟩
   ·show wpAny _ _ (do
     if (<- typeOf (.ref a)) != .type "tuple" then return none
     return (<- Rh (.ref a))[0]?) _ _ _
    refine NP (Qf (T:="tuple") ⟨o,ho,hc⟩ ?_)
    rw [if_neg (by simp)]
    exact NP (RD ho hd (NS hQ))
 obtain ⟨fs,e1,e2⟩:=key
 rw [keyKind'_eq,List.mapM_toArray]
 simp only [bind_map_left]
 refine NP (iA _ _ e2 ?_)
 have typs:∀ {T:String} (vs:List Value) (Q:List Value->Shared->Prop),(∀ v∈vs,s.TypeIs v T)->Q (vs.map λ_=>.type T) s->wpAny (model X.prog X.w) A (vs.mapM typeOf) Q E s:=λ{T} vs Q ht hQ=>by
  refine iA _ _ ?_ hQ
  clear hQ
  induction vs with
  | nil=>exact .nil
  | cons f fs ih=>exact .cons (λQ hQ=>Qf (ht f N2) hQ) (ih λg hg=>ht g (N6 _ hg))
 have el:L.length=us.length:=Pc h
 have ef:L.length=fs.length:=Pc e1
 have oneT:∀ {T:String} (vs:List Value) (Q:Option Value->Shared->Prop),vs≠[]->(∀ v∈vs,s.TypeIs v T)->Q (some (.type T)) s->wpAny (model X.prog X.w) A (oneTypeOnly' vs.toArray) Q E s:=λ{T} vs Q hne ht hQ=>by
  rw [oneTypeOnly'_eq,List.mapM_toArray]
  simp only [bind_map_left]
  refine NP (typs (T:=T) vs _ ht ?_)
  obtain ⟨f,r,rfl⟩:=List.exists_cons_of_ne_nil hne
  have h0:(List.map (λ_=>O9 T) (f::r)).toArray[0]?=some (O9 T):=by simp
  rw [h0]
  dsimp only
  rw [if_pos (by simp)]
  exact NS hQ
 unfold Bp at hQ
 by_cases hall:∀ l∈L,l≠[]
 ·rw [if_pos hall] at hQ
  have e3:∃ gs:List Value,fs=gs.map some/\∀ g∈gs,s.TypeIs g "int":=by
   clear h h2 hQ e2 el ef oneT typs
   induction e1 with
   | nil=>exact ⟨[],rfl,by simp⟩
   | @cons x o L fs r t ih =>
    obtain ⟨gs,q1,q2⟩:=ih λl hl=>hall l (N6 _ hl)
    rcases r with ⟨z,_⟩ | ⟨n,r',t',_,rfl⟩
    ·exact absurd z (hall x N2)
    ·exact ⟨.int n t'::gs,by rw [q1]; rfl,λg hg=>by
      rcases N9.mp hg with rfl | hg
      ·exact Q9 s n t'
      ·exact q2 g hg⟩
  obtain ⟨gs,rfl,q2⟩:=e3
  rw [if_pos (by simp)]
  refine NP (Pe ?_)
  have e4:(gs.map some).toArray.filterMap id=gs.toArray:=by simp
  rw [e4]
  refine NP (oneT (T:="int") gs _ (λz=>by subst z; rw [el,PF,PB] at ef; lia) q2 (NS ?_))
  have e6:(some (O9 "int")).any (λx=>x != O9 "tuple")=true:=by decide
  rw [e6]
  exact hQ
 ·rw [if_neg hall] at hQ
  have hno:¬ (fs.toArray.all λx=>x.isSome)=true:=λz=>hall λl hl hl0=>by
   obtain ⟨i,hi,ei⟩:=List.mem_iff_getElem.mp hl
   obtain ⟨o,ho,r⟩:=dI e1 (Od hi)
   rw [ei] at r
   have zo:o.isSome=true:=by
    rw [List.all_toArray,List.all_eq_true] at z
    exact z o (O3 ho)
   rcases r with ⟨_,rfl⟩ | ⟨n,r',t',e,_⟩
   ·cases zo
   ·rw [hl0] at e; cases e
  rw [if_neg hno]
  cases e1 with
  | nil=>rw [PB] at el; lia
  | @cons x o L fs r t =>
   have e0:((o::fs).toArray[0]?.bind id)=o:=by simp
   rw [e0]
   rcases r with ⟨rfl,rfl⟩ | ⟨n,r',t',rfl,rfl⟩
   ·rw [if_pos (by simp)] at hQ
    rw [if_neg (by simp)]
    refine NP (oneT (T:="tuple") us _ (λz=>by subst z; simp at h2) (λv hv=>?_) (NS hQ))
    obtain ⟨i,hi,ei⟩:=List.mem_iff_getElem.mp hv
    obtain ⟨l,_,r⟩:=jM h (Od hi)
    rw [ei] at r
    obtain ⟨a,its,rfl,⟨o,ho,hc,n,hd⟩,ia⟩:=ki I sb r
    exact ⟨o,ho,hc⟩
   ·rw [if_neg (by simp)] at hQ
    rw [if_pos (by simp)]
    exact NS hQ
theorem IG (I:Inv X aa σ H s) (sb:aG Hf H) (hA:A.units+10<cLine) (hx:jS X.K Hf (gC x) u) (hy:jS X.K Hf (gC y) v) (hQ:Q (HT.lexLt x y) s):wpAny (model X.prog X.w) A (keyLt' (Bp L) u v) Q E s:=by
 obtain ⟨a,its,rfl,ta,ia⟩:=ki I sb hx
 obtain ⟨b,its2,rfl,tb,ib⟩:=ki I sb hy
 have hu:A.units<cLine:=by lia
 have gen:wpAny (model X.prog X.w) A (oneLt' false (.ref a) (.ref b)) Q E s:=PySem.W.kat_one _ _ (HT.rZ ta tb ia ib hu hQ)
 obtain ⟨⟨cls,dd,data,sl⟩,ho,hc,n,hd⟩:=id ta
 obtain ⟨⟨cls2,dd2,data2,sl2⟩,ho2,hc2,n2,hd2⟩:=id tb
 simp only at hc hd hc2 hd2
 subst hc hd hc2 hd2
 unfold Bp
 split
 ·exact PySem.W.kat_lt ho rfl ho2 rfl (vR (m:=its.size) (n:=its2.size) 0 ia ib (by have:=ia.length; have:=ib.length; simp only [OM] at *; lia) hQ)
 ·split
  ·rw [keyLt'_oneType,oneLt'_eq]
   simp only [if_true]
   refine NP (wpAny_cRoomFor hu ?_)
   refine NP (wpAny_callSpecialIfBound?_slot ⟨_,ho,rfl⟩ TL (Ra TL ⟨_,ho,rfl⟩ PySem.F.entry_tuple_lt (PySem.F.args_tuple_lt_2 _ _) (HT.g6 a b its its2 n n2 dd dd2 sl sl2 x y ia ib) ⟨ho,ho2,?_⟩))
   exact Rm hQ
  ·exact gen
end
section
open PySem in
theorem Br (hd:(d == sysModules)=false) (ho:s.heap.get? d=some o) (hx:o.ExactDict) (hdat:o.data=.dict es ep)
 (hQ:Q (.ref s.heap.objs.size) { s with heap:=s.heap.push { cls:=.type "dict_keyiterator",data:=.fields #[.ref d,.int 0 0,.int es.size 0,.int ep 0] } }) :
 wpAny (model prog w) A (pyIter (.ref d)) Q E s:=by
 have hT:s.TypeIs (.ref d) "dict":=⟨o,ho,hx.1⟩
 refine T6 hT F.slot_dict_iter (Pq F.slot_dict_iter hT F.entry_dict_iter ?_ (F.args_dict_iter_1 _))
 unfold Builtin.«dict.__iter__»
 refine NP ?_
 unfold Builtin.Dict.dictSlotNone
 refine NP (wpAny_notOrdered_dict hT ?_)
 show wpAny _ _ (pure (Ol d)) _ _ s
 refine NS ?_
 show wpAny _ _ (R6 d >>= _) _ _ s
 unfold R6
 rw [if_neg (by rw [hd]; exact N5)]
 refine NP (NS ?_)
 refine NP (Q0 ho hdat ?_)
 refine NP (Q4 ho hdat ?_)
 refine NP (O0 (NS ⟨_,rfl,"dict_keyiterator",_,⟨_,Ob _ rfl,rfl⟩,Rc.lookup,?_⟩))
 simpa [rawInt] using hQ
theorem Bt (hit:s.heap.IsKeyIter it d i es.size ep)
 (hod:s.heap.get? d=some od) (hdd:od.data=.dict es ep) (hx:es[i]?=some e)
 (hQ:∀ h',h'.IsKeyIter it d (i+1) es.size ep->Pb it s.heap h'->Q (some e.key) { s with heap:=h' }) :
 wpAny (model prog w) A (pyNext (.ref it)) Q E s:=by
 obtain ⟨o,ho,hc,hd⟩:=id hit
 unfold pyNext
 refine NP (Qe (P7 (name:=NQ "__next__") hit.typeIs Rc
  (Pq Rc hit.typeIs Ux ?_ (Uu _))))
 refine NP (NS ?_)
 refine NP ?_
 refine NP ?_
 first | refine NP (RP hit.typeIs (NS ?_)) | refine NP (RV hit.typeIs (NS ?_))
 refine NP (SG ho hd ?_)
 have hown:Tj "dict_keyiterator"=false:=by decide
 simp only [hown,ON,if_false]
 show wpAny _ _ (if (Ol d == OX)=true then _ else _) _ _ s
 rw [if_neg (show ¬ ((Ol d == OX)=true) from N5)]
 refine NP (NS ?_)
 refine NP (Q0 hod hdd ?_)
 rw [if_neg (by simp)]
 refine NP (NS ?_)
 refine NP (Q4 hod hdd ?_)
 rw [if_neg (by simp)]
 refine NS ?_
 simp only [show ¬ ((i:Int)<0) from by omega,if_false,OH,hx]
 refine NP ?_
 first | refine NP (RP hit.typeIs (NS ?_)) | refine NP (RV hit.typeIs (NS ?_))
 refine NP (wpAny_isOneOf_keyiter hit.typeIs ?_)
 show wpAny _ _ (setField (.ref it) 1 (rawInt ((i:Int)+1)) >>= _) _ _ s
 refine NP (Rx ho hd (by simp) ?_)
 have hit':(s.heap.update it (Obj.mapFields (·.setIfInBounds 1 (rawInt ((i:Int)+1))))).IsKeyIter it d (i+1) es.size ep :=
  ⟨_,Heap.get?_update_self _ ho (Obj.isFreed_of_fields (Se hd _)),(Obj.cls_mapFields ..).trans hc,by rw [Se hd]; simp [rawInt]⟩
 refine NP (O6 ?_)
 refine NP (wpAny_isOneOf_keyiter (s:={ s with heap:=s.heap.update it (Obj.mapFields (·.setIfInBounds 1 (rawInt ((i:Int)+1)))) }) hit'.typeIs ?_)
 show wpAny _ _ (pure e.key) _ _ _
 exact NS (NS ⟨_,rfl,NS (hQ _ hit' (Rl ..))⟩)
theorem Ey (hh:A.handled=none) (hit:s.heap.IsKeyIter it d i es.size ep)
 (hod:s.heap.get? d=some od) (hdd:od.data=.dict es ep) (hge:es.size<=i)
 (hQ:∀ h',Qi it s.heap h'->Q none { s with heap:=h' }):wpAny (model prog w) A (pyNext (.ref it)) Q E s:=by
 obtain ⟨o,ho,hc,hd⟩:=id hit
 unfold pyNext
 refine NP (Qe (P7 (name:=NQ "__next__") hit.typeIs Rc
  (Pq Rc hit.typeIs Ux ?_ (Uu _))))
 refine NP (NS ?_)
 refine NP ?_
 refine NP ?_
 first | refine NP (RP hit.typeIs (NS ?_)) | refine NP (RV hit.typeIs (NS ?_))
 refine NP (SG ho hd ?_)
 have hown:Tj "dict_keyiterator"=false:=by decide
 simp only [hown,ON,if_false]
 show wpAny _ _ (if (Ol d == OX)=true then _ else _) _ _ s
 rw [if_neg (show ¬ ((Ol d == OX)=true) from N5)]
 refine NP (NS ?_)
 refine NP (Q0 hod hdd ?_)
 rw [if_neg (by simp)]
 refine NP (NS ?_)
 refine NP (Q4 hod hdd ?_)
 rw [if_neg (by simp)]
 refine NS ?_
 simp only [show ¬ ((i:Int)<0) from by omega,if_false,OH,Array.getElem?_eq_none hge]
 refine NP ?_
 first | refine NP (RP hit.typeIs (NS ?_)) | refine NP (RV hit.typeIs (NS ?_))
 show wpAny _ _ (setField (.ref it) 0 .none >>= _) _ _ s
 refine NP (Rx ho hd (by simp) ?_)
 show wpAny _ _ (newExc (.type "StopIteration") [] >>= _) _ _ _
 refine NP ?_
 simp only [newExc,newTuple]
 refine NP (O0 ?_ (by size_fits))
 refine NP (m:=firstArgMember _ _) (wpAny_of_eq (a:=OX) (by first | rfl | (simp only [firstArgMember]; rfl)) ?_)
 refine O0 ?_ (by size_fits)
 simp only [raiseNew]
 refine NP (wpAny_handled ?_)
 rw [show A.in1.handled=none from hh]
 refine NP (NS (wpAny_throw ?_))
 refine NP (Ss (T:="StopIteration") (b:=true) ⟨_,Ob _ rfl,rfl⟩ isSubtype_stop ?_)
 exact NS (hQ _ (((Rl ..).extBut.push _).push _))
end
section
variable {X:Cx} {aa:List (Addr×Obj)} {σ:L2.St} {H Hf:Hp} {s:Shared} {E:Value->Shared->Prop} {α:Type} {enc:α->D} {lt:α->α->Bool} {κ:SortKind}
structure Lo (X:Cx) (enc:α->D) (lt:α->α->Bool) (κ:SortKind) (L:List α):Prop where
 lin:SR.FN lt L
 inj:∀ (aa:List (Addr×Obj)) (σ:L2.St) (H Hf:Hp) (s:Shared),Inv X aa σ H s->aG Hf H->∀ x y u,jS X.K Hf (enc x) u->jS X.K Hf (enc y) u->x=y
 kind:∀ (aa:List (Addr×Obj)) (σ:L2.St) (H Hf:Hp) (s:Shared) (A:Around) (E:Value->Shared->Prop),Inv X aa σ H s->aG Hf H->∀ us:List Value,Paired (λx u=>jS X.K Hf (enc x) u) L us->2<=us.length->∀ Q:SortKind->Shared->Prop,Q κ s->wpAny (model X.prog X.w) A (keyKind' us.toArray) Q E s
 cmp:∀ (aa:List (Addr×Obj)) (σ:L2.St) (H Hf:Hp) (s:Shared) (A:Around) (E:Value->Shared->Prop),Inv X aa σ H s->aG Hf H->A.units+10<cLine->∀ (x y:α) (u v:Value),jS X.K Hf (enc x) u->jS X.K Hf (enc y) v->∀ Q:Bool->Shared->Prop,Q (lt x y) s->wpAny (model X.prog X.w) A (keyLt' κ u v) Q E s
theorem Ez (L):Lo X gC HT.lexLt (Bp L) L :=
 ⟨Eu L,λ_ _ _ _ _ I sb _ _ _ h1 h2=>Bo I sb h1 h2,λ_ _ _ _ _ _ _ I sb _ p h2 _ hQ=>Bq I sb p h2 hQ,λ_ _ _ _ _ _ _ I sb hA _ _ _ _ hx hy _ hQ=>IG I sb hA hx hy hQ⟩
theorem x8 {Q:Value->Shared->Prop} (hs:Lo X enc lt κ L) (I:Inv X aa σ H s) (sb:aG Hf H) (hA:A.units+20<cLine) (hr:ak X.K Hf (L.map enc) xs) (hv:Vals xs us) (hz:us.length<=sizeLine) (nd:L.Nodup)
 (hkw:∀ l,Builtin.«list.sort» ⟨[.ref l],kw⟩=Builtin.«list.sort» ⟨[.ref l],[(NQ "reverse",.bool b)]⟩) (hka:∀ l,argsOk "list.sort" ⟨[.ref l],kw⟩)
 (hQ:∀ (L':List α) (xs':List V) (s':Shared),L'.Perm L->fR lt b L'->ak X.K Hf (L'.map enc) xs'->xs'.length<=sizeLine->Inv X aa σ (upd H s.heap.objs.size (.lst xs')) s'->Q (.ref s.heap.objs.size) s') :
 wpAny (model X.prog X.w) A (newList us >>= λl=>(holding [l] (call (.builtin "list.sort") [l] kw) >>= λ_=>ret l)) (λfin s'=>∃ v,fin=.done (.ret v)/\Q v s') E s:=by
 refine NP (Ry ?_ hz)
 have ha:(s.heap.push (seqObj "list" us.toArray 0)).get? s.heap.objs.size=some (seqObj "list" us.toArray 0):=Ob _ rfl
 have I1:Inv X aa σ H { s with heap:=s.heap.push (seqObj "list" us.toArray 0),toks:=s.toks }:=I.kept λb o e=>NY _ e
 have Ha:H s.heap.objs.size=none:=I.hok.fresh (NT _)
 obtain ⟨f0,f1,f2,f3,f4,f5⟩:=I.lV (H':=H) (NT _) Ha
 have pL:=lg hr hv
 refine NP (O6 (TQ slot_list_sort ⟨_,ha,rfl⟩ entry_list_sort (by
  rw [hkw]
  refine SR.ny (κ:=κ) (rk:=SR.xx (λx u=>jS X.K Hf (enc x) u) lt L) (b:=b) ha ?_ hz λout hp ho=>⟨_,rfl,?_⟩
  ·intro h' k
   have I2:=I1.turned (h':=h') (t':=s.toks) (it:=s.heap.objs.size) (λb o hb e=>k b o hb e) f0 f1 f3 f4 f5
   refine ⟨λQ E h2 hQ=>hs.kind _ _ _ _ _ _ _ I2 sb _ pL h2 _ hQ,SR.Aw (λx y u h1 h2=>hs.inj _ _ _ _ _ I2 sb x y u h1 h2) hs.lin pL λx _ y _ u v hx hy E Q hQ=>hs.cmp _ _ _ _ _ _ _ I2 sb ?_ _ _ _ _ hx hy _ hQ⟩
   show A.units+1+10<cLine
   lia
  ·obtain ⟨L',p1,p2,p3⟩:=SR.qF (S:=λx u=>jS X.K Hf (enc x) u) (λx y u h1 h2=>hs.inj _ _ _ _ _ I sb x y u h1 h2) hs.lin nd pL hp ho
   obtain ⟨xs',r',v'⟩:=lu p3
   obtain ⟨e,he⟩:=sortedHeap_at (vs:=us) (out:=out) ha
   have hl:out.toList.length=us.length:=hp.length_eq
   refine NS ⟨_,rfl,hQ L' xs' _ p1 p2 r' ?_ ?_⟩
   ·have:=v'.length; lia
   ·refine I.laid (t':=s.toks) (λb o q=>?_) (NT _) ⟨by have:=v'.length; lia,out.toList,e,v',by simpa using he⟩
    have lt:=N1 q
    rw [sortedHeap_old (Ou lt) (by rw [size_push']; exact Sk lt)]
    exact NY _ q) (hka _)))
end
theorem mh:argsOk "sorted" ⟨[a],[]⟩:=by unfold argsOk; kernel_rfl
theorem args_list_sort_1:argsOk "list.sort" ⟨[a],[]⟩:=by unfold argsOk; kernel_rfl
noncomputable def Lp (d:Addr) (o:Obj) (u:HO):It :=
 ⟨λi H=>H d=some (.frz o u)/\i<(bO u).length,λi H x H'=>H'=H/\∃ y,(bO u)[i]?=some y/\x=y.1,λi H=>H d=some (.frz o u)/\(bO u).length<=i⟩
theorem tw {P:Program} {w:World} {K:NR} {tg:Expr} {d j:Addr} {o:Obj} {u:HO} {es:Array DictEntry} {ep:Nat} (hd:HO.dct u) (hod:o.data=.dict es ep) (hes:es.size=(bO u).length):Turn P w K tg (Lp d o u) [j] j (λi h=>h.IsKeyIter j d i es.size ep) where
 mem:=Oa.mpr rfl
 obj:=λi h ⟨q,e,_,hd⟩ b hb=>by
  obtain rfl:b=j:=Oa.mp hb
  exact ⟨_,e,λv z=>by rw [hd] at z; cases z⟩
 keep:=λi h h' ⟨q,e,r⟩ k=>⟨q,k j (Oa.mpr rfl) _ e,r⟩
 item:=by
  intro X hP hw hK hc i aa s σ H E I hf st hg
  subst hP hw hK
  obtain ⟨f0,f1,f2,f3,f4,f5⟩:=hf j (Oa.mpr rfl)
  obtain ⟨hH,hi⟩:=hg
  obtain ⟨ho,ok⟩:=(show bq X.prog X.w H s.heap d (.frz o u) from I.hok d _ hH)
  obtain ⟨_,es',ep',e1,e2,_⟩:=cP ok hd ho
  rw [hod] at e1; cases e1
  obtain ⟨e,he,re⟩:=dI e2 (Od hi)
  have he':es[i]?=some e:=by simpa using he
  refine Bt st ho hod he' λh' hit' hs'=>?_
  have I1:Inv X aa σ H { s with heap:=h',toks:=s.toks }:=I.turned (λb o hb e=>hs'.extBut b o hb e) f0 f1 f3 f4 f5
  obtain ⟨q,eq,qc,qd⟩:=id hit'
  exact ⟨_,rfl,mG (s:={ s with heap:=h',toks:=s.toks }) (n:="dict_keyiterator") eq qc qd (by decide) ⟨_,H,I1,re.1,⟨rfl,_,Od hi,rfl⟩,hit',λb hb=>(hf b hb).1⟩⟩
 done:=by
  intro X hP hw hK hc i aa s σ H E I hf st hg
  subst hP hw hK
  obtain ⟨f0,f1,f2,f3,f4,f5⟩:=hf j (Oa.mpr rfl)
  obtain ⟨hH,hi⟩:=hg
  obtain ⟨ho,ok⟩:=(show bq X.prog X.w H s.heap d (.frz o u) from I.hok d _ hH)
  exact Ey (I.ok.hd hc) st ho hod (by rw [hes]; exact hi) λh' eb=>⟨rfl,I.turned (t':=s.toks) (λb o hb e=>eb b o hb e) f0 f1 f3 f4 f5⟩
 self:=λ_ _ _ _ _ st h=>wpAny_pyIter_keyiter st h
theorem tD {K:NR} {Hf:Hp} {d:Addr} {o:Obj} {ys:List (List Key×Addr×V)} {ks:List (List Int)} (hH:Hf d=some (.frz o (.dT ys))) (hk:ys.map (·.1)=ks.map (·.map Oe)) (hs:∀ y∈ys,dB K Hf y.2.1 (y.1.map kV)):jn K (Lp d o (.dT ys)) (ks.map gC) Hf where
 go:=λi x H aP s1 s2 e=>by
  rw [NZ,N8] at e
  obtain ⟨n,hn,rfl⟩:=e
  have hq:=congrArg (λl=>l[i]?) hk
  simp only [NZ,hn,Option.map_some] at hq
  obtain ⟨y,hy,ey⟩:=N8.mp hq
  have hp:(bO (.dT ys))[i]?=some (.ref y.2.1,y.2.2):=by
   show (ys.map _)[i]?=_
   rw [NZ,hy]; rfl
  refine ⟨⟨s2 _ _ (s1 _ _ hH),(N4.mp hp).1⟩,λv H' ⟨e1,y',e2,e3⟩=>?_⟩
  rw [hp] at e2; cases e2
  subst e1 e3
  refine ⟨aP,.refl s2,aH.mpr ⟨y.2.1,y.1.map kV,rfl,au s1 (hs y (O3 hy)),?_⟩⟩
  rw [ey,Oj]
  exact jm n
 stop:=λi H aP s1 s2 e=>⟨s2 _ _ (s1 _ _ hH),by
  have:=congrArg QG hk
  show (ys.map _).length<=i
  simp only [NX] at this e |-
  lia⟩
theorem oZ (hc:X.calm=true) (I:Inv X aa σ H s) (sb:aG Hf H) (hA:X.A.units+60<cLine) (hH:Hf d=some (.frz o (.dT ys))) (hk:ys.map (·.1)=ks.map (·.map Oe)) (hq:∀ y∈ys,dB X.K Hf y.2.1 (y.1.map kV)) (nd:ks.Nodup)
 (hQ:∀ (L':List (List Int)) (xs':List V) (s':Shared) (H' ah:Hp) (a:Addr),L'.Perm ks->fR HT.lexLt false L'->ak X.K ah (L'.map gC) xs'->br H Hf H' ah->H' a=none->Inv X aa σ (upd H' a (.lst xs')) s'->Q (.ref a) s') :
 wpAny (model X.prog X.w) X.A (call (.builtin "sorted") [.ref d]) Q E s:=by
 refine call_function_entry kind_sorted plain_sorted entry_sorted mh ?_
 unfold Builtin.«sorted»
 refine NP (m:=checkCount "sorted" 1 1 _) (NS ?_)
 have h1:X.A.in1.handled=none:=I.ok.hd hc
 have h2:X.A.in1.frames=some X.stack:=I.ok.frames
 obtain ⟨ho,ok⟩:=(show bq X.prog X.w H s.heap d (.frz o (.dT ys)) from I.hok d _ (sb _ _ hH))
 obtain ⟨hx,es,ep,e1,e2,hs,hz⟩:=cP ok trivial ho
 have hsz:es.size=(bO (.dT ys)).length:=by rw [Pc e2]; simp
 have hn:(ks.map gC).length=(bO (.dT ys)).length:=by have:=congrArg QG hk; show _=(ys.map _).length; simp only [NX] at this |-; lia
 have ty:∀ s':Shared,(∀ b o,s.heap.get? b=some o->s'.heap.get? b=some o)->s'.TypeIs (.ref d) "dict":=λs' k=>⟨o,k _ _ ho,hx.1⟩
 refine NP (k9 (X:=DS X X.A.in1) (H:=H) (Hf:=Hf) (ds:=ks.map gC) (T:="dict") hc h1 h2 (jw I (λ_=>h1) h2) sb (N1 ho) (by lia) (by decide) (λs' k=>ty s' k) (λA s' Q E q h=>nH q h) (λA s1 H1 E I1 sb1 k1=>?_) λus s' H' ah xs I' rv rr g hz'=>?_)
 ·refine Br hs (k1 _ _ ho) hx e1 ?_
  refine ⟨_,_,_,rfl,NT _,I1.kept (t':=s1.toks) λb o e=>NY _ e,tw (u:=.dT ys) trivial e1 hsz,⟨_,Ob _ rfl,rfl,rfl⟩,λb hb=>?_,λb o e=>NY _ e,tD hH hk hq⟩
  obtain rfl:b=s1.heap.objs.size:=Oa.mp hb
  exact I1.lV (NT _) (I1.hok.fresh (NT _))
 ·have I2:=gq I.ok I'
  have el:=rr.length
  have el2:=rv.length
  refine x8 (b:=false) (Ez ks) I2 g.b ?_ rr rv (by lia) nd (λ_=>rfl) (λ_=>args_list_sort_1) λL' xs' s2 p1 p2 p3 p4 I3=>hQ L' xs' s2 H' ah _ p1 p2 p3 g (I2.hok.fresh (NT _)) I3
  show X.A.units+1+20<cLine
  lia
section
variable {K:NR} {c:Ctx P w K mg base k N sc bk}
theorem Bu (hm:mg "sorted"=none) (h:aF c e ρ λd=>∃ (ks:List (List Int)) (ds:List D),d=.fdT (ks.map (·.map Oe)) ds/\Sd ks.Nodup (∀ L':List (List Int),L'.Perm ks->fR HT.lexLt false L'->R (.ow (L'.map gC))))
 (hg:sc.names.lookup (NQ "sorted")=some .globalImplicit:=by walk_at "u")
 (he:∀ env,starEach [e] env=(false,eval e env)::starEach [] env:=by intro _; walk_at "u")
 (hpl:∀ env,(backTo pos (starEach [] env)).any (·.1)=false:=by intro _; walk_at "u") :
 cS c (.Call (.Name "sorted" np) [e] [] pos) ρ R:=λσ H Hf Q S q aa s I=>by
 have hgl:Gl c.X "sorted":=by unfold Gl Ox; rw [c.esc]; exact hg
 refine Pz (dR I hgl (by rw [c.emg]; exact hm) (show bootBuiltins "sorted"=some (.builtin "sorted") by decide +kernel) ?_ (by decide) (by decide))
 have hpa:=bR (X:=c.X) (e:=e) (es:=[]) dz dS (he _)
 refine Ti (bD (hpa pos aa s σ H (λvs H1=>∃ x,vs=[x]/\∃ (ks:List (List Int)) (ds:List D) (aP:Hp),Rep c.X.K aP (.fdT (ks.map (·.map Oe)) ds) x/\ks.Nodup/\br H Hf H1 aP/\∀ L':List (List Int),L'.Perm ks->fR HT.lexLt false L'->R (.ow (L'.map gC))) I ?_) λus s1 hh=>z2 hh λvs H1 hh=>w3 hh λI1 r1 hh=>hh.elim λx hh=>w2 hh λex hh=>z3 hh λks ds aP hh=>w4 hh λe1 e7 e8 e9=>?_) (he _) (hpl _)
 ·exact h σ H Hf _ S λd v H1 aP ⟨ks,ds,hp,⟨hn,hR⟩⟩ rv g=>⟨_,rfl,ks,ds,aP,by rw [<- hp]; exact rv,hn,g,hR⟩
 ·subst ex
  obtain ⟨a0,ys,o,rfl,hs,hk,hq,hr⟩:=iL.mp e1
  have eu:us=[.ref a0]:=by
   cases r1 with
   | cons q1 q2=>cases q2; cases q1; rfl
  subst eu
  refine oZ c.calm I1 e8.b ?_ hs hk hq e7 λL' xs' s' H' ah a p1 p2 p3 g na I3=>?_
  ·have:=c.room.un
   lia
  ·have gg:=e8.trans g
   exact ⟨.ref a,_,I3,rfl,q (.ow (L'.map gC)) _ _ ah (e9 L' p1 p2) ⟨a,xs',rfl,gg.s.free na,af,g.b.free na,p3⟩ (gg.trans (br.gh g.b na))⟩
end
noncomputable def Lq:V->List V->Hp->VK->Prop:=λx vs H Q=>∃ l xs y,x=.ref l/\vs=[.int 0,y]/\H l=some (.lst xs)/\xs.length<sizeLine/\Q .non (upd H l (.lst (y::xs)))
theorem EA:Nn X "list.insert" Lq:=by
 intro aa s σ H x vs v us Q I rx rv h
 obtain ⟨l,xs,y,rfl,rfl,hH,hz,q⟩:=h
 cases rx
 cases rv with
 | cons r0 rv =>
  obtain ⟨t,rfl⟩:=r0
  obtain ⟨u,rfl,ru⟩:=Vals.one rv
  obtain ⟨z,its,n,r,hl,e⟩:=I.pO hH
  refine Ra F.slot_list_insert ⟨_,e,rfl⟩ F.entry_list_insert (F.args_list_insert_3 _ _ _) (PySem.AutoSeq1.list_insert_list_int_val_1 l its.toArray n 0 t u (by decide) (by rw [Of]; lia)) ⟨e,?_⟩
  refine ⟨.non,_,I.r9 (its':=u::its) hH e (by simp) (.cons ru r) ?_,rfl,q⟩
  rw [Oz]
  lia
section
variable {K:NR} {c:Ctx P w K mg base k N sc bk}
theorem II (hN:At N i x) (hi:At ρ i r) (hr:r.getL=some ds) (h:aF c e ρ λd=>Sd (ds.length<sizeLine) (Nx ρ i nx (r.putL (d::ds))))
 (hs:∀ env,swapsWith (.Call (.Attribute (.Name x px) "insert" ap) [.Constant (.int 0) j p0,e] [] cp) none pos.line env=pure false:=by intro _; walk_at "u") (hd:(x == ("__debug__":Str))=false:=by decide) (hcd:(x == ("__classdict__":Str))=false:=by decide)
 (hbase:∀ env,attributeBase (.Name x px) "insert" env (eval (.Name x px) env)=eval (.Name x px) env:=by intro _; walk_at "u")
 (hfew:∀ env,((backTo cp (starEach [.Constant (.int 0) j p0,e] env)).all (λx=> !x.1) && (backToKw cp (keywordEach [] env)).all (λx=>x.1.isSome)
   && decide (([.Constant (.int 0) j p0,e]:List Expr).length+([]:List Keyword).length+(if ([]:List Keyword).isEmpty then 0 else 1)<30))=true:=by intro _; walk_at "u")
 (hline:(ap.endLine == cp.line)=true:=by walk_at "u") (he0:∀ env,starEach [.Constant (.int 0) j p0,e] env=(false,eval (.Constant (.int 0) j p0) env)::starEach [e] env:=by intro _; walk_at "u") (he:∀ env,starEach [e] env=(false,eval e env)::starEach [] env:=by intro _; walk_at "u") (hpl:∀ env,(backTo cp (starEach [e] env)).any (·.1)=false:=by intro _; walk_at "u") :
 eG c (.Expr (.Call (.Attribute (.Name x px) "insert" ap) [.Constant (.int 0) j p0,e] [] cp) pos) ρ nx p:=λσ H Hf D S o=>by
 obtain ⟨q,eq,rq⟩:=S.own hi.get (dH hr)
 obtain ⟨xs,h1,h2,h3⟩:=HA hr rq
 refine dO (jW (Fo PySem.F.plainAttrs_list PySem.F.slot_list_insert PySem.F.type_list_insert EA (c.jo hN hd hcd) (bR nO (bR dz dS (he _)) (he0 _)) (hbase _) (hfew _) hline (he0 _) (hpl _)) (hs _)) ⟨_,eq,.inl ⟨rfl,xs,.inl (.inl h1)⟩,?_⟩
 refine h σ H Hf _ S λd v H' ah ⟨hz,ρ',hs',hn⟩ rd g=>?_
 have S':=S.cF g
 have e1:H' q=some (.lst xs):=g.s _ _ h1
 have e2:ah q=none:=g.n q h2 (by rw [h1]; simp) (by intro ys; rw [h1]; simp)
 refine ⟨q,xs,v,rfl,rfl,e1,by rw [<- h3.length]; exact hz,?_⟩
 refine o.nx _ _ ah ρ' ?_ hn
 rw [hs'.eq]
 have rq':=rq.cF g
 exact S'.upd hi.get (dH hr) eq (gK g.b e2) (kK hr rq' af e2 (.cons rd (h3.mono g.f))) (ir hr)
end
end EV
namespace EV
open PySem PySem.Spec PyProof.Rows L2
theorem vS {α:Type}:∀ ys:List α,(OD ys.length).filterMap (ys[·]?)=ys
 | []=>rfl
 | y::ys=>by
  rw [Oz,List.range_succ_eq_map,Pf]
  show y::_=_
  rw [Sg]
  exact congrArg (y:: ·) (vS ys)
theorem q8 {α β:Type} {f g:α->Option β}:∀ {l:List α},(∀ x∈l,f x=g x)->l.filterMap f=l.filterMap g
 | [],_=>rfl
 | x::l,h=>by rw [Pf,Pf,h x N2,q8 λy hy=>h y (N6 _ hy)]
theorem Bv {α:Type} (xs:List α):List.filterMap ((xs[·]?)∘λi=>xs.length - 1 - i) (OD xs.length)=xs.reverse:=by
 have h:=vS xs.reverse
 rw [TV] at h
 refine Eq.trans (q8 λk hk=>?_) h
 exact (List.getElem?_reverse (SM.mp hk)).symm
theorem vU (xs:List α):stp xs none none (some (-1))=xs.reverse:=by
 unfold stp sliceBounds
 simp only [Option.getD_some,show ¬ ((-1:Int)>0) by decide,if_false]
 have e:sliceRange ((xs.length:Int) - 1) (-1) (-1)=(OD xs.length).map λi=>xs.length - 1 - i:=by
  unfold sliceRange
  simp only [show ¬ ((-1:Int)>0) by decide,if_false]
  have c:(if (xs.length:Int) - 1> -1 then ((xs.length:Int) - 1 - -1 - -1 - 1) / (- -1) else 0)=(xs.length:Int):=by
   split
   ·rw [show (- -1:Int)=1 by decide,Int.ediv_one]; omega
   ·omega
  rw [c,OH]
  refine PY λk hk=>?_
  have:=SM.mp hk
  omega
 rw [e,Sg]
 exact Bv xs
noncomputable def Nb (X:Cx) (te:TE) (tl th ts:TO):TE:=λσ H Q=>te σ H λx H1=>tl σ H1 λl H2=>th σ H2 λu H3=>ts σ H3 λt H4=>∃ a xs k,x=.ref a/\gI X.K H4 a xs/\l=none/\u=none/\t=some k/\k= -1/\∀ p,H4 p=none->Q (.ref p) (upd H4 p (.lst (stp xs l u (some k))))
section
variable {lo hi:Option Expr} {st:Expr}
theorem IJ (he:PE X e te) (hl:PO X lo tl) (hu:PO X hi th) (ht:PO X (some st) ts):PE X (.Subscript e (.Slice lo hi (some st) p2) pos) (Nb X te tl th ts):=by
 intro aa s σ H Q I h
 refine Subscript_ (bD (he aa s σ H _ I h) λv s1 ⟨x,H1,I1,r1,q1⟩=>?_)
 refine wpAny_Slice (bD (hl aa s1 σ H1 _ I1 q1) λvl s2 ⟨l,H2,I2,pl,q2⟩=>bD (hu aa s2 σ H2 _ I2 q2) λvu s3 ⟨u,H3,I3,pu,q3⟩=>bD (ht aa s3 σ H3 _ I3 q3) λvt s4 ⟨t,H4,I4,pt,q4⟩=>?_)
 obtain ⟨a,xs,k,rfl,hx,rfl,rfl,rfl,rfl,q⟩:=q4
 have I5:Inv X aa σ H4 { s4 with heap:=s4.heap.push { cls:=.type "slice",data:=.fields #[vl,vu,vt] } }:=I4.kept (t':=s4.toks) λb ob q=>NY _ q
 cases r1
 obtain ⟨its,r,hi,hz⟩:=I5.list hx
 have hlen:=r.length
 show wpAny (model X.prog X.w) X.A (subscriptTail e (.Slice lo _ (some st) p2) (.ref a) (.ref s4.heap.objs.size)) (EP X aa σ Q) X.xe { s4 with heap:=s4.heap.push { cls:=.type "slice",data:=.fields #[vl,vu,vt] } }
 refine tail_any (ops:=[.ref a,.ref s4.heap.objs.size]) hi.isList.typeIs T8.lookup ?_ (by walk_at "u")
 refine wpAny_getItem_list_slice hi.isList (Heap.IsSliceOf.new ..) pl pu pt (by decide) ?_ (by rw [Of] <;> lia)
 have I6:=I5
 generalize hS:({ s4 with heap:=s4.heap.push { cls:=.type "slice",data:=.fields #[vl,vu,vt] } }:Shared)=S at I6 |-
 have ep:slicePick its.toArray none none (some (-1))=(stp its none none (some (-1))).toArray:=by
  unfold slicePick stp
  simp only [Of,List.getElem?_toArray]
 rw [ep]
 refine ⟨.ref S.heap.objs.size,_,I6.laid (t':=S.toks) (o:=.lst (stp xs none none (some (-1)))) (λb ob q=>NY _ q) (NT _) ?_,rfl,q _ (I6.hok.fresh (NT _))⟩
 exact ⟨by rw [vU,TV]; exact hz,_,0,by unfold stp; rw [hlen]; exact xZ r _,Ob _ rfl⟩
end
section
variable {K:NR}
theorem Lr {lo hi:Option Expr} {st:Expr} (h:aF c e ρ λx=>Cw c lo ρ λl=>Cw c hi ρ λu=>Cw c (some st) ρ λt=>l=none/\u=none/\t=some (-1)/\∃ ds,x=.lst ds/\R (.ow ds.reverse)):cS c (.Subscript e (.Slice lo hi (some st) p2) pos) ρ R:=λσ H Hf Q S q =>
 bK (IJ dz K0 K0 K0) (h σ H Hf _ S λx v H1 aP h1 r1 g1=>h1 σ H1 aP _ (S.cF g1) λl H2 cI h2 g2=>h2 σ H2 cI _ (S.cF (g1.trans g2)) λu H3 Hf3 h3 g3=>h3 σ H3 Hf3 _ (S.cF ((g1.trans g2).trans g3)) λt H4 Hf4 h4 g4=>by
  obtain ⟨rfl,rfl,rfl,ds,rfl,hR⟩:=h4
  have r3:=Rep.mono g4.f _ (Rep.mono g3.f _ (Rep.mono g2.f _ r1))
  have g:=((g1.trans g2).trans g3).trans g4
  rw [bf] at r3
  obtain ⟨a,xs,rfl,k1,k2⟩:=r3
  refine ⟨a,xs,-1,rfl,g4.b.seq k1,rfl,rfl,rfl,rfl,λp hp=>?_⟩
  exact q _ _ _ _ hR ⟨p,_,rfl,g.s.free hp,af,g4.b.free hp,by rw [<- vU]; unfold stp; rw [k2.length]; exact x6 k2 _⟩ (g.trans (br.gh g4.b hp)))
end
end EV
namespace EV
open PySem PySem.Spec PySem.Calls PyProof.Rows L2
theorem Bw {K:NR}:∀ {kvs:List (List Key×D)} {ys:List (List Key×Addr×V)},ys.map (·.1)=kvs.map (·.1)->(∀ y∈ys,dB K H y.2.1 (y.1.map kV))->ak K H (kvs.map (·.2)) (ys.map (·.2.2))->kG K H kvs ys
 | [],[],_,_,_=>.nil
 | [],y::ys,h,_,_=>by simp at h
 | x::kvs,[],h,_,_=>by simp at h
 | x::kvs,y::ys,h,hq,r=>by
  rw [NW,NW] at h r
  obtain ⟨v,t,e,r1,r2⟩:=aC.mp r
  injection e with e1 e2
  injection h with h1 h2
  subst e1 e2
  exact .cons ⟨h1.symm,by rw [<- h1]; exact hq y N2,r1⟩ (Bw h2 (λz hz=>hq z (N6 _ hz)) r2)
section
variable {K:NR}
theorem IK (h:aF c a ρ λx=>aF c b ρ λy=>∃ (kvs:List (List Key×D)) (ds:List D) (kk:List Key) (d:D),x=.fdT (kvs.map (·.1)) (kvs.map (·.2))/\y=.tup ds/\D.keys ds=some kk/\bC kvs kk=some d/\R d) (hs:CY b:=by with_unfolding_all exact λ_ _=>rfl):aF c (.Subscript a b pos) ρ R:=λσ H Hf Q S q =>
 bK (uw c.hu dz dz hs) (h σ H Hf _ S λx v H1 aP h1 r1 g1=>h1 σ H1 aP _ (S.cF g1) λy u H2 cI ⟨kvs,ds,kk,d,e1,e0,e2,e3,hR⟩ r2 g2=>by
  subst e1 e0
  obtain ⟨p,ys,o,rfl,k1,k2,k4,k3⟩:=iL.mp r1
  have kv:=(Bw k2 k4 k3).mono g2.f
  have rel:=kv.val kk
  rw [e3] at rel
  obtain ⟨pb,xb,rfl,kb,rb⟩:=aH.mp r2
  rw [gM e2 rb] at kb
  cases z:atT ys kk with
  | none=>rw [z] at rel; exact rel.elim
  | some v =>
   rw [z] at rel
   exact ⟨p,v,rfl,.inr ⟨ys,kk,pb,.inr ⟨o,g2.b _ _ (g2.f _ _ k1)⟩,λx hx=>au g2.b (au g2.f (k4 x hx)),rfl,au g2.b kb,z.symm⟩,q d v H2 cI hR rel (g1.trans g2)⟩)
end
structure EB (ρ:List Sl) (i:Nat) (s:Sh):Prop where
 hi:ρ[i]?=some (.fo s)
 ho:∀ {j:Nat} {r:Sl},j≠i->ρ[j]?=some r->r.uz=false\/∃ L0 L:List (Addr×List D),s=.t (fX L0)/\r=.fo (.t (fX L))/\∀ x∈L,∀ y∈L0,x.1≠y.1
theorem iE.g {ρ:List Sl} {i:Nat} {s:Sh} (h:iE ρ i s):EB ρ i s:=⟨h.at_.1,λhj e=>.inl (h.at_.2 hj e)⟩
section
variable {K:NR}
theorem ai.addrs:∀ {L:List (Addr×List D)} {vs:List V} {fp:Fp},ai K H Hf (fX L) vs fp->fp.map (·.1)=L.map (·.1)
 | [],_,_,h=>by simp only [fX,PF,ai] at h; rw [h.2]; rfl
 | x::L,_,_,h=>by
  have h':ai K H Hf (.la x.1 x.2::fX L) _ _:=h
  simp only [ai] at h'
  obtain ⟨y,r,f1,f2,rfl,h1,h2,rfl⟩:=h'
  simp only [aI] at h1
  obtain ⟨xs,rfl,q1,q2,q3,rfl⟩:=h1
  rw [Ot,ai.addrs h2]; rfl
theorem aI.addrs (h:aI K H Hf (.t (fX L)) v fp):fp.map (·.1)=L.map (·.1):=by
 simp only [aI] at h
 obtain ⟨a,xs,e,h1,h2⟩:=h
 exact ai.addrs h2
theorem Bx (hr:r.uz=false\/∃ L0 L:List (Addr×List D),s=.t (fX L0)/\r=.fo (.t (fX L))/\∀ x∈L,∀ y∈L0,x.1≠y.1)
 (rf:aI K H Hf s v0 fp) (sf:aG Hf ah) (hk:∀ a o,¬ a∈fp.map (·.1)->H a=some o->Hf a=none->H' a=some o/\ah a=none) (e2:aU K fr H Hf r v):aU K fr H' ah r v:=by
 have hz:=aI.fz s rf
 rcases hr with hr | ⟨L0,L,rfl,rfl,hd⟩
 ·refine aU.mv (B:=λa=>a∈fp.map (·.1)) sf (λa o hm e1 _ e3=>hk a o hm e1 e3) (λhf=>by rw [hr] at hf; cases hf) (λow a e m=>?_) e2
  subst e
  obtain ⟨_,_,e,_,_,_,nf⟩:=e2.mY ow
  cases e
  obtain ⟨p,hp,rfl⟩:=bH m
  exact nf ⟨p.2,(hz p hp).1⟩
 ·obtain ⟨fp2,r2,nd,f2⟩:=e2
  refine ⟨fp2,aI.mv sf _ (λq hq e1 e3=>hk q.1 _ (λm=>?_) e1 e3) r2,nd,f2⟩
  rw [rf.addrs] at m
  have m2:q.1∈L.map (·.1):=by rw [<- r2.addrs]; exact Oi.mpr ⟨q,hq,rfl⟩
  obtain ⟨y,hy,ey⟩:=Oi.mp m
  obtain ⟨x,hx,ex⟩:=Oi.mp m2
  exact hd x hx y hy (ex.trans ey.symm)
theorem cQ.Lu (S:cQ K H₀ dM σ H Hf ρ) (h:EB ρ i s) :
 ∃ fp:Fp,(fp.map (·.1)).Nodup/\(∀ a∈fp,H a.1=some (pl a.1 a.2)/\Hf a.1=none)/\cQ K H₀ dM σ (dJ l9 fp H) (dJ l9 fp Hf) (ρ.set i (.va s.d)):=by
 obtain ⟨hi,ho⟩:=h
 obtain ⟨v,ev,fp,rf,nd,hfr⟩:=S.at_ i _ hi (by intro z; cases z)
 have hz:=aI.fz s rf
 have none_in:∀ {b:Addr} {o:HO},Hf b=some o->b∉fp.map (·.1):=λe m=>by obtain ⟨p,hp,rfl⟩:=bH m; rw [(hz p hp).2] at e; cases e
 have fr_in:∀ {b:Addr},b∈fp.map (·.1)->H₀ b=none:=λm=>by obtain ⟨p,hp,rfl⟩:=bH m; exact hfr p hp
 have sf:aG Hf (dJ l9 fp Hf):=λb o e=>by rw [aE (none_in e)]; exact e
 refine ⟨fp,nd,hz,⟨⟨λb o e=>?_,S.bas.f.trans sf,λb o e=>?_,λb h1 h2 h3=>?_⟩,by simp [S.len],λj r hj hu=>?_,λj j' r r' q hne h1 h2 o1 o2=>?_⟩⟩
 ·rw [aE λm=>by rw [fr_in m] at e; cases e]; exact S.bas.s b o e
 ·by_cases m:b∈fp.map (·.1)
  ·obtain ⟨p,hp,rfl⟩:=bH m
   rw [cj nd p hp] at e |-; exact e
  ·rw [aE m] at e |-; exact S.sb b o e
 ·rw [aE λm=>h2 (fr_in m)]; exact S.bas.n b h1 h2 h3
 ·rcases aZ hj with ⟨rfl,rfl⟩ | ⟨q,hj⟩
  ·exact ⟨v,ev,aI.rep sf s (λa ha=>cj nd a ha) rf⟩
  ·obtain ⟨v,e1,e2⟩:=S.at_ j r hj hu
   exact ⟨v,e1,Bx (ho q hj) rf sf (λa o hm e1 e3=>⟨by rw [aE hm]; exact e1,by rw [aE hm]; exact e3⟩) e2⟩
 ·have out:∀ {j:Nat} {r:Sl},(ρ.set i (.va s.d))[j]?=some r->r.owned=true->ρ[j]?=some r:=λ{j r} hj ho=>by
   rcases aZ hj with ⟨_,rfl⟩ | ⟨_,hj⟩
   ·cases ho
   ·exact hj
  exact S.sep j j' r r' q hne (out h1 o1) (out h2 o2) o1 o2
end
section
variable {K:NR}
end
theorem x9 (nd:(fp.map (·.1)).Nodup) (h:∀ a∈fp,H a.1=some (pl a.1 a.2)):dJ pl fp (dJ l9 fp H)=H:=by
 funext b
 by_cases m:b∈fp.map (·.1)
 ·obtain ⟨p,hp,rfl⟩:=bH m
  rw [cj nd p hp,h p hp]
 ·rw [aE m,aE m]
section
variable {K:NR}
end
section
variable {K:NR} {c:Ctx P w K mg base k N sc bk}
def By (c:Ctx P w K mg base k N sc bk) (tg:Expr) (elt:Expr) (ρ0:List Sl) (d:D) (s:Sh):Prop :=
 lP c tg d ρ0 λρ1=>zX ρ0 ρ1/\cS c elt ρ1 λr=>r.sh=some s
theorem EC (h:By c tg elt ρ0 d s):uT c tg [] elt ρ0 d (some s):=λσ H Hf v Q S r q=>h σ H Hf v Q S r λσ' H' ah ρ' S' g hw=>q σ' H' ah ρ' S' g ⟨hw.1,λ_=>λσ2 H2 cI Q2 S2 q2=>hw.2 σ2 H2 cI Q2 S2 λr2 v2 H3 Hf3 ed rv g3=>q2 r2 v2 H3 Hf3 ⟨s,rfl,ed⟩ rv g3,λe=>by cases e⟩
theorem ED {ρ0:(Str->Addr)->List Sl} {R:Sl->Prop} (hq:c.X.xe=fZ) (hfr:∀ t,sD t scope.names N ρ N' (ρ0 t))
 (h:zJ c tg iter ρ λds=>Sd (ds.length<=sizeLine) (∃ ss:List Sh,ss.length=ds.length /\
   (∀ c':Ctx P w K mg base k N' (bL scope sc) true,c'.X.xe=fZ->∀ (t:Str->Addr) (i:Nat) (d:D) (o:Sh),ds[i]?=some d->ss[i]?=some o->By c' tg elt (ρ0 t) d o)/\R (.fo (.ls ss))))
 (hcp:JW scope sc N':=by decide +kernel)
 (hs:∀ env v,foldedSetIterable iter env v=pure v:=by intro _ _; walk_at "u")
 (S:bw c σ H Hf ρ) (I:Inv c.X aa σ H s)
  (kont:∀ (s':Shared) (H' ah:Hp) (a C:Addr) (ss:List Sh) (vs:List V) (fq:Fp),R (.fo (.ls ss))->(∃ m,s'.heap.Ns C m)->C∉c.X.fs->eO c.X aa H' C->H a=none->H' a=some (.lst vs)->ah a=none->ai c.X.K H' ah ss vs fq->(fq.map (·.1)).Nodup->(∀ b∈fq,H b.1=none)->br H Hf H' ah->(∀ h5,Pb C s'.heap h5->Inv c.X aa σ H' { s' with heap:=h5 })->compPost (model c.X.prog c.X.w) c.X.A fZ use QQ (.ref a) C (.ok .next) s') :
  wpAny (model c.X.prog c.X.w) c.X.A (comprehension (.ListComp elt [⟨tg,iter,[],0⟩] scope pos) scope c.X.env (firstIterPos [⟨tg,iter,[],0⟩] pos) (newList []) (firstAsync [⟨tg,iter,[],0⟩]) (firstIter [⟨tg,iter,[],0⟩] c.X.env) use) QQ fZ s:=by
  refine uU (R:=λss=>R (.fo (.ls ss))) hq hfr (λσ' H' ah Q S' q=>h σ' H' ah Q S' λds J H1 aP hd=>q ds J H1 aP ⟨hd.1,hd.2.elim λss ho=>⟨ss.map some,by rw [NX]; exact ho.1,λc' hc t i d o e1 e2=>?_,?_⟩⟩) hcp hs S I kont
  ·rw [NZ,N8] at e2
   obtain ⟨o',e3,rfl⟩:=e2
   exact EC (ho.2.1 c' hc t i d o' e1 e3)
  ·rw [Sg]
   show R (.fo (.ls (ss.filterMap some)))
   rw [List.filterMap_some]
   exact ho.2.2
end
section
variable {K:NR}
end
section
variable {K:NR}
end
section
variable {K:NR}
end
section
variable {K:NR}
theorem BA (h:iM c a ρ T') (q:∀ b,T' b->T b):iM c a ρ T:=λσ H Hf Q S k=>h σ H Hf Q S λb H' ah hb g=>k b H' ah (q b hb) g
end
inductive ya (L0:List (Addr×List D)):List Sl->Prop
 | n:ya L0 []
 | f {r:Sl} {ρ:List Sl}:r.uz=false->ya L0 ρ->ya L0 (r::ρ)
 | g {L:List (Addr×List D)} {ρ:List Sl}:(∀ x∈L,∀ y∈L0,x.1≠y.1)->ya L0 ρ->ya L0 (.fo (.t (fX L))::ρ)
inductive BB (L0:List (Addr×List D)):List Sl->Nat->Prop
 | z {ρ:List Sl}:ya L0 ρ->BB L0 (.fo (.t (fX L0))::ρ) 0
 | f {r:Sl} {ρ:List Sl} {i:Nat}:r.uz=false->BB L0 ρ i->BB L0 (r::ρ) (i+1)
 | g {L:List (Addr×List D)} {ρ:List Sl} {i:Nat}:(∀ x∈L,∀ y∈L0,x.1≠y.1)->BB L0 ρ i->BB L0 (.fo (.t (fX L))::ρ) (i+1)
section
variable {K:NR}
theorem ai.F4:∀ {ss:List Sh} {xs:List V} {fp:Fp} {m:Nat},ai K H Hf ss xs fp->ss[m]?=some (.la a ds)->xs[m]?=some (.ref a)
 | [],_,_,m,_,e=>by cases m <;> cases e
 | s::ss,_,_,m,h,e=>by
  simp only [ai] at h
  obtain ⟨x,r,f1,f2,rfl,h1,h2,rfl⟩:=h
  cases m with
  | zero =>
   cases e
   simp only [aI] at h1
   obtain ⟨_,rfl,_⟩:=h1
   rfl
  | succ m =>
   have q:=ai.F4 h2 (m:=m) e
   exact q
theorem cQ.Nc (S:cQ K H₀ dM σ H Hf ρ) (h:ρ[i]?=some (.fo (.ls (dss.map .l)))):∃ L:List (Addr×List D),L.map (·.2)=dss/\cQ K H₀ dM σ H Hf (ρ.set i (.fo (.ls (fX L)))):=by
 obtain ⟨v,ev,fp,rf,nd,hfr⟩:=S.at_ i _ h (by intro z; cases z)
 simp only [aI] at rf
 obtain ⟨p0,xs,fq,e,q1,q2,h2,rfl⟩:=rf
 obtain ⟨L,eL,h3⟩:=ai.tag h2
 refine ⟨L,eL,S.bas,by simp [S.len],λj r hj hu=>?_,λj j' r r' q hne h1 h2 o1 o2=>?_⟩
 ·rcases aZ hj with ⟨rfl,rfl⟩ | ⟨_,hj⟩
  ·exact ⟨v,ev,_,by simp only [aI]; exact ⟨p0,xs,fq,e,q1,q2,h3,rfl⟩,nd,hfr⟩
  ·exact S.at_ j r hj hu
 ·have out:∀ {j:Nat} {r:Sl},(ρ.set i (.fo (.ls (fX L))))[j]?=some r->r.owned=true->ρ[j]?=some r:=λ{j r} hj ho=>by
   rcases aZ hj with ⟨_,rfl⟩ | ⟨_,hj⟩
   ·cases ho
   ·exact hj
  exact S.sep j j' r r' q hne (out h1 o1) (out h2 o2) o1 o2
def F5 (s s1 s2:Sh):Prop:=∀ (K:NR) (H Hf:Hp) (v v1:V) (fp f1:Fp),aI K H Hf s v fp->(fp.map (·.1)).Nodup->aI K H Hf s1 v1 f1->(f1.map (·.1)).Nodup->(∀ a∈fp,∀ b∈f1,a.1≠b.1)->∃ f2,aI K H Hf s2 v1 f2/\(f2.map (·.1)).Nodup/\∀ a∈f2,a∈fp\/a∈f1
theorem IL:F5 (.ls [.la a0 d0,.la a1 d1,.la a2 d2,.la a3 d3]) (.t [.v (.adr a0),.l x1,.v (.adr a2),.l x3]) (.t [.l d0,.l x1,.l d2,.l x3]):=by
 intro K H Hf v v1 fp f1 h nd h1 nd1 dj
 simp only [aI,ai] at h h1 |-
 obtain ⟨p,xs,fq,rfl,-,-,⟨y0,r0,g0,g0',rfl,⟨z0,rfl,i0,j0,k0,rfl⟩,⟨y1,r1,g1,g1',rfl,⟨z1,rfl,i1,j1,k1,rfl⟩,⟨y2,r2,g2,g2',rfl,⟨z2,rfl,i2,j2,k2,rfl⟩,⟨y3,r3,g3,g3',rfl,⟨z3,rfl,i3,j3,k3,rfl⟩,⟨rfl,rfl⟩,rfl⟩,rfl⟩,rfl⟩,rfl⟩,rfl⟩:=h
 obtain ⟨b,ys,rfl,hs,⟨u0,t0,l0,l0',rfl,⟨hu0,rfl⟩,⟨u1,t1,l1,l1',rfl,⟨q1,w1,rfl,m1,n1,o1,rfl⟩,⟨u2,t2,l2,l2',rfl,⟨hu2,rfl⟩,⟨u3,t3,l3,l3',rfl,⟨q3,w3,rfl,m3,n3,o3,rfl⟩,⟨rfl,rfl⟩,rfl⟩,rfl⟩,rfl⟩,rfl⟩⟩:=h1
 rw [dN] at hu0 hu2
 subst hu0 hu2
 refine ⟨(a0,z0)::(q1,w1)::(a2,z2)::(q3,w3)::[],⟨b,_,rfl,hs,⟨_,_,[_],_,rfl,⟨a0,z0,rfl,i0,j0,k0,rfl⟩,⟨_,_,[_],_,rfl,⟨q1,w1,rfl,m1,n1,o1,rfl⟩,⟨_,_,[_],_,rfl,⟨a2,z2,rfl,i2,j2,k2,rfl⟩,⟨_,_,[_],_,rfl,⟨q3,w3,rfl,m3,n3,o3,rfl⟩,⟨rfl,rfl⟩,rfl⟩,rfl⟩,rfl⟩,rfl⟩⟩,?_,?_⟩
 ·simp only [Ph,PN,OP,NW,PF,O8,N9,Pg,or_false,not_or] at nd nd1 |-
  have e1:a0≠q1:=dj (a0,z0) (by simp) (q1,w1) (by simp)
  have e2:a0≠q3:=dj (a0,z0) (by simp) (q3,w3) (by simp)
  have e3:a2≠q1:=dj (a2,z2) (by simp) (q1,w1) (by simp)
  have e4:a2≠q3:=dj (a2,z2) (by simp) (q3,w3) (by simp)
  have e5:a0≠a2:=nd.2.1.2.1
  exact ⟨⟨e1,e5,e2⟩,⟨e3.symm,nd1.1⟩,e4,not_false,SK⟩
 ·intro a ha
  simp only [N9,Pg,or_false] at ha
  rcases ha with rfl | rfl | rfl | rfl
  ·left; simp
  ·right; simp
  ·left; simp
  ·right; simp
end
section
variable {K:NR} {c:Ctx P w K mg base k N sc bk} {st:Stmt}
theorem IM (i) (hi:At ρ i (.fo (.ls (dss.map .l)))) (h:∀ L:List (Addr×List D),L.map (·.2)=dss->eG c st (ρ.set i (.fo (.ls (fX L)))) nx p):eG c st ρ nx p:=λσ H Hf D S o=>by
 obtain ⟨L,e,S1⟩:=S.Nc hi.get
 exact h L e σ H Hf D S1 o
theorem F6 (hN:At N i y) {m:Nat} (hi:At ρ i (.fo (.ls ss))) (hm:ss[m]?=some (.la a ds)) (hnm:n=(m:Int)) (hR:R (.adr a))
 (hd:(y == ("__debug__":Str))=false:=by decide) (hcd:(y == ("__classdict__":Str))=false:=by decide) (hix:gJ (.Constant (.int n) kt p3):=by with_unfolding_all exact λ_ _=>rfl):aF c (.Subscript (.Name y py) (.Constant (.int n) kt p3) sp) ρ R:=λσ H Hf Q S q aa s' I=>by
 obtain ⟨v,ev,fp,rf,nd,hfr⟩:=S.at_ i _ hi.get (by intro z; cases z)
 have hz:=aI.fz _ rf
 simp only [aI] at rf
 obtain ⟨p0,xs,fq,rfl,hp,hpf,rfs,rfl⟩:=rf
 have ea:=ai.F4 rfs hm
 refine bD (bK (Q:=λv H1=>v=.ref a/\H1=dJ l9 ((p0,xs)::fq) H) (yR nS (c.jo hN hd hcd) nO hix) ⟨_,ev,p0,xs,_,.ref a,rfl,rfl,.inl (.inl (cj nd (p0,xs) N2)),?_,rfl,rfl⟩ aa s' (gy I nd λa ha=>(hz a ha).1)) λu s1 ⟨v,H1,I1,rv,e1,e2⟩=>?_
 ·rw [hnm,d7 (Si _) (by have:=(N4.mp ea).1; lia),OH]; exact ea
 ·subst e1 e2
  have I2:=je I1 nd λb hb=>cj nd b hb
  rw [x9 nd λb hb=>(hz b hb).1] at I2
  exact ⟨_,_,I2,rv,q (.adr a) _ _ _ hR (dN.mpr rfl) (.refl S.sb)⟩
theorem Lv (hN:At N i y) {m:Nat} (hi:At ρ i (.ow ds)) (hm:ds[m]?=some d) (hnm:n=(m:Int)) (hR:R d)
 (hd:(y == ("__debug__":Str))=false:=by decide) (hcd:(y == ("__classdict__":Str))=false:=by decide) (hix:gJ (.Constant (.int n) kt p3):=by with_unfolding_all exact λ_ _=>rfl):aF c (.Subscript (.Name y py) (.Constant (.int n) kt p3) sp) ρ R:=λσ H Hf Q S q=>by
 obtain ⟨v,ev,p0,xs,rfl,fr,hp,hpf,hr⟩:=S.at_ i _ hi.get (by intro z; cases z)
 obtain ⟨x,ex,rx⟩:=hr.get hm
 refine bK (yR nS (c.jo hN hd hcd) nO hix) ⟨_,ev,p0,xs,_,x,rfl,rfl,.inl (.inl hp),?_,q d x H Hf hR rx (.refl S.sb)⟩
 rw [hnm,d7 (Si _) (by have:=(N4.mp ex).1; lia),OH]; exact ex
theorem BC {R:Sl->Prop} (i) (h1:EB ρ i s) (hs:SSet ρ i (.va s.d) ρ') (h:cS c e ρ' λr=>∃ ds:List D,r=.ow ds/\D.lQ ds/\R r):cS c e ρ R:=λσ H Hf Q S q aa s' I=>by
 obtain ⟨fp,nd,hz,S1⟩:=S.Lu h1
 rw [<- hs.eq] at S1
 refine bD (h σ _ _ (λv H'=>∃ (ds:List D) (ah:Hp),D.lQ ds/\R (.ow ds)/\aU c.X.K (λp=>dJ l9 fp H p=none) H' ah (.ow ds) v/\br (dJ l9 fp H) (dJ l9 fp Hf) H' ah) S1 (λr v H' ah ⟨ds,e,hn,hR⟩ rs g=>⟨ds,ah,hn,e ▸ hR,e ▸ rs,g⟩) aa s' (gy I nd λa ha=>(hz a ha).1)) λu s1 ⟨v,H1,I1,rv,ds,aP,hn,hR,rs,g⟩=>?_
 have hL:∀ a∈fp,H1 a.1=some (.lst a.2):=λa ha=>g.s _ _ (cj nd a ha)
 have hLf:∀ a∈fp,aP a.1=some (.lst a.2):=λa ha=>g.f _ _ (cj nd a ha)
 obtain ⟨p,xs,rfl,fr,h1,h2,h3⟩:=rs
 have hm:p∉fp.map (·.1):=λm=>by
  obtain ⟨q,hq,eq⟩:=bH m
  have e2:dJ l9 fp H p=none:=fr
  rw [<- eq,cj nd q hq] at e2; cases e2
 refine ⟨_,_,je I1 nd hL,rv,q _ _ _ (gx aP fp) hR ⟨p,xs,rfl,?_,by rw [aE hm]; exact h1,by rw [dw hm]; exact h2,lG (λa ha=>⟨a.2,hLf a ha⟩) ds hn h3⟩ (qY nd hz g)⟩
 have e2:dJ l9 fp H p=none:=fr
 rw [aE hm] at e2; exact e2
theorem IP (i) (hi:At ρ i (.fo s)) (h:cS c e ρ λr=>∃ s1 s2:Sh,r=.fo s1/\F5 s s1 s2/\p.rt (.fo s2)):eG c (.Return (some e) pos) ρ nx p:=λσ H Hf D S o =>
 dO (rR dz) (h σ H Hf _ S λr v H' ah ⟨s1,s2,er,hm,hr⟩ rs g=>by
  subst er
  obtain ⟨f1,rf1,nd1,fr1⟩:=rs
  have S2:=S.cF g
  obtain ⟨v0,ev,fp,rf,nd,hfr⟩:=S.at_ i _ hi.get (by intro z; cases z)
  have hz:=aI.fz _ rf
  have rf':aI c.X.K H' ah s v0 fp:=aI.mv g.f s (λa _ e1 e2=>⟨g.s _ _ e1,g.n a.1 e2 (by rw [e1]; simp) (by intro ys z; rw [e1] at z; cases z)⟩) rf
  obtain ⟨f2,r2,nd2,h2⟩:=hm _ _ _ _ _ _ _ rf' nd rf1 nd1 λa ha b hb z=>by
   have e1:=(hz a ha).1
   have e2:H b.1=none:=fr1 b hb
   rw [z,e2] at e1; cases e1
  refine o.rt (.fo s2) v H' ah S2.bas ⟨f2,r2,nd2,λa ha=>?_⟩ hr
  rcases h2 a ha with h | h
  ·exact hfr a h
  ·exact S.bas.s.free (fr1 a h))
theorem EE {ρ0:(Str->Addr)->List Sl} (hN:At N i x) (hq:c.X.xe=fZ) (hfr:∀ t,sD t scope.names N ρ N' (ρ0 t))
 (h:zJ c tg iter ρ λds=>Sd (ds.length<=sizeLine) (∃ ss:List Sh,ss.length=ds.length /\
   (∀ c':Ctx P w K mg base k N' (bL scope sc) true,c'.X.xe=fZ->∀ (t:Str->Addr) (i:Nat) (d:D) (o:Sh),ds[i]?=some d->ss[i]?=some o->By c' tg elt (ρ0 t) d o)/\Nx ρ i nx (.fo (.ls ss))))
 (hsw:(pos2.line == pos.line && !scope.names.any λ(n,k)=>n == x && (k == NameKind.local || k == QC))=true:=by decide +kernel) (hl:sc.names.lookup x=some .local:=by walk_at "u")
 (hcp:JW scope sc N':=by decide +kernel)
 (hs:∀ env v,foldedSetIterable iter env v=pure v:=by intro _ _; walk_at "u"):eG c (.Assign [.Name x pos2] (.ListComp elt [⟨tg,iter,[],0⟩] scope pos) posA) ρ nx p:=λσ H Hf D S o aa s I=>by
 have hsw':swapsWith (.ListComp elt [⟨tg,iter,[],0⟩] scope pos) (some (.Name x pos2)) posA.line c.X.env=pure true:=by
  have e1:c.X.env.blockKind=.function:=by unfold Env.blockKind; rw [show c.X.env.scope.kind=.function from I.ok.kind]; rfl
  have e2:c.X.env.kindOf x=some .local:=by unfold Ox; rw [c.esc]; exact hl
  show pure (c.X.env.blockKind == TY && c.X.env.kindOf x == some NameKind.local && pos2.line == pos.line && !scope.names.any λ(n,k)=>n == x && (k == NameKind.local || k == QC))=pure true
  rw [e1,e2]; exact congrArg pure hsw
 rw [hq,exec_Assign_Name_used x pos2 _ posA hsw']
 refine NP (SO ?_)
 refine NP ?_
 rw [show (evalThenUse (.ListComp elt [⟨tg,iter,[],0⟩] scope pos) c.X.env (assign (.Name x pos2) c.X.env))=(do let _ <- comprehension (.ListComp elt [⟨tg,iter,[],0⟩] scope pos) scope c.X.env (firstIterPos [⟨tg,iter,[],0⟩] pos) (newList []) (firstAsync [⟨tg,iter,[],0⟩]) (firstIter [⟨tg,iter,[],0⟩] c.X.env) (some (assign (.Name x pos2) c.X.env)); pure ()) from rfl]
 refine NP (ED hq hfr h hcp hs S I λs' H' ah a C ss vs fq hr ⟨m,hm⟩ hCX hCf ha h1 h2 r nd fr g hJ=>?_)
 have hz:=ai.fz ss r
 have hne:∀ b∈fq,b.1≠a:=λb hb z=>by have:=(hz b hb).1; rw [z,h1] at this; cases this
 have hCa:C≠a:=λz=>by have:=hCf.1; rw [z,h1] at this; cases this
 have hCf':eO c.X aa (upd H' a (pl a vs)) C:=⟨by rw [aj hCa]; exact hCf.1,hCf.2⟩
 have hrep:aU c.X.K (λp=>H p=none) (upd H' a (pl a vs)) ah (.fo (.ls ss)) (.ref a):=by
  refine ⟨(a,vs)::fq,?_,?_,λb hb=>?_⟩
  ·simp only [aI]
   exact ⟨a,vs,fq,rfl,af,h2,ai.mv (.refl _) ss (λb hb e1 e2=>⟨by rw [aj (hne b hb)]; exact e1,e2⟩) r,rfl⟩
  ·rw [NW,O8]
   exact ⟨λm=>by obtain ⟨b,hb,eb⟩:=Oi.mp m; exact hne b hb eb,nd⟩
  ·rcases N9.mp hb with rfl | hb
   ·exact ha
   ·exact fr b hb
 have g':=j6 (o:=pl a vs) g ha h2
 have J:=oV (hJ s'.heap iV) h1
 obtain ⟨oC,es,ep,e1,e2,e3,e4⟩:=hm
 have fps:∀ b∈[C],eO c.X aa (upd H' a (pl a vs)) b:=λb hb=>by rw [Oa.mp hb]; exact hCf'
 have hob:∀ b∈[C],∃ o,s'.heap.get? b=some o/\∀ v:Option Value,o.data≠.cell v:=λb hb=>by
  rw [Oa.mp hb]; exact ⟨oC,e1,λv z=>by rw [e2] at z; cases z⟩
 have J2:=J.pinned fps hob
 have hmem:(C,oC)∈ie [C] s'.heap:=dG N2 e1
 obtain ⟨ρ',hset,hx⟩:=hr
 have st:=uB (jX (X:=c.X) (i:=i) (pos:=pos2) (by rw [c.eN]; exact c.nd) (by rw [c.eN]; exact hN.get) (by rw [c.esc]; exact c.vis x hN.mem) (c.fn x (.inr hl))) (v:=.ref a) (σ:=σ) (H:=upd H' a (pl a vs)) (Q:=λσ' H''=>D.nx σ' H'') (o.nx _ _ ah _ (hset.eq ▸ S.set g' hrep) hx) _ s' (.ref a) J2 rfl
 rw [hq] at st
 refine bD st λ_ s'' ⟨σ',H'',I'',dn⟩=>?_
 have pC:=I''.pin (C,oC) (OV _ (OV _ hmem))
 refine ⟨m,⟨oC,es,ep,pC.1,e2,e3,e4⟩,λh' hsb=>?_⟩
 have I3:Inv c.X aa σ' H'' s'':=I''.eS
 have I4:=uX I3 (C:=C) ⟨pC.2.1,hCf.2⟩ hsb
 exact NS (NS ⟨_,_,I4,dn⟩)
end
section
variable {K:NR} {c:Ctx P w K mg base k N sc bk}
theorem IQ (hN:At N i x) (h:cS c (.ListComp elt gs scope pos) ρ (Nx ρ i nx)) (hl:sc.names.lookup x=some .cell:=by walk_at "u")
 (hf:bk=false\/sc.names.lookup x=some .local:=by first | exact .inl rfl | exact .inr (by walk_at "u")):eG c (.Assign [.Name x pos2] (.ListComp elt gs scope pos) posA) ρ nx p:=λσ H Hf D S o=>by
 have hs:swapsWith (.ListComp elt gs scope pos) (some (.Name x pos2)) posA.line c.X.env=pure false:=by
  have e2:c.X.env.kindOf x=some .cell:=by unfold Ox; rw [c.esc]; exact hl
  show pure (c.X.env.blockKind == TY && c.X.env.kindOf x == some NameKind.local && pos2.line == pos.line && !scope.names.any λ(n,k)=>n == x && (k == NameKind.local || k == QC))=pure false
  rw [e2,show (some QC == some NameKind.local)=false from rfl,Bool.and_false,Bool.false_and,Bool.false_and]
 exact dO (yE (X:=c.X) (i:=i) (by rw [c.eN]; exact c.nd) (by rw [c.eN]; exact hN.get) (by rw [c.esc]; exact c.vis x hN.mem) dz hs (c.fn x hf)) (h σ H Hf _ S λr v H' ah ⟨ρ',hs,hx⟩ rs g=>o.nx _ H' ah _ (hs.eq ▸ S.set g rs) hx)
end
end EV
namespace My
open PySem PySem.Spec PyProof.Rows L2 EV
noncomputable abbrev top (i:Nat):Stmt:=PySem.Challenge.pw_everydraw_k19_circles_by_three.main.body.getD i (.Pass ⟨0,0,0,0⟩)
theorem tE:FS ["powers","end"] ["powers"] (top 2):=by decide +kernel
theorem iF:FS ["some","greatest","powers","number","k","power"] ["some"] (top 3):=by decide +kernel
theorem yb:FS ["powers","width","key","power"] ["powers","width"] (top 4):=by decide +kernel
theorem o4:FS ["key","width","mask"] ["key","width"] (top 5):=by decide +kernel
theorem yc:FS ["some","width"] ["some","width"] (top 6):=by decide +kernel
theorem q9:FS ["total","width"] ["total","width"] (top 7):=by decide +kernel
theorem jU:FS ["total","left","right","key","number","shift","part","whole"] ["total","left","right"] (top 8):=by decide +kernel
theorem rg:FS ["parts","most","part"] ["parts"] (top 10):=by decide +kernel
theorem ri:FS ["whole","part","width","factors","left","right","product"] ["whole","part","width"] (top 11):=by decide +kernel
theorem mj:FS ["parts","width","whole","part"] ["parts"] (top 12):=by decide +kernel
theorem jC:FS ["lines","place"] ["lines","place"] (top 14):=by decide +kernel
theorem gD:FS ["total","lines","parts","sign","place","amount"] ["total","lines"] (top 15):=by decide +kernel
theorem o5:FS ["total","i"] ["total","i"] (top 17):=by decide +kernel
theorem mq:FS ["total","i","j","k","rows","found"] ["total","i","j","k"] (top 18):=by decide +kernel
theorem jV:FS ["i","j","k"] ["i","j","k"] (top 19):=by decide +kernel
theorem o6:FS ["_law_script","_law_k"] ["_law_script","_law_k"] (top 21):=by decide +kernel
theorem rm:FS ["_law_script","_law_k","_law_cell","_law_number"] ["_law_script","_law_k"] (top 22):=by decide +kernel
theorem tF:FS ["_law_terms_here","_law_found","_law_powers","_law_number","_law_key"] ["_law_terms_here"] (top 23):=by decide +kernel
theorem o7:FS ["_law_factors","_law_found","_law_some_here","_law_terms_here","_law_powers","_law_number","_law_other","_law_count","_law_wide","_law_one","_law_two_here"] ["_law_factors"] (top 24):=by decide +kernel
theorem BD:FS ["_law_parts","_law_terms_here","_law_number","_law_factors"] ["_law_parts"] (top 25):=by decide +kernel
theorem yd:FS ["_law_number","_law_terms_here","_law_many","_law_k","_law_powers","_law_count"] ["_law_number"] (top 26):=by decide +kernel
theorem rA:FS ["_law_script","_law_at","_law_many"] ["_law_script","_law_at","_law_many"] (top 27):=by decide +kernel
theorem rB:FS ["_law_told"] ["_law_told"] (top 28):=by decide +kernel
theorem tG:FS ["_law_some_here","_law_term","_law_number"] ["_law_some_here"] (top 29):=by decide +kernel
theorem ye:FS ["_law_found","_law_due_here","_law_k"] ["_law_found","_law_due_here"] (top 30):=by decide +kernel
theorem tH:FS ["_law_found","_law_some_here"] ["_law_found"] (top 31):=by decide +kernel
theorem yf:FS ["_law_i","_law_x","_law_y","_law_w","_law_found"] ["_law_i"] (top 32):=by decide +kernel
theorem BE:FS ["_law_two_here","_law_three","_law_p","_law_q"] ["_law_two_here","_law_three","_law_p","_law_q"] (top 33):=by decide +kernel
theorem BF:FS ["_law_i","_law_j","_law_k","_law_one","_law_two_here","_law_three","_law_found","_law_place","_law_left","_law_parts"] ["_law_i","_law_j","_law_k"] (top 34):=by decide +kernel
theorem IS:FS ["_law_script","_law_some_here","_law_handed","_law_due_here","_law_found"] ["_law_script"] (top 35):=by decide +kernel
local macro_rules | `(tactic| walk_at "side")=> `(tactic| first | omega | assumption | exact kO | exact cU (PX rfl) | exact zk (by decide) (by decide +kernel) | (show rV _ _; exact ⟨by decide,by decide,by decide +kernel⟩))
local macro_rules | `(tactic| walk_at "at")=> `(tactic| with_reducible (repeat (first | exact At.z | apply At.s)))
local macro_rules | `(tactic| walk_at "sset")=> `(tactic| with_reducible (repeat (first | exact SSet.z | apply SSet.s)))
local macro_rules | `(tactic| walk_at "atI")=> `(tactic| first | assumption | rfl)
local macro_rules | `(tactic| walk_at "own")=> `(tactic| walk_at "u")
local macro_rules | `(tactic| walk_at "evSs")=> `(tactic| first
 | with_reducible refine az ?_
 | with_reducible refine n6 ?_)
local macro_rules | `(tactic| walk_at "evS")=> `(tactic| first
 | ((with_reducible show eG _ (Tc [Oc _ _] _ _) _ _ _); with_reducible refine uF (by walk_at "at") ?_)
 | ((with_reducible show eG _ (Stmt.If _ _ _ _) _ _ _); walk_at "evIf")
 | ((with_reducible show eG _ (Stmt.Expr _ _) _ _ _); walk_at "evXp")
 | ((with_reducible show eG _ (Stmt.Return (some (Oc _ _)) _) _ _ _); with_reducible refine zj (by walk_at "at") (by walk_at "at") rfl ?_)
 | ((with_reducible show eG _ (Stmt.Return (some _) _) _ _ _); with_reducible refine fD ?_)
 | ((with_reducible show eG _ (Stmt.Return none _) _ _ _); with_reducible refine s_retN ?_)
 | ((with_reducible show eG _ (SH (Oc _ _) SY _ _) _ _ _); with_reducible refine s_addq (by walk_at "at") (by walk_at "at") ?_)
 | ((with_reducible show eG _ (SH (Oc _ _) Operator.Sub _ _) _ _ _); with_reducible refine Hj (by walk_at "at") (by walk_at "at") ?_)
 | ((with_reducible show eG _ (SH (O5 (Oc _ _) _ _) SY _ _) _ _ _); with_reducible refine uP (by walk_at "at") (by walk_at "at") ?_)
 | ((with_reducible show eG _ (Tc [Expr.Tuple [Oc _ _,Oc _ _] _ _] (Expr.Tuple [_,_] _ _) _) _ _ _); with_reducible refine s_par (by walk_at "at") (by walk_at "at") (by decide) ?_)
 | ((with_reducible show eG _ (Tc [Expr.Tuple _ _ _] _ _) _ _ _); with_reducible refine KS ?_)
 | ((with_reducible show eG _ (Tc [O5 (Oc _ _) _ _] _ _) _ _ _); walk_at "evPut")
 | with_reducible refine s_break ?_
 | with_reducible refine s_continue ?_
 | with_reducible refine s_pass ?_)
local macro_rules | `(tactic| walk_at "evIf")=> `(tactic| with_reducible refine Dm ?_)
local macro_rules | `(tactic| walk_at "evXp")=> `(tactic| with_reducible refine sj (by walk_at "at") (by walk_at "at") (by walk_at "own") ?_)
local macro_rules | `(tactic| walk_at "evPut")=> `(tactic| with_reducible refine HC (by walk_at "at") (by walk_at "at") ?_ (ho:=by walk_at "own"))
local macro_rules | `(tactic| walk_at "evK")=> `(tactic| first
 | with_reducible refine KA ?_
 | with_reducible refine MT ?_
 | with_reducible refine e_non ?_
 | with_reducible refine e_str ?_)
local macro_rules | `(tactic| walk_at "evCm")=> `(tactic| first
 | with_reducible refine e_isN ?_
 | with_reducible refine e_notN ?_
 | with_reducible refine e_lt ?_
 | with_reducible refine M0 ?_
 | with_reducible refine e_ne ?_)
local macro_rules | `(tactic| walk_at "evIx")=> `(tactic| first
 | ((with_reducible show aF _ (O5 _ (Expr.Slice _ _ _ _) _) _ _); with_reducible refine zN ?_)
 | ((with_reducible show aF _ (O5 (Oc _ _) _ _) _ _); with_reducible refine K5 (by walk_at "at") (by walk_at "at") (by walk_at "own") (by walk_at "sset") ?_ (by walk_at "at"))
 | ((with_reducible show aF _ (O5 (Oc _ _) _ _) _ _); with_reducible refine e_dix (by walk_at "at") (by walk_at "at") ?_)
 | with_reducible refine kJ ?_)
local macro_rules | `(tactic| walk_at "evBo")=> `(tactic| first
 | with_reducible refine Hx ?_
 | with_reducible refine KD ?_
 | with_reducible refine KG ?_
 | with_reducible refine KH ?_
 | with_reducible refine Hg ?_
 | with_reducible refine KI ?_)
local macro_rules | `(tactic| walk_at "evCa")=> `(tactic| first
 | ((with_reducible show aF _ (OR (Expr.Attribute _ _ _) _ _ _) _ _); walk_at "evMt")
 | ((with_reducible show aF _ (OR (Oc "isinstance" _) _ _ _) _ _); first
  | with_reducible refine n8 (Txt.isin (by assumption)) (Txt.K6 (by assumption)) ?_
  | with_reducible refine n8 (Txt.isin (by assumption)) (Txt.DB (by assumption)) ?_
  | with_reducible refine n8 (Txt.isin (by assumption)) (Txt.HH (by assumption)) ?_
  | with_reducible refine n8 (Txt.isin (by assumption)) (Txt.HG (by assumption)) ?_)
 | ((with_reducible show aF _ (OR (Oc "len" _) _ _ _) _ _); first
  | ((with_reducible show aF _ (OR _ [Oc _ _] _ _) _ _); with_reducible refine e_lenO (Txt.len (by assumption)) (by walk_at "at") (by walk_at "at") (by walk_at "own") (by walk_at "sset") ?_)
  | with_reducible refine e_len (Txt.len (by assumption)) ?_)
 | ((with_reducible show aF _ (OR (Oc "tuple" _) _ _ _) _ _); first
  | ((with_reducible show aF _ (OR _ [Oc _ _] _ _) _ _); with_reducible refine e_tupleO (Txt.tuple (by assumption)) (by walk_at "at") (by walk_at "at") (by walk_at "own") (by walk_at "sset") ?_)
  | with_reducible refine j5 (Txt.tuple (by assumption)) ?_)
 | ((with_reducible show aF _ (OR (Oc "abs" _) _ _ _) _ _); with_reducible refine e_abs (Txt.abs (by assumption)) ?_)
 | ((with_reducible show aF _ (OR (Oc "int" _) _ _ _) _ _); with_reducible refine e_intB (Txt.int (by assumption)) ?_))
local macro_rules | `(tactic| walk_at "evMt")=> `(tactic| with_reducible refine HB (by walk_at "at") (by walk_at "at") ?_ (ho:=by walk_at "own"))
local macro_rules | `(tactic| walk_at "evE")=> `(tactic| first
 | ((with_reducible show aF _ (Oc _ _) _ _); with_reducible refine uC (by walk_at "at") (by walk_at "at") ?_)
 | ((with_reducible show aF _ (RB _ _ _) _ _); walk_at "evK")
 | ((with_reducible show aF _ (OR _ _ _ _) _ _); walk_at "evCa")
 | ((with_reducible show aF _ (O5 _ _ _) _ _); walk_at "evIx")
 | ((with_reducible show aF _ (Expr.BinOp _ _ _ _) _ _); walk_at "evBo")
 | ((with_reducible show aF _ (Expr.Compare _ _ _ _) _ _); walk_at "evCm")
 | with_reducible refine Fy ?_
 | with_reducible refine Hy ?_
 | with_reducible refine KJ ?_
 | with_reducible refine e_not ?_
 | with_reducible refine KQ ?_
 | with_reducible refine e_or ?_
 | with_reducible refine KP ?_
 | with_reducible refine Dl ?_)
local macro_rules | `(tactic| walk_at "evX")=> `(tactic| first
 | ((with_reducible show cS _ (Expr.List _ _) _ _); with_reducible refine Fz ?_)
 | ((with_reducible show cS _ (OR _ _ _ _) _ _); walk_at "evXC")
 | ((with_reducible show cS _ (Expr.BinOp _ SY _ _) _ _); with_reducible refine zG ?_)
 | ((with_reducible show cS _ (O5 _ (Expr.Slice _ _ _ _) _) _ _); with_reducible refine uN ?_)
 | with_reducible refine Ft ?_)
local macro_rules | `(tactic| walk_at "evXC")=> `(tactic| first
 | ((with_reducible show cS _ (OR (Oc "list" _) _ _ _) _ _); first
  | ((with_reducible show cS _ (OR _ [Oc _ _] _ _) _ _); with_reducible refine x_listO (Txt.list (by assumption)) (by walk_at "at") (by walk_at "at") (by walk_at "own") (by walk_at "sset") ?_)
  | with_reducible refine zD (Txt.list (by assumption)) ?_)
 | with_reducible refine Ft ?_)
local macro_rules | `(tactic| walk_at "evT")=> `(tactic| first
 | ((with_reducible show iM _ (Expr.Compare _ _ _ _) _ _); first
  | with_reducible refine t_isN ?_
  | with_reducible refine t_notN ?_
  | with_reducible refine MZ ?_
  | with_reducible refine MY ?_
  | with_reducible refine MU ?_
  | with_reducible refine t_le ?_
  | with_reducible refine MV ?_
  | with_reducible refine MW ?_
  | with_reducible refine FG (by walk_at "at") (by walk_at "at") ?_
  | with_reducible refine t_dnotin (by walk_at "at") (by walk_at "at") ?_)
 | with_reducible refine KO ?_
 | with_reducible refine Nr (w_and ?_)
 | with_reducible refine Nr (w_or ?_)
 | with_reducible refine KR ?_)
local macro_rules | `(tactic| walk_at "evW")=> `(tactic| first
 | with_reducible refine w_and ?_
 | with_reducible refine w_or ?_
 | with_reducible refine Hh ?_
 | with_reducible refine KN ?_)
local macro_rules | `(tactic| walk_at "evG")=> `(tactic| first
 | ((with_reducible show lP _ (Oc _ _) _ _ _); with_reducible refine cB (by walk_at "at") ?_)
 | with_reducible refine uG rfl (by walk_at "u") ?_)
local macro_rules | `(tactic| walk_at "evGs")=> `(tactic| first
 | with_reducible refine Hi ?_
 | ((with_reducible show wM _ (_::_) _ _ _); with_reducible refine Dn (by walk_at "at") ?_))
local macro_rules | `(tactic| walk_at "evL")=> `(tactic| first
 | ((with_reducible show Nx _ _ _ _); with_reducible refine jZ (by walk_at "sset") ?_)
 | ((with_reducible show Sd _ _); first | with_reducible refine Sd.mk (by walk_at "side") ?_ | with_reducible refine Sd.mk ?_ ?_)
 | ((with_reducible show lY _ _ _); first
  | with_reducible refine Fv ?_
  | with_reducible refine Fw ?_
  | with_reducible refine Df ?_
  | with_reducible refine De (λh=>?_) (λh=>?_)
  | with_reducible refine if2 (λh=>?_) (λh=>?_))
 | with_reducible refine i2 ?_
 | with_reducible refine i1 ?_
 | with_reducible refine b1 ?_
 | ((with_reducible show Dg _ _ _); first
  | with_reducible refine Dh ?_
  | with_reducible refine eqp_bl ?_
  | with_reducible refine eqp_str ?_)
 | ((with_reducible show kI _ _ _); first
  | with_reducible refine zO ?_
  | with_reducible refine zP ?_
  | with_reducible refine zQ ?_)
 | ((with_reducible show G8 _ _); first
  | with_reducible refine FD ?_
  | with_reducible refine cJ ?_)
 | ((with_reducible show IsN _ _); first
  | with_reducible refine isn_t ?_
  | with_reducible refine isn_f (by intro q; cases q) ?_)
 | ((with_reducible show JV _ _ _); first
  | refine iQ (by rfl) ?_
  | refine gi (by rfl) ?_)
 | ((with_reducible show Hu _ _ _ _); first
  | with_reducible refine EV.Hu.lst ?_
  | with_reducible refine EV.Hu.tup ?_)
 | ((with_reducible show ∃ ys,D.row _=some ys/\_); refine zR (by rfl) ?_)
 | ((with_reducible show ∃ t b,wO _ _ t/\_); first
  | with_reducible refine Hz .int HJ ?_
  | with_reducible refine Hz .int (Txt.ib (by assumption)) ?_
  | with_reducible refine Hz .bl kit_bb ?_
  | with_reducible refine Hz .lst HL ?_
  | with_reducible refine Hz .tup HK ?_)
 | ((with_reducible show ∃ j d,D.int _=D.int j/\_); refine ⟨_,_,rfl,(by walk_at "atI"),?_⟩)
 | ((with_reducible show ∃ r,_/\Hl _ _ _ r); walk_at "evR"))
local macro_rules | `(tactic| walk_at "ev1")=> `(tactic| first
 | ((with_reducible show aF _ _ _ _); walk_at "evE")
 | ((with_reducible show cS _ _ _ _); walk_at "evX")
 | ((with_reducible show iM _ _ _ _); walk_at "evT")
 | ((with_reducible show aQ _ _ _ _ _); walk_at "evSs")
 | ((with_reducible show eG _ _ _ _ _); walk_at "evS")
 | ((with_reducible show nY _ _ _ _); first | with_reducible refine eU ?_ | with_reducible refine kH ?_)
 | ((with_reducible show Fx _ _ _ _); walk_at "evW")
 | ((with_reducible show lP _ _ _ _ _); walk_at "evG")
 | ((with_reducible show wM _ _ _ _ _); walk_at "evGs")
 | ((with_reducible show Cw _ _ _ _); first | with_reducible refine Hs ?_ | with_reducible refine Ht ?_)
 | walk_at "evL")
local macro_rules | `(tactic| walk_at "ev")=> `(tactic| repeat' (walk_at "ev1"))
section
variable {K:NR}
noncomputable def vV:Fn:=λds r=>∃ l:List Int,l.length<=64/\ds=[.tup (l.map .int)]/\r=.ok (.va (.tup ((trim l).map .int)))
theorem IT (h:l.length<=64):vV [.tup (l.map .int)] (.ok (.va (.tup ((trim l).map .int)))):=⟨l,h,rfl,rfl⟩
theorem BG {cl:List Int} {j:Int} (h0:0<=j) (h1:j<cl.length) (h:R (.int (cl.getD j.toNat 0))):JV (.tup (cl.map D.int)) (.int j) R:=by
 refine iQ ?_ h
 rw [d7 h0 (by simpa using h1)]
 have hj:j.toNat<cl.length:=by lia
 simp [NZ,hj]
theorem EF (Fu:fC K "trimmed" "trimmed" (top 2) f fd) (T:Txt K mg):bz P w K mg base (dU P w) 1 f fd ["powers"] (fM K vV):=by
 refine dD Fu tE (by rintro ds r ⟨a,_,rfl,_⟩; rfl) (by rintro ds r ⟨a,_,_,rfl⟩; exact ⟨_,rfl⟩) λc hq ds sl hF=>?_
 obtain ⟨l,hl,rfl,e⟩:=hF
 injection e with e
 subst e
 show aQ c _ [.va (.tup (l.map .int)),.un] _ _
 conv in (ay _)=>whnf
 walk_at "ev"
 with_reducible refine uH hq (λm ρ'=>m<=l.length/\trim (l.take m)=trim l/\ρ'=[.va (.tup (l.map .int)),.va (.int (m:Int))]) (m₀:=l.length) ?_ ?_
 ·refine ⟨NT _,by rw [OO],?_⟩
  rw [NX]
 ·rintro m ρ' ⟨hm,ht,rfl⟩
  walk_at "ev"
  ·refine BG (by lia) (by lia) ?_
   have hk:((m:Int) - 1).toNat=m - 1:=by lia
   rw [hk]
   have hm1:m - 1+1=m:=by lia
   walk_at "ev"
   ·exact ⟨m - 1,by lia,by lia,nE (by lia) (by assumption) (by rw [hm1]; exact ht),by rw [show ((m - 1:Nat):Int)=(m:Int) - 1 by lia]⟩
   ·show Sl.va _=Sl.va _
    rw [qh,AD _ hm]
    have:=jy (l:=l) (m:=m - 1) (by lia) (by assumption) (by rw [hm1]; exact ht)
    rw [hm1] at this
    rw [this]
  ·show Sl.va _=Sl.va _
   have:m=0:=by lia
   subst this
   rw [qh,AD _ hm,<- ht]
   rfl
theorem gE (x):(aR x).nl:=sE (by unfold D.lQ; exact ⟨sE (DA _),cV (f:=D.int) (l:=[x.2]) λ_ _=>kO⟩)
noncomputable def EG (t:aM):Option D:=if t.2≠0 then some (aR t) else none
theorem kj:∀ L:List aM,(L.map EG).filterMap id=(nz L).map aR
 | []=>rfl
 | t::L=>by
  unfold nz
  by_cases h:t.2=0
  ·simp only [NW,EG,h,ne_eq,not_true,if_false,Pf,id,List.filter_cons,bne_self_eq_false,ON]
   exact kj L
  ·have hb:(t.2 != 0)=true:=by simpa using h
   rw [List.filter_cons,if_pos hb,NW,NW,Pf]
   simp only [EG,ne_eq,h,not_false_eq_true,if_true,id]
   rw [kj L]; rfl
noncomputable def rC:Fn:=λds r=>∃ ts:List aM,ts.length<=20000/\(∀ t∈ts,t.1.length<=64)/\ds=[.lst (ts.map aR)]/\r=.ok (.ow ((fH (nz (aN ts))).map aR))
theorem tK (h:ts.length<=20000) (h2:∀ t∈ts,t.1.length<=64):rC [.lst (ts.map aR)] (.ok (.ow ((fH (nz (aN ts))).map aR))):=⟨ts,h,h2,rfl,rfl⟩
theorem BH (l m):c9 (l,0) (m,0)=HT.lexLt l m:=by
 unfold c9
 by_cases e:l=m
 ·subst e; rw [if_pos rfl,EV.kc]; rfl
 ·rw [if_neg e]
theorem tL (hk:(A.map (·.1)).Nodup) (hp:L.Perm (A.map (·.1))) (hs:fR HT.lexLt false L):L.reverse=(fH A).map (·.1):=by
 have h:(L.reverse.map λl=>((l,0):aM))=((fH A).map (·.1)).map λl=>((l,0):aM):=by
  refine ly (((So L).trans (hp.trans ((bF A).map _).symm)).map _) ?_ ?_
  ·unfold i8 fR at *
   rw [PZ,List.pairwise_reverse]
   exact hs.imp λh=>by simpa [BH] using h
  ·have ho:i8 true (fH A):=gS (keys_nodup hk)
   have hn:((fH A).map (·.1)).Nodup:=((bF A).map _).nodup_iff.mpr hk
   unfold i8 fR RJ at *
   rw [PZ] at hn
   rw [PZ,PZ]
   refine ho.imp₂ (λx y h q=>?_) hn
   simp only [if_true] at h |-
   rw [BH]
   unfold c9 at h
   rw [if_neg λz=>q z.symm] at h
   exact h
 have:=congrArg (List.map (·.1)) h
 rw [Oj,Oj] at this
 exact ((List.map_id _).symm.trans this).trans (List.map_id _)
theorem BI {l:List Int} (h:m<l.length):jI ((l.take (m+1)).map D.int) (-1)=some (.int (l.getD m 0)):=by
 have hl:(l.take (m+1)).length=m+1:=by simp; lia
 rw [u5 (by decide) (by simp only [NX,hl]; lia),NX,hl]
 have e:(-1+((m+1:Nat):Int)).toNat=m:=by lia
 rw [e,NZ,List.getElem?_take]
 simp [OY,h]
theorem IU (xs:List α):EV.cutD xs none (some (-1))=xs.dropLast:=by
 unfold EV.cutD HT.cz
 rw [List.dropLast_eq_take]
 simp only [SN]
 congr 1
 split <;> lia
section
local macro_rules | `(tactic| walk_at "evIx")=> `(tactic| first | ((with_reducible show aF _ (O5 _ (Oc _ _) _) _ _); with_reducible refine IK ?_))
local macro_rules | `(tactic| walk_at "evX")=> `(tactic| first | ((with_reducible show cS _ (Expr.Dict _ _ _) _ _); with_reducible refine Dw ?_))
theorem BJ (Fu:fC K "_law_plain" "_law_plain" (top 23) f fd) (T:Txt K mg):bz P w K mg base (dU P w) 1 f fd ["_law_terms_here"] (fM K rC):=by
 refine dD Fu tF (by rintro ds r ⟨n,_,_,rfl,_⟩; rfl) (by rintro ds r ⟨n,_,_,_,rfl⟩; exact ⟨_,rfl⟩) λc hq ds sl hF=>?_
 obtain ⟨ts,hl,hlen,rfl,e⟩:=hF
 injection e with e
 subst e
 show aQ c _ [.va (.lst (ts.map aR)),.un,.un,.un,.un] _ _
 conv in (ay _)=>whnf
 walk_at "ev"
 with_reducible refine cO hq (ck ?_)
 walk_at "ev"
 refine ⟨λi ρ'=>∃ s2 s3 s4:Sl,ρ'=[.va (.lst (ts.map aR)),.oT (encA (aN (ts.take i))),s2,s3,s4],⟨_,_,_,rfl⟩,?_,?_⟩
 ·rintro c' lT wo wu i d ρ' hd ⟨s2,s3,s4,rfl⟩
  simp only [NZ,N8] at hd
  obtain ⟨t,ht,rfl⟩:=hd
  obtain ⟨hi,rfl⟩:=N4.mp ht
  have h6:=hlen _ (Ow hi)
  have hsz:(aN (ts.take i)).length<sizeLine:=iD (by have:=gR (ts.take i); rw [OW] at this; lia)
  have e:aN (ts.take (i+1))=putD (aN (ts.take i)) (trim ts[i].1) ((bC (aN (ts.take i)) (trim ts[i].1)).getD 0+ts[i].2):=by
   rw [OU hi,qH]; rfl
  have hq':c'.X.xe=λ_ _=>False:=by rw [lT]; exact hq
  generalize aN (ts.take i)=A at hsz e |-
  generalize ts[i]=t at h6 e |-
  show lP c' _ (D.tup [.tup (t.1.map .int),.int t.2]) _ _
  walk_at "ev"
  with_reducible refine uH hq' (λm ρ'=>m<=t.1.length/\trim (t.1.take m)=trim t.1/\ρ'=[.va (.lst (ts.map aR)),.oT (encA A),.va (.tup (t.1.map .int)),.va (.int t.2),.va (.tup ((t.1.take m).map .int))]) (m₀:=t.1.length) ?_ ?_
  ·exact ⟨NT _,by rw [OO],by rw [OO]⟩
  ·rintro m ρ' ⟨hm,ht,rfl⟩
   have hL:((t.1.take m).map D.int).length=m:=by simp; lia
   walk_at "ev"
   ·rw [hL] at *
    obtain ⟨n,rfl⟩:∃ n,m=n+1:=⟨m - 1,by omega⟩
    refine iQ (BI (by omega)) ?_
    walk_at "ev"
    ·refine ⟨n,by omega,by omega,nE (by omega) (by assumption) ht,?_⟩
     rw [IU,jx (by omega),Ot,List.map_singleton,List.dropLast_concat]
    ·have eT:t.1.take (n+1)=trim t.1:=by first | exact jy (by omega) (by assumption) ht | exact (jy (by omega) (by assumption) ht).symm
     rw [eT]
     refine ⟨_,AH (A:=A) rfl _,?_⟩
     rw [qI]
     walk_at "ev"
     refine ⟨_,AI hsz,?_⟩
     walk_at "ev"
     show ∃ s2 s3 s4:Sl,_=[_,Sl.oT (encA (aN (ts.take (i+1)))),s2,s3,s4]
     rw [e]
     exact ⟨_,_,_,rfl⟩
   ·have:m=0:=by rw [hL] at *; omega
    subst this
    have eT:t.1.take 0=trim t.1:=ht
    rw [eT]
    refine ⟨_,AH (A:=A) rfl _,?_⟩
    rw [qI]
    walk_at "ev"
    refine ⟨_,AI hsz,?_⟩
    walk_at "ev"
    show ∃ s2 s3 s4:Sl,_=[_,Sl.oT (encA (aN (ts.take (i+1)))),s2,s3,s4]
    rw [e]
    exact ⟨_,_,_,rfl⟩
 ·rintro ρ' ⟨s2,s3,s4,rfl⟩
  rw [NX,OO]
  have hn:=keys_nodup (eY ts)
  have hn':=eY ts
  have hle:=gR ts
  with_reducible refine az ?_
  with_reducible refine fD ?_
  refine sG 1 (by walk_at "at") (encK _) (by walk_at "sset") (dW hq (N':=["_law_key","_law_found"]) (ρ0:=λ_=>[.un,.va (D.fdT ((aN ts).map λt=>t.1.map Oe) ((aN ts).map λt=>D.int t.2))]) (λt=>.un (.fr (by walk_at "at") (by walk_at "at") (by decide) rfl .nil)) (ck (e_x (Lr ?_))))
  refine e_x (Bu (Txt.sorted T) ?_)
  walk_at "ev"
  refine ⟨(aN ts).map (·.1),_,by rw [Oj]; rfl,hn',λL' hp hs=>?_⟩
  have eL:=tL hn' hp hs
  have hpl:=(bF (aN ts)).length_eq
  refine cJ ?_
  walk_at "ev"
  refine ⟨rfl,rfl,rfl,_,rfl,?_⟩
  rw [<- List.map_reverse,eL]
  refine cJ (zR rfl ⟨qW (by simp only [NX]; omega),(fH (aN ts)).map EG,by simp,?_,?_⟩)
  ·intro c' hc t i d o hd ho
   simp only [NZ,N8] at hd ho
   obtain ⟨n,⟨x,hx,rfl⟩,rfl⟩:=hd
   obtain ⟨x',hx',rfl⟩:=ho
   rw [hx] at hx'; cases hx'
   have hm:x∈aN ts:=(bF (aN ts)).subset (O3 hx)
   have hv:bC (encA (aN ts)) (x.1.map Oe)=some (.int x.2):=by
    rw [oH,oU hn' hm]; rfl
   refine cB (by walk_at "at") (jZ (by walk_at "sset") ⟨.un (.same .nil),?_⟩)
   simp only [jQ]
   walk_at "ev"
   refine ⟨encA (aN ts),_,_,_,?_,rfl,fG x.1,hv,?_⟩
   ·show _=D.fdT (((aN ts).map _).map _) (((aN ts).map _).map _)
    rw [Oj,Oj]; rfl
   walk_at "ev"
   ·unfold EG; rw [if_neg λh=>h (by assumption)]
   refine ⟨encA (aN ts),_,_,_,?_,rfl,fG x.1,hv,?_⟩
   ·show _=D.fdT (((aN ts).map _).map _) (((aN ts).map _).map _)
    rw [Oj,Oj]; rfl
   walk_at "ev"
   unfold EG
   rw [if_pos (by assumption)]
  ·rw [kj,AG (keys_nodup hn')]
   exact ⟨cV λx _=>gE x,rfl⟩
end
end
section
variable {K:NR}
noncomputable def EH (p:List Int) (g:Nat->Int) (k:Nat):Int:=if b9 p k>g k then b9 p k else g k
noncomputable def gk (L:List aM) (k:Nat):Int:=L.foldl (λa t=>if b9 t.1 k>a then b9 t.1 k else a) 0
noncomputable def fh (L:List aM):List Int:=(OD 6).map (gk L)
noncomputable def iG (p:List Int) (g:Nat->Int) (j k:Nat):Int:=if k<j then EH p g k else g k
theorem vW (L:List aM) (k):∀ a:Int,a<=L.foldl (λa t=>if b9 t.1 k>a then b9 t.1 k else a) a:=by
 induction L with
 | nil=>exact λa=>Pd _
 | cons t L ih =>
  intro a
  rw [Pj]
  refine OA ?_ (ih _)
  split <;> lia
theorem F7 (L) (k):0<=gk L k:=vW L k 0
theorem EI (L) (t):gk (L++[t])=EH t.1 (gk L):=by
 funext k
 unfold gk EH
 rw [Ub]; rfl
theorem EJ:iG p (gk L) p.length=EH p (gk L):=by
 funext k
 unfold iG
 split
 ·rfl
 ·unfold EH
  rw [dh (by lia)]
  have:=F7 L k
  rw [if_neg (by lia)]
theorem BK (p) (g):iG p g 0=g:=by funext k; unfold iG; rw [if_neg (by lia)]
noncomputable def fU (g:Nat->Int):List D:=((OD 6).map g).map D.int
theorem BL (p) (g) (h:j<6) (q:EH p g j=b9 p j):(fU (iG p g j)).set j (.int (b9 p j))=fU (iG p g (j+1)):=by
 refine Sy (by simp [fU]) λi h1 h2=>?_
 have hi:i<6:=by simpa [fU] using h2
 rw [List.getElem_set]
 simp only [fU,Uh,TZ]
 unfold iG
 by_cases e:j=i
 ·subst e
  rw [if_pos rfl,if_pos (by lia),q]
 ·rw [if_neg e]
  by_cases z:i<j
  ·rw [if_pos z,if_pos (by lia)]
  ·rw [if_neg z,if_neg (by lia)]
theorem yg (p) (g) (q:EH p g j=g j):fU (iG p g j)=fU (iG p g (j+1)):=by
 unfold fU
 congr 1
 refine PY λi _=>?_
 unfold iG
 by_cases z:i<j
 ·rw [if_pos z,if_pos (by lia)]
 ·by_cases e:i=j
  ·subst e; rw [if_neg z,if_pos (by lia),q]
  ·rw [if_neg z,if_neg (by lia)]
theorem EK (g) {j:Nat} (h:j<6):jI (fU g) (j:Int)=some (.int (g j)):=by
 rw [d7 (by lia) (by simp [fU]; lia),OH]
 simp [fU,h]
noncomputable def o8:Fn:=λds r=>∃ L:List aM,(∀ t∈L,t.1.length<=6)/\ds=[.lst (L.map aR)]/\r=.ok (.ow (fU (gk L)))
theorem EL (h:∀ t∈L,t.1.length<=6):o8 [.lst (L.map aR)] (.ok (.ow (fU (gk L)))):=⟨L,h,rfl,rfl⟩
section
local macro_rules | `(tactic| walk_at "evPut")=> `(tactic| with_reducible refine AN (by walk_at "at") (by walk_at "at") (by walk_at "own") ?_)
local macro_rules | `(tactic| walk_at "evX")=> `(tactic| first | ((with_reducible show cS _ (Expr.BinOp _ Operator.Mult _ _) _ _); with_reducible refine Lg ?_))
local macro_rules | `(tactic| walk_at "evE")=> `(tactic| first | ((with_reducible show aF _ (Oc "PLACES" _) _ _); with_reducible refine se (by assumption) ?_))
theorem BN (Fu:fC K "greatest_powers" "greatest_powers" (top 3) f fd) (T:Txt K mg) (PL:∃ tk:Tok,mg "PLACES"=some (.int 6 tk)):bz P w K mg base (dU P w) 1 f fd ["some"] (fM K o8):=by
 obtain ⟨tk,hPL⟩:=PL
 refine dD Fu iF (by rintro ds r ⟨L,_,rfl,_⟩; rfl) (by rintro ds r ⟨L,_,_,rfl⟩; exact ⟨_,rfl⟩) λc hq ds sl hF=>?_
 obtain ⟨L,hl,rfl,e⟩:=hF
 injection e with e
 subst e
 show aQ c _ [.va (.lst (L.map aR)),.un,.un,.un,.un,.un] _ _
 conv in (ay _)=>whnf
 walk_at "ev"
 refine ⟨_,rfl,?_⟩
 walk_at "ev"
 ·exact ⟨⟨by decide,by decide⟩,by decide⟩
 walk_at "ev"
 show eG c _ [.va (.lst (L.map aR)),.ow (fU (gk [])),.un,.un,.un,.un] _ _
 with_reducible refine cO hq (ck ?_)
 walk_at "ev"
 refine ⟨λi ρ'=>∃ s2 s3 s4 s5:Sl,ρ'=[.va (.lst (L.map aR)),.ow (fU (gk (L.take i))),s2,s3,s4,s5],⟨_,_,_,_,rfl⟩,?_,?_⟩
 ·rintro c' lT wo wu i d ρ' hd ⟨s2,s3,s4,s5,rfl⟩
  simp only [NZ,N8] at hd
  obtain ⟨t,ht,rfl⟩:=hd
  obtain ⟨hi,rfl⟩:=N4.mp ht
  have h6:=hl _ (Ow hi)
  have hq':c'.X.xe=λ_ _=>False:=by rw [lT]; exact hq
  show lP c' _ (D.tup [.tup (L[i].1.map .int),.int L[i].2]) _ _
  walk_at "ev"
  have eg:gk (L.take (i+1))=iG L[i].1 (gk (L.take i)) L[i].1.length:=by rw [OU hi,EI,EJ]
  generalize L[i]=t at h6 eg |-
  generalize gk (L.take i)=g at eg |-
  with_reducible refine cO hq' (AQ (Txt.enum (by assumption)) ?_)
  walk_at "ev"
  refine ⟨_,rfl,?_⟩
  refine ⟨λj ρ'=>∃ s4 s5:Sl,ρ'=[.va (.lst (L.map aR)),.ow (fU (iG t.1 g j)),.va (.tup (t.1.map .int)),.va (.int t.2),s4,s5],⟨s4,s5,by rw [BK]⟩,?_,?_⟩
  ·rintro c2 hcX2 hcR2 hcM2 j d ρ' hd ⟨s4,s5,rfl⟩
   unfold lD at hd
   simp only [NZ,N8,List.getElem?_zipIdx] at hd
   obtain ⟨⟨x,m⟩,⟨y,⟨z,hz,rfl⟩,e⟩,rfl⟩:=hd
   obtain ⟨rfl,rfl⟩:D.int z=x/\0+j=m:=by simpa using e
   obtain ⟨hj,rfl⟩:=N4.mp hz
   have hj6:j<6:=by lia
   have ha:jI (fU (iG t.1 g j)) (((0+j:Nat):Int))=some (.int (g j)):=by
    rw [Qg,EK _ hj6]; unfold iG; rw [if_neg (by lia)]
   have ep:b9 t.1 j=t.1[j]:=dX hj
   have hj0:0+j=j:=Qg j
   rw [hj0] at ha |-
   show lP c2 _ (D.tup [.int (j:Nat),.int t.1[j]]) _ _
   walk_at "ev"
   ·refine ⟨j,rfl,⟨by simp [fU]; lia,?_⟩⟩
    walk_at "ev"
    refine ⟨.va (.int (j:Nat)),.va (.int t.1[j]),?_⟩
    show [_,Sl.ow ((fU (iG t.1 g j)).set j (.int t.1[j])),_,_,_,_]=_
    rw [<- ep,BL t.1 g hj6 (by unfold EH; rw [ep,if_pos (by assumption)])]
   ·refine ⟨.va (.int (j:Nat)),.va (.int t.1[j]),?_⟩
    rw [yg t.1 g (by unfold EH; rw [ep,if_neg (by assumption)])]
  ·rintro ρ' ⟨s4,s5,rfl⟩
   rw [show (lD (t.1.map D.int)).length=t.1.length by simp [lD]]
   walk_at "ev"
   exact ⟨_,_,_,_,by rw [eg]⟩
 ·rintro ρ' ⟨s2,s3,s4,s5,rfl⟩
  rw [NX,OO]
  walk_at "ev"
  rfl
end
noncomputable def CA (ns:List Int):Int:=ns.foldr max 0
theorem BO:∀ {ns:List Int} {n:Int},n∈ns->n<=CA ns
 | x::ns,n,h=>by
  show n<=max x (CA ns)
  rcases N9.mp h with rfl | h
  ·lia
  ·have:=BO h; lia
theorem F8:∀ (ns:List Int),0<=CA ns
 | []=>Pd _
 | x::ns=>by show 0<=max x (CA ns); have:=F8 ns; lia
theorem tM:∀ {ns:List Int} {m:Int},0<=m->(∀ n∈ns,n<=m)->CA ns<=m
 | [],_,h,_=>h
 | x::ns,m,h0,h=>by
  show max x (CA ns)<=m
  have:=tM h0 λn hn=>h n (N6 _ hn)
  have:=h x N2
  lia
theorem BP (h:m∈fh L) (h2:∀ n∈fh L,n<=m):m=CA (fh L):=by
 have h0:0<=m:=by
  unfold fh at h
  obtain ⟨k,_,rfl⟩:=Oi.mp h
  exact F7 L k
 exact Int.le_antisymm (BO h) (tM h0 h2)
end
section
variable {K:NR}
noncomputable def EM:Fn:=λds r=>∃ (p:List Int) (W:Nat),W<=10/\Bd (2 ^ W) p/\ds=[.tup (p.map .int),.int (W:Nat)]/\r=.ok (.va (.int (pk (2 ^ W) p)))
theorem Lw (h:W<=10) (h2:Bd (2 ^ W) p):EM [.tup (p.map .int),.int (W:Nat)] (.ok (.va (.int (pk (2 ^ W) p)))):=⟨p,W,h,h2,rfl,rfl⟩
section
local macro_rules | `(tactic| walk_at "evE")=> `(tactic| first | ((with_reducible show aF _ (Oc "PLACES" _) _ _); with_reducible refine se (by assumption) ?_))
local macro_rules | `(tactic| walk_at "evBo")=> `(tactic| first | with_reducible refine FO ?_ | with_reducible refine FP ?_ | with_reducible refine AK ?_)
theorem IV (Fu:fC K "key_of" "key_of" (top 4) f fd) (T:Txt K mg) (PL:∃ tk:Tok,mg "PLACES"=some (.int 6 tk)):bz P w K mg base (dU P w) 1 f fd ["powers","width"] (fM K EM):=by
 obtain ⟨tk,hPL⟩:=PL
 refine dD Fu yb (by rintro ds r ⟨p,W,_,_,rfl,_⟩; rfl) (by rintro ds r ⟨p,W,_,_,_,rfl⟩; exact ⟨_,rfl⟩) λc hq ds sl hF=>?_
 obtain ⟨p,W,hW,hp,rfl,e⟩:=hF
 injection e with e
 subst e
 have h6:=hp.1
 show aQ c _ [.va (.tup (p.map .int)),.va (.int (W:Nat)),.un,.un] _ _
 conv in (ay _)=>whnf
 walk_at "ev"
 with_reducible refine cO hq (ck ?_)
 walk_at "ev"
 refine ⟨λi ρ'=>∃ s3:Sl,ρ'=[.va (.tup (p.map .int)),.va (.int (W:Nat)),.va (.int (Ej (2 ^ W) (p.take i))),s3],⟨_,rfl⟩,?_,?_⟩
 ·rintro c' lT wo wu i d ρ' hd ⟨s3,rfl⟩
  simp only [NZ,N8] at hd
  obtain ⟨x,hx,rfl⟩:=hd
  obtain ⟨hi,rfl⟩:=N4.mp hx
  have bd:=AZ (two_pos W) (p:=p.take i) λx hx=>hp.2 x (R8 hx)
  have hl:(p.take i).length<=6:=by rw [OW]; lia
  walk_at "ev"
  ·exact ⟨by lia,by lia,vJ hW hl bd.1 bd.2⟩
  ·refine ⟨.va (.int p[i]),?_⟩
   rw [OU hi,AY,OH]
 ·rintro ρ' ⟨s3,rfl⟩
  rw [NX,OO]
  have bd:=AZ (two_pos W) hp.2
  have ew:(W:Int) * (6 - ((p.map D.int).length:Nat))=((W * (6 - p.length):Nat):Int):=by
   rw [NX,Int.natCast_mul,Int.ofNat_sub h6]; rfl
  have ew2:W * (6 - p.length)<=60:=N3 (QB hW (Nat.sub_le 6 _)) (by decide)
  walk_at "ev"
  ·exact qj (by lia)
  ·rw [ew]; exact ⟨by lia,by lia,vJ hW h6 bd.1 bd.2⟩
  ·show Sl.va _=Sl.va _
   rw [ew,OH,Int.pow_mul,Ip h6]
end
theorem cL {α:Type} (f:α->D):∀ L:List α,(L.map λt=>some (f t)).filterMap id=L.map f
 | []=>rfl
 | x::L=>by
  rw [NW,NW,Pf]
  exact congrArg (f x:: ·) (cL f L)
noncomputable def vX:Fn:=λds r=>∃ (x:Int) (W:Nat),W<=10/\0<=x/\ds=[.int x,.int (W:Nat)]/\r=.ok (.va (.tup ((L8 (2 ^ W) x).map .int)))
theorem IW (h:W<=10) (h2:0<=x):vX [.int x,.int (W:Nat)] (.ok (.va (.tup ((L8 (2 ^ W) x).map .int)))):=⟨x,W,h,h2,rfl,rfl⟩
section
local macro_rules | `(tactic| walk_at "evE")=> `(tactic| first | ((with_reducible show aF _ (Oc "PLACES" _) _ _); with_reducible refine se (by assumption) ?_))
local macro_rules | `(tactic| walk_at "evBo")=> `(tactic| first | with_reducible refine FO ?_ | with_reducible refine FP ?_ | with_reducible refine AK ?_)
local macro_rules | `(tactic| walk_at "evXC")=> `(tactic| first | with_reducible refine x_call (F:=vV) (by assumption) (by decide) ?_)
theorem EN (Fu:fC K "powers_of" "powers_of" (top 5) f fd) (T:Txt K mg) (PL:∃ tk:Tok,mg "PLACES"=some (.int 6 tk)) (h1:fO P w K mg base 1 "trimmed" vV):bz P w K mg base (dU P w) 2 f fd ["key","width"] (fM K vX):=by
 obtain ⟨tk,hPL⟩:=PL
 refine dD Fu o4 (by rintro ds r ⟨x,W,_,_,rfl,_⟩; rfl) (by rintro ds r ⟨x,W,_,_,_,rfl⟩; exact ⟨_,rfl⟩) λc hq ds sl hF=>?_
 obtain ⟨x,W,hW,hx,rfl,e⟩:=hF
 injection e with e
 subst e
 show aQ c _ [.va (.int x),.va (.int (W:Nat)),.un] _ _
 conv in (ay _)=>whnf
 walk_at "ev"
 ·exact ⟨by lia,by lia,by decide⟩
 walk_at "ev"
 rw [OH]
 refine e_x (dW hq (N':=["k","key","mask","width"]) (ρ0:=λ_=>[.un,.va (.int x),.va (.int (1 * 2 ^ W - 1)),.va (.int (W:Nat))]) (λt=>.un (.fr (by walk_at "at") (by walk_at "at") (by decide) rfl (.fr (by walk_at "at") (by walk_at "at") (by decide) rfl (.fr (by walk_at "at") (by walk_at "at") (by decide) rfl .nil)))) (Ii (Txt.range T) ?_))
 walk_at "ev"
 refine ⟨rfl,⟨⟨by decide,by decide⟩,⟨⟨by decide,by decide⟩,⟨by decide,?_⟩⟩⟩⟩
 refine ⟨(OD 6).map λ(i:Nat)=>some (.int (x / (2 ^ W) ^ (5 - i) % 2 ^ W)),rfl,?_,cJ ?_⟩
 ·intro c' hc t i d o hd ho
  unfold AR at hd
  simp only [NZ,N8] at hd ho
  obtain ⟨a,ha,rfl⟩:=hd
  obtain ⟨a',ha',rfl⟩:=ho
  have hi:i<6:=by simpa using (N4.mp ha').1
  rw [Qs hi] at ha'; cases ha'
  rw [show (6 - 1 - -1:Int).toNat=6 by decide,Qs hi] at ha; cases ha
  refine cB (by walk_at "at") (jZ (by walk_at "sset") ⟨.un (.same (.same (.same .nil))),?_⟩)
  simp only [jQ]
  refine ⟨λ_=>?_,λh=>by cases h⟩
  have e5:((W:Int) * (6 - 1 - (i:Int))).toNat=W * (5 - i):=by
   rw [show ((6:Int) - 1 - (i:Int))=((5 - i:Nat):Int) by lia,<- Int.natCast_mul,OH]
  have e6:(0:Int)<=(W:Int) * (6 - 1 - (i:Int)):=Int.mul_nonneg (by lia) (by lia)
  have hp:(0:Int)<(2 ^ W) ^ (5 - i):=QH (two_pos W)
  walk_at "ev"
  ·exact qj (by lia)
  ·show some _=some (D.int _)
   rw [e5,Int.pow_mul,xN W (Int.ediv_nonneg hx (by lia))]
 ·refine ⟨_,rfl,?_⟩
  rw [cL (λ(i:Nat)=>D.int (x / (2 ^ W) ^ (5 - i) % 2 ^ W)) (OD 6),show ((OD 6).map λ(i:Nat)=>D.int (x / (2 ^ W) ^ (5 - i) % 2 ^ W))=((OD 6).map λ(i:Nat)=>x / (2 ^ W) ^ (5 - i) % 2 ^ W).map D.int by rw [Oj]; rfl]
  walk_at "ev"
  exact aJ (IT (by simp)) rfl
end
noncomputable def rD (b:Int) (t:aM):D:=.tup [.int (pk b t.1),.int t.2]
noncomputable def vY:Fn:=λds r=>∃ (L:List aM) (W:Nat),W<=10/\L.length<=20000/\(∀ t∈L,Bd (2 ^ W) t.1)/\ds=[.lst (L.map aR),.int (W:Nat)]/\r=.ok (.ow (L.map (rD (2 ^ W))))
theorem IX {L:List aM} (h:W<=10) (h1:L.length<=20000) (h2:∀ t∈L,Bd (2 ^ W) t.1):vY [.lst (L.map aR),.int (W:Nat)] (.ok (.ow (L.map (rD (2 ^ W))))):=⟨L,W,h,h1,h2,rfl,rfl⟩
section
local macro_rules | `(tactic| walk_at "evCa")=> `(tactic| first | with_reducible refine bZ (F:=EM) (by assumption) (by decide) ?_)
theorem EO (Fu:fC K "packed" "packed" (top 6) f fd) (T:Txt K mg) (h1:fO P w K mg base 1 "key_of" EM):bz P w K mg base (dU P w) 2 f fd ["some","width"] (fM K vY):=by
 refine dD Fu yc (by rintro ds r ⟨L,W,_,_,_,rfl,_⟩; rfl) (by rintro ds r ⟨L,W,_,_,_,_,rfl⟩; exact ⟨_,rfl⟩) λc hq ds sl hF=>?_
 obtain ⟨L,W,hW,hL,hb,rfl,e⟩:=hF
 injection e with e
 subst e
 show aQ c _ [.va (.lst (L.map aR)),.va (.int (W:Nat))] _ _
 conv in (ay _)=>whnf
 refine az (fD (dW hq (N':=["powers","number","width"]) (ρ0:=λ_=>[.un,.un,.va (.int (W:Nat))]) (λt=>.un (.un (.fr (by walk_at "at") (by walk_at "at") (by decide) rfl .nil))) (ck ?_)))
 walk_at "ev"
 ·exact qW (by rw [NX]; lia)
 refine ⟨L.map λt=>some (rD (2 ^ W) t),by simp,?_,by show Sl.ow _=Sl.ow _; rw [cL]⟩
 intro c' hc t i d o hd ho
 simp only [NZ,N8] at hd ho
 obtain ⟨x,hx,rfl⟩:=hd
 obtain ⟨x',hx',rfl⟩:=ho
 rw [hx] at hx'; cases hx'
 have hbx:=hb x (O3 hx)
 show lP c' _ (.tup [.tup (x.1.map .int),.int x.2]) _ _
 walk_at "ev"
 refine ⟨.un (.un (.same .nil)),?_⟩
 simp only [jQ]
 refine ⟨λ_=>?_,λh=>by cases h⟩
 walk_at "ev"
 refine aJ (Lw hW hbx) ?_
 walk_at "ev"
 rfl
end
end
section
variable {P:Program} {w:World} {K:NR} {mg:Str->Option Value} {base:Heap}
noncomputable def IY:L7:=λkvs ds Z=>∃ (ts A B:List aM) (W:Nat),W<=10/\ts.length+A.length * B.length<=20000/\A.length<=20000/\B.length<=20000/\(∀ t∈ts,Bd (2 ^ W) t.1)/\(∀ l∈A,∀ r∈B,Bd (2 ^ W) (cH l.1 r.1)/\EV.MulOk l.2 r.2) /\
 kvs=cR ((aN ts).map (gv (2 ^ W)))/\ds=[.lst (A.map (rD (2 ^ W))),.lst (B.map (rD (2 ^ W)))]/\Z=λkvs'=>kvs'=cR ((aN (ts++aO A B)).map (gv (2 ^ W)))
section
local macro_rules | `(tactic| walk_at "evS")=> `(tactic| first | ((with_reducible show eG _ (SH (O5 (Oc _ _) _ _) SY _ _) _ _ _); with_reducible refine uP (by walk_at "at") (by walk_at "at") ?_ (ho:=by walk_at "own")))
theorem IZ (Fu:fC K "add_products" "add_products" (top 8) f fd) (T:Txt K mg):bz P w K mg base (dU P w) 1 f fd ["total","left","right"] (Ia K IY):=by
 refine Le Fu jU (by rintro kvs ds Z ⟨t0,A,B,W,_,_,_,_,_,_,_,rfl,_⟩; rfl) λc hq q kvs ds Z hF=>?_
 obtain ⟨t0,A,B,W,hW,hl,hA,hB,hb0,hp,rfl,rfl,rfl⟩:=hF
 have e00:t0=t0++aO (A.take 0) B:=by show t0=t0++[]; rw [OP]
 rw [show cR ((aN t0).map (gv (2 ^ W)))=cR ((aN (t0++aO (A.take 0) B)).map (gv (2 ^ W))) by rw [<- e00]]
 show aQ c _ [.aK q (cR ((aN (t0++aO (A.take 0) B)).map (gv (2 ^ W)))),.va (.lst (A.map (rD (2 ^ W)))),.va (.lst (B.map (rD (2 ^ W)))),.un,.un,.un,.un,.un] _ _
 conv in (ay _)=>whnf
 walk_at "ev"
 with_reducible refine cO hq (ck ?_)
 walk_at "ev"
 refine ⟨λi ρ'=>∃ s3 s4 s5 s6 s7:Sl,ρ'=[.aK q (cR ((aN (t0++aO (A.take i) B)).map (gv (2 ^ W)))),.va (.lst (A.map (rD (2 ^ W)))),.va (.lst (B.map (rD (2 ^ W)))),s3,s4,s5,s6,s7],⟨_,_,_,_,_,rfl⟩,?_,?_⟩
 ·rintro c' lT wo wu i d ρ' hd ⟨s3,s4,s5,s6,s7,rfl⟩
  simp only [NZ,N8] at hd
  obtain ⟨l,hlx,rfl⟩:=hd
  obtain ⟨hi,rfl⟩:=N4.mp hlx
  have hq':c'.X.xe=λ_ _=>False:=by rw [lT]; exact hq
  show lP c' _ (.tup [.int (pk (2 ^ W) A[i].1),.int A[i].2]) _ _
  walk_at "ev"
  with_reducible refine cO hq' (ck ?_)
  walk_at "ev"
  have hpi:=hp A[i] (Ow hi)
  have e0:t0++aO (A.take (i+1)) B=(t0++aO (A.take i) B)++B.map (dY A[i]):=by
   rw [OU hi,nI,Oh]
  have hprev:∀ t∈t0++aO (A.take i) B,Bd (2 ^ W) t.1:=λt ht=>by
   rcases Om.mp ht with z | z
   ·exact hb0 t z
   ·obtain ⟨l,hl,r,hr,rfl⟩:=gw z
    exact (hp l (R8 hl) r hr).1
  have hlen:(t0++aO (A.take i) B).length+B.length<=20000:=by
   rw [OF,di,OW,Qz (by lia),Nat.add_assoc,<- RE]
   exact N3 (Nat.add_le_add_left (Nat.mul_le_mul_right _ (by lia)) _) hl
  generalize A[i]=l at hpi e0 |-
  generalize t0++aO (A.take i) B=ts at e0 hprev hlen |-
  refine ⟨λj ρ'=>∃ s5 s6 s7:Sl,ρ'=[.aK q (cR ((aN (ts++(B.take j).map (dY l))).map (gv (2 ^ W)))),.va (.lst (A.map (rD (2 ^ W)))),.va (.lst (B.map (rD (2 ^ W)))),.va (.int (pk (2 ^ W) l.1)),.va (.int l.2),s5,s6,s7],⟨s5,s6,s7,by simp⟩,?_,?_⟩
  ·rintro c2 hcX2 hcR2 hcM2 j d ρ' hd ⟨s5,s6,s7,rfl⟩
   simp only [NZ,N8] at hd
   obtain ⟨r,hrx,rfl⟩:=hd
   obtain ⟨hj,rfl⟩:=N4.mp hrx
   obtain ⟨hb,hm⟩:=hpi B[j] (Ow hj)
   have e1:ts++(B.take (j+1)).map (dY l)=(ts++(B.take j).map (dY l))++[dY l B[j]]:=by
    rw [OU hj,Ot,Oh]; rfl
   have hprev2:∀ t∈ts++(B.take j).map (dY l),Bd (2 ^ W) t.1:=λt ht=>by
    rcases Om.mp ht with z | z
    ·exact hprev t z
    ·obtain ⟨r,hr,rfl⟩:=Oi.mp z
     exact (hpi r (R8 hr)).1
   have hlen2:(ts++(B.take j).map (dY l)).length<20000:=by
    rw [OF,NX,OW]; lia
   have key:=Io (two_pos W) hprev2 (t:=dY l B[j]) hb
   rw [<- e1] at key
   generalize ts++(B.take j).map (dY l)=us at key hlen2 |-
   generalize B[j]=r at key hb hm |-
   show lP c2 _ (.tup [.int (pk (2 ^ W) r.1),.int r.2]) _ _
   have ek:pk (2 ^ W) (dY l r).1=pk (2 ^ W) l.1+pk (2 ^ W) r.1:=Ek _ _ _
   rw [ek] at key
   have hC:(cR ((aN us).map (gv (2 ^ W)))).length<sizeLine:=iD (by
    have:=gR us
    simp only [cR,NX]; lia)
   generalize (aN us).map (gv (2 ^ W))=C at key hC |-
   walk_at "ev"
   refine FG (by walk_at "at") (by walk_at "at") ?_
   walk_at "ev"
   refine ⟨_,.k rfl rfl,?_⟩
   rw [jb]
   cases hv:bC C (pk (2 ^ W) l.1+pk (2 ^ W) r.1) with
   | some m =>
    rw [hv] at key
    show lY _ _ true
    walk_at "ev"
    refine ⟨m,by rw [<- show bC (cR C) (.inl (pk (2 ^ W) l.1+pk (2 ^ W) r.1))=some (D.int m) by rw [jb,hv]; rfl]; exact .k rfl rfl,?_⟩
    walk_at "ev"
    refine ⟨_,.k rfl rfl hC,?_⟩
    walk_at "ev"
    refine ⟨.va (.int (pk (2 ^ W) r.1)),.va (.int r.2),.va (.int (pk (2 ^ W) l.1+pk (2 ^ W) r.1)),?_⟩
    show [Sl.aK q (putD (cR C) (.inl (pk (2 ^ W) l.1+pk (2 ^ W) r.1)) (.int (m+l.2 * r.2))),_,_,_,_,_,_,_]=_
    rw [qQ,show putD C (pk (2 ^ W) l.1+pk (2 ^ W) r.1) (m+l.2 * r.2)=_ from key]
   | none =>
    rw [hv] at key
    show lY _ _ false
    walk_at "ev"
    refine ⟨_,.k rfl rfl hC,?_⟩
    walk_at "ev"
    refine ⟨.va (.int (pk (2 ^ W) r.1)),.va (.int r.2),.va (.int (pk (2 ^ W) l.1+pk (2 ^ W) r.1)),?_⟩
    show [Sl.aK q (putD (cR C) (.inl (pk (2 ^ W) l.1+pk (2 ^ W) r.1)) (.int (l.2 * r.2))),_,_,_,_,_,_,_]=_
    rw [qQ,<- RG (l.2 * r.2),show putD C (pk (2 ^ W) l.1+pk (2 ^ W) r.1) (0+l.2 * r.2)=_ from key]
  ·rintro ρ' ⟨s5,s6,s7,rfl⟩
   rw [NX,OO,<- e0]
   walk_at "ev"
   exact ⟨_,_,_,_,_,rfl⟩
 ·rintro ρ' ⟨s3,s4,s5,s6,s7,rfl⟩
  rw [NX,OO]
  walk_at "ev"
  exact ⟨_,_,rfl,rfl⟩
end
noncomputable def JZ (C:List (Int×Int)):D:=.fdK ((cR C).map (·.1)) ((cR C).map (·.2))
theorem BQ (C):(cR C).map (·.1)=(C.map (·.1)).map Oe:=by unfold cR; rw [Oj,Oj]; rfl
noncomputable def ER:Fn:=λds r=>∃ (ts:List aM) (W:Nat),W<=10/\ts.length<=20000/\(∀ t∈ts,Bd (2 ^ W) t.1)/\ds=[JZ ((aN ts).map (gv (2 ^ W))),.int (W:Nat)]/\r=.ok (.ow ((bM ts).map aR))
theorem Lx (h:W<=10) (h1:ts.length<=20000) (h2:∀ t∈ts,Bd (2 ^ W) t.1):ER [JZ ((aN ts).map (gv (2 ^ W))),.int (W:Nat)] (.ok (.ow ((bM ts).map aR))):=⟨ts,W,h,h1,h2,rfl,rfl⟩
theorem tN (h:fR ltI true L):L.Pairwise λx y=>y<x:=by
 unfold fR at h
 exact h.imp λ{x y} q=>by simpa using q
section
local macro_rules | `(tactic| walk_at "evIx")=> `(tactic| with_reducible refine Iq ?_)
local macro_rules | `(tactic| walk_at "evCa")=> `(tactic| first | with_reducible refine bZ (F:=vX) (by assumption) (by decide) ?_)
theorem I0 (Fu:fC K "unpacked" "unpacked" (top 7) f fd) (T:Txt K mg) (h1:fO P w K mg base 2 "powers_of" vX):bz P w K mg base (dU P w) 3 f fd ["total","width"] (fM K ER):=by
 refine dD Fu q9 (by rintro ds r ⟨ts,W,_,_,_,rfl,_⟩; rfl) (by rintro ds r ⟨ts,W,_,_,_,_,rfl⟩; exact ⟨_,rfl⟩) λc hq ds sl hF=>?_
 obtain ⟨ts,W,hW,hl,hb,rfl,e⟩:=hF
 injection e with e
 subst e
 show aQ c _ [.va (JZ ((aN ts).map (gv (2 ^ W)))),.va (.int (W:Nat))] _ _
 conv in (ay _)=>whnf
 refine az (fD (dW hq (N':=["key","total","width"]) (ρ0:=λ_=>[.un,.va (JZ ((aN ts).map (gv (2 ^ W)))),.va (.int (W:Nat))]) (λt=>.un (.fr (by walk_at "at") (by walk_at "at") (by decide) rfl (.fr (by walk_at "at") (by walk_at "at") (by decide) rfl .nil))) (ck (e_x (sQ (Txt.sorted T) ?_)))))
 walk_at "ev"
 have hk:=eY ts
 have hg:=oS hb
 have nd:(((aN ts).map (gv (2 ^ W))).map (·.1)).Nodup:=by
  rw [Oj]
  unfold RJ at hk |-
  rw [PZ] at hk |-
  exact Th.imp_of_mem (λ{x y} hx hy q z=>q (sU (two_pos W) (hg x hx).1 (hg y hy).1 (hg x hx).2 (hg y hy).2 z)) hk
 refine ⟨((aN ts).map (gv (2 ^ W))).map (·.1),_,by rw [<- BQ]; rfl,nd,λL' hp hs=>?_⟩
 have eL:=AX (two_pos W) hb hp (tN hs)
 subst eL
 have hle:=gR ts
 have hpl:=(bF (aN ts)).length_eq
 refine cJ (zR rfl ⟨qW (by simp only [NX]; lia),(fH (aN ts)).map EG,by simp,?_,?_⟩)
 ·intro c' hc t i d o hd ho
  simp only [NZ,N8] at hd ho
  obtain ⟨n,⟨x,hx,rfl⟩,rfl⟩:=hd
  obtain ⟨x',hx',rfl⟩:=ho
  rw [hx] at hx'; cases hx'
  have hm:x∈aN ts:=(bF (aN ts)).subset (O3 hx)
  have hv:bC (cR ((aN ts).map (gv (2 ^ W)))) (.inl (pk (2 ^ W) x.1))=some (.int x.2):=by
   rw [jb,sV (two_pos W) hg (hg x hm).1 (hg x hm).2,oU hk hm]; rfl
  refine cB (by walk_at "at") (jZ (by walk_at "sset") ⟨.un (.same (.same .nil)),?_⟩)
  simp only [jQ]
  have h0:=(Lk (two_pos W) (hg x hm).1).1
  walk_at "ev"
  refine ⟨_,_,_,rfl,rfl,hv,?_⟩
  walk_at "ev"
  ·unfold EG; rw [if_neg λh=>h (by assumption)]
  refine aJ (IW hW h0) ?_
  rw [Ik (two_pos W) (hg x hm).1,(hg x hm).2]
  walk_at "ev"
  refine ⟨_,_,_,rfl,rfl,hv,?_⟩
  walk_at "ev"
  unfold EG
  rw [if_pos (by assumption)]
 ·show Sl.ow _=Sl.ow _
  rw [kj,AG (keys_nodup hk)]
  rfl
end
structure Nu (A B:List aM):Prop where
 la:A.length<=20000
 lb:B.length<=20000
 lp:A.length * B.length<=20000
 pa:∀ t∈A,t.1.length<=6/\∀ x∈t.1,0<=x/\x<=500
 pb:∀ t∈B,t.1.length<=6/\∀ x∈t.1,0<=x/\x<=500
 mu:∀ l∈A,∀ r∈B,EV.MulOk l.2 r.2
theorem vZ:∀ {L:List aM} (a:Int),a<=m->(∀ t∈L,b9 t.1 k<=m)->L.foldl (λa t=>if b9 t.1 k>a then b9 t.1 k else a) a<=m
 | [],_,h,_=>h
 | t::L,a,h,q=>by
  rw [Pj]
  have:=q t N2
  exact vZ _ (by split <;> lia) λu hu=>q u (N6 _ hu)
theorem BR (h0:0<=m) (h:∀ t∈L,∀ x∈t.1,x<=m):CA (fh L)<=m:=by
 refine tM h0 λn hn=>?_
 unfold fh at hn
 obtain ⟨k,_,rfl⟩:=Oi.mp hn
 refine vZ 0 h0 λt ht=>?_
 by_cases z:k<t.1.length
 ·rw [dX z]; exact h t ht _ (Ow _)
 ·rw [dh (by lia)]; exact h0
theorem BS (ht:t∈L) (hl:t.1.length<=6) (hx:x∈t.1):x<=CA (fh L):=by
 obtain ⟨k,hk,rfl⟩:=List.getElem_of_mem hx
 refine OA ?_ (BO (show gk L k∈fh L from Oi.mpr ⟨k,by simp; lia,rfl⟩))
 unfold gk
 rw [<- dX hk]
 suffices H:∀ a:Int,b9 t.1 k<=L.foldl (λa t=>if b9 t.1 k>a then b9 t.1 k else a) a from H 0
 induction L with
 | nil=>cases ht
 | cons u L ih =>
  intro a
  rw [Pj]
  rcases N9.mp ht with rfl | ht
  ·refine OA ?_ (vW L k _)
   split <;> lia
  ·exact ih ht _
theorem ES (h:0<=x):x<2 ^ Pa x:=by
 unfold Pa
 by_cases z:x=0
 ·subst z; decide
 ·have e:(x == 0)=false:=by simpa using z
  rw [e,if_neg N5,gT]
  have:=Nat.lt_log2_self (n:=x.natAbs)
  lia
theorem bits_le (h:x.natAbs<1024):Pa x<=10:=by
 unfold Pa
 by_cases z:x=0
 ·subst z; decide
 ·have e:(x == 0)=false:=by simpa using z
  rw [e,if_neg N5]
  have:=(Nat.log2_lt (n:=x.natAbs) (k:=10) (by lia)).mpr h
  lia
end
section
variable {P:Program} {w:World} {K:NR} {mg:Str->Option Value} {base:Heap}
noncomputable abbrev Part:=Int×List (List aM)
noncomputable def aq (A:List aM):D:=.lst (A.map aR)
noncomputable def fJ (p:Part):D:=.tup (.int p.1::p.2.map aq)
noncomputable def cM (n:Int) (As:List (List aM)):List aM:=As.foldl aO (cT n)
noncomputable def gF (ps:List Part):List aM:=ps.flatMap λp=>cM p.1 p.2
noncomputable def bB (As:List (List aM)):Nat:=(As.map λA=>max A.length 1).foldr (· * ·) 1
noncomputable def lR (A:List aM):Int:=CA (fh A)
noncomputable def tO (As:List (List aM)):MP:=(As.map mp).foldr (· * ·) 1
theorem BU (As):∀ L:List aM,mp (As.foldl aO L)=mp L * tO As:=by
 induction As with
 | nil=>intro L; show mp L=mp L * 1; grind
 | cons A As ih =>
  intro L
  rw [Pj,ih,tu]
  show _=mp L * (mp A * tO As)
  grind
theorem fV (n) (As):mp (cM n As)=(n:MP) * tO As:=by unfold cM; rw [BU,oY]
theorem BV (h:As.Perm Bs):tO As=tO Bs:=by
 induction h with
 | nil=>rfl
 | cons x _ ih=>exact congrArg (mp x * ·) ih
 | swap x y l=>show mp y * (mp x * tO l)=mp x * (mp y * tO l); grind
 | trans _ _ a b=>rw [a,b]
theorem BW (As) (A):tO (As++[A])=tO As * mp A:=by
 induction As with
 | nil=>show mp A * 1=1 * mp A; grind
 | cons B As ih=>show mp B * tO (As++[A])=mp B * tO As * mp A; rw [ih]; grind
theorem yh (h:As.Perm Bs):bB As=bB Bs:=by
 unfold bB
 induction h with
 | nil=>rfl
 | cons x _ ih=>simp only [NW,Ru] at ih |-; rw [ih]
 | swap x y l=>simp only [NW,Ru]; rw [Nat.mul_left_comm]
 | trans _ _ a b=>rw [a,b]
theorem yi (As) (A):bB (As++[A])=bB As * max A.length 1:=by
 unfold bB
 induction As with
 | nil=>simp
 | cons B As ih=>simp only [Ph,NW,Ru] at ih |-; rw [ih,Nat.mul_assoc]
theorem BX (As):1<=bB As:=by
 unfold bB
 induction As with
 | nil=>exact NT _
 | cons B As ih=>simp only [NW,Ru]; exact QB (m₁:=1) (n₁:=1) (by lia) ih
theorem gU (As) (i):bB (As.take i)<=bB As:=by
 induction As generalizing i with
 | nil=>simp
 | cons B As ih =>
  cases i with
  | zero=>exact BX _
  | succ i =>
   have:=ih i
   unfold bB at *
   simp only [List.take_succ_cons,NW,Ru]
   exact Nat.mul_le_mul_left _ this
def Ex (m:Int) (L:List aM):Prop:=∀ t∈L,t.1.length<=6/\∀ x∈t.1,0<=x/\x<=m
def Bn (m:Nat) (L:List aM):Prop:=∀ t∈L,t.2.natAbs<2 ^ m
theorem Ex.bd (h:Ex m L) (hm:m<2 ^ W):∀ t∈L,Bd (2 ^ W) t.1:=λt ht=>⟨(h t ht).1,λx hx=>⟨((h t ht).2 x hx).1,Sj ((h t ht).2 x hx).2 hm⟩⟩
theorem BY (h0:0<=m) (h:∀ x∈p,0<=x/\x<=m) (k):0<=b9 p k/\b9 p k<=m:=by
 by_cases z:k<p.length
 ·rw [dX z]; exact h _ (Ow _)
 ·rw [dh (by lia)]; lia
theorem ET (h0:0<=m) (g0:0<=n) (hp:p.length<=6/\∀ x∈p,0<=x/\x<=m) (hq:q.length<=6/\∀ x∈q,0<=x/\x<=n):(cH p q).length<=6/\∀ x∈cH p q,0<=x/\x<=m+n:=by
 refine ⟨by rw [jc]; lia,λx hx=>?_⟩
 unfold cH at hx
 obtain ⟨k,_,rfl⟩:=Oi.mp hx
 have:=BY h0 hp.2 k
 have:=BY g0 hq.2 k
 lia
theorem Ex.prod (h0:0<=m) (g0:0<=n) (h:Ex m A) (g:Ex n B):Ex (m+n) (aO A B):=λt ht=>by
 obtain ⟨l,hl,r,hr,rfl⟩:=gw ht
 exact ET h0 g0 (h l hl) (g r hr)
theorem Ex.sum (h:Ex m L):Ex m (aN L):=by
 unfold aN
 suffices H:∀ (ts A:List aM),Ex m A->Ex m ts->Ex m (ts.foldl fS A) from H L [] (λt ht=>by cases ht) h
 intro ts
 induction ts with
 | nil=>exact λA hA _=>hA
 | cons u ts ih =>
  refine λA hA hts=>ih _ (λt ht=>?_) λt ht=>hts t (N6 _ ht)
  rcases qU ht with rfl | q
  ·have:=hts u N2
   exact ⟨N3 (gr _) this.1,λx hx=>this.2 x (qP hx)⟩
  ·exact hA t q
theorem Ex.mono (h:Ex m L) (hn:m<=n):Ex n L:=λt ht=>⟨(h t ht).1,λx hx=>⟨((h t ht).2 x hx).1,OA ((h t ht).2 x hx).2 hn⟩⟩
theorem Ex.app (h:Ex m A) (g:Ex m B):Ex m (A++B):=λt ht=>(Om.mp ht).elim (h t) (g t)
theorem Bn.mono (h:Bn m L) (hn:m<=n):Bn n L:=λt ht=>OJ (h t ht) (Ri (by decide) hn)
theorem Bn.prod (h:Bn m A) (g:Bn n B):Bn (m+n) (aO A B):=λt ht=>by
 obtain ⟨l,hl,r,hr,rfl⟩:=gw ht
 show (l.2 * r.2).natAbs<_
 rw [Int.natAbs_mul,Nat.pow_add]
 exact Nat.mul_lt_mul'' (h l hl) (g r hr)
theorem Bn.sum (h:Bn m L) (hl:L.length<2 ^ 16):Bn (m+16) (aN L):=λt ht=>by
 have:=Iu (m:=2 ^ m) (λt ht=>Qh (h t ht)) t ht
 refine PM this ?_
 rw [Nat.pow_add,QD]
 exact Nat.mul_lt_mul_of_pos_left hl (Nat.two_pow_pos m)
theorem v5 (h:a.natAbs<2 ^ m):Pa a<=m+1:=by
 unfold Pa
 by_cases z:a=0
 ·subst z; simp
 ·have e:(a == 0)=false:=by simpa using z
  rw [e,if_neg N5]
  have:=(Nat.log2_lt (n:=a.natAbs) (k:=m) (by lia)).mpr h
  lia
theorem o9 (h:a.natAbs<2 ^ m) (g:b.natAbs<2 ^ n) (hm:m+n<=1000000):EV.MulOk a b:=by
 have h1:=v5 h
 have h2:=v5 g
 unfold EV.MulOk IntMulOk Builtin.Int.intTooBig bitsLine
 have e:decide (((Pa a+Pa b:Nat):Int)>((2 ^ 27:Nat):Int))=false:=by
  apply decide_eq_false
  rw [show (2:Nat) ^ 27=134217728 by decide]
  lia
 simp only [Rq]
 rintro ⟨_,z⟩
 have z':=of_decide_eq_true z
 rw [show (2:Nat) ^ 27=134217728 by decide] at z'
 lia
structure cG (A:List aM):Prop where
 l:A.length<=20000
 e:Ex 120 A
 b:Bn 2000 A
structure dZ (p:Part):Prop where
 n:p.1.natAbs<2 ^ 2000
 m:p.2.length<=8
 f:∀ A∈p.2,cG A
structure aW (ps:List Part):Prop where
 p:∀ p∈ps,dZ p
 l:ps.length<=1000
 s:(ps.map λp=>bB p.2).sum<=20000
theorem BZ (A):0<=lR A:=F8 _
theorem cG.mx (h:cG A):lR A<=120:=BR (by decide) λt ht x hx=>((h.e t ht).2 x hx).2
theorem cG.ex (h:cG A):Ex (lR A) A:=λt ht=>⟨(h.e t ht).1,λx hx=>⟨((h.e t ht).2 x hx).1,BS ht (h.e t ht).1 hx⟩⟩
noncomputable def pD (p:Part):Int:=(p.2.map lR).sum
theorem v7 (As:List (List aM)):0<=(As.map lR).sum:=by
 induction As with
 | nil=>exact Pd _
 | cons A As ih=>rw [NW,P4]; have:=BZ A; lia
theorem dZ.sz (h:dZ p):pD p<=960:=by
 have:∀ As:List (List aM),(∀ A∈As,cG A)->(As.map lR).sum<=120 * As.length:=λAs=>by
  induction As with
  | nil=>exact λ_=>by simp
  | cons A As ih =>
   intro hA
   have:=ih λB hB=>hA B (N6 _ hB)
   have:=(hA A N2).mx
   rw [NW,P4,Oz]; lia
 have h1:=this p.2 h.f
 have h2:=h.m
 unfold pD
 lia
noncomputable def gG (ps:List Part):Int:=ps.foldl (λm p=>if pD p>m then pD p else m) 0
theorem nJ (ps:List Part):∀ m:Int,m<=ps.foldl (λm p=>if pD p>m then pD p else m) m:=by
 induction ps with
 | nil=>exact λm=>Pd _
 | cons p ps ih=>intro m; rw [Pj]; refine OA ?_ (ih _); split <;> lia
theorem EU (h:p∈ps):pD p<=gG ps:=by
 unfold gG
 suffices H:∀ m:Int,pD p<=ps.foldl (λm p=>if pD p>m then pD p else m) m from H 0
 induction ps with
 | nil=>cases h
 | cons q ps ih =>
  intro m
  rw [Pj]
  rcases N9.mp h with rfl | h
  ·refine OA ?_ (nJ ps _)
   split <;> lia
  ·exact ih h _
theorem EW (h:∀ p∈ps,dZ p):gG ps<=960:=by
 unfold gG
 suffices H:∀ m:Int,m<=960->ps.foldl (λm p=>if pD p>m then pD p else m) m<=960 from H 0 (by decide)
 induction ps with
 | nil=>exact λm hm=>hm
 | cons q ps ih =>
  intro m hm
  rw [Pj]
  refine ih (λp hp=>h p (N6 _ hp)) _ ?_
  have:=(h q N2).sz
  split <;> lia
noncomputable def B0 (ps:List Part):Nat:=Pa (gG ps)
theorem EX (h:∀ p∈ps,dZ p):B0 ps<=10/\∀ p∈ps,pD p<2 ^ B0 ps:=by
 have h0:0<=gG ps:=nJ ps 0
 have h1:=EW h
 exact ⟨bits_le (by lia),λp hp=>Sj (EU hp) (ES h0)⟩
theorem jf (x:α) (xs):EV.cutD (x::xs) (some 1) none=xs:=by
 unfold EV.cutD HT.cz; simp
noncomputable def EY:Fn:=λds r=>∃ ps:List Part,(∀ p∈ps,dZ p)/\ds=[.lst (ps.map fJ)]/\r=.ok (.va (.int (B0 ps:Nat)))
theorem Ly (h:∀ p∈ps,dZ p):EY [.lst (ps.map fJ)] (.ok (.va (.int (B0 ps:Nat)))):=⟨ps,h,rfl,rfl⟩
section
local macro_rules | `(tactic| walk_at "evMt")=> `(tactic| with_reducible refine Ib ?_)
local macro_rules | `(tactic| walk_at "evCa")=> `(tactic| first
 | ((with_reducible show aF _ (OR (Oc "max" _) [_] _ _) _ _); with_reducible refine Ic (Txt.max (by assumption)) ?_)
 | ((with_reducible show aF _ (OR (Oc "max" _) [_,_] _ _) _ _); with_reducible refine AJ (Txt.max (by assumption)) ?_)
 | ((with_reducible show aF _ (OR (Oc "sum" _) _ _ _) _ _); with_reducible refine Ie (Txt.sum (by assumption)) ?_)
 | with_reducible refine bZ (F:=o8) (by assumption) (by decide) ?_)
theorem Ja (Fu:fC K "width_of" "width_of" (top 10) f fd) (T:Txt K mg) (h1:fO P w K mg base 1 "greatest_powers" o8):bz P w K mg base (dU P w) 2 f fd ["parts"] (fM K EY):=by
 refine dD Fu rg (by rintro ds r ⟨ps,_,rfl,_⟩; rfl) (by rintro ds r ⟨ps,_,_,rfl⟩; exact ⟨_,rfl⟩) λc hq ds sl hF=>?_
 obtain ⟨ps,hp,rfl,e⟩:=hF
 injection e with e
 subst e
 show aQ c _ [.va (.lst (ps.map fJ)),.un,.un] _ _
 conv in (ay _)=>whnf
 walk_at "ev"
 with_reducible refine cO hq (ck ?_)
 walk_at "ev"
 refine ⟨λi ρ'=>∃ s2:Sl,ρ'=[.va (.lst (ps.map fJ)),.va (.int (gG (ps.take i))),s2],⟨_,rfl⟩,?_,?_⟩
 ·rintro c' lT wo wu i d ρ' hd ⟨s2,rfl⟩
  simp only [NZ,N8] at hd
  obtain ⟨p,hpx,rfl⟩:=hd
  obtain ⟨hi,rfl⟩:=N4.mp hpx
  have hpo:=hp ps[i] (Ow hi)
  have eg:gG (ps.take (i+1))=if pD ps[i]>gG (ps.take i) then pD ps[i] else gG (ps.take i):=by
   unfold gG; rw [OU hi,Ub]; rfl
  generalize ps[i]=p at hpo eg |-
  show lP c' _ (.tup (.int p.1::p.2.map aq)) _ _
  walk_at "ev"
  refine e_x (dW (show c'.X.xe=fZ by rw [lT]; exact hq) (N':=["some"]) (ρ0:=λ_=>[.un]) (λt=>.un .nil) (ck ?_))
  walk_at "ev"
  ·rw [jf,NX]; exact qW (by have:=hpo.m; lia)
  rw [jf]
  refine ⟨p.2.map λA=>some (.int (lR A)),by simp,?_,cJ ?_⟩
  ·intro c2 hc2 t j d o hd ho
   simp only [NZ,N8] at hd ho
   obtain ⟨A,hA,rfl⟩:=hd
   obtain ⟨A',hA',rfl⟩:=ho
   rw [hA] at hA'; cases hA'
   have hf:=hpo.f A (O3 hA)
   refine cB (by walk_at "at") (jZ (by walk_at "sset") ⟨.un .nil,?_⟩)
   simp only [jQ]
   refine ⟨λ_=>?_,λh=>by cases h⟩
   show aF c2 _ [.va (.lst (A.map aR))] _
   walk_at "ev"
   refine aJ (EL λt ht=>(hf.e t ht).1) (cJ ⟨fh A,by simp [fh],rfl,λm ⟨m1,m2⟩=>?_⟩)
   rw [BP m1 m2]; rfl
  ·rw [cL]
   refine ⟨p.2.map lR,by rw [Oj]; rfl,?_⟩
   walk_at "ev"
   refine ⟨.va (fJ p),?_⟩
   rw [eg]; rfl
 ·rintro ρ' ⟨s2,rfl⟩
  rw [NX,OO]
  walk_at "ev"
  rfl
end
end
section
variable {P:Program} {w:World} {K:NR} {mg:Str->Option Value} {base:Heap}
theorem EZ (x:α) (xs):jI (x::xs) 0=some x:=by rw [d7 (by decide) (by simp)]; rfl
theorem Jb (b):pk b []=0:=(i9 (g:=λ_=>0) λi _=>dh (OB _)).trans (ja _)
theorem F9 (b n):(cT n).map (rD b)=[.tup [.int 0,.int n]]:=by show [D.tup [.int (pk b []),.int n]]=_; rw [Jb]
theorem B3 (xs:List α):EV.cutD xs none (some (-1))=xs.dropLast:=by
 unfold EV.cutD HT.cz
 rw [List.dropLast_eq_take]
 simp only [SN]
 congr 1
 split <;> lia
theorem E0 (xs) (x:α):jI (xs++[x]) (-1)=some x:=by
 rw [u5 (by decide) (by simp; lia),show (-1+((xs++[x]).length:Int)).toNat=xs.length by simp; lia]
 simp
noncomputable def Ma (b:Int) (A:List aM):D:=.lst (A.map (rD b))
theorem B4 {α β:Type} {f:α->β} {L:List α} {M:List β} (h:M.Perm (L.map f)):∃ L':List α,L'.Perm L/\M=L'.map f:=by
 have p:∀ L:List α,Paired (λa b=>b=f a) L (L.map f):=λL=>by
  induction L with
  | nil=>exact .nil
  | cons x L ih=>exact .cons rfl ih
 obtain ⟨L',h1,h2⟩:=SR.gp h (p L)
 refine ⟨L',h1,?_⟩
 clear h1 h p
 induction h2 with
 | nil=>rfl
 | cons r _ ih=>rw [r,ih]; rfl
theorem yj (C):(JZ C).pairs=some (C.map λc=>D.tup [.int c.1,.int c.2]):=by
 show some _=some _
 congr 1
 unfold cR
 rw [Oj,Oj,List.zipWith_map,List.zipWith_self]
 rfl
theorem yk (b) (L:List aM):(JZ (L.map (gv b))).pairs=some (L.map (rD b)):=by
 rw [yj,Oj]; rfl
theorem Jc (b) (L:List aM):D.lQ (L.map (rD b)):=cV λx _=>sE (by unfold D.lQ; exact ⟨kO,by unfold D.lQ; exact ⟨kO,by unfold D.lQ; trivial⟩⟩)
structure Way (n:Int) (As:List (List aM)) (L:List aM):Prop where
 m:mp L=(n:MP) * tO As
 l:L.length<=bB As
 e:Ex (As.map lR).sum L
 b:Bn (2000+2016 * As.length) L
theorem v8 {n:Int} (h:n.natAbs<2 ^ 2000):Way n [] (cT n) where
 m:=by rw [oY]; show _=_ * (1:MP); grind
 l:=NT _
 e:=λt ht=>by
  have:t=([],n):=by simpa [cT] using ht
  subst this
  exact ⟨OB _,λx hx=>by cases hx⟩
 b:=λt ht=>by
  have:t=([],n):=by simpa [cT] using ht
  subst this
  exact h
theorem tP:cG (cT 1) where
 l:=by show (1:Nat)<=_; lia
 e:=λt ht=>by
  have:t=([],1):=by simpa [cT] using ht
  subst this
  exact ⟨OB _,λx hx=>by cases hx⟩
 b:=λt ht=>by
  have:t=([],1):=by simpa [cT] using ht
  subst this
  exact Nat.one_lt_two_pow (by decide)
theorem yl (As) (A):((As++[A]).map lR).sum=(As.map lR).sum+lR A:=by
 rw [Ot,QA]; simp
theorem gH (h:Way n As L) (f:cG A):mp (aO L A)=(n:MP) * tO (As++[A])/\(aO L A).length<=bB (As++[A])/\Ex ((As++[A]).map lR).sum (aO L A)/\Bn (2000+2016 * As.length+2000) (aO L A):=by
 refine ⟨?_,?_,?_,h.b.prod f.b⟩
 ·rw [tu,h.m,BW]; grind
 ·rw [di,yi]; exact QB h.l (by lia)
 ·rw [yl]; exact Ex.prod (v7 _) (BZ _) h.e f.ex
theorem B5 (h:Way n As L) (f:cG A) (hl:bB (As++[A])<=20000):Way n (As++[A]) (aN (aO L A)):=by
 obtain ⟨h1,h2,h3,h4⟩:=gH h f
 refine ⟨by rw [IF,h1],N3 (gR _) h2,h3.sum,(h4.sum (PM (N3 h2 hl) (by decide))).mono ?_⟩
 rw [OF,R5]; lia
theorem B6 {As Bs:List (List aM)} (h:As.Perm Bs):(As.map lR).sum=(Bs.map lR).sum:=by
 induction h with
 | nil=>rfl
 | cons x _ ih=>rw [NW,P4,NW,P4,ih]
 | swap x y l=>simp only [NW,P4]; lia
 | trans _ _ a b=>rw [a,b]
theorem B7 (As:List (List aM)) (i):((As.take i).map lR).sum<=(As.map lR).sum:=by
 have e:(As.map lR).sum=((As.take i).map lR).sum+((As.drop i).map lR).sum:=by rw [<- QA,<- Ot,Px]
 have:=v7 (As.drop i)
 lia
noncomputable def tQ:L7:=λkvs ds Z=>∃ (ts:List aM) (p:Part) (W:Nat),W<=10/\dZ p/\pD p<2 ^ W/\ts.length+bB p.2<=20000/\(∀ t∈ts,Bd (2 ^ W) t.1)/\kvs=cR ((aN ts).map (gv (2 ^ W)))/\ds=[fJ p,.int (W:Nat)] /\
 Z=λkvs'=>∃ X,mp X=mp (cM p.1 p.2)/\X.length<=bB p.2/\(∀ t∈X,Bd (2 ^ W) t.1)/\kvs'=cR ((aN (ts++X)).map (gv (2 ^ W)))
section
local macro_rules | `(tactic| walk_at "evX")=> `(tactic| first | ((with_reducible show cS _ (Expr.Dict _ _ _) _ _); with_reducible refine uO ?_))
local macro_rules | `(tactic| walk_at "evXC")=> `(tactic| first
 | ((with_reducible show cS _ (OR (Oc "sorted" _) _ _ _) _ _); with_reducible refine xR (Txt.sorted (by assumption)) (Txt.len (by assumption)) ?_)
 | ((with_reducible show cS _ (OR (Oc "list" _) [OR _ _ _ _] _ _) _ _); refine sG 6 (by walk_at "at") rfl (by walk_at "sset") (qX (Txt.list (by assumption)) ?_)))
local macro_rules | `(tactic| walk_at "evXp")=> `(tactic| with_reducible refine vD (F:=IY) (by assumption) (by decide) (by walk_at "at") (by walk_at "at") (by walk_at "own") ?_)
theorem B8 (Fu:fC K "add_part" "add_part" (top 11) f fd) (T:Txt K mg) (h1:fO P w K mg base 2 "packed" vY) (h2:D9 P w K mg base 1 "add_products" IY):bz P w K mg base (dU P w) 3 f fd ["whole","part","width"] (Ia K tQ):=by
 refine Le Fu ri (by rintro kvs ds Z ⟨ts,p,W,_,_,_,_,_,_,rfl,_⟩; rfl) λc hq q kvs ds Z hF=>?_
 obtain ⟨ts,p,W,hW,hp,hsz,hl,hb,rfl,rfl,rfl⟩:=hF
 show aQ c _ [.aK q (cR ((aN ts).map (gv (2 ^ W)))),.va (.tup (.int p.1::p.2.map aq)),.va (.int (W:Nat)),.un,.un,.un,.un] _ _
 conv in (ay _)=>whnf
 walk_at "ev"
 refine e_x (dW hq (N':=["some","width"]) (ρ0:=λ_=>[.un,.va (.int (W:Nat))]) (λt=>.un (.fr (by walk_at "at") (by walk_at "at") (by decide) rfl .nil)) (ck ?_))
 walk_at "ev"
 ·rw [jf,NX]; exact qW (by have:=hp.m; lia)
 rw [jf]
 refine ⟨p.2.map λA=>some (Ma (2 ^ W) A),by simp,?_,cJ ?_⟩
 ·intro c2 hc2 t j d o hd ho
  simp only [NZ,N8] at hd ho
  obtain ⟨A,hA,rfl⟩:=hd
  obtain ⟨A',hA',rfl⟩:=ho
  rw [hA] at hA'; cases hA'
  have hm:=O3 hA
  have hf:=hp.f A hm
  refine cB (by walk_at "at") (jZ (by walk_at "sset") ⟨.un (.same .nil),?_⟩)
  simp only [jQ]
  refine ⟨λ_=>?_,λh=>by cases h⟩
  show aF c2 _ [.va (.lst (A.map aR)),_] _
  refine bZ (F:=vY) h1 (by decide) ?_
  walk_at "ev"
  have hx:lR A<2 ^ W:=by
   refine Sj ?_ hsz
   obtain ⟨l,r,e⟩:=List.append_of_mem hm
   unfold pD
   rw [e,Ot,NW,QA,P4]
   have:=v7 l
   have:=v7 r
   lia
  exact aJ (IX hW hf.l (hf.ex.bd hx)) (cJ rfl)
 rw [cL]
 refine ⟨_,rfl,λx hx=>by obtain ⟨A,_,rfl⟩:=Oi.mp hx; exact ⟨_,rfl⟩,λds' hp'=>?_⟩
 obtain ⟨As,hpm,rfl⟩:=B4 hp'
 have yw:∀ A∈As,cG A:=λA hA=>hp.f A (hpm.mem_iff.mp hA)
 have hpl:=yh hpm
 have hps:=B6 hpm
 have hlen:=hpm.length_eq
 refine jZ (by walk_at "sset") ?_
 with_reducible refine cW 3 (by walk_at "at") rfl (by walk_at "sset") ?_
 walk_at "ev"
 refine iQ (EZ _ _) ?_
 walk_at "ev"
 with_reducible refine K4 4 (by walk_at "at") rfl (by walk_at "sset") ?_
 rw [<- F9 (2 ^ W) p.1]
 with_reducible refine cO hq (ck ?_)
 walk_at "ev"
 rw [B3]
 have hcap:∀ i,bB (As.take i)<=20000:=λi=>N3 (gU As i) (by lia)
 have hm8:As.length<=8:=by rw [hlen]; exact hp.m
 have Ju:∀ (i:Nat) (L A:List aM),As[i]?=some A->Way p.1 (As.take i) L->cG A/\As.take (i+1)=As.take i++[A]/\mp (aO L A)=(p.1:MP) * tO (As.take (i+1))/\(aO L A).length<=bB (As.take (i+1))/\(∀ l∈L,∀ r∈A,Bd (2 ^ W) (cH l.1 r.1)/\EV.MulOk l.2 r.2)/\L.length<=20000:=λi L A hA hw=>by
  obtain ⟨hi,rfl⟩:=N4.mp hA
  have hf:=yw As[i] (Ow hi)
  have et:As.take (i+1)=As.take i++[As[i]]:=OU hi
  obtain ⟨q1,q2,q3,q4⟩:=gH hw hf
  rw [<- et] at q1 q2 q3
  refine ⟨hf,et,q1,q2,λl hl r hr=>⟨?_,?_⟩,N3 hw.l (hcap i)⟩
  ·have hm:dY l r∈aO L As[i]:=Sv.mpr ⟨l,hl,Oi.mpr ⟨r,hr,rfl⟩⟩
   have hx:=B7 As (i+1)
   exact q3.bd (by unfold pD at hsz; lia) _ hm
  ·refine o9 (hw.b l hl) (hf.b r hr) ?_
   rw [OW]; lia
 refine ⟨λi ρ'=>∃ (L:List aM) (s5 s6:Sl),Way p.1 (As.take i) L/\ρ'=[.aK q (cR ((aN ts).map (gv (2 ^ W)))),.va (.tup (.int p.1::p.2.map aq)),.va (.int (W:Nat)),.va (.lst (As.map (Ma (2 ^ W)))),.va (.lst (L.map (rD (2 ^ W)))),s5,s6],⟨_,_,_,v8 hp.n,rfl⟩,?_,?_⟩
 ·rintro c' lT wo wu i d ρ' hd ⟨L,s5,s6,hw,rfl⟩
  rw [<- List.map_dropLast] at hd
  simp only [NZ,N8] at hd
  obtain ⟨A,hA,rfl⟩:=hd
  rw [List.getElem?_dropLast] at hA
  replace hA:As[i]?=some A:=by
   split at hA
   ·exact hA
   ·cases hA
  obtain ⟨hf,et,q1,q2,q3,q4⟩:=Ju i L A hA hw
  have q5:=hcap (i+1)
  have q6:=B5 hw hf (by rw [<- et]; exact q5)
  rw [<- et] at q6
  show lP c' _ (.lst (A.map (rD (2 ^ W)))) _ _
  walk_at "ev"
  refine ⟨_,⟨[],L,A,W,hW,by rw [di] at q2; show 0+_<=_; lia,q4,hf.l,(by intro t ht; cases ht),q3,rfl,rfl,rfl⟩,?_⟩
  rintro kvs' rfl
  walk_at "ev"
  refine ⟨_,yk _ _,Jc _ _,?_⟩
  repeat ((fail_if_success (with_reducible show aQ _ [] _ _ _)); walk_at "ev1")
  with_reducible refine cW 4 (by walk_at "at") rfl (by walk_at "sset") ?_
  walk_at "ev"
  exact ⟨_,_,_,q6,rfl⟩
 ·rintro ρ' ⟨L,s5,s6,hw,rfl⟩
  rw [List.length_dropLast,NX] at hw
  walk_at "ev"
  ·have hne:As≠[]:=by rintro rfl; simp at *
   obtain ⟨i0,A,e0⟩:∃ i0 A,As=i0++[A]:=⟨As.dropLast,As.getLast hne,(List.dropLast_concat_getLast hne).symm⟩
   have ei:As.length - 1=i0.length:=by rw [e0]; simp
   have hA:As[As.length - 1]?=some A:=by rw [ei,e0]; simp
   have etl:As.take (As.length - 1+1)=As:=P9 (by lia)
   obtain ⟨hf,et,q1,q2,q3,q4⟩:=Ju _ L A hA hw
   rw [etl] at q1 q2
   refine gi (show jI (As.map (Ma (2 ^ W))) (-1)=some (Ma (2 ^ W) A) by rw [e0,Ot]; exact E0 _ _) ?_
   walk_at "ev"
   refine ⟨_,⟨ts,L,A,W,hW,by rw [di] at q2; lia,q4,hf.l,hb,q3,rfl,rfl,rfl⟩,?_⟩
   rintro kvs' rfl
   walk_at "ev"
   refine ⟨_,_,⟨aO L A,by rw [q1,fV,BV hpm],by rw [<- hpl]; exact q2,λt ht=>?_,rfl⟩,rfl⟩
   obtain ⟨l,hl,r,hr,rfl⟩:=gw ht
   exact (q3 l hl r hr).1
  ·have e0:As=[]:=by
    cases As with
    | nil=>rfl
    | cons A As=>simp at *
   have hw0:Way p.1 [] L:=by rw [e0] at hw; exact hw
   have p0:p.2=[]:=List.length_eq_zero_iff.mp (by rw [<- hlen,e0]; rfl)
   obtain ⟨q1,q2,q3,q4⟩:=gH hw0 tP
   have hL:L.length<=1:=hw0.l
   have q5:(aO L (cT 1)).length<=1:=q2
   have h0W:(0:Int)<2 ^ W:=two_pos W
   have hx:(([]++[cT 1]:List (List aM)).map lR).sum<2 ^ W:=h0W
   have hp1:bB p.2=1:=by rw [p0]; rfl
   rw [<- F9 (2 ^ W) 1]
   refine ⟨_,⟨ts,L,cT 1,W,hW,by rw [di] at q5; lia,by lia,tP.l,hb,λl hl r hr=>⟨?_,?_⟩,rfl,rfl,rfl⟩,?_⟩
   ·exact q3.bd hx _ (Sv.mpr ⟨l,hl,Oi.mpr ⟨r,hr,rfl⟩⟩)
   ·exact o9 (hw0.b l hl) (tP.b r hr) (by show 2000+2016 * 0+2000<=_; lia)
   rintro kvs' rfl
   walk_at "ev"
   refine ⟨_,_,⟨aO L (cT 1),?_,by rw [hp1]; exact q5,q3.bd hx,rfl⟩,rfl⟩
   rw [q1,fV,p0]
   show _ * (mp (cT 1) * 1)=_ * (1:MP)
   rw [oY]
   show _ * ((1:MP) * 1)=_ * (1:MP)
   grind
end
end
section
variable {K:NR}
theorem rE (ps) (p:Part):mp (gF (ps++[p]))=mp (gF ps)+mp (cM p.1 p.2):=by
 unfold gF
 rw [List.flatMap_append,oX]
 congr 1
 rw [Ro,Sx,OP]
theorem rF (l:List Nat) (i):(l.take i).sum<=l.sum:=by
 rw [<- Px i l,QA,Px]; lia
noncomputable def mw:Fn:=λds r=>∃ ps:List Part,aW ps/\ds=[.lst (ps.map fJ)]/\r=.ok (.ow ((bM (gF ps)).map aR))
theorem jN (h:aW ps):mw [.lst (ps.map fJ)] (.ok (.ow ((bM (gF ps)).map aR))):=⟨ps,h,rfl,rfl⟩
section
local macro_rules | `(tactic| walk_at "evX")=> `(tactic| first | ((with_reducible show cS _ (Expr.Dict _ _ _) _ _); with_reducible refine uO ?_))
local macro_rules | `(tactic| walk_at "evCa")=> `(tactic| first | with_reducible refine bZ (F:=EY) (by assumption) (by decide) ?_)
local macro_rules | `(tactic| walk_at "evXp")=> `(tactic| with_reducible refine vD (F:=tQ) (by assumption) (by decide) (by walk_at "at") (by walk_at "at") (by walk_at "own") ?_)
local macro_rules | `(tactic| walk_at "evXC")=> `(tactic| first | ((with_reducible show cS _ (OR (Oc "unpacked" _) _ _ _) _ _); refine sG 2 (by walk_at "at") rfl (by walk_at "sset") (x_call (F:=ER) (by assumption) (by decide) ?_)))
theorem Jd (Fu:fC K "poly_total" "poly_total" (top 12) f fd) (T:Txt K mg) (h1:fO P w K mg base 2 "width_of" EY) (h2:D9 P w K mg base 3 "add_part" tQ) (h3:fO P w K mg base 3 "unpacked" ER):bz P w K mg base (dU P w) 4 f fd ["parts"] (fM K mw):=by
 refine dD Fu mj (by rintro ds r ⟨ps,_,rfl,_⟩; rfl) (by rintro ds r ⟨ps,_,_,rfl⟩; exact ⟨_,rfl⟩) λc hq ds sl hF=>?_
 obtain ⟨ps,h,rfl,e⟩:=hF
 injection e with e
 subst e
 show aQ c _ [.va (.lst (ps.map fJ)),.un,.un,.un] _ _
 conv in (ay _)=>whnf
 obtain ⟨hW,hsz⟩:=EX h.p
 walk_at "ev"
 refine aJ (Ly h.p) ?_
 walk_at "ev"
 generalize B0 ps=W at hW hsz |-
 with_reducible refine cO hq (ck ?_)
 walk_at "ev"
 refine ⟨λi ρ'=>∃ (ts:List aM) (s3:Sl),mp ts=mp (gF (ps.take i))/\ts.length<=((ps.take i).map λp=>bB p.2).sum/\(∀ t∈ts,Bd (2 ^ W) t.1)/\ρ'=[.va (.lst (ps.map fJ)),.va (.int (W:Nat)),.oK (cR ((aN ts).map (gv (2 ^ W)))),s3],⟨[],_,rfl,NT _,(by intro t ht; cases ht),rfl⟩,?_,?_⟩
 ·rintro c' lT wo wu i d ρ' hd ⟨ts,s3,hm,hl,hb,rfl⟩
  simp only [NZ,N8] at hd
  obtain ⟨p,hpx,rfl⟩:=hd
  obtain ⟨hi,rfl⟩:=N4.mp hpx
  have et:ps.take (i+1)=ps.take i++[ps[i]]:=OU hi
  have hmem:ps[i]∈ps:=Ow hi
  have hcap:((ps.take (i+1)).map λp=>bB p.2).sum<=20000:=by rw [List.map_take]; exact N3 (rF _ _) h.s
  have ec:((ps.take (i+1)).map λp=>bB p.2).sum=((ps.take i).map λp=>bB p.2).sum+bB ps[i].2:=by rw [et,Ot,QA]; simp
  rw [ec] at hcap
  walk_at "ev"
  refine ⟨_,⟨ts,ps[i],W,hW,h.p _ hmem,hsz _ hmem,by lia,hb,rfl,rfl,rfl⟩,?_⟩
  rintro kvs' ⟨X,x1,x2,x3,rfl⟩
  walk_at "ev"
  refine ⟨ts++X,.va (fJ ps[i]),?_,?_,λt ht=>(Om.mp ht).elim (hb t) (x3 t),rfl⟩
  ·rw [oX,hm,x1,et,rE]
  ·rw [ec,OF]; lia
 ·rintro ρ' ⟨ts,s3,hm,hl,hb,rfl⟩
  rw [NX,OO] at hm hl
  walk_at "ev"
  refine aJ (Lx (ts:=ts) hW (by have:=h.s; lia) hb) ⟨cV λx _=>gE x,?_⟩
  show Sl.ow _=Sl.ow _
  rw [fT hm]
end
end
section
variable {K:NR}
theorem Ex.jD (h:Ex m L):Ex m (bM L):=λt ht=>Ex.sum h t (qJ ht).1
theorem Bn.jD (h:Bn m L) (hl:L.length<2 ^ 16):Bn (m+16) (bM L):=λt ht=>Bn.sum h hl t (qJ ht).1
noncomputable def dQ (As:List (List aM)):List aM:=As.foldl (λL A=>bM (aO L A)) [([],1)]
theorem nK (As) (A):dQ (As++[A])=bM (aO (dQ As) A):=by simp [dQ]
theorem B9 (h:Way n As L) (f:cG A) (hl:bB (As++[A])<=20000):Way n (As++[A]) (bM (aO L A)):=by
 obtain ⟨h1,h2,h3,h4⟩:=gH h f
 refine ⟨by rw [vQ,h1],N3 (lB _) h2,h3.jD,(h4.jD (PM (N3 h2 hl) (by decide))).mono ?_⟩
 rw [OF,R5]; lia
theorem fK (hf:∀ A∈As,cG A) (hl:bB As<=20000):∀ i,i<=As.length->Way 1 (As.take i) (dQ (As.take i))
 | 0,_=>v8 (by decide)
 | i+1,hi=>by
  rw [OU hi,nK]
  refine B9 (fK hf hl i (by lia)) (hf _ (Ow hi)) ?_
  rw [<- OU hi]
  exact N3 (gU _ _) hl
noncomputable def E1:Fn:=λds r=>∃ As:List (List aM),As.length<=8/\(∀ A∈As,cG A)/\bB As<=20000/\ds=[.lst (As.map aq)]/\r=.ok (.ow ((dQ As).map aR))
theorem Lz (h:As.length<=8) (hf:∀ A∈As,cG A) (hl:bB As<=20000):E1 [.lst (As.map aq)] (.ok (.ow ((dQ As).map aR))):=⟨As,h,hf,hl,rfl,rfl⟩
theorem jg (n):(p8 0 n).length=n:=by simp [p8]
theorem jE (L) (t):L.map aR++[aR t]=(L++[t]).map aR:=by rw [Ot]; rfl
theorem ym (n):(N7 n [D.int 0]).flatten=(N7 n (0:Int)).map D.int:=by
 induction n with
 | zero=>rfl
 | succ n ih=>rw [PK,Qv,ih,PK]; rfl
theorem Ca (h:k<n) (hp:p.length<=n):jI (p.map D.int++(N7 (n - p.length) [D.int 0]).flatten) (k:Int)=some (.int (b9 p k)):=by
 rw [ym,<- Ot,d7 (by lia) (by simp; lia),OH,NZ]
 by_cases z:k<p.length
 ·rw [P6 z,Od z,dX z]; rfl
 ·rw [QN (by lia),Tw,if_pos (by lia),dh (by lia)]; rfl
theorem v9 {p:List Int} {n:Nat}:((n:Int) - ((p.map D.int).length:Int)).toNat=n - p.length:=by rw [NX]; lia
section
local macro_rules | `(tactic| walk_at "evBo")=> `(tactic| first | ((with_reducible show aF _ (Expr.BinOp (Expr.Tuple _ _ _) Operator.Mult _ _) _ _); with_reducible refine Ij ?_))
local macro_rules | `(tactic| walk_at "evCa")=> `(tactic| first
 | ((with_reducible show aF _ (OR (Oc "max" _) [_,_] _ _) _ _); with_reducible refine AJ (Txt.max (by assumption)) ?_))
theorem Je (Fu:fC K "_law_product" "_law_product" (top 24) f fd) (T:Txt K mg) (h1:fO P w K mg base 1 "_law_plain" rC):bz P w K mg base (dU P w) 2 f fd ["_law_factors"] (fM K E1):=by
 refine dD Fu o7 (by rintro ds r ⟨As,_,_,_,rfl,_⟩; rfl) (by rintro ds r ⟨As,_,_,_,_,rfl⟩; exact ⟨_,rfl⟩) λc hq ds sl hF=>?_
 obtain ⟨As,h8,hf,hl,rfl,e⟩:=hF
 injection e with e
 subst e
 show aQ c _ [.va (.lst (As.map aq)),.un,.un,.un,.un,.un,.un,.un,.un,.un,.un] _ _
 conv in (ay _)=>whnf
 walk_at "ev"
 show eG c _ [.va (.lst (As.map aq)),.ow ((dQ (As.take 0)).map aR),.un,.un,.un,.un,.un,.un,.un,.un,.un] _ _
 with_reducible refine cO hq (ck ?_)
 walk_at "ev"
 refine ⟨λi ρ'=>∃ s2 s3 s4 s5 s6 s7 s8 s9 s10:Sl,ρ'=[.va (.lst (As.map aq)),.ow ((dQ (As.take i)).map aR),s2,s3,s4,s5,s6,s7,s8,s9,s10],⟨_,_,_,_,_,_,_,_,_,rfl⟩,?_,?_⟩
 ·rintro c' lT wo wu i d ρ' hd ⟨s2,s3,s4,s5,s6,s7,s8,s9,s10,rfl⟩
  simp only [NZ,N8] at hd
  obtain ⟨B,hBx,rfl⟩:=hd
  obtain ⟨hi,rfl⟩:=N4.mp hBx
  have hq':c'.X.xe=λ_ _=>False:=by rw [lT]; exact hq
  have hfB:=hf _ (Ow hi)
  have hw:=fK hf hl i (by omega)
  have hp2:bB (As.take i++[As[i]])<=20000:=by
   rw [<- OU hi]; exact N3 (gU _ _) hl
  have hlp:(dQ (As.take i)).length * As[i].length<=20000:=by
   have:=(gH hw hfB).2.1
   rw [di] at this; omega
  have eN:dQ (As.take (i+1))=bM (aO (dQ (As.take i)) As[i]):=by rw [OU hi,nK]
  have hAl:(dQ (As.take i)).length<=20000:=N3 hw.l (N3 (gU _ _) hl)
  have hA6:∀ t∈dQ (As.take i),t.1.length<=6:=λt ht=>(hw.e t ht).1
  have hAb:Bn 20000 (dQ (As.take i)):=hw.b.mono (by rw [OW]; omega)
  generalize dQ (As.take i)=A at hlp eN hAl hA6 hAb |-
  generalize As[i]=B at hfB hlp eN |-
  clear hw hp2 hBx
  refine cB (by walk_at "at") (jZ (by walk_at "sset") ?_)
  refine cW 1 (by walk_at "at") rfl (by walk_at "sset") ?_
  walk_at "ev"
  show eG c' _ [_,_,_,.ow ((aO (A.take 0) B).map aR),_,_,_,_,_,_,_] _ _
  with_reducible refine cO hq' (ck ?_)
  walk_at "ev"
  refine ⟨λi ρ'=>∃ s4 s5 s6 s7 s8 s9 s10:Sl,ρ'=[.va (.lst (As.map aq)),.va (.lst (A.map aR)),.va (aq B),.ow ((aO (A.take i) B).map aR),s4,s5,s6,s7,s8,s9,s10],⟨_,_,_,_,_,_,_,rfl⟩,?_,?_⟩
  ·rintro c1 hcX1 hcR1 hcM1 i1 d ρ' hd ⟨s4,s5,s6,s7,s8,s9,s10,rfl⟩
   simp only [NZ,N8] at hd
   obtain ⟨l,hlx,rfl⟩:=hd
   obtain ⟨hi1,rfl⟩:=N4.mp hlx
   have hq1:c1.X.xe=λ_ _=>False:=by rw [hcX1]; exact hq'
   have h6:=hA6 A[i1] (Ow hi1)
   have hlb:=hAb A[i1] (Ow hi1)
   have e0:aO (A.take (i1+1)) B=aO (A.take i1) B++B.map (dY A[i1]):=by
    rw [OU hi1,nI]
   have hlen:(aO (A.take i1) B).length+B.length<=20000:=by
    rw [di,OW,Qz (by omega),<- RE]
    exact N3 (Nat.mul_le_mul_right _ (by omega)) hlp
   generalize A[i1]=l at h6 hlb e0 |-
   generalize aO (A.take i1) B=ts at e0 hlen |-
   show lP c1 _ (.tup [.tup (l.1.map .int),.int l.2]) _ _
   walk_at "ev"
   with_reducible refine cO hq1 (ck ?_)
   refine uC (by walk_at "at") (by walk_at "at") ?_
   refine zR (ds:=B.map aR) rfl ?_
   refine ⟨λj ρ'=>∃ s6 s7 s8 s9 s10:Sl,ρ'=[.va (.lst (As.map aq)),.va (.lst (A.map aR)),.va (aq B),.ow ((ts++(B.take j).map (dY l)).map aR),.va (.tup (l.1.map .int)),.va (.int l.2),s6,s7,s8,s9,s10],⟨s6,s7,s8,s9,s10,by simp⟩,?_,?_⟩
   ·rintro c2 hcX2 hcR2 hcM2 j d ρ' hd ⟨s6,s7,s8,s9,s10,rfl⟩
    simp only [NZ,N8] at hd
    obtain ⟨r,hrx,rfl⟩:=hd
    obtain ⟨hj,rfl⟩:=N4.mp hrx
    have h6r:=(hfB.e B[j] (Ow hj)).1
    have hrb:=hfB.b B[j] (Ow hj)
    have hq2:c2.X.xe=λ_ _=>False:=by rw [hcX2]; exact hq1
    have e1:ts++(B.take (j+1)).map (dY l)=(ts++(B.take j).map (dY l))++[dY l B[j]]:=by
     rw [OU hj,Ot,Oh]; rfl
    have hlen2:((ts++(B.take j).map (dY l)).map aR).length<sizeLine:=iD (by
     rw [NX,OF,NX,OW]; omega)
    generalize ts++(B.take j).map (dY l)=us at e1 hlen2 |-
    generalize B[j]=r at h6r hrb e1 |-
    show lP c2 _ (.tup [.tup (r.1.map .int),.int r.2]) _ _
    generalize hG:(λρ'=>aQ c2 _ ρ' _ _)=G
    walk_at "ev"
    subst hG
    refine az ?_
    generalize hG:(λρ'=>aQ c2 _ ρ' _ _)=G
    walk_at "ev"
    have ew:(if ((r.1.map D.int).length:Int)>((l.1.map D.int).length:Int) then ((r.1.map D.int).length:Int) else ((l.1.map D.int).length:Int))=((max l.1.length r.1.length:Nat):Int):=by simp only [NX]; split <;> omega
    rw [ew]
    have hw6:max l.1.length r.1.length<=6:=by omega
    generalize hwd:max l.1.length r.1.length=wd at hw6 |-
    subst hG
    refine az ?_
    generalize hG:(λρ'=>aQ c2 _ ρ' _ _)=G
    walk_at "ev"
    refine ⟨_,_,rfl,rfl,⟨⟨by simp,by rw [NX]; omega,by rw [NX]; omega,by rw [v9]; exact qW (by simp; omega)⟩,?_⟩⟩
    rw [v9]
    walk_at "ev"
    ·exact qW (by simp; omega)
    subst hG
    refine az ?_
    generalize hG:(λρ'=>aQ c2 _ ρ' _ _)=G
    walk_at "ev"
    refine ⟨_,_,rfl,rfl,⟨⟨by simp,by rw [NX]; omega,by rw [NX]; omega,by rw [v9]; exact qW (by simp; omega)⟩,?_⟩⟩
    rw [v9]
    walk_at "ev"
    ·exact qW (by simp; omega)
    subst hG
    refine az ?_
    with_reducible refine sj (by walk_at "at") (by walk_at "at") (by walk_at "own") ?_
    refine Fy (eU (j5 (Txt.tuple T) (e_x (dW hq2 (N':=["_law_k","_law_one","_law_two_here"]) (ρ0:=λ_=>[.un,.va (.tup (l.1.map .int++(N7 (wd - l.1.length) [D.int 0]).flatten)),.va (.tup (r.1.map .int++(N7 (wd - r.1.length) [D.int 0]).flatten))]) (λt=>.un (.fr (by walk_at "at") (by walk_at "at") (by decide) rfl (.fr (by walk_at "at") (by walk_at "at") (by decide) rfl .nil))) (eV (Txt.range T) ?_)))) ?_)
    case refine_2=>intro _; walk_at "u"
    walk_at "ev"
    ·exact ⟨by omega,by omega⟩
    ·rw [jg]; exact qW (by omega)
    refine ⟨(OD wd).map λk=>some (.int (b9 l.1 k+b9 r.1 k)),by simp [jg],?_,?_⟩
    ·intro c3 hc3 t k d o hd ho
     rw [OH] at hd
     obtain ⟨hk,rfl⟩:=gO hd
     rw [NZ,Qs hk] at ho
     cases ho
     refine cB (by walk_at "at") (jZ (by walk_at "sset") ⟨.un (.same (.same .nil)),?_⟩)
     simp only [jQ]
     refine ⟨λ_=>?_,λh=>by cases h⟩
     walk_at "ev"
     refine iQ (Ca (p:=l.1) hk (by omega)) ?_
     walk_at "ev"
     refine iQ (Ca (p:=r.1) hk (by omega)) ?_
     walk_at "ev"
     rfl
    ·rw [cL (λk=>D.int (b9 l.1 k+b9 r.1 k)),show (OD wd).map (λk=>D.int (b9 l.1 k+b9 r.1 k))=(cH l.1 r.1).map D.int by rw [<- hwd]; unfold cH; rw [Oj]; rfl]
     walk_at "ev"
     ·exact o9 hlb hrb (by decide)
     show ∃ s6 s7 s8 s9 s10:Sl,_=[_,_,_,.ow ((ts++(B.take (j+1)).map (dY l)).map aR),_,_,s6,s7,s8,s9,s10]
     rw [e1,<- jE]
     exact ⟨_,_,_,_,_,rfl⟩
   ·rintro ρ' ⟨s6,s7,s8,s9,s10,rfl⟩
    rw [NX,OO,<- e0]
    walk_at "ev"
    exact ⟨_,_,_,_,_,_,_,rfl⟩
  ·rintro ρ' ⟨s4,s5,s6,s7,s8,s9,s10,rfl⟩
   rw [NX,OO]
   refine az (uF (by walk_at "at") (uZ 3 (by walk_at "at") rfl (by walk_at "sset") (x_call (F:=rC) h1 (by decide) ?_)))
   walk_at "ev"
   refine aJ (tK (by rw [di]; exact hlp) λt ht=>?_) ⟨cV λx _=>gE x,?_⟩
   ·obtain ⟨l,hl,r,hr,rfl⟩:=gw ht
    show (cH l.1 r.1).length<=64
    have:=hA6 l hl
    have:=(hfB.e r hr).1
    rw [jc]; omega
   walk_at "ev"
   show ∃ s2 s3 s4 s5 s6 s7 s8 s9 s10:Sl,_=[_,.ow ((dQ (As.take (i+1))).map aR),s2,s3,s4,s5,s6,s7,s8,s9,s10]
   rw [eN]
   exact ⟨_,_,_,_,_,_,_,_,_,rfl⟩
 ·rintro ρ' ⟨s2,s3,s4,s5,s6,s7,s8,s9,s10,rfl⟩
  rw [NX,OO]
  walk_at "ev"
  rfl
end
end
section
variable {P:Program} {w:World} {K:NR} {mg:Str->Option Value} {base:Heap}
noncomputable def lJ (n:Int) (t:aM):aM:=(t.1,n * t.2)
theorem lI (p):cH [] p=p:=by
 unfold cH
 refine Sy (by simp) λi h1 h2=>?_
 rw [Uh,TZ]
 simp [b9,Od h2]
theorem Jf (n:Int) (A:List aM):mp (A.map (lJ n))=(n:MP) * mp A:=by
 rw [<- oY,<- tu]
 refine congrArg mp ?_
 unfold aO cT
 rw [Ro,Sx,OP]
 refine PY λt _=>?_
 unfold lJ dY
 rw [lI]
noncomputable def lK (p:Part):D:=.tup [.int p.1,.lst (p.2.map aq)]
noncomputable def fY (ps:List Part):List aM:=ps.flatMap λp=>(dQ p.2).map (lJ p.1)
theorem yo (ps) (p:Part):fY (ps++[p])=fY ps++(dQ p.2).map (lJ p.1):=by simp [fY]
theorem E2 (hf:∀ A∈As,cG A) (hl:bB As<=20000):mp (dQ As)=tO As:=by
 have h:=(fK hf hl As.length (NT _)).m
 rw [OO] at h
 rw [h]; grind
theorem E3 {ps:List Part} (hp:p∈ps):bB p.2<=(ps.map λp=>bB p.2).sum:=by
 induction ps with
 | nil=>cases hp
 | cons q ps ih =>
  rw [NW,P4]
  rcases N9.mp hp with rfl | h
  ·exact Q3 _ _
  ·exact N3 (ih h) (Nat.le_add_left _ _)
theorem E4 (h:∀ p∈ps,dZ p/\bB p.2<=20000):mp (fY ps)=mp (gF ps):=by
 induction ps with
 | nil=>rfl
 | cons p ps ih =>
  have hp:=h p N2
  have e1:fY (p::ps)=(dQ p.2).map (lJ p.1)++fY ps:=rfl
  have e2:gF (p::ps)=cM p.1 p.2++gF ps:=rfl
  rw [e1,e2,oX,oX,ih λq hq=>h q (N6 _ hq),Jf,E2 hp.1.f hp.2,fV]
theorem rG (h:∀ p∈ps,dZ p/\bB p.2<=20000):(fY ps).length<=(ps.map λp=>bB p.2).sum:=by
 induction ps with
 | nil=>exact NT _
 | cons p ps ih =>
  have hp:=h p N2
  have e1:fY (p::ps)=(dQ p.2).map (lJ p.1)++fY ps:=rfl
  have hw:=(fK hp.1.f hp.2 p.2.length (NT _)).l
  rw [OO] at hw
  rw [e1,OF,NX,NW,P4]
  exact Nat.add_le_add hw (ih λq hq=>h q (N6 _ hq))
theorem Jg (hf:∀ A∈As,cG A) (hl:bB As<=20000):∀ t∈dQ As,t.1.length<=6:=λt ht=>by
 have h:=(fK hf hl As.length (NT _)).e
 rw [OO] at h
 exact (h t ht).1
theorem Jh (h8:As.length<=8) (hf:∀ A∈As,cG A) (hl:bB As<=20000):Bn 20000 (dQ As):=by
 have h:=(fK hf hl As.length (NT _)).b
 rw [OO] at h
 exact h.mono (by omega)
theorem Ji (h:∀ p∈ps,dZ p/\bB p.2<=20000):∀ t∈fY ps,t.1.length<=6:=λt ht=>by
 obtain ⟨p,hp,ht⟩:=Sv.mp ht
 obtain ⟨u,hu,rfl⟩:=Oi.mp ht
 exact Jg (h p hp).1.f (h p hp).2 u hu
noncomputable def rH:Fn:=λds r=>∃ ps:List Part,aW ps/\ds=[.lst (ps.map lK)]/\r=.ok (.ow ((bM (gF ps)).map aR))
theorem lM (h:aW ps):rH [.lst (ps.map lK)] (.ok (.ow ((bM (gF ps)).map aR))):=⟨ps,h,rfl,rfl⟩
theorem Jj (Fu:fC K "_law_sum" "_law_sum" (top 25) f fd) (T:Txt K mg) (h1:fO P w K mg base 1 "_law_plain" rC) (h2:fO P w K mg base 2 "_law_product" E1):bz P w K mg base (dU P w) 3 f fd ["_law_parts"] (fM K rH):=by
 refine dD Fu BD (by rintro ds r ⟨As,_,rfl,_⟩; rfl) (by rintro ds r ⟨As,_,_,rfl⟩; exact ⟨_,rfl⟩) λc hq ds sl hF=>?_
 obtain ⟨ps,h,rfl,e⟩:=hF
 injection e with e
 subst e
 have hh:∀ p∈ps,dZ p/\bB p.2<=20000:=λp hp=>⟨h.p p hp,N3 (E3 hp) h.s⟩
 show aQ c _ [.va (.lst (ps.map lK)),.un,.un,.un] _ _
 conv in (ay _)=>whnf
 walk_at "ev"
 show eG c _ [.va (.lst (ps.map lK)),.ow ((fY (ps.take 0)).map aR),.un,.un] _ _
 with_reducible refine cO hq (ck ?_)
 walk_at "ev"
 refine ⟨λi ρ'=>∃ s2 s3:Sl,ρ'=[.va (.lst (ps.map lK)),.ow ((fY (ps.take i)).map aR),s2,s3],⟨_,_,rfl⟩,?_,?_⟩
 ·rintro c' lT wo wu i d ρ' hd ⟨s2,s3,rfl⟩
  simp only [NZ,N8] at hd
  obtain ⟨p,hpx,rfl⟩:=hd
  obtain ⟨hi,rfl⟩:=N4.mp hpx
  have hq':c'.X.xe=λ_ _=>False:=by rw [lT]; exact hq
  obtain ⟨hp,hpl⟩:=hh _ (Ow hi)
  have eN:fY (ps.take (i+1))=fY (ps.take i)++(dQ ps[i].2).map (lJ ps[i].1):=by rw [OU hi,yo]
  have hln:(fY (ps.take i)).length+(dQ ps[i].2).length<=20000:=by
   have h1:=rG (ps:=ps.take (i+1)) λq hq=>hh q (R8 hq)
   rw [eN,OF,NX] at h1
   refine N3 h1 (N3 ?_ h.s)
   rw [<- Px (i+1) ps,Ot,QA,Px]
   exact Q3 _ _
  generalize fY (ps.take i)=A at eN hln |-
  generalize ps[i]=p at hp hpl eN hln |-
  show lP c' _ (.tup [.int p.1,.lst (p.2.map aq)]) _ _
  generalize hG:(λρ'=>aQ c' _ ρ' _ _)=G
  walk_at "ev"
  subst hG
  refine az (uF (by walk_at "at") (uZ 1 (by walk_at "at") rfl (by walk_at "sset") (zG (uC (by walk_at "at") (by walk_at "at") (e_x (dW hq' (N':=["_law_powers","_law_count","_law_number"]) (ρ0:=λ_=>[.un,.un,.va (.int p.1)]) (λt=>.un (.un (.fr (by walk_at "at") (by walk_at "at") (by decide) rfl .nil))) (ck (e_x (x_call (F:=E1) h2 (by decide) ?_)))))))))
  walk_at "ev"
  refine aJ (Lz hp.m hp.f hpl) (cJ ?_)
  have hb:=Jh hp.m hp.f hpl
  generalize dQ p.2=L at eN hln hb |-
  refine zR rfl ⟨qW (by simp only [NX]; omega),L.map λx=>some (aR (lJ p.1 x)),by simp,?_,?_⟩
  ·intro c2 hc t i d o hd ho
   simp only [NZ,N8] at hd ho
   obtain ⟨x,hx,rfl⟩:=hd
   obtain ⟨x',hx',rfl⟩:=ho
   rw [hx] at hx'; cases hx'
   have hxb:=hb x (O3 hx)
   show lP c2 _ (.tup [.tup (x.1.map .int),.int x.2]) _ _
   walk_at "ev"
   refine ⟨.un (.un (.same .nil)),?_⟩
   simp only [jQ]
   refine ⟨λ_=>?_,λh=>by cases h⟩
   walk_at "ev"
   ·exact o9 hp.n hxb (by decide)
   rfl
  ·rw [cL (λx=>aR (lJ p.1 x)),show L.map (λx=>aR (lJ p.1 x))=(L.map (lJ p.1)).map aR by rw [Oj]; rfl]
   walk_at "ev"
   ·exact qW (by simp only [NX]; omega)
   ·rw [<- Ot]; exact cV λx _=>gE x
   show ∃ s2 s3:Sl,_=[_,.ow ((fY (ps.take (i+1))).map aR),s2,s3]
   rw [eN,Ot]
   exact ⟨_,_,rfl⟩
 ·rintro ρ' ⟨s2,s3,rfl⟩
  rw [NX,OO]
  refine az (fD (uZ 1 (by walk_at "at") rfl (by walk_at "sset") (x_call (F:=rC) h1 (by decide) ?_)))
  walk_at "ev"
  refine aJ (tK (N3 (rG hh) h.s) λt ht=>N3 (Ji hh t ht) (by decide)) ⟨cV λx _=>gE x,?_⟩
  show Sl.ow _=Sl.ow _
  rw [show fH (nz (aN (fY ps)))=bM (gF ps) from fT (E4 hh)]
noncomputable def tR:Fn:=λds r=>∃ (ns:List Int) (k:Nat),ds=[.lst (ns.map .int),.int (k:Int)]/\r=.ok (.va (.int (ns.getD k 0)))
theorem Ga (ns:List Int) (k:Nat):tR [.lst (ns.map .int),.int (k:Int)] (.ok (.va (.int (ns.getD k 0)))):=⟨ns,k,rfl,rfl⟩
theorem Jk {ns:List Int} (h:k<ns.length):jI (ns.map D.int) (k:Int)=some (D.int (ns.getD k 0)):=by
 rw [d7 (by lia) (by simp; lia),OH,NZ,Od h,OY,Od h]
 rfl
theorem Jl (Fu:fC K "_law_cell_at" "_law_cell_at" (top 21) f fd) (T:Txt K mg):bz P w K mg base (dU P w) 1 f fd ["_law_script","_law_k"] (fM K tR):=by
 refine dD Fu o6 (by rintro ds r ⟨ns,k,rfl,_⟩; rfl) (by rintro ds r ⟨ns,k,_,rfl⟩; exact ⟨_,rfl⟩) λc hq ds sl hF=>?_
 obtain ⟨ns,k,rfl,e⟩:=hF
 injection e with e
 subst e
 show aQ c _ [.va (.lst (ns.map .int)),.va (.int (k:Int))] _ _
 conv in (ay _)=>whnf
 walk_at "ev"
 ·have hk:k<ns.length:=by simp only [NX] at *; omega
  refine gi (Jk hk) ?_
  walk_at "ev"
  rfl
 ·have hk:¬ k<ns.length:=by simp only [NX] at *; omega
  show Sl.va _=Sl.va _
  rw [OY,Py (by omega)]; rfl
noncomputable def LA (c:Int) (k:Nat):Int:=(c * 48271+(k:Int) * 69621+11) % 2147483629
noncomputable def Jm (c:Int) (k:Nat):Int:=LA c k * LA c k % 2147483587
noncomputable def yp (ns:List Int) (k:Nat):Int :=
 if ns.getD k 0>=10 ^ RN 18 then ns.getD k 0 - 10 ^ RN 18 else Jm (ns.getD k 0) k * 2147483563+Jm (ns.getD k 0) k * Jm (ns.getD k 0) k % 2147483563
noncomputable def E5:Fn:=λds r=>∃ (ns:List Int) (k:Nat),ds=[.lst (ns.map .int),.int (k:Int)]/\r=.ok (.va (.int (yp ns k)))
theorem LB (ns) (k:Nat):E5 [.lst (ns.map .int),.int (k:Int)] (.ok (.va (.int (yp ns k)))):=⟨ns,k,rfl,rfl⟩
theorem LC:rV 10 9:=⟨by decide,by decide,by decide +kernel⟩
theorem Cb:rV 10 18:=⟨by decide,by decide,by decide +kernel⟩
theorem tS (h:b.natAbs<2 ^ 63):EV.MulOk a b:=IntMulOk.of_right (qi h)
section
local macro_rules | `(tactic| walk_at "evR")=> `(tactic| with_reducible refine aJ (Ga _ _) ?_)
local macro_rules | `(tactic| walk_at "evCa")=> `(tactic| with_reducible refine bZ (F:=tR) (by assumption) (by decide) ?_)
theorem Jo (Fu:fC K "_law_digits" "_law_digits" (top 22) f fd) (T:Txt K mg) (h1:fO P w K mg base 1 "_law_cell_at" tR):bz P w K mg base (dU P w) 2 f fd ["_law_script","_law_k"] (fM K E5):=by
 refine dD Fu rm (by rintro ds r ⟨ns,k,rfl,_⟩; rfl) (by rintro ds r ⟨ns,k,_,rfl⟩; exact ⟨_,rfl⟩) λc hq ds sl hF=>?_
 obtain ⟨ns,k,rfl,e⟩:=hF
 injection e with e
 subst e
 show aQ c _ [.va (.lst (ns.map .int)),.va (.int (k:Int)),.un,.un] _ _
 conv in (ay _)=>whnf
 walk_at "ev"
 ·exact Cb
 ·exact Cb
 ·show Sl.va _=Sl.va _
  unfold yp
  rw [if_pos (by assumption)]
 ·exact tS (by decide)
 ·exact tS (by decide)
 ·exact qj (by omega)
 ·exact tS (by decide)
 ·exact qj (by omega)
 ·show Sl.va _=Sl.va _
  unfold yp
  rw [if_neg (by assumption)]
  rfl
end
noncomputable def stN (r:Int):Int:=r / 513 / 16
noncomputable def CB (r:Int):aM:=([r % 3,r / 3 % 3,r / 9 % 3],if r / 513 % 16=15 then (r / 27 % 19 - 9) * (10 ^ RN 9+7) else r / 27 % 19 - 9)
noncomputable def mz:Nat->Int->List aM×Int
 | 0,r=>([],r)
 | i+1,r=>((mz i r).1++[CB (mz i r).2],stN (mz i r).2)
noncomputable def rJ (n:Int):List aM:=bM (mz (n % 4).toNat (n / 4)).1
theorem ko (i) (r):(mz i r).1.length=i:=by
 induction i with
 | zero=>rfl
 | succ i ih=>simp [mz,ih]
noncomputable def wc:Fn:=λds r=>∃ n:Int,ds=[.int n]/\r=.ok (.ow ((rJ n).map aR))
theorem Jp (n):wc [.int n] (.ok (.ow ((rJ n).map aR))):=⟨n,rfl,rfl⟩
theorem LD (i) (r):∀ t∈(mz i r).1,t.1.length=3:=by
 induction i with
 | zero=>intro t ht; cases ht
 | succ i ih =>
  intro t ht
  rcases Om.mp ht with h | h
  ·exact ih t h
  ·rw [Oa.mp h]; rfl
theorem E6 (Fu:fC K "_law_some" "_law_some" (top 26) f fd) (T:Txt K mg) (h1:fO P w K mg base 1 "_law_plain" rC):bz P w K mg base (dU P w) 2 f fd ["_law_number"] (fM K wc):=by
 refine dD Fu yd (by rintro ds r ⟨n,rfl,_⟩; rfl) (by rintro ds r ⟨n,_,rfl⟩; exact ⟨_,rfl⟩) λc hq ds sl hF=>?_
 obtain ⟨n,rfl,e⟩:=hF
 injection e with e
 subst e
 show aQ c _ [.va (.int n),.un,.un,.un,.un,.un] _ _
 conv in (ay _)=>whnf
 walk_at "ev"
 show eG c _ [.va (.int (mz 0 (n / 4)).2),.ow ((mz 0 (n / 4)).1.map aR),.va (.int (n % 4)),.un,.un,.un] _ _
 with_reducible refine cO hq (eV (Txt.range (by assumption)) ?_)
 walk_at "ev"
 ·exact ⟨by omega,by omega⟩
 refine ⟨λi ρ'=>∃ s3 s4 s5:Sl,ρ'=[.va (.int (mz i (n / 4)).2),.ow ((mz i (n / 4)).1.map aR),.va (.int (n % 4)),s3,s4,s5],⟨_,_,_,rfl⟩,?_,?_⟩
 ·rintro c' lT wo wu i d ρ' hd ⟨s3,s4,s5,rfl⟩
  obtain ⟨hi,rfl⟩:=gO hd
  have hl:=ko i (n / 4)
  have eN:mz (i+1) (n / 4)=((mz i (n / 4)).1++[CB (mz i (n / 4)).2],stN (mz i (n / 4)).2):=rfl
  generalize mz i (n / 4)=g at hl eN |-
  obtain ⟨L,r⟩:=g
  have hm:=Int.emod_lt_of_pos (r / 27) (b:=19) (by decide)
  have hm0:=Int.emod_nonneg (r / 27) (b:=19) (by decide)
  have hz:(L.map aR).length<sizeLine:=iD (by rw [NX]; have:L.length=i:=hl; omega)
  walk_at "ev"
  ·exact LC
  ·exact qj (by show ((r / 27 % 19 - 9:Int)).natAbs<_; omega)
  ·show ∃ s3 s4 s5:Sl,_=[.va (.int (mz (i+1) (n / 4)).2),.ow ((mz (i+1) (n / 4)).1.map aR),.va (.int (n % 4)),s3,s4,s5]
   rw [eN,<- jE,show aR (CB r)=.tup [.tup [.int (r % 3),.int (r / 3 % 3),.int (r / 9 % 3)],.int ((r / 27 % 19 - 9) * (10 ^ RN 9+7))] by unfold CB; rw [if_pos (by assumption)]; rfl]
   exact ⟨_,_,_,rfl⟩
  ·show ∃ s3 s4 s5:Sl,_=[.va (.int (mz (i+1) (n / 4)).2),.ow ((mz (i+1) (n / 4)).1.map aR),.va (.int (n % 4)),s3,s4,s5]
   rw [eN,<- jE,show aR (CB r)=.tup [.tup [.int (r % 3),.int (r / 3 % 3),.int (r / 9 % 3)],.int (r / 27 % 19 - 9)] by unfold CB; rw [if_neg (by assumption)]; rfl]
   exact ⟨_,_,_,rfl⟩
 ·rintro ρ' ⟨s3,s4,s5,rfl⟩
  rw [jg]
  refine az (fD (uZ 1 (by walk_at "at") rfl (by walk_at "sset") (x_call (F:=rC) h1 (by decide) ?_)))
  walk_at "ev"
  refine aJ (tK (by rw [ko]; omega) λt ht=>by rw [LD _ _ t ht]; decide) ⟨cV λx _=>gE x,?_⟩
  rfl
end
section
variable {K:NR}
noncomputable def Cc (ns:List Int) (a:Nat) (m:Nat):List (List aM):=(OD m).map λk=>rJ (yp ns (a+k))
noncomputable def tT:Fn:=λds r=>∃ (ns:List Int) (a m:Nat),m<=100/\a<=1000/\ds=[.lst (ns.map .int),.int (a:Int),.int (m:Int)]/\r=.ok (.va (.tup ((Cc ns a m).map aq)))
theorem Cd (ns) {a m:Nat} (h:m<=100) (ha:a<=1000):tT [.lst (ns.map .int),.int (a:Int),.int (m:Int)] (.ok (.va (.tup ((Cc ns a m).map aq)))):=⟨ns,a,m,h,ha,rfl,rfl⟩
theorem Jq (Fu:fC K "_law_things" "_law_things" (top 27) f fd) (T:Txt K mg) (h1:fO P w K mg base 2 "_law_digits" E5) (h2:fO P w K mg base 2 "_law_some" wc):bz P w K mg base (dU P w) 3 f fd ["_law_script","_law_at","_law_many"] (fM K tT):=by
 refine dD Fu rA (by rintro ds r ⟨ns,a,m,_,_,rfl,_⟩; rfl) (by rintro ds r ⟨ns,a,m,_,_,_,rfl⟩; exact ⟨_,rfl⟩) λc hq ds sl hF=>?_
 obtain ⟨ns,a,m,hm,ha,rfl,e⟩:=hF
 injection e with e
 subst e
 show aQ c _ [.va (.lst (ns.map .int)),.va (.int (a:Int)),.va (.int (m:Int))] _ _
 conv in (ay _)=>whnf
 refine az (fD (Ft (j5 (Txt.tuple T) (e_x (dW hq (N':=["_law_k","_law_script","_law_at"]) (ρ0:=λ_=>[.un,.va (.lst (ns.map .int)),.va (.int (a:Int))]) (λt=>.un (.fr (by walk_at "at") (by walk_at "at") (by decide) rfl (.fr (by walk_at "at") (by walk_at "at") (by decide) rfl .nil))) (eV (Txt.range T) ?_))))))
 walk_at "ev"
 ·exact ⟨by omega,by omega⟩
 ·rw [jg]; exact qW (by omega)
 rw [OH]
 refine ⟨(Cc ns a m).map λA=>some (aq A),by simp [jg,Cc],?_,?_⟩
 ·intro c3 hc3 t k d o hd ho
  obtain ⟨hk,rfl⟩:=gO hd
  unfold Cc at ho
  rw [NZ,NZ,Qs hk] at ho
  cases ho
  refine cB (by walk_at "at") (jZ (by walk_at "sset") ⟨.un (.same (.same .nil)),?_⟩)
  simp only [jQ]
  refine ⟨λ_=>?_,λh=>by cases h⟩
  refine bZ (F:=wc) h2 (by decide) (eU (bZ (F:=E5) h1 (by decide) ?_))
  walk_at "ev"
  rw [show (a:Int)+(k:Int)=((a+k:Nat):Int) by omega]
  refine aJ (LB ns (a+k)) (FD ?_)
  walk_at "ev"
  refine aJ (Jp _) ?_
  walk_at "ev"
  rfl
 ·rw [cL aq]
  walk_at "ev"
  rfl
noncomputable def Ce:Fn:=λds r=>∃ As:List (List aM),As.length<=1000/\ds=[.tup (As.map aq)]/\r=.ok (.va (.tup (As.map aq)))
theorem LF {As:List (List aM)} (h:As.length<=1000):Ce [.tup (As.map aq)] (.ok (.va (.tup (As.map aq)))):=⟨As,h,rfl,rfl⟩
theorem Jr (Fu:fC K "_law_copied" "_law_copied" (top 28) f fd) (T:Txt K mg):bz P w K mg base (dU P w) 1 f fd ["_law_told"] (fM K Ce):=by
 refine dD Fu rB (by rintro ds r ⟨A,_,rfl,_⟩; rfl) (by rintro ds r ⟨A,_,_,rfl⟩; exact ⟨_,rfl⟩) λc hq ds sl hF=>?_
 obtain ⟨As,hl,rfl,e⟩:=hF
 injection e with e
 subst e
 show aQ c _ [.va (.tup (As.map aq))] _ _
 conv in (ay _)=>whnf
 refine az (fD (Ft (j5 (Txt.tuple T) (e_x (dW hq (N':=["_law_some_here"]) (ρ0:=λ_=>[.un]) (λt=>.un .nil) (ck ?_))))))
 walk_at "ev"
 ·exact qW (by rw [NX]; omega)
 refine ⟨As.map λt=>some (aq t),by simp,?_,cJ ?_⟩
 ·intro c' hc t i d o hd ho
  simp only [NZ,N8] at hd ho
  obtain ⟨x,hx,rfl⟩:=hd
  obtain ⟨x',hx',rfl⟩:=ho
  rw [hx] at hx'; cases hx'
  refine cB (by walk_at "at") (jZ (by walk_at "sset") ⟨.un .nil,?_⟩)
  simp only [jQ]
  refine ⟨λ_=>?_,λh=>by cases h⟩
  refine e_x (zD (Txt.list T) ?_)
  walk_at "ev"
  rfl
 ·rw [cL aq]
  walk_at "ev"
  rfl
noncomputable def E7:Fn:=λds r=>∃ L:List aM,(∀ t∈L,t.1.length<=64)/\ds=[.lst (L.map aR)]/\r=.ok (.va (.bl true))
theorem LG {L:List aM} (h2:∀ t∈L,t.1.length<=64):E7 [.lst (L.map aR)] (.ok (.va (.bl true))):=⟨L,h2,rfl,rfl⟩
theorem Js (Fu:fC K "_law_terms" "_law_terms" (top 29) f fd) (T:Txt K mg):bz P w K mg base (dU P w) 1 f fd ["_law_some_here"] (fM K E7):=by
 refine dD Fu tG (by rintro ds r ⟨n,_,rfl,_⟩; rfl) (by rintro ds r ⟨n,_,_,rfl⟩; exact ⟨_,rfl⟩) λc hq ds sl hF=>?_
 obtain ⟨L,hlen,rfl,e⟩:=hF
 injection e with e
 subst e
 show aQ c _ [.va (.lst (L.map aR)),.un,.un] _ _
 conv in (ay _)=>whnf
 walk_at "ev"
 with_reducible refine cO hq (ck ?_)
 walk_at "ev"
 refine ⟨λi ρ'=>∃ s1 s2:Sl,ρ'=[.va (.lst (L.map aR)),s1,s2],⟨_,_,rfl⟩,?_,?_⟩
 ·rintro c' lT wo wu i d ρ' hd ⟨s1,s2,rfl⟩
  simp only [NZ,N8] at hd
  obtain ⟨t,ht,rfl⟩:=hd
  have hlt:=hlen t (O3 ht)
  have hq':c'.X.xe=λ_ _=>False:=by rw [lT]; exact hq
  show lP c' _ (.tup [.tup (t.1.map .int),.int t.2]) _ _
  walk_at "ev"
  case refine_2 h=>exact absurd rfl h
  with_reducible refine cO hq' (ck ?_)
  walk_at "ev"
  ·exact qW (by simp; omega)
  refine ⟨λi ρ'=>∃ s2:Sl,ρ'=[.va (.lst (L.map aR)),.va (aR t),s2],⟨_,rfl⟩,?_,?_⟩
  ·rintro c2 hcX2 hcR2 hcM2 j d ρ' hd ⟨s2,rfl⟩
   rw [show (t.1.map D.int++[D.int t.2])=(t.1++[t.2]).map D.int by simp,NZ,N8] at hd
   obtain ⟨n,_,rfl⟩:=hd
   walk_at "ev"
   exact ⟨_,rfl⟩
  ·rintro ρ' ⟨s2,rfl⟩
   walk_at "ev"
   exact ⟨_,_,rfl⟩
 ·rintro ρ' ⟨s1,s2,rfl⟩
  walk_at "ev"
  rfl
noncomputable def Cf:Fn:=λds r=>∃ As:List (List aM),As.length<=1000/\(∀ A∈As,∀ t∈A,t.1.length<=64)/\ds=[.tup (As.map aq),.tup (As.map aq)]/\r=.ok (.va (.bl true))
theorem LH {As:List (List aM)} (h:As.length<=1000) (h2:∀ A∈As,∀ t∈A,t.1.length<=64):Cf [.tup (As.map aq),.tup (As.map aq)] (.ok (.va (.bl true))):=⟨As,h,h2,rfl,rfl⟩
section
local macro_rules | `(tactic| walk_at "evCa")=> `(tactic| first | with_reducible refine bZ (F:=E7) (by assumption) (by decide) ?_)
theorem Jt (Fu:fC K "_law_same" "_law_same" (top 30) f fd) (T:Txt K mg) (h1:fO P w K mg base 1 "_law_terms" E7):bz P w K mg base (dU P w) 2 f fd ["_law_found","_law_due_here"] (fM K Cf):=by
 refine dD Fu ye (by rintro ds r ⟨n,_,_,rfl,_⟩; rfl) (by rintro ds r ⟨n,_,_,_,rfl⟩; exact ⟨_,rfl⟩) λc hq ds sl hF=>?_
 obtain ⟨As,hl,hlen,rfl,e⟩:=hF
 injection e with e
 subst e
 show aQ c _ [.va (.tup (As.map aq)),.va (.tup (As.map aq)),.un] _ _
 conv in (ay _)=>whnf
 walk_at "ev"
 case refine_2 h=>exact absurd rfl h
 with_reducible refine cO hq (eV (Txt.range (by assumption)) ?_)
 walk_at "ev"
 ·exact ⟨by omega,by simp only [NX]; omega⟩
 refine ⟨λi ρ'=>∃ s2:Sl,ρ'=[.va (.tup (As.map aq)),.va (.tup (As.map aq)),s2],⟨_,rfl⟩,?_,?_⟩
 ·rintro c' lT wo wu i d ρ' hd ⟨s2,rfl⟩
  obtain ⟨hi,rfl⟩:=gO hd
  rw [NX,OH] at hi
  have hA:=hlen _ (Ow hi)
  have hat:jI (As.map aq) (i:Int)=some (aq As[i]):=by
   rw [d7 (by omega) (by simp; omega),OH,NZ,Od hi]; rfl
  generalize As[i]=A at hA hat
  walk_at "ev"
  refine iQ hat ?_
  walk_at "ev"
  refine aJ (LG hA) ?_
  walk_at "ev"
  refine iQ hat ?_
  walk_at "ev"
  refine iQ hat ?_
  walk_at "ev"
  refine lF (xP A A) ?_
  walk_at "ev"
  exact ⟨_,rfl⟩
 ·rintro ρ' ⟨s2,rfl⟩
  walk_at "ev"
  rfl
end
noncomputable def Mb:D:=.tup [.tup [.int 1],.int 5]
noncomputable def Nd:D:=.tup [.tup [],.int 0]
noncomputable def Cg (x:Addr×List D):Addr×List D:=(x.1,Nd::(x.2++[Mb]))
noncomputable def LJ (i:Nat) (L:List (Addr×List D)):List (Addr×List D):=(L.take i).map Cg++L.drop i
theorem Ci:∀ L:List (Addr×List D),xU (fX L)=some (L.map λx=>D.adr x.1)
 | []=>rfl
 | x::L=>by
  have:=Ci L
  unfold fX at this |-
  simp only [NW,xU,Sh.raw,this]
theorem tU (A B):fX (A++B)=fX A++fX B:=by unfold fX; rw [Ot]
theorem Cj (h:i<L.length):fX (LJ i L)=fX ((L.take i).map Cg)++.la L[i].1 L[i].2::fX (L.drop (i+1)):=by
 unfold LJ
 rw [tU,Tp h]
 rfl
theorem Ck (h:i<L.length):fX ((L.take i).map Cg)++.la L[i].1 (Nd::(L[i].2++[Mb]))::fX (L.drop (i+1))=fX (LJ (i+1) L):=by
 unfold LJ
 rw [tU,OU h,Ot,tU,Oh]
 rfl
def Cm (s:Sh):Prop:=∃ dss:List (List D),s=.t (dss.map .l)/\dss.length<=1000/\∀ ds∈dss,ds.length<=20000
theorem Cn (Fu:fC K "_law_spoil" "_law_spoil" (top 31) f fd):bz P w K mg base (dU P w) 1 f fd ["_law_found"] (JY K Cm):=by
 refine M8 Fu tH rfl (by decide) λc hq s hs=>?_
 obtain ⟨dss,rfl,hl,hd'⟩:=hs
 show aQ c _ [.fo (.t (dss.map .l)),.un] _ _
 conv in (ay _)=>whnf
 refine az (IC 0 (by walk_at "at") λL e=>?_)
 subst e
 show eG c _ [.fo (.t (fX L)),.un] _ _
 have hll:L.length<=1000:=by rw [<- NX (f:=(·.2))]; exact hl
 with_reducible refine cO hq (ck (IB (by walk_at "at") (by walk_at "at") (Ci L) ?_))
 refine ⟨_,rfl,λi ρ'=>ρ'=[.fo (.t (fX (LJ i L))),.un],rfl,?_,?_⟩
 ·rintro c' lT wo wu i d ρ' hd rfl
  simp only [NZ,N8] at hd
  obtain ⟨x,hx,rfl⟩:=hd
  obtain ⟨hi,rfl⟩:=N4.mp hx
  have hli:L[i].2.length<=20000:=hd' _ (Oi.mpr ⟨_,Ow hi,rfl⟩)
  refine cB (by walk_at "at") (jZ (by walk_at "sset") ?_)
  rw [Cj hi]
  refine Ba 0 1 (.z (.cons rfl .nil)) (by walk_at "at") ?_ (by decide)
  show aQ c' _ [.fo (.t (fX ((L.take i).map Cg)++.v (.adr L[i].1)::fX (L.drop (i+1)))),.aw L[i].1 L[i].2] _ _
  refine az ?_
  with_reducible refine sj (by walk_at "at") (by walk_at "at") (by walk_at "own") ?_
  generalize hG:(λρ''=>aQ c' _ ρ'' _ _)=G
  walk_at "ev"
  ·exact iD (by omega)
  subst hG
  refine az ?_
  with_reducible refine II (ds:=L[i].2++[Mb]) (by walk_at "at") (by walk_at "at") (by walk_at "own") ?_
  generalize hG:(λρ''=>aQ c' _ ρ'' _ _)=G
  walk_at "ev"
  ·exact iD (by simp; omega)
  subst hG
  show aQ c' _ [.fo (.t (fX ((L.take i).map Cg)++.v (.adr L[i].1)::fX (L.drop (i+1)))),.aw L[i].1 (Nd::(L[i].2++[Mb]))] _ _
  refine Bb 0 1 (.z (.cons rfl .nil)) (by walk_at "at") ?_ (by decide)
  refine n6 ?_
  show [Sl.fo (.t _),Sl.un]=_
  rw [Ck hi]
 ·rintro ρ' rfl
  exact n6 trivial
end
section
variable {P:Program} {w:World} {K:NR} {mg:Str->Option Value} {base:Heap}
structure mC (A:List aM):Prop where
 l:A.length<=3
 e:Ex 2 A
 b:Bn 100 A
theorem mC.Ju (h:mC A):cG A:=⟨N3 h.l (by decide),h.e.mono (by decide),h.b.mono (by decide)⟩
theorem Jv (r):(CB r).1.length<=6/\(∀ x∈(CB r).1,0<=x/\x<=2)/\(CB r).2.natAbs<2 ^ 50:=by
 unfold CB
 refine ⟨by show (3:Nat)<=6; decide,λx hx=>?_,?_⟩
 ·simp only [N9,Pg,or_false] at hx
  rcases hx with rfl | rfl | rfl <;> omega
 ·have h1:=Int.emod_lt_of_pos (r / 27) (b:=19) (by decide)
  have h2:=Int.emod_nonneg (r / 27) (b:=19) (by decide)
  have e9:(10:Int) ^ RN 9=1000000000:=by decide +kernel
  rw [e9]
  dsimp only
  split <;> omega
theorem tV (i) (r):∀ t∈(mz i r).1,t.1.length<=6/\(∀ x∈t.1,0<=x/\x<=2)/\t.2.natAbs<2 ^ 50:=by
 induction i with
 | zero=>intro t ht; cases ht
 | succ i ih =>
  intro t ht
  rcases Om.mp ht with h | h
  ·exact ih t h
  ·rw [Oa.mp h]; exact Jv _
theorem pe (n:Int):mC (rJ n) where
 l:=N3 (lB _) (by rw [ko]; omega)
 e:=Ex.jD λt ht=>⟨(tV _ _ t ht).1,(tV _ _ t ht).2.1⟩
 b:=(Bn.jD (m:=50) (λt ht=>(tV _ _ t ht).2.2) (by rw [ko]; omega)).mono (by decide)
theorem we:∀ {As:List (List aM)},(∀ A∈As,mC A)->bB As<=3 ^ As.length
 | [],_=>NT _
 | A::As,h=>by
  have h1:=(h A N2).l
  have h2:=we λB hB=>h B (N6 _ hB)
  show max A.length 1 * bB As<=_
  rw [Oz,Nat.pow_succ,QD]
  exact QB h2 (by omega)
theorem Jw {ps:List Part} (h:∀ p∈ps,p.1.natAbs<1000/\p.2.length<=6/\∀ A∈p.2,mC A) (hl:ps.length<=27):aW ps where
 p:=λp hp=>⟨OJ (h p hp).1 (N3 (by decide:1000<=2 ^ 10) (Ri (by decide) (by decide))),N3 (h p hp).2.1 (by decide),λA hA=>((h p hp).2.2 A hA).Ju⟩
 l:=N3 hl (by decide)
 s:=by
  have:∀ qs:List Part,(∀ p∈qs,p∈ps)->(qs.map λp=>bB p.2).sum<=729 * qs.length:=λqs=>by
   induction qs with
   | nil=>exact λ_=>NT _
   | cons q qs ih =>
    intro hq
    have h1:=ih λp hp=>hq p (N6 _ hp)
    have h2:=h q (hq q N2)
    have h3:bB q.2<=3 ^ 6:=N3 (we h2.2.2) (Ri (by decide) h2.2.1)
    rw [NW,P4,Oz]
    omega
  have:=this ps λ_ h=>h
  omega
local macro_rules | `(tactic| walk_at "ft")=> `(tactic| (refine lH (Em (jd (by assumption) (by decide) (by walk_at "at") (by walk_at "at") ?_)); walk_at "ev"))
noncomputable def cE (ps:List Part):List D:=(bM (gF ps)).map aR
noncomputable def outF (X:List (List Part)):Res:=.ok (.fo (.t (X.map λps=>.l (cE ps))))
noncomputable def tt (ps:List Part):List aM:=bM (gF ps)
noncomputable def dF (L:List (List aM)):D:=.tup (L.map aq)
noncomputable abbrev T3:=List aM×List aM×List aM
noncomputable def D3 (s:T3):D:=.tup [aq s.1,aq s.2.1,aq s.2.2]
noncomputable def eB (s:T3):List (List Part):=[[(1,[s.1,s.1]),(1,[s.2.1,s.2.1])],[(1,[s.1,s.2.2])],[(1,[s.2.1,s.2.2])],[(1,[s.2.2,s.2.2])]]
noncomputable def bN (s:T3):List (List aM):=[tt [(1,[s.1,s.1]),(1,[s.2.1,s.2.1])],tt [(1,[s.1,s.2.2])],tt [(1,[s.2.1,s.2.2])],tt [(1,[s.2.2,s.2.2])]]
noncomputable def Mc (X:List (List Part)):Sh:=.t (X.map λps=>.l (cE ps))
theorem LK (s:T3):(Mc (eB s)).d=dF (bN s):=rfl
noncomputable def E8 (P:Program) (w:World) (K:NR) (mg:Str->Option Value) (base:Heap):Fn:=λds r=>∃ (ad:Addr) (s:T3),l8 P w K mg base 4 ad mw/\(∀ ps∈eB s,aW ps)/\ds=[.adr ad,D3 s]/\r=.ok (.fo (Mc (eB s)))
theorem LL {ad:Addr} (hf:l8 P w K mg base 4 ad mw) (hh:∀ ps∈eB s,aW ps):E8 P w K mg base [.adr ad,D3 s] (.ok (.fo (Mc (eB s)))):=⟨ad,s,hf,hh,rfl,rfl⟩
theorem Jx (Fu:fC K "round_row" "round_row" (top 17) ff fd):bz P w K mg base (dU P w) 5 ff fd ["total","i"] (fM K (E8 P w K mg base)):=by
 refine dD Fu o5 (by rintro ds r ⟨ad,s,_,_,rfl,_⟩; rfl) (by rintro ds r ⟨ad,s,_,_,_,rfl⟩; exact ⟨_,rfl⟩) λk hq ds sl hF=>?_
 obtain ⟨fg,⟨a,b,c⟩,hg,hh,rfl,ee⟩:=hF
 injection ee with ee
 subst ee
 have h1:aW [(1,[a,a]),(1,[b,b])]:=hh _ (by simp [eB])
 have h2:aW [(1,[a,c])]:=hh _ (by simp [eB])
 have h3:aW [(1,[b,c])]:=hh _ (by simp [eB])
 have h4:aW [(1,[c,c])]:=hh _ (by simp [eB])
 show aQ k _ [.va (.adr fg),.va (.tup [aq a,aq b,aq c])] _ _
 conv in (ay _)=>whnf
 walk_at "evSs"
 refine fD (A8 ?_)
 walk_at "ft"
 refine aJ (jN h1) ⟨_,rfl,_,rfl,?_⟩
 walk_at "ft"
 refine aJ (jN h2) ⟨_,rfl,_,rfl,?_⟩
 walk_at "ft"
 refine aJ (jN h3) ⟨_,rfl,_,rfl,?_⟩
 walk_at "ft"
 refine aJ (jN h4) ⟨_,rfl,_,rfl,?_⟩
 refine FU ?_
 refine Sd.mk (cU (PX rfl)) ?_
 exact rfl
noncomputable def jF (k:Nat) (L:List (List aM)):List (List aM):=L.take k++L.drop (k+1)
theorem rK (xs:List α) (k:Nat):EV.cutD xs none (some (k:Int))=xs.take k:=by
 unfold EV.cutD
 rw [HT.pN,HT.um,SN,Nat.sub_zero]
 rcases Nat.le_total k xs.length with h | h
 ·rw [Qz h]
 ·rw [Nat.min_eq_right h,P9 (NT _),P9 h]
theorem Co (xs:List α) (k:Nat):EV.cutD xs (some (k:Int)) none=xs.drop k:=by
 unfold EV.cutD
 rw [HT.pN,HT.um]
 rcases Nat.le_total k xs.length with h | h
 ·rw [Qz h]
  exact P9 (by rw [Sw]; exact NT _)
 ·rw [Nat.min_eq_right h,List.drop_eq_nil_of_le (NT _),List.drop_eq_nil_of_le h]; exact List.take_nil
noncomputable def pq:Fn:=λds r=>∃ (Ls:List (List (List aM))) (k:Nat),Ls.length<=10/\(∀ L∈Ls,L.length<=10)/\ds=[.lst (Ls.map dF),.int (k:Int)]/\r=.ok (.ow (Ls.map λL=>dF (jF k L)))
theorem Gb {Ls:List (List (List aM))} (k:Nat) (h:Ls.length<=10) (h2:∀ L∈Ls,L.length<=10):pq [.lst (Ls.map dF),.int (k:Int)] (.ok (.ow (Ls.map λL=>dF (jF k L)))):=⟨Ls,k,h,h2,rfl,rfl⟩
theorem Jy (Fu:fC K "without_place" "without_place" (top 14) ff fd):bz P w K mg base (dU P w) 1 ff fd ["lines","place"] (fM K pq):=by
 refine dD Fu jC (by rintro ds r ⟨Ls,k,_,_,rfl,_⟩; rfl) (by rintro ds r ⟨Ls,k,_,_,_,rfl⟩; exact ⟨_,rfl⟩) λc hq ds sl hF=>?_
 obtain ⟨Ls,k,hl,hL,rfl,ee⟩:=hF
 injection ee with ee
 subst ee
 show aQ c _ [.va (.lst (Ls.map dF)),.va (.int (k:Int))] _ _
 conv in (ay _)=>whnf
 refine az (fD (dW hq (N':=["line","place"]) (ρ0:=λ_=>[.un,.va (.int (k:Int))]) (λt=>.un (.fr (by walk_at "at") (by walk_at "at") (by decide) rfl .nil)) (ck ?_)))
 walk_at "ev"
 ·exact qW (by rw [NX]; omega)
 refine ⟨Ls.map λL=>some (dF (jF k L)),by simp,?_,?_⟩
 ·intro c3 hc t n d o hd ho
  simp only [NZ,N8] at hd ho
  obtain ⟨L,hx,rfl⟩:=hd
  obtain ⟨L',hx',rfl⟩:=ho
  rw [hx] at hx'; cases hx'
  have h10:=hL L (O3 hx)
  refine cB (by walk_at "at") (jZ (by walk_at "sset") ⟨.un (.same .nil),?_⟩)
  simp only [jQ]
  refine ⟨λ_=>?_,λh=>by cases h⟩
  show aF _ _ [.va (.tup (L.map aq)),.va (.int (k:Int))] _
  have e1:EV.cutD (L.map aq) (some ((k:Int)+1)) none=(L.map aq).drop (k+1):=Co _ (k+1)
  walk_at "ev"
  ·rw [rK,e1,OW,Sw,NX]
   exact qW (by omega)
  ·rw [rK,e1]
   unfold dF jF
   rw [Ot,List.map_take,List.map_drop]
 ·rw [cL λL=>dF (jF k L)]
noncomputable def wg (X Y:List (List aM)) (p q:Nat):List Part:=[(1,[X.getD p [],Y.getD q []]),(-1,[X.getD q [],Y.getD p []])]
noncomputable def eE (X Y Z:List (List aM)) (p q r:Nat):List Part:=[(1,[X.getD p [],tt (wg Y Z q r)]),(-1,[X.getD q [],tt (wg Y Z p r)]),(1,[X.getD r [],tt (wg Y Z p q)])]
noncomputable def Me (P:Program) (w:World) (K:NR) (mg:Str->Option Value) (base:Heap):Fn:=λds r=>∃ (ad:Addr) (a b c d:List aM),l8 P w K mg base 4 ad mw/\aW [(1,[a,d]),(-1,[b,c])]/\ds=[.adr ad,.lst [dF [a,b],dF [c,d]]]/\r=.ok (.ow (cE [(1,[a,d]),(-1,[b,c])]))
theorem Jz {ad:Addr} (hf:l8 P w K mg base 4 ad mw) (hh:aW [(1,[a,d]),(-1,[b,c])]):Me P w K mg base [.adr ad,.lst [dF [a,b],dF [c,d]]] (.ok (.ow (cE [(1,[a,d]),(-1,[b,c])]))):=⟨ad,a,b,c,d,hf,hh,rfl,rfl⟩
section
local macro_rules | `(tactic| walk_at "evIx")=> `(tactic| first | ((with_reducible show aF _ (O5 _ (RB _ _ _) _) _ _); with_reducible refine kJ ?_))
theorem LM (Fu:fC K "determinant" "determinant" (top 15) ff fd) (T:Txt K mg):bz P w K mg base (dU P w) 5 ff fd ["total","lines"] (fM K (Me P w K mg base)):=by
 refine dD Fu gD (by rintro ds r ⟨ad,a,b,c,d,_,_,rfl,_⟩; rfl) (by rintro ds r ⟨ad,a,b,c,d,_,_,_,rfl⟩; exact ⟨_,rfl⟩) λk hq ds sl hF=>?_
 obtain ⟨fg,a,b,c,d,hg,hh,rfl,ee⟩:=hF
 injection ee with ee
 subst ee
 show aQ k _ [.va (.adr fg),.va (.lst [.tup [aq a,aq b],.tup [aq c,aq d]]),.un,.un,.un,.un] _ _
 conv in (ay _)=>whnf
 refine az (Dm ?_)
 refine BA (T':=λz=>z=true) ?_ ?_
 ·walk_at "ev"
  rfl
 ·rintro z rfl
  refine Fv ?_
  walk_at "evSs"
  refine fD (jd hg (by decide) (by walk_at "at") (by walk_at "at") ?_)
  walk_at "ev"
  exact aJ (jN hh) rfl
end
structure mD (X Y Z:List (List aM)) (p q r:Nat):Prop where
 a:aW (wg Y Z q r)
 b:aW (wg Y Z p r)
 c:aW (wg Y Z p q)
 d:aW (eE X Y Z p q r)
noncomputable def col (X:List (List aM)) (p q r:Nat):List (List aM):=[X.getD p [],X.getD q [],X.getD r []]
noncomputable def Mf (P:Program) (w:World) (K:NR) (mg:Str->Option Value) (base:Heap):Fn:=λds r=>∃ (ad:Addr) (X Y Z:List (List aM)) (p q s:Nat),l8 P w K mg base 4 ad mw/\mD X Y Z p q s/\ds=[.adr ad,.lst [dF (col X p q s),dF (col Y p q s),dF (col Z p q s)]]/\r=.ok (.ow (cE (eE X Y Z p q s)))
theorem Nf {ad:Addr} (hf:l8 P w K mg base 4 ad mw) (hh:mD X Y Z p q s):Mf P w K mg base [.adr ad,.lst [dF (col X p q s),dF (col Y p q s),dF (col Z p q s)]] (.ok (.ow (cE (eE X Y Z p q s)))):=⟨ad,X,Y,Z,p,q,s,hf,hh,rfl,rfl⟩
section
local macro_rules | `(tactic| walk_at "evIx")=> `(tactic| first | ((with_reducible show aF _ (O5 _ (RB _ _ _) _) _ _); with_reducible refine kJ ?_))
local macro_rules | `(tactic| walk_at "evCa")=> `(tactic| first
 | with_reducible refine bZ (F:=Me P w K mg base) (by assumption) (by decide) ?_
 | with_reducible refine bZ (F:=pq) (by assumption) (by decide) ?_)
theorem LN (Fu:fC K "determinant" "determinant" (top 15) ff fd) (T:Txt K mg) (h1:fO P w K mg base 1 "without_place" pq) (h2:fO P w K mg base 5 "determinant" (Me P w K mg base)):bz P w K mg base (dU P w) 6 ff fd ["total","lines"] (fM K (Mf P w K mg base)):=by
 refine dD Fu gD (by rintro ds r ⟨ad,X,Y,Z,p,q,s,_,_,rfl,_⟩; rfl) (by rintro ds r ⟨ad,X,Y,Z,p,q,s,_,_,_,rfl⟩; exact ⟨_,rfl⟩) λc hq ds sl hF=>?_
 obtain ⟨fg,X,Y,Z,p,q,s,hg,hh,rfl,ee⟩:=hF
 injection ee with ee
 subst ee
 show aQ c _ [.va (.adr fg),.va (.lst [dF (col X p q s),dF (col Y p q s),dF (col Z p q s)]),.un,.un,.un,.un] _ _
 conv in (ay _)=>whnf
 refine az (Dm ?_)
 refine BA (T':=λz=>z=false) ?_ ?_
 ·walk_at "ev"
  rfl
 rintro z rfl
 refine Fw ?_
 refine n6 ?_
 refine az ?_
 generalize hG:(λρ'=>aQ c _ ρ' _ _)=G
 walk_at "ev"
 subst hG
 refine az ?_
 generalize hG:(λρ'=>aQ c _ ρ' _ _)=G
 walk_at "ev"
 subst hG
 refine az ?_
 with_reducible refine cO hq (AQ (Txt.enum T) ?_)
 walk_at "ev"
 refine ⟨[aq (X.getD p []),aq (X.getD q []),aq (X.getD s [])],rfl,?_⟩
 refine ⟨λi ρ'=>∃ s4 s5:Sl,s4.uz=false/\s5.uz=false/\ρ'=[.va (.adr fg),.va (.lst [dF (col X p q s),dF (col Y p q s),dF (col Z p q s)]),.ow (((eE X Y Z p q s).take i).map fJ),.va (.int (if i % 2=0 then 1 else -1)),s4,s5],⟨_,_,rfl,rfl,rfl⟩,?_,?_⟩
 ·rintro c' lT wo wu i dd ρ' hd ⟨s4,s5,h4,h5,rfl⟩
  have wk:∀ n:Nat,pq [.lst [dF (col Y p q s),dF (col Z p q s)],.int (n:Int)] (.ok (.ow ([col Y p q s,col Z p q s].map λL=>dF (jF n L)))):=λn=>Gb (Ls:=[col Y p q s,col Z p q s]) n (by show (2:Nat)<=10; decide) (by intro L hL; simp only [N9,Pg,or_false] at hL; rcases hL with rfl | rfl <;> (show (3:Nat)<=10; decide))
  match i,hd with
  | 0,hd =>
   cases hd
   refine uG rfl (by walk_at "u") ?_
   walk_at "ev"
   refine aJ (wk 0) ?_
   walk_at "ev"
   refine aJ (Jz (a:=Y.getD q []) (b:=Y.getD s []) (c:=Z.getD q []) (d:=Z.getD s []) hg hh.a) ?_
   walk_at "ev"
   ·exact cU (PX rfl)
   exact ⟨_,_,rfl,rfl,rfl⟩
  | 1,hd =>
   cases hd
   refine uG rfl (by walk_at "u") ?_
   walk_at "ev"
   refine aJ (wk 1) ?_
   walk_at "ev"
   refine aJ (Jz (a:=Y.getD p []) (b:=Y.getD s []) (c:=Z.getD p []) (d:=Z.getD s []) hg hh.b) ?_
   walk_at "ev"
   ·exact cU (PX rfl)
   exact ⟨_,_,rfl,rfl,rfl⟩
  | 2,hd =>
   cases hd
   refine uG rfl (by walk_at "u") ?_
   walk_at "ev"
   refine aJ (wk 2) ?_
   walk_at "ev"
   refine aJ (Jz (a:=Y.getD p []) (b:=Y.getD q []) (c:=Z.getD p []) (d:=Z.getD q []) hg hh.c) ?_
   walk_at "ev"
   ·exact cU (PX rfl)
   exact ⟨_,_,rfl,rfl,rfl⟩
 ·rintro ρ' ⟨s4,s5,h4,h5,rfl⟩
  refine cW 2 (d0:=.lst ((eE X Y Z p q s).map fJ)) (by walk_at "at") rfl (by walk_at "sset") ?_
  walk_at "evSs"
  refine fD (jd hg (by decide) (by walk_at "at") (by walk_at "at") ?_)
  walk_at "ev"
  exact aJ (jN hh.d) rfl
end
theorem JA (h:X.length=4):jF 0 X=col X 1 2 3/\jF 1 X=col X 0 2 3/\jF 2 X=col X 0 1 3/\jF 3 X=col X 0 1 2:=by
 match X,h with
 | [a,b,c,d],_=>exact ⟨rfl,rfl,rfl,rfl⟩
theorem wj (hX:X.length=4) (hY:Y.length=4) (hZ:Z.length=4) (cX:jF n X=col X p q s) (cY:jF n Y=col Y p q s) (cZ:jF n Z=col Z p q s):pq [.lst [dF X,dF Y,dF Z],.int (n:Int)] (.ok (.ow [dF (col X p q s),dF (col Y p q s),dF (col Z p q s)])):=by
 have h:=Gb (Ls:=[X,Y,Z]) n (by show (3:Nat)<=10; decide) (by intro L hL; simp only [N9,Pg,or_false] at hL; rcases hL with rfl | rfl | rfl <;> omega)
 rw [NW,NW,NW,PF,NW,NW,NW,PF,cX,cY,cZ] at h
 exact h
noncomputable def JB (X Y Z:List (List aM)):List (List Part):=[eE X Y Z 1 2 3,[(-1,[tt (eE X Y Z 0 2 3)])],eE X Y Z 0 1 3,[(-1,[tt (eE X Y Z 0 1 2)])]]
structure Nv (X Y Z:List (List aM)):Prop where
 a:mD X Y Z 1 2 3
 b:mD X Y Z 0 2 3
 c:mD X Y Z 0 1 3
 d:mD X Y Z 0 1 2
 e:aW [(-1,[tt (eE X Y Z 0 2 3)])]
 f:aW [(-1,[tt (eE X Y Z 0 1 2)])]
structure Cp (s t u:T3):Prop where
 hs:∀ ps∈eB s,aW ps
 ht:∀ ps∈eB t,aW ps
 hu:∀ ps∈eB u,aW ps
 hq:Nv (bN s) (bN t) (bN u)
noncomputable def JC (s t u:T3):List (List Part):=JB (bN s) (bN t) (bN u)
theorem E9 {L:List (Addr×List D)} (h:L.map (·.2)=[d0,d1,d2,d3]):∃ a0 a1 a2 a3,L=[(a0,d0),(a1,d1),(a2,d2),(a3,d3)]:=by
 match L,h with
 | [(a0,_),(a1,_),(a2,_),(a3,_)],h=>cases h; exact ⟨_,_,_,_,rfl⟩
noncomputable def Ng (P:Program) (w:World) (K:NR) (mg:Str->Option Value) (base:Heap):Fn:=λds r=>∃ (ad:Addr) (s t u:T3),l8 P w K mg base 4 ad mw/\Cp s t u/\ds=[.adr ad,D3 s,D3 t,D3 u]/\r=outF (JC s t u)
section
local macro_rules | `(tactic| walk_at "evCa")=> `(tactic| first | with_reducible refine bZ (F:=pq) (by assumption) (by decide) ?_)
local macro_rules | `(tactic| walk_at "evIx")=> `(tactic| first | ((with_reducible show aF _ (O5 _ (RB _ _ _) _) _ _); with_reducible refine kJ ?_))
theorem LO (Fu:fC K "three_rule" "three_rule" (top 18) ff fd) (T:Txt K mg) (h1:fO P w K mg base 5 "round_row" (E8 P w K mg base)) (h2:fO P w K mg base 1 "without_place" pq) (h3:fO P w K mg base 6 "determinant" (Mf P w K mg base)):bz P w K mg base (dU P w) 7 ff fd ["total","i","j","k"] (fM K (Ng P w K mg base)):=by
 refine dD Fu mq (by rintro ds r ⟨ad,s,t,u,_,_,rfl,_⟩; rfl) (by rintro ds r ⟨ad,s,t,u,_,_,_,rfl⟩; exact ⟨_,rfl⟩) λc hq ds sl hF=>?_
 obtain ⟨fg,s,t,u,hg,hh,rfl,ee⟩:=hF
 injection ee with ee
 subst ee
 show aQ c _ [.va (.adr fg),.va (D3 s),.va (D3 t),.va (D3 u),.un,.un] _ _
 conv in (ay _)=>whnf
 refine az (IQ (by walk_at "at") (dW hq (N':=["point","total"]) (ρ0:=λ_=>[.un,.va (.adr fg)]) (λt=>.un (.fr (by walk_at "at") (by walk_at "at") (by decide) rfl .nil)) (ck ?_)))
 generalize hG:(λρ'=>aQ c _ ρ' _ _)=G
 walk_at "ev"
 refine ⟨[some (dF (bN s)),some (dF (bN t)),some (dF (bN u))],rfl,?_,?_⟩
 ·intro c3 hc3 t' j d o hd ho
  obtain ⟨v,hv,rfl,rfl⟩:∃ v:T3,(∀ ps∈eB v,aW ps)/\d=D3 v/\o=some (dF (bN v)):=by
   match j,hd,ho with
   | 0,hd,ho=>cases hd; cases ho; exact ⟨_,hh.hs,rfl,rfl⟩
   | 1,hd,ho=>cases hd; cases ho; exact ⟨_,hh.ht,rfl,rfl⟩
   | 2,hd,ho=>cases hd; cases ho; exact ⟨_,hh.hu,rfl,rfl⟩
  refine cB (by walk_at "at") (jZ (by walk_at "sset") ⟨.un (.same .nil),?_⟩)
  simp only [jQ]
  refine ⟨λ_=>?_,λh=>by cases h⟩
  refine F3 (x_call (x:=NQ "round_row") (F:=E8 P w K mg base) h1 (by decide) ?_)
  walk_at "ev"
  refine aJ (LL hg hv) ⟨_,rfl,?_⟩
  rw [LK]
 refine jZ (by walk_at "sset") ?_
 subst hG
 refine cW 4 (d0:=.lst [dF (bN s),dF (bN t),dF (bN u)]) (by walk_at "at") rfl (by walk_at "sset") ?_
 have hX:(bN s).length=4:=rfl
 have hY:(bN t).length=4:=rfl
 have hZ:(bN u).length=4:=rfl
 have hk:=hh.hq
 show aQ c _ _ _ { rt:=λr=>r=Sl.fo (Mc (JB (bN s) (bN t) (bN u))) }
 clear hh
 generalize bN s=X at *
 generalize bN t=Y at *
 generalize bN u=Z at *
 have cX:=JA hX
 have cY:=JA hY
 have cZ:=JA hZ
 refine az (EE (by walk_at "at") hq (N':=["place","total","rows"]) (ρ0:=λ_=>[.un,.va (.adr fg),.va (.lst [dF X,dF Y,dF Z])]) (λt=>.un (.fr (by walk_at "at") (by walk_at "at") (by decide) rfl (.fr (by walk_at "at") (by walk_at "at") (by decide) rfl .nil))) (eV (Txt.range T) ?_))
 generalize hG:(λρ'=>aQ c _ ρ' _ _)=G
 walk_at "ev"
 ·exact ⟨by decide,by decide⟩
 refine ⟨[.l (cE (eE X Y Z 1 2 3)),.l (cE (eE X Y Z 0 2 3)),.l (cE (eE X Y Z 0 1 3)),.l (cE (eE X Y Z 0 1 2))],rfl,?_,?_⟩
 ·intro c3 hc3 t' j d o hd ho
  obtain ⟨p,q,r,hw,hk,rfl,rfl⟩:∃ p q r:Nat,pq [.lst [dF X,dF Y,dF Z],.int (j:Int)] (.ok (.ow [dF (col X p q r),dF (col Y p q r),dF (col Z p q r)]))/\mD X Y Z p q r/\d=.int (j:Int)/\o=.l (cE (eE X Y Z p q r)):=by
   match j,hd,ho with
   | 0,hd,ho=>cases hd; cases ho; exact ⟨_,_,_,wj hX hY hZ cX.1 cY.1 cZ.1,hk.a,rfl,rfl⟩
   | 1,hd,ho=>cases hd; cases ho; exact ⟨_,_,_,wj hX hY hZ cX.2.1 cY.2.1 cZ.2.1,hk.b,rfl,rfl⟩
   | 2,hd,ho=>cases hd; cases ho; exact ⟨_,_,_,wj hX hY hZ cX.2.2.1 cY.2.2.1 cZ.2.2.1,hk.c,rfl,rfl⟩
   | 3,hd,ho=>cases hd; cases ho; exact ⟨_,_,_,wj hX hY hZ cX.2.2.2 cY.2.2.2 cZ.2.2.2,hk.d,rfl,rfl⟩
  refine cB (by walk_at "at") (jZ (by walk_at "sset") ⟨.un (.same (.same .nil)),?_⟩)
  refine Em (x_call (x:=NQ "determinant") (F:=Mf P w K mg base) h3 (by decide) ?_)
  walk_at "ev"
  refine aJ hw ?_
  walk_at "ev"
  exact aJ (Nf hg hk) ⟨_,rfl,rfl⟩
 refine jZ (by walk_at "sset") ?_
 subst hG
 refine az (IM 5 (dss:=[cE (eE X Y Z 1 2 3),cE (eE X Y Z 0 2 3),cE (eE X Y Z 0 1 3),cE (eE X Y Z 0 1 2)]) (.s (.s (.s (.s (.s .z))))) λL eL=>?_)
 obtain ⟨a0,a1,a2,a3,rfl⟩:=E9 eL
 show eG c _ [.va (.adr fg),.va (D3 s),.va (D3 t),.va (D3 u),.va (.lst [dF X,dF Y,dF Z]),.fo (.ls [.la a0 (cE (eE X Y Z 1 2 3)),.la a1 (cE (eE X Y Z 0 2 3)),.la a2 (cE (eE X Y Z 0 1 3)),.la a3 (cE (eE X Y Z 0 1 2))])] _ _
 have g5:EB [.va (.adr fg),.va (D3 s),.va (D3 t),.va (D3 u),.va (.lst [dF X,dF Y,dF Z]),.fo (.ls [.la a0 (cE (eE X Y Z 1 2 3)),.la a1 (cE (eE X Y Z 0 2 3)),.la a2 (cE (eE X Y Z 0 1 3)),.la a3 (cE (eE X Y Z 0 1 2))])] 5 _:=iE.g (.s rfl (.s rfl (.s rfl (.s rfl (.s rfl (.z .nil))))))
 refine IP 5 (by walk_at "at") (A8 ?_)
 refine lH (Ft (F6 (m:=0) (by walk_at "at") (by walk_at "at") rfl rfl ⟨_,rfl,?_⟩))
 refine lH (Em (BC 5 g5 (by walk_at "sset") (jd hg (by decide) (by walk_at "at") (by walk_at "at") ?_)))
 show nY c _ [_,_,_,_,_,.va (.lst [.lst (cE (eE X Y Z 1 2 3)),.lst (cE (eE X Y Z 0 2 3)),.lst (cE (eE X Y Z 0 1 3)),.lst (cE (eE X Y Z 0 1 2))])] _
 walk_at "ev"
 refine aJ (jN hk.e) ⟨_,rfl,cV λx _=>gE x,_,rfl,_,rfl,?_⟩
 refine lH (Ft (F6 (m:=2) (by walk_at "at") (by walk_at "at") rfl rfl ⟨_,rfl,?_⟩))
 refine lH (Em (BC 5 g5 (by walk_at "sset") (jd hg (by decide) (by walk_at "at") (by walk_at "at") ?_)))
 show nY c _ [_,_,_,_,_,.va (.lst [.lst (cE (eE X Y Z 1 2 3)),.lst (cE (eE X Y Z 0 2 3)),.lst (cE (eE X Y Z 0 1 3)),.lst (cE (eE X Y Z 0 1 2))])] _
 walk_at "ev"
 refine aJ (jN hk.f) ⟨_,rfl,cV λx _=>gE x,_,rfl,_,rfl,?_⟩
 refine FU ?_
 refine Sd.mk (cU (PX rfl)) ?_
 exact ⟨_,_,rfl,IL,rfl⟩
end
noncomputable def J0:Fn:=λds r=>∃ s t u:T3,Cp s t u/\ds=[D3 s,D3 t,D3 u]/\r=outF (JC s t u)
theorem Nh (h:Cp s t u):J0 [D3 s,D3 t,D3 u] (outF (JC s t u)):=⟨s,t,u,h,rfl,rfl⟩
theorem LP (Fu:fC K "three_circle" "three_circle" (top 19) ff fd) (h1:fO P w K mg base 4 "poly_total" mw) (h2:fO P w K mg base 7 "three_rule" (Ng P w K mg base)):bz P w K mg base (dU P w) 8 ff fd ["i","j","k"] (fM K J0):=by
 refine dD Fu jV (by rintro ds r ⟨s,t,u,_,rfl,_⟩; rfl) (by rintro ds r ⟨s,t,u,_,_,rfl⟩; exact ⟨_,rfl⟩) λc hq ds sl hF=>?_
 obtain ⟨s,t,u,hh,rfl,ee⟩:=hF
 injection ee with ee
 subst ee
 obtain ⟨fg,hm,hg⟩:=h1.at_
 show aQ c _ [.va (D3 s),.va (D3 t),.va (D3 u)] _ _
 conv in (ay _)=>whnf
 walk_at "evSs"
 refine fD (x_call (F:=Ng P w K mg base) h2 (by decide) ?_)
 refine eU (Iv hm ?_)
 walk_at "ev"
 exact aJ ⟨fg,s,t,u,hg,hh,rfl,rfl⟩ rfl
end
section
variable {P:Program} {w:World} {K:NR} {mg:Str->Option Value} {base:Heap}
theorem fW {X:List (List aM)} (h:p<X.length):jI (X.map aq) (p:Int)=some (aq (X.getD p [])):=by
 rw [d7 (by omega) (by rw [NX]; omega),OH,NZ,Od h,OY,Od h]
 rfl
noncomputable def Fb:Fn:=λds r=>∃ s:T3,(∀ ps∈eB s,aW ps)/\ds=[D3 s]/\r=.ok (.ow ((bN s).map aq))
theorem Cq (h:∀ ps∈eB s,aW ps):Fb [D3 s] (.ok (.ow ((bN s).map aq))):=⟨s,h,rfl,rfl⟩
section
local macro_rules | `(tactic| walk_at "evCa")=> `(tactic| first | with_reducible refine bZ (F:=rH) (by assumption) (by decide) ?_)
theorem JD (Fu:fC K "_law_line" "_law_line" (top 32) ff fd) (h1:fO P w K mg base 3 "_law_sum" rH):bz P w K mg base (dU P w) 4 ff fd ["_law_i"] (fM K Fb):=by
 refine dD Fu yf (by rintro ds r ⟨s,_,rfl,_⟩; rfl) (by rintro ds r ⟨s,_,_,rfl⟩; exact ⟨_,rfl⟩) λk hq ds sl hF=>?_
 obtain ⟨⟨a,b,c⟩,hh,rfl,ee⟩:=hF
 injection ee with ee
 subst ee
 have q1:aW [(1,[a,a]),(1,[b,b])]:=hh _ (by simp [eB])
 have q2:aW [(1,[a,c])]:=hh _ (by simp [eB])
 have q3:aW [(1,[b,c])]:=hh _ (by simp [eB])
 have q4:aW [(1,[c,c])]:=hh _ (by simp [eB])
 show aQ k _ [.va (.tup [aq a,aq b,aq c]),.un,.un,.un,.un] _ _
 conv in (ay _)=>whnf
 refine az ?_
 generalize hG:(λρ'=>aQ k _ ρ' _ _)=G
 walk_at "ev"
 subst hG
 refine az ?_
 generalize hG:(λρ'=>aQ k _ ρ' _ _)=G
 walk_at "ev"
 refine aJ (lM q1) (cJ ?_)
 walk_at "ev"
 refine aJ (lM q2) (cJ ?_)
 walk_at "ev"
 subst hG
 refine cW 4 (d0:=.lst [aq (tt [(1,[a,a]),(1,[b,b])]),aq (tt [(1,[a,c])])]) (by walk_at "at") rfl (by walk_at "sset") ?_
 walk_at "ev"
 refine aJ (lM q3) (cJ ?_)
 walk_at "ev"
 refine aJ (lM q4) (cJ ?_)
 walk_at "ev"
 rfl
end
noncomputable def Fc:Fn:=λds r=>∃ (X Y:List (List aM)) (p q:Nat),X.length=4/\Y.length=4/\p<4/\q<4/\aW (wg X Y p q)/\ds=[.lst (X.map aq),.lst (Y.map aq),.int (p:Int),.int (q:Int)]/\r=.ok (.ow (cE (wg X Y p q)))
theorem Cr (hX:X.length=4) (hY:Y.length=4) (hp:p<4) (hq:q<4) (h:aW (wg X Y p q)):Fc [.lst (X.map aq),.lst (Y.map aq),.int (p:Int),.int (q:Int)] (.ok (.ow (cE (wg X Y p q)))):=⟨X,Y,p,q,hX,hY,hp,hq,h,rfl,rfl⟩
section
local macro_rules | `(tactic| walk_at "evIx")=> `(tactic| first | ((with_reducible show aF _ (O5 (Oc _ _) _ _) _ _); with_reducible refine kJ ?_))
local macro_rules | `(tactic| walk_at "evXC")=> `(tactic| first | with_reducible refine x_call (x:=NQ "_law_sum") (F:=rH) (by assumption) (by decide) ?_)
theorem JE (Fu:fC K "_law_two" "_law_two" (top 33) ff fd) (h1:fO P w K mg base 3 "_law_sum" rH):bz P w K mg base (dU P w) 4 ff fd ["_law_two_here","_law_three","_law_p","_law_q"] (fM K Fc):=by
 refine dD Fu BE (by rintro ds r ⟨X,Y,p,q,_,_,_,_,_,rfl,_⟩; rfl) (by rintro ds r ⟨X,Y,p,q,_,_,_,_,_,_,rfl⟩; exact ⟨_,rfl⟩) λk hk ds sl hF=>?_
 obtain ⟨X,Y,p,q,hX,hY,hp,hq,hh,rfl,ee⟩:=hF
 injection ee with ee
 subst ee
 have aX:=fW (X:=X) (p:=p) (by omega)
 have bX:=fW (X:=X) (p:=q) (by omega)
 have aY:=fW (X:=Y) (p:=p) (by omega)
 have bY:=fW (X:=Y) (p:=q) (by omega)
 show aQ k _ [.va (.lst (X.map aq)),.va (.lst (Y.map aq)),.va (.int (p:Int)),.va (.int (q:Int))] _ _
 conv in (ay _)=>whnf
 walk_at "ev"
 refine gi aX ?_
 walk_at "ev"
 refine gi bY ?_
 walk_at "ev"
 refine gi bX ?_
 walk_at "ev"
 refine gi aY ?_
 walk_at "ev"
 exact aJ (lM hh) rfl
end
noncomputable def Ge (X Y Z:List (List aM)):List (List aM):=[tt [(1,[tt (eE X Y Z 1 2 3)])],tt [(-1,[tt (eE X Y Z 0 2 3)])],tt [(1,[tt (eE X Y Z 0 1 3)])],tt [(-1,[tt (eE X Y Z 0 1 2)])]]
structure JF (X Y Z:List (List aM)):Prop where
 q:Nv X Y Z
 a:aW [(1,[tt (eE X Y Z 1 2 3)])]
 c:aW [(1,[tt (eE X Y Z 0 1 3)])]
theorem JG (h:JF X Y Z) {n:Nat} (hn:n<4):∃ (p q r:Nat) (g:Int),p<4/\q<4/\r<4/\((OD 4).map λi=>if i=n then none else some (D.int (i:Int))).filterMap id=[.int (p:Int),.int (q:Int),.int (r:Int)]/\mD X Y Z p q r/\aW [(g,[tt (eE X Y Z p q r)])]/\(Ge X Y Z)[n]?=some (tt [(g,[tt (eE X Y Z p q r)])])/\jI [D.int 1,D.int (-1)] ((n:Int) % 2)=some (.int g):=by
 match n,hn with
 | 0,_=>exact ⟨1,2,3,1,by decide,by decide,by decide,rfl,h.q.a,h.a,rfl,rfl⟩
 | 1,_=>exact ⟨0,2,3,-1,by decide,by decide,by decide,rfl,h.q.b,h.q.e,rfl,rfl⟩
 | 2,_=>exact ⟨0,1,3,1,by decide,by decide,by decide,rfl,h.q.c,h.c,rfl,rfl⟩
 | 3,_=>exact ⟨0,1,2,-1,by decide,by decide,by decide,rfl,h.q.d,h.q.f,rfl,rfl⟩
structure wm (s t u:T3):Prop where
 hs:∀ ps∈eB s,aW ps
 ht:∀ ps∈eB t,aW ps
 hu:∀ ps∈eB u,aW ps
 hd:JF (bN s) (bN t) (bN u)
noncomputable def J1:Fn:=λds r=>∃ s t u:T3,wm s t u/\ds=[D3 s,D3 t,D3 u]/\r=.ok (.va (.tup ((Ge (bN s) (bN t) (bN u)).map aq)))
theorem Ni (h:wm s t u):J1 [D3 s,D3 t,D3 u] (.ok (.va (.tup ((Ge (bN s) (bN t) (bN u)).map aq)))):=⟨s,t,u,h,rfl,rfl⟩
section
local macro_rules | `(tactic| walk_at "evCa")=> `(tactic| first
 | with_reducible refine bZ (F:=rH) (by assumption) (by decide) ?_
 | with_reducible refine bZ (F:=Fc) (by assumption) (by decide) ?_)
local macro_rules | `(tactic| walk_at "evXC")=> `(tactic| first | with_reducible refine x_call (x:=NQ "_law_line") (F:=Fb) (by assumption) (by decide) ?_)
local macro_rules | `(tactic| walk_at "evIx")=> `(tactic| first
 | ((with_reducible show aF _ (O5 (Oc _ _) _ _) _ _); with_reducible refine kJ ?_)
 | ((with_reducible show aF _ (O5 (Expr.List _ _) _ _) _ _); with_reducible refine kJ ?_))
theorem LQ (Fu:fC K "_law_due" "_law_due" (top 34) ff fd) (T:Txt K mg) (h1:fO P w K mg base 3 "_law_sum" rH) (h2:fO P w K mg base 4 "_law_line" Fb) (h3:fO P w K mg base 4 "_law_two" Fc):bz P w K mg base (dU P w) 5 ff fd ["_law_i","_law_j","_law_k"] (fM K J1):=by
 refine dD Fu BF (by rintro ds r ⟨s,t,u,_,rfl,_⟩; rfl) (by rintro ds r ⟨s,t,u,_,_,rfl⟩; exact ⟨_,rfl⟩) λc hq ds sl hF=>?_
 obtain ⟨s,t,u,hh,rfl,ee⟩:=hF
 injection ee with ee
 subst ee
 show aQ c _ [.va (D3 s),.va (D3 t),.va (D3 u),.un,.un,.un,.un,.un,.un,.un] _ _
 conv in (ay _)=>whnf
 refine az ?_
 generalize hG:(λρ'=>aQ c _ ρ' _ _)=G
 walk_at "ev"
 refine aJ (Cq hh.hs) ?_
 walk_at "ev"
 subst hG
 refine cW 3 (d0:=.lst ((bN s).map aq)) (by walk_at "at") rfl (by walk_at "sset") ?_
 refine az ?_
 generalize hG:(λρ'=>aQ c _ ρ' _ _)=G
 walk_at "ev"
 refine aJ (Cq hh.ht) ?_
 walk_at "ev"
 subst hG
 refine cW 4 (d0:=.lst ((bN t).map aq)) (by walk_at "at") rfl (by walk_at "sset") ?_
 refine az ?_
 generalize hG:(λρ'=>aQ c _ ρ' _ _)=G
 walk_at "ev"
 refine aJ (Cq hh.hu) ?_
 walk_at "ev"
 subst hG
 refine cW 5 (d0:=.lst ((bN u).map aq)) (by walk_at "at") rfl (by walk_at "sset") ?_
 have hX:(bN s).length=4:=rfl
 have hY:(bN t).length=4:=rfl
 have hZ:(bN u).length=4:=rfl
 have hk:=hh.hd
 clear hh
 generalize bN s=X at *
 generalize bN t=Y at *
 generalize bN u=Z at *
 refine az ?_
 generalize hG:(λρ'=>aQ c _ ρ' _ _)=G
 walk_at "ev"
 subst hG
 refine az ?_
 with_reducible refine cO hq (eV (Txt.range (by assumption)) ?_)
 walk_at "ev"
 ·exact ⟨by decide,by decide⟩
 refine ⟨λn ρ'=>∃ s7 s8 s9:Sl,s7.uz=false/\s8.uz=false/\s9.uz=false/\ρ'=[.va (D3 s),.va (D3 t),.va (D3 u),.va (.lst (X.map aq)),.va (.lst (Y.map aq)),.va (.lst (Z.map aq)),.ow (((Ge X Y Z).take n).map aq),s7,s8,s9],⟨_,_,_,rfl,rfl,rfl,rfl⟩,?_,?_⟩
 ·rintro c' lT wo wu n dd ρ' hd ⟨s7,s8,s9,h7,h8,h9,rfl⟩
  have hq':c'.X.xe=λ_ _=>False:=by rw [lT]; exact hq
  obtain ⟨hi,rfl⟩:=gO hd
  obtain ⟨p,q,r,g,hp,hq2,hr,el,hok,hto,eg,ea⟩:=JG hk (n:=n) hi
  refine cB (by walk_at "at") (jZ (by walk_at "sset") ?_)
  refine az (Aa (by walk_at "at") hq' (N':=["_law_number","_law_place"]) (ρ0:=λ_=>[.un,.va (.int (n:Int))]) (λt=>.un (.fr (by walk_at "at") (by walk_at "at") (by decide) rfl .nil)) (eV (Txt.range T) ?_))
  generalize hG:(λρ'=>aQ c' _ ρ' _ _)=G
  walk_at "ev"
  ·exact ⟨by decide,by decide⟩
  refine ⟨(OD 4).map λi=>if i=n then none else some (D.int (i:Int)),rfl,?_,?_⟩
  ·intro c3 hc3 t' j d o hd ho
   obtain ⟨hj,rfl⟩:=gO hd
   rw [NZ,Qs (show j<4 from hj)] at ho
   cases ho
   refine cB (by walk_at "at") (jZ (by walk_at "sset") ⟨.un (.same .nil),?_⟩)
   simp only [jQ]
   refine BA (T':=λb=>b= !decide (j=n)) ?_ ?_
   ·walk_at "ev"
    rw [show decide ((j:Int)=(n:Int))=decide (j=n) from decide_eq_decide.mpr Int.ofNat_inj]
   ·rintro b rfl
    by_cases e:j=n
    ·rw [decide_eq_true e,if_pos e]
     exact ⟨λh=>by (cases h),λ_=>⟨λh=>by (cases h),λ_=>rfl⟩⟩
    ·rw [decide_eq_false e,if_neg e]
     refine ⟨λ_=>⟨λ_=>?_,λh=>by cases h⟩,λh=>by cases h⟩
     walk_at "ev"
     rfl
  rw [el]
  refine jZ (by walk_at "sset") ?_
  subst hG
  refine cW 8 (d0:=.lst [.int (p:Int),.int (q:Int),.int (r:Int)]) (by walk_at "at") rfl (by walk_at "sset") ?_
  have aX:=fW (X:=X) (p:=p) (by omega)
  have bX:=fW (X:=X) (p:=q) (by omega)
  have cX:=fW (X:=X) (p:=r) (by omega)
  refine az ?_
  generalize hG:(λρ'=>aQ c' _ ρ' _ _)=G
  walk_at "ev"
  refine gi aX ?_
  walk_at "ev"
  refine aJ (Cr hY hZ hq2 hr hok.a) (cJ ?_)
  walk_at "ev"
  subst hG
  refine az ?_
  generalize hG:(λρ'=>aQ c' _ ρ' _ _)=G
  walk_at "ev"
  refine gi bX ?_
  walk_at "ev"
  refine aJ (Cr hY hZ hp hr hok.b) (cJ ?_)
  walk_at "ev"
  ·exact cU (PX rfl)
  subst hG
  refine az ?_
  generalize hG:(λρ'=>aQ c' _ ρ' _ _)=G
  walk_at "ev"
  refine gi cX ?_
  walk_at "ev"
  refine aJ (Cr hY hZ hp hq2 hok.c) (cJ ?_)
  walk_at "ev"
  ·exact cU (PX rfl)
  subst hG
  refine cW 9 (d0:=.lst ((eE X Y Z p q r).map lK)) (by walk_at "at") rfl (by walk_at "sset") ?_
  refine az ?_
  generalize hG:(λρ'=>aQ c' _ ρ' _ _)=G
  walk_at "ev"
  refine gi ea ?_
  walk_at "ev"
  refine aJ (lM hok.d) (cJ ?_)
  walk_at "ev"
  refine aJ (lM (ps:=[(g,[tt (eE X Y Z p q r)])]) hto) (cJ ?_)
  walk_at "ev"
  ·have hl:(((Ge X Y Z).take n).map aq).length<=n:=by rw [NX,OW]; exact Nat.min_le_left _ _
   exact PM hl (OJ hi (cU (PX rfl)))
  subst hG
  walk_at "ev"
  refine ⟨.va (.int (n:Int)),.va (.lst [.int (p:Int),.int (q:Int),.int (r:Int)]),.va (.lst ((eE X Y Z p q r).map lK)),rfl,rfl,rfl,?_⟩
  rw [Sn,eg,Ot]
  rfl
 ·rintro ρ' ⟨s7,s8,s9,h7,h8,h9,rfl⟩
  refine cW 6 (d0:=.lst ((Ge X Y Z).map aq)) (by walk_at "at") rfl (by walk_at "sset") ?_
  walk_at "ev"
  rfl
end
end
section
variable {P:Program} {w:World} {K:NR} {mg:Str->Option Value} {base:Heap}
structure Lm (l:Nat) (e:Int) (b:Nat) (A:List aM):Prop where
 l:A.length<=l
 e:Ex e A
 b:Bn b A
theorem Lm.jD (h:Lm la ea ba A) (hl:la<2 ^ 16:=by decide):Lm la ea (ba+16) (bM A):=⟨N3 (lB _) h.l,h.e.jD,h.b.jD (PM h.l hl)⟩
theorem Lm.mono (h:Lm la ea ba A) (h1:la<=lb:=by decide) (h2:ea<=eb:=by decide) (h3:ba<=bb:=by decide):Lm lb eb bb A:=⟨N3 h.l h1,h.e.mono h2,h.b.mono h3⟩
theorem Lm.app (h:Lm la ea ba A) (g:Lm lb ea ba B):Lm (la+lb) ea ba (A++B):=⟨by rw [OF]; exact Nat.add_le_add h.l g.l,h.e.app g.e,λt ht=>(Om.mp ht).elim (h.b t) (g.b t)⟩
theorem Lm.prod (h:Lm la ea ba A) (g:Lm lb eb bb B) (h0:0<=ea:=by decide) (g0:0<=eb:=by decide):Lm (la * lb) (ea+eb) (ba+bb) (aO A B):=⟨by rw [di]; exact QB h.l g.l,h.e.prod h0 g0 g.e,h.b.prod g.b⟩
theorem Lm.Ju (h:Lm la ea ba A) (h1:la<=20000:=by decide) (h2:ea<=120:=by decide) (h3:ba<=2000:=by decide):cG A:=⟨N3 h.l h1,h.e.mono h2,h.b.mono h3⟩
theorem Lm.nil:Lm la ea ba []:=⟨OB _,(λt ht=>by cases ht),λt ht=>by cases ht⟩
theorem Lm.con (hn:n.natAbs<2 ^ ba):Lm 1 0 ba (cT n):=⟨NT _,(λt ht=>by cases Oa.mp ht; exact ⟨OB _,λx hx=>by cases hx⟩),λt ht=>by cases Oa.mp ht; exact hn⟩
theorem mC.lm (h:mC A):Lm 3 2 100 A:=⟨h.l,h.e,h.b⟩
theorem Ny (h:A.length<=l) (h1:1<=l):bB [A]<=l:=by
 show max A.length 1 * 1<=l; omega
theorem LR (h:A.length<=l) (h1:1<=l) (g:B.length<=m) (g1:1<=m):bB [A,B]<=l * m:=QB (show max A.length 1<=l by omega) (Ny g g1)
theorem tW (h:∀ p∈ps,p.1.natAbs<1000/\p.2.length<=8/\∀ A∈p.2,cG A) (hl:ps.length<=1000) (hs:(ps.map λp=>bB p.2).sum<=20000):aW ps :=
 ⟨λp hp=>⟨OJ (h p hp).1 (N3 (by decide:1000<=2 ^ 10) (Ri (by decide) (by decide))),(h p hp).2.1,(h p hp).2.2⟩,hl,hs⟩
noncomputable def mE (X:List (List Part)):List (List aM):=X.map λps=>bM (gF ps)
structure Vt (A:List aM):Prop where
 s:mC A
 c:bM A=A
theorem yq (A):bM (bM A)=bM A:=fT (vQ A)
theorem JH (A):mp (gF [(1,[A])])=mp A:=by
 unfold gF
 rw [Ro,Sx,OP,fV]
 show ((1:Int):MP) * (mp A * 1)=mp A
 have:((1:Int):MP)=1:=by grind
 rw [this]; grind
noncomputable def lS (Ls:List (List aM)):Sh:=.t ((Ls.map λA=>A.map aR).map .l)
theorem Gf:∀ Ls:List (List aM),Sh.ds ((Ls.map λA=>A.map aR).map .l)=Ls.map aq
 | []=>rfl
 | A::Ls=>congrArg (aq A:: ·) (Gf Ls)
theorem LS (Ls):(lS Ls).d=.tup (Ls.map aq):=congrArg D.tup (Gf Ls)
theorem JI (X):outF X=.ok (.fo (lS (mE X))):=by
 unfold outF lS mE cE
 rw [Oj,Oj]; rfl
theorem Lm.mF {l:Nat} {e:Int} {b:Nat} {A:List aM} (h:Lm l e b A) (h1:l<=20000) (h2:e<=120) (h3:b<=2000):cG A:=h.Ju h1 h2 h3
structure Rw (X:List (List aM)):Prop where
 n:X.length=4
 z:Lm 18 4 240 (X.getD 0 [])
 o:∀ p,0<p->p<4->Lm 9 4 240 (X.getD p [])
theorem tX (ha:mC s.1) (hb:mC s.2.1) (hc:mC s.2.2):(∀ ps∈eB s,aW ps)/\Rw (bN s):=by
 obtain ⟨a,b,c⟩:=s
 have p:∀ {A B:List aM},mC A->mC B->Lm 9 4 220 (cM 1 [A,B]):=λhA hB=>(((Lm.con (n:=1) (ba:=20) (by decide)).prod hA.lm).prod hB.lm).mono
 have l1:∀ {A B:List aM},mC A->mC B->Lm 9 4 240 (tt [(1,[A,B])]):=λhA hB=>(((p hA hB).app (Lm.nil (la:=0))).jD).mono
 refine ⟨λL hL=>?_,rfl,?_,λq h0 h4=>?_⟩
 ·simp only [eB,N9,Pg,or_false] at hL
  rcases hL with rfl | rfl | rfl | rfl <;> exact Jw (by simp [show mC a from ha,show mC b from hb,show mC c from hc]) (by simp)
 ·exact (((p ha ha).app ((p hb hb).app (Lm.nil (la:=0)))).jD).mono
 ·match q,h0,h4 with
  | 1,_,_=>exact l1 ha hc
  | 2,_,_=>exact l1 hb hc
  | 3,_,_=>exact l1 hc hc
theorem Gg {A B C D:List aM} (hl:l<=18) (hk:k<=9) (hA:Lm l 4 240 A) (hB:Lm k 4 240 B) (hC:Lm k 4 240 C) (hD:Lm l 4 240 D) (l1:1<=l) (k1:1<=k) (hs:l * k<=162):aW [(1,[A,B]),(-1,[C,D])]/\Lm (2 * (l * k)) 8 520 (tt [(1,[A,B]),(-1,[C,D])]):=by
 refine ⟨?_,?_⟩
 ·refine tW (by simp [hA.mF (by omega) (by decide) (by decide),hB.mF (by omega) (by decide) (by decide),hC.mF (by omega) (by decide) (by decide),hD.mF (by omega) (by decide) (by decide)]) (by simp) ?_
  have h1:=LR hA.l l1 hB.l k1
  have h2:=LR hC.l k1 hD.l l1
  rw [QD k l] at h2
  show bB [_,_]+(bB [_,_]+0)<=20000
  omega
 ·have a1:Lm (l * k) 8 500 (cM 1 [A,B]):=(((Lm.con (n:=1) (ba:=20) (by decide)).prod hA).prod hB).mono (by rw [RI]; exact NT _) (by decide) (by decide)
  have a2:Lm (l * k) 8 500 (cM (-1) [C,D]):=(((Lm.con (n:= -1) (ba:=20) (by decide)).prod hC).prod hD).mono (by rw [RI,QD]; exact NT _) (by decide) (by decide)
  exact ((a1.app (a2.app (Lm.nil (la:=0)))).jD (by omega)).mono (by omega) (by decide) (by decide)
theorem Gh {A B C P Q R:List aM} (hA:Lm l 4 240 A) (hB:Lm k 4 240 B) (hC:Lm k 4 240 C) (hP:Lm m 8 520 P) (hQ:Lm (l * m / k) 8 520 Q) (hR:Lm (l * m / k) 8 520 R) (l1:1<=l) (k1:1<=k) (m1:1<=m) (hl:l<=18) (hk:k<=9) (hm:m<=324) (hs:k * (l * m / k)=l * m) (hn:l * m<=2916) (hj:1<=l * m / k) (hj2:l * m / k<=324):aW [(1,[A,P]),(-1,[B,Q]),(1,[C,R])]/\Lm 8748 12 800 (tt [(1,[A,P]),(-1,[B,Q]),(1,[C,R])]):=by
 refine ⟨?_,?_⟩
 ·refine tW (by simp [hA.mF (by omega) (by decide) (by decide),hB.mF (by omega) (by decide) (by decide),hC.mF (by omega) (by decide) (by decide),hP.mF (by omega) (by decide) (by decide),hQ.mF (by omega) (by decide) (by decide),hR.mF (by omega) (by decide) (by decide)]) (by simp) ?_
  have h1:=LR hA.l l1 hP.l m1
  have h2:=LR hB.l k1 hQ.l hj
  have h3:=LR hC.l k1 hR.l hj
  show bB [_,_]+(bB [_,_]+(bB [_,_]+0))<=20000
  omega
 ·have a1:Lm 2916 12 780 (cM 1 [A,P]):=(((Lm.con (n:=1) (ba:=20) (by decide)).prod hA).prod hP).mono (by rw [RI]; exact hn) (by decide) (by decide)
  have a2:Lm 2916 12 780 (cM (-1) [B,Q]):=(((Lm.con (n:= -1) (ba:=20) (by decide)).prod hB).prod hQ).mono (by rw [RI,hs]; exact hn) (by decide) (by decide)
  have a3:Lm 2916 12 780 (cM 1 [C,R]):=(((Lm.con (n:=1) (ba:=20) (by decide)).prod hC).prod hR).mono (by rw [RI,hs]; exact hn) (by decide) (by decide)
  exact ((a1.app (a2.app (a3.app (Lm.nil (la:=0))))).jD).mono
theorem Nj (hX:Rw X) (hY:Rw Y) (hZ:Rw Z):JF X Y Z/\∀ ps∈JB X Y Z,Lm 8748 12 840 (tt ps):=by
 have s2:∀ {q r:Nat},0<q->q<4->0<r->r<4->aW (wg Y Z q r)/\Lm 162 8 520 (tt (wg Y Z q r)):=λq0 q4 r0 r4=>Gg (l:=9) (k:=9) (by decide) (by decide) (hY.o _ q0 q4) (hZ.o _ r0 r4) (hY.o _ r0 r4) (hZ.o _ q0 q4) (by decide) (by decide) (by decide)
 have z2:∀ {r:Nat},0<r->r<4->aW (wg Y Z 0 r)/\Lm 324 8 520 (tt (wg Y Z 0 r)):=λr0 r4=>Gg (l:=18) (k:=9) (by decide) (by decide) hY.z (hZ.o _ r0 r4) (hY.o _ r0 r4) hZ.z (by decide) (by decide) (by decide)
 have a0:mD X Y Z 1 2 3/\Lm 8748 12 800 (tt (eE X Y Z 1 2 3)):=by
  have h1:=s2 (q:=2) (r:=3) (by decide) (by decide) (by decide) (by decide)
  have h2:=s2 (q:=1) (r:=3) (by decide) (by decide) (by decide) (by decide)
  have h3:=s2 (q:=1) (r:=2) (by decide) (by decide) (by decide) (by decide)
  have h:=Gh (l:=9) (k:=9) (m:=162) (hX.o 1 (by decide) (by decide)) (hX.o 2 (by decide) (by decide)) (hX.o 3 (by decide) (by decide)) h1.2 h2.2 h3.2 (by decide) (by decide) (by decide) (by decide) (by decide) (by decide) (by decide) (by decide) (by decide) (by decide)
  exact ⟨⟨h1.1,h2.1,h3.1,h.1⟩,h.2⟩
 have b0:∀ {q r:Nat},0<q->q<4->0<r->r<4->mD X Y Z 0 q r/\Lm 8748 12 800 (tt (eE X Y Z 0 q r)):=λ{q r} q0 q4 r0 r4=>by
  have h1:=s2 q0 q4 r0 r4
  have h2:=z2 r0 r4
  have h3:=z2 q0 q4
  have h:=Gh (l:=18) (k:=9) (m:=162) hX.z (hX.o q q0 q4) (hX.o r r0 r4) h1.2 h2.2 h3.2 (by decide) (by decide) (by decide) (by decide) (by decide) (by decide) (by decide) (by decide) (by decide) (by decide)
  exact ⟨⟨h1.1,h2.1,h3.1,h.1⟩,h.2⟩
 have b1:=b0 (q:=2) (r:=3) (by decide) (by decide) (by decide) (by decide)
 have b2:=b0 (q:=1) (r:=3) (by decide) (by decide) (by decide) (by decide)
 have b3:=b0 (q:=1) (r:=2) (by decide) (by decide) (by decide) (by decide)
 have o1:∀ {n:Int} {A:List aM},n.natAbs<1000->Lm 8748 12 800 A->aW [(n,[A])]:=λhn hA=>by
  refine tW (by simp [hA.Ju,hn]) (by simp) ?_
  have h1:=Ny hA.l (by decide)
  show bB [_]+0<=20000
  omega
 have o2:∀ {A:List aM},Lm 8748 12 800 A->Lm 8748 12 840 (tt [(-1,[A])]):=λhA=>((((Lm.con (n:= -1) (ba:=20) (by decide)).prod hA).app (Lm.nil (la:=0))).jD).mono
 refine ⟨⟨⟨a0.1,b1.1,b2.1,b3.1,o1 (by decide) b1.2,o1 (by decide) b3.2⟩,o1 (by decide) a0.2,o1 (by decide) b2.2⟩,λps hp=>?_⟩
 simp only [JB,N9,Pg,or_false] at hp
 rcases hp with rfl | rfl | rfl | rfl
 ·exact a0.2.mono
 ·exact o2 b1.2
 ·exact b2.2.mono
 ·exact o2 b3.2
theorem LU (X Y Z):Ge X Y Z=mE (JB X Y Z):=by
 have e:∀ ps:List Part,tt [(1,[tt ps])]=tt ps:=λps=>(fT (JH (tt ps))).trans (yq _)
 unfold Ge mE JB
 rw [e,e]
 rfl
structure LV (s:T3):Prop where
 a:mC s.1
 b:mC s.2.1
 c:mC s.2.2
structure Told (F:List (List aM)):Prop where
 n:F.length=4
 s:∀ A∈F,Lm 8748 12 840 A
theorem Told.out (h:Told F):∀ L∈F,L.length<=20000/\∀ t∈L,t.1.length<=64:=λL hL=>⟨N3 (h.s L hL).l (by decide),λt ht=>N3 ((h.s L hL).e t ht).1 (by decide)⟩
theorem JJ (hs:LV s) (ht:LV t) (hu:LV u):Cp s t u/\wm s t u/\Told (mE (JC s t u)):=by
 have r1:=tX hs.a hs.b hs.c
 have r2:=tX ht.a ht.b ht.c
 have r3:=tX hu.a hu.b hu.c
 have h:=Nj r1.2 r2.2 r3.2
 refine ⟨⟨r1.1,r2.1,r3.1,h.1.q⟩,⟨r1.1,r2.1,r3.1,h.1⟩,⟨by unfold mE; rw [NX]; rfl,λA hA=>?_⟩⟩
 obtain ⟨ps,hp,rfl⟩:=Oi.mp hA
 exact h.2 ps hp
theorem LW (h:wm s t u) (e:mE (JC s t u)=F):J1 [D3 s,D3 t,D3 u] (.ok (.va (.tup (F.map aq)))):=by
 subst e
 show J1 _ (.ok (.va (.tup ((mE (JB (bN s) (bN t) (bN u))).map aq))))
 rw [<- LU]
 exact Ni h
theorem Gi (h:Cp s t u) (e:mE (JC s t u)=F):J0 [D3 s,D3 t,D3 u] (.ok (.fo (lS F))):=by
 subst e
 rw [<- JI]
 exact Nh h
theorem Cs (h:Told F):Cf [.tup (F.map aq),.tup (F.map aq)] (.ok (.va (.bl true))):=LH (by rw [h.n]; decide) λA hA=>(h.out A hA).2
theorem JK (h:Told F):Cm (lS F):=⟨_,rfl,by rw [NX,h.n]; decide,λds hd=>by
 obtain ⟨A,hA,rfl⟩:=Oi.mp hd
 rw [NX]; exact (h.out A hA).1⟩
noncomputable def th (ns:List Int) (k:Nat):List aM:=rJ (yp ns k)
noncomputable def tp (ns:List Int) (k:Nat):T3:=(th ns k,th ns (k+1),th ns (k+2))
theorem Ct (ns) (k):LV (tp ns k):=⟨pe _,pe _,pe _⟩
theorem JL (ns):tT [.lst (ns.map .int),.int 1,.int 3] (.ok (.va (D3 (tp ns 1)))):=Cd ns (a:=1) (m:=3) (by decide) (by decide)
theorem JM (ns):tT [.lst (ns.map .int),.int 4,.int 3] (.ok (.va (D3 (tp ns 4)))):=Cd ns (a:=4) (m:=3) (by decide) (by decide)
theorem JN (ns):tT [.lst (ns.map .int),.int 7,.int 3] (.ok (.va (D3 (tp ns 7)))):=Cd ns (a:=7) (m:=3) (by decide) (by decide)
theorem Fd (ns:List Int):tR [.lst (ns.map .int),.int 10] (.ok (.va (.int (ns.getD 10 0)))):=Ga ns 10
theorem JO (s:T3):Ce [D3 s] (.ok (.va (D3 s))):=LF (As:=[s.1,s.2.1,s.2.2]) (by show (3:Nat)<=1000; decide)
theorem yr (Ls Ms:List (List aM)):jY (n+4) (.tup (Ls.map aq)) (.tup (Ms.map aq)):=.tup λi d e h1 h2=>by
 simp only [NZ,N8] at h1 h2
 obtain ⟨a,_,rfl⟩:=h1
 obtain ⟨b,_,rfl⟩:=h2
 exact A2 a b
theorem tY (s t:T3):jY (n+4) (D3 s) (D3 t):=yr [s.1,s.2.1,s.2.2] [t.1,t.2.1,t.2.2]
theorem lN (a b c:T3):n5 [D3 a,D3 b,D3 c] [D3 a,D3 b,D3 c]:=jA (tY _ _) (jA (tY _ _) (jA (tY _ _) (A3 _)))
section
local macro_rules | `(tactic| walk_at "evCa")=> `(tactic| first
 | with_reducible refine bZ (F:=tT) (by assumption) (by decide) ?_
 | with_reducible refine bZ (F:=Ce) (by assumption) (by decide) ?_
 | with_reducible refine bZ (F:=tR) (by assumption) (by decide) ?_
 | with_reducible refine bZ (F:=J1) (by assumption) (by decide) ?_
 | with_reducible refine bZ (F:=Cf) (by assumption) (by decide) ?_
 | with_reducible refine F3 (x_call (x:=NQ "three_circle") (F:=J0) (by assumption) (by decide) ?_))
local macro_rules | `(tactic| walk_at "evR")=> `(tactic| first
 | refine aJ (JL _) ?_
 | refine aJ (JM _) ?_
 | refine aJ (JN _) ?_
 | refine aJ (Fd _) ?_
 | refine aJ (JO _) ?_)
local macro_rules | `(tactic| walk_at "evIx")=> `(tactic| first | ((with_reducible show aF _ (O5 (Oc _ _) (RB _ _ _) _) _ _); refine Lv (m:=0) (by walk_at "at") (by walk_at "at") (by rfl) (by rfl) ?_))
local macro_rules | `(tactic| walk_at "evPut")=> `(tactic| with_reducible refine AN (by walk_at "at") (by walk_at "at") (by walk_at "own") ?_)
theorem JP (Fu:fC K "law" "law" (top 35) ff fd) (T:Txt K mg) (h1:fO P w K mg base 3 "_law_things" tT) (h2:fO P w K mg base 1 "_law_copied" Ce) (h3:fO P w K mg base 5 "_law_due" J1) (h4:fO P w K mg base 1 "_law_cell_at" tR)
 (h5:fO P w K mg base 2 "_law_same" Cf) (h6:Iz P w K mg base 1 "_law_spoil" Cm) (h7:fO P w K mg base 8 "three_circle" J0):bz P w K mg base (dU P w) 9 ff fd ["_law_script"] (fM K Ab):=by
 refine dD Fu IS (by rintro ds r ⟨ns,_,rfl,_⟩; rfl) (by rintro ds r ⟨ns,_,_,rfl⟩; exact ⟨_,rfl⟩) λk hq ds sl hF=>?_
 obtain ⟨ns,hns,rfl,ee⟩:=hF
 injection ee with ee
 subst ee
 show aQ k _ [.va (.lst (ns.map .int)),.un,.un,.un,.un] _ _
 conv in (ay _)=>whnf
 refine az ?_
 generalize hG:(λρ'=>aQ k _ ρ' _ _)=G
 walk_at "ev"
 subst hG
 have m1:=Ct ns 1
 have m4:=Ct ns 4
 have m7:=Ct ns 7
 generalize tp ns 1=a at *
 generalize tp ns 4=b at *
 generalize tp ns 7=c0 at *
 refine az ?_
 generalize hG:(λρ'=>aQ k _ ρ' _ _)=G
 have hR:∀ {c:T3},LV c->G [.va (.lst (ns.map .int)),.ow [D3 a,D3 b,D3 c],.un,.un,.un]:=λ{c} mc=>by
  subst hG
  obtain ⟨hv,hd,hT⟩:=JJ m1 m4 mc
  generalize eF:mE (JC a b c)=F at *
  refine cW 1 (d0:=.lst [D3 a,D3 b,D3 c]) (by walk_at "at") rfl (by walk_at "sset") ?_
  refine az (Aa (by walk_at "at") hq (N':=["_law_i"]) (ρ0:=λ_=>[.un]) (λt=>.un .nil) (ck ?_))
  generalize hG:(λρ'=>aQ k _ ρ' _ _)=G
  walk_at "ev"
  refine ⟨[some (D3 a),some (D3 b),some (D3 c)],rfl,?_,?_⟩
  ·intro c3 hc3 t j d o hd ho
   obtain ⟨s,rfl,rfl⟩:∃ s:T3,d=D3 s/\o=some (D3 s):=by
    match j,hd,ho with
    | 0,hd,ho=>cases hd; cases ho; exact ⟨_,rfl,rfl⟩
    | 1,hd,ho=>cases hd; cases ho; exact ⟨_,rfl,rfl⟩
    | 2,hd,ho=>cases hd; cases ho; exact ⟨_,rfl,rfl⟩
   refine cB (by walk_at "at") (jZ (by walk_at "sset") ⟨.un .nil,?_⟩)
   simp only [jQ]
   refine ⟨λ_=>?_,λh=>by cases h⟩
   walk_at "ev"
   rfl
  refine jZ (by walk_at "sset") ?_
  subst hG
  refine cW 2 (d0:=.lst [D3 a,D3 b,D3 c]) (by walk_at "at") rfl (by walk_at "sset") ?_
  refine az ?_
  generalize hG:(λρ'=>aQ k _ ρ' _ _)=G
  walk_at "ev"
  refine aJ (LW hd eF) ?_
  walk_at "ev"
  subst hG
  refine az (uF (by walk_at "at") (x_call (x:=NQ "three_circle") (F:=J0) h7 (by decide) ?_))
  generalize hG:(λρ'=>aQ k _ ρ' _ _)=G
  walk_at "ev"
  refine aJ (Gi hv eF) ?_
  refine jZ (by walk_at "sset") ?_
  subst hG
  refine az (Dm (Iw 4 (.s rfl (.s rfl (.s rfl (.s rfl (.z .nil))))) (by walk_at "sset") ?_))
  rw [LS]
  generalize hG:(λρ'=>aQ k _ ρ' _ _)=G
  walk_at "ev"
  refine aJ (Cs hT) ?_
  walk_at "ev"
  refine lF (lN a b c) ?_
  walk_at "ev"
  subst hG
  refine az (Eo h6 (by decide) (by walk_at "at") (.s rfl (.s rfl (.s rfl (.s rfl (.z .nil))))) (JK hT) (jZ (by walk_at "sset") ?_))
  walk_at "ev"
  refine lF (lN a b c) ?_
  walk_at "ev"
  refine aJ (Gi hv eF) ⟨_,rfl,?_⟩
  rw [LS]
  walk_at "ev"
  refine aJ (Cs hT) ?_
  walk_at "ev"
  rfl
 walk_at "ev"
 ·refine ⟨2,rfl,?_⟩
  walk_at "ev"
  ·show (2:Nat)<3
   decide
  exact hR m1
 ·exact hR m7
end
end
section
variable {K:NR}
theorem Fe (yw:mg "law"=some (.ref fa)) (T:Txt K mg) (xPLACES:∃ tk:Tok,mg "PLACES"=some (.int 6 tk))
 (D2:aD K mg "trimmed" (top 2))
 (D3:aD K mg "greatest_powers" (top 3))
 (D4:aD K mg "key_of" (top 4))
 (D5:aD K mg "powers_of" (top 5))
 (D6:aD K mg "packed" (top 6))
 (D7:aD K mg "unpacked" (top 7))
 (D8:aD K mg "add_products" (top 8))
 (D10:aD K mg "width_of" (top 10))
 (D11:aD K mg "add_part" (top 11))
 (D12:aD K mg "poly_total" (top 12))
 (D14:aD K mg "without_place" (top 14))
 (D15:aD K mg "determinant" (top 15))
 (D17:aD K mg "round_row" (top 17))
 (D18:aD K mg "three_rule" (top 18))
 (D19:aD K mg "three_circle" (top 19))
 (D21:aD K mg "_law_cell_at" (top 21))
 (D22:aD K mg "_law_digits" (top 22))
 (D23:aD K mg "_law_plain" (top 23))
 (D24:aD K mg "_law_product" (top 24))
 (D25:aD K mg "_law_sum" (top 25))
 (D26:aD K mg "_law_some" (top 26))
 (D27:aD K mg "_law_things" (top 27))
 (D28:aD K mg "_law_copied" (top 28))
 (D29:aD K mg "_law_terms" (top 29))
 (D30:aD K mg "_law_same" (top 30))
 (D31:aD K mg "_law_spoil" (top 31))
 (D32:aD K mg "_law_line" (top 32))
 (D33:aD K mg "_law_two" (top 33))
 (D34:aD K mg "_law_due" (top 34))
 (D35:aD K mg "law" (top 35))
 : ∃ fd:FuncData,(∀ (s:Shared) (u:Value),BindsTo s fd ⟨[u],[]⟩ [("_law_script",u)])/\∀ base:Heap,K.In base->base.Ns mainGlobals mg->bz P w K mg base (dU P w) 20 fa fd ["_law_script"] (fM K Ab):=by
 refine Classical.byContradiction λhG=>?_
 obtain ⟨f35,fd35,m35,Fu35⟩:=D35
 have e:=yw.symm.trans m35
 cases e
 refine hG ⟨fd35,?_,λbase _ _=>?_⟩
 ·obtain ⟨oc,od,kV,doc,pm,an,cdv,ct,osl,rfl,lk,hcd⟩:=Fu35.ex
  exact λs u=>.of_eq rfl
 have C2:=bx P w base D2 λu=>EF u T
 have C3:=bx P w base D3 λu=>BN u T xPLACES
 have C4:=bx P w base D4 λu=>IV u T xPLACES
 have C5:=bx P w base D5 λu=>EN u T xPLACES C2
 have C6:=bx P w base D6 λu=>EO u T C4
 have C7:=bx P w base D7 λu=>I0 u T C5
 have C8:=vL P w base D8 λu=>IZ u T
 have C10:=bx P w base D10 λu=>Ja u T C3
 have C11:=vL P w base D11 λu=>B8 u T C6 C8
 have C12:=bx P w base D12 λu=>Jd u T C10 C11 C7
 have C14:=bx P w base D14 λu=>Jy u
 have C15:=bx P w base D15 λu=>LM u T
 have C15b:=bx P w base D15 λu=>LN u T C14 C15
 have C17:=bx P w base D17 λu=>Jx u
 have C18:=bx P w base D18 λu=>LO u T C17 C14 C15b
 have C19:=bx P w base D19 λu=>LP u C12 C18
 have C21:=bx P w base D21 λu=>Jl u T
 have C22:=bx P w base D22 λu=>Jo u T C21
 have C23:=bx P w base D23 λu=>BJ u T
 have C24:=bx P w base D24 λu=>Je u T C23
 have C25:=bx P w base D25 λu=>Jj u T C23 C24
 have C26:=bx P w base D26 λu=>E6 u T C23
 have C27:=bx P w base D27 λu=>Jq u T C22 C26
 have C28:=bx P w base D28 λu=>Jr u T
 have C29:=bx P w base D29 λu=>Js u T
 have C30:=bx P w base D30 λu=>Jt u T C29
 have C31:=Et P w base D31 λu=>Cn u
 have C32:=bx P w base D32 λu=>JD u C25
 have C33:=bx P w base D33 λu=>JE u C25
 have C34:=bx P w base D34 λu=>LQ u T C25 C32 C33
 exact (JP Fu35 T C27 C28 C34 C21 C30 C31 C19).mono (by decide)
end
end My
open PySem PySem.W PyProof.Rows
local macro_rules | `(tactic| walk_at "dm")=> `(tactic| (dsimp only [L2.gX]; refine' EV.HE (by assumption) (by assumption) ?a ?l ?c ?k; (case a=>k_is); (case l=>k_is); (case c=>k_is); (case k=>k_is)))
set_option maxRecDepth 100000 in
set_option maxHeartbeats 0 in
theorem PySem.Challenge.cw_everydraw_k19_circles_by_three_holds : PySem.Challenge.rw_everydraw_k19_circles_by_three.Holds := by
 w_on; o_law; k_head; (case hw=>w_witness2)
 k_fill
 refine EV.walk (k:=20) (l:=PySem.Challenge.rw_everydraw_k19_circles_by_three) (by decide) rfl rfl (λw h Y=>PySem.W.kIn_of Y) ?F
 case F =>
  intro w mg fa h KX G hmg
  have D2:EV.aD (L2.gX KX) mg (Str.ofString "trimmed") (My.top 2):=by walk_at "dm"
  have D3:EV.aD (L2.gX KX) mg (Str.ofString "greatest_powers") (My.top 3):=by walk_at "dm"
  have D4:EV.aD (L2.gX KX) mg (Str.ofString "key_of") (My.top 4):=by walk_at "dm"
  have D5:EV.aD (L2.gX KX) mg (Str.ofString "powers_of") (My.top 5):=by walk_at "dm"
  have D6:EV.aD (L2.gX KX) mg (Str.ofString "packed") (My.top 6):=by walk_at "dm"
  have D7:EV.aD (L2.gX KX) mg (Str.ofString "unpacked") (My.top 7):=by walk_at "dm"
  have D8:EV.aD (L2.gX KX) mg (Str.ofString "add_products") (My.top 8):=by walk_at "dm"
  have D10:EV.aD (L2.gX KX) mg (Str.ofString "width_of") (My.top 10):=by walk_at "dm"
  have D11:EV.aD (L2.gX KX) mg (Str.ofString "add_part") (My.top 11):=by walk_at "dm"
  have D12:EV.aD (L2.gX KX) mg (Str.ofString "poly_total") (My.top 12):=by walk_at "dm"
  have D14:EV.aD (L2.gX KX) mg (Str.ofString "without_place") (My.top 14):=by walk_at "dm"
  have D15:EV.aD (L2.gX KX) mg (Str.ofString "determinant") (My.top 15):=by walk_at "dm"
  have D17:EV.aD (L2.gX KX) mg (Str.ofString "round_row") (My.top 17):=by walk_at "dm"
  have D18:EV.aD (L2.gX KX) mg (Str.ofString "three_rule") (My.top 18):=by walk_at "dm"
  have D19:EV.aD (L2.gX KX) mg (Str.ofString "three_circle") (My.top 19):=by walk_at "dm"
  have D21:EV.aD (L2.gX KX) mg (Str.ofString "_law_cell_at") (My.top 21):=by walk_at "dm"
  have D22:EV.aD (L2.gX KX) mg (Str.ofString "_law_digits") (My.top 22):=by walk_at "dm"
  have D23:EV.aD (L2.gX KX) mg (Str.ofString "_law_plain") (My.top 23):=by walk_at "dm"
  have D24:EV.aD (L2.gX KX) mg (Str.ofString "_law_product") (My.top 24):=by walk_at "dm"
  have D25:EV.aD (L2.gX KX) mg (Str.ofString "_law_sum") (My.top 25):=by walk_at "dm"
  have D26:EV.aD (L2.gX KX) mg (Str.ofString "_law_some") (My.top 26):=by walk_at "dm"
  have D27:EV.aD (L2.gX KX) mg (Str.ofString "_law_things") (My.top 27):=by walk_at "dm"
  have D28:EV.aD (L2.gX KX) mg (Str.ofString "_law_copied") (My.top 28):=by walk_at "dm"
  have D29:EV.aD (L2.gX KX) mg (Str.ofString "_law_terms") (My.top 29):=by walk_at "dm"
  have D30:EV.aD (L2.gX KX) mg (Str.ofString "_law_same") (My.top 30):=by walk_at "dm"
  have D31:EV.aD (L2.gX KX) mg (Str.ofString "_law_spoil") (My.top 31):=by walk_at "dm"
  have D32:EV.aD (L2.gX KX) mg (Str.ofString "_law_line") (My.top 32):=by walk_at "dm"
  have D33:EV.aD (L2.gX KX) mg (Str.ofString "_law_two") (My.top 33):=by walk_at "dm"
  have D34:EV.aD (L2.gX KX) mg (Str.ofString "_law_due") (My.top 34):=by walk_at "dm"
  have D35:EV.aD (L2.gX KX) mg (Str.ofString "law") (My.top 35):=by walk_at "dm"
  have T:EV.Txt (L2.gX KX) mg:=by
   dsimp only [L2.gX]
   refine' EV.HM KX G ?z1 ?z2 ?z3 ?z4 ?z5 ?z6 ?z7 ?z8 ?z9 ?z10 ?z11 ?z12 ?z13 ?z14 ?z15 ?z16 ?z17 ?sib
   (case z1=>k_is)
   (case z2=>k_is)
   (case z3=>k_is)
   (case z4=>k_is)
   (case z5=>k_is)
   (case z6=>k_is)
   (case z7=>k_is)
   (case z8=>k_is)
   (case z9=>k_is)
   (case z10=>k_is)
   (case z11=>k_is)
   (case z12=>k_is)
   (case z13=>k_is)
   (case z14=>k_is)
   (case z15=>k_is)
   (case z16=>k_is)
   (case z17=>k_is)
   (case sib=>k_is)
  have xPLACES:∃ tk:Tok,mg (Str.ofString "PLACES")=some (.int 6 tk):=by
   refine' EV.int_mk KX G ?a
   (case a=>k_is)
  exact My.Fe hmg T xPLACES D2 D3 D4 D5 D6 D7 D8 D10 D11 D12 D14 D15 D17 D18 D19 D21 D22 D23 D24 D25 D26 D27 D28 D29 D30 D31 D32 D33 D34 D35
