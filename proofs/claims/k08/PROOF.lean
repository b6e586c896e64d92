import PyProof.Rows.All
import Wide.All
import OpenK.AllK
import Wide.FinOn
import PySem.Challenge.RW_everydraw_k08_polynomials_divided
namespace EV
theorem z2 {α β} {P:α->β->Prop} {G:Prop} (h:∃ a b,P a b) (k:∀ a b,P a b->G):G:=h.elim λa h=>h.elim (k a)
theorem z3 {α β γ} {P:α->β-> γ ->Prop} {G:Prop} (h:∃ a b c,P a b c) (k:∀ a b c,P a b c->G):G:=h.elim λa h=>z2 h (k a)
theorem z4 {α β γ δ} {P:α->β-> γ -> δ ->Prop} {G:Prop} (h:∃ a b c d,P a b c d) (k:∀ a b c d,P a b c d->G):G:=h.elim λa h=>z3 h (k a)
theorem z5 {α β γ δ ε} {P:α->β-> γ -> δ -> ε ->Prop} {G:Prop} (h:∃ a b c d e,P a b c d e) (k:∀ a b c d e,P a b c d e->G):G:=h.elim λa h=>z4 h (k a)
theorem w2 {a b G:Prop} (h:a/\b) (k:a->b->G):G:=k h.1 h.2
theorem w3 {a b c G:Prop} (h:a/\b/\c) (k:a->b->c->G):G:=w2 h.2 (k h.1)
theorem w4 {a b c d G:Prop} (h:a/\b/\c/\d) (k:a->b->c->d->G):G:=w3 h.2 (k h.1)
theorem w5 {a b c d e G:Prop} (h:a/\b/\c/\d/\e) (k:a->b->c->d->e->G):G:=w4 h.2 (k h.1)
theorem w6 {a b c d e f G:Prop} (h:a/\b/\c/\d/\e/\f) (k:a->b->c->d->e->f->G):G:=w5 h.2 (k h.1)
theorem w7 {a b c d e f g G:Prop} (h:a/\b/\c/\d/\e/\f/\g) (k:a->b->c->d->e->f->g->G):G:=w6 h.2 (k h.1)
theorem w8 {a b c d e f g i G:Prop} (h:a/\b/\c/\d/\e/\f/\g/\i) (k:a->b->c->d->e->f->g->i->G):G:=w7 h.2 (k h.1)
end EV
set_option genSizeOf false
set_option compiler.extract_closed false
set_option Elab.async false
set_option linter.all false
set_option maxRecDepth 100000
open PySem.Str renaming ofString->O5
open PySem renaming wpAny_bind->O6,wpAny_pure->O8,wpAny_mono->Qd,Spec->Qe,wpAny_field->Qs,wpAny_holding->Qw,wpAny_rule->Qy,wpAny_newObj_type->QG,wpAny_setField_rec->QL,wpAny_Call_Name_kw->Q0,wpAny_call_entry->Q3,wpAny_seqItems->Rj,codeAny_builtin->Rt,Builtin->Ru,wpAny_typeOf->Rw,wpAny_callSpecial?_slot->RB,wpAny_letGo->RN,sizeLine_eq->RO,wpAny_truthy_bool->R5,wpAny_pyIter_list->R6,wpAny_passesOwn->Sa,wpAny_attempt->Sg,call_meets->Sm,wpAny_call->S6,wpAny_Name->S9,mem_of_lookup->Ti,tupleKind_room_in1->Tj,wpAny_execs_nil->Tr,plainId_quiet->TH,codeAny_mono->TM,typeIs_int->TZ,wpAny_typeNameOfWhole_itemiter->T8,wpAny_typeNameOf_itemiter->T9,wpAny_isInstance->Uz,wpAny_tryCatch->UE,wpAny_onRaise->UK,wpAny_newList->UL,concat_meets->UQ,wpAny_isOneOf_itemiter->Vk,wpAny_updateSeq_pair->Vu,wpAny_loadName_local->Vv,codeAny_call_builtin->Vw,wpAny_loadName_cell->VA,evalArgs_none->VB,wpAny_pyIter_tuple->VG,wpAny_sequenceKey->VN,wpAny_dictEntries->VO,wpAny_Call_method->VP,noFill_tuple_add->VV
open PySem.W renaming Frag->O7,nsIn->P5,mg_none_of->Qm,kitOne->Qq,findIn->Q6,keepIn->Rk,subIn->Rl,clsIn->Rm,fnOf->Rn,kia_one->Sb,mroIn->SX,excIn->SY,typeIn->Tw,exmOne->Tz,mg_of->TJ,specialIn->Ur,codeIn->UI,callWith_K->VH,methodObj->VQ
open Nat renaming le_refl->O9,le_trans->Pj,ne_of_lt->PJ,zero_le->P7,lt_of_lt_of_le->P9,lt_irrefl->QJ,le_of_lt->Rx,le_add_right->RI,zero_add->RL,lt_of_le_of_lt->R4,min_eq_left->Se,ne_of_gt->Si,lt_succ_self->SO,succ_mul->TN,pow_le_pow_right->Ul,le_sub_one_of_lt->Um,lt_succ_of_lt->Us,succ_le_succ->UA,mul_le_mul->UJ,mul_comm->UT,log2_lt->U1,one_le_iff_ne_zero->Vn,le_of_ble_eq_true->Vs,add_sub_cancel'->VC
open PyProof.Rows renaming wpS_bind->Pa,wpS_pure->Pb,wpS_mono->P8,wpS_forRange->Qx,wpS_get->QS,wpS_modify->Ra,wpS_lift->RV,slot_tuple_getitem->Sq,listUpdate_at->SW,callWith_type1->Tg,mirror_perm->TX,plain_sorted->UN,listItems_at->UO,entry_sorted->UP,kind_sorted->UX,callWith_kw->UY,callWith_builtin1->U4,call_function_entry_kw->Vl
open List renaming length_map->Pc,mem_cons_self->Pd,mem_cons->Pg,mem_cons_of_mem->Ph,mem_singleton->Pk,map_cons->Pn,getElem?_eq_some_iff->Po,getElem?_map->Pr,replicate->Pu,mem_map->Pz,mem_append->PF,range->PM,size_toArray->PN,append_assoc->PU,getElem?_eq_getElem->PX,length_append->PY,map_map->PZ,getElem_mem->P0,length_cons->P4,length_take->Qf,map_append->Qh,getElem?_set_ne->Ql,getD_eq_getElem?_getD->Qn,getElem?_set_self->Qu,append_nil->Qv,mem_append_right->QE,mem_append_left->QF,take_length->QH,not_mem_nil->QI,nodup_cons->QM,find?_cons->QV,take_succ_eq_append_getElem->QZ,mem_filter->Q4,length_nil->Q5,map_nil->Q8,getElem?_append_left->Rc,mem_of_getElem?->Rg,replicate_succ->Rh,pairwise_cons->Ri,take_append_drop->Rp,map_congr_left->Rq,mem_filterMap->Rr,getElem?_append_right->RA,filter_cons_of_pos->RC,length_singleton->RD,mem_of_mem_take->RE,foldl_cons->RJ,pairwise_singleton->RY,take_of_length_le->RZ,perm_append_comm->R3,length_range->R7,flatten_cons->R8,cons_append->R9,forIn_cons->Sf,filter_cons_of_neg->Sx,getElem?_eq_none->Sy,pairwise_append->SA,getElem?_of_mem->SD,getElem?_range->SG,filterMap_cons->SH,getElem?_drop->SJ,pairwise_map->SM,length_drop->SQ,length->S0,foldl->Tc,Nodup->Td,getElem?_append->Th,take_sublist->To,ext_getElem?->Tq,nil_append->Tt,mem_range->TF,zipWith->TQ,getElem?_take_of_lt->Uc,eq_of_mem_replicate->Ud,reverse_reverse->Uo,getElem_range->Uq,take_add_one->Ut,nodup_append->Uu,foldl_append->Uv,drop_sublist->Uw,getElem_map->UB,eq_nil_of_length_eq_zero->U5,pairwise_iff_getElem->U9,getElem?_replicate->Vj,reverse_append->VD,getElem_of_mem->VE,map_singleton->VI,zipWith_self->VR,reverse_perm->VS,zipWith_map->VW,zipIdx_cons->VX,lookup_cons->VY,filter_cons->VZ,ext_getElem->V0,drop_append_of_le_length->V9
open PySem.Heap renaming get?_push_of_some->Pe,lt_size->Pf,get?_push_size->Pq,SameBut->QW,size_push->Q7,ExtBut->RQ,get?_update_ne->SI,FlyingW->TV,get?_update_other->Uj,get?_update_self->Vt,get?_push_ne->VT
open Bool renaming false_ne_true->Pp,false_eq_true->Qp,not_true->RK,and_eq_true->SS,eq_iff_iff->Tv
open PySem.Expr renaming Name->Pw,Call->Qk,Subscript->QX,BinOp->Rz,Tuple->T5
open PySem.Value renaming ref->Px,type->Qz,none->QK,bool->RS,int->RU,str->T6
open Ne renaming symm->Py
open Option renaming map_eq_some_iff->PD,isSome_map->RH,bind_eq_some_iff->Vh
open Sum renaming inl->PK,inr->RW
open PySem.SeqAt renaming EqAt->PR,RcAt->Sn,RcNeAt->UR
open Array renaming getElem?_eq_getElem->PV,toList_push->Qa,getElem?_toList->Qg,length_toList->Qo,toList_append->QC,ext'->RT,perm_iff_toList_perm->Sv,getElem?_eq_some_iff->Sw,toList_reverse->SE,getElem?_extract->Uk,getElem?_eq_none->Vq,mem_toList_iff->Vz,append_assoc->VM,getElem_mem->VU,toList_eraseIdxIfInBounds->V7
open Int renaming le_trans->P1,toNat_natCast->Qc,le_refl->Qj,le_of_lt->QO,add_mul->Q9,toNat->Ro,pow_pos->Ry,mul_add->RP,zero_mul->Sk,lt_of_le_of_lt->SK,one_mul->S3,not_lt->Te,mul_le_mul_of_nonneg_right->Tf,mul_ne_zero->Tu,mul_assoc->TL,mul_comm->TR,add_comm->TU,zero_add->UU,add_zero->UW,natCast_nonneg->VJ
open PySem.Env renaming kindOf->P6
open ForInStep renaming yield->Qi,done->QN
open Classical renaming byContradiction->Qt
open False renaming elim->QA
open PySem.Builtin.Int renaming intBits->QB
open PySem.Paired renaming length->QD,snoc->U0
open Option.some renaming inj->QU
open PySem.Obj renaming mapSeq->QY
open True renaming intro->Rb
open PySem.Builtin.SmallTypes renaming nextOf->Rf,ownedTupleIsFree->T7,ownedTupleHandOut->V3
open PySem.NameKind renaming free->Rv
open PySem.Around renaming under_plainId->RG
open Lean renaming mkPrivateNameCore->R0,mkIdent->Sj
open PySem.Data renaming cell->So,fields->TY
open PySem.F renaming slot_dict_itemiterator_next->Ss,plain_extend_loop->Ua,plainAttrs_list->Uh,slot_dict_items->Uy,slot_zip_next->UC,slot_int_rmul->UD,args_tuple_add_2->Vb,slot_list_getattribute->Ve,entry_tuple_add->Vg,slot_tuple_add->Vm,slot_dict_get->Vr,slot_tuple_mul->V1,args_dict_itemiterator_next_1->V6,entry_dict_itemiterator_next->V8,slot_dict_itemiterator_iter->Wa
open PySem.Builtin.List renaming listLengthHint->Su,listExtendWith->U6,listFitsIndex->U8,listTooLong->Vf,listItems->Vp
open List.Perm renaming append_left->Sz
open List.Pairwise renaming nil->SN,map->Ux,imp_of_mem->Vd,filter->Vx
open PyProof.Rows.SortSt renaming mk'->T4
open PySem.Builtin.Slice renaming slicePlaces->Ub,sliceAdjust->Va
open PySem.Builtin.Tuple renaming tupleExact->Ue
open PySem.AutoSeq1 renaming wpAny_loadPart'->Ug
open PySem.Builtin.Range renaming rangeSize->Ui
open PySem.Stmt renaming AugAssign->UG,Assign->UZ
open Quotient renaming sound->UH
open Function renaming comp->UM
open PySem.Operator renaming Add->US
open PySem.Builtin.Dict_items renaming pairFromOwner->U3,ownedTupleIsFree->V4,ownedTupleFields->V5
open PySem.Calls renaming Name_function_global->U7,callWith_builtin->Vo,evalArgs_plain->Vy,spliced_cons->VL
open PyProof renaming noPylong_of_log2->Vc
open PySem.Heap.SameBut renaming update->VF
open PySem.Challenge renaming rw_everydraw_k08_polynomials_divided->V2
namespace PySem.W.Fast
def tw18417459012924909556:=0
def tw1168043300206122008:=0
def tw2774440274384857464:=0
def tw12597172239247540502:=0
def tw2719154945992657788:=0
def tw3293267439650051003:=0
def tw6647324620080297738:=0
def tw12981574787290651068:=0
def tw9541196831148974136:=0
def tw3504954199784848335:=0
def tw12903371555684837589:=0
def tw14964311031476593072:=0
def tw17639382202368130454:=0
def tw14745889945640980182:=0
def tw4497989538700945820:=0
def tw7622966227604189424:=0
def tw2195760945817728869:=0
def tw8490221009780593004:=0
def tw14706256028276547492:=0
def tw11967718379246840888:=0
def tw3282749699023853412:=0
def tw11997751146421430368:=0
def tw4471093771680560616:=0
def tw18171140511395751501:=0
def tw13202874339672861002:=0
def tw13597830795135272362:=0
def tw3573304224900241994:=0
def tw12782486919615014348:=0
def tw17466463431871697250:=0
def tw720349972402181403:=0
def tw653338018468670366:=0
def tw4742774216069219405:=0
def tw9887518331117203095:=0
def tw3270372484079326504:=0
def tw4473996289544748587:=0
def tw3211712604164775996:=0
def tw16367535645267385292:=0
def tw6084113305444391580:=0
def tw2191735661002048707:=0
def tw2024165386080194866:=0
def tw17043691051324689341:=0
def tw185767803994816427:=0
def tw9005358969045352703:=0
def tw6710206697106133833:=0
def tw2412269528335852375:=0
def tw8661328912768408169:=0
def tw7190548677681491243:=0
def tw15203816172219934115:=0
def tw10144949605862170713:=0
def tw2581022417410182991:=0
def tw11451456962297574198:=0
def tw1994114510660419964:=0
def tw15775419646651428795:=0
def tw14026576808728533537:=0
def tw10168309642649977870:=0
def tw11879541402626672137:=0
def tw86899632375726327:=0
def tw12580542817562455763:=0
def tw7593589887848950506:=0
def tw2972164961665318103:=0
def tw13230421286377422789:=0
def tw9016420590973217687:=0
def tw16624432636760927350:=0
def tw3380296249392807058:=0
def tw5290690725188754167:=0
def tw16204415395107274939:=0
def tw1631111988793710776:=0
def tw3915366122496207748:=0
def tw6960749180087511374:=0
def tw8558245475788578611:=0
def tw108456696696738788:=0
def tw7388879816529024867:=0
def tw8069421294378938803:=0
def tw15800596557207487213:=0
def tw15287839414337927965:=0
def tw9867690148152724082:=0
def tw1032610828737522099:=0
def tw15337760256316181149:=0
def tw17607804425971308514:=0
def tw6258414220632187691:=0
def tw6755818631368318102:=0
def tw1061404971512260233:=0
def tw5763055775181686591:=0
def tw18317557989154032605:=0
def tw15301441187665589611:=0
def tw8540333006360399747:=0
def tw12751474743799187265:=0
def tw17485639426387899780:=0
def tw1226572100391116670:=0
def tw454940138817839799:=0
def tw17964810173820317208:=0
def tw10347941649134676733:=0
def tw9182050404129162104:=0
def tw7450651585649541812:=0
def tw9658244520285153643:=0
def tw4201535518419992434:=0
def tw7864138099291358521:=0
def tw16332078713663149908:=0
def tw1169468242589244497:=0
def tw13747547063489121377:=0
def tw11024493793834566879:=0
def tw17452561444397333234:=0
def tw2652568041366043508:=0
def tw14962332646732351127:=0
def tw12046512861057176565:=0
def tw18309027202962835678:=0
def tw2842879029369668887:=0
def tw6531445246219928377:=0
def tw10494475054779533719:=0
def tw16761135983638701638:=0
def tw13827933072970132836:=0
def tw1457741664652715271:=0
def tw3136619038957650319:=0
def tw7014236855065882080:=0
def tw1132374045587271450:=0
def tw4385369554620183968:=0
def tw9575914983324118642:=0
def tw6626800338320574611:=0
def tw13885053269956229312:=0
def tw10681589283789473568:=0
def tw12143124393974187901:=0
def tw16941764769939859794:=0
def tw8680275764361284817:=0
def tw12321117253196918434:=0
def tw2379749138138507570:=0
def tw18021139815409517824:=0
def tw7206464526456220250:=0
def tw13116142902385053110:=0
def tw6949892163130595782:=0
def tw17358574801526077408:=0
def tw14802500605497990454:=0
def tw14282221913407538674:=0
def tw3731563432178269946:=0
def tw5306988794847786285:=0
def tw2446930947260743351:=0
def tw7778409706143983720:=0
def tw6883517073260745084:=0
def tw7729419117713638105:=0
def tw8338513294790484099:=0
def tw13471202677741985263:=0
def tw16830339158053291150:=0
def tw11704977545682800472:=0
def tw6867303713884669563:=0
def tw3479490426919870891:=0
def tw2189060540376805307:=0
def tw12262823030516300762:=0
def tw14579468805242369438:=0
def tw9998487793999667341:=0
def tw2010587706726528587:=0
def tw12554426636605849010:=0
def tw6918987180057652820:=0
def tw10873005225528579577:=0
end PySem.W.Fast
local macro_rules | `(term| 'a') => `(term| (by walk_at "at"))
local macro_rules | `(term| 's') => `(term| (by walk_at "sset"))
local macro_rules | `(term| 'l') => `(term| (by lia))
local macro_rules | `(term| 'd') => `(term| (by decide))
local macro_rules | `(term| 'm') => `(term| (by assumption))
local macro_rules | `(term| 'p') => `(term| (by simp))
local macro_rules | `(term| 'o') => `(term| (by omega))
local macro_rules | `(term| 'w') => `(term| (by walk_at "own"))
local macro_rules | `(tactic| symm) => `(tactic| (intro _; walk_at "u"))
local macro_rules | `(tactic| rfl') => `(tactic| walk_at "u")
local macro_rules | `(tactic| rw?) => `(tactic| walk_at "ev")
local macro_rules | `(tactic| ac_nf) => `(tactic| walk_at "sb")
local macro_rules | `(tactic| simp?) => `(tactic| walk_at "nx")
abbrev Ndb (x:PySem.Str):Prop:=(x == ("__debug__":PySem.Str))=false
abbrev Ncd (x:PySem.Str):Prop:=(x == ("__classdict__":PySem.Str))=false
local macro_rules | `(tactic| walk_at "u") => `(tactic| with_unfolding_all rfl)
namespace L2
open PySem PySem.Spec PyProof.Rows
noncomputable abbrev Key:=Sum Int Str
noncomputable def kM:Key->Value->Bool
 | .inl k,v=>Value.isInt k v
 | .inr x,v=>Value.isStrOf x v
noncomputable def Np (w:World):Key->Int
 | .inl k=>hashInt k
 | .inr x=>hashStr w x
theorem bN:∀ {k:Key} {v:Value},kM k v=true->(∃ i t,k=PK i/\v=RU i t)\/(∃ x t,k=RW x/\v=T6 x t)
 | .inl i,v,h=>by
  obtain ⟨t,e⟩:=Value.isInt_shape (k:=i) (v:=v) h
  exact .inl ⟨i,t,rfl,e⟩
 | .inr x,v,h=>by
  obtain ⟨t,e⟩:=Value.isStrOf_shape (x:=x) (v:=v) h
  exact .inr ⟨x,t,rfl,e⟩
theorem yb (i) (t:Tok):kM (.inl i) (.int i t)=true:=by simp [kM,Value.isInt]
theorem yc (x) (t:Tok):kM (.inr x) (.str x t)=true:=by simp [kM,Value.isStrOf]
theorem Hz (a b):decide ((PK a:Key)=PK b)=(a == b):=by
 by_cases e:a=b
 ·subst e; simp
 ·have h:¬ (PK a:Key)=PK b:=λq=>e (PK.inj q)
  rw [decide_eq_false h]
  exact (beq_eq_false_iff_ne.mpr e).symm
theorem HA (a b):decide ((RW a:Key)=RW b)=decide (a=b):=by
 by_cases e:a=b
 ·subst e; simp
 ·have h:¬ (RW a:Key)=RW b:=λq=>e (RW.inj q)
  rw [decide_eq_false h,decide_eq_false e]
theorem HB (a) (b):decide ((PK a:Key)=RW b)=false:=decide_eq_false (λq=>nomatch q)
theorem HC (a) (b):decide ((RW a:Key)=PK b)=false:=decide_eq_false (λq=>nomatch q)
noncomputable def bZ (prog:Program) (w:World):PySem.KeyKind prog w Key where
 is:=kM
 hash:=Np w
 inj:=λv a b ha hb=>by
  rcases bN ha with ⟨i,t,rfl,rfl⟩ | ⟨x,t,rfl,rfl⟩
  ·rcases bN hb with ⟨j,u,rfl,e⟩ | ⟨y,u,rfl,e⟩
   ·injection e with e1 _; rw [e1]
   ·exact nomatch e
  ·rcases bN hb with ⟨j,u,rfl,e⟩ | ⟨y,u,rfl,e⟩
   ·exact nomatch e
   ·injection e with e1 _; rw [e1]
 byValue:=λk v h=>by
  rcases bN h with ⟨i,t,rfl,rfl⟩ | ⟨x,t,rfl,rfl⟩ <;> rfl
 pyHash:=λhv h=>by
  rcases bN hv with ⟨i,t,rfl,rfl⟩ | ⟨x,t,rfl,rfl⟩
  ·exact wpAny_pyHash_int h
  ·exact wpAny_pyHash_str h
 eqBool:=λhu hv h=>by
  rcases bN hu with ⟨i,t,rfl,rfl⟩ | ⟨x,t,rfl,rfl⟩
  ·rcases bN hv with ⟨j,u,rfl,rfl⟩ | ⟨y,u,rfl,rfl⟩
   ·rw [Hz] at h; exact wpAny_eqBool_int h
   ·rw [HB] at h; exact PR.int_str i t y u _ _ _ _ h
  ·rcases bN hv with ⟨j,u,rfl,rfl⟩ | ⟨y,u,rfl,rfl⟩
   ·rw [HC] at h; exact PR.str_int x t j u _ _ _ _ h
   ·rw [HA] at h; exact wpAny_eqBool_str h
 «strs» :=λk x t v h=>by
  rcases bN h with ⟨i,u,rfl,e⟩ | ⟨y,u,rfl,e⟩
  ·exact nomatch e
  ·injection e with e1 _
   subst e1
   cases v <;> rfl
theorem qO (prog) (w) (i) (t:Tok):(bZ prog w).is (.inl i) (.int i t)=true:=yb i t
theorem qP (prog) (w) (x) (t:Tok):(bZ prog w).is (.inr x) (.str x t)=true:=yc x t
inductive V where
 | non | bl (b:Bool) | int (i:Int) | str (x:Str) | byt (b:Array UInt8) | flt (b:UInt64) | ref (a:Addr) | ty (n:String)
 deriving DecidableEq
noncomputable def RelV:V->Value->Prop
 | .non,u=>u=QK
 | .bl b,u=>u=RS b
 | .int i,u=>∃ t,u=RU i t
 | .str x,u=>∃ t,u=T6 x t
 | .byt b,u=>∃ t,u=Value.bytes b t
 | .flt b,u=>∃ t,u=Value.float b t
 | .ref a,u=>u=Px a
 | .ty n,u=>u=Qz n
noncomputable abbrev Vals:List V->List Value->Prop:=Paired RelV
theorem Vals.length (r:Vals xs us):xs.length=us.length:=QD r
theorem Vals.get:∀ {xs:List V} {us:List Value} {i:Nat} {x:V},Vals xs us->xs[i]?=some x->∃ u,us[i]?=some u/\RelV x u
 | _,_,_,_,.nil,e=>by simp at e
 | _,_,0,_,.cons r _,e=>by simp at e; subst e; exact ⟨_,rfl,r⟩
 | _,_,i+1,x,.cons _ t,e=>by
  obtain ⟨u,h1,h2⟩:=Vals.get (i:=i) (x:=x) t (by simpa using e)
  exact ⟨u,by simpa using h1,h2⟩
theorem Vals.set (r:RelV x u):∀ {xs:List V} {us:List Value} (i:Nat),Vals xs us->Vals (xs.set i x) (us.set i u)
 | _,_,_,.nil=>.nil
 | _,_,0,.cons _ t=>.cons r t
 | _,_,i+1,.cons q t=>.cons q (Vals.set r i t)
theorem Vals.append:∀ {xs ys:List V} {us ws:List Value},Vals xs us->Vals ys ws->Vals (xs++ys) (us++ws)
 | _,_,_,_,.nil,s=>s
 | _,_,_,_,.cons r t,s=>.cons r (Vals.append t s)
theorem Vals.take:∀ {xs:List V} {us:List Value} (n:Nat),Vals xs us->Vals (xs.take n) (us.take n)
 | _,_,0,_=>.nil
 | _,_,_+1,.nil=>.nil
 | _,_,n+1,.cons r t=>.cons r (Vals.take n t)
theorem Vals.drop:∀ {xs:List V} {us:List Value} (n:Nat),Vals xs us->Vals (xs.drop n) (us.drop n)
 | _,_,0,r=>r
 | _,_,_+1,.nil=>.nil
 | _,_,n+1,.cons _ t=>Vals.drop n t
noncomputable def jY:Option V->Option Value->Prop
 | some v,some u=>RelV v u
 | none,none=>True
 | _,_=>False
noncomputable def KV {U:Type}:List (U×V)->List (U×Value)->Prop:=Paired λ(p:U×V) (q:U×Value)=>p.1=q.1/\RelV p.2 q.2
noncomputable def kV:Key->V
 | .inl i=>.int i
 | .inr x=>.str x
inductive HO where
 | lst (xs:List V)
 | tup (xs:List V)
 | dK (kvs:List (Key×V)) | dT (kvs:List (List Key×Addr×V))
 | set (S:Int->Bool) (n:Nat)
 | ins (C dx:Addr) (fs:List (Str×V))
 | own (x:Addr)
 | xd (fs:List (Str×V))
 | met (f x:Addr)
 | rng (lo hi:Int)
 | frz (o:Obj) (u:HO)
 | tbl (ps:Array Value)
 | ext (φ :Heap->Prop)
noncomputable abbrev Hp:=Addr->Option HO
noncomputable def upd (H:Hp) (a:Addr) (o:HO):Hp:=λb=>if b=a then some o else H b
theorem ah:upd H a o a=some o:=by unfold upd; rw [if_pos rfl]
theorem ai (h:b≠a):upd H a o b=H b:=by unfold upd; rw [if_neg h]
theorem oV:upd (upd H a o) a u=upd H a u:=by
 funext b; unfold upd; split <;> rfl
theorem aq {H:Hp} (h:H a=some o) (h':H b=none):a≠b:=by
 intro e; subst e; rw [h] at h'; cases h'
section
variable (P:Program) (w:World)
noncomputable def bf (H:Hp) (h:Heap) (a:Addr):HO->Prop
 | .lst xs=>xs.length<=sizeLine/\∃ (its:List Value) (n:Nat),Vals xs its/\h.get? a=some { cls:=.type "list",data:=.seq its.toArray n }
 | .tup xs=>xs.length<=sizeLine/\∃ its:List Value,Vals xs its/\IsTup h a its.toArray
 | .dK kvs=>kvs.length<=sizeLine/\(a == sysModules)=false/\∃ vs,KV kvs vs/\h.DictOf (bZ P w) a vs
 | .dT kvs=>kvs.length<=sizeLine/\(a == sysModules)=false/\∃ xs:List (List Key×Addr×Value),
  Paired (λ(p:List Key×Addr×V) (q:List Key×Addr×Value)=>p.1=q.1/\p.2.1=q.2.1/\RelV p.2.2 q.2.2) kvs xs /\
  ∃ o es ep,h.get? a=some o/\o.ExactDict/\o.data=.dict es ep/\es.toList=xs.map (entryOfKey (tupleKind (bZ P w)))/\(xs.map (·.1)).Nodup
 | .set S n=>h.SetOf (intKind P w) a S n
 | .ins C dx fs=>H dx=some (.own a)/\fs.length<=1000/\dx≠a/\h.get? a=some (PySem.W.instObj C dx) /\
  ∃ mA,h.Ns1 dx mA/\(∀ f,jY (fs.lookup f) (mA f))/\PySem.Within mA (fs.map (·.1))
 | .own _=>∃ o,h.get? a=some o
 | .xd fs=>∃ mA,h.Ns1 a mA/\∀ f,jY (fs.lookup f) (mA f)
 | .rng lo hi=>∃ t u v,h.get? a=some { cls:=.type "range",data:=.fields #[.int lo t,.int hi u,.int 1 v] }
 | .frz o u=>h.get? a=some o/\bf H h a u
 | .tbl ps=>h.get? a=some { cls:=.none,data:=.fields ps }
 | .met f x=>h.get? a=some (VQ (.ref f) (.ref x))
 | .ext φ => φ h/\(∃ o,h.get? a=some o)/\∀ h1 h2:Heap,φ h1->(∀ o,h1.get? a=some o->h2.get? a=some o)-> φ h2
def ig (H:Hp) (h:Heap):Prop:=∀ a o,H a=some o->bf P w H h a o
end
theorem bf.lt (x:bf P w H h a o):a<h.objs.size:=by
 cases o with
 | lst xs=>obtain ⟨_,_,_,_,e⟩:=x; exact Pf e
 | tup xs=>obtain ⟨_,_,_,p⟩:=x; exact p.lt
 | dK kvs=>obtain ⟨_,_,_,_,o,_,_,e,_⟩:=x; exact Pf e
 | dT kvs=>obtain ⟨_,_,_,_,o,_,_,e,_⟩:=x; exact Pf e
 | set S n=>obtain ⟨o,_,_,_,e,_⟩:=x; exact Pf e
 | ins C dx fs=>obtain ⟨_,_,_,e,_⟩:=x; exact Pf e
 | own y=>obtain ⟨_,e⟩:=x; exact Pf e
 | xd fs=>obtain ⟨_,⟨_,_,_,e,_⟩,_⟩:=x; exact Pf e
 | rng lo hi=>obtain ⟨_,_,_,e⟩:=x; exact Pf e
 | frz ob u=>obtain ⟨e,_⟩:=x; exact Pf e
 | tbl ps=>exact Pf (show h.get? a=some _ from x)
 | met f y=>exact Pf (show h.get? a=some _ from x)
 | ext φ =>obtain ⟨_,⟨_,e⟩,_⟩:=x; exact Pf e
theorem Paired.HD:∀ {l₁:List α} {l₂:List β},Paired F l₁ l₂->(∀ a b,F a b->G a b)->Paired G l₁ l₂
 | _,_,.nil,_=>.nil
 | _,_,.cons r t,f=>.cons (f _ _ r) (Paired.HD t f)
theorem bf.stay (x:bf P w H h a o) (k:∀ b u,(b=a\/H b=some (.own a))->h.get? b=some u->h'.get? b=some u)
 (ho:∀ b,H b=some (.own a)->H' b=some (.own a)) (ht:∀ b xs,H b=some (.tup xs)->H' b=some (.tup xs)):bf P w H' h' a o:=by
 induction o with
 | lst xs=>obtain ⟨z,its,n,r,e⟩:=x; exact ⟨z,its,n,r,k _ _ (.inl rfl) e⟩
 | tup xs=>obtain ⟨z,its,r,ob,e,c⟩:=x; exact ⟨z,its,r,ob,k _ _ (.inl rfl) e,c⟩
 | dK kvs=>obtain ⟨z,y,vs,r,ob,es,ep,e,c⟩:=x; exact ⟨z,y,vs,r,ob,es,ep,k _ _ (.inl rfl) e,c⟩
 | dT kvs =>
  obtain ⟨z,y,xs,r,ob,es,ep,e,c⟩:=x
  exact ⟨z,y,xs,r,ob,es,ep,k _ _ (.inl rfl) e,c⟩
 | set S n=>obtain ⟨ob,es,ep,t,e,c⟩:=x; exact ⟨ob,es,ep,t,k _ _ (.inl rfl) e,c⟩
 | ins C dx fs =>
  obtain ⟨d,z,ne,e,mA,⟨od,es,ep,e2,c⟩,r⟩:=x
  exact ⟨ho _ d,z,ne,k _ _ (.inl rfl) e,mA,⟨od,es,ep,k _ _ (.inr d) e2,c⟩,r⟩
 | own y=>obtain ⟨ob,e⟩:=x; exact ⟨ob,k _ _ (.inl rfl) e⟩
 | xd fs=>obtain ⟨mA,⟨od,es,ep,e,c⟩,r⟩:=x; exact ⟨mA,⟨od,es,ep,k _ _ (.inl rfl) e,c⟩,r⟩
 | rng lo hi=>obtain ⟨t,u,v,e⟩:=x; exact ⟨t,u,v,k _ _ (.inl rfl) e⟩
 | frz ob u ih=>obtain ⟨e,q⟩:=x; exact ⟨k _ _ (.inl rfl) e,ih q⟩
 | tbl ps =>
  have e:h.get? a=some { cls:=.none,data:=.fields ps }:=x
  show h'.get? a=some { cls:=.none,data:=.fields ps }
  exact k a _ (.inl rfl) e
 | met f y =>
  have e:h.get? a=some (VQ (.ref f) (.ref y)):=x
  show h'.get? a=some (VQ (.ref f) (.ref y))
  exact k a _ (.inl rfl) e
 | ext φ =>obtain ⟨p,⟨o,e⟩,st⟩:=x; exact ⟨st _ _ p λo q=>k _ _ (.inl rfl) q,⟨o,k _ _ (.inl rfl) e⟩,st⟩
theorem ig.lt (x:ig P w H h) (e:H a=some o):a<h.objs.size:=(x a o e).lt
theorem ig.fresh (x:ig P w H h) (e:h.objs.size<=a):H a=none:=by
 cases q:H a with
 | none=>rfl
 | some u=>exact absurd (P9 (x.lt q) e) (QJ _)
theorem ig.kept (x:ig P w H h) (k:∀ b u,h.get? b=some u->h'.get? b=some u):ig P w H h':=λa o e =>
 (x a o e).stay (λb u _ q=>k b u q) (λ_ q=>q) λ_ _ q=>q
theorem ig.laid (x:ig P w H h) (k:∀ b u,h.get? b=some u->h'.get? b=some u) (hp:h.objs.size<=a) (new:bf P w (upd H a o) h' a o):ig P w (upd H a o) h':=λb u e=>by
 have hn:=x.fresh hp
 by_cases hb:b=a
 ·subst hb; rw [ah] at e; cases e; exact new
 ·rw [ai hb] at e
  exact (x b u e).stay (λc v _ q=>k c v q) (λc q=>by rw [ai (aq q hn)]; exact q) λc xs q=>by rw [ai (aq q hn)]; exact q
def Rd (H:Hp) (a:Addr) (u:HO):Prop:=H a=some u\/∃ o,H a=some (.frz o u)
theorem Rd.ok (r:Rd H a u) (x:ig P w H h):bf P w H h a u:=by
 rcases r with r | ⟨o,r⟩
 ·exact x a u r
 ·obtain ⟨_,q⟩:=x a _ r
  exact q
noncomputable def K0:Option HO->Prop
 | some (.lst _)=>True
 | some (.dK _)=>True
 | some (.dT _)=>True
 | some (.set _ _)=>True
 | some (.ins _ _ _)=>True
 | some (.ext _)=>True
 | _=>False
theorem ig.write (ok:ig P w H h) (mu:K0 (H x)) (he:e=x\/H e=some (.own x)) (k:∀ b u,b≠e->h.get? b=some u->h'.get? b=some u) (heo:∃ u,h'.get? e=some u)
 (new:bf P w (upd H x o') h' x o'):ig P w (upd H x o') h':=λb u q=>by
 have nown:∀ c y,H c=some (.own y)->c≠x:=λc y r z=>by subst z; rw [r] at mu; exact mu
 have ntup:∀ c xs,H c=some (.tup xs)->c≠x:=λc xs r z=>by subst z; rw [r] at mu; exact mu
 by_cases hb:b=x
 ·subst hb; rw [ah] at q; cases q; exact new
 ·rw [ai hb] at q
  by_cases hbe:b=e
  ·have q':H b=some (.own x):=by
    rcases he with z | z
    ·exact absurd (hbe.trans z) hb
    ·rw [hbe]; exact z
   rw [q] at q'; cases q'
   obtain ⟨v,hv⟩:=heo
   exact ⟨v,by rw [hbe]; exact hv⟩
  ·refine (ok b u q).stay (λc v hc r=>k c v ?_ r) (λc r=>by rw [ai (nown c b r)]; exact r) λc xs r=>by rw [ai (ntup c xs r)]; exact r
   rcases hc with rfl | hc
   ·exact hbe
   ·rintro rfl
    rcases he with z | z
    ·exact nown c b hc z
    ·rw [hc] at z; cases z; exact hb rfl
structure Un (fs ex:List Addr) (H H':Hp) (h h':Heap):Prop where
 keep:∀ b o,h.get? b=some o->H b=none->b∉fs->b∉ex->h'.get? b=some o
 slot:∀ b o,h.get? b=some o->H b=none->b∈fs->b∉ex->∃ sl,h'.get? b=some { o with slots:=sl }
 free:∀ b o,h.get? b=some o->H b=none->b∉ex->H' b=none
 there:∀ b o,h.get? b=some o->b∉ex->∃ o',h'.get? b=some o'
 tups:∀ b xs,H b=some (.tup xs)->H' b=some (.tup xs)
 frzs:∀ b o u,H b=some (.frz o u)->H' b=some (.frz o u)
 tbls:∀ b ps,H b=some (.tbl ps)->∃ more,H' b=some (.tbl (ps++more))
section
variable {fs fs' ex ex':List Addr} {H H1 H2:Hp} {h h1 h2 h':Heap} {a x e:Addr} {o:HO}
theorem Un.any (u:Un fs ex H H1 h h1) (q:h.get? b=some ob) (n:H b=none) (hx:b∉ex):∃ sl,h1.get? b=some { ob with slots:=sl }:=by
 by_cases hb:b∈fs
 ·exact u.slot b ob q n hb hx
 ·exact ⟨ob.slots,u.keep b ob q n hb hx⟩
theorem Un.kept (k:∀ b u,h.get? b=some u->h'.get? b=some u):Un fs ex H H h h' :=
 ⟨λb ob q _ _ _=>k b ob q,λb ob q _ _ _=>⟨ob.slots,k b ob q⟩,λ_ _ _ n _=>n,λb ob q _=>⟨ob,k b ob q⟩,λ_ _ q=>q,λ_ _ _ q=>q,λ_ ps q=>⟨#[],by rw [q]; simp⟩⟩
theorem Un.refl:Un fs ex H H h h:=Un.kept λ_ _ q=>q
theorem Un.laid (k:∀ b u,h.get? b=some u->h'.get? b=some u) (hp:h.objs.size<=a) (hn:H a=none):Un fs ex H (upd H a o) h h' where
 keep:=λb u q _ _ _=>k b u q
 slot:=λb u q _ _ _=>⟨u.slots,k b u q⟩
 free:=λb u q n _=>by rw [ai (PJ (P9 (Pf q) hp))]; exact n
 there:=λb u q _=>⟨u,k b u q⟩
 tups:=λb xs q=>by rw [ai (aq q hn)]; exact q
 frzs:=λb u xs q=>by rw [ai (aq q hn)]; exact q
 tbls:=λb ps q=>⟨#[],by rw [ai (aq q hn),q]; simp⟩
theorem Un.write (mu:K0 (H x)) (he:e=x\/H e=some (.own x)) (k:∀ b u,b≠e->h.get? b=some u->h'.get? b=some u) (heo:∃ u,h'.get? e=some u):Un fs ex H (upd H x o) h h':=by
 have hx:∀ b,H b=none->b≠x:=λb n z=>by subst z; rw [n] at mu; exact mu
 have hb:∀ b,H b=none->b≠e:=λb n z=>by
  subst z
  rcases he with r | r
  ·exact hx b n r
  ·rw [n] at r; cases r
 have hm:∀ b u,H b=some u->¬ K0 (some u)->b≠x:=λb u q nm z=>by subst z; rw [q] at mu; exact nm mu
 refine ⟨λb u q n _ _=>k b u (hb b n) q,λb u q n _ _=>⟨u.slots,k b u (hb b n) q⟩,λb u q n _=>by rw [ai (hx b n)]; exact n,λb u q _=>?_,
  λb xs q=>by rw [ai (hm b _ q λz=>z)]; exact q,λb u xs q=>by rw [ai (hm b _ q λz=>z)]; exact q,λb ps q=>⟨#[],by rw [ai (hm b _ q λz=>z),q]; simp⟩⟩
 by_cases hbe:b=e
 ·subst hbe; exact heo
 ·exact ⟨u,k b u hbe q⟩
end
noncomputable def M3 (h:Heap) (H:Hp):List Addr:=(PM h.objs.size).filter λa=>(H a).isSome
noncomputable def oW (h:Heap) (H:Hp):Heap:=PySem.W.hideAll h (M3 h H)
theorem yd (h) (H):(oW h H).objs.size=h.objs.size:=PySem.W.hideAll_size _ _
theorem zX (e:h.get? b=some o) (n:H b=none):(oW h H).get? b=some o :=
 PySem.W.hideAll_get _ e λhm=>by
  have q:(H b).isSome=true:=(Q4.mp hm).2
  rw [n] at q; simp at q
theorem DM (e:(oW h H).get? b=some o):h.get? b=some o/\H b=none:=by
 have e':h.get? b=some o:=PySem.W.of_hideAll (M3 h H) e
 refine ⟨e',?_⟩
 cases q:H b with
 | none=>rfl
 | some x =>
  have hm:b∈M3 h H:=Q4.mpr ⟨TF.mpr (Pf e'),by simp [q]⟩
  have z:(oW h H).get? b=none:=PySem.W.hideAll_none (M3 h H) hm
  rw [z] at e; cases e
structure Mod (K:O7) (mg:Str->Option Value) (base:Heap):Prop where
 kin:K.In base
 glob:base.Ns mainGlobals mg
 blt:∃ mb,base.Ns builtinsNs mb/\∀ x:Str,x≠"__name__"->mb x=bootBuiltins x
 nolimit:base.NoLimit
structure Cx where
 prog:Program
 w:World
 K:O7
 mg:Str->Option Value
 base:Heap
 A:Around
 N:List Str
 s₀:Shared
 H₀:Hp
 env:Env
 outer:List Env
 stack:List Env
 ex:List Addr
 fn:Str->Bool
 calm:Bool
 pn:List (Addr×Obj)
 xe:Value->Shared->Prop
noncomputable def frs (l:List Env):List Addr:=l.filterMap (·.frame)
noncomputable abbrev Cx.fs (X:Cx):List Addr:=frs X.outer
def M4 (sc:Scope) (x:Str):Prop:=sc.names.lookup x=some .local\/sc.names.lookup x=some .cell\/sc.names.lookup x=some .free
def Loc (sc:Scope) (x:Str):Prop:=sc.names.lookup x=some .local\/sc.names.lookup x=some .cell
def Look (env:Env) (h:Heap) (m:Str->Option Value) (x:Str) (u:Value):Prop :=
 (env.kindOf x=some .local/\m x=some u)\/((env.kindOf x=some .cell\/env.kindOf x=some .free)/\∃ c,env.cells.lookup x=some c/\h.IsCell c (some u))
structure Cx.Ok (X:Cx):Prop where
 mod:Mod X.K X.mg X.base
 kind:X.env.scope.kind=.function
 glob:X.env.globals=mainGlobals
 blt:X.env.builtins=builtinsNs
 above:X.s₀.heap.objs.size<=X.env.locals
 inj:∀ x y c,X.env.cells.lookup x=some c->X.env.cells.lookup y=some c->x=y
 has:∀ x,(X.env.kindOf x=some .cell\/X.env.kindOf x=some .free)->∃ c,X.env.cells.lookup x=some c
 cab:∀ x c,X.fn x=true->X.env.cells.lookup x=some c->X.s₀.heap.objs.size<=c
 hd:X.calm=true->X.A.handled=none
 frames:X.A.frames=some X.stack
 stk:X.stack=X.outer\/(X.stack=X.env::X.outer/\X.env.frame=some X.env.locals)
 exf:∀ b∈X.ex,b≠X.env.locals/\∀ x c,X.env.cells.lookup x=some c->c≠b
 bs:∀ b o,X.base.get? b=some o->X.s₀.heap.get? b=some o/\X.H₀ b=none
 bsz:X.base.objs.size<=X.s₀.heap.objs.size
 noex:∀ b o,X.base.get? b=some o->b∉X.ex
 exfs:∀ b∈X.ex,b∉X.fs
 gS:X.s₀.heap.FunFrames X.base X.outer
 frf:∀ b∈X.fs,X.H₀ b=none
structure Inv (X:Cx) (aa:List (Addr×Obj)) (Z:List (Option V)) (H:Hp) (s:Shared):Prop where
 ok:X.Ok
 os:s.os=X.s₀.os
 bare:AllBare s.gens
 base:Un X.fs X.ex X.H₀ H X.s₀.heap s.heap
 loc:∃ m,s.heap.Ns X.env.locals m/\∀ (i:Nat) (x:Str) (v:V),X.N[i]?=some x->Z[i]?=some (some v)->M4 X.env.scope x->∃ u,RelV v u/\Look X.env s.heap m x u
 cell:∀ x c,X.env.cells.lookup x=some c->∃ v,s.heap.IsCell c v
 free:H X.env.locals=none
 freeC:∀ x c,X.env.cells.lookup x=some c->H c=none
 pin:∀ p∈X.pn++aa,s.heap.get? p.1=some p.2/\H p.1=none/\p.1≠X.env.locals/\p.1∉X.fs/\∀ v,p.2.data≠.cell v
 hok:ig X.prog X.w H s.heap
 len:Z.length=X.N.length
section
variable {X:Cx}
theorem Cx.Ok.Nq (ok:X.Ok) (e:X.base.get? b=some o):b∉X.fs:=λhb=>by
 have:=(ok.gS.mem hb).1
 rw [e] at this; cases this
theorem Inv.bs (I:Inv X aa Z H s):∀ b o,X.base.get? b=some o->s.heap.get? b=some o/\H b=none:=λb o e =>
 ⟨I.base.keep b o (I.ok.bs b o e).1 (I.ok.bs b o e).2 (I.ok.Nq e) (I.ok.noex b o e),I.base.free b o (I.ok.bs b o e).1 (I.ok.bs b o e).2 (I.ok.noex b o e)⟩
theorem Inv.bk (I:Inv X aa Z H s):∀ b o,X.base.get? b=some o->s.heap.get? b=some o:=λb o e=>(I.bs b o e).1
theorem Inv.mod (I:Inv X aa Z H s):Mod X.K X.mg X.base:=I.ok.mod
theorem Inv.qK (I:Inv X aa Z H s):X.K.In s.heap:=I.ok.mod.kin.keeps I.bk
theorem Inv.lt (I:Inv X aa Z H s):X.env.locals<s.heap.objs.size:=let ⟨_,hn,_⟩:=I.loc; hn.lt
theorem Inv.sz (I:Inv X aa Z H s):X.s₀.heap.objs.size<=s.heap.objs.size:=Pj I.ok.above (Rx I.lt)
theorem Inv.K1 (I:Inv X aa Z H s) (h:s.heap.objs.size<=a):a∉X.fs:=λhb=>by
 obtain ⟨_,o,ho,_⟩:=I.ok.gS.mem hb
 exact absurd (P9 (Pf ho) (Pj I.sz h)) (QJ _)
theorem Inv.zT (I:Inv X aa Z H s):∀ x c,X.env.cells.lookup x=some c->c≠X.env.locals:=λx c e z=>by
 obtain ⟨v,o,ho,hd⟩:=I.cell x c e
 obtain ⟨m,⟨o',es,ep,ho',hd',_⟩,_⟩:=I.loc
 rw [z,ho'] at ho; cases ho; rw [hd'] at hd; cases hd
theorem Inv.gS (I:Inv X aa Z H s):s.heap.FunFrames X.base X.outer:=by
 have all:∀ (l:List Env),(∀ b∈frs l,b∈X.fs)->X.s₀.heap.FunFrames X.base l->s.heap.FunFrames X.base l:=by
  intro l
  induction l with
  | nil=>intro _ _; trivial
  | cons env r ih =>
   intro hs hl
   obtain ⟨hk,⟨L,o,hf,hn,ho,hd⟩,hr⟩:=hl
   have hL:L∈X.fs:=hs L (by unfold frs; rw [SH,hf]; exact Pd)
   obtain ⟨sl,e⟩:=I.base.slot L o ho (I.ok.frf L hL) hL λz=>I.ok.exfs L z hL
   exact ⟨hk,⟨L,_,hf,hn,e,hd⟩,ih (λb hb=>hs b (by unfold frs; rw [SH,hf]; exact Ph _ hb)) hr⟩
 exact all X.outer (λ_ hb=>hb) I.ok.gS
theorem Inv.stack (I:Inv X aa Z H s):s.heap.FunFrames X.base X.stack:=by
 rcases I.ok.stk with e | ⟨e,hf⟩
 ·rw [e]; exact I.gS
 ·rw [e]
  obtain ⟨m,hn,_⟩:=I.loc
  refine .cons (by rw [I.ok.kind]; decide) hf hn ?_ I.gS
  exact Heap.get?_none_of_le (Pj I.ok.bsz I.ok.above)
theorem Inv.oX (I:Inv X aa Z H s):∀ b∈frs X.stack,b∈X.env.locals::X.fs:=λb hb=>by
 rcases I.ok.stk with e | ⟨e,hf⟩
 ·rw [e] at hb; exact Ph _ hb
 ·rw [e] at hb
  unfold frs at hb
  rw [SH,hf] at hb
  exact hb
theorem Inv.j8 (I:Inv X aa Z H s):∀ b∈frs X.stack,H b=none:=λb hb=>by
 rcases Pg.mp (I.oX b hb) with e | hb
 ·rw [e]; exact I.free
 ·obtain ⟨_,o,ho,_⟩:=I.ok.gS.mem hb
  exact I.base.free b o ho (I.ok.frf b hb) λz=>I.ok.exfs b z hb
theorem Inv.step {ch:List Addr} (I:Inv X aa Z H s)
 (hch:∀ b∈ch,(b∈X.ex\/X.s₀.heap.objs.size<=b)/\b≠X.env.locals/\(∀ x c,X.env.cells.lookup x=some c->c≠b)/\∀ p∈X.pn++aa,p.1≠b)
 (keep:∀ b o,b≠X.env.locals->b∉X.fs->b∉ch->s.heap.get? b=some o->H b=none->h'.get? b=some o)
 (slot:∀ b o,b≠X.env.locals->b∈X.fs->b∉ch->s.heap.get? b=some o->H b=none->∃ sl,h'.get? b=some { o with slots:=sl }) (free:∀ b o,b∉ch->s.heap.get? b=some o->H b=none->H' b=none)
 (there:∀ b o,b∉ch->s.heap.get? b=some o->∃ o',h'.get? b=some o')
 (tups:∀ b xs,H b=some (.tup xs)->H' b=some (.tup xs)) (frzs:∀ b o u,H b=some (.frz o u)->H' b=some (.frz o u)) (tbls:∀ b ps,H b=some (.tbl ps)->∃ more,H' b=some (.tbl (ps++more)))
 (ns:∀ m,s.heap.Ns X.env.locals m->h'.Ns X.env.locals m) (hok:ig X.prog X.w H' h') (hg:AllBare g') :
 Inv X aa Z H' { s with heap:=h',gens:=g',drawn:=d',toks:=t' }:=by
 have neL:∀ b o,X.s₀.heap.get? b=some o->b≠X.env.locals:=λb o e=>PJ (P9 (Pf e) I.ok.above)
 have neC:∀ b o,X.s₀.heap.get? b=some o->b∉X.ex->b∉ch:=λb o e hx hb=>by
  rcases (hch b hb).1 with z | z
  ·exact hx z
  ·exact absurd (P9 (Pf e) z) (QJ _)
 have cellK:∀ x c,X.env.cells.lookup x=some c->∀ v,s.heap.IsCell c v->h'.IsCell c v:=λx c e v ⟨o,ho,hd⟩=>by
  have nch:c∉ch:=λz=>(hch c z).2.2.1 x c e rfl
  by_cases hc:c∈X.fs
  ·obtain ⟨sl,q⟩:=slot c o (I.zT x c e) hc nch ho (I.freeC x c e)
   exact ⟨_,q,hd⟩
  ·exact ⟨o,keep c o (I.zT x c e) hc nch ho (I.freeC x c e),hd⟩
 refine ⟨I.ok,I.os,hg,⟨λb o e n hb hx=>?_,λb o e n hb hx=>?_,λb o e n hx=>?_,λb o e hx=>?_,λb xs e=>tups b xs (I.base.tups b xs e),λb o xs e=>frzs b o xs (I.base.frzs b o xs e),λb ps e=>?_⟩,?_,λx c e=>?_,?_,λx c e=>?_,λp hp=>?_,hok,I.len⟩
 ·exact keep b o (neL b o e) hb (neC b o e hx) (I.base.keep b o e n hb hx) (I.base.free b o e n hx)
 ·obtain ⟨sl,e1⟩:=I.base.slot b o e n hb hx
  obtain ⟨sl',e2⟩:=slot b _ (neL b o e) hb (neC b o e hx) e1 (I.base.free b o e n hx)
  exact ⟨sl',e2⟩
 ·obtain ⟨o',e1⟩:=I.base.there b o e hx
  exact free b o' (neC b o e hx) e1 (I.base.free b o e n hx)
 ·obtain ⟨o',e1⟩:=I.base.there b o e hx
  exact there b o' (neC b o e hx) e1
 ·obtain ⟨m1,e1⟩:=I.base.tbls b ps e
  obtain ⟨m2,e2⟩:=tbls b _ e1
  exact ⟨m1++m2,by rw [e2,VM]⟩
 ·obtain ⟨m,hn,hl⟩:=I.loc
  refine ⟨m,ns m hn,λi x v e1 e2 e3=>?_⟩
  obtain ⟨u,r,l⟩:=hl i x v e1 e2 e3
  refine ⟨u,r,?_⟩
  rcases l with l | ⟨k,c,e,z⟩
  ·exact .inl l
  ·exact .inr ⟨k,c,e,cellK x c e _ z⟩
 ·obtain ⟨v,z⟩:=I.cell x c e
  exact ⟨v,cellK x c e v z⟩
 ·obtain ⟨m,⟨o,_,_,ho,_⟩,_⟩:=I.loc
  exact free _ o (λz=>(hch _ z).2.1 rfl) ho I.free
 ·obtain ⟨v,o,ho,hd⟩:=I.cell x c e
  exact free c o (λz=>(hch c z).2.2.1 x c e rfl) ho (I.freeC x c e)
 ·obtain ⟨e,n,ne,nf,d⟩:=I.pin p hp
  have nch:p.1∉ch:=λz=>(hch p.1 z).2.2.2 p hp rfl
  exact ⟨keep p.1 p.2 ne nf nch e n,free p.1 p.2 nch e n,ne,nf,d⟩
theorem Inv.un (I:Inv X aa Z H s) (u:Un X.fs [] H H' s.heap h') (hok:ig X.prog X.w H' h'):Inv X aa Z H' { s with heap:=h',toks:=t' }:=by
 obtain ⟨m,⟨o,es,ep,ho,r⟩,_⟩:=id I.loc
 obtain ⟨sl,hL⟩:=u.any ho I.free 'p'
 exact I.step (g':=s.gens) (d':=s.drawn) (ch:=[]) (λ_ z=>nomatch z) (λb o _ hb _ e n=>u.keep b o e n hb 'p') (λb o _ hb _ e n=>u.slot b o e n hb 'p') (λb o _ e n=>u.free b o e n 'p') (λb o _ e=>u.there b o e 'p') u.tups u.frzs u.tbls (λm' hm=>by
  obtain ⟨o',es',ep',ho',r'⟩:=hm
  rw [ho] at ho'; cases ho'
  exact ⟨_,es',ep',hL,r'⟩) hok I.bare
theorem Inv.call (I:Inv X aa Z H s) (u:Un (frs X.stack) ch H H' s.heap h') (hok:ig X.prog X.w H' h') (hg:AllBare g')
 (hch:∀ b∈ch,(b∈X.ex\/X.s₀.heap.objs.size<=b)/\b≠X.env.locals/\(∀ x c,X.env.cells.lookup x=some c->c≠b)/\∀ p∈X.pn++aa,p.1≠b) :
 Inv X aa Z H' { s with heap:=h',gens:=g',drawn:=d',toks:=t' }:=by
 obtain ⟨m,⟨o,es,ep,ho,r⟩,_⟩:=id I.loc
 obtain ⟨sl,hL⟩:=u.any ho I.free λz=>(hch _ z).2.1 rfl
 exact I.step (ch:=ch) hch (λb o hL hb hc e n=>u.keep b o e n (λz=>(Pg.mp (I.oX b z)).elim hL hb) hc) (λb o _ _ hc e n=>u.any e n hc) (λb o hc e n=>u.free b o e n hc) (λb o hc e=>u.there b o e hc) u.tups u.frzs u.tbls (λm' hm=>by
  obtain ⟨o',es',ep',ho',r'⟩:=hm
  rw [ho] at ho'; cases ho'
  exact ⟨_,es',ep',hL,r'⟩) hok hg
theorem Inv.turned (I:Inv X aa Z H s) (k:∀ b o,b≠it->s.heap.get? b=some o->h'.get? b=some o) (hn:H it=none) (hL:it≠X.env.locals)
 (h1:it∈X.ex\/X.s₀.heap.objs.size<=it) (h2:∀ x c,X.env.cells.lookup x=some c->c≠it) (h3:∀ p∈X.pn++aa,p.1≠it):Inv X aa Z H { s with heap:=h',toks:=t' }:=by
 have nit:∀ b u,H b=some u->b≠it:=λb u e z=>by rw [z,hn] at e; cases e
 refine I.step (g':=s.gens) (d':=s.drawn) (ch:=[it]) (λb hb=>?_) (λb o _ _ hc e _=>k b o (λz=>hc (by simp [z])) e) (λb o _ _ hc e _=>⟨o.slots,k b o (λz=>hc (by simp [z])) e⟩) (λ_ _ _ _ n=>n)
  (λb o hc e=>⟨o,k b o (λz=>hc (by simp [z])) e⟩) (λ_ _ e=>e) (λ_ _ _ e=>e) (λb ps e=>⟨#[],by rw [e]; simp⟩) (λm hm=>?_) (λb u e=>?_) I.bare
 ·have e:b=it:=by simpa using hb
  subst e
  exact ⟨h1,hL,h2,h3⟩
 ·obtain ⟨o,es,ep,ho,r⟩:=hm
  exact ⟨o,es,ep,k _ o (Py hL) ho,r⟩
 ·refine (I.hok b u e).stay (λc v hc q=>k c v ?_ q) (λ_ q=>q) λ_ _ q=>q
  rcases hc with z | z
  ·rw [z]; exact nit b u e
  ·exact nit c _ z
theorem Inv.tok (I:Inv X aa Z H s) (t):Inv X aa Z H { s with toks:=t }:=I.un (h':=s.heap) (t':=t) Un.refl I.hok
theorem Inv.kept (I:Inv X aa Z H s) (k:∀ b u,s.heap.get? b=some u->h'.get? b=some u):Inv X aa Z H { s with heap:=h',toks:=t' }:=I.un (Un.kept k) (I.hok.kept k)
theorem Inv.laid (I:Inv X aa Z H s) (k:∀ b u,s.heap.get? b=some u->h'.get? b=some u) (hp:s.heap.objs.size<=a) (new:bf X.prog X.w (upd H a o) h' a o) :
 Inv X aa Z (upd H a o) { s with heap:=h',toks:=t' }:=I.un (Un.laid k hp (I.hok.fresh hp)) (I.hok.laid k hp new)
theorem Inv.write (I:Inv X aa Z H s) (mu:K0 (H x)) (he:e=x\/H e=some (.own x)) (k:∀ b u,b≠e->s.heap.get? b=some u->h'.get? b=some u) (heo:∃ u,h'.get? e=some u)
 (new:bf X.prog X.w (upd H x o) h' x o):Inv X aa Z (upd H x o) { s with heap:=h',toks:=t' }:=I.un (Un.write mu he k heo) (I.hok.write mu he k heo new)
theorem Inv.vB (I:Inv X aa Z H s) (h:∀ p∈pins',s.heap.get? p.1=some p.2/\H p.1=none/\p.1≠X.env.locals/\p.1∉X.fs/\∀ v,p.2.data≠.cell v):Inv X pins' Z H s :=
 ⟨I.ok,I.os,I.bare,I.base,I.loc,I.cell,I.free,I.freeC,λp hp=>(PF.mp hp).elim (λz=>I.pin p (QF _ z)) (h p),I.hok,I.len⟩
theorem kN {N:List Str} (hN:N.Nodup) {i j:Nat} (a:N[i]?=some x) (b:N[j]?=some x):i=j:=by
 obtain ⟨h1,e1⟩:=Po.mp a
 obtain ⟨h2,e2⟩:=Po.mp b
 exact (List.getElem_inj hN).mp (e1.trans e2.symm)
theorem ye (I:Inv X aa Z H s) (hN:X.N.Nodup) (hi:X.N[i]?=some x) (hx:Loc X.env.scope x) (r:RelV v u)
 (h:∀ s',Inv X aa (Z.set i (some v)) H s'->(∃ a,QW a s.heap s'.heap/\(a=X.env.locals\/X.env.cells.lookup x=some a))->Q () s') (hf:X.fn x=true\/X.env.scope.names.lookup x=some .local:=by first | exact .inl rfl | exact .inr rfl | assumption):wpAny M A (storeName X.env x u) Q E s:=by
 obtain ⟨m,hn,hl⟩:=id I.loc
 have hcls:(X.env.scope.kind == .class || (X.env.scope.kind == .module && X.env.locals != X.env.globals))=false:=by rw [I.ok.kind]; rfl
 have hiZ:i<Z.length:=by rw [I.len]; exact (Po.mp hi).1
 have zT:=I.zT
 have tracked:∀ {a:Addr} {h':Heap},(∃ o,s.heap.get? a=some o/\H a=none)->QW a s.heap h'->ig X.prog X.w H h':=λ{a h'} ha hs b ob e=>by
  obtain ⟨_,_,hfree⟩:=ha
  refine (I.hok b ob e).stay (λc w' hc q=>(hs.2 c ?_).trans q) (λ_ q=>q) λ_ _ q=>q
  rintro rfl
  rcases hc with rfl | hc
  ·rw [hfree] at e; cases e
  ·rw [hfree] at hc; cases hc
 rcases hx with hk | hk
 ·refine wpAny_storeName_local hk hn (λh' hn' hs=>?_) hcls
  obtain ⟨oL,_,_,hoL,_⟩:=id hn
  refine h _ ⟨I.ok,I.os,I.bare,⟨λb o e n hb hx=>?_,λb o e n hb hx=>?_,I.base.free,λb o e hx=>?_,I.base.tups,I.base.frzs,I.base.tbls⟩,⟨_,hn',λj y v' e1 e2 e3=>?_⟩,λy c e=>?_,I.free,I.freeC,λp hp=>?_,tracked ⟨oL,hoL,I.free⟩ hs,by simpa using I.len⟩ ⟨_,hs,.inl rfl⟩
  ·exact (hs.2 b (PJ (P9 (Pf e) I.ok.above))).trans (I.base.keep b o e n hb hx)
  ·obtain ⟨sl,e1⟩:=I.base.slot b o e n hb hx
   exact ⟨sl,(hs.2 b (PJ (P9 (Pf e) I.ok.above))).trans e1⟩
  ·obtain ⟨o',e1⟩:=I.base.there b o e hx
   exact ⟨o',(hs.2 b (PJ (P9 (Pf e) I.ok.above))).trans e1⟩
  ·by_cases hj:j=i
   ·subst hj
    rw [hi] at e1; cases e1
    rw [Qu hiZ] at e2
    cases e2
    exact ⟨u,r,.inl ⟨hk,by simp⟩⟩
   ·rw [Ql (Py hj)] at e2
    obtain ⟨u',r',q⟩:=hl j y v' e1 e2 e3
    refine ⟨u',r',?_⟩
    rcases q with ⟨k,e⟩ | ⟨k,c,e,z⟩
    ·refine .inl ⟨k,?_⟩
     have:y≠x:=λe=>hj (kN hN e1 (e ▸ hi))
     simp [this,e]
    ·exact .inr ⟨k,c,e,z.sameBut hs (zT y c e)⟩
  ·obtain ⟨w',z⟩:=I.cell y c e
   exact ⟨w',z.sameBut hs (zT y c e)⟩
  ·obtain ⟨e,n,ne,nf,d⟩:=I.pin p hp
   exact ⟨(hs.2 p.1 ne).trans e,n,ne,nf,d⟩
 ·have hfn:X.fn x=true:=by
   rcases hf with z | z
   ·exact z
   ·rw [z] at hk; cases hk
  obtain ⟨c,hc⟩:=I.ok.has x (.inl hk)
  obtain ⟨w',z⟩:=I.cell x c hc
  refine wpAny_storeName_cell I.ok.kind hk hc z (λh' hc' hs=>?_)
  obtain ⟨oc,hoc,hocd⟩:=id z
  refine h { s with heap:=h' } ⟨I.ok,I.os,I.bare,⟨λb o e n hb hx=>?_,λb o e n hb hx=>?_,I.base.free,λb o e hx=>?_,I.base.tups,I.base.frzs,I.base.tbls⟩,⟨m,hn.sameBut hs (Py (zT x c hc)),λj y v' e1 e2 e3=>?_⟩,λy c' e=>?_,I.free,I.freeC,λp hp=>?_,tracked ⟨oc,hoc,I.freeC x c hc⟩ hs,by simpa using I.len⟩ ⟨c,hs,.inr hc⟩
  ·exact (hs.2 b (PJ (P9 (Pf e) (I.ok.cab x c hfn hc)))).trans (I.base.keep b o e n hb hx)
  ·obtain ⟨sl,e1⟩:=I.base.slot b o e n hb hx
   exact ⟨sl,(hs.2 b (PJ (P9 (Pf e) (I.ok.cab x c hfn hc)))).trans e1⟩
  ·obtain ⟨o',e1⟩:=I.base.there b o e hx
   exact ⟨o',(hs.2 b (PJ (P9 (Pf e) (I.ok.cab x c hfn hc)))).trans e1⟩
  ·by_cases hj:j=i
   ·subst hj
    rw [hi] at e1; cases e1
    rw [Qu hiZ] at e2
    cases e2
    exact ⟨u,r,.inr ⟨.inl hk,c,hc,hc'⟩⟩
   ·rw [Ql (Py hj)] at e2
    obtain ⟨u',r',q⟩:=hl j y v' e1 e2 e3
    refine ⟨u',r',?_⟩
    rcases q with q | ⟨k,c',e,z'⟩
    ·exact .inl q
    ·refine .inr ⟨k,c',e,z'.sameBut hs ?_⟩
     rintro rfl
     exact hj (kN hN e1 (I.ok.inj _ _ _ e hc ▸ hi))
  ·by_cases hcc:c'=c
   ·subst hcc; exact ⟨_,hc'⟩
   ·obtain ⟨w2,z2⟩:=I.cell y c' e
    exact ⟨w2,z2.sameBut hs hcc⟩
  ·obtain ⟨e,n,ne,nf,d⟩:=I.pin p hp
   refine ⟨(hs.2 p.1 ?_).trans e,n,ne,nf,d⟩
   intro q
   rw [q,hoc] at e
   have q':oc=p.2:=QU e
   exact d w' (by rw [<- q']; exact hocd)
theorem gc (I:Inv X aa Z H s) (hN:X.N.Nodup) (hi:X.N[i]?=some x) (hx:Loc X.env.scope x) (r:RelV v u)
 (h:∀ s',Inv X aa (Z.set i (some v)) H s'->Q () s') (hf:X.fn x=true\/X.env.scope.names.lookup x=some .local:=by first | exact .inl rfl | exact .inr rfl | assumption):wpAny M A (storeName X.env x u) Q E s :=
 ye I hN hi hx r (λs' I' _=>h s' I') hf
theorem Inv.GG (I:Inv X aa Z H s) (ho:s'.os=s.os) (u:Un (frs X.stack) ch H H' s.heap s'.heap) (hok:ig X.prog X.w H' s'.heap) (hg:AllBare s'.gens)
 (hch:∀ b∈ch,(b∈X.ex\/X.s₀.heap.objs.size<=b)/\b≠X.env.locals/\(∀ x c,X.env.cells.lookup x=some c->c≠b)/\∀ p∈X.pn++aa,p.1≠b):Inv X aa Z H' s':=by
 obtain ⟨h',g',d',t',o'⟩:=s'
 have e:o'=s.os:=ho
 subst e
 exact I.call (g':=g') (t':=t') (d':=d') u hok hg hch
end
noncomputable abbrev XK:=Value->Option Addr->Hp->Prop
noncomputable abbrev St:=List (Option V)
noncomputable abbrev VK:=V->Hp->Prop
noncomputable abbrev TE:=St->Hp->VK->Prop
noncomputable abbrev TT:=St->Hp->(Bool->Hp->Prop)->Prop
noncomputable abbrev TA:=St->Hp->(List V->Hp->Prop)->Prop
structure Ends where
 nx:St->Hp->Prop
 rt:VK
 bk:St->Hp->Prop:=λ_ _=>False
 ct:St->Hp->Prop:=λ_ _=>False
noncomputable abbrev TS:=Ends->St->Hp->Prop
def EP (X:Cx) (aa:List (Addr×Obj)) (Z:St) (Q:VK) (u:Value) (s':Shared):Prop:=∃ v H',Inv X aa Z H' s'/\RelV v u/\Q v H'
def TP (X:Cx) (aa:List (Addr×Obj)) (Z:St) (Q:Bool->Hp->Prop) (b:Bool) (s':Shared):Prop:=∃ H',Inv X aa Z H' s'/\Q b H'
def AP (X:Cx) (aa:List (Addr×Obj)) (Z:St) (Q:List V->Hp->Prop) (us:List Value) (s':Shared):Prop:=∃ vs H',Inv X aa Z H' s'/\Vals vs us/\Q vs H'
def SP (X:Cx) (aa:List (Addr×Obj)) (D:Ends) (f:Flow) (s':Shared):Prop :=
 match f with
 | .next=>∃ Z' H',Inv X aa Z' H' s'/\D.nx Z' H'
 | .brk=>∃ Z' H',Inv X aa Z' H' s'/\D.bk Z' H'
 | .cont=>∃ Z' H',Inv X aa Z' H' s'/\D.ct Z' H'
 | .ret u=>∃ v Z' H',Inv X aa Z' H' s'/\RelV v u/\D.rt v H'
def PE (X:Cx) (e:Expr) (t:TE):Prop :=
 ∀ (aa:List (Addr×Obj)) (s:Shared) (Z:St) (H:Hp) (Q:VK),Inv X aa Z H s->t Z H Q->wpAny (model X.prog X.w) X.A (eval e X.env) (EP X aa Z Q) X.xe s
def PT (X:Cx) (e:Expr) (t:TT):Prop :=
 ∀ (aa:List (Addr×Obj)) (s:Shared) (Z:St) (H:Hp) (Q:Bool->Hp->Prop),Inv X aa Z H s->t Z H Q->wpAny (model X.prog X.w) X.A (isTrue e X.env (eval e X.env)) (TP X aa Z Q) X.xe s
def PW (X:Cx) (e:Expr) (t:TT):Prop :=
 ∀ (whole:Sem Value) (aa:List (Addr×Obj)) (s:Shared) (Z:St) (H:Hp) (Q:Bool->Hp->Prop),Inv X aa Z H s->t Z H Q->wpAny (model X.prog X.w) X.A (isTrue e X.env whole) (TP X aa Z Q) X.xe s
def PA (X:Cx) (es:List Expr) (t:TA):Prop :=
 ∀ (pos:Pos) (aa:List (Addr×Obj)) (s:Shared) (Z:St) (H:Hp) (Q:List V->Hp->Prop),Inv X aa Z H s->t Z H Q->wpAny (model X.prog X.w) X.A (spliced (backTo pos (starEach es X.env))) (AP X aa Z Q) X.xe s
def PS (X:Cx) (st:Stmt) (t:TS):Prop :=
 ∀ (aa:List (Addr×Obj)) (s:Shared) (Z:St) (H:Hp) (D:Ends),Inv X aa Z H s->t D Z H->wpAny (model X.prog X.w) X.A (exec st X.env) (SP X aa D) X.xe s
def qQ (X:Cx) (st:List Stmt) (t:TS):Prop :=
 ∀ (aa:List (Addr×Obj)) (s:Shared) (Z:St) (H:Hp) (D:Ends),Inv X aa Z H s->t D Z H->wpAny (model X.prog X.w) X.A (execs st X.env) (SP X aa D) X.xe s
theorem bL (h:wpAny M A t Q E s) (hQ:∀ a s,Q a s->Q' a s):wpAny M A t Q' E s:=Qd h hQ λ_ _ x=>x
section
noncomputable def K2 (i:Nat):TE:=λZ H Q=>∃ v,Z[i]?=some (some v)/\Q v H
noncomputable def tC (v:V):TE:=λ_ H Q=>Q v H
theorem kO (hN:X.N[i]?=some x) (hv:M4 X.env.scope x) (hd:Ndb x:=by decide) (hcd:Ncd x:=by decide):PE X (.Name x pos) (K2 i):=by
 intro aa s Z H Q I h
 obtain ⟨v,e,h⟩:=h
 obtain ⟨m,hn,hl⟩:=I.loc
 obtain ⟨u,r,l⟩:=hl i x v hN e hv
 have fin:EP X aa Z Q u s:=⟨v,H,I,r,h⟩
 rcases l with ⟨hk,hm⟩ | ⟨hk,c,hc,hcell⟩
 ·exact S9 (Vv I.ok.kind hk hn hm fin) hd
 ·rcases hk with hk | hk
  ·exact S9 (VA I.ok.kind hk hc hcell fin) hd
  ·exact S9 (wpAny_loadName_free I.ok.kind hk hc hcell fin hcd) hd
theorem zY {i j pos}:PE X (.Constant (.int i) j pos) (tC (.int i)):=λ_ _ _ H _ I h=>wpAny_Constant_int ⟨.int i,H,I.tok _,⟨_,rfl⟩,h⟩
theorem vC {b j pos}:PE X (.Constant (.bool b) j pos) (tC (.bl b)):=λ_ _ _ H _ I h=>Constant_bool ⟨.bl b,H,I,rfl,h⟩
theorem HE {j pos}:PE X (.Constant .none j pos) (tC .non):=λ_ _ _ H _ I h=>Constant_none ⟨.non,H,I,rfl,h⟩
theorem HF {x j pos}:PE X (.Constant (.str x) j pos) (tC (.str x)):=λ_ _ _ H _ I h=>Calls.Constant_str ⟨.str x,H,I.tok _,⟨_,rfl⟩,h⟩
def Gl (X:Cx) (x:Str):Prop:=X.env.kindOf x=some .globalImplicit
theorem gG (I:Inv X aa Z H s) (hg:Gl X x) (hm:X.mg x=some u) (h:Q u s)
 (hd:Ndb x:=by decide):wpAny (model X.prog X.w) X.A (eval (.Name x pos) X.env) Q E s :=
 U7 I.ok.kind hg (Calls.loadGlobal_global (by rw [I.ok.glob]; exact I.mod.glob.keeps I.bk) hm h) hd
theorem cX (I:Inv X aa Z H s) (hg:Gl X x) (hm:X.mg x=none) (hv:bootBuiltins x=some u) (h:Q u s)
 (hn:x≠"__name__":=by decide) (hd:Ndb x:=by decide):wpAny (model X.prog X.w) X.A (eval (.Name x pos) X.env) Q E s:=by
 obtain ⟨mb,h1,h2⟩:=I.mod.blt
 exact U7 I.ok.kind hg (Calls.loadGlobal_builtin (by rw [I.ok.glob]; exact I.mod.glob.keeps I.bk) hm (by rw [I.ok.blt]; exact h1.keeps I.bk) ((h2 x hn).trans hv) h) hd
theorem DN (hg:Gl X x) (hm:X.mg x=some u) (r:RelV v u) (hd:Ndb x:=by decide):PE X (.Name x pos) (tC v) :=
 λ_ _ _ H _ I h=>gG I hg hm ⟨v,H,I,r,h⟩ hd
def PC (X:Cx) (op:CmpOp) (a b:Expr) (t:TE):Prop :=
 ∀ (aa:List (Addr×Obj)) (s:Shared) (Z:St) (H:Hp) (Q:VK),Inv X aa Z H s->t Z H Q ->
  wpAny (model X.prog X.w) X.A (eval a X.env) (λv s₁=>wpAny (model X.prog X.w) X.A (eval b X.env) (λu s₂=>wpAny (model X.prog X.w) X.A (compareOp op v u) (EP X aa Z Q) X.xe s₂) X.xe s₁) X.xe s
theorem qR (b) (h:op≠.In) (h2:op≠.NotIn):behindInMarks op b=false:=by
 have e1:(op == CmpOp.In)=false:=by cases op <;> first | rfl | exact absurd rfl h
 have e2:(op == CmpOp.NotIn)=false:=by cases op <;> first | rfl | exact absurd rfl h2
 cases b <;> simp [behindInMarks,e1,e2]
noncomputable def Nr (ta:TE):TE:=λZ H Q=>ta Z H λx H1=>Q (.bl (decide (x=.non))) H1
noncomputable def K3 (ta:TE):TE:=λZ H Q=>ta Z H λx H1=>Q (.bl (!decide (x=.non))) H1
theorem RelV.qS (r:RelV x v):(v == QK)=decide (x=.non):=by
 cases x with
 | non=>cases r; rfl
 | bl _=>cases r; rfl
 | int _=>obtain ⟨t,rfl⟩:=r; rfl
 | str _=>obtain ⟨t,rfl⟩:=r; rfl
 | byt _=>obtain ⟨t,rfl⟩:=r; rfl
 | flt _=>obtain ⟨t,rfl⟩:=r; rfl
 | ref _=>cases r; rfl
 | ty _=>cases r; rfl
theorem zZ {j pos'} (ha:PE X a ta):PC X .Is a (.Constant .none j pos') (Nr ta):=by
 intro aa s Z H Q I h
 refine bL (ha aa s Z H _ I h) λv s1 ⟨x,H1,I1,r1,q1⟩=>?_
 exact Constant_none (is_none_gen ⟨.bl _,H1,I1,by rw [r1.qS]; rfl,q1⟩)
theorem DO {j pos'} (ha:PE X a ta):PC X .IsNot a (.Constant .none j pos') (K3 ta):=by
 intro aa s Z H Q I h
 refine bL (ha aa s Z H _ I h) λv s1 ⟨x,H1,I1,r1,q1⟩=>?_
 exact Constant_none (isnot_none_gen ⟨.bl _,H1,I1,by rw [r1.qS]; rfl,q1⟩)
noncomputable def tB (t:TE):TT:=λZ H Q=>t Z H λx H1=>∃ c,x=.bl c/\Q c H1
theorem HG (h:PC X op a b t) (h1:behindInMarks op b=false:=by first | exact qR _ 'd' 'd' | rfl):PE X (.Compare a [op] [b] pos) t:=λaa s Z H Q I hw=>wpAny_Compare1 (h aa s Z H Q I hw) h1
theorem oY (h:PC X op a b t) (h1:behindInMarks op b=false:=by first | exact qR _ 'd' 'd' | rfl):PT X (.Compare a [op] [b] pos) (tB t):=by
 intro aa s Z H Q I hw
 refine wpAny_isTrue_Compare1 (bL (h aa s Z H _ I hw) λv s1 h1=>bL h1 λu s2 h2=>bL h2 λc s3 ⟨x,H1,I1,r1,q1⟩=>?_) h1
 obtain ⟨d,rfl,q⟩:=q1
 cases r1
 exact R5 ⟨H1,I1,q⟩
theorem HH (h:PE X e t) (he:∀ whole,isTrue e X.env whole=(do let v <- whole; standAt e.pos; holding [v] (truthy v)):=by intro _; rfl):PT X e (tB t):=by
 intro aa s Z H Q I hw
 refine isTrue_plain (bL (h aa s Z H _ I hw) λv s1 ⟨x,H1,I1,r1,q1⟩=>?_) (he _)
 obtain ⟨d,rfl,q⟩:=q1
 cases r1
 exact R5 ⟨H1,I1,q⟩
variable {rest:List Expr}
noncomputable def Nt (t u:TT):TT:=λZ H Q=>t Z H λc H1=>if c=true then u Z H1 Q else Q false H1
noncomputable def OQ (t u:TT):TT:=λZ H Q=>t Z H λc H1=>if c=true then Q true H1 else u Z H1 Q
noncomputable def Nu (t:TT):TT:=λZ H Q=>t Z H λc H1=>Q (!c) H1
theorem pw_and1 (ha:PT X a tA):PW X (.BoolOp .And [a] pos) tA:=by
 intro wh aa s Z H Q I h
 refine isTrue_and (bL (ha aa s Z H Q I h) λc s1 e=>?_)
 cases c with
 | true=>exact isTrue_and_nil e
 | false=>exact e
theorem pw_or1 (ha:PT X a tA):PW X (.BoolOp .Or [a] pos) tA:=by
 intro wh aa s Z H Q I h
 refine isTrue_or (bL (ha aa s Z H Q I h) λc s1 e=>?_)
 cases c with
 | false=>exact isTrue_or_nil e
 | true=>exact e
theorem pw_and (ha:PT X a tA) (hb:PW X (.BoolOp .And (b::rest) pos) tB'):PW X (.BoolOp .And (a::b::rest) pos) (Nt tA tB'):=by
 intro wh aa s Z H Q I h
 refine isTrue_and (bL (ha aa s Z H _ I h) λc s1 ⟨H1,I1,q1⟩=>?_)
 cases c with
 | true=>exact hb wh aa s1 Z H1 Q I1 q1
 | false=>exact ⟨H1,I1,q1⟩
theorem pw_or (ha:PT X a tA) (hb:PW X (.BoolOp .Or (b::rest) pos) tB'):PW X (.BoolOp .Or (a::b::rest) pos) (OQ tA tB'):=by
 intro wh aa s Z H Q I h
 refine isTrue_or (bL (ha aa s Z H _ I h) λc s1 ⟨H1,I1,q1⟩=>?_)
 cases c with
 | true=>exact ⟨H1,I1,q1⟩
 | false=>exact hb wh aa s1 Z H1 Q I1 q1
theorem HJ (ha:PT X a tA):PT X (.UnaryOp .Not a pos) (Nu tA):=by
 intro aa s Z H Q I h
 exact isTrue_not (ha aa s Z H (λc H1=>Q (!c) H1) I h)
noncomputable def K4 (ta tb:TE):TE:=λZ H Q=>ta Z H λx H1=>∃ c,x=.bl c/\if c=true then tb Z H1 Q else Q (.bl false) H1
noncomputable def K5 (ta:TE):TE:=λZ H Q=>ta Z H λx H1=>∃ c,x=.bl c/\Q (.bl (!c)) H1
theorem HK {op} (h:PE X a t):PE X (.BoolOp op [a] pos) t:=λaa s Z H Q I hw=>BoolOp_one (h aa s Z H Q I hw)
theorem HL (ha:PE X a ta) (hb:PE X (.BoolOp .And (b::rest) pos) tb):PE X (.BoolOp .And (a::b::rest) pos) (K4 ta tb):=by
 intro aa s Z H Q I h
 refine BoolOp_and (bL (ha aa s Z H _ I h) λv s1 ⟨x,H1,I1,r1,q1⟩=>?_)
 obtain ⟨c,rfl,q1⟩:=q1
 cases r1
 refine R5 ?_
 cases c with
 | true=>exact hb aa s1 Z H1 Q I1 q1
 | false=>exact ⟨.bl false,H1,I1,rfl,q1⟩
theorem HM (ha:PE X a ta):PE X (.UnaryOp .Not a pos) (K5 ta):=by
 intro aa s Z H Q I h
 refine UnaryOp_ (bL (ha aa s Z H _ I h) λv s1 ⟨x,H1,I1,r1,q1⟩=>?_)
 obtain ⟨c,rfl,q1⟩:=q1
 cases r1
 exact not_of (R5 ⟨.bl (!c),H1,I1,rfl,q1⟩)
noncomputable def OR (t:TT) (ta tb:TE):TE:=λZ H Q=>t Z H λc H1=>if c=true then ta Z H1 Q else tb Z H1 Q
theorem Aa (hc:PT X c tA) (ha:PE X a ta) (hb:PE X b tb):PE X (.IfExp c a b pos) (OR tA ta tb):=by
 intro aa s Z H Q I h
 refine wpAny_IfExp (bL (hc aa s Z H _ I h) λd s1 ⟨H1,I1,q1⟩=>?_)
 cases d with
 | true=>exact ha aa s1 Z H1 Q I1 q1
 | false=>exact hb aa s1 Z H1 Q I1 q1
end
def fZ (K:O7) (H:Hp) (a:Addr) (xs:List V):Prop :=
 Rd H a (.lst xs) \/
  ∃ (o:Obj) (its:Array Value) (n:Nat),K.lookup a=some o/\o.cls=.type "list"/\o.dict=none/\o.data=.seq its n/\its.size<=sizeLine/\Vals xs its.toList
def c9 (K:O7) (H:Hp) (a:Addr) (xs:List V):Prop :=
 Rd H a (.tup xs) \/
  ∃ (o:Obj) (its:Array Value) (n:Nat),K.lookup a=some o/\o.cls=.type "tuple"/\o.data=.seq its n/\its.size<=sizeLine/\Vals xs its.toList
noncomputable def Nv:Value->Option V
 | .none=>some .non
 | .bool b=>some (.bl b)
 | .int i _=>some (.int i)
 | .str x _=>some (.str x)
 | .bytes b _=>some (.byt b)
 | .float b _=>some (.flt b)
 | .ref a=>some (.ref a)
 | .type n=>some (.ty n)
 | _=>none
theorem RelV.abs (r:RelV x u):Nv u=some x:=by
 cases x with
 | non=>cases r; rfl
 | bl _=>cases r; rfl
 | int _=>obtain ⟨t,rfl⟩:=r; rfl
 | str _=>obtain ⟨t,rfl⟩:=r; rfl
 | byt _=>obtain ⟨t,rfl⟩:=r; rfl
 | flt _=>obtain ⟨t,rfl⟩:=r; rfl
 | ref _=>cases r; rfl
 | ty _=>cases r; rfl
theorem RelV.inj (r:RelV x u) (q:RelV y u):x=y:=QU (r.abs.symm.trans q.abs)
theorem Vals.inj:∀ {xs ys:List V} {us:List Value},Vals xs us->Vals ys us->xs=ys
 | _,_,_,.nil,.nil=>rfl
 | _,_,_,.cons r t,.cons r' t'=>by rw [r.inj r',Vals.inj t t']
theorem Inv.list (I:Inv X aa Z H s) (h:fZ X.K H a xs):∃ its:List Value,Vals xs its/\PlainL s.heap a its.toArray/\xs.length<=sizeLine:=by
 rcases h with h | ⟨o,its,n,hk,hc,hd,hs,hz,r⟩
 ·obtain ⟨z,its,n,r,e⟩:=h.ok I.hok
  exact ⟨its,r,⟨_,n,e,rfl,rfl,rfl⟩,z⟩
 ·refine ⟨its.toList,r,⟨o,n,I.qK a o hk,hc,hd,by simpa using hs⟩,?_⟩
  have e:=r.length
  simp only [Qo] at e
  lia
theorem Inv.tuple (I:Inv X aa Z H s) (h:c9 X.K H a xs):∃ its:List Value,Vals xs its/\IsTup s.heap a its.toArray/\xs.length<=sizeLine:=by
 rcases h with h | ⟨o,its,n,hk,hc,hs,hz,r⟩
 ·obtain ⟨z,its,r,p⟩:=h.ok I.hok
  exact ⟨its,r,p,z⟩
 ·refine ⟨its.toList,r,⟨o,I.qK a o hk,hc,n,by simpa using hs⟩,?_⟩
  have e:=r.length
  simp only [Qo] at e
  lia
theorem Inv.kP (I:Inv X aa Z H s) (h:fZ X.K H a xs) (h':fZ X.K H a ys):xs=ys:=by
 obtain ⟨its,r,⟨o,n,e,_,_,d⟩,_⟩:=I.list h
 obtain ⟨its',r',⟨o',n',e',_,_,d'⟩,_⟩:=I.list h'
 rw [e] at e'; cases e'
 rw [d] at d'
 injection d' with d1 _
 have:its=its':=by simpa using congrArg Array.toList d1
 subst this
 exact r.inj r'
theorem Inv.jq (I:Inv X aa Z H s) (h:c9 X.K H a xs) (h':c9 X.K H a ys):xs=ys:=by
 obtain ⟨its,r,⟨o,e,_,n,d⟩,_⟩:=I.tuple h
 obtain ⟨its',r',⟨o',e',_,n',d'⟩,_⟩:=I.tuple h'
 rw [e] at e'; cases e'
 rw [d] at d'
 injection d' with d1 _
 have:its=its':=by simpa using congrArg Array.toList d1
 subst this
 exact r.inj r'
noncomputable abbrev Cx.m6 (X:Cx) (E:Value->Shared->Prop):Cx:={ X with xe:=E }
noncomputable abbrev Cx.yf (X:Cx):Cx:=X.m6 λ_ _=>False
theorem Cx.Ok.m6 {X:Cx} (ok:X.Ok) (E):(X.m6 E).Ok :=
 ⟨ok.mod,ok.kind,ok.glob,ok.blt,ok.above,ok.inj,ok.has,ok.cab,ok.hd,ok.frames,ok.stk,ok.exf,ok.bs,ok.bsz,ok.noex,ok.exfs,ok.gS,ok.frf⟩
theorem Cx.Ok.fN {X:Cx} (ok:(X.m6 E).Ok):X.Ok :=
 ⟨ok.mod,ok.kind,ok.glob,ok.blt,ok.above,ok.inj,ok.has,ok.cab,ok.hd,ok.frames,ok.stk,ok.exf,ok.bs,ok.bsz,ok.noex,ok.exfs,ok.gS,ok.frf⟩
theorem Inv.m6 (I:Inv X aa Z H s) (E):Inv (X.m6 E) aa Z H s:=⟨I.ok.m6 E,I.os,I.bare,I.base,I.loc,I.cell,I.free,I.freeC,I.pin,I.hok,I.len⟩
theorem Inv.fN (I:Inv (X.m6 E) aa Z H s):Inv X aa Z H s:=⟨I.ok.fN,I.os,I.bare,I.base,I.loc,I.cell,I.free,I.freeC,I.pin,I.hok,I.len⟩
theorem SP.fN (h:SP (X.m6 E) aa D f s'):SP X aa D f s':=by
 cases f with
 | next=>obtain ⟨Z',H',I,q⟩:=h; exact ⟨Z',H',I.fN,q⟩
 | brk=>obtain ⟨Z',H',I,q⟩:=h; exact ⟨Z',H',I.fN,q⟩
 | cont=>obtain ⟨Z',H',I,q⟩:=h; exact ⟨Z',H',I.fN,q⟩
 | ret u=>obtain ⟨v,Z',H',I,r,q⟩:=h; exact ⟨v,Z',H',I.fN,r,q⟩
theorem qQ.yf {st:List Stmt} (h:qQ X.yf st t):qQ X st t:=λaa s Z H D I hw =>
 Qd (h aa s Z H D (I.m6 _) hw) (λ_ _ q=>q.fN) λ_ _ z=>QA z
section
variable {st:Stmt} {rest:List Stmt}
noncomputable def K6:TS:=λD Z H=>D.nx Z H
noncomputable def Ny (t u:TS):TS:=λD Z H=>t { D with nx:=u D } Z H
theorem DP:qQ X [] K6:=λ_ _ Z H _ I h=>Tr ⟨Z,H,I,h⟩
theorem Ab (h1:PS X st t) (h2:qQ X rest u):qQ X (st::rest) (Ny t u):=by
 intro aa s Z H D I h
 refine wpAny_execs_cons (bL (h1 aa s Z H { D with nx:=u D } I h) λf s1 q=>?_)
 cases f with
 | next =>
  obtain ⟨Z',H',I',q⟩:=q
  exact h2 aa s1 Z' H' D I' q
 | ret v=>exact q
 | brk=>exact q
 | cont=>exact q
theorem Inv.quiet (I:Inv X aa Z H s):interactive X.env=false:=by simp [interactive,I.ok.kind]
noncomputable def K7 (te:TE):TS:=λD Z H=>te Z H λ_ H1=>D.nx Z H1
theorem iK (he:PE X e te) (hs:swapsWith e none pos.line X.env=pure false:=by rfl):PS X (.Expr e pos) (K7 te):=by
 intro aa s Z H D I h
 exact wpAny_Expr_any (bL (he aa s Z H _ I h) λv s1 ⟨x,H1,I1,r1,q1⟩=>⟨Z,H1,I1,q1⟩) I.quiet hs
noncomputable def Nz (te:TE):TS:=λD Z H=>te Z H D.rt
theorem t8 (he:PE X e te):PS X (.Return (some e) pos) (Nz te):=by
 intro aa s Z H D I h
 exact wpAny_Return_some (bL (he aa s Z H _ I h) λv s1 ⟨x,H1,I1,r1,q1⟩=>⟨x,Z,H1,I1,r1,q1⟩)
noncomputable def NB (c:TT) (t u:TS):TS:=λD Z H=>c Z H λb H1=>if b=true then t D Z H1 else u D Z H1
theorem K8 (hc:PT X c tc) (ha:qQ X a t) (hb:qQ X b u):PS X (.If c a b pos) (NB tc t u):=by
 intro aa s Z H D I h
 refine wpAny_If (bL (hc aa s Z H _ I h) λd s1 ⟨H1,I1,q1⟩=>?_)
 cases d with
 | true=>exact ha aa s1 Z H1 D I1 q1
 | false=>exact hb aa s1 Z H1 D I1 q1
end
noncomputable abbrev TG:=V->St->Hp->(St->Hp->Prop)->Prop
noncomputable abbrev K9:=List V->St->Hp->(St->Hp->Prop)->Prop
def PG (X:Cx) (target:Expr) (t:TG):Prop :=
 ∀ (aa:List (Addr×Obj)) (s:Shared) (Z:St) (H:Hp) (v:V) (u:Value) (Q:St->Hp->Prop),Inv X aa Z H s->RelV v u->t v Z H Q ->
  wpAny (model X.prog X.w) X.A (assign target X.env u) (λ_ s'=>∃ Z' H',Inv X aa Z' H' s'/\Q Z' H') X.xe s
def KQ (X:Cx) (ts:List Expr) (t:K9):Prop :=
 ∀ (aa:List (Addr×Obj)) (s:Shared) (Z:St) (H:Hp) (vs:List V) (us:List Value) (Q:St->Hp->Prop),Inv X aa Z H s->Vals vs us->t vs Z H Q ->
  wpAny (model X.prog X.w) X.A (assignInOrder ((assignEach ts X.env).map (·.2)) us) (λ_ s'=>∃ Z' H',Inv X aa Z' H' s'/\Q Z' H') X.xe s
noncomputable abbrev HN:=V->V->V->Hp->(Hp->Prop)->Prop
def La (X:Cx) (t:HN):Prop :=
 ∀ (aa:List (Addr×Obj)) (s:Shared) (Z:St) (H:Hp) (o i v:V) (ov iv u:Value) (Q:Hp->Prop),Inv X aa Z H s->RelV o ov->RelV i iv->RelV v u->t o i v H Q ->
  wpAny (model X.prog X.w) X.A (setItem ov iv u) (λ_ s'=>∃ H',Inv X aa Z H' s'/\Q H') X.xe s
noncomputable abbrev OD:=V->V->Hp->VK->Prop
def OE (X:Cx) (op:Operator) (t:OD):Prop :=
 ∀ (aa:List (Addr×Obj)) (s:Shared) (Z:St) (H:Hp) (x y:V) (v u:Value) (Q:VK),Inv X aa Z H s->RelV x v->RelV y u->t x y H Q ->
  wpAny (model X.prog X.w) X.A (inplaceOp op v u) (EP X aa Z Q) X.xe s
noncomputable def GH (i:Nat):TG:=λv Z H Q=>Q (Z.set i (some v)) H
theorem iL (hN:X.N.Nodup) (hi:X.N[i]?=some x) (hx:Loc X.env.scope x) (hf:X.fn x=true\/X.env.scope.names.lookup x=some .local:=by first | exact .inl rfl | exact .inr rfl | assumption):PG X (.Name x pos) (GH i):=by
 intro aa s Z H v u Q I r h
 exact wpAny_assign_Name (gc I hN hi hx r (λs' I'=>⟨_,H,I',h⟩) hf)
noncomputable def NC:K9:=λvs Z H Q=>vs=[]/\Q Z H
noncomputable def Lb (t:TG) (u:K9):K9:=λvs Z H Q=>∃ v r,vs=v::r/\t v Z H λZ' H'=>u r Z' H' Q
theorem vD:KQ X [] NC:=by
 intro aa s Z H vs us Q I r h
 obtain ⟨e,h⟩:=h
 subst e
 cases r
 exact assignInOrder_nil ⟨Z,H,I,h⟩
theorem kQ (h1:PG X e t) (h2:KQ X es u)
 (hs:(assignEach (e::es) X.env).map (·.2)=assign e X.env::(assignEach es X.env).map (·.2):=by rfl):KQ X (e::es) (Lb t u):=by
 intro aa s Z H vs us Q I r h
 obtain ⟨v,vr,e1,h⟩:=h
 subst e1
 cases r with
 | cons r rr =>
  rw [hs]
  refine assignInOrder_cons (bL (h1 aa s Z H _ _ _ I r h) λ_ s1 ⟨Z1,H1,I1,q1⟩=>?_)
  exact h2 aa s1 Z1 H1 _ _ Q I1 rr q1
noncomputable def ND (K:O7) (n:Nat) (t:K9):TG:=λv Z H Q=>∃ a xs,v=.ref a/\c9 K H a xs/\xs.length=n/\t xs Z H Q
theorem Ac (hc:X.calm=true) (h:KQ X es t)
 (hn:(assignEach es X.env).length=n:=by rfl) (hst:(assignEach es X.env).findIdx? (·.1)=none:=by rfl):PG X (.Tuple es k pos) (ND X.K n t):=by
 intro aa s Z H v u Q I r hw
 obtain ⟨a,xs,e1,hq,hl,hw⟩:=hw
 subst e1
 cases r
 obtain ⟨its,rv,ht,hz⟩:=I.tuple hq
 refine assign_Tuple_tuple (I.ok.hd hc) ht (by simp [hn,<- hl,rv.length]) hst λh' hx=>?_
 have I1:Inv X aa Z H { s with heap:=h' }:=I.kept (t':=s.toks) λb o e=>hx b o (PJ (Pf e)) e
 exact h aa _ Z H xs _ Q I1 (by simpa using rv) hw
noncomputable def NF (to ti:TE) (t:HN):TG:=λv Z H Q=>to Z H λo H1=>ti Z H1 λi H2=>t o i v H2 λH3=>Q Z H3
theorem HP (ho:PE X o to) (hi:PE X i ti) (hs:La X t)
 (ha:∀ v,assign (.Subscript o i pos) X.env v=(do
   let ov <- holding [v] (eval o X.env)
   let iv <- holding [v,ov] (eval i X.env)
   standAt pos
   holding [v,ov,iv] (setItem ov iv v)
   release [v,ov,iv] []):=by intro _; rfl):PG X (.Subscript o i pos) (NF to ti t):=by
 intro aa s Z H v u Q I r h
 rw [ha]
 refine O6 (Qw (bL (ho aa s Z H _ I h) λov s1 ⟨x,H1,I1,r1,q1⟩=>?_))
 refine O6 (Qw (bL (hi aa s1 Z H1 _ I1 q1) λiv s2 ⟨y,H2,I2,r2,q2⟩=>?_))
 refine O6 (wpAny_standAt (O6 (Qw (bL (hs aa s2 Z H2 x y v ov iv u _ I2 r1 r2 r q2) λ_ s3 ⟨H3,I3,q3⟩=>?_))))
 exact wpAny_release ⟨Z,H3,I3,q3⟩
noncomputable def Lc (te:TE) (g:TG):TS:=λD Z H=>te Z H λx H1=>g x Z H1 D.nx
theorem uc (he:PE X e te) (hg:PG X tg g) (hs:swapsWithSole [tg] e pos.line X.env=pure false:=by rfl) (hw:swappedStores [tg] e X.env=pure none:=by rfl)
 (h1:(assignEach [tg] X.env).map (·.2)=[assign tg X.env]:=by rfl):PS X (.Assign [tg] e pos) (Lc te g):=by
 intro aa s Z H D I h
 refine wpAny_Assign_stores (bL (he aa s Z H _ I h) λv s1 ⟨x,H1,I1,r1,q1⟩=>?_) hs hw
 rw [h1]
 exact bL (hg aa s1 Z H1 x v _ I1 r1 q1) λ_ s2 q=>q
theorem Ad (hN:X.N.Nodup) (hi:X.N[i]?=some x) (hx:Loc X.env.scope x) (he:PE X e te) (hs:swapsWith e (some (.Name x pos')) pos.line X.env=pure false:=by rfl) (hf:X.fn x=true\/X.env.scope.names.lookup x=some .local:=by first | exact .inl rfl | exact .inr rfl | assumption) :
 PS X (.Assign [.Name x pos'] e pos) (Lc te (GH i)):=by
 intro aa s Z H D I h
 refine wpAny_Assign_Name (bL (he aa s Z H _ I h) λv s1 ⟨y,H1,I1,r1,q1⟩=>?_) hs
 exact gc I1 hN hi hx r1 (λs2 I2=>⟨_,H1,I2,q1⟩) hf
noncomputable def NG (i:Nat) (te:TE) (ti:OD):TS:=λD Z H=>∃ x,Z[i]?=some (some x)/\te Z H λy H1=>ti x y H1 λz H2=>D.nx (Z.set i (some z)) H2
theorem HQ (hN:X.N.Nodup) (hi:X.N[i]?=some x) (hx:Loc X.env.scope x) (he:PE X e te) (ho:OE X op ti) (hf:X.fn x=true\/X.env.scope.names.lookup x=some .local:=by first | exact .inl rfl | exact .inr rfl | assumption) :
 PS X (.AugAssign (.Name x pos') op e pos) (NG i te ti):=by
 intro aa s Z H D I h
 obtain ⟨v,e1,h⟩:=h
 obtain ⟨m,hn,hl⟩:=I.loc
 have vis:M4 X.env.scope x:=by rcases hx with k | k; exact .inl k; exact .inr (.inl k)
 obtain ⟨u,r,l⟩:=hl i x v hi e1 vis
 refine wpAny_AugAssign_Name ?_
 have go:wpAny (model X.prog X.w) X.A (eval e X.env) (λw s₂=>wpAny (model X.prog X.w) X.A (inplaceOp op u w) (λr s₃=>wpAny (model X.prog X.w) X.A (storeName X.env x r) (λ_=>SP X aa D .next) X.xe s₃) X.xe s₂) X.xe s:=by
  refine bL (he aa s Z H _ I h) λw s1 ⟨y,H1,I1,r1,q1⟩=>?_
  refine bL (ho aa s1 Z H1 v y u w _ I1 r r1 q1) λz s2 ⟨zv,H2,I2,r2,q2⟩=>?_
  exact gc I2 hN hi hx r2 (λs3 I3=>⟨_,H2,I3,q2⟩) hf
 rcases l with ⟨hk,hm⟩ | ⟨hk,c,hc,hcell⟩
 ·exact Vv I.ok.kind hk hn hm go
 ·rcases hk with hk | hk
  ·exact VA I.ok.kind hk hc hcell go
  ·rcases hx with k | k
   ·have:X.env.scope.names.lookup x=some .free:=hk
    rw [k] at this; cases this
   ·have:X.env.scope.names.lookup x=some .free:=hk
    rw [k] at this; cases this
noncomputable def HR (c:TT) (tb:TS):TS:=λD Z H=>∃ W:Nat->St->Hp->Prop,(∃ m,W m Z H)/\∀ m Z H,W m Z H ->
 c Z H λb H1=>if b=true then ∃ N:St->Hp->Prop,(∀ Z' H',N Z' H'->∃ m',m'<m/\W m' Z' H')/\tb { D with nx:=N,ct:=N,bk:=D.nx } Z H1 else D.nx Z H1
theorem Ae (hp:PassesOwn (model X.prog X.w) X.A X.env X.xe) (hc:PT X c tc) (hb:qQ X body tb):PS X (.While c body [] pos) (HR tc tb):=by
 intro aa s Z H D I h
 obtain ⟨W,⟨m0,w0⟩,turn⟩:=h
 refine wpAny_While (codeAny_whileLoop (λn s'=>∃ Z' H',Inv X aa Z' H' s'/\W n Z' H') ?_ m0 ⟨Z,H,I,w0⟩)
 rintro n s1 ⟨Z1,H1,I1,w1⟩
 refine Sa hp (bL (hc aa s1 Z1 H1 _ I1 (turn n Z1 H1 w1)) λb s2 ⟨H2,I2,q2⟩=>?_)
 cases b with
 | true =>
  obtain ⟨N,hN,q2⟩:=q2
  rw [if_pos rfl]
  refine Sa hp (bL (hb aa s2 Z1 H2 _ I2 q2) λf s3 q3=>?_)
  cases f with
  | next =>
   obtain ⟨Z3,H3,I3,n3⟩:=q3
   obtain ⟨m',hm,w3⟩:=hN Z3 H3 n3
   exact ⟨m',hm,Z3,H3,I3,w3⟩
  | cont =>
   obtain ⟨Z3,H3,I3,n3⟩:=q3
   obtain ⟨m',hm,w3⟩:=hN Z3 H3 n3
   exact ⟨m',hm,Z3,H3,I3,w3⟩
  | brk=>exact q3
  | ret v=>exact q3
 | false =>
  rw [if_neg Pp]
  exact Tr ⟨Z1,H2,I2,q2⟩
structure It where
 go:Nat->Hp->Prop
 yld:Nat->Hp->V->Hp->Prop
 stop:Nat->Hp->Prop
def dQ (X:Cx) (aa:List (Addr×Obj)) (H:Hp) (b:Addr):Prop :=
 H b=none/\b≠X.env.locals/\b∉X.fs/\(b∈X.ex\/X.s₀.heap.objs.size<=b)/\(∀ x c,X.env.cells.lookup x=some c->c≠b)/\∀ p∈X.pn++aa,p.1≠b
theorem Inv.jr (I:Inv X aa Z H s) (hb:s.heap.objs.size<=b) (hn:H' b=none):dQ X aa H' b:=by
 refine ⟨hn,Si (P9 I.lt hb),I.K1 hb,.inr (Pj I.sz hb),λx c e z=>?_,λp hp z=>?_⟩
 ·obtain ⟨v,q⟩:=I.cell x c e
  exact absurd (P9 q.lt (by rw [z]; exact hb)) (QJ _)
 ·exact absurd (P9 (Pf (I.pin p hp).1) (by rw [z]; exact hb)) (QJ _)
structure Turn (P:Program) (w:World) (K:O7) (tg:Expr) (J:It) (fp:List Addr) (it:Addr) (tn:Nat->Heap->Prop):Prop where
 mem:it∈fp
 obj:∀ i h,tn i h->∀ b∈fp,∃ o,h.get? b=some o/\∀ v,o.data≠.cell v
 keep:∀ i h h',tn i h->(∀ b∈fp,∀ o,h.get? b=some o->h'.get? b=some o)->tn i h'
 item:∀ (X:Cx),X.prog=P->X.w=w->X.K=K->X.calm=true->∀ (i:Nat) (aa:List (Addr×Obj)) (s:Shared) (Z:St) (H:Hp) (E:Value->Shared->Prop),Inv X aa Z H s->(∀ b∈fp,dQ X aa H b)->tn i s.heap->J.go i H ->
  wpAny (model P w) X.A (pyNext (.ref it)) (λr s1=>∃ u,r=some u /\
   wpAny (model P w) X.A (letOwnedTupleGo tg (.ref it) u) (λ_ s2=>∃ x H',Inv X aa Z H' s2/\RelV x u/\J.yld i H x H'/\tn (i+1) s2.heap/\∀ b∈fp,H' b=none) E s1) E s
 done:∀ (X:Cx),X.prog=P->X.w=w->X.K=K->X.calm=true->∀ (i:Nat) (aa:List (Addr×Obj)) (s:Shared) (Z:St) (H:Hp) (E:Value->Shared->Prop),Inv X aa Z H s->(∀ b∈fp,dQ X aa H b)->tn i s.heap->J.stop i H ->
  wpAny (model P w) X.A (pyNext (.ref it)) (λr s1=>r=none/\Inv X aa Z H s1) E s
 self:∀ (A:Around) (i:Nat) (s:Shared) (Q:Value->Shared->Prop) (E:Value->Shared->Prop),tn i s.heap->Q (.ref it) s->wpAny (model P w) A (pyIter (.ref it)) Q E s
noncomputable abbrev TI:=St->Hp->(It->Hp->Prop)->Prop
def NH (X:Cx) (aa:List (Addr×Obj)) (Z:St) (tg:Expr) (R:It->Hp->Prop) (itv:Value) (s2:Shared):Prop :=
 ∃ (it:Addr) (fp:List Addr) (tn:Nat->Heap->Prop) (J:It) (H':Hp),itv=.ref it/\Inv X aa Z H' s2/\Turn X.prog X.w X.K tg J fp it tn/\tn 0 s2.heap/\(∀ b∈fp,dQ X aa H' b)/\R J H'
def PI (X:Cx) (tg iter:Expr) (wi:TI):Prop :=
 ∀ (aa:List (Addr×Obj)) (s:Shared) (Z:St) (H:Hp) (R:It->Hp->Prop),Inv X aa Z H s->wi Z H R ->
  wpAny (model X.prog X.w) X.A (eval iter X.env) (λv s1=>wpAny (model X.prog X.w) X.A (pyIter v) (NH X aa Z tg R) X.xe s1) X.xe s
theorem qU (ho:s.heap.get? it=some o) (hc:o.cls=.type n) (hd:o.data=.fields vs)
 (hn:["enumerate","zip","dict_itemiterator","dict_reverseitemiterator","odict_iterator","itertools.zip_longest","itertools.pairwise"].contains n=false) (hQ:Q () s):wpAny M A (letOwnedTupleGo tg (.ref it) u) Q E s:=by
 unfold letOwnedTupleGo
 cases tg <;> first
  | exact O8 hQ
  | (cases u <;> first
      | exact O8 hQ
      | (refine O6 (wpAny_load ho ?_)
         rw [hc,hd]
         show wpAny M A (if (["enumerate","zip","dict_itemiterator","dict_reverseitemiterator","odict_iterator","itertools.zip_longest","itertools.pairwise"].contains n && vs[0]? == some (rawInt _))=true then _ else _) Q E s
         rw [if_neg (by intro h; rw [hn,Bool.false_and] at h; cases h)]
         exact O8 hQ))
noncomputable def NI (K:O7) (a:Addr):It :=
 ⟨λi H=>∃ xs x,fZ K H a xs/\xs[i]?=some x,λi H x H'=>H'=H/\∀ xs,fZ K H a xs->xs[i]?=some x,λi H=>∃ xs,fZ K H a xs/\xs.length<=i⟩
noncomputable def NJ (K:O7) (a:Addr):It :=
 ⟨λi H=>∃ xs x,c9 K H a xs/\xs[i]?=some x,λi H x H'=>H'=H/\∀ xs,c9 K H a xs->xs[i]?=some x,λi H=>∃ xs,c9 K H a xs/\xs.length<=i⟩
noncomputable def M5 (lo:Int) (n:Nat):It:=⟨λi _=>i<n,λi H x H'=>H'=H/\x=.int (lo+i),λi _=>n<=i⟩
theorem yg {P:Program} {w:World} {K:O7} {tg:Expr} (a it:Addr):Turn P w K tg (NI K a) [it] it (λi h=>h.IsListIter it a i) where
 mem:=by simp
 obj:=λi h st b hb=>by
  have e:b=it:=by simpa using hb
  subst e
  obtain ⟨o,e,c,d⟩:=st
  exact ⟨o,e,λv z=>by rw [d] at z; cases z⟩
 keep:=λi h h' st k=>st.at λo e=>k it 'p' o e
 item:=by
  intro X hP hw hK hc i aa s Z H E I hf st hg
  subst hP hw hK
  obtain ⟨xs,x,hq,hx⟩:=hg
  obtain ⟨its,rv,p,hz⟩:=I.list hq
  obtain ⟨u,hu,ru⟩:=rv.get hx
  obtain ⟨f0,f1,f2,f3,f4,f5⟩:=hf it 'p'
  refine wpAny_pyNext_list_item st p.isList (x:=u) (by simpa using hu) λh' st' sb=>?_
  have I1:Inv X aa Z H { s with heap:=h' }:=I.turned (t':=s.toks) (λb o hb e=>(sb.2 b hb).trans e) f0 f1 f3 f4 f5
  obtain ⟨o,e,c,d⟩:=id st'
  exact ⟨u,rfl,qU (s:={ s with heap:=h' }) e c d 'd' ⟨x,H,I1,ru,⟨rfl,λys hy=>by rw [I.kP hy hq]; exact hx⟩,st',λb hb=>(hf b hb).1⟩⟩
 done:=by
  intro X hP hw hK hc i aa s Z H E I hf st hg
  subst hP hw hK
  obtain ⟨xs,hq,hx⟩:=hg
  obtain ⟨its,rv,p,hz⟩:=I.list hq
  obtain ⟨f0,f1,f2,f3,f4,f5⟩:=hf it 'p'
  have hl:=rv.length
  exact wpAny_pyNext_list_end (I.ok.hd hc) st p.isList (by simp; lia) λh' eb=>⟨rfl,I.turned (t':=s.toks) (λb o hb e=>eb b o hb e) f0 f1 f3 f4 f5⟩
 self:=λ_ _ _ _ _ st h=>wpAny_pyIter_listiter st h
theorem ud {P:Program} {w:World} {K:O7} {tg:Expr} (a it:Addr):Turn P w K tg (NJ K a) [it] it (λi h=>h.IsTupleIter it a i) where
 mem:=by simp
 obj:=λi h st b hb=>by
  have e:b=it:=by simpa using hb
  subst e
  obtain ⟨o,e,c,d⟩:=st
  exact ⟨o,e,λv z=>by rw [d] at z; cases z⟩
 keep:=λi h h' st k=>st.at λo e=>k it 'p' o e
 item:=by
  intro X hP hw hK hc i aa s Z H E I hf st hg
  subst hP hw hK
  obtain ⟨xs,x,hq,hx⟩:=hg
  obtain ⟨its,rv,p,hz⟩:=I.tuple hq
  obtain ⟨u,hu,ru⟩:=rv.get hx
  obtain ⟨f0,f1,f2,f3,f4,f5⟩:=hf it 'p'
  refine wpAny_pyNext_tuple_item st (show s.heap.IsTuple a its.toArray from p) (x:=u) (by simpa using hu) λh' st' sb=>?_
  have I1:Inv X aa Z H { s with heap:=h' }:=I.turned (t':=s.toks) (λb o hb e=>(sb.2 b hb).trans e) f0 f1 f3 f4 f5
  obtain ⟨o,e,c,d⟩:=id st'
  exact ⟨u,rfl,qU (s:={ s with heap:=h' }) e c d 'd' ⟨x,H,I1,ru,⟨rfl,λys hy=>by rw [I.jq hy hq]; exact hx⟩,st',λb hb=>(hf b hb).1⟩⟩
 done:=by
  intro X hP hw hK hc i aa s Z H E I hf st hg
  subst hP hw hK
  obtain ⟨xs,hq,hx⟩:=hg
  obtain ⟨its,rv,p,hz⟩:=I.tuple hq
  obtain ⟨f0,f1,f2,f3,f4,f5⟩:=hf it 'p'
  have hl:=rv.length
  exact wpAny_pyNext_tuple_end (I.ok.hd hc) st (show s.heap.IsTuple a its.toArray from p) (by simp; lia) λh' eb=>⟨rfl,I.turned (t':=s.toks) (λb o hb e=>eb b o hb e) f0 f1 f3 f4 f5⟩
 self:=λ_ _ _ _ _ st h=>wpAny_pyIter_tupleiter st h
theorem ue {P:Program} {w:World} {K:O7} {tg:Expr} (it:Addr) (lo:Int) (n:Nat):Turn P w K tg (M5 lo n) [it] it (λi h=>IsRangeIter h it (lo+(i:Nat) * 1) ((n:Int) - (i:Nat)) 1) where
 mem:=by simp
 obj:=λi h st b hb=>by
  have e:b=it:=by simpa using hb
  subst e
  exact ⟨_,st,λv z=>by
   have z':TY _=So v:=z
   cases z'⟩
 keep:=λi h h' st k=>k it 'p' _ st
 item:=by
  intro X hP hw hK hc i aa s Z H E I hf st hg
  subst hP hw hK
  obtain ⟨f0,f1,f2,f3,f4,f5⟩:=hf it 'p'
  have W:=Walks.range (prog:=X.prog) (w:=X.w) (I.ok.hd hc) it lo 1 n
  refine W.item i s _ _ hg st λv h' tk hv st' kk=>?_
  obtain ⟨t,rfl⟩:=hv
  have I1:Inv X aa Z H { s with heap:=h',toks:=tk }:=I.turned (λb o hb e=>kk b o (by simpa using hb) e) f0 f1 f3 f4 f5
  refine ⟨_,rfl,qU (s:={ s with heap:=h',toks:=tk }) (n:="range_iterator") st' rfl rfl 'd' ⟨.int (lo+i),H,I1,⟨t,?_⟩,⟨rfl,rfl⟩,st',λb hb=>(hf b hb).1⟩⟩
  rw [Int.mul_one]
 done:=by
  intro X hP hw hK hc i aa s Z H E I hf st hg
  subst hP hw hK
  obtain ⟨f0,f1,f2,f3,f4,f5⟩:=hf it 'p'
  exact wpAny_pyNext_range_end (I.ok.hd hc) st (by have:n<=i:=hg; lia) λh' eb=>⟨rfl,I.turned (t':=s.toks) (λb o hb e=>eb b o hb e) f0 f1 f3 f4 f5⟩
 self:=λ_ _ _ _ _ st h=>wpAny_pyIter_rangeiter st h
theorem Af {lo hi:Int} (I:Inv X aa Z H s) (h1: -(2 ^ 62)<=lo) (h2:lo<2 ^ 62) (h3: -(2 ^ 62)<=hi) (h4:hi<2 ^ 62)
 (q:R (M5 lo (hi - lo).toNat) H):wpAny (model X.prog X.w) X.A (pyIter (.ref s.heap.objs.size)) (NH X aa Z tg R) E { s with heap:=s.heap.push { cls:=.type "range",data:=.fields #[.int lo t,.int hi u,.int 1 v] },toks:=tk }:=by
 refine wpAny_pyIter_range (IsRange.new ..) (small_one h1 h2 h3 h4) ?_
 have I1:Inv X aa Z H { s with heap:=s.heap.push { cls:=.type "range",data:=.fields #[.int lo t,.int hi u,.int 1 v] },toks:=tk }:=I.kept λb o e=>Pe _ e
 refine ⟨(s.heap.push { cls:=.type "range",data:=.fields #[.int lo t,.int hi u,.int 1 v] }).objs.size,[(s.heap.push { cls:=.type "range",data:=.fields #[.int lo t,.int hi u,.int 1 v] }).objs.size],_,_,H,rfl,
  I1.kept (t':=tk) λb o e=>Pe _ e,ue _ lo (hi - lo).toNat,?_,λb hb=>?_,q⟩
 ·have e1:lo+((0:Nat):Int) * 1=lo:=by simp
  have e2:(((hi - lo).toNat:Nat):Int) - ((0:Nat):Int)=Ui lo hi 1:=by rw [rangeSize_one]; split <;> lia
  show IsRangeIter _ _ (lo+((0:Nat):Int) * 1) ((((hi - lo).toNat:Nat):Int) - ((0:Nat):Int)) 1
  rw [e1,e2]
  exact Pq _ rfl
 ·have e:b=(s.heap.push { cls:=.type "range",data:=.fields #[.int lo t,.int hi u,.int 1 v] }).objs.size:=by simpa using hb
  subst e
  exact I1.jr (O9 _) (I1.hok.fresh (O9 _))
noncomputable def Ld (ta:TA):TI:=λZ H R=>ta Z H λvs H1=>∃ j:Int,vs=[.int j]/\ -(2 ^ 62)<=j/\j<2 ^ 62/\R (M5 0 j.toNat) H1
theorem yh (hg:Gl X "range") (hm:X.mg "range"=none) (ha:PA X [a] ta) (hs:starEach [a] X.env=[(false,eval a X.env)]:=by rfl):PI X tg (.Call (.Name "range" p) [a] [] pos) (Ld ta):=by
 intro aa s Z H R I h
 refine Call_ (cX I hg hm boot_range (Tg (bL (ha pos aa s Z H _ I h) λus s1 ⟨vs,H1,I1,r1,q1⟩=>?_) hs rfl))
 obtain ⟨j,e,q1,q2,q⟩:=q1
 subst e
 cases r1 with
 | cons r rr =>
  cases rr
  obtain ⟨t,rfl⟩:=r
  exact call_range_1 (Af I1 'l' 'l' q1 q2 (by simpa using q))
noncomputable def NK (wi:TI) (g:TG) (tb:TS):TS:=λD Z H=>wi Z H λJ H1=>∃ W:Nat->Nat->St->Hp->Prop,(∃ m,W 0 m Z H1)/\∀ i m Z H,W i m Z H ->
 (J.stop i H/\D.nx Z H)\/(J.go i H/\∃ N:St->Hp->Prop,(∀ Z' H',N Z' H'->∃ m',m'<m/\W (i+1) m' Z' H')/\∀ x H',J.yld i H x H'->g x Z H' λZ2 H2=>tb { D with nx:=N,ct:=N,bk:=D.nx } Z2 H2)
noncomputable def ju (fp:List Addr) (h:Heap):List (Addr×Obj):=fp.filterMap λb=>(h.get? b).map λo=>(b,o)
theorem dR (hb:b∈fp) (e:h.get? b=some o):(b,o)∈ju fp h:=Rr.mpr ⟨b,hb,by rw [e]; rfl⟩
theorem yi (hp:p∈ju fp h):p.1∈fp/\h.get? p.1=some p.2:=by
 obtain ⟨b,hb,e⟩:=Rr.mp hp
 cases q:h.get? b with
 | none=>rw [q] at e; cases e
 | some o =>
  rw [q] at e
  have e':(b,o)=p:=QU e
  subst e'
  exact ⟨hb,q⟩
theorem Inv.pinned (I:Inv X aa Z H s) (hf:∀ b∈fp,dQ X aa H b) (ho:∀ b∈fp,∃ o,s.heap.get? b=some o/\∀ v,o.data≠.cell v):Inv X (aa++ju fp s.heap) Z H s :=
 I.vB λp hp=>(PF.mp hp).elim (λz=>I.pin p (QE _ z)) λz=>by
  obtain ⟨hb,e⟩:=yi z
  obtain ⟨f0,f1,f2,_⟩:=hf p.1 hb
  obtain ⟨o,e',d⟩:=ho p.1 hb
  rw [e] at e'; cases e'
  exact ⟨e,f0,f1,f2,d⟩
theorem Inv.dS (I:Inv X (aa++pl) Z H s):Inv X aa Z H s:=I.vB λp hp=>I.pin p (QE _ (QF _ hp))
theorem HU (hp:PassesOwn (model X.prog X.w) X.A X.env X.xe) (hc:X.calm=true) (hi:PI X tg iter wi) (hg:PG X tg g) (hb:qQ X body tb)
 (hs:∀ x,foldedSetIterable iter X.env x=pure x:=by intro _; rfl):PS X (.For tg iter body [] pos) (NK wi g tb):=by
 intro aa s Z H D I h
 refine wpAny_For (bL (hi aa s Z H _ I h) λv s1 h1=>bL h1 λitv s2 h2=>?_) hs
 obtain ⟨it,fp,tn,J,H2,e,I2,T,st2,f2,W,⟨m0,w0⟩,turn⟩:=h2
 subst e
 have stat:∀ {H':Hp},(∀ b∈fp,H' b=none)->∀ b∈fp,dQ X aa H' b:=λhn b hb=>⟨hn b hb,(f2 b hb).2⟩
 refine codeAny_forLoop_any (λn s'=>∃ i Z' H',Inv X aa Z' H' s'/\tn i s'.heap/\(∀ b∈fp,H' b=none)/\W i n Z' H') ?_ m0 ⟨0,Z,H2,I2,st2,λb hb=>(f2 b hb).1,w0⟩
 rintro n s3 ⟨i,Z3,H3,I3,st3,fr3,w3⟩
 rcases turn i n Z3 H3 w3 with ⟨stop,qn⟩ | ⟨go,N,hN,step⟩
 ·refine Sa hp (bL (T.done X rfl rfl rfl hc i aa s3 Z3 H3 X.xe I3 (stat fr3) st3 stop) λr s4 ⟨hr,I4⟩=>?_)
  subst hr
  exact Tr ⟨Z3,H3,I4,qn⟩
 ·refine Sa hp (bL (T.item X rfl rfl rfl hc i aa s3 Z3 H3 X.xe I3 (stat fr3) st3 go) λr s4 ⟨u,hr,h4⟩=>?_)
  subst hr
  refine Sa hp (bL h4 λ_ s5 ⟨x,H5,I5,r5,y5,st5,fr5⟩=>?_)
  have I5':=I5.pinned (stat fr5) (T.obj _ _ st5)
  refine Sa hp (bL (hg _ s5 Z3 H5 x u _ I5' r5 (step x H5 y5)) λ_ s6 ⟨Z6,H6,I6,q6⟩=>?_)
  refine Sa hp (bL (hb _ s6 Z6 H6 _ I6 q6) λf s7 q7=>?_)
  have again:∀ {Z7:St} {H7:Hp},Inv X (aa++ju fp s5.heap) Z7 H7 s7->N Z7 H7->∃ m,m<n/\∃ i Z' H',Inv X aa Z' H' s7/\tn i s7.heap/\(∀ b∈fp,H' b=none)/\W i m Z' H':=λ{Z7 H7} I7 n7=>by
   obtain ⟨m',hm,w7⟩:=hN Z7 H7 n7
   refine ⟨m',hm,i+1,Z7,H7,I7.dS,T.keep _ _ _ st5 λb hb o e=>(I7.pin (b,o) (QE _ (QE _ (dR hb e)))).1,λb hb=>?_,w7⟩
   obtain ⟨o,e,d⟩:=T.obj _ _ st5 b hb
   exact (I7.pin (b,o) (QE _ (QE _ (dR hb e)))).2.1
  cases f with
  | next=>obtain ⟨Z7,H7,I7,n7⟩:=q7; exact again I7 n7
  | cont=>obtain ⟨Z7,H7,I7,n7⟩:=q7; exact again I7 n7
  | brk=>obtain ⟨Z7,H7,I7,q7⟩:=q7; exact ⟨Z7,H7,I7.dS,q7⟩
  | ret v=>obtain ⟨x7,Z7,H7,I7,r7,q7⟩:=q7; exact ⟨x7,Z7,H7,I7.dS,r7,q7⟩
noncomputable abbrev R2:=V->V->Hp->VK->Prop
def fu (X:Cx) (f:Value->Value->Sem Value) (r:R2):Prop :=
 ∀ (aa:List (Addr×Obj)) (s:Shared) (Z:St) (H:Hp) (x y:V) (v u:Value) (Q:VK),Inv X aa Z H s->RelV x v->RelV y u->r x y H Q ->
  wpAny (model X.prog X.w) X.A (f v u) (EP X aa Z Q) X.xe s
def NL (X:Cx) (f:Value->Sem Value) (r:V->Hp->VK->Prop):Prop :=
 ∀ (aa:List (Addr×Obj)) (s:Shared) (Z:St) (H:Hp) (x:V) (v:Value) (Q:VK),Inv X aa Z H s->RelV x v->r x H Q ->
  wpAny (model X.prog X.w) X.A (f v) (EP X aa Z Q) X.xe s
def fy (X:Cx) (f:Value) (r:List V->Hp->VK->Prop):Prop :=
 ∀ (aa:List (Addr×Obj)) (s:Shared) (Z:St) (H:Hp) (xs:List V) (us:List Value) (Q:VK),Inv X aa Z H s->Vals xs us->r xs H Q ->
  wpAny (model X.prog X.w) X.A (call f us) (EP X aa Z Q) X.xe s
noncomputable def M6 (r:R2) (ta tb:TE):TE:=λZ H Q=>ta Z H λx H1=>tb Z H1 λy H2=>r x y H2 Q
noncomputable def OS (r:V->Hp->VK->Prop) (ta:TE):TE:=λZ H Q=>ta Z H λx H1=>r x H1 Q
noncomputable def rI (C:Int->Int->Prop) (g:Int->Int->V):R2:=λx y H Q=>∃ i j,x=.int i/\y=.int j/\C i j/\Q (g i j) H
noncomputable def yj (g:Int->Int->V):R2:=λx y H Q=>∃ i j,x=.int i/\y=.int j/\Q (g i j) H
noncomputable def rU (g:Int->V):V->Hp->VK->Prop:=λx H Q=>∃ i,x=.int i/\Q (g i) H
theorem HV (ha:PE X a ta) (hb:PE X b tb) {R:V->V->Hp->Prop} (I:Inv X aa Z H s)
 (h:ta Z H λx H1=>tb Z H1 λy H2=>R x y H2) {f:Value->Value->Sem Value}
 (hf:∀ v u s2 x y H2,Inv X aa Z H2 s2->RelV x v->RelV y u->R x y H2->wpAny (model X.prog X.w) X.A (f v u) Q X.xe s2) :
 wpAny (model X.prog X.w) X.A (eval a X.env) (λv s₁=>wpAny (model X.prog X.w) X.A (eval b X.env) (λu s₂=>wpAny (model X.prog X.w) X.A (f v u) Q X.xe s₂) X.xe s₁) X.xe s:=by
 refine bL (ha aa s Z H _ I h) λv s1 ⟨x,H1,I1,r1,q1⟩=>?_
 refine bL (hb aa s1 Z H1 _ I1 q1) λu s2 ⟨y,H2,I2,r2,q2⟩=>?_
 exact hf v u s2 x y H2 I2 r1 r2 q2
theorem Ag (ho:fu X (binaryOp op) r) (ha:PE X a ta) (hb:PE X b tb):PE X (.BinOp a op b pos) (M6 r ta tb):=by
 intro aa s Z H Q I h
 exact wpAny_BinOp (HV ha hb I h λv u s2 x y H2 I2 rx ry q=>ho aa s2 Z H2 x y v u Q I2 rx ry q)
theorem Le (ho:NL X (unaryOp op) r) (ha:PE X a ta):PE X (.UnaryOp op a pos) (OS r ta):=by
 intro aa s Z H Q I h
 exact UnaryOp_ (bL (ha aa s Z H _ I h) λv s1 ⟨x,H1,I1,r1,q1⟩=>ho aa s1 Z H1 x v Q I1 r1 q1)
theorem GI {g:Int->Int->Int}
 (rule:∀ (i j:Int) (t u:Tok) (s:Shared) (Q:Value->Shared->Prop) (E:Value->Shared->Prop),C i j->Q (.int (g i j) s.toks) { s with toks:=s.toks+1 }->wpAny (model X.prog X.w) X.A (f (.int i t) (.int j u)) Q E s) :
 fu X f (rI C λi j=>.int (g i j)):=by
 intro aa s Z H x y v u Q I rx ry h
 obtain ⟨i,j,rfl,rfl,hc,q⟩:=h
 obtain ⟨t,rfl⟩:=rx
 obtain ⟨t',rfl⟩:=ry
 exact rule i j t t' s _ _ hc ⟨.int (g i j),H,I.tok _,⟨_,rfl⟩,q⟩
theorem Ah {g:Int->Int->Int}
 (rule:∀ (i j:Int) (t u:Tok) (s:Shared) (Q:Value->Shared->Prop) (E:Value->Shared->Prop),Q (.int (g i j) s.toks) { s with toks:=s.toks+1 }->wpAny (model X.prog X.w) X.A (f (.int i t) (.int j u)) Q E s) :
 fu X f (yj λi j=>.int (g i j)):=by
 intro aa s Z H x y v u Q I rx ry h
 obtain ⟨i,j,rfl,rfl,q⟩:=h
 obtain ⟨t,rfl⟩:=rx
 obtain ⟨t',rfl⟩:=ry
 exact rule i j t t' s _ _ ⟨.int (g i j),H,I.tok _,⟨_,rfl⟩,q⟩
theorem Lf {g:Int->Int->Bool}
 (rule:∀ (i j:Int) (t u:Tok) (s:Shared) (Q:Value->Shared->Prop) (E:Value->Shared->Prop),Q (.bool (g i j)) s->wpAny (model X.prog X.w) X.A (f (.int i t) (.int j u)) Q E s) :
 fu X f (yj λi j=>.bl (g i j)):=by
 intro aa s Z H x y v u Q I rx ry h
 obtain ⟨i,j,rfl,rfl,q⟩:=h
 obtain ⟨t,rfl⟩:=rx
 obtain ⟨t',rfl⟩:=ry
 exact rule i j t t' s _ _ ⟨.bl (g i j),H,I,rfl,q⟩
def Ai (i j:Int):Prop:=0<=j/\j<=1000000/\i.natAbs<2 ^ 64
theorem uf (k):(0:Int)<=2 ^ k:=by
 rw [two_pow_cast]
 exact VJ _
theorem HW:fu X (binaryOp .Add) (yj λi j=>.int (i+j)):=Ah λ_ _ _ _ _ _ _ q=>add_int q
theorem HX:fu X (binaryOp .Sub) (yj λi j=>.int (i - j)):=Ah λ_ _ _ _ _ _ _ q=>sub_int q
theorem HY:fu X (binaryOp .Mod) (rI (λ_ j=>0<j) λi j=>.int (i % j)):=GI λi j _ _ _ _ _ hc q=>by
 have h1:(0:Int)<j:=hc
 exact mod_int' 'l' (by rw [Int.fmod_eq_emod_of_nonneg i 'l']; exact q)
theorem DQ:fu X (binaryOp .Mod) (rI (λ_ j=>j≠0) λi j=>.int (i.fmod j)):=GI λ_ _ _ _ _ _ _ hc q=>mod_int' hc q
theorem HZ:fu X (binaryOp .Pow) (rI Ai λi j=>.int (i ^ j.toNat)):=GI λ_ _ _ _ _ _ _ hc q=>pow_int_small hc.1 hc.2.1 hc.2.2 q
theorem Ia:fu X (binaryOp .LShift) (rI Ai λi j=>.int (i * 2 ^ j.toNat)):=GI λ_ _ _ _ _ _ _ hc q=>lshift_int_small hc.1 hc.2.1 hc.2.2 q
theorem Ib:fu X (binaryOp .RShift) (rI (λ_ j=>0<=j) λi j=>.int (i / 2 ^ j.toNat)):=GI λi j _ _ _ _ _ hc q =>
 rshift_int hc (by rw [Int.fdiv_eq_ediv_of_nonneg i (uf _)]; exact q)
theorem Ic:fu X (binaryOp .BitAnd) (yj λi j=>.int (Builtin.bitAnd i j)):=Ah λ_ _ _ _ _ _ _ q=>and_int q
theorem DR:fu X (inplaceOp .Add) (yj λi j=>.int (i+j)):=Ah λ_ _ _ _ _ _ _ q=>iadd_int q
theorem DS:fu X (inplaceOp .Sub) (yj λi j=>.int (i - j)):=Ah λ_ _ _ _ _ _ _ q=>isub_int q
theorem OT {g:Int->Int}
 (rule:∀ (i:Int) (t:Tok) (s:Shared) (Q:Value->Shared->Prop) (E:Value->Shared->Prop),Q (.int (g i) s.toks) { s with toks:=s.toks+1 }->wpAny (model X.prog X.w) X.A (f (.int i t)) Q E s) :
 NL X f (rU λi=>.int (g i)):=by
 intro aa s Z H x v Q I rx h
 obtain ⟨i,rfl,q⟩:=h
 obtain ⟨t,rfl⟩:=rx
 exact rule i t s _ _ ⟨.int (g i),H,I.tok _,⟨_,rfl⟩,q⟩
theorem Ie:NL X (unaryOp .USub) (rU λi=>.int (-i)):=OT λ_ _ _ _ _ q=>neg_int q
noncomputable def DT:V->V->Bool
 | .non,.non=>true | .non,.int _=>true | .int _,.non=>true | .non,.bl _=>true | .bl _,.non=>true | .non,.str _=>true | .str _,.non=>true
 | .int _,.int _=>true | .bl _,.bl _=>true | .str _,.str _=>true | .byt _,.byt _=>true
 | .int _,.str _=>true | .str _,.int _=>true | .bl _,.str _=>true | .str _,.bl _=>true
 | _,_=>false
noncomputable def OU:R2:=λx y H Q=>DT x y=true/\Q (.bl (decide (x=y))) H
noncomputable def OV:R2:=λx y H Q=>DT x y=true/\Q (.bl (!decide (x=y))) H
theorem vE:decide (V.int i=V.int j)=(i == j):=by
 rw [Tv]
 simp
theorem Aj:decide (V.bl i=V.bl j)=(i == j):=by
 rw [Tv]
 simp
theorem vF:decide (V.str i=V.str j)=(i == j):=by
 rw [Tv]
 simp
theorem vG:decide (V.byt i=V.byt j)=(i.toList == j.toList):=by
 rw [Tv]
 cases i
 cases j
 simp
theorem bq (I:Inv X aa Z H s) (q:Q (.bl k) H) (e:k=k'):EP X aa Z Q (.bool k') s:=by
 subst e
 exact ⟨.bl k,H,I,rfl,q⟩
theorem Lg:fu X (compareOp .Eq) OU:=by
 intro aa s Z H x y v u Q I rx ry h
 obtain ⟨hs,q⟩:=h
 cases x with
 | non =>
  cases rx
  cases y with
  | non=>cases ry; exact PySem.EqNone.eq_none_none (bq I q 'p')
  | bl j=>cases ry; exact PySem.EqNone.eq_none_bool (bq I q 'p')
  | int j=>obtain ⟨t',rfl⟩:=ry; exact PySem.EqNone.eq_none_int (bq I q 'p')
  | str j=>obtain ⟨t',rfl⟩:=ry; exact PySem.EqNone.eq_none_str (bq I q 'p')
  | _=>exact absurd (show false=true from hs) Pp
 | bl i =>
  cases rx
  cases y with
  | non=>cases ry; exact PySem.EqNone.eq_bool_none (bq I q 'p')
  | bl j=>cases ry; exact eq_bool (bq I q Aj)
  | str j=>obtain ⟨t',rfl⟩:=ry; exact PySem.EqMixed.eq_bool_str (bq I q 'p')
  | _=>exact absurd (show false=true from hs) Pp
 | int i =>
  obtain ⟨t,rfl⟩:=rx
  cases y with
  | non=>cases ry; exact PySem.EqNone.eq_int_none (bq I q 'p')
  | int j=>obtain ⟨t',rfl⟩:=ry; exact eq_int (bq I q vE)
  | str j=>obtain ⟨t',rfl⟩:=ry; exact PySem.EqMixed.eq_int_str (bq I q 'p')
  | _=>exact absurd (show false=true from hs) Pp
 | str i =>
  obtain ⟨t,rfl⟩:=rx
  cases y with
  | non=>cases ry; exact PySem.EqNone.eq_str_none (bq I q 'p')
  | bl j=>cases ry; exact PySem.EqMixed.eq_str_bool (bq I q 'p')
  | int j=>obtain ⟨t',rfl⟩:=ry; exact PySem.EqMixed.eq_str_int (bq I q 'p')
  | str j=>obtain ⟨t',rfl⟩:=ry; exact eq_str (bq I q vF)
  | _=>exact absurd (show false=true from hs) Pp
 | byt i =>
  obtain ⟨t,rfl⟩:=rx
  cases y with
  | byt j=>obtain ⟨t',rfl⟩:=ry; exact PySem.W.eq_bytes (bq I q vG)
  | _=>exact absurd (show false=true from hs) Pp
 | _=>cases y <;> exact absurd (show false=true from hs) Pp
theorem Lh:fu X (compareOp .NotEq) OV:=by
 intro aa s Z H x y v u Q I rx ry h
 obtain ⟨hs,q⟩:=h
 cases x with
 | non =>
  cases rx
  cases y with
  | non=>cases ry; exact PySem.EqNone.ne_none_none (bq I q 'p')
  | bl j=>cases ry; exact PySem.EqNone.ne_none_bool (bq I q 'p')
  | int j=>obtain ⟨t',rfl⟩:=ry; exact PySem.EqNone.ne_none_int (bq I q 'p')
  | str j=>obtain ⟨t',rfl⟩:=ry; exact PySem.EqNone.ne_none_str (bq I q 'p')
  | _=>exact absurd (show false=true from hs) Pp
 | bl i =>
  cases rx
  cases y with
  | non=>cases ry; exact PySem.EqNone.ne_bool_none (bq I q 'p')
  | bl j=>cases ry; exact ne_bool (bq I q (congrArg not Aj))
  | str j=>obtain ⟨t',rfl⟩:=ry; exact PySem.EqMixed.ne_bool_str (bq I q 'p')
  | _=>exact absurd (show false=true from hs) Pp
 | int i =>
  obtain ⟨t,rfl⟩:=rx
  cases y with
  | non=>cases ry; exact PySem.EqNone.ne_int_none (bq I q 'p')
  | int j=>obtain ⟨t',rfl⟩:=ry; exact ne_int (bq I q (congrArg not vE))
  | str j=>obtain ⟨t',rfl⟩:=ry; exact PySem.EqMixed.ne_int_str (bq I q 'p')
  | _=>exact absurd (show false=true from hs) Pp
 | str i =>
  obtain ⟨t,rfl⟩:=rx
  cases y with
  | non=>cases ry; exact PySem.EqNone.ne_str_none (bq I q 'p')
  | bl j=>cases ry; exact PySem.EqMixed.ne_str_bool (bq I q 'p')
  | int j=>obtain ⟨t',rfl⟩:=ry; exact PySem.EqMixed.ne_str_int (bq I q 'p')
  | str j=>obtain ⟨t',rfl⟩:=ry; exact ne_str (bq I q (congrArg not vF))
  | _=>exact absurd (show false=true from hs) Pp
 | byt i =>
  obtain ⟨t,rfl⟩:=rx
  cases y with
  | byt j=>obtain ⟨t',rfl⟩:=ry; exact PySem.W.ne_bytes (bq I q (congrArg not vG))
  | _=>exact absurd (show false=true from hs) Pp
 | _=>cases y <;> exact absurd (show false=true from hs) Pp
theorem Li:fu X (compareOp .Lt) (yj λi j=>.bl (decide (i<j))):=Lf λ_ _ _ _ _ _ _ q=>lt_int q
theorem Lj:fu X (compareOp .Gt) (yj λi j=>.bl (decide (j<i))):=Lf λ_ _ _ _ _ _ _ q=>gt_int q
theorem fu.or (h:fu X f r) (h':fu X f r'):fu X f (λx y H Q=>r x y H Q\/r' x y H Q):=by
 intro aa s Z H x y v u Q I rx ry q
 rcases q with q | q
 ·exact h aa s Z H x y v u Q I rx ry q
 ·exact h' aa s Z H x y v u Q I rx ry q
theorem kR (b) (h:op≠.In:=by decide) (h2:op≠.NotIn:=by decide):behindInMarks op b=false:=by
 have e1:(op == CmpOp.In)=false:=by cases op <;> first | rfl | exact absurd rfl h
 have e2:(op == CmpOp.NotIn)=false:=by cases op <;> first | rfl | exact absurd rfl h2
 cases b <;> simp [behindInMarks,e1,e2]
theorem DU (ho:fu X (compareOp op) r) (ha:PE X a ta) (hb:PE X b tb) (hm:behindInMarks op b=false):PE X (.Compare a [op] [b] pos) (M6 r ta tb):=by
 intro aa s Z H Q I h
 exact wpAny_Compare1 (HV ha hb I h λv u s2 x y H2 I2 rx ry q=>ho aa s2 Z H2 x y v u Q I2 rx ry q) hm
noncomputable def Lk (t:TE):TT:=λZ H Q=>t Z H λx H'=>∃ k,x=.bl k/\Q k H'
theorem DV (ho:fu X (compareOp op) r) (ha:PE X a ta) (hb:PE X b tb) (hm:behindInMarks op b=false):PT X (.Compare a [op] [b] pos) (Lk (M6 r ta tb)):=by
 intro aa s Z H Q I h
 refine wpAny_isTrue_Compare1 (bL (ha aa s Z H _ I h) λv s1 ⟨x,H1,I1,r1,q1⟩=>bL (hb aa s1 Z H1 _ I1 q1) λu s2 ⟨y,H2,I2,r2,q2⟩ =>
  bL (ho aa s2 Z H2 x y v u _ I2 r1 r2 q2) λc s3 ⟨z,H3,I3,r3,k,e,q3⟩=>?_) hm
 subst e
 cases r3
 exact R5 ⟨H3,I3,q3⟩
theorem ug:(sizeLine:Nat)<2 ^ 63:=by rw [RO]; decide
theorem uh:fu X (binaryOp .Add) (λx y H Q=>∃ i j,x=.str i/\y=.str j/\i.length+j.length<=sizeLine/\Q (.str (i++j)) H):=by
 intro aa s Z H x y v u Q I rx ry h
 obtain ⟨i,j,rfl,rfl,hz,q⟩:=h
 obtain ⟨t,rfl⟩:=rx
 obtain ⟨t',rfl⟩:=ry
 exact add_str (λt' tk=>⟨.str (i++j),H,I.tok _,⟨_,rfl⟩,q⟩) hz
theorem vals1 (r:Vals [x] us):∃ u,us=[u]/\RelV x u:=by
 cases r with
 | cons r1 r2=>cases r2; exact ⟨_,rfl,r1⟩
theorem vals2 (r:Vals [x,y] us):∃ u w',us=[u,w']/\RelV x u/\RelV y w':=by
 cases r with
 | cons r1 r2 =>
  cases r2 with
  | cons r3 r4=>cases r4; exact ⟨_,_,rfl,r1,r3⟩
theorem yk (hc:X.calm=true):fy X (.builtin "max") (λxs H Q=>∃ i j,xs=[.int i,.int j]/\Q (.int (if j>i then j else i)) H):=by
 intro aa s Z H xs us Q I r h
 obtain ⟨i,j,rfl,q⟩:=h
 obtain ⟨u,w',rfl,⟨t,rfl⟩,⟨t',rfl⟩⟩:=vals2 r
 refine max_two_ints (I.ok.hd hc) λh' tk k=>⟨_,H,I.kept k,?_,q⟩
 by_cases hj:j>i
 ·rw [if_pos hj,if_pos hj]; exact ⟨_,rfl⟩
 ·rw [if_neg hj,if_neg hj]; exact ⟨_,rfl⟩
theorem yl (hc:X.calm=true):fy X (.builtin "min") (λxs H Q=>∃ i j,xs=[.int i,.int j]/\Q (.int (if j<i then j else i)) H):=by
 intro aa s Z H xs us Q I r h
 obtain ⟨i,j,rfl,q⟩:=h
 obtain ⟨u,w',rfl,⟨t,rfl⟩,⟨t',rfl⟩⟩:=vals2 r
 refine min_two_ints (I.ok.hd hc) λh' tk k=>⟨_,H,I.kept k,?_,q⟩
 by_cases hj:j<i
 ·rw [if_pos hj,if_pos hj]; exact ⟨_,rfl⟩
 ·rw [if_neg hj,if_neg hj]; exact ⟨_,rfl⟩
structure OW (h:Heap) (x dx C:Addr) (mA:Str->Option Value):Prop where
 obj:h.get? x=some (PySem.W.instObj C dx)
 ns:h.Ns1 dx mA
 ne:dx≠x
theorem jY.some_of (r:jY (some v) o):∃ u,o=some u/\RelV v u:=by
 cases o with
 | none=>exact (show False from r).elim
 | some u=>exact ⟨u,rfl,r⟩
structure OX (K:O7) (C:Addr):Prop where
 pg:PySem.W.plainGet K C Str.empty=true
 hd:PySem.W.hasDictIn K C=true
 po:PySem.W.plainOver K C=true
 sa:Q6 K (.ref C) "__setattr__"=some (some (.builtin "object.__setattr__"))
structure Con (K:O7) (C:Addr) (f:Str) (v:V) (u:Value):Prop where
 at_:Q6 K (.ref C) f=some (some u)
 rel:RelV v u
 get:Ur K u "__get__"=some none
 cp:PySem.W.copiedNames.contains f=false
structure Meth (K:O7) (C:Addr) (m:Str) (f:Addr):Prop where
 at_:Q6 K (.ref C) m=some (some (.ref f))
 fn:PySem.W.isFn K (.ref f)=true
 kp:Rk K (.ref f)=true
def Ll (X:Cx) (op:Operator) (rd:V->V->Hp->VK->Prop):Prop :=
 ∀ (aa:List (Addr×Obj)) (s:Shared) (Z:St) (H:Hp) (x y:V) (u v:Value) (Q:VK),Inv X aa Z H s->RelV x u->RelV y v->rd x y H Q->wpAny (model X.prog X.w) X.A (inplaceOp op u v) (EP X aa Z Q) X.xe s
section
variable {X:Cx} {aa:List (Addr×Obj)} {Z:St} {H:Hp} {s:Shared} {A:Around} {E:Value->Shared->Prop} {Q:Value->Shared->Prop} {c:Value} {b:Bool}
inductive kT (K:O7) (H:Hp):V->Value->Prop where
 | non:kT K H .non (.type "NoneType")
 | bl (x:Bool):kT K H (.bl x) (.type "bool")
 | int (i:Int):kT K H (.int i) (.type "int")
 | str (x:Str):kT K H (.str x) (.type "str")
 | flt (x:UInt64):kT K H (.flt x) (.type "float")
 | lst {a:Addr} {xs:List V} (e:H a=some (.lst xs)):kT K H (.ref a) (.type "list")
 | frz {a:Addr} {o:Obj} {xs:List V} (e:H a=some (.frz o (.lst xs))):kT K H (.ref a) (.type "list")
 | tup {a:Addr} {xs:List V} (e:H a=some (.tup xs)):kT K H (.ref a) (.type "tuple")
 | dK {a:Addr} {kvs:List (Key×V)} (e:H a=some (.dK kvs)):kT K H (.ref a) (.type "dict")
 | dT {a:Addr} {kvs:List (List Key×Addr×V)} (e:H a=some (.dT kvs)):kT K H (.ref a) (.type "dict")
 | ins {a C dx:Addr} {fs:List (Str×V)} (e:H a=some (.ins C dx fs)) (cl:OX K C) (ha:Q6 K (.ref C) "__class__"=some (some (.builtin "object.__class__")))
  (hn:Ur K (.builtin "object.__class__") "__get__"=some (some (.builtin "getset_descriptor.__get__"))) (htk:PySem.W.takesIn K (.builtin "object.__class__")=some true)
  (hm:SX K C (.type "object")=some true):kT K H (.ref a) (.ref C)
end
structure gT (k:Nat) (A:Around):Prop where
 hd:A.handled=none
 dp:A.depth+3 * k+5<recursionLimit
 un:A.units+16 * k+200<cLine
theorem gT.mono (r:gT k A) (h:j<=k):gT j A:=⟨r.hd,by have:=r.dp; lia,by have:=r.un; lia⟩
theorem gT.deeper (r:gT (k+1) A) (env:Env):gT k (A.deeper env) :=
 ⟨r.hd,by have:=r.dp; show A.depth+1+3 * k+5<_; lia,by have:=r.un; show A.units+3+16 * k+200<_; lia⟩
theorem gT.depth (r:gT k A):A.depth<recursionLimit:=by have:=r.dp; lia
theorem gT.units (r:gT k A):A.units+64<cLine:=by have:=r.un; lia
noncomputable def NN:TA:=λ_ H Q=>Q [] H
noncomputable def Ln (ta:TE) (tr:TA):TA:=λZ H Q=>ta Z H λx H1=>tr Z H1 λxs H2=>Q (x::xs) H2
theorem cM:PA X [] NN:=λ_ _ _ _ H Q I h=>Calls.spliced_nil ⟨[],H,I,.nil,h⟩
theorem bC (ha:PE X e te) (hr:PA X es t) (hs:starEach (e::es) X.env=(false,eval e X.env)::starEach es X.env:=by rfl):PA X (e::es) (Ln te t):=by
 intro pos aa s Z H Q I h
 rw [hs]
 show wpAny _ _ (spliced ((false,eval e X.env)::backTo pos (starEach es X.env))) _ _ s
 refine VL (bL (ha aa s Z H _ I h) λu s1 ⟨x,H1,I1,r1,q1⟩=>?_)
 exact bL (hr pos aa s1 Z H1 _ I1 q1) λus s2 ⟨xs,H2,I2,r2,q2⟩=>⟨x::xs,H2,I2,.cons r1 r2,q2⟩
noncomputable def NO (t:TA):TE:=λZ H Q=>t Z H λxs H1=>xs.length<=sizeLine/\∀ p,H1 p=none->Q (.ref p) (upd H1 p (.tup xs))
noncomputable def NP (t:TA):TE:=λZ H Q=>t Z H λxs H1=>xs.length<=sizeLine/\∀ p,H1 p=none->Q (.ref p) (upd H1 p (.lst xs))
theorem Ak {x1} (h:PA X es t):PE X (.Tuple es x1 pos) (NO t):=by
 intro aa s Z H Q I hq
 refine wpAny_Tuple_spliced (bL (h pos aa s Z H _ I hq) λus s1 ⟨xs,H1,I1,r,z,q⟩=>⟨by rw [<- r.length]; exact z,?_⟩)
 have hf:H1 s1.heap.objs.size=none:=I1.hok.fresh (O9 _)
 refine ⟨.ref s1.heap.objs.size,upd H1 s1.heap.objs.size (.tup xs),I1.laid (t':=s1.toks) (λb u e=>Pe _ e) (O9 _) ?_,rfl,q _ hf⟩
 exact ⟨z,us,r,⟨_,Pq _ rfl,rfl,_,rfl⟩⟩
theorem Ig (h:PA X es t):PE X (.List es pos) (NP t):=by
 intro aa s Z H Q I hq
 refine wpAny_List_spliced (bL (h pos aa s Z H _ I hq) λus s1 ⟨xs,H1,I1,r,z,q⟩=>⟨by rw [<- r.length]; exact z,?_⟩)
 have hf:H1 s1.heap.objs.size=none:=I1.hok.fresh (O9 _)
 refine ⟨.ref s1.heap.objs.size,upd H1 s1.heap.objs.size (.lst xs),I1.laid (t':=s1.toks) (λb u e=>Pe _ e) (O9 _) ?_,rfl,q _ hf⟩
 exact ⟨z,us,0,r,Pq _ rfl⟩
noncomputable abbrev Sp:=List V->Hp->VK->XK->Prop
noncomputable abbrev Ih:=List Env->Hp->Shared->XK->Value->Shared->Prop
structure DW (P:Program) (w:World) (K:O7) (mg:Str->Option Value) (base:Heap) (A:Around) (outer:List Env) (s:Shared) (H:Hp):Prop where
 frames:A.frames=some outer
 mod:Mod K mg base
 bs:∀ b o,base.get? b=some o->s.heap.get? b=some o/\H b=none
 bsz:base.objs.size<=s.heap.objs.size
 gS:s.heap.FunFrames base outer
 frf:∀ b∈frs outer,H b=none
 hok:ig P w H s.heap
 bare:AllBare s.gens
def CE (outer:List Env) (P:Program) (w:World) (H:Hp) (s:Shared) (Q:VK) (u:Value) (s':Shared):Prop :=
 ∃ v H',s'.os=s.os/\AllBare s'.gens/\Un (frs outer) [] H H' s.heap s'.heap/\ig P w H' s'.heap/\RelV v u/\Q v H'
def CR (CX:Ih) (outer:List Env) (P:Program) (w:World) (H:Hp) (s:Shared) (Q:VK) (E:XK) (r:Result) (s':Shared):Prop :=
 match r with
 | .ok (.ret u)=>CE outer P w H s Q u s'
 | .ok _=>False
 | .error e=>CX outer H s E e s'
structure bw (P:Program) (w:World) (K:O7) (mg:Str->Option Value) (base:Heap) (CX:Ih) (k:Nat) (f:Addr) (fd:FuncData) (ps:List Str) (sp:Sp):Prop where
 len:∀ vs H Q E,sp vs H Q E->vs.length=ps.length
 run:∀ (A:Around) (outer:List Env) (s:Shared) (H:Hp) (args:Args) (us:List Value) (vs:List V) (Q:VK) (E:XK),gT k A->DW P w K mg base A outer s H->BindsTo s fd args (ps.zip us)->Vals vs us->sp vs H Q E ->
  codeAny (model P w) A (.call (.ref f) args) (CR CX outer P w H s Q E) s
theorem bw.mono {K:O7} (F:bw P w K mg base CX j f fd ps sp) (h:j<=k) :
 bw P w K mg base CX k f fd ps sp:=⟨F.len,λA outer s H args us vs Q E hr=>F.run A outer s H args us vs Q E (hr.mono h)⟩
theorem bw.imp {K:O7} (F:bw P w K mg base CX k f fd ps sp)
 (h:∀ vs H Q E,sp' vs H Q E->sp vs H Q E):bw P w K mg base CX k f fd ps sp' :=
 ⟨λvs H Q E q=>F.len vs H Q E (h _ _ _ _ q),λA outer s H args us vs Q E hr he hb hv hs=>F.run A outer s H args us vs Q E hr he hb hv (h _ _ _ _ hs)⟩
theorem Inv.Ii (I:Inv X aa Z H s):DW X.prog X.w X.K X.mg X.base X.A X.stack s H :=
 ⟨I.ok.frames,I.ok.mod,I.bs,Pj I.ok.bsz I.sz,I.stack,I.j8,I.hok,I.bare⟩
theorem Inv.after (I:Inv X aa Z H s) (h:CE X.stack X.prog X.w H s Q u s'):EP X aa Z Q u s':=by
 obtain ⟨v,H',os,bare,un,hok,r,q⟩:=h
 obtain ⟨hh,g,d,t,os'⟩:=s'
 obtain rfl:os'=s.os:=os
 exact ⟨v,H',I.call (h':=hh) (g':=g) (d':=d) (t':=t) (ch:=[]) un hok bare (λb z=>absurd z 'p'),r,q⟩
def Binds (K:O7) (fd:FuncData) (ps:List Str) (ds:List Value):Prop :=
 ∀ (s:Shared) (us:List Value),K.In s.heap->(us++ds).length=ps.length->BindsTo s fd ⟨us,[]⟩ (ps.zip (us++ds))
theorem Binds.all {K:O7} (h:∀ us:List Value,us.length=ps.length->bindArgs fd ⟨us,[]⟩=pure (ps.zip us)):Binds K fd ps []:=λs us _ hl=>by
 rw [Qv] at hl |-
 exact .of_eq (h us hl)
section
variable {X:Cx} {CX:Ih} {k:Nat} {f C:Addr} {fd:FuncData} {ps:List Str} {sp:Sp} {dvs:List V} {ds:List Value} {E:XK} {x m:Str} {p pos apos:Pos} {e o:Expr} {es:List Expr} {ta:TE} {t:TA}
structure Mk (K:O7) (C f:Addr):Prop where
 makes:PySem.W.makesIn K C=true
 init:Q6 K (.ref C) "__init__"=some (some (.ref f))
 fn:PySem.W.isFn K (.ref f)=true
 kp:Rk K (.ref C)=true
end
section
variable {X:Cx} {CX:Ih} {k:Nat} {f C:Addr} {fd:FuncData} {ps ks:List Str} {sp:Sp} {E:XK} {x m:Str} {p pos apos kpos:Pos} {e o:Expr} {es:List Expr} {kws:List Keyword} {te ta:TE} {t tk:TA} {nm:Option Str}
structure NQ (K:O7) (fd:FuncData) (ps ks:List Str) (g:List Value->List Value->List Value) (gV:List V->List V->List V):Prop where
 to:∀ (s:Shared) (us ws:List Value),K.In s.heap->(g us ws).length=ps.length->BindsTo s fd ⟨us,ks.zip ws⟩ (ps.zip (g us ws))
 rel:∀ {vs:List V} {us:List Value} {zs:List V} {ws:List Value},Vals vs us->Vals zs ws->Vals (gV vs zs) (g us ws)
end
structure oZ (N P:List Str) (sc:Scope):Prop where
 kind:sc.kind=.function
 co:sc.isCoroutine=false
 gen:sc.isGenerator=false
 nd:N.Nodup
 pre:N.take P.length=P
 par:∀ x∈P,sc.names.lookup x=some .local\/sc.names.lookup x=some .cell
 nofree:∀ y∈sc.names,y.2≠.free
theorem nC {kindOf:Str->Option NameKind}:∀ {binds:List (Str×Value)} {m:Str->Option Value},(∀ v,(x,v)∉binds)->bindL kindOf binds m x=m x
 | [],_,_=>rfl
 | (n,v)::r,m,h=>by
  unfold bindL
  rw [nC λw hw=>h w (Ph _ hw)]
  split
  ·have:x≠n:=by rintro rfl; exact h v Pd
   simp [this]
  ·rfl
theorem nD {kindOf:Str->Option NameKind}:∀ {binds:List (Str×Value)} {m:Str->Option Value},(∀ v,(x,v)∉binds)->bindC kindOf binds m x=m x
 | [],_,_=>rfl
 | (n,v)::r,m,h=>by
  unfold bindC
  rw [nD λw hw=>h w (Ph _ hw)]
  split
  ·rfl
  ·have:x≠n:=by rintro rfl; exact h v Pd
   simp [this]
theorem nE {kindOf:Str->Option NameKind}:∀ {P:List Str} {vs:List Value} {i:Nat} {m:Str->Option Value},P.Nodup->P[i]?=some x->vs[i]?=some v->kindOf x=some .local ->
 bindL kindOf (P.zip vs) m x=some v
 | [],_,_,_,_,h,_,_=>by simp at h
 | _::_,[],_,_,_,_,h,_=>by simp at h
 | p::P,w::vs,0,m,nd,h1,h2,hk=>by
  simp at h1 h2; subst h1; subst h2
  show bindL kindOf ((p,w)::P.zip vs) m p=_
  unfold bindL
  rw [nC λv hv=>(QM.mp nd).1 (List.of_mem_zip hv).1,if_pos hk]
  simp
 | p::P,w::vs,i+1,m,nd,h1,h2,hk=>by
  show bindL kindOf ((p,w)::P.zip vs) m x=_
  unfold bindL
  exact nE (i:=i) (QM.mp nd).2 (by simpa using h1) (by simpa using h2) hk
theorem nF {kindOf:Str->Option NameKind}:∀ {P:List Str} {vs:List Value} {i:Nat} {m:Str->Option Value},P.Nodup->P[i]?=some x->vs[i]?=some v->kindOf x≠some .local ->
 bindC kindOf (P.zip vs) m x=some v
 | [],_,_,_,_,h,_,_=>by simp at h
 | _::_,[],_,_,_,_,h,_=>by simp at h
 | p::P,w::vs,0,m,nd,h1,h2,hk=>by
  simp at h1 h2; subst h1; subst h2
  show bindC kindOf ((p,w)::P.zip vs) m p=_
  unfold bindC
  rw [nD λv hv=>(QM.mp nd).1 (List.of_mem_zip hv).1,if_neg hk]
  simp
 | p::P,w::vs,i+1,m,nd,h1,h2,hk=>by
  show bindC kindOf ((p,w)::P.zip vs) m x=_
  unfold bindC
  exact nF (i:=i) (QM.mp nd).2 (by simpa using h1) (by simpa using h2) hk
noncomputable def start (N:List Str) (vs:List V):St:=vs.map some++Pu (N.length - vs.length) none
noncomputable def o7 (CX:Ih) (P:Program) (w:World) (K:O7) (mg:Str->Option Value) (base:Heap) (N:List Str) (qual:Str) (scope:Scope) (f:Addr) (cd:Value) (A:Around) (outer:List Env) (s:Shared) (H:Hp) (E:XK):Cx where
 prog:=P
 w:=w
 K:=K
 mg:=mg
 base:=base
 A:=A.deeper (envOfC qual scope s.heap.objs.size f cd)
 N:=N
 s₀:=s
 H₀:=H
 env:=envOfC qual scope s.heap.objs.size f cd
 outer:=outer
 stack:=envOfC qual scope s.heap.objs.size f cd::outer
 ex:=[]
 calm:=true
 fn:=λ_=>true
 pn:=[]
 xe:=λe s'=>wpAny (model P w) (A.deeper (envOfC qual scope s.heap.objs.size f cd)) (leaving (envOfC qual scope s.heap.objs.size f cd) e) (λ_ s''=>CX outer H s E e s'') (λe' s''=>CX outer H s E e' s'') s'
theorem qV {sc:Scope} (h:sc.names.lookup x=some .cell):∃ c,(cellsFrom n sc.names []).lookup x=some c:=by
 have q:=PySem.W.cellsFrom_some sc.names n [] (.inl h)
 exact Option.isSome_iff_exists.mp q
theorem ym {K:O7}
 (S:oZ N ps scope) (hd:A.handled=none) (e0:DW P w K mg base A outer s H) (hl:vs.length=ps.length) (r:Vals vs us)
 (x:InCallC s s.heap.objs.size (bindL (envOfC qual scope s.heap.objs.size f cd).kindOf (ps.zip us) λ_=>none) (cellsFrom (s.heap.objs.size+1) scope.names []) (bindC (envOfC qual scope s.heap.objs.size f cd).kindOf (ps.zip us) λ_=>none) s1) :
 Inv (o7 CX P w K mg base N qual scope f cd A outer s H E) [] (start N vs) H s1:=by
 have hpl:ps.length<=N.length:=by have:=congrArg S0 S.pre; rw [Qf] at this; lia
 obtain ⟨h1,tk,rfl,hk⟩:=x.done
 have noA:∀ b:Addr,b∉(o7 CX P w K mg base N qual scope f cd A outer s H E).ex:=λb z=>absurd (show b∈([]:List Addr) from z) 'p'
 refine ⟨⟨e0.mod,S.kind,rfl,rfl,O9 _,λy z c h1 h2=>?_,λy hy=>?_,λy c _ h=>?_,λ_=>hd,Around.frames_deeper e0.frames,.inr ⟨rfl,rfl⟩,λb z=>absurd z (noA b),e0.bs,e0.bsz,λb _ _=>noA b,λb z=>absurd z (noA b),e0.gS,e0.frf⟩,
  rfl,e0.bare,Un.kept hk,⟨_,x.toInCall.ns,λi y v h1 h2 h3=>?_⟩,λy c h=>⟨_,x.cell y c h⟩,e0.hok.fresh (O9 _),λy c h=>?_,λp hp=>absurd (show p∈([]:List (Addr×Obj)) from hp) 'p',e0.hok.kept hk,?_⟩
 ·exact name_of_addr x.apart (Ti h1) (Ti h2)
 ·have hy:scope.names.lookup y=some .cell\/scope.names.lookup y=some .free:=hy
  rcases hy with hy | hy
  ·exact qV hy
  ·exact absurd rfl (S.nofree _ (Ti hy))
 ·exact Rx (x.above y c (Ti h))
 ·have hi:i<vs.length:=by
   unfold start at h2
   by_cases hi:i<vs.length
   ·exact hi
   ·rw [RA (by simpa using hi)] at h2
    rw [Vj] at h2
    split at h2 <;> cases h2
  have ha:vs[i]?=some v:=by
   unfold start at h2
   rw [Rc (by simpa using hi),Pr] at h2
   cases e:vs[i]? with
   | none=>rw [e] at h2; cases h2
   | some a=>rw [e] at h2; cases h2; rfl
  obtain ⟨u,hu,rv⟩:=r.get ha
  have hp:ps[i]?=some y:=by
   rw [<- S.pre,Uc 'l']; exact h1
  have ndP:ps.Nodup:=by rw [<- S.pre]; exact S.nd.sublist (To _ _)
  refine ⟨u,rv,?_⟩
  rcases S.par y (Rg hp) with k | k
  ·exact .inl ⟨k,nE ndP hp hu k⟩
  ·obtain ⟨c,e⟩:=qV (n:=s.heap.objs.size+1) k
   refine .inr ⟨.inl k,c,e,?_⟩
   have q:=x.cell y c e
   rw [nF ndP hp hu (by show scope.names.lookup y≠_; rw [k]; decide)] at q
   exact q
 ·exact e0.hok.fresh (Rx (x.above y c (Ti h)))
 ·unfold start
  show _=N.length
  rw [PY,Pc,List.length_replicate]
  lia
theorem vH {K:O7} {dV kV doc pm cdv ct oc:Value}
 (lk:K.lookup f=some ⟨oc,od,.func (Rn name qual params body scope dV kV doc pm an cdv ct),osl⟩) (hcd:UI K cdv qual=true) (S:oZ N ps scope)
  (len:∀ vs H Q E,sp vs H Q E->vs.length=ps.length)
  (hbody:∀ (A:Around) (outer:List Env) (s:Shared) (H:Hp) (vs:List V) (Q:VK) (E:XK),gT k (A.deeper (envOfC qual scope s.heap.objs.size f cdv))->sp vs H Q E ->
    ∃ t,qQ (o7 CX P w K mg base N qual scope f cdv A outer s H E) body t/\t { nx:=λ_ H'=>Q .non H',rt:=Q } (start N vs) H) :
  bw P w K mg base CX (k+1) f (Rn name qual params body scope dV kV doc pm an cdv ct) ps sp:=by
  refine ⟨len,λA outer s H args us vs Q E hr e0 hb r vz=>?_⟩
  have hl:=len _ _ _ _ vz
  have KX:K.In s.heap:=e0.mod.kin.keeps λb o e=>(e0.bs b o e).1
  have lim:s.heap.NoLimit:=e0.mod.nolimit.keeps λb o e=>(e0.bs b o e).1
  have hkind:∀ y∈ps.zip us,scope.names.lookup y.1=some .local\/(scope.names.lookup y.1=some .cell/\((cellsFrom (s.heap.objs.size+1) scope.names []).lookup y.1).isSome=true):=λ⟨n,v⟩ hy=>by
   rcases S.par n (List.of_mem_zip hy).1 with q | q
   ·exact .inl q
   ·exact .inr ⟨q,PySem.W.cellsFrom_some _ _ _ (.inl q)⟩
  refine codeAny_call_function hr.depth (KX _ _ lk) rfl S.co S.gen rfl (PySem.W.codeRec_of KX hcd) (hb _ _ _ _ ?_)
  refine wpAny_newFunctionEnv_cells S.kind hkind λenv he s1 x=>?_
  subst he
  refine ⟨lim.keeps x.toInCall.keep,codeAny_func ?_⟩
  obtain ⟨t,ht,hq⟩:=hbody A outer s H vs Q E (hr.deeper _) vz
  have I:Inv (o7 CX P w K mg base N qual scope f cdv A outer s H E) [] (start N vs) H s1:=ym S hr.hd e0 hl r x
  refine Qd (ht [] s1 (start N vs) H _ I hq) (λfl s' hs=>?_) λe s' hs=>hs
  have fin:∀ {Z':St} {H':Hp} {v:V} {u:Value},Inv (o7 CX P w K mg base N qual scope f cdv A outer s H E) [] Z' H' s'->RelV v u->Q v H'->CE outer P w H s Q u s' :=
   λ{Z' H' v u} J rv q=>⟨v,H',J.os,J.bare,J.base,J.hok,rv,q⟩
  cases fl with
  | ret u =>
   obtain ⟨v,Z',H',J,rv,q⟩:=hs
   exact fin J rv q
  | next =>
   obtain ⟨Z',H',J,q⟩:=hs
   exact fin (v:=V.non) (u:=QK) J rfl q
  | brk =>
   obtain ⟨_,_,_,q⟩:=hs
   exact QA q
  | cont =>
   obtain ⟨_,_,_,q⟩:=hs
   exact QA q
section
variable {id T:String}
noncomputable def OF (r:List V->Hp->VK->Prop) (t:TA):TE:=λZ H Q=>t Z H λvs H1=>r vs H1 Q
theorem Al (hc:fy X (.builtin id) r) (hg:Gl X x) (hm:X.mg x=none) (hv:bootBuiltins x=some (.builtin id)) (ha:PA X (e::es) t) (hn:x≠"__name__":=by decide) (hdb:Ndb x:=by decide)
 (he:starEach (e::es) X.env=(false,eval e X.env)::starEach es X.env:=by rfl) (hpl:(backTo pos (starEach es X.env)).any (·.1)=false:=by rfl):PE X (.Call (.Name x p) (e::es) [] pos) (OF r t):=by
 intro aa s Z H Q I h
 refine Q0 (cX I hg hm hv ?_ hn hdb)
 exact U4 (bL (ha pos aa s Z H _ I h) λus s1 ⟨vs,H1,I1,r1,q1⟩=>hc aa s1 Z H1 vs us Q I1 r1 q1) he hpl
theorem nG (hc:fy X (.type T) r) (hg:Gl X x) (hm:X.mg x=none) (hv:bootBuiltins x=some (.type T)) (ha:PA X (e::es) t) (hn:x≠"__name__":=by decide) (hdb:Ndb x:=by decide)
 (he:starEach (e::es) X.env=(false,eval e X.env)::starEach es X.env:=by rfl) (hpl:(backTo pos (starEach es X.env)).any (·.1)=false:=by rfl):PE X (.Call (.Name x p) (e::es) [] pos) (OF r t):=by
 intro aa s Z H Q I h
 refine Q0 (cX I hg hm hv ?_ hn hdb)
 exact Tg (bL (ha pos aa s Z H _ I h) λus s1 ⟨vs,H1,I1,r1,q1⟩=>hc aa s1 Z H1 vs us Q I1 r1 q1) he hpl
end
end L2
namespace HT
open PySem PyProof.Rows
noncomputable def lexLt:List Int->List Int->Bool
 | [],[]=>false
 | [],_::_=>true
 | _::_,[]=>false
 | x::xs,y::ys=>if x=y then lexLt xs ys else decide (x<y)
theorem cY (x y) (xs ys):lexLt (x::xs) (y::ys)=if x=y then lexLt xs ys else decide (x<y):=rfl
theorem m7:lexLt [] []=false:=rfl
theorem kU (y) (ys):lexLt [] (y::ys)=true:=rfl
theorem kW (x) (xs):lexLt (x::xs) []=false:=rfl
theorem Am (A:Around) (s) (a) (t:Tok) (c) (u:Tok):∃ e,PR A s (.int a t) (.int c u) e/\(e=true↔a=c) :=
 ⟨(a == c),PR.int_int a t c u,by simp⟩
theorem An (A:Around) (s) (a) (t:Tok) (c) (u:Tok) (prog) (w) (E) (Q) (h:Q (.bool (decide (a<c))) s) :
 wpAny (model prog w) A (richCompare .Lt (.int a t) (.int c u)) Q E s :=
 (PyProof.Rows.lt_int h:wpAny (model prog w) A (compareOp .Lt (.int a t) (.int c u)) Q E s)
section
open PySem.SeqAt
open PySem.AutoSeq1 (wpAny_loadPart')
open PySem.MeetsSeq PySem.MeetsSeq2 PySem.MeetsSeq3
theorem m8 (l b) (items items2) (n n2) (dd dd2) (sl sl2) (ns ms) (hi:IntsAre items.toList ns) (hj:IntsAre items2.toList ms) :
 Meets (Builtin.«tuple.__lt__» ⟨[.ref l,.ref b],[]⟩)
  (λ_ R s=>s.heap.get? l=some { cls:=.type "tuple",dict:=dd,data:=.seq items n,slots:=sl }/\s.heap.get? b=some { cls:=.type "tuple",dict:=dd2,data:=.seq items2 n2,slots:=sl2 } /\
    R (.ok (.ret (.bool (lexLt ns ms)))) s) :=
 .of_wp λprog w A R s h=>by
  obtain ⟨hp,g,d,tk,os⟩:=s; obtain ⟨hl,hb,h⟩:=h
  have f2:=AutoSeq1.sub_tuple_tuple
  have z1:items.size=ns.length:=by rw [<- hi.length]; simp
  have z2:items2.size=ms.length:=by rw [<- hj.length]; simp
  wp_walk using wpAny_loadPart' hl,wpAny_loadPart' hb,wpAny_forIn_list _ (λrest b s'=>b.1=none/\s'=⟨hp,g,d,tk,os⟩/\∃ (vs ws:List Value) (ns' ms':List Int),rest=vs.zip ws /\
   IntsAre vs ns'/\IntsAre ws ms'/\ns'.length+items2.size=ms'.length+items.size/\R (.ok (.ret (.bool (lexLt ns' ms')))) ⟨hp,g,d,tk,os⟩) _
  case turn =>
   rintro ⟨y,x⟩ rest b s' ⟨hb',rfl,vs,ws,ns',ms',hz,hvi,hwi,hlen,hR⟩
   cases hvi with
   | nil=>rw [List.zip_nil_left] at hz; cases hz
   | cons a t hvi' =>
    cases hwi with
    | nil=>rw [List.zip_nil_right] at hz; cases hz
    | cons c u hwi' =>
     rw [List.zip_cons_cons] at hz
     injection hz with hyx hrest
     injection hyx with hy hx
     subst hy hx
     rw [cY] at hR
     simp only [P4] at hlen
     obtain ⟨e,he,hiff⟩:=Am A.in1 ⟨hp,g,d,tk,os⟩ a t c u
     refine O6 (he prog w _ _ ?_)
     cases e with
     | true =>
      rw [if_pos (hiff.mp rfl)] at hR
      wp_walk
      exact ⟨rfl,rfl,_,_,_,_,hrest,hvi',hwi',by lia,hR⟩
     | false =>
      rw [if_neg (λq=>absurd (hiff.mpr q) Pp)] at hR
      have hri:=An A.in1 ⟨hp,g,d,tk,os⟩ a t c u prog w
      wp_walk using hri
      exact ⟨_,rfl,by simpa using hR⟩
  case fin =>
   rintro ⟨b1,b2⟩ s' ⟨hb',rfl,vs,ws,ns',ms',hz,hvi,hwi,hlen,hR⟩
   simp only at hb'
   subst hb'
   have hv:lexLt ns' ms'=decide (items.size<items2.size):=by
    cases hvi with
    | nil =>
     cases hwi with
     | nil =>
      simp only [Q5] at hlen
      rw [m7]
      exact (decide_eq_false 'l').symm
     | cons c u hw =>
      simp only [Q5,P4] at hlen
      rw [kU]
      exact (decide_eq_true 'l').symm
    | cons a t hv =>
     cases hwi with
     | nil =>
      simp only [Q5,P4] at hlen
      rw [kW]
      exact (decide_eq_false 'l').symm
     | cons c u hw =>
      rw [List.zip_cons_cons] at hz
      cases hz
   rw [hv] at hR
   wp_walk
   exact ⟨_,rfl,by simpa [Builtin.Tuple.tupleCompareSizes] using hR⟩
  case h =>
   exact ⟨rfl,rfl,items.toList,items2.toList,ns,ms,rfl,hi,hj,by lia,h⟩
end
theorem uo (hl:IsTup s.heap l items) (hb:IsTup s.heap b items2) (hi:IntsAre items.toList ns) (hj:IntsAre items2.toList ms)
 (hu:A.units<cLine) (h:Q (.bool (lexLt ns ms)) s):wpAny (model prog w) A (compareOp .Lt (.ref l) (.ref b)) Q E s:=by
 obtain ⟨⟨cls,dd,data,sl⟩,ho,hc,n,hd⟩:=id hl
 obtain ⟨⟨cls2,dd2,data2,sl2⟩,ho2,hc2,n2,hd2⟩:=id hb
 simp only at hc hd hc2 hd2
 subst hc hd hc2 hd2
 exact richCompare_meets_room (op:=.Lt) ⟨_,ho,rfl⟩ ⟨_,ho2,rfl⟩ PySem.F.slot_tuple_lt PySem.F.entry_tuple_lt (PySem.F.args_tuple_lt_2 _ _) (m8 l b items items2 n n2 dd dd2 sl sl2 ns ms hi hj)
  ⟨ho,ho2,show RS (lexLt ns ms)≠Value.notImplemented/\Q (.bool (lexLt ns ms)) s from ⟨(λx=>nomatch x),h⟩⟩ hu
noncomputable def cA (n d:Nat):Option Int->Nat
 | none=>d
 | some v=>if v<0 then (v+(n:Int)).toNat else min v.toNat n
theorem Ao (n d):cA n d none=d:=rfl
theorem DX (n d k:Nat):cA n d (some (k:Int))=min k n:=by
 show (if (k:Int)<0 then ((k:Int)+(n:Int)).toNat else min (k:Int).toNat n)=min k n
 rw [if_neg 'l',Qc]
theorem Ij (n d) (hd:d<=n) (o):cA n d o<=n:=by
 cases o with
 | none=>exact hd
 | some v =>
  show (if v<0 then (v+(n:Int)).toNat else min v.toNat n)<=n
  by_cases hv:v<0
  ·rw [if_pos hv]; lia
  ·rw [if_neg hv]; exact Nat.min_le_right _ _
theorem vI (v) (n d:Nat):(if v<0 then max (v+(n:Int)) 0 else min v (n:Int))=((cA n d (some v):Nat):Int):=by
 show (if v<0 then max (v+(n:Int)) 0 else min v (n:Int))=(((if v<0 then (v+(n:Int)).toNat else min v.toNat n):Nat):Int)
 by_cases hv:v<0
 ·simp only [if_pos hv]; lia
 ·simp only [if_neg hv]; lia
theorem uq (lo hi) (n:Nat):Va lo hi 1 (n:Int)=(((cA n 0 lo:Nat):Int),((cA n n hi:Nat):Int)):=by
 have h1:¬ ((1:Int)<0):=by lia
 unfold Va
 simp only [h1,if_false]
 refine Prod.ext ?_ ?_
 ·cases lo with
  | none=>rfl
  | some v=>exact vI v n 0
 ·cases hi with
  | none=>rfl
  | some v=>exact vI v n n
theorem uu (i j:Nat):Ub (i:Int) (j:Int) 1=j - i:=by
 unfold Ub
 have h1:(1:Int)>0:=by lia
 simp only [h1,if_true,Int.ediv_one]
 split <;> lia
theorem kX (p:IsPart v o) (h:Q o s):wpAny (model prog w) A (Builtin.Slice.slicePartIndex v) Q E s:=by
 cases p with
 | none=>exact slicePart_none h
 | int i t=>exact slicePart_int h
theorem fC {sl:Addr} {vl vu:Value} {lo hi:Option Int} {n:Nat} {Q:Int×Int×Nat->Shared->Prop} (hs:s.heap.IsSliceOf sl vl vu .none) (pl:IsPart vl lo) (pu:IsPart vu hi)
 (h:Q (((cA n 0 lo:Nat):Int),1,cA n n hi - cA n 0 lo) s):wpAny (model prog w) A (Builtin.Slice.sliceApplied (.ref sl) (pure (n:Int))) Q E s:=by
 obtain ⟨os,hos,hcs,hds⟩:=id hs
 unfold Builtin.Slice.sliceApplied Builtin.Slice.sliceFields
 refine O6 (O6 (Qs hos hds (x:=vl) rfl (O6 (Qs hos hds (x:=vu) rfl (O6 (Qs hos hds (x:=.none) rfl (O8 ?_)))))))
 refine O6 (slicePart_none ?_)
 show wpAny _ _ (if ((1:Int) == 0)=true then _ else _) _ _ s
 rw [if_neg 'd']
 refine O6 (kX pl (O6 (kX pu (O6 (O8 ?_)))))
 show wpAny _ _ (match Va lo hi 1 (n:Int) with | (lo,hi)=>pure (lo,(1:Int),Ub lo hi 1)) _ _ s
 rw [uq lo hi n]
 show wpAny _ _ (pure (((cA n 0 lo:Nat):Int),(1:Int),Ub ((cA n 0 lo:Nat):Int) ((cA n n hi:Nat):Int) 1)) _ _ s
 rw [uu]
 exact O8 h
theorem Aq (xs:Array Value) (i k:Nat):((PM k).filterMap λ(m:Nat)=>xs[((i:Int)+(m:Int) * 1).toNat]?).toArray=((xs.toList.drop i).take k).toArray:=by
 have e:(λ(m:Nat)=>xs[((i:Int)+(m:Int) * 1).toNat]?)=λm=>xs[i+m]?:=by
  funext m
  have:((i:Int)+(m:Int) * 1).toNat=i+m:=by lia
  rw [this]
 rw [e]
 have:=pick_run xs i k
 rw [List.filterMap_map] at this
 have e2:((λx=>xs[x]?)∘λx=>i+x)=λm=>xs[i+m]?:=rfl
 rw [e2] at this
 rw [this]
theorem iM {lo hi:Option Int} (ht:IsTup s.heap t items) (hs:s.heap.IsSliceOf sl vl vu .none) (pl:IsPart vl lo) (pu:IsPart vu hi)
 (hw:¬ (cA items.size 0 lo=0/\cA items.size items.size hi=items.size))
 (h:Q (.ref s.heap.objs.size) { s with heap:=s.heap.push { cls:=.type "tuple",data:=.seq ((items.toList.drop (cA items.size 0 lo)).take (cA items.size items.size hi - cA items.size 0 lo)).toArray } })
 (hsz:items.size<=sizeLine):wpAny (model prog w) A (getItem (.ref t) (.ref sl)) Q E s:=by
 have htake:sizeOk (.seq ((items.toList.drop (cA items.size 0 lo)).take (cA items.size items.size hi - cA items.size 0 lo)).toArray):=by
  show ((items.toList.drop (cA items.size 0 lo)).take (cA items.size items.size hi - cA items.size 0 lo)).toArray.size<=sizeLine
  rw [PN,Qf,SQ,Qo]
  lia
 have hj:cA items.size items.size hi<=items.size:=Ij _ _ (O9 _) hi
 obtain ⟨os,hos,hcs,hds⟩:=id hs
 have hTs:s.TypeIs (.ref sl) "slice":=⟨os,hos,hcs⟩
 unfold getItem
 try with_reducible refine Qw ?_
 first | refine O6 (O8 ?_) | skip
 refine O6 (VN ht.typeIs 'd' ?_)
 refine O6 (RB (name:=O5 "__getitem__") ht.typeIs Sq
  (Q3 Sq ht.typeIs entry_tuple_getitem ?_ (args_tuple_getitem _ _)))
 show wpAny _ _ (Builtin.Tuple.tupleItemsOf (.ref t) >>= _) _ _ s
 refine O6 (tupleItemsOf_ ht ?_)
 refine O6 (Rw hTs ?_)
 rw [if_pos 'd']
 refine O6 (fC hs pl pu ?_)
 have hno:¬ ((((cA items.size 0 lo:Nat):Int) == 0 && (1:Int) == 1 && (cA items.size items.size hi - cA items.size 0 lo) == items.size)=true):=by
  intro q
  rw [SS,SS] at q
  have q1:((cA items.size 0 lo:Nat):Int)=0:=eq_of_beq q.1.1
  have q2:cA items.size items.size hi - cA items.size 0 lo=items.size:=eq_of_beq q.2
  exact hw ⟨by lia,by lia⟩
 show wpAny _ _ (if (((cA items.size 0 lo:Nat):Int) == 0 && (1:Int) == 1 && (cA items.size items.size hi - cA items.size 0 lo) == items.size)=true then _ else _) _ _ s
 rw [if_neg hno,Aq]
 first
  | exact O6 (m:=Ue _) (QG (O8 ⟨_,rfl,O8 h⟩) htake)
  | exact O6 (m:=Ue _) (QG (O6 (O8 (O8 ⟨_,rfl,O8 h⟩))) htake)
  | exact O6 (O6 (m:=Ue _) (QG (O8 (O8 ⟨_,rfl,O8 h⟩)) htake))
  | exact O6 (O6 (m:=Ue _) (QG (O8 ⟨_,rfl,O8 h⟩) htake))
end HT
namespace L2
open PySem PySem.Spec PyProof.Rows
noncomputable abbrev TO:=St->Hp->(Option Int->Hp->Prop)->Prop
def PO (X:Cx) (e:Option Expr) (t:TO):Prop :=
 ∀ (aa:List (Addr×Obj)) (s:Shared) (Z:St) (H:Hp) (Q:Option Int->Hp->Prop),Inv X aa Z H s->t Z H Q ->
  wpAny (model X.prog X.w) X.A (evalPart e X.env) (λu s'=>∃ o H',Inv X aa Z H' s'/\IsPart u o/\Q o H') X.xe s
noncomputable def DY:TO:=λ_ H Q=>Q none H
noncomputable def Lo (t:TE):TO:=λZ H Q=>t Z H λx H1=>∃ i,x=.int i/\Q (some i) H1
theorem intsAre_of:∀ {us:List Value},Vals (ns.map V.int) us->IntsAre us ns:=by
 induction ns with
 | nil=>intro us r; rw [Q8] at r; cases r; exact .nil
 | cons n ns ih =>
  intro us r
  rw [Pn] at r
  cases r with
  | cons r1 r2 =>
   obtain ⟨t,e⟩:=r1
   subst e
   exact .cons n t (ih r2)
section
variable {lo hi:Option Expr}
theorem DZ:PO X none DY:=by
 intro aa s Z H Q I h
 rw [evalPart_none]
 exact O8 ⟨none,H,I,.none,h⟩
theorem D3 (h:PE X e te):PO X (some e) (Lo te):=by
 intro aa s Z H Q I hw
 rw [evalPart_some]
 refine bL (h aa s Z H _ I hw) λu s1 ⟨x,H1,I1,r1,q1⟩=>?_
 obtain ⟨i,rfl,q⟩:=q1
 obtain ⟨t,rfl⟩:=r1
 exact ⟨some i,H1,I1,.int i t,q⟩
def DC (X:Cx) (r:V->Option Int->Option Int->Hp->VK->Prop):Prop :=
 ∀ (aa:List (Addr×Obj)) (s:Shared) (Z:St) (H:Hp) (x:V) (v vl vu:Value) (lo hi:Option Int) (sl:Addr) (Q:VK),Inv X aa Z H s->RelV x v->s.heap.IsSliceOf sl vl vu .none->IsPart vl lo->IsPart vu hi->r x lo hi H Q ->
  ∃ T id,typeLookup (.type T) "__getitem__"=pure (some (.builtin id))/\s.TypeIs v T/\wpAny (model X.prog X.w) X.A (getItem v (.ref sl)) (EP X aa Z Q) X.xe s
theorem DC.or (h:DC X r) (h':DC X r'):DC X (λx lo hi H Q=>r x lo hi H Q\/r' x lo hi H Q):=by
 intro aa s Z H x v vl vu lo hi sl Q I rx hs pl pu q
 rcases q with q | q
 ·exact h aa s Z H x v vl vu lo hi sl Q I rx hs pl pu q
 ·exact h' aa s Z H x v vl vu lo hi sl Q I rx hs pl pu q
noncomputable def OY (r:V->Option Int->Option Int->Hp->VK->Prop) (te:TE) (tl th:TO):TE:=λZ H Q=>te Z H λx H1=>tl Z H1 λl H2=>th Z H2 λu H3=>r x l u H3 Q
theorem Ar (hr:DC X r) (he:PE X e te) (hl:PO X lo tl) (hu:PO X hi th):PE X (.Subscript e (.Slice lo hi none p2) pos) (OY r te tl th):=by
 intro aa s Z H Q I h
 refine Subscript_ (bL (he aa s Z H _ I h) λv s1 ⟨x,H1,I1,r1,q1⟩=>?_)
 refine wpAny_Slice (bL (hl aa s1 Z H1 _ I1 q1) λvl s2 ⟨l,H2,I2,pl,q2⟩=>bL (hu aa s2 Z H2 _ I2 q2) λvu s3 ⟨u,H3,I3,pu,q3⟩=>?_)
 rw [evalPart_none]
 refine O8 ?_
 have I4:Inv X aa Z H3 { s3 with heap:=s3.heap.push { cls:=.type "slice",data:=.fields #[vl,vu,.none] } }:=I3.kept (t':=s3.toks) λb ob q=>Pe _ q
 obtain ⟨T,id,hT,ht,hg⟩:=hr aa { s3 with heap:=s3.heap.push { cls:=.type "slice",data:=.fields #[vl,vu,.none] } } Z H3 x v vl vu l u s3.heap.objs.size Q I4 r1 (Heap.IsSliceOf.new ..) pl pu q3
 show wpAny (model X.prog X.w) X.A (subscriptTail e (.Slice lo hi none p2) v (.ref s3.heap.objs.size)) (EP X aa Z Q) X.xe { s3 with heap:=s3.heap.push { cls:=.type "slice",data:=.fields #[vl,vu,.none] } }
 exact tail_any (ops:=[.ref s3.heap.objs.size,v]) ht hT hg (by rfl')
noncomputable def o8 (xs:List V) (lo hi:Option Int):List V:=(xs.drop (HT.cA xs.length 0 lo)).take (HT.cA xs.length xs.length hi - HT.cA xs.length 0 lo)
theorem jN (xs) (lo hi):(o8 xs lo hi).length<=xs.length:=by
 unfold o8
 rw [Qf,SQ]
 lia
noncomputable def NR (K:O7):V->Option Int->Option Int->Hp->VK->Prop:=λx lo hi H Q=>∃ a xs,x=.ref a/\c9 K H a xs /\
 ¬ (HT.cA xs.length 0 lo=0/\HT.cA xs.length xs.length hi=xs.length)/\∀ p,H p=none->Q (.ref p) (upd H p (.tup (o8 xs lo hi)))
theorem Ik:DC X (NR X.K):=by
 intro aa s Z H x v vl vu lo hi sl Q I rx hs pl pu h
 obtain ⟨a,xs,rfl,hx,hw,q⟩:=h
 cases rx
 obtain ⟨its,r,ht,hz⟩:=I.tuple hx
 have hlen:its.toArray.size=xs.length:=by rw [PN]; exact r.length.symm
 refine ⟨"tuple",_,Sq.lookup,ht.typeIs,?_⟩
 refine HT.iM ht hs pl pu (by rw [hlen]; exact hw) ?_ (by rw [hlen]; exact hz)
 rw [hlen]
 refine ⟨.ref s.heap.objs.size,_,I.laid (t':=s.toks) (o:=.tup (o8 xs lo hi)) (λb ob q=>Pe _ q) (O9 _) ?_,rfl,q _ (I.hok.fresh (O9 _))⟩
 exact ⟨Pj (jN xs lo hi) hz,_,(r.drop (HT.cA xs.length 0 lo)).take (HT.cA xs.length xs.length hi - HT.cA xs.length 0 lo),IsTup.new _ _⟩
theorem Vals.vJ (r:Vals xs us):us=[]↔xs=[]:=by
 cases r with
 | nil=>simp
 | cons _ _=>simp
end
noncomputable def KR (n:Nat) (i:Int):Option Nat:=if 0<=i then (if i<n then some i.toNat else none) else if -(n:Int)<=i then some (i+n).toNat else none
noncomputable def j9 {α:Type} (xs:List α) (i:Int):Option α:=(KR xs.length i).bind λj=>xs[j]?
theorem D4 (h:KR n i=some j):seqIndex? i n=some j/\j<n/\ -(n:Int)<=i/\i<n:=by
 unfold KR at h
 by_cases h0:0<=i
 ·rw [if_pos h0] at h
  by_cases h1:i<n
  ·rw [if_pos h1] at h
   have e:i.toNat=j:=QU h
   exact ⟨by rw [seqIndex_of h0 h1,e],by lia,by lia,h1⟩
  ·rw [if_neg h1] at h; cases h
 ·rw [if_neg h0] at h
  by_cases h1: -(n:Int)<=i
  ·rw [if_pos h1] at h
   have e:(i+n).toNat=j:=QU h
   exact ⟨by rw [seqIndex_neg 'l' h1,e],by lia,h1,by lia⟩
  ·rw [if_neg h1] at h; cases h
theorem vK (h:j9 xs i=some v):∃ j,seqIndex? i xs.length=some j/\xs[j]?=some v/\j<xs.length/\ -(xs.length:Int)<=i/\i<xs.length:=by
 unfold j9 at h
 cases e:KR xs.length i with
 | none=>rw [e] at h; cases h
 | some j =>
  rw [e] at h
  obtain ⟨h1,h2,h3,h4⟩:=D4 e
  exact ⟨j,h1,h,h2,h3,h4⟩
def kg (b:Expr):Prop:=∀ o i,subscripted b false o i=operate [o,i] (getItem o i)
def GJ (X:Cx) (r:R2):Prop :=
 ∀ (value slice:Expr) (aa:List (Addr×Obj)) (s:Shared) (Z:St) (H:Hp) (x y:V) (v u:Value) (Q:VK),Inv X aa Z H s->RelV x v->RelV y u->r x y H Q ->
  subscripted slice false v u=operate [v,u] (getItem v u)->wpAny (model X.prog X.w) X.A (subscriptTail value slice v u) (EP X aa Z Q) X.xe s
def NS (X:Cx) (id:String) (r:V->List V->Hp->VK->Prop):Prop :=
 ∀ (aa:List (Addr×Obj)) (s:Shared) (Z:St) (H:Hp) (x:V) (xs:List V) (v:Value) (us:List Value) (Q:VK),Inv X aa Z H s->RelV x v->Vals xs us->r x xs H Q ->
  wpAny (model X.prog X.w) X.A (call (.builtin id) (v::us)) (EP X aa Z Q) X.xe s
section
theorem GJ.or (h:GJ X r) (h':GJ X r'):GJ X (λx y H Q=>r x y H Q\/r' x y H Q):=by
 intro value slice aa s Z H x y v u Q I rx ry q hs
 rcases q with q | q
 ·exact h value slice aa s Z H x y v u Q I rx ry q hs
 ·exact h' value slice aa s Z H x y v u Q I rx ry q hs
theorem Lq (hr:GJ X r) (ha:PE X a ta) (hb:PE X b tb) (hs:kg b):PE X (.Subscript a b pos) (M6 r ta tb):=by
 intro aa s Z H Q I h
 exact Subscript_ (HV ha hb I h λv u s2 x y H2 I2 rx ry q=>hr a b aa s2 Z H2 x y v u Q I2 rx ry q (hs _ _))
noncomputable def NT (K:O7):R2:=λx y H Q=>∃ p xs i v,x=.ref p/\y=.int i/\fZ K H p xs/\j9 xs i=some v/\Q v H
noncomputable def NU (K:O7):R2:=λx y H Q=>∃ p xs i v,x=.ref p/\y=.int i/\c9 K H p xs/\j9 xs i=some v/\Q v H
theorem D5:GJ X (NT X.K):=by
 intro value slice aa s Z H x y v u Q I rx ry h hs
 obtain ⟨p,xs,i,z,rfl,rfl,hq,he,q⟩:=h
 cases rx
 obtain ⟨t,rfl⟩:=ry
 obtain ⟨its,r,pl,hz⟩:=I.list hq
 obtain ⟨j,h1,h2,h3,h4,h5⟩:=vK he
 obtain ⟨w,ew,rw'⟩:=r.get h2
 have hl:=r.length
 have hn:=ug
 have fin:EP X aa Z Q w s:=⟨z,H,I,rw',q⟩
 by_cases h0:0<=i
 ·have hj:i.toNat=j:=by
   rw [seqIndex_of h0 h5] at h1
   exact QU h1
  exact item_listR pl.isList h0 'l' (by rw [hj]; simpa using ew) fin hs
 ·have hj:(i+(its.toArray.size:Int)).toNat=j:=by
   rw [seqIndex_neg 'l' h4] at h1
   rw [PN,<- hl]
   exact QU h1
  exact subscriptTail_builtinR (x:=w) pl.isList.typeIs slot_list_getitem.lookup
   (wpAny_getItem_list_neg (Q:=λr s'=>r=w/\EP X aa Z Q r s') pl.isList 'l' (by rw [PN] <;> lia) 'l' (by rw [hj]; simpa using ew) ⟨rfl,fin⟩) hs
theorem Il:GJ X (NU X.K):=by
 intro value slice aa s Z H x y v u Q I rx ry h hs
 obtain ⟨p,xs,i,z,rfl,rfl,hq,he,q⟩:=h
 cases rx
 obtain ⟨t,rfl⟩:=ry
 obtain ⟨its,r,pl,hz⟩:=I.tuple hq
 obtain ⟨j,h1,h2,h3,h4,h5⟩:=vK he
 obtain ⟨w,ew,rw'⟩:=r.get h2
 have hl:=r.length
 have hn:=ug
 have fin:EP X aa Z Q w s:=⟨z,H,I,rw',q⟩
 exact subscriptTail_builtinR (x:=w) pl.typeIs slot_tuple_getitem.lookup
  (getItem_tuple (j:=j) (Q:=λr s'=>r=w/\EP X aa Z Q r s') pl 'l' 'l' (by rw [PN,<- hl]; exact h1) (by simpa using ew) ⟨rfl,fin⟩) hs
theorem o9 (lo hi) (n):(sliceBounds lo hi none n).1=((HT.cA n 0 lo:Nat):Int)/\(sliceBounds lo hi none n).2.1=((HT.cA n n hi:Nat):Int)/\(sliceBounds lo hi none n).2.2=1:=by
 refine ⟨?_,?_,rfl⟩
 ·cases lo with
  | none=>simp [sliceBounds,HT.cA]
  | some i =>
   simp only [sliceBounds,HT.cA,Option.getD_none,show (1:Int)>0 by decide,if_true]
   by_cases h:i<0
   ·simp only [h,if_true] <;> lia
   ·simp only [h,if_false] <;> lia
 ·cases hi with
  | none=>simp [sliceBounds,HT.cA]
  | some i =>
   simp only [sliceBounds,HT.cA,Option.getD_none,show (1:Int)>0 by decide,if_true]
   by_cases h:i<0
   ·simp only [h,if_true] <;> lia
   ·simp only [h,if_false] <;> lia
theorem m9 (its:List Value) (lo hi):slicePick its.toArray lo hi none=((its.drop (HT.cA its.length 0 lo)).take (HT.cA its.length its.length hi - HT.cA its.length 0 lo)).toArray:=by
 obtain ⟨h1,h2,h3⟩:=o9 lo hi its.toArray.size
 unfold slicePick
 rw [h1,h2,h3]
 simp only [sliceRange_one,pick_run,PN] <;> rfl
noncomputable def NV (K:O7):V->Option Int->Option Int->Hp->VK->Prop:=λx lo hi H Q=>∃ a xs,x=.ref a/\fZ K H a xs/\∀ p,H p=none->Q (.ref p) (upd H p (.lst (o8 xs lo hi)))
theorem D6:DC X (NV X.K):=by
 intro aa s Z H x v vl vu lo hi sl Q I rx hs pl pu h
 obtain ⟨a,xs,rfl,hx,q⟩:=h
 cases rx
 obtain ⟨its,r,ht,hz⟩:=I.list hx
 have hlen:=r.length
 refine ⟨"list",_,slot_list_getitem.lookup,ht.isList.typeIs,?_⟩
 refine wpAny_getItem_list_slice ht.isList hs pl pu .none 'p' ?_ (by rw [PN] <;> lia)
 rw [m9,<- hlen]
 refine ⟨.ref s.heap.objs.size,_,I.laid (t':=s.toks) (o:=.lst (o8 xs lo hi)) (λb ob q=>Pe _ q) (O9 _) ?_,rfl,q _ (I.hok.fresh (O9 _))⟩
 exact ⟨Pj (jN xs lo hi) hz,_,0,(r.drop (HT.cA xs.length 0 lo)).take (HT.cA xs.length xs.length hi - HT.cA xs.length 0 lo),Pq _ rfl⟩
theorem pe:fy X (.builtin "len") (λxs H Q=>∃ p ys,xs=[.ref p]/\(fZ X.K H p ys\/c9 X.K H p ys)/\Q (.int ys.length) H):=by
 intro aa s Z H xs us Q I r h
 obtain ⟨p,ys,rfl,hq,q⟩:=h
 obtain ⟨u,rfl,rx⟩:=vals1 r
 cases rx
 have hn:=ug
 rcases hq with hq | hq
 ·obtain ⟨its,r',pl,hz⟩:=I.list hq
  have hlen:=r'.length
  exact Calls.call_len_list pl.isList (by simp only [PN] <;> lia) ⟨.int ys.length,H,I.tok _,⟨s.toks+1,by rw [PN,hlen]⟩,q⟩
 ·obtain ⟨its,r',pl,hz⟩:=I.tuple hq
  have hlen:=r'.length
  exact len_tuple pl (by simp only [PN] <;> lia) ⟨.int ys.length,H,I.tok _,⟨s.toks+1,by rw [PN,hlen]⟩,q⟩
theorem pq:fy X (.type "list") (λxs H Q=>∃ p ys,xs=[.ref p]/\(fZ X.K H p ys\/c9 X.K H p ys)/\∀ l,H l=none->Q (.ref l) (upd H l (.lst ys))):=by
 intro aa s Z H xs us Q I r h
 obtain ⟨p,ys,rfl,hq,q⟩:=h
 obtain ⟨u,rfl,rx⟩:=vals1 r
 cases rx
 have fin:∀ (its:List Value),Vals ys its->ys.length<=sizeLine->∀ (h':Heap) (c':Nat),(∀ b o',s.heap.get? b=some o'->h'.get? b=some o') ->
  h'.get? s.heap.objs.size=some { cls:=.type "list",dict:=none,data:=.seq its.toArray c',slots:= #[] }->EP X aa Z Q (.ref s.heap.objs.size) { s with heap:=h' }:=λits r' hz h' c' kp e =>
  ⟨.ref s.heap.objs.size,_,I.laid (t':=s.toks) kp (O9 _) (show bf X.prog X.w _ h' _ (.lst ys) from ⟨hz,its,c',r',e⟩),rfl,q _ (I.hok.fresh (O9 _))⟩
 rcases hq with hq | hq
 ·obtain ⟨its,r',pl,hz⟩:=I.list hq
  have hlen:=r'.length
  obtain ⟨o,ho,hc,n,hd⟩:=pl.isList
  exact call_list_seq p (.inl rfl) ho hc hd (λh' c' kp e=>fin its r' hz h' c' kp e) (by simp only [PN] <;> lia)
 ·obtain ⟨its,r',pl,hz⟩:=I.tuple hq
  have hlen:=r'.length
  obtain ⟨o,ho,hc,n,hd⟩:=pl
  exact call_list_seq p (.inr rfl) ho hc hd (λh' c' kp e=>fin its r' hz h' c' kp e) (by simp only [PN] <;> lia)
theorem nc:fy X (.type "tuple") (λxs H Q=>∃ p ys,xs=[.ref p]/\((fZ X.K H p ys/\∀ l,H l=none->Q (.ref l) (upd H l (.tup ys)))\/(c9 X.K H p ys/\Q (.ref p) H))):=by
 intro aa s Z H xs us Q I r h
 obtain ⟨p,ys,rfl,h⟩:=h
 obtain ⟨u,rfl,rx⟩:=vals1 r
 cases rx
 rcases h with ⟨hq,q⟩ | ⟨hq,q⟩
 ·obtain ⟨its,r',pl,hz⟩:=I.list hq
  have hlen:=r'.length
  refine call_tuple_list pl.isList (λh' kp=>?_) (by simp only [PN] <;> lia)
  have I1:Inv X aa Z H { s with heap:=h' }:=I.kept (t':=s.toks) kp
  have I2:Inv X aa Z (upd H h'.objs.size (.tup ys)) { s with heap:=h'.push { cls:=.type "tuple",data:=.seq its.toArray } } :=
   I1.laid (t':=s.toks) (λb o e=>Pe _ e) (O9 _) (show bf X.prog X.w _ _ _ (.tup ys) from ⟨hz,its,r',IsTup.new _ _⟩)
  exact ⟨.ref h'.objs.size,_,I2,rfl,q _ (I1.hok.fresh (O9 _))⟩
 ·obtain ⟨its,r',pl,hz⟩:=I.tuple hq
  exact call_tuple_same pl ⟨.ref p,H,I,rfl,q⟩
def NW (K:O7) (T:String) (x:V) (H:Hp):Prop:=match x with
 | .str _=>T="str"
 | .int _=>T="int"
 | .ref p=>(T="list"/\∃ xs,fZ K H p xs)\/(T="tuple"/\∃ o,K.lookup p=some o/\o.cls=.type "tuple"/\o.dict=none) \/
  (T="dict"/\((∃ kvs,H p=some (.dK kvs))\/∃ kvs,H p=some (.dT kvs)))\/(T="set"/\∃ S n,H p=some (.set S n))
 | _=>False
theorem As (I:Inv X aa Z H s) (r:RelV x v) (ty:NW X.K T x H) :
 s.TypeIs v T/\∀ a,v=.ref a->∃ ob,s.heap.get? a=some ob/\ob.dict=none:=by
 cases x with
 | str z =>
  obtain ⟨t,rfl⟩:=r
  cases (show T="str" from ty)
  exact ⟨typeIs_str s z t,λ_ e=>nomatch e⟩
 | int i =>
  obtain ⟨t,rfl⟩:=r
  cases (show T="int" from ty)
  exact ⟨TZ s i t,λ_ e=>nomatch e⟩
 | ref p =>
  cases r
  rcases ty with ⟨rfl,xs,hq⟩ | ⟨rfl,o,hk,hc,hd⟩ | ⟨rfl,hk⟩ | ⟨rfl,S,n,hk⟩
  ·obtain ⟨its,_,pl,_⟩:=I.list hq
   refine ⟨pl.isList.typeIs,λa e=>?_⟩
   cases e
   obtain ⟨o,n,e,c,hd,_⟩:=pl
   exact ⟨o,e,hd⟩
  ·refine ⟨⟨o,I.qK p o hk,hc⟩,λa e=>?_⟩
   cases e
   exact ⟨o,I.qK _ o hk,hd⟩
  ·have z:∃ o,s.heap.get? p=some o/\o.ExactDict:=by
    rcases hk with ⟨kvs,hk⟩ | ⟨kvs,hk⟩
    ·obtain ⟨_,_,_,_,o,_,_,e,ex,_⟩:=I.hok p _ hk
     exact ⟨o,e,ex⟩
    ·obtain ⟨_,_,_,_,o,_,_,e,ex,_⟩:=I.hok p _ hk
     exact ⟨o,e,ex⟩
   obtain ⟨o,e,ex⟩:=z
   refine ⟨⟨o,e,ex.1⟩,λa e2=>?_⟩
   cases e2
   exact ⟨o,e,ex.2.1⟩
  ·obtain ⟨o,_,_,_,e,ex,_⟩:=I.hok p _ hk
   refine ⟨⟨o,e,ex.1⟩,λa e2=>?_⟩
   cases e2
   exact ⟨o,e,ex.2.1⟩
 | _=>exact QA ty
noncomputable def NX (K:O7) (T:String) (r:V->List V->Hp->VK->Prop) (to:TE):TE:=λZ H Q=>to Z H λx H1=>NW K T x H1/\r x [] H1 Q
noncomputable def OZ (K:O7) (T:String) (r:V->List V->Hp->VK->Prop) (to:TE) (t:TA):TE:=λZ H Q=>to Z H λx H1=>NW K T x H1/\t Z H1 λxs H2=>r x xs H2 Q
variable {T id:String}
theorem uw (pa:PlainAttrs T) (slot:Slot T name id) (hty:typeOf (.builtin id)=pure (.type "method_descriptor")) (hm:NS X id r) (ho:PE X o to)
 (hbase:attributeBase o name X.env (eval o X.env)=eval o X.env:=by rfl) (hline:(apos.endLine == cpos.line)=true:=by rfl):PE X (.Call (.Attribute o name apos) [] [] cpos) (NX X.K T r to):=by
 intro aa s Z H Q I h
 refine wpAny_Call_method0_late hbase hline (bL (ho aa s Z H _ I h) λv s1 ⟨x,H1,I1,r1,ty,q1⟩=>?_)
 obtain ⟨h1,h2⟩:=As I1 r1 ty
 exact ⟨T,id,pa,slot,hty,h1,h2,Vo rfl (VB (hm aa s1 Z H1 x [] v [] Q I1 r1 .nil q1))⟩
theorem GK (pa:PlainAttrs T) (slot:Slot T name id) (hty:typeOf (.builtin id)=pure (.type "method_descriptor")) (hm:NS X id r) (ho:PE X o to) (ha:PA X (e::es) t)
 (hbase:attributeBase o name X.env (eval o X.env)=eval o X.env:=by rfl)
 (hfew:((backTo cpos (starEach (e::es) X.env)).all (λx=> !x.1) && (backToKw cpos (keywordEach [] X.env)).all (λx=>x.1.isSome)
   && decide ((e::es).length+([]:List Keyword).length+(if ([]:List Keyword).isEmpty then 0 else 1)<30))=true:=by rfl)
 (hline:(apos.endLine == cpos.line)=true:=by rfl) (hs:starEach (e::es) X.env=(false,eval e X.env)::starEach es X.env:=by rfl) (hplain:(backTo cpos (starEach es X.env)).any (·.1)=false:=by rfl) :
 PE X (.Call (.Attribute o name apos) (e::es) [] cpos) (OZ X.K T r to t):=by
 intro aa s Z H Q I h
 refine wpAny_Call_method_late hbase hfew hline rfl (bL (ho aa s Z H _ I h) λv s1 ⟨x,H1,I1,r1,ty,q1⟩=>?_)
 obtain ⟨h1,h2⟩:=As I1 r1 ty
 refine ⟨T,id,pa,slot,hty,h1,h2,?_⟩
 have hA:=ha cpos aa s1 Z H1 _ I1 q1
 rw [hs] at hA |-
 refine Vo (by show (false || (backTo cpos (starEach es X.env)).any (·.1))=false; rw [hplain] <;> rfl) (Vy ?_)
 exact bL hA λus s2 ⟨vs,H2,I2,r2,q2⟩=>hm aa s2 Z H2 x vs v us Q I2 r1 r2 q2
end
def NY (X:Cx) (id:String) (r:V->List V->Hp->VK->Prop):Prop :=
 ∀ (aa:List (Addr×Obj)) (s:Shared) (Z:St) (H:Hp) (x:V) (xs:List V) (v:Value) (us:List Value) (Q:VK),Inv X aa Z H s->RelV x v->Vals xs us->r x xs H Q ->
  wpAny (model X.prog X.w) X.A (call (.builtin id) (v::us)) (EP X aa Z Q) X.xe s
theorem Vals.one:∀ {x:V} {us:List Value},Vals [x] us->∃ u,us=[u]/\RelV x u
 | _,_,.cons r .nil=>⟨_,rfl,r⟩
theorem Vals.zero:∀ {us:List Value},Vals [] us->us=[]
 | _,.nil=>rfl
theorem Vals.dropLast (h:Vals xs us):Vals xs.dropLast us.dropLast:=by
 induction h with
 | nil=>exact .nil
 | cons r t ih =>
  cases t with
  | nil=>exact .nil
  | cons q t'=>exact .cons r ih
theorem Vals.rep (h:Vals xs us):∀ k:Nat,Vals (Pu k xs).flatten (Pu k us).flatten
 | 0=>.nil
 | k+1=>by
  rw [Rh,Rh,R8,R8]
  exact Vals.append h (Vals.rep h k)
theorem uz {α:Type} (l:List α):l.eraseIdx (l.length - 1)=l.dropLast:=by
 induction l with
 | nil=>rfl
 | cons a r ih =>
  cases r with
  | nil=>rfl
  | cons b r =>
   have e:(a::b::r).length - 1=((b::r).length - 1)+1:=by
    have h1:(a::b::r).length=r.length+2:=rfl
    have h2:(b::r).length=r.length+1:=rfl
    lia
   rw [e,List.eraseIdx_cons_succ,ih]
   all_goals rfl
theorem foldl_rep (its):∀ (k:Nat) (acc:List Value),
 Tc (λx1 x2=>x1++x2) acc.toArray (Pu k its.toArray)=(acc++(Pu k its).flatten).toArray
 | 0,acc=>by simp
 | k+1,acc=>by
  have e:acc.toArray++its.toArray=(acc++its).toArray:=by simp
  have e2:(acc++its)++(Pu k its).flatten=acc++(Pu (k+1) its).flatten:=by
   rw [Rh,R8,PU]
  rw [<- e2,<- foldl_rep its k (acc++its),<- e,Rh,RJ]
theorem Inv.uA {its its':List Value} (I:Inv X aa Z H s) (hH:H l=some (.lst xs))
 (e:s.heap.get? l=some { cls:=.type "list",data:=.seq its.toArray n }) (hf:f its.toArray=its'.toArray) (hv:Vals ys its') (hz:ys.length<=sizeLine) :
 Inv X aa Z (upd H l (.lst ys)) { s with heap:=s.heap.update l (QY f),toks:=t' }:=by
 have q:=PySem.IsL.update e f
 rw [hf] at q
 refine I.write (x:=l) (e:=l) (by rw [hH]; exact trivial) (.inl rfl) (λb' u hb hu=>(Uj s.heap (QY f) (Py hb)).trans hu) ⟨_,q⟩ ?_
 exact ⟨hz,its',_,hv,q⟩
theorem Inv.Im (I:Inv X aa Z H s) (hv:Vals ys its) (hz:ys.length<=sizeLine) :
 Inv X aa Z (upd H s.heap.objs.size (.lst ys)) { s with heap:=s.heap.push { cls:=.type "list",data:=.seq its.toArray },toks:=t' } :=
 I.laid (λ_ _ q=>Pe _ q) (O9 _) ⟨hz,its,0,hv,Pq _ rfl⟩
theorem Inv.fresh (I:Inv X aa Z H s):H s.heap.objs.size=none:=I.hok.fresh (O9 _)
theorem Inv.pA (I:Inv X aa Z H s) (hH:H l=some (.lst xs)):xs.length<=sizeLine/\∃ (its:List Value) (n:Nat),Vals xs its/\xs.length=its.length/\s.heap.get? l=some { cls:=.type "list",data:=.seq its.toArray n }:=by
 obtain ⟨z,its,n,r,e⟩:=I.hok l _ hH
 exact ⟨z,its,n,r,r.length,e⟩
theorem Au (h:n<=sizeLine):Vf n=false:=by
 unfold Vf
 exact decide_eq_false 'l'
noncomputable def D7:V->List V->Hp->VK->Prop:=λx vs H Q=>∃ l xs y,x=.ref l/\vs=[y]/\H l=some (.lst xs)/\xs.length<sizeLine/\Q .non (upd H l (.lst (xs++[y])))
theorem nH:NY X "list.append" D7:=by
 intro aa s Z H x vs v us Q I rx rv h
 obtain ⟨l,xs,y,rfl,rfl,hH,hz,q⟩:=h
 cases rx
 obtain ⟨u,rfl,ru⟩:=rv.one
 obtain ⟨z,its,n,r,hl,e⟩:=I.pA hH
 refine Sm F.slot_list_append ⟨_,e,rfl⟩ F.entry_list_append (F.args_list_append_2 _ _) (PySem.list_append l its.toArray n u (by rw [PN]; lia)) ⟨e,?_⟩
 refine ⟨.non,_,I.uA (its':=its++[u]) hH e 'p' (r.append (.cons ru .nil)) ?_,rfl,q⟩
 rw [PY,RD]
 lia
noncomputable def NZ:V->List V->Hp->VK->Prop:=λx vs H Q=>∃ l xs y,x=.ref l/\vs=[]/\H l=some (.lst xs)/\xs[xs.length - 1]?=some y/\Q y (upd H l (.lst xs.dropLast))
theorem Av:NY X "list.pop" NZ:=by
 intro aa s Z H x vs v us Q I rx rv h
 obtain ⟨l,xs,y,rfl,rfl,hH,hy,q⟩:=h
 cases rx
 have hus:=rv.zero
 subst hus
 obtain ⟨z,its,n,r,hl,e⟩:=I.pA hH
 obtain ⟨u,hu,ru⟩:=r.get hy
 have hy':its.toArray[its.toArray.size - 1]?=some u:=by
  show its.toArray[its.length - 1]?=some u
  rw [<- Qg,<- hl]
  exact hu
 refine Sm F.slot_list_pop ⟨_,e,rfl⟩ F.entry_list_pop (F.args_list_pop_1 _) (MeetsSeq.list_pop_last l its.toArray n u hy' (by rw [PN]; lia)) ⟨e,?_⟩
 refine ⟨y,_,I.uA (its':=its.dropLast) hH e ?_ r.dropLast ?_,ru,q⟩
 ·show its.toArray.eraseIdxIfInBounds (its.toArray.size - 1)=its.dropLast.toArray
  rw [PN,List.eraseIdxIfInBounds_toArray,uz]
 ·rw [List.length_dropLast]
  lia
noncomputable def N3:R2:=λx y H Q=>∃ l k xs,x=.ref l/\y=.int k/\H l=some (.lst xs)/\ -(2 ^ 63)<=k/\k<2 ^ 63/\xs.length * k.toNat<=sizeLine /\
 ∀ p,H p=none->Q (.ref p) (upd H p (.lst (Pu k.toNat xs).flatten))
theorem len_rep {α:Type} (xs:List α) (k):(Pu k xs).flatten.length=k * xs.length:=by
 induction k with
 | zero=>simp
 | succ k ih=>rw [Rh,R8,PY,ih,TN,Nat.add_comm]
theorem Io:fu X (binaryOp .Mult) N3:=by
 intro aa s Z H x y v u Q I rx ry h
 obtain ⟨l,k,xs,rfl,rfl,hH,h1,h2,hz,q⟩:=h
 cases rx
 obtain ⟨t,rfl⟩:=ry
 obtain ⟨z,its,n,r,hl,e⟩:=I.pA hH
 have hlen:its.toArray.size * k.toNat<=sizeLine:=by rw [PN,<- hl]; exact hz
 have hcap:¬ its.toArray.size * k.toNat>(2 ^ 63 - 1) / 8:=by
  have:(sizeLine:Nat)<=(2 ^ 63 - 1) / 8:=by decide
  lia
 have hfit:¬ (!Builtin.List.listFitsIndex k)=true:=by
  rw [fitsIndex_both h1 h2]
  exact Pp
 have hlong:¬ Vf (its.toArray.size * k.toNat)=true:=by
  rw [Au hlen]
  exact Pp
 have hnew:Tc (λx1 x2=>x1++x2) #[] (Pu (if its.toArray.isEmpty=true then 0 else k.toNat) its.toArray)=(Pu k.toNat its).flatten.toArray:=by
  have f0:∀ m:Nat,Tc (λx1 x2=>x1++x2) #[] (Pu m its.toArray)=(Pu m its).flatten.toArray:=λm=>by
   have:=foldl_rep its m []
   rw [Tt] at this
   exact this
  rw [f0]
  cases its with
  | nil=>simp
  | cons a r'=>rw [if_neg 'p']
 refine wpAny_binaryOp_repeat_ref (T:="list") (U:="int") 'd' ⟨_,e,rfl⟩ (λs'=>TZ s' k t) noFill_list_mul F.fills_int_mul UD repeat_list F.slot_int_index.lookup
  (Sm UD (TZ s k t) F.entry_int_rmul (F.args_int_rmul_2 _ _) (int___rmul___int_list k t l its.toArray n)
    ⟨e,rfl,⟨_,e,rfl⟩,Sm F.slot_list_mul ⟨_,e,rfl⟩ F.entry_list_mul (F.args_list_mul_2 _ _) (AutoListH.list___mul___list_int_3 l its.toArray n k t hfit hcap hlong) ⟨e,?_⟩⟩)
 rw [hnew]
 exact ⟨.ref _,_,I.Im (t':=s.toks) (r.rep k.toNat) (by rw [len_rep,UT]; exact hz),rfl,q _ I.fresh⟩
section
variable {U:Type} [DecidableEq U]
noncomputable def kY (kvs:List (U×V)) (k:U):Option V:=(kvs.find? λkv=>decide (kv.1=k)).map (·.2)
noncomputable def putK (kvs:List (U×V)) (k:U) (v:V):List (U×V) :=
 if (kvs.any λkv=>decide (kv.1=k))=true then kvs.map (λkv=>if kv.1=k then (kv.1,v) else kv) else kvs++[(k,v)]
theorem kZ {p:U×V} {r:List (U×V)} {k:U} (e:p.1=k):kY (p::r) k=some p.2:=by simp [kY,QV,e]
theorem k9 {p:U×V} {r:List (U×V)} {k:U} (e:¬ p.1=k):kY (p::r) k=kY r k:=by simp [kY,QV,e]
theorem qW (k:U):∀ kvs:List (U×V),(kvs.any λkv=>decide (kv.1=k))=(kY kvs k).isSome
 | []=>rfl
 | p::r=>by
  rw [List.any_cons]
  by_cases e:p.1=k
  ·simp only [kZ e,decide_eq_true e,Bool.true_or,Option.isSome_some]
  ·rw [k9 e,decide_eq_false e,Bool.false_or]; exact qW k r
theorem jO (kvs) (k:U) (v):(putK kvs k v).length<=kvs.length+1:=by
 unfold putK
 split
 ·rw [Pc]; lia
 ·rw [PY,P4,Q5]; lia
theorem jY.fD (r:jY o u):o.isSome=u.isSome:=by
 cases o with
 | none=>cases u with
  | none=>rfl
  | some _=>exact (show False from r).elim
 | some _=>cases u with
  | none=>exact (show False from r).elim
  | some _=>rfl
theorem jY.getD (r:jY o u) (rd:RelV d d'):RelV (o.getD d) (u.getD d'):=by
 cases o with
 | none=>cases u with
  | none=>exact rd
  | some _=>exact (show False from r).elim
 | some _=>cases u with
  | none=>exact (show False from r).elim
  | some _=>exact r
theorem KV.val (r:KV kvs vs) (k:U):jY (kY kvs k) (valueAt vs k):=by
 unfold KV at r
 induction r with
 | nil=>exact Rb
 | @cons p q ps qs h t ih =>
  obtain ⟨h1,h2⟩:=h
  by_cases e:p.1=k
  ·have e':q.1=k:=h1.symm.trans e
   have b:valueAt (q::qs) k=some q.2:=by simp [valueAt,QV,e']
   rw [kZ e,b]; exact h2
  ·have e':¬ q.1=k:=λz=>e (h1.trans z)
   have b:valueAt (q::qs) k=valueAt qs k:=by simp [valueAt,QV,e']
   rw [k9 e,b]; exact ih
theorem KV.any (r:KV kvs vs) (k:U):(kvs.any λkv=>decide (kv.1=k))=vs.any λkv=>decide (kv.1=k):=by
 unfold KV at r
 induction r with
 | nil=>rfl
 | cons h t ih=>rw [List.any_cons,List.any_cons,ih,h.1]
theorem KV.repl (r:KV kvs vs) (k:U) (ry:RelV y u) :
 KV (kvs.map λkv=>if kv.1=k then (kv.1,y) else kv) (vs.map λkv=>if kv.1=k then (kv.1,u) else kv):=by
 unfold KV at r |-
 induction r with
 | nil=>exact .nil
 | @cons p q ps qs h t ih =>
  rw [Pn,Pn]
  refine .cons ?_ ih
  obtain ⟨h1,h2⟩:=h
  by_cases e:p.1=k
  ·rw [if_pos e,if_pos (h1.symm.trans e)]; exact ⟨h1,ry⟩
  ·rw [if_neg e,if_neg (λz=>e (h1.trans z))]; exact ⟨h1,h2⟩
theorem KV.put (r:KV kvs vs) (k:U) (ry:RelV y u):KV (putK kvs k y) (stored vs k u):=by
 unfold putK stored
 rw [r.any k]
 by_cases e:(vs.any λkv=>decide (kv.1=k))=true
 ·rw [if_pos e,if_pos e]; exact r.repl k ry
 ·rw [if_neg e,if_neg e]; exact U0 r ⟨rfl,ry⟩
theorem KV.length {kvs:List (U×V)} {vs:List (U×Value)} (r:KV kvs vs):kvs.length=vs.length:=QD r
end
theorem lg (r:RelV (kV k) u):(bZ P w).is k u=true:=by
 cases k with
 | inl i=>obtain ⟨t,e⟩:=(show ∃ t,u=RU i t from r); subst e; exact qO P w i t
 | inr x=>obtain ⟨t,e⟩:=(show ∃ t,u=T6 x t from r); subst e; exact qP P w x t
theorem nI:∀ {ks:List Key} {us:List Value},Vals (ks.map kV) us->ItemsAre (bZ P w) ks us
 | [],_,r=>by rw [Q8] at r; cases r; exact .nil
 | k::ks,_,r=>by
  rw [Pn] at r
  cases r with
  | cons h t=>exact .cons (lg h) (nI t)
noncomputable abbrev KT:List (List Key×Addr×V)->List (List Key×Addr×Value)->Prop:=Paired λp q=>p.1=q.1/\p.2.1=q.2.1/\RelV p.2.2 q.2.2
noncomputable def atT (kvs:List (List Key×Addr×V)) (k:List Key):Option V:=(kvs.find? λkv=>decide (kv.1=k)).map (·.2.2)
noncomputable def pB (k:List Key) (v:V) (x:List Key×Addr×V):List Key×Addr×V:=if x.1=k then (x.1,x.2.1,v) else x
noncomputable def qX (kvs:List (List Key×Addr×V)) (k:List Key) (b:Addr) (v:V):List (List Key×Addr×V) :=
 if (atT kvs k).isSome=true then kvs.map (pB k v) else kvs++[(k,b,v)]
theorem qY (kvs) (k) (b) (v):(qX kvs k b v).length<=kvs.length+1:=by
 unfold qX
 split
 ·rw [Pc]; lia
 ·rw [PY,P4,Q5]; lia
theorem KT.val (r:KT kvs xs) (k):jY (atT kvs k) ((atKey xs k).map (·.2)):=by
 induction r with
 | nil=>exact Rb
 | @cons p q ps qs h t ih =>
  obtain ⟨h1,_,h2⟩:=h
  by_cases e:p.1=k
  ·have e':q.1=k:=h1.symm.trans e
   have b:atKey (q::qs) k=some q.2:=by simp [atKey,QV,e']
   have b2:atT (p::ps) k=some p.2.2:=by simp [atT,QV,e]
   rw [b2,b]; exact h2
  ·have e':¬ q.1=k:=λz=>e (h1.trans z)
   have b:atKey (q::qs) k=atKey qs k:=by simp [atKey,QV,e']
   have b2:atT (p::ps) k=atT ps k:=by simp [atT,QV,e]
   rw [b2,b]; exact ih
theorem KT.repl (r:KT kvs xs) (k) (ry:RelV y u) :
 KT (kvs.map (pB k y)) (xs.map (putAt k u)):=by
 induction r with
 | nil=>exact .nil
 | @cons p q ps qs h t ih =>
  rw [Pn,Pn]
  refine .cons ?_ ih
  obtain ⟨h1,h2,h3⟩:=h
  unfold putAt pB
  by_cases e:p.1=k
  ·rw [if_pos e,if_pos (h1.symm.trans e)]; exact ⟨h1,h2,ry⟩
  ·rw [if_neg e,if_neg (λz=>e (h1.trans z))]; exact ⟨h1,h2,h3⟩
theorem KT.put (r:KT kvs xs) (k) (ry:RelV y u) :
 KT (qX kvs k b y) (storedH xs k b u):=by
 have e:(atT kvs k).isSome=(atKey xs k).isSome:=by
  rw [(r.val k).fD,RH]
 unfold qX storedH
 rw [e]
 by_cases q:(atKey xs k).isSome=true
 ·rw [if_pos q,if_pos q]; exact r.repl k ry
 ·rw [if_neg q,if_neg q]; exact U0 r ⟨rfl,rfl,ry⟩
theorem Aw (ok:ig P w H h) (e:Rd H a u):bf P w H h a u:=e.ok ok
theorem lu (ok:ig P w H h) (e:Rd H a (.dK kvs)):kvs.length<=sizeLine/\(a == sysModules)=false/\∃ vs,KV kvs vs/\h.DictOf (bZ P w) a vs :=
 show bf P w H h a (.dK kvs) from Aw ok e
theorem Ax (ok:ig P w H h) (e:H a=some (.dK kvs)):kvs.length<=sizeLine/\(a == sysModules)=false/\∃ vs,KV kvs vs/\h.DictOf (bZ P w) a vs:=lu ok (.inl e)
theorem jv (I:Inv X aa Z H s) (e:c9 X.K H a (ks.map kV)):(tupleKind (bZ X.prog X.w)).is s.heap ks a:=by
 obtain ⟨its,r,⟨o,h1,h2,n,h3⟩,_⟩:=I.tuple e
 exact ⟨o,its.toArray,n,h1,h2,h3,by simpa using nI r⟩
theorem nJ (I:Inv X aa Z H s) (e:Rd H a (.dT kvs)) (hk:∀ x∈kvs,c9 X.K H x.2.1 (x.1.map kV)):kvs.length<=sizeLine/\(a == sysModules)=false /\
 ∃ xs,KT kvs xs/\s.heap.DictOfH (tupleKind (bZ X.prog X.w)) a xs:=by
 obtain ⟨z,y,xs,r,o,es,ep,h1,h2,h3,h4,h5⟩:=(show bf X.prog X.w H s.heap a (.dT kvs) from Aw I.hok e)
 refine ⟨z,y,xs,r,o,es,ep,h1,h2,h3,h4,?_,h5⟩
 have all:∀ {l:List (List Key×Addr×V)} {m:List (List Key×Addr×Value)},KT l m->(∀ x∈l,c9 X.K H x.2.1 (x.1.map kV))->∀ x∈m,(tupleKind (bZ X.prog X.w)).is s.heap x.1 x.2.1:=by
  intro l m q
  induction q with
  | nil=>intro _ x hx; exact nomatch hx
  | @cons p q ps qs hq t ih =>
   intro hl x hx
   rcases Pg.mp hx with e | hx
   ·subst e
    rw [<- hq.1,<- hq.2.1]
    exact jv I (hl p Pd)
   ·exact ih (λy hy=>hl y (Ph _ hy)) x hx
 exact all r hk
def ly (K:O7) (H:Hp) (a:Addr) (y:V) (r:Option V):Prop :=
 (∃ kvs k,Rd H a (.dK kvs)/\y=kV k/\r=kY kvs k)\/∃ kvs k b,Rd H a (.dT kvs)/\(∀ x∈kvs,c9 K H x.2.1 (x.1.map kV))/\y=.ref b/\c9 K H b (k.map kV)/\r=atT kvs k
def D8 (K:O7) (H:Hp) (a:Addr) (y v:V) (H':Hp):Prop :=
 (∃ kvs k,H a=some (.dK kvs)/\y=kV k/\kvs.length<sizeLine/\H'=upd H a (.dK (putK kvs k v))) \/
 ∃ kvs k b,H a=some (.dT kvs)/\(∀ x∈kvs,c9 K H x.2.1 (x.1.map kV))/\y=.ref b/\c9 K H b (k.map kV)/\kvs.length<sizeLine/\H'=upd H a (.dT (qX kvs k b v))
theorem Inv.big (I:Inv X aa Z H s):sysModules<s.heap.objs.size:=by
 have h:mainGlobals<s.heap.objs.size:=(I.mod.glob.keeps I.bk).lt
 exact Nat.lt_trans 'd' h
theorem nK (hu:A.units+1<cLine) (I:Inv X aa Z H s) (g:ly X.K H a y (some v)) (ry:RelV y u) (h:∀ w' s',Inv X aa Z H s'->RelV v w'->Q w' s') :
 wpAny (model X.prog X.w) A (getItem (.ref a) u) Q E s:=by
 rcases g with ⟨kvs,k,e,ey,l⟩ | ⟨kvs,k,b,e,hk,ey,eb,l⟩
 ·subst ey
  obtain ⟨z,hd,vs,rel,dd⟩:=lu I.hok e
  obtain ⟨w',hw,rw'⟩:=jY.some_of (v:=v) (o:=valueAt vs k) (by rw [l]; exact rel.val k)
  exact wpAny_getItem_of (lg ry) dd.mapOf hw (h w' _ (I.tok _) rw')
 ·subst ey
  cases (show u=Px b from ry)
  obtain ⟨z,hd,xs,rel,dd⟩:=nJ I e hk
  obtain ⟨w',hw,rw'⟩:=jY.some_of (v:=v) (o:=(atKey xs k).map (·.2)) (by rw [l]; exact rel.val k)
  obtain ⟨p,hp,hp2⟩:=PD.mp hw
  refine wpAny_getItem_heap (Tj hu) (jv I eb) dd hp ?_
  rw [hp2]
  exact h w' _ (I.tok _) rw'
theorem N4 (hu:A.units+1<cLine) (I:Inv X aa Z H s) (g:ly X.K H a y o) (ry:RelV y u) (h:∀ s',Inv X aa Z H s'->Q (.bool o.isSome) s') :
 wpAny (model X.prog X.w) A (compareOp .In u (.ref a)) Q E s:=by
 rcases g with ⟨kvs,k,e,ey,l⟩ | ⟨kvs,k,b,e,hk,ey,eb,l⟩
 ·subst ey
  obtain ⟨z,hd,vs,rel,dd⟩:=lu I.hok e
  refine wpAny_in_of (lg ry) hd dd.mapOf ?_
  rw [<- (rel.val k).fD,<- l]
  exact h _ (I.tok _)
 ·subst ey
  cases (show u=Px b from ry)
  obtain ⟨z,hd,xs,rel,dd⟩:=nJ I e hk
  refine wpAny_in_heap (Tj hu) (jv I eb) hd dd ?_
  have q:=(rel.val k).fD
  rw [RH] at q
  rw [<- q,<- l]
  exact h _ (I.tok _)
theorem D9 (hu:A.units+1<cLine) (I:Inv X aa Z H s) (g:ly X.K H a y o) (ry:RelV y u) (h:∀ s',Inv X aa Z H s'->Q (.bool (!o.isSome)) s') :
 wpAny (model X.prog X.w) A (compareOp .NotIn u (.ref a)) Q E s:=by
 rcases g with ⟨kvs,k,e,ey,l⟩ | ⟨kvs,k,b,e,hk,ey,eb,l⟩
 ·subst ey
  obtain ⟨z,hd,vs,rel,dd⟩:=lu I.hok e
  refine wpAny_notIn_of (lg ry) hd dd.mapOf ?_
  rw [<- (rel.val k).fD,<- l]
  exact h _ (I.tok _)
 ·subst ey
  cases (show u=Px b from ry)
  obtain ⟨z,hd,xs,rel,dd⟩:=nJ I e hk
  refine wpAny_notIn_heap (Tj hu) (jv I eb) hd dd ?_
  have q:=(rel.val k).fD
  rw [RH] at q
  rw [<- q,<- l]
  exact h _ (I.tok _)
theorem pD (I:Inv X aa Z H s) (mu:K0 (H a)) (hs:QW a s.heap h') (he:∃ q,h'.get? a=some q) (new:bf X.prog X.w (upd H a ob) h' a ob) :
 Inv X aa Z (upd H a ob) { s with heap:=h',toks:=t' } :=
 I.write (x:=a) (e:=a) mu (.inl rfl) (λb q hb z=>(hs.2 b hb).trans z) he new
theorem Ay (z:kvs.length<=sizeLine) (hd:(a == sysModules)=false) (rel:KV kvs vs) (dd:h'.DictOf (bZ P w) a vs) :
 bf P w H' h' a (.dK kvs):=⟨z,hd,vs,rel,dd⟩
theorem nL (hu:A.units+1<cLine) (I:Inv X aa Z H s) (g:D8 X.K H a y v H') (ry:RelV y u) (rv:RelV v r) (h:∀ s',Inv X aa Z H' s'->Q () s') :
 wpAny (model X.prog X.w) A (setItem (.ref a) u r) Q E s:=by
 rcases g with ⟨kvs,k,e,ey,l,eH⟩ | ⟨kvs,k,b,e,hk,ey,eb,l,eH⟩
 ·subst ey eH
  obtain ⟨z,hd,vs,rel,dd⟩:=Ax I.hok e
  have hz:vs.length<=sizeLine:=by rw [<- rel.length]; exact z
  have hl:(putK kvs k v).length<=sizeLine:=by have:=jO kvs k v; lia
  refine wpAny_setItem_pairs (hsz:=hz) (lg ry) dd λh' dd' hs=>h _ ?_
  have he:∃ q,h'.get? a=some q:=let ⟨q,_,_,hq,_⟩:=dd'; ⟨q,hq⟩
  exact pD I (by rw [e]; exact Rb) hs he (Ay hl hd (rel.put k rv) dd')
 ·subst ey eH
  cases (show u=Px b from ry)
  obtain ⟨z,hd,xs,rel,dd⟩:=nJ I (.inl e) hk
  have hz:xs.length<=sizeLine:=by rw [<- QD rel]; exact z
  have hl:(qX kvs k b v).length<=sizeLine:=by have:=qY kvs k b v; lia
  refine wpAny_setItem_heap (hsz:=hz) (Tj hu) (jv I eb) dd λh' dd' hs=>h _ ?_
  obtain ⟨q,es,ep,hq,h2,h3,h4,_,h5⟩:=dd'
  exact pD I (by rw [e]; exact Rb) hs ⟨q,hq⟩ ⟨hl,hd,_,rel.put k rv,q,es,ep,hq,h2,h3,h4,h5⟩
def Ea (i:Expr):Prop:=∀ ov iv,subscripted i false ov iv=operate [ov,iv] (getItem ov iv)
theorem Eb {T id:String}
 (hl:typeLookup (.type T) "__getitem__"=pure (some (.builtin id))) (hs:Ea slice)
 (h:wpAny (model prog w) A (eval value env) (λo s₁=>wpAny (model prog w) A (eval slice env) (λi s₂=>s₂.TypeIs o T/\wpAny (model prog w) A (getItem o i) Q E s₂) E s₁) E s) :
 wpAny (model prog w) A (eval (.Subscript value slice pos) env) Q E s:=by
 refine Subscript_ (Qd h (λo s₁ h₁=>Qd h₁ (λi s₂ h₂=>?_) λ_ _ x=>x) λ_ _ x=>x)
 obtain ⟨hT,h₂⟩:=h₂
 unfold subscriptTail
 refine O6 ?_
 rw [getitemInPython_of_ne hT.not_modules]
 refine O6 (wpAny_specialOf hT hl ?_)
 have fin:wpAny (model prog w) A (subscripted slice false o i) (λr s₃=>wpAny (model prog w) A (letTemporaryGo value o r >>= λ_=>pure r) Q E s₃) E s₂:=by
  rw [hs o i]
  exact wpAny_operating (Qd h₂ (λr s₃ h₃=>O6 (wpAny_letTemporaryGo (O8 h₃))) λ_ _ x=>x)
 first
  | exact O8 (O6 fin)
  | exact O6 (O8 (O6 fin))
  | exact O6 fin
theorem qZ (I:Inv X aa Z H s) (g:ly X.K H a y o):s.TypeIs (.ref a) "dict":=by
 rcases g with ⟨kvs,k,e,_,_⟩ | ⟨kvs,k,b,e,hk,_,_,_⟩
 ·obtain ⟨_,_,vs,_,dd⟩:=lu I.hok e
  exact dd.typeIs
 ·obtain ⟨_,_,xs,_,dd⟩:=nJ I e hk
  exact dd.typeIs
noncomputable def Lr (X:Cx) (td ty:TE):TE:=λZ H Q=>td Z H λx H1=>ty Z H1 λy H2=>∃ a v,x=.ref a/\ly X.K H2 a y (some v)/\Q v H2
noncomputable def N5 (X:Cx) (ty td:TE):TE:=λZ H Q=>ty Z H λy H1=>td Z H1 λx H2=>∃ a o,x=.ref a/\ly X.K H2 a y o/\Q (.bl o.isSome) H2
noncomputable def Ec (X:Cx) (ty td:TE):TE:=λZ H Q=>ty Z H λy H1=>td Z H1 λx H2=>∃ a o,x=.ref a/\ly X.K H2 a y o/\Q (.bl (!o.isSome)) H2
noncomputable def Ls (X:Cx) (td ty tv:TE):TS:=λD Z H=>tv Z H λv H1=>td Z H1 λx H2=>ty Z H2 λy H3=>∃ a H4,x=.ref a/\D8 X.K H3 a y v H4/\D.nx Z H4
noncomputable def Lu (X:Cx) (td ty tv:TE) (rd:V->V->Hp->VK->Prop):TS:=λD Z H=>td Z H λx H1=>ty Z H1 λy H2=>∃ a v,x=.ref a/\ly X.K H2 a y (some v) /\
 tv Z H2 λy2 H3=>rd v y2 H3 λz H4=>∃ H5,D8 X.K H4 a y z H5/\D.nx Z H5
theorem vL (hu:X.A.units+1<cLine) (ho:PE X o td) (hi:PE X i ty) (hs:Ea i):PE X (.Subscript o i pos) (Lr X td ty):=by
 intro aa s Z H Q I h
 refine Eb PySem.F.slot_dict_getitem.lookup hs (bL (ho aa s Z H _ I h) λu s1 ⟨x,H1,I1,rx,q1⟩=>bL (hi aa s1 Z H1 _ I1 q1) λiv s2 ⟨y,H2,I2,ry,a,v,ex,g,q2⟩=>?_)
 subst ex
 obtain rfl:u=Px a:=rx
 exact ⟨qZ I2 g,nK hu I2 g ry λw' s3 I3 rw'=>⟨v,H2,I3,rw',q2⟩⟩
theorem Ip (hu:X.A.units+1<cLine) (hi:PE X i ty) (ho:PE X o td):PC X .In i o (N5 X ty td):=by
 intro aa s Z H Q I h
 refine bL (hi aa s Z H _ I h) λiv s1 ⟨y,H1,I1,ry,q1⟩=>bL (ho aa s1 Z H1 _ I1 q1) λu s2 ⟨x,H2,I2,rx,a,ov,ex,g,q2⟩=>?_
 subst ex
 obtain rfl:u=Px a:=rx
 exact N4 hu I2 g ry λs3 I3=>⟨.bl ov.isSome,H2,I3,rfl,q2⟩
theorem yo (hu:X.A.units+1<cLine) (hi:PE X i ty) (ho:PE X o td):PC X .NotIn i o (Ec X ty td):=by
 intro aa s Z H Q I h
 refine bL (hi aa s Z H _ I h) λiv s1 ⟨y,H1,I1,ry,q1⟩=>bL (ho aa s1 Z H1 _ I1 q1) λu s2 ⟨x,H2,I2,rx,a,ov,ex,g,q2⟩=>?_
 subst ex
 obtain rfl:u=Px a:=rx
 exact D9 hu I2 g ry λs3 I3=>⟨.bl (!ov.isSome),H2,I3,rfl,q2⟩
theorem Ed (hu:X.A.units+1<cLine) (ho:PE X o td) (hi:PE X i ty) (hv:PE X value tv) (hs:swapsWith value (some (.Subscript o i pos')) pos.line X.env=pure false) :
 PS X (.Assign [.Subscript o i pos'] value pos) (Ls X td ty tv):=by
 intro aa s Z H D I h
 refine wpAny_Assign_Subscript (bL (hv aa s Z H _ I h) λr s1 ⟨v,H1,I1,rv,q1⟩=>bL (ho aa s1 Z H1 _ I1 q1) λu s2 ⟨x,H2,I2,rx,q2⟩=>bL (hi aa s2 Z H2 _ I2 q2) λiv s3 ⟨y,H3,I3,ry,a,H4,ex,g,q3⟩=>?_) hs
 subst ex
 obtain rfl:u=Px a:=rx
 exact nL hu I3 g ry rv λs4 I4=>⟨Z,H4,I4,q3⟩
theorem Ef (hu:X.A.units+1<cLine) (ho:PE X o td) (hi:PE X i ty) (hv:PE X value tv) (hop:Ll X op rd)
 (ha:∀ ov iv new,augStore i ov iv new=(do holding [new,ov,iv] (setItem ov iv new); release [new,ov,iv] []; pure .next)):PS X (.AugAssign (.Subscript o i tpos) op value pos) (Lu X td ty tv rd):=by
 intro aa s Z H D I h
 refine wpAny_AugAssign_SubscriptAny (bL (ho aa s Z H _ I h) λu s1 ⟨x,H1,I1,rx,q1⟩=>bL (hi aa s1 Z H1 _ I1 q1) λiv s2 ⟨y,H2,I2,ry,a,v,ex,g,q2⟩=>?_) ha
 subst ex
 obtain rfl:u=Px a:=rx
 refine nK hu I2 g ry λw' s3 I3 rw'=>bL (hv aa s3 Z H2 _ I3 q2) λw2 s4 ⟨y2,H3,I4,ry2,q3⟩=>bL (hop aa s4 Z H3 v y2 w' w2 _ I4 rw' ry2 q3) λw3 s5 ⟨z,H4,I5,rz,H5,g5,q4⟩=>?_
 exact nL hu I5 g5 ry rz λs6 I6=>⟨Z,H5,I6,q4⟩
theorem q8 (h:Heap) (hb:sysModules<h.objs.size):bf P w H (h.push { cls:=.type "dict",data:=.dict #[] }) h.objs.size (.dK []) :=
 ⟨P7 _,beq_eq_false_iff_ne.mpr (Py (PJ hb)),[],.nil,Heap.DictOf.new h⟩
theorem Az (h:Heap) (hb:sysModules<h.objs.size):bf P w H (h.push { cls:=.type "dict",data:=.dict #[] }) h.objs.size (.dT []) :=
 ⟨P7 _,beq_eq_false_iff_ne.mpr (Py (PJ hb)),[],.nil,_,#[],0,Pq _ rfl,⟨rfl,rfl,rfl⟩,rfl,rfl,List.nodup_nil⟩
noncomputable def Iq:TE:=λ_ H Q=>∀ p,H p=none->Q (.ref p) (upd H p (.dK []))
noncomputable def Ir:TE:=λ_ H Q=>∀ p,H p=none->Q (.ref p) (upd H p (.dT []))
theorem AA:PE X (.Dict [] [] pos) Iq:=λaa s Z H Q I h =>
 wpAny_Dict_empty ⟨.ref s.heap.objs.size,_,I.laid (a:=s.heap.objs.size) (o:=.dK []) (t':=s.toks) (λ_ _ q=>Pe _ q) (O9 _) (q8 s.heap I.big),rfl,h _ (I.hok.fresh (O9 _))⟩
theorem AB:PE X (.Dict [] [] pos) Ir:=λaa s Z H Q I h =>
 wpAny_Dict_empty ⟨.ref s.heap.objs.size,_,I.laid (a:=s.heap.objs.size) (o:=.dT []) (t':=s.toks) (λ_ _ q=>Pe _ q) (O9 _) (Az s.heap I.big),rfl,h _ (I.hok.fresh (O9 _))⟩
noncomputable def cF (kvs more:List (Key×V)):List (Key×V):=more.foldl (λacc kv=>putK acc kv.1 kv.2) kvs
theorem gY:∀ (more kvs:List (Key×V)),(cF kvs more).length<=kvs.length+more.length
 | [],kvs=>by show kvs.length<=kvs.length+0; lia
 | p::r,kvs=>by
  have h1:=gY r (putK kvs p.1 p.2)
  have h2:=jO kvs p.1 p.2
  show (cF (putK kvs p.1 p.2) r).length<=_
  rw [P4]; lia
structure M1 (X:Cx) (o:Expr) (m:Str) (apos:Pos) (e:Expr) (cpos:Pos):Prop where
 base:attributeBase o m X.env (eval o X.env)=eval o X.env
 few:((backTo cpos (starEach [e] X.env)).all (λx=> !x.1) && (backToKw cpos (keywordEach [] X.env)).all (λx=>x.1.isSome)
  && decide (([e]:List Expr).length+([]:List Keyword).length+(if ([]:List Keyword).isEmpty then 0 else 1)<30))=true
 line:(apos.endLine == cpos.line)=true
 trees:backTo cpos (starEach [e] X.env)=[(false,eval e X.env)]
structure M2 (X:Cx) (o:Expr) (m:Str) (apos:Pos) (e f:Expr) (cpos:Pos):Prop where
 base:attributeBase o m X.env (eval o X.env)=eval o X.env
 few:((backTo cpos (starEach [e,f] X.env)).all (λx=> !x.1) && (backToKw cpos (keywordEach [] X.env)).all (λx=>x.1.isSome)
  && decide (([e,f]:List Expr).length+([]:List Keyword).length+(if ([]:List Keyword).isEmpty then 0 else 1)<30))=true
 line:(apos.endLine == cpos.line)=true
 trees:backTo cpos (starEach [e,f] X.env)=[(false,eval e X.env),(false,eval f X.env)]
def N6 (H:Hp) (a:Addr):Prop:=(∃ kvs,Rd H a (.dK kvs))\/∃ kvs,Rd H a (.dT kvs)
theorem Iu (I:Inv X aa Z H s) (d:N6 H a) :
 s.TypeIs (.ref a) "dict"/\(∀ b,Px a=.ref b->∃ ob,s.heap.get? b=some ob/\ob.dict=none)/\(a == sysModules)=false:=by
 rcases d with ⟨kvs,e⟩ | ⟨kvs,e⟩
 ·obtain ⟨_,hd,vs,_,dd⟩:=lu I.hok e
  refine ⟨dd.typeIs,λb q=>?_,hd⟩
  cases q
  obtain ⟨ob,_,_,h1,h2,_⟩:=dd
  exact ⟨ob,h1,h2.2.1⟩
 ·obtain ⟨_,hd,xs,_,ob,es,ep,h1,h2,_⟩:=(show bf X.prog X.w H s.heap a (.dT kvs) from Aw I.hok e)
  refine ⟨⟨ob,h1,h2.1⟩,λb q=>?_,hd⟩
  cases q
  exact ⟨ob,h1,h2.2.1⟩
theorem Iv (hu:A.units+1<cLine) (I:Inv X aa Z H s) (g:ly X.K H a y o) (ry:RelV y u) (rd:RelV d r) (h:∀ w' s',Inv X aa Z H s'->RelV (o.getD d) w'->Q w' s') :
 wpAny (model X.prog X.w) A (call (.builtin "dict.get") [.ref a,u,r]) Q E s:=by
 rcases g with ⟨kvs,k,e,ey,l⟩ | ⟨kvs,k,b,e,hk,ey,eb,l⟩
 ·subst ey
  obtain ⟨z,hd,vs,rel,dd⟩:=lu I.hok e
  refine call_meetsIn Vr dd.typeIs PySem.F.entry_dict_get (PySem.F.args_dict_get_3 _ _ _) (meets_dict_get_default (bZ X.prog X.w) a (lg ry) hd r) ⟨_,dd.mapOf,h _ _ (I.tok _) ?_⟩
  rw [l]
  exact (rel.val k).getD rd
 ·subst ey
  cases (show u=Px b from ry)
  obtain ⟨z,hd,xs,rel,dd⟩:=nJ I e hk
  refine call_meetsIn Vr dd.typeIs PySem.F.entry_dict_get (PySem.F.args_dict_get_3 _ _ _) (meetsH_dict_get_default (tupleKind (bZ X.prog X.w)) a b hd r) ⟨Tj hu,k,xs,jv I eb,dd,h _ _ (I.tok _) ?_⟩
  rw [l]
  exact (rel.val k).getD rd
noncomputable def Iw (X:Cx) (td ty tx:TE):TE:=λZ H Q=>td Z H λx H1=>∃ a,x=.ref a/\N6 H1 a/\ty Z H1 λy H2=>tx Z H2 λz H3=>∃ o,ly X.K H3 a y o/\Q (o.getD z) H3
theorem AD (hu:X.A.units+1<cLine) (ho:PE X o td) (he:PE X e ty) (hf:PE X f tx) (m:M2 X o "get" apos e f cpos):PE X (.Call (.Attribute o "get" apos) [e,f] [] cpos) (Iw X td ty tx):=by
 intro aa s Z H Q I h
 refine VP m.base m.few m.line PySem.F.plainAttrs_dict Vr PySem.F.type_dict_get (bL (ho aa s Z H _ I h) λu s1 ⟨x,H1,I1,rx,a,ex,d,q1⟩=>?_)
 subst ex
 obtain rfl:u=Px a:=rx
 obtain ⟨t1,t2,_⟩:=Iu I1 d
 refine ⟨t1,t2,?_⟩
 rw [m.trees]
 refine Vo rfl (Vy (VL (bL (he aa s1 Z H1 _ I1 q1) λiv s2 ⟨y,H2,I2,ry,q2⟩ =>
  VL (bL (hf aa s2 Z H2 _ I2 q2) λfv s3 ⟨z,H3,I3,rz,ov,g,q3⟩=>Calls.spliced_nil ?_))))
 exact Iv hu I3 g ry rz λw' s4 I4 rw'=>⟨_,H3,I4,rw',q3⟩
end L2
namespace Att
open PySem PySem.W PySem.Calls PyProof.Rows
theorem jZ:∀ (ns:List Int) (vs:List Value),WellAll P h vs (ns.map WData.int)->IntsAre vs ns:=by
 intro ns
 induction ns with
 | nil =>
  intro vs w
  rw [Q8] at w
  cases w
  exact .nil
 | cons n ns ih =>
  intro vs w
  rw [Pn] at w
  cases w with
  | cons a b =>
   cases a
   exact .cons _ _ (ih _ b)
theorem yr {l:OpenLaw} (hn:l.most=some n)
 (hpre:l.row.toRowW.claim.pre args=true) (hwl:WellAll P h vals args) :
 ∃ a vs ns,vals=[Px a]/\args=[WData.list (ns.map WData.int)]/\h.get? a=some { cls:=.type "list",data:=.seq vs.toArray }/\IntsAre vs ns/\ns.length<=n:=by
 have hsh:WShape.hasAll [] args [.list .int]=true:=(pre_splitW hpre).1
 have hc:l.pre.holds [] { args:=args }=true:=(pre_splitW hpre).2
 obtain ⟨d,r,rfl,h1,h2⟩:=hasAllW_cons hsh
 obtain rfl:=hasAllW_nil h2
 obtain ⟨xs,rfl,h3⟩:=hasW_list h1
 obtain ⟨ns,rfl⟩:=items_int h3
 have hlen:ns.length<=n:=by
  unfold OpenLaw.pre at hc
  have h4:(WTm.not (.lt (.lit (.int (n:Int))) (.len (.arg 0)))).holds [] { args:=[.list (ns.map .int)] }=true:=by
   have h4:=(holds_andW hc).1
   rw [hn] at h4
   exact h4
  have h5:=condW_of h4 (w_not (w_lt w_lit (w_len_list (w_arg rfl))))
  rw [Pc] at h5
  refine Nat.le_of_not_lt λq=>?_
  have q':(n:Int)<((ns.length:Nat):Int):=by lia
  first
   | (rw [decide_eq_true q'] at h5; exact absurd h5 'd')
   | (simp at h5; lia)
 cases hwl with
 | cons w1 w2 =>
  cases w2
  cases w1 with
  | list ho hall=>exact ⟨_,_,ns,rfl,rfl,ho,jZ ns _ hall,hlen⟩
theorem yt (l:OpenLaw) (args):l.row.toRowW.claim.post args (.bool true) args=true :=
 postW_of (r:=l.row.toRowW) (X:=(true == true))
  (show WShape.has [] (.bool true) .bool=true by first | rfl | decide | simp [WShape.has,WShape.arms,WShape.armsAll])
  (show (WTm.eq .res (.lit (.bool true))).value [] { args:=args,res:=some (.bool true),after:=args }=some (.bool (true == true)) from w_eq_bool (w_res rfl) w_lit) rfl
theorem q9 {l:OpenLaw}
 (hn:l.most=some n) (hdf:d.params.defaults=[])
 (call:∀ (w:World) (s₀ s₁:Shared) (mg mb:Str->Option Value) (fa:Addr) (o:Obj) (pm cd doc:Value) (a:Addr) (vs:List Value) (ns:List Int),
   Ground q loose [] XP w s₀ mg mb s₁.heap->YP w s₁.heap ->
   s₁.heap.get? fa=some o->o.data=.func (docDef d.name d.params d.body d.scope pm cd doc)->s₁.heap.CodeRec cd d.name->mg d.name=some (.ref fa) ->
   s₁.heap.get? a=some { cls:=.type "list",data:=.seq vs.toArray }->IntsAre vs ns->ns.length<=n->s₁.gens= #[] ->
   codeAny (model l.prog w) callerA (.call (.ref fa) ⟨[.ref a],[]⟩) (λr s'=>r=.ok (.ret (.bool true))/\OldK s₁.heap s'.heap/\s'.os=s₁.os/\AllBare s'.gens) s₁) :
 WalkO q loose XP YP l.row.toRowW d [] (λf vs=>PySem.call f vs):=by
 intro w s₀ s₁ mg mb G Yzz fa o pm cd doc dV kV ho hd hcd hD hmg hg args vals as hpre hlay hrd hwl hlo
 obtain rfl:dV=.none:=Dflts.none hD hdf
 obtain rfl:kV=.none:=Dflts.noKw hD
 obtain ⟨a,vs,ns,rfl,rfl,hobj,hints,hlen⟩:=yr hn hpre hwl
 refine enter_call (TM (call w s₀ s₁ mg mb fa o pm cd doc a vs ns G Yzz ho (fd_plain hd) hcd hmg hobj hints hlen hg) λr s' hq=>?_)
 obtain ⟨rfl,h2,h3,h4⟩:=hq
 exact ⟨.inl ⟨.bool true,.bool true,[],rfl,λ_=>rfl,.bool true,yt l _,λ_=>⟨SN,λ_ hm=>(nomatch hm)⟩⟩,h2,h3,h4⟩
end Att
namespace L2
open PySem PySem.Spec PyProof.Rows
theorem nM:∀ {vs:List Value} {ns:List Int},IntsAre vs ns->Vals (ns.map V.int) vs
 | _,_,.nil=>.nil
 | _,_,.cons n t h=>.cons ⟨t,rfl⟩ (nM h)
def Iz (H:Hp):Prop:=∀ b,H b=none\/∃ o xs,H b=some (.frz o (.lst xs))
theorem AE {K:O7}
 (KX:K.In s₁.heap) (hns:s₁.heap.Ns mainGlobals mg) (hb:s₁.heap.Ns builtinsNs mb) (hbb:∀ x:Str,x≠"__name__"->mb x=bootBuiltins x) (hlim:s₁.heap.NoLimit) (hg:s₁.gens= #[])
 (ha:s₁.heap.get? a=some { cls:=.type "list",data:=.seq vs.toArray }) (hi:IntsAre vs ns) (hl:ns.length<=sizeLine) (hr:gT k callerA)
 (F:∀ base:Heap,K.In base->base.Ns mainGlobals mg->bw P w K mg base CX k fa fd [x] sp) (hbind:∀ (s:Shared) (u:Value),BindsTo s fd ⟨[u],[]⟩ [(x,u)])
 (vz:∀ H:Hp,Iz H->fZ K H a (ns.map V.int)->sp [.ref a] H (λv _=>v=.bl true) λ_ _ _=>False)
 (hCX:∀ H e s',CX [] H s₁ (λ_ _ _=>False) e s'->False) :
 codeAny (model P w) callerA (.call (.ref fa) ⟨[.ref a],[]⟩) (λr s'=>r=.ok (.ret (.bool true))/\OldK s₁.heap s'.heap/\s'.os=s₁.os/\AllBare s'.gens) s₁:=by
 have rv:=nM hi
 have lenV:=hi.length
 have core:∀ H:Hp,Iz H->fZ K H a (ns.map V.int)->ig P w H s₁.heap->(∀ b,H b≠none->b=a)->(H a≠none->K.lookup a=none) ->
  codeAny (model P w) callerA (.call (.ref fa) ⟨[.ref a],[]⟩) (λr s'=>r=.ok (.ret (.bool true))/\OldK s₁.heap s'.heap/\s'.os=s₁.os/\AllBare s'.gens) s₁:=by
  intro H hO hS hok hA hK
  have base_of:∀ {b:Addr} {o:Obj},s₁.heap.get? b=some o->H b=none->(oW s₁.heap H).get? b=some o:=λe n=>zX e n
  have noA:∀ {b:Addr} {o:Obj} {es:Array DictEntry} {ep:Nat},s₁.heap.get? b=some o->o.data=.dict es ep->H b=none:=λ{b o es ep} e d=>by
   cases q:H b with
   | none=>rfl
   | some u =>
    have e':b=a:=hA b (by rw [q]; simp)
    subst e'
    rw [ha] at e; cases e
    have d':Data.seq vs.toArray _=Data.dict es ep:=d
    cases d'
  have nsK:∀ {b:Addr} {m:Str->Option Value},s₁.heap.Ns b m->(oW s₁.heap H).Ns b m:=λ{b m} ⟨o,es,ep,e,d,r⟩=>⟨o,es,ep,base_of e (noA e d),d,r⟩
  have hKb:K.In (oW s₁.heap H):=λb o e=>base_of (KX b o e) (by
   cases q:H b with
   | none=>rfl
   | some u =>
    have e':b=a:=hA b (by rw [q]; simp)
    subst e'
    rw [hK (by rw [q]; simp)] at e; cases e)
  have hM:Mod K mg (oW s₁.heap H):=⟨hKb,nsK hns,⟨mb,nsK hb,hbb⟩,let ⟨mc,h1,h2⟩:=hlim; ⟨mc,nsK h1,h2⟩⟩
  have e0:DW P w K mg (oW s₁.heap H) callerA [] s₁ H:=⟨rfl,hM,λb o e=>DM e,Nat.le_of_eq (yd _ _),trivial,λb hb=>absurd (show b∈([]:List Addr) from hb) 'p',hok,.of_eq hg⟩
  refine TM ((F _ hKb (nsK hns)).run callerA [] s₁ H ⟨[.ref a],[]⟩ [.ref a] [.ref a] _ _ hr e0 (hbind s₁ (.ref a)) (.cons rfl .nil) (vz H hO hS)) λr s' h=>?_
  cases r with
  | error e=>exact (hCX H e s' h).elim
  | ok fl =>
   cases fl with
   | next=>exact QA h
   | brk=>exact QA h
   | cont=>exact QA h
   | ret u =>
    obtain ⟨v,H',os,bare,un,hok',r',q⟩:=h
    have q':v=.bl true:=q
    subst q'
    obtain rfl:u=RS true:=r'
    refine ⟨rfl,OldK.of_keep λb o e=>?_,os,bare⟩
    cases q:H b with
    | none=>exact un.keep b o e q (by intro z; exact absurd (show b∈([]:List Addr) from z) 'p') 'p'
    | some u =>
     rcases hO b with z | ⟨ob,xs,z⟩
     ·rw [q] at z; cases z
     ·have z2:=un.frzs b ob _ z
      obtain ⟨e1,_⟩:=hok b _ z
      obtain ⟨e2,_⟩:=hok' b _ z2
      rw [e] at e1; cases e1
      exact e2
 cases hk:K.lookup a with
 | some o =>
  have e:=KX a o hk
  rw [ha] at e
  cases e
  refine core (λ_=>none) (λ_=>.inl rfl) (.inr ⟨_,vs.toArray,_,hk,rfl,rfl,rfl,by rw [PN,lenV]; exact hl,by simpa using rv⟩) (λb u z=>by have z':(none:Option HO)=some u:=z; cases z') (λb z=>absurd rfl z) λz=>absurd rfl z
 | none =>
  refine core (λb=>if b=a then some (.frz { cls:=.type "list",data:=.seq vs.toArray } (.lst (ns.map V.int))) else none) (λb=>?_) (.inl (.inr ⟨{ cls:=.type "list",data:=.seq vs.toArray },if_pos rfl⟩)) (λb u z=>?_) (λb z=>?_) λ_=>hk
  ·by_cases hb:b=a
   ·exact .inr ⟨_,_,if_pos hb⟩
   ·exact .inl (if_neg hb)
  ·by_cases hb:b=a
   ·have z':=(if_pos hb).symm.trans z
    cases z'
    subst hb
    exact ⟨ha,by rw [Pc]; exact hl,vs,_,rv,ha⟩
   ·have z':=(if_neg hb).symm.trans z
    cases z'
  ·by_cases hb:b=a
   ·exact hb
   ·exact absurd (if_neg hb) z
noncomputable abbrev f6 {K:O7} {h:Heap} (_:K.In h):O7:=K
theorem Eg {l:PySem.W.OpenLaw} {K:Params->O7} {CX:World->Ih} {sp:World->Sp}
 (hn:l.most=some n) (hn2:n<=sizeLine) (hdf:d.params.defaults=[]) (hr:gT k callerA)
 (hY:∀ (w:World) (h:Heap),YP w h->(K w.params).In h)
 (F:∀ (w:World) (mg:Str->Option Value) (fa:Addr) (h:Heap),(K w.params).In h->h.Ns mainGlobals mg->mg d.name=some (.ref fa) ->
   ∃ fd:FuncData,(∀ (s:Shared) (u:Value),BindsTo s fd ⟨[u],[]⟩ [(x,u)]) /\
    ∀ base:Heap,(K w.params).In base->base.Ns mainGlobals mg->bw l.prog w (K w.params) mg base (CX w) k fa fd [x] (sp w))
 (vz:∀ (w:World) (H:Hp) (a:Addr) (ns:List Int),ns.length<=n->Iz H->fZ (K w.params) H a (ns.map V.int)->sp w [.ref a] H (λv _=>v=.bl true) λ_ _ _=>False)
 (hCX:∀ (w:World) (H:Hp) (s:Shared) (e:Value) (s':Shared),CX w [] H s (λ_ _ _=>False) e s'->False) :
 PySem.W.WalkO q loose XP YP l.row.toRowW d [] (λf vs=>PySem.call f vs):=by
 refine Att.q9 hn hdf λw s₀ s₁ mg mb fa o pm cd doc a vs ns G Yzz ho hd hcd hmg hobj hints hlen hg=>?_
 have KX:=hY w _ Yzz
 obtain ⟨fd,hb,hF⟩:=F w mg fa _ KX G.T.g hmg
 exact AE KX G.T.g G.T.b G.T.builtins G.T.nolimit hg hobj hints (Pj hlen hn2) hr hF hb (λH hO hS=>vz w H a ns hlen hO hS) λH e s'=>hCX w H s₁ e s'
end L2
namespace L2
open PySem PySem.Spec PyProof.Rows
noncomputable def eG (s:Stmt):Arguments:=match s with
 | .FunctionDef _ a _ _ _ _ _ _ _ _=>a
 | _=>{ posonlyargs:=[],args:=[],vararg:=none,kwonlyargs:=[],kw_defaults:=[],kwarg:=none,defaults:=[] }
noncomputable def ay (s:Stmt):List Stmt:=match s with
 | .FunctionDef _ _ b _ _ _ _ _ _ _=>b
 | _=>[]
noncomputable def aH (s:Stmt):Scope:=match s with
 | .FunctionDef _ _ _ _ _ _ sc _ _ _=>sc
 | _=>{ kind:=.function,names:=[],isGenerator:=false,isCoroutine:=false }
structure d9 (K:O7) (x qual:Str) (st:Stmt) (f:Addr) (fd:FuncData):Prop where
 ex:∃ (oc:Value) (od:Option Addr) (kV doc pm:Value) (an:Option Addr) (cdv ct:Value) (osl:Array (Option Value)),
  fd=Rn x qual (eG st) (ay st) (aH st) .none kV doc pm an cdv ct/\K.lookup f=some ⟨oc,od,.func fd,osl⟩/\UI K cdv qual=true
 kp:Rk K (.ref f)=true
section
variable {K:O7}
theorem d9.binds {st:Stmt} (F:d9 K x qual st f fd)
 (h:∀ (kV doc pm:Value) (an:Option Addr) (cdv ct:Value) (us:List Value),us.length=ps.length->bindArgs (Rn x qual (eG st) (ay st) (aH st) .none kV doc pm an cdv ct) ⟨us,[]⟩=pure (ps.zip us)):Binds K fd ps []:=by
 obtain ⟨oc,od,kV,doc,pm,an,cdv,ct,osl,rfl,lk,hcd⟩:=F.ex
 exact .all (h kV doc pm an cdv ct)
theorem IB {st:Stmt} {kV doc pm cdv ct:Value} (l:K.lookup f=some ⟨oc,od,.func (Rn x qual (eG st) (ay st) (aH st) .none kV doc pm an cdv ct),osl⟩)
 (c:UI K cdv qual=true) (k:Rk K (.ref f)=true):d9 K x qual st f (Rn x qual (eG st) (ay st) (aH st) .none kV doc pm an cdv ct):=⟨⟨oc,od,kV,doc,pm,an,cdv,ct,osl,rfl,l,c⟩,k⟩
end
theorem Lv (hr:gT k A):A.units+1<cLine:=R4 (Nat.add_le_add_left (by decide:1<=64) _) hr.units
theorem yu (h:n<=1000):n<sizeLine:=R4 h 'd'
def aL (H H':Hp):Prop:=∀ b o,H b=some o->H' b=some o
theorem aL.refl (H):aL H H:=λ_ _ h=>h
theorem aL.trans (a:aL H H1) (b:aL H1 H2):aL H H2:=λc o h=>b c o (a c o h)
theorem aL.free (e:aL H H') (h:H' l=Option.none):H l=Option.none:=by
 cases q:H l with
 | none=>rfl
 | some o =>
  rw [e l o q] at h
  cases h
theorem aL.seq {K:O7} (e:aL H H') (h:fZ K H a xs):fZ K H' a xs:=by
 rcases h with (h | ⟨o,h⟩) | h
 ·exact .inl (.inl (e _ _ h))
 ·exact .inl (.inr ⟨o,e _ _ h⟩)
 ·exact .inr h
section
variable {U:Type} [DecidableEq U]
end
end L2
namespace EV
open PySem PySem.Spec PyProof.Rows L2
inductive D where
 | non | bl (b:Bool) | int (i:Int) | str (x:Str) | tup (ds:List D) | lst (ds:List D) | exc (C:Addr)
 | fdK (ks:List Key) (ds:List D) | fdT (ks:List (List Key)) (ds:List D) | adr (a:Addr)
noncomputable def fh (a C:Addr):Heap->Prop:=λh=>∃ o,h.get? a=some o/\o.cls=.ref C/\∃ vs,o.data=.fields vs
mutual
def Rep (K:O7) (H:Hp):D->V->Prop
 | .non,v=>v=.non
 | .bl b,v=>v=.bl b
 | .int i,v=>v=.int i
 | .str x,v=>v=.str x
 | .tup ds,v=>∃ a xs,v=.ref a/\c9 K H a xs/\ak K H ds xs
 | .lst ds,v=>∃ a xs,v=.ref a/\fZ K H a xs/\ak K H ds xs
 | .exc C,v=>∃ a,v=.ref a/\H a=some (.ext (fh a C))
 | .fdK ks ds,v=>∃ a ys o,v=.ref a/\H a=some (.frz o (.dK ys))/\ys.map (·.1)=ks/\ak K H ds (ys.map (·.2))
 | .fdT ks ds,v=>∃ a ys o,v=.ref a/\H a=some (.frz o (.dT ys))/\ys.map (·.1)=ks/\(∀ y∈ys,c9 K H y.2.1 (y.1.map kV))/\ak K H ds (ys.map (·.2.2))
 | .adr a,v=>v=.ref a
def ak (K:O7) (H:Hp):List D->List V->Prop
 | [],xs=>xs=[]
 | d::ds,xs=>∃ x r,xs=x::r/\Rep K H d x/\ak K H ds r
end
theorem az {K:O7} (e:aL H H') (h:c9 K H a xs):c9 K H' a xs:=by
 rcases h with (h | ⟨o,h⟩) | h
 ·exact .inl (.inl (e _ _ h))
 ·exact .inl (.inr ⟨o,e _ _ h⟩)
 ·exact .inr h
mutual
theorem Rep.mono {K:O7} {H H':Hp} (e:aL H H'):∀ (d:D) {v:V},Rep K H d v->Rep K H' d v
 | .non,_,h=>by simpa [Rep] using h
 | .bl b,_,h=>by simpa [Rep] using h
 | .int i,_,h=>by simpa [Rep] using h
 | .str x,_,h=>by simpa [Rep] using h
 | .tup ds,_,h=>by
  simp only [Rep] at h |-
  obtain ⟨a,xs,e1,h1,h2⟩:=h
  exact ⟨a,xs,e1,az e h1,ak.mono e ds h2⟩
 | .lst ds,_,h=>by
  simp only [Rep] at h |-
  obtain ⟨a,xs,e1,h1,h2⟩:=h
  exact ⟨a,xs,e1,e.seq h1,ak.mono e ds h2⟩
 | .exc C,_,h=>by
  simp only [Rep] at h |-
  obtain ⟨a,e1,h1⟩:=h
  exact ⟨a,e1,e _ _ h1⟩
 | .fdK ks ds,_,h=>by
  simp only [Rep] at h |-
  obtain ⟨a,ys,o,e1,h1,h2,h3⟩:=h
  exact ⟨a,ys,o,e1,e _ _ h1,h2,ak.mono e ds h3⟩
 | .fdT ks ds,_,h=>by
  simp only [Rep] at h |-
  obtain ⟨a,ys,o,e1,h1,h2,h3,h4⟩:=h
  exact ⟨a,ys,o,e1,e _ _ h1,h2,λy hy=>az e (h3 y hy),ak.mono e ds h4⟩
 | .adr a,_,h=>by simpa [Rep] using h
theorem ak.mono {K:O7} {H H':Hp} (e:aL H H'):∀ (ds:List D) {xs:List V},ak K H ds xs->ak K H' ds xs
 | [],_,h=>by simpa [ak] using h
 | d::ds,_,h=>by
  simp only [ak] at h |-
  obtain ⟨x,r,e1,h1,h2⟩:=h
  exact ⟨x,r,e1,Rep.mono e d h1,ak.mono e ds h2⟩
end
section
variable {K:O7}
theorem au:Rep K H (.int i) v↔v=.int i:=by simp only [Rep]
theorem cG:Rep K H (.bl i) v↔v=.bl i:=by simp only [Rep]
theorem bM:Rep K H .non v↔v=.non:=by simp only [Rep]
theorem c8:Rep K H (.str i) v↔v=.str i:=by simp only [Rep]
theorem aI:Rep K H (.tup ds) v↔∃ a xs,v=.ref a/\c9 K H a xs/\ak K H ds xs:=by simp only [Rep]
theorem bh:Rep K H (.lst ds) v↔∃ a xs,v=.ref a/\fZ K H a xs/\ak K H ds xs:=by simp only [Rep]
theorem fO:Rep K H (.fdK ks ds) v↔∃ a ys o,v=.ref a/\H a=some (.frz o (.dK ys))/\ys.map (·.1)=ks/\ak K H ds (ys.map (·.2)):=by simp only [Rep]
theorem kh:Rep K H (.fdT ks ds) v↔∃ a ys o,v=.ref a/\H a=some (.frz o (.dT ys))/\ys.map (·.1)=ks/\(∀ y∈ys,c9 K H y.2.1 (y.1.map kV))/\ak K H ds (ys.map (·.2.2)):=by simp only [Rep]
theorem AF:Rep K H (.adr a) v↔v=.ref a:=by simp only [Rep]
theorem ki:Rep K H (.exc C) v↔∃ a,v=.ref a/\H a=some (.ext (fh a C)):=by simp only [Rep]
theorem aA:ak K H [] xs↔xs=[]:=by simp only [ak]
theorem aF:ak K H (d::ds) xs↔∃ x r,xs=x::r/\Rep K H d x/\ak K H ds r:=by simp only [ak]
theorem ak.length:∀ {ds:List D} {xs:List V},ak K H ds xs->ds.length=xs.length
 | [],_,h=>by rw [aA] at h; subst h; rfl
 | d::ds,_,h=>by
  rw [aF] at h
  obtain ⟨x,r,rfl,_,h2⟩:=h
  simp [ak.length h2]
theorem ak.get:∀ {ds:List D} {xs:List V} {i:Nat} {d:D},ak K H ds xs->ds[i]?=some d->∃ x,xs[i]?=some x/\Rep K H d x
 | [],_,_,_,_,e=>by simp at e
 | d::ds,_,i,d',h,e=>by
  rw [aF] at h
  obtain ⟨x,r,rfl,h1,h2⟩:=h
  cases i with
  | zero=>simp at e; subst e; exact ⟨x,by simp,h1⟩
  | succ i =>
   obtain ⟨y,e2,h3⟩:=ak.get (i:=i) (d:=d') h2 (by simpa using e)
   exact ⟨y,by simpa using e2,h3⟩
theorem ak.get':∀ {ds:List D} {xs:List V} {i:Nat} {x:V},ak K H ds xs->xs[i]?=some x->∃ d,ds[i]?=some d/\Rep K H d x:=λ{ds xs i x} h e=>by
 have hl:=h.length
 have hi:i<xs.length:=(Po.mp e).1
 obtain ⟨y,e2,h2⟩:=h.get (i:=i) (d:=ds[i]'(by lia)) 'p'
 rw [e] at e2; cases e2
 exact ⟨_,by simp,h2⟩
theorem ak.append:∀ {ds es:List D} {xs ys:List V},ak K H ds xs->ak K H es ys->ak K H (ds++es) (xs++ys)
 | [],_,_,_,h,g=>by rw [aA] at h; subst h; exact g
 | d::ds,_,_,_,h,g=>by
  rw [aF] at h
  obtain ⟨x,r,rfl,h1,h2⟩:=h
  exact aF.mpr ⟨x,r++_,rfl,h1,ak.append h2 g⟩
theorem ak.drop:∀ (n:Nat) {ds:List D} {xs:List V},ak K H ds xs->ak K H (ds.drop n) (xs.drop n)
 | 0,_,_,h=>h
 | n+1,[],_,h=>by rw [aA] at h; subst h; exact aA.mpr rfl
 | n+1,d::ds,_,h=>by
  rw [aF] at h
  obtain ⟨x,r,rfl,h1,h2⟩:=h
  exact ak.drop n h2
theorem ak.take:∀ (n:Nat) {ds:List D} {xs:List V},ak K H ds xs->ak K H (ds.take n) (xs.take n)
 | 0,_,_,h=>aA.mpr rfl
 | n+1,[],_,h=>by rw [aA] at h; subst h; exact aA.mpr rfl
 | n+1,d::ds,_,h=>by
  rw [aF] at h
  obtain ⟨x,r,rfl,h1,h2⟩:=h
  exact aF.mpr ⟨x,r.take n,rfl,h1,ak.take n h2⟩
theorem ak.dropLast (h:ak K H ds xs):ak K H ds.dropLast xs.dropLast:=by
 rw [List.dropLast_eq_take,List.dropLast_eq_take,h.length]; exact h.take _
theorem ak.one (h:Rep K H d v):ak K H [d] [v]:=aF.mpr ⟨v,[],rfl,h,aA.mpr rfl⟩
theorem ak.cons (h:Rep K H d v) (t:ak K H ds xs):ak K H (d::ds) (v::xs):=aF.mpr ⟨v,xs,rfl,h,t⟩
theorem nN:∀ (ns:List Int),ak K H (ns.map D.int) (ns.map V.int)
 | []=>aA.mpr rfl
 | n::ns=>.cons (au.mpr rfl) (nN ns)
end
inductive Sh where
 | v (d:D) | l (ds:List D) | la (a:Addr) (ds:List D) | t (ss:List Sh) | ls (ss:List Sh)
noncomputable def pl (p:Addr) (xs:List V):HO:=.ext λh=>xs.length<=sizeLine/\∃ (its:List Value) (n:Nat),Vals xs its/\h.get? p=some { cls:=.type "list",data:=.seq its.toArray n }
mutual
def cZ (K:O7) (H Hf:Hp):Sh->V->List (Addr×List V)->Prop
 | .v d,v,fp=>Rep K Hf d v/\fp=[]
 | .l ds,v,fp=>∃ p xs,v=.ref p/\H p=some (pl p xs)/\Hf p=none/\ak K Hf ds xs/\fp=[(p,xs)]
 | .la p ds,v,fp=>∃ xs,v=.ref p/\H p=some (pl p xs)/\Hf p=none/\ak K Hf ds xs/\fp=[(p,xs)]
 | .t ss,v,fp=>∃ a xs,v=.ref a/\c9 K Hf a xs/\aZ K H Hf ss xs fp
 | .ls ss,v,fp=>∃ p xs fq,v=.ref p/\H p=some (pl p xs)/\Hf p=none/\aZ K H Hf ss xs fq/\fp=(p,xs)::fq
def aZ (K:O7) (H Hf:Hp):List Sh->List V->List (Addr×List V)->Prop
 | [],xs,fp=>xs=[]/\fp=[]
 | s::ss,xs,fp=>∃ x r f1 f2,xs=x::r/\cZ K H Hf s x f1/\aZ K H Hf ss r f2/\fp=f1++f2
end
def AG (H:Hp) (q:Addr):Prop:=∃ xs,H q=some (pl q xs)
mutual
theorem cZ.mv {K:O7} {H Hf H' aj:Hp} (sf:aL Hf aj):∀ (s:Sh) {v:V} {fp:List (Addr×List V)},(∀ q∈fp,H q.1=some (pl q.1 q.2)->Hf q.1=none->H' q.1=some (pl q.1 q.2)/\aj q.1=none)->cZ K H Hf s v fp->cZ K H' aj s v fp
 | .v d,_,_,_,h=>by simp only [cZ] at h |-; exact ⟨h.1.mono sf d,h.2⟩
 | .l ds,_,_,hk,h=>by
  simp only [cZ] at h |-
  obtain ⟨p,xs,e,h1,h2,h3,rfl⟩:=h
  obtain ⟨q1,q2⟩:=hk _ Pd h1 h2
  exact ⟨p,xs,e,q1,q2,h3.mono sf ds,rfl⟩
 | .la p ds,_,_,hk,h=>by
  simp only [cZ] at h |-
  obtain ⟨xs,e,h1,h2,h3,rfl⟩:=h
  obtain ⟨q1,q2⟩:=hk _ Pd h1 h2
  exact ⟨xs,e,q1,q2,h3.mono sf ds,rfl⟩
 | .t ss,_,_,hk,h=>by
  simp only [cZ] at h |-
  obtain ⟨a,xs,e,h1,h2⟩:=h
  exact ⟨a,xs,e,az sf h1,aZ.mv sf ss hk h2⟩
 | .ls ss,_,_,hk,h=>by
  simp only [cZ] at h |-
  obtain ⟨p,xs,fq,e,h1,h2,h3,rfl⟩:=h
  obtain ⟨q1,q2⟩:=hk _ Pd h1 h2
  exact ⟨p,xs,fq,e,q1,q2,aZ.mv sf ss (λq hq=>hk q (Ph _ hq)) h3,rfl⟩
theorem aZ.mv {K:O7} {H Hf H' aj:Hp} (sf:aL Hf aj):∀ (ss:List Sh) {xs:List V} {fp:List (Addr×List V)},(∀ q∈fp,H q.1=some (pl q.1 q.2)->Hf q.1=none->H' q.1=some (pl q.1 q.2)/\aj q.1=none)->aZ K H Hf ss xs fp->aZ K H' aj ss xs fp
 | [],_,_,_,h=>by simpa only [aZ] using h
 | s::ss,_,_,hk,h=>by
  simp only [aZ] at h |-
  obtain ⟨x,r,f1,f2,e,h1,h2,rfl⟩:=h
  exact ⟨x,r,f1,f2,e,cZ.mv sf s (λq hq=>hk q (QF _ hq)) h1,aZ.mv sf ss (λq hq=>hk q (QE _ hq)) h2,rfl⟩
end
inductive Sl where
 | un
 | va (d:D)
 | ow (ds:List D)
 | oT (kvs:List (List Key×D))
 | oK (kvs:List (Key×D))
 | aw (a:Addr) (ds:List D)
 | aT (a:Addr) (kvs:List (List Key×D))
 | aK (a:Addr) (kvs:List (Key×D))
 | fo (s:Sh)
noncomputable def ir (K:O7) (H:Hp) {U:Type}:List (U×D)->List (U×V)->Prop:=Paired λa b=>a.1=b.1/\Rep K H a.2 b.2
theorem ir.mono {K:O7} (e:aL H H') (h:ir K H ks xs):ir K H' ks xs :=
 Paired.HD h λa b z=>⟨z.1,Rep.mono e _ z.2⟩
noncomputable def mX (K:O7) (H:Hp):List (List Key×D)->List (List Key×Addr×V)->Prop:=Paired λa b=>a.1=b.1/\c9 K H b.2.1 (a.1.map kV)/\Rep K H a.2 b.2.2
theorem mX.mono {K:O7} (e:aL H H') (h:mX K H ks xs):mX K H' ks xs :=
 Paired.HD h λa b z=>⟨z.1,az e z.2.1,Rep.mono e _ z.2.2⟩
noncomputable def bx (K:O7) (fr:Addr->Prop) (H Hf:Hp):Sl->V->Prop
 | .un,_=>False
 | .va d,v=>Rep K Hf d v
 | .ow ds,v=>∃ p xs,v=.ref p/\fr p/\H p=some (.lst xs)/\Hf p=none/\ak K Hf ds xs
 | .oT kvs,v=>∃ p xs,v=.ref p/\fr p/\H p=some (.dT xs)/\Hf p=none/\mX K Hf kvs xs
 | .oK kvs,v=>∃ p xs,v=.ref p/\fr p/\H p=some (.dK xs)/\Hf p=none/\ir K Hf kvs xs
 | .aw a ds,v=>∃ p xs,v=.ref p/\(fr p/\p=a)/\H p=some (.lst xs)/\Hf p=none/\ak K Hf ds xs
 | .aT a kvs,v=>∃ p xs,v=.ref p/\(fr p/\p=a)/\H p=some (.dT xs)/\Hf p=none/\mX K Hf kvs xs
 | .aK a kvs,v=>∃ p xs,v=.ref p/\(fr p/\p=a)/\H p=some (.dK xs)/\Hf p=none/\ir K Hf kvs xs
 | .fo s,v=>∃ fp,cZ K H Hf s v fp/\(fp.map (·.1)).Nodup/\∀ a∈fp,fr a.1
noncomputable def Sl.owned:Sl->Bool
 | .ow _=>true | .oT _=>true | .oK _=>true | .aw _ _=>true | .aT _ _=>true | .aK _ _=>true | _=>false
structure bz (H Hf H' aj:Hp):Prop where
 s:aL H H'
 f:aL Hf aj
 b:aL aj H'
 n:∀ b,Hf b=none->H b≠none->(∀ xs,H b≠some (.tup xs))->aj b=none
theorem bz.refl (b:aL Hf H):bz H Hf H Hf:=⟨.refl _,.refl _,b,λ_ h _ _=>h⟩
theorem bz.trans (a:bz H Hf H1 aP) (b:bz H1 aP H2 cL):bz H Hf H2 cL :=
 ⟨a.s.trans b.s,a.f.trans b.f,b.b,λc h1 h2 h3=>by
   cases q:H c with
   | none=>exact absurd q h2
   | some o =>
    have e:=a.s c o q
    exact b.n c (a.n c h1 h2 h3) (by rw [e]; simp) (by intro xs; rw [e,<- q]; exact h3 xs)⟩
theorem bz.new (b:aL Hf H) (hp:H p=none):bz H Hf (upd H p o) (upd Hf p o):=by
 have hf:Hf p=none:=b.free hp
 refine ⟨λc u h=>?_,λc u h=>?_,λc u h=>?_,λc h1 h2 _=>?_⟩
 ·rw [ai (aq h hp)]; exact h
 ·rw [ai (aq h hf)]; exact h
 ·by_cases e:c=p
  ·subst e; rw [ah] at h |-; exact h
  ·rw [ai e] at h |-; exact b c u h
 ·by_cases e:c=p
  ·subst e; exact absurd hp h2
  ·rw [ai e]; exact h1
theorem bz.f7 (b:aL Hf H) (hp:H p=none):bz H Hf (upd H p o) Hf :=
 ⟨(bz.new b hp (o:=o)).s,.refl _,λc u h=>(bz.new b hp (o:=o)).s c u (b c u h),λ_ h _ _=>h⟩
inductive At {α:Type}:List α->Nat->α->Prop where
 | z {x:α} {l:List α}:At (x::l) 0 x
 | s {x y:α} {l:List α} {i:Nat}:At l i x->At (y::l) (i+1) x
theorem At.get (h:At l i x):l[i]?=some x:=by
 induction h with
 | z=>rfl
 | s _ ih=>simpa using ih
theorem At.mem (h:At l i x):x∈l:=Rg h.get
inductive SSet {α:Type}:List α->Nat->α->List α->Prop where
 | z {x r:α} {l:List α}:SSet (x::l) 0 r (r::l)
 | s {r y:α} {l l':List α} {i:Nat}:SSet l i r l'->SSet (y::l) (i+1) r (y::l')
theorem SSet.eq (h:SSet l i r l'):l'=l.set i r:=by
 induction h with
 | z=>rfl
 | s _ ih=>simp [ih]
structure dN (K:O7) (H₀ fc:Hp) (Z:L2.St) (H Hf:Hp) (Y:List Sl):Prop where
 bas:bz H₀ fc H Hf
 len:Z.length=Y.length
 at_:∀ (i:Nat) (r:Sl),Y[i]?=some r->r≠.un->∃ v,Z[i]?=some (some v)/\bx K (λp=>H₀ p=none) H Hf r v
 sep:∀ (i j:Nat) (r r':Sl) (p:Addr),i≠j->Y[i]?=some r->Y[j]?=some r'->r.owned=true->r'.owned=true->Z[i]?=some (some (.ref p))->Z[j]?≠some (some (.ref p))
structure Eh (P:Program) (w:World) (outer:List Env) (H:Hp) (s:Shared) (a C:Addr) (H':Hp) (s':Shared):Prop where
 os:s'.os=s.os
 bare:AllBare s'.gens
 un:Un (frs outer) [] H H' s.heap s'.heap
 hok:ig P w H' s'.heap
 new:s.heap.get? a=none
 free:H' a=none
 fly:∃ (t:Addr) (B:Heap),TV B outer a (.ref C) (.ref t) s'.heap/\(∀ b o,s.heap.get? b=some o->b∉frs outer->∃ o',s'.heap.get? b=some o'/\B.get? b=some o') /\
  ∀ b o,H' b≠none->s'.heap.get? b=some o->B.get? b=some o
noncomputable def cN (P:Program) (w:World):Ih:=λouter H s E e s'=>∃ a C H',e=.ref a/\Eh P w outer H s a C H' s'/\E (.ref C) (some a) H'
set_option genInjectivity false in
structure Ctx (P:Program) (w:World) (K:O7) (mg:Str->Option Value) (base:Heap) (k:Nat) (N:List Str) (sc:Scope) (bk:Bool) where
 X:Cx
 eP:X.prog=P
 ew:X.w=w
 eK:X.K=K
 emg:X.mg=mg
 eb:X.base=base
 eN:X.N=N
 esc:X.env.scope=sc
 calm:X.calm=true
 top:bk=false->X.stack=X.env::X.outer/\X.env.frame=some X.env.locals/\X.ex=[]
 cb:bk=false->∀ (aa:List (Addr×Obj)) (Z:L2.St) (H:Hp) (s:Shared),Inv X aa Z H s->∀ (x:Str) (c:Addr),X.env.cells.lookup x=some c->X.s₀.heap.objs.size<=c
 fn:∀ x,bk=false\/sc.names.lookup x=some .local->X.fn x=true\/X.env.scope.names.lookup x=some .local
 room:gT k X.A
 nd:N.Nodup
 vis:∀ x∈N,Loc sc x
 Hf:Hp
 B:Hp
 RX:Addr->List Sl->Prop
 exc:∀ (C a:Addr) (aa:List (Addr×Obj)) (Z:L2.St) (H aj:Hp) (Y:List Sl) (s:Shared) (H':Hp) (s':Shared),Inv X aa Z H s->dN X.K B Hf Z H aj Y->RX C Y->Eh X.prog X.w X.stack H s a C H' s'->aL H H'->X.xe (.ref a) s'
 RM:Addr->List Sl->Prop
 mde:∀ (C a:Addr) (aa:List (Addr×Obj)) (Z:L2.St) (H aj:Hp) (Y:List Sl) (s:Shared) (h':Heap) (us:List Value),Inv X aa Z H s->dN X.K B Hf Z H aj Y->RM C Y->Heap.MadeExcOf s.heap h' a (.ref C) us->X.xe (.ref a) { s with heap:=h' }
noncomputable def Sl.N7:Sl->Bool | .fo _=>true | _=>false
abbrev qL {α:Type} (fr:Addr->Prop) (H Hf:Hp) (o:α->HO) (R:α->Prop) (v:V):Prop:=∃ (p:Addr) (xs:α),v=.ref p/\fr p/\H p=some (o xs)/\Hf p=none/\R xs
theorem qL.KS (h:qL fr H Hf o R v) (hk:∀ p,v=.ref p->∀ u,(∀ ys,u≠.tup ys)->H p=some u->Hf p=none->H' p=some u/\aj p=none) (ho:∀ xs ys,o xs≠.tup ys) (hR:∀ xs,R xs->R' xs):qL fr H' aj o R' v:=by
 obtain ⟨p,xs,e,f,h1,h2,h3⟩:=h
 exact ⟨p,xs,e,f,(hk p e _ (ho xs) h1 h2).1,(hk p e _ (ho xs) h1 h2).2,hR xs h3⟩
theorem qL.KU (h:qL fr H Hf o R v) (hf:∀ p,fr p->fr' p):qL fr' H Hf o R v :=
 let ⟨p,xs,e,f,h⟩:=h; ⟨p,xs,e,hf p f,h⟩
theorem bx.mv {K:O7} {B:Addr->Prop} (sf:aL Hf aj) (hk:∀ q o,¬ B q->H q=some o->(∀ xs,o≠.tup xs)->Hf q=none->H' q=some o/\aj q=none):∀ {r:Sl} {v:V},
 (r.N7=true->∀ q,B q->¬ AG H q)->(r.owned=true->∀ q,v=.ref q->¬ B q)->bx K fr H Hf r v->bx K fr H' aj r v
 | .un,_,_,_,h=>h
 | .va d,_,_,_,h=>Rep.mono sf d h
 | .ow ds,_,_,hv,h=>qL.KS h (λp e o z ho hf=>hk p o (hv rfl p e) ho z hf) (λ_ _ z=>by cases z) λ_ h=>h.mono sf
 | .oT kvs,_,_,hv,h=>qL.KS h (λp e o z ho hf=>hk p o (hv rfl p e) ho z hf) (λ_ _ z=>by cases z) λ_ h=>h.mono sf
 | .oK kvs,_,_,hv,h=>qL.KS h (λp e o z ho hf=>hk p o (hv rfl p e) ho z hf) (λ_ _ z=>by cases z) λ_ h=>h.mono sf
 | .aw a ds,_,_,hv,h=>qL.KS h (λp e o z ho hf=>hk p o (hv rfl p e) ho z hf) (λ_ _ z=>by cases z) λ_ h=>h.mono sf
 | .aT a kvs,_,_,hv,h=>qL.KS h (λp e o z ho hf=>hk p o (hv rfl p e) ho z hf) (λ_ _ z=>by cases z) λ_ h=>h.mono sf
 | .aK a kvs,_,_,hv,h=>qL.KS h (λp e o z ho hf=>hk p o (hv rfl p e) ho z hf) (λ_ _ z=>by cases z) λ_ h=>h.mono sf
 | .fo s,_,hB,_,⟨fp,h1,h2,h3⟩=>⟨fp,cZ.mv sf s (λq _ e1 e2=>hk q.1 _ (λb=>hB rfl q.1 b ⟨q.2,e1⟩) e1 (by intro ys z; cases z) e2) h1,h2,h3⟩
theorem bx.cD {K:O7} (g:bz H Hf H' aj) (h:bx K fr H Hf r v):bx K fr H' aj r v :=
 bx.mv (B:=λ_=>False) g.f (λq o _ e1 e2 e3=>⟨g.s _ _ e1,g.n q e3 (by rw [e1]; simp) λxs z=>e2 xs (by rw [e1] at z; exact QU z)⟩) (λ_ _ z=>z.elim) (λ_ _ _ z=>z) h
theorem bx.weak {K:O7} (hf:∀ p,fr p->fr' p):∀ {r:Sl} {v:V},bx K fr H Hf r v->bx K fr' H Hf r v
 | .un,_,h=>h
 | .va d,_,h=>h
 | .ow ds,_,h=>qL.KU h hf
 | .oT ds,_,h=>qL.KU h hf
 | .oK ds,_,h=>qL.KU h hf
 | .aw a ds,_,h=>qL.KU h λp f=>⟨hf p f.1,f.2⟩
 | .aT a ds,_,h=>qL.KU h λp f=>⟨hf p f.1,f.2⟩
 | .aK a ds,_,h=>qL.KU h λp f=>⟨hf p f.1,f.2⟩
 | .fo s,_,⟨fp,h1,h2,h3⟩=>⟨fp,h1,h2,λa ha=>hf _ (h3 a ha)⟩
section
variable {K:O7}
def Ctx.fr (c:Ctx P w K mg base k N sc bk) (p:Addr):Prop:=c.B p=none
abbrev bK (c:Ctx P w K mg base k N sc bk) (Z:L2.St) (H Hf:Hp) (Y:List Sl):Prop:=dN c.X.K c.B c.Hf Z H Hf Y
theorem dN.cD (S:dN K H₀ fc Z H Hf Y) (g:bz H Hf H' aj):dN K H₀ fc Z H' aj Y :=
 ⟨S.bas.trans g,S.len,λi r h hr=>let ⟨v,e,q⟩:=S.at_ i r h hr; ⟨v,e,q.cD g⟩,S.sep⟩
theorem dN.sb (S:dN K H₀ fc Z H Hf Y):aL Hf H:=S.bas.b
theorem dN.va (S:dN K H₀ fc Z H Hf Y) {i:Nat} (h:Y[i]?=some (.va d)):∃ v,Z[i]?=some (some v)/\Rep K Hf d v:=S.at_ i _ h 'p'
theorem dN.set (S:dN K H₀ fc Z H Hf Y) (g:bz H Hf H1 aP) (hr:bx K (λp=>H p=none) H1 aP r v) :
 dN K H₀ fc (Z.set i (some v)) H1 aP (Y.set i r):=by
 have S1:=S.cD g
 have fr0:∀ p,H p=none->H₀ p=none:=λp h=>S.bas.s.free h
 have fresh:∀ p,r.owned=true->v=.ref p->H p=none:=λp ho e=>by
  subst e
  cases r with
  | un=>cases ho
  | va d=>cases ho
  | ow ds=>obtain ⟨p',xs,e,h,_⟩:=hr; cases e; exact h
  | oT ds=>obtain ⟨p',xs,e,h,_⟩:=hr; cases e; exact h
  | oK ds=>obtain ⟨p',xs,e,h,_⟩:=hr; cases e; exact h
  | aw a ds=>obtain ⟨p',xs,e,h,_⟩:=hr; cases e; exact h.1
  | aT a ds=>obtain ⟨p',xs,e,h,_⟩:=hr; cases e; exact h.1
  | aK a ds=>obtain ⟨p',xs,e,h,_⟩:=hr; cases e; exact h.1
  | fo s=>cases ho
 have old:∀ (j:Nat) (r':Sl) (p:Addr),Y[j]?=some r'->r'.owned=true->Z[j]?=some (some (.ref p))->H p≠none:=λj r' p h ho hs=>by
  obtain ⟨v',e,q⟩:=S.at_ j r' h (by rintro rfl; cases ho)
  rw [hs] at e; cases e
  cases r' with
  | un=>cases ho
  | va d=>cases ho
  | ow ds=>obtain ⟨p',xs,e,_,h,_⟩:=q; cases e; rw [h]; simp
  | oT ds=>obtain ⟨p',xs,e,_,h,_⟩:=q; cases e; rw [h]; simp
  | oK ds=>obtain ⟨p',xs,e,_,h,_⟩:=q; cases e; rw [h]; simp
  | aw a ds=>obtain ⟨p',xs,e,_,h,_⟩:=q; cases e; rw [h]; simp
  | aT a ds=>obtain ⟨p',xs,e,_,h,_⟩:=q; cases e; rw [h]; simp
  | aK a ds=>obtain ⟨p',xs,e,_,h,_⟩:=q; cases e; rw [h]; simp
  | fo s=>cases ho
 refine ⟨S1.bas,by simp [S.len],λj r' hj hu=>?_,λj j' r1 r2 p hne h1 h2 o1 o2 e1 e2=>?_⟩
 ·by_cases q:j=i
  ·subst q
   have hi:j<Y.length:=by
    have:=(Po.mp hj).1
    simpa using this
   rw [Qu hi] at hj; cases hj
   exact ⟨v,Qu (by rw [S.len]; exact hi),hr.weak fr0⟩
  ·rw [Ql (Py q)] at hj |-
   exact S1.at_ j r' hj hu
 ·have hlt:∀ {j:Nat} {r:Sl},(Y.set i r)[j]?=some r->j<Y.length:=λ{j r} h=>by
   have:=(Po.mp h).1
   simpa using this
  by_cases q1:j=i
  ·subst q1
   have hi:j<Y.length:=by have:=(Po.mp h1).1; simpa using this
   rw [Qu hi] at h1; cases h1
   rw [Qu (by rw [S.len]; exact hi)] at e1
   rw [Ql hne] at h2 e2
   exact old j' r2 p h2 o2 e2 (fresh p o1 (by simpa using e1))
  ·by_cases q2:j'=i
   ·subst q2
    have hi:j'<Y.length:=by have:=(Po.mp h2).1; simpa using this
    rw [Qu hi] at h2; cases h2
    rw [Qu (by rw [S.len]; exact hi)] at e2
    rw [Ql (Py hne)] at h1 e1
    exact old j r1 p h1 o1 e1 (fresh p o2 (by simpa using e2))
   ·rw [Ql (Py q1)] at h1 e1
    rw [Ql (Py q2)] at h2 e2
    exact S.sep j j' r1 r2 p hne h1 h2 o1 o2 e1 e2
theorem dN.weak (S:dN K H₀ fc Z H Hf Y) (hl:Y'.length=Y.length) (h:∀ (i:Nat) (r:Sl),Y'[i]?=some r->r≠.un->Y[i]?=some r):dN K H₀ fc Z H Hf Y' :=
 ⟨S.bas,by rw [S.len,hl],λi r e hu=>S.at_ i r (h i r e hu) hu,λi j r r' p hne h1 h2 o1 o2=>S.sep i j r r' p hne (h i r h1 (by rintro rfl; cases o1)) (h j r' h2 (by rintro rfl; cases o2)) o1 o2⟩
end
section
variable {P:Program} {w:World} {K:O7} {mg:Str->Option Value} {base:Heap} {k:Nat} {N:List Str} {sc:Scope} {bk:Bool}
noncomputable def bE (X:Cx) (e:Expr):TE:=λZ H Q=>∀ aa s,Inv X aa Z H s->wpAny (model X.prog X.w) X.A (eval e X.env) (EP X aa Z Q) X.xe s
theorem cI:PE X e (bE X e):=λaa s Z H Q I h=>h aa s I
theorem bU (h:PE X e t) (q:t Z H Q):bE X e Z H Q:=λaa s I=>h aa s Z H Q I q
noncomputable def bT (X:Cx) (e:Expr):TT:=λZ H Q=>∀ aa s,Inv X aa Z H s->wpAny (model X.prog X.w) X.A (isTrue e X.env (eval e X.env)) (TP X aa Z Q) X.xe s
theorem GL:PT X e (bT X e):=λaa s Z H Q I h=>h aa s I
theorem lz (h:PT X e t) (q:t Z H Q):bT X e Z H Q:=λaa s I=>h aa s Z H Q I q
noncomputable def bA (X:Cx) (es:List Expr):TA:=λZ H Q=>∀ pos aa s,Inv X aa Z H s->wpAny (model X.prog X.w) X.A (spliced (backTo pos (starEach es X.env))) (AP X aa Z Q) X.xe s
theorem GN:PA X es (bA X es):=λpos aa s Z H Q I h=>h pos aa s I
theorem ri (h:PA X es t) (q:t Z H Q):bA X es Z H Q:=λpos aa s I=>h pos aa s Z H Q I q
noncomputable def bS (X:Cx) (st:Stmt):TS:=λD Z H=>∀ aa s,Inv X aa Z H s->wpAny (model X.prog X.w) X.A (exec st X.env) (SP X aa D) X.xe s
theorem O0 {st:Stmt}:PS X st (bS X st):=λaa s Z H D I h=>h aa s I
theorem cO {st:Stmt} (h:PS X st t) {D:Ends} (q:t D Z H):bS X st D Z H:=λaa s I=>h aa s Z H D I q
noncomputable def GO (X:Cx) (st:List Stmt):TS:=λD Z H=>∀ aa s,Inv X aa Z H s->wpAny (model X.prog X.w) X.A (execs st X.env) (SP X aa D) X.xe s
theorem lB {st:List Stmt}:qQ X st (GO X st):=λaa s Z H D I h=>h aa s I
theorem AH {st:List Stmt} (h:qQ X st t) {D:Ends} (q:t D Z H):GO X st D Z H:=λaa s I=>h aa s Z H D I q
noncomputable def bG (X:Cx) (tg:Expr):TG:=λv Z H Q=>∀ aa s u,Inv X aa Z H s->RelV v u->wpAny (model X.prog X.w) X.A (assign tg X.env u) (λ_ s'=>∃ Z' H',Inv X aa Z' H' s'/\Q Z' H') X.xe s
theorem N8:PG X tg (bG X tg):=λaa s Z H v u Q I r h=>h aa s u I r
theorem vM (h:PG X tg t) (q:t v Z H Q):bG X tg v Z H Q:=λaa s u I r=>h aa s Z H v u Q I r q
variable (c:Ctx P w K mg base k N sc bk)
def dU (e:Expr) (Y:List Sl) (R:Sl->Prop):Prop :=
 ∀ (Z:L2.St) (H Hf:Hp) (Q:VK),bK c Z H Hf Y->(∀ r v H' aj,R r->bx c.X.K (λp=>H p=none) H' aj r v->bz H Hf H' aj->Q v H')->bE c.X e Z H Q
def aB (e:Expr) (Y:List Sl) (R:D->Prop):Prop :=
 ∀ (Z:L2.St) (H Hf:Hp) (Q:VK),bK c Z H Hf Y->(∀ d v H' aj,R d->Rep c.X.K aj d v->bz H Hf H' aj->Q v H')->bE c.X e Z H Q
def gZ (e:Expr) (Y:List Sl) (R:Bool->Prop):Prop :=
 ∀ (Z:L2.St) (H Hf:Hp) (Q:Bool->Hp->Prop),bK c Z H Hf Y->(∀ b H' aj,R b->bz H Hf H' aj->Q b H')->bT c.X e Z H Q
def rj (es:List Expr) (Y:List Sl) (R:List D->Prop):Prop :=
 ∀ (Z:L2.St) (H Hf:Hp) (Q:List V->Hp->Prop),bK c Z H Hf Y->(∀ ds vs H' aj,R ds->ak c.X.K aj ds vs->bz H Hf H' aj->Q vs H')->bA c.X es Z H Q
structure Pt where
 rt:Sl->Prop
 bk:List Sl->Prop:=λ_=>False
 ct:List Sl->Prop:=λ_=>False
structure AI (nx:List Sl->Prop) (p:Pt) (D:Ends):Prop where
 nx:∀ Z H Hf Y,bK c Z H Hf Y->nx Y->D.nx Z H
 rt:∀ r v H Hf,bz c.B c.Hf H Hf->bx c.X.K c.fr H Hf r v->p.rt r->D.rt v H
 bk:∀ Z H Hf Y,bK c Z H Hf Y->p.bk Y->D.bk Z H
 ct:∀ Z H Hf Y,bK c Z H Hf Y->p.ct Y->D.ct Z H
def fm (st:Stmt) (Y:List Sl) (nx:List Sl->Prop) (p:Pt):Prop :=
 ∀ (Z:L2.St) (H Hf:Hp) (D:Ends),bK c Z H Hf Y->AI c nx p D->bS c.X st D Z H
def aU (st:List Stmt) (Y:List Sl) (nx:List Sl->Prop) (p:Pt):Prop :=
 ∀ (Z:L2.St) (H Hf:Hp) (D:Ends),bK c Z H Hf Y->AI c nx p D->GO c.X st D Z H
def nh (tg:Expr) (d:D) (Y:List Sl) (R:List Sl->Prop):Prop :=
 ∀ (Z:L2.St) (H Hf:Hp) (v:V) (Q:L2.St->Hp->Prop),bK c Z H Hf Y->Rep c.X.K Hf d v->(∀ Z' H' aj Y',bK c Z' H' aj Y'->bz H Hf H' aj->R Y'->Q Z' H')->bG c.X tg v Z H Q
variable {c}
noncomputable def Sl.fz:Sl->Option D
 | .va d=>some d
 | .ow ds=>some (.lst ds)
 | _=>none
def IC (R:D->Prop) (r:Sl):Prop:=∃ d,r.fz=some d/\R d
theorem ID (e:r.fz=some d) (h:bx K (λp=>H p=none) H' aj r v) (g:bz H Hf H' aj) :
 ∃ cL,Rep K cL d v/\bz H Hf H' cL:=by
 cases r with
 | un=>cases e
 | va d'=>cases e; exact ⟨aj,h,g⟩
 | oT _=>cases e
 | oK _=>cases e
 | aw _ _=>cases e
 | aT _ _=>cases e
 | aK _ _=>cases e
 | fo _=>cases e
 | ow ds =>
  cases e
  obtain ⟨p,xs,rfl,hp,h1,h2,h3⟩:=h
  have sf:aL aj (upd aj p (.lst xs)):=λb o e=>by rw [ai (aq e h2)]; exact e
  have sb:aL (upd aj p (.lst xs)) H':=λb o e=>by
   by_cases q:b=p
   ·subst q; rw [ah] at e; rw [h1]; exact e
   ·rw [ai q] at e; exact g.b b o e
  refine ⟨upd aj p (.lst xs),bh.mpr ⟨p,xs,rfl,.inl (.inl ah),h3.mono sf⟩,g.s,g.f.trans sf,sb,λb q1 q2 q3=>?_⟩
  have e:=g.n b q1 q2 q3
  by_cases q:b=p
  ·subst q; exact absurd hp q2
  ·rw [ai q]; exact e
theorem e_x (h:dU c e Y (IC R)):aB c e Y R:=λZ H Hf Q S q =>
 h Z H Hf Q S λr v H' aj ⟨d,e1,rd⟩ rs g=>let ⟨cL,h1,g2⟩:=ID e1 rs g; q d v H' cL rd h1 g2
theorem M7 (h:aB c e Y λd=>R (.va d)):dU c e Y R:=λZ H Hf Q S q =>
 h Z H Hf Q S λd v H' aj rd h1 g=>q (.va d) v H' aj rd h1 g
theorem aB.imp (h:aB c e Y R) (hi:∀ d,R d->R' d):aB c e Y R':=λZ H Hf Q S q=>h Z H Hf Q S λd v H' aj rd=>q d v H' aj (hi d rd)
theorem dU.imp (h:dU c e Y R) (hi:∀ d,R d->R' d):dU c e Y R':=λZ H Hf Q S q=>h Z H Hf Q S λd v H' aj rd=>q d v H' aj (hi d rd)
theorem gZ.imp (h:gZ c e Y R) (hi:∀ d,R d->R' d):gZ c e Y R':=λZ H Hf Q S q=>h Z H Hf Q S λd H' aj rd=>q d H' aj (hi d rd)
theorem rm (hN:At N i x) (hs:At Y i (.va d)) (hR:R d)
 (hd:Ndb x:=by decide) (hcd:Ncd x:=by decide) :
 aB c (.Name x pos) Y R:=λZ H Hf Q S q=>by
 obtain ⟨v,e,r⟩:=S.va hs.get
 exact bU (kO (X:=c.X) (i:=i) (by rw [c.eN]; exact hN.get) (by rw [c.esc]; rcases c.vis x hN.mem with h | h; exact .inl h; exact .inr (.inl h)) hd hcd) ⟨v,e,q d v H Hf hR r (.refl S.sb)⟩
theorem Lw (hR:R (.int i)):aB c (.Constant (.int i) j pos) Y R:=λZ H Hf Q S q =>
 bU zY (q _ _ H Hf hR (au.mpr rfl) (.refl S.sb))
theorem N9 (hR:R (.bl i)):aB c (.Constant (.bool i) j pos) Y R:=λZ H Hf Q S q =>
 bU vC (q _ _ H Hf hR (cG.mpr rfl) (.refl S.sb))
theorem Lx (hR:R .non):aB c (.Constant .none j pos) Y R:=λZ H Hf Q S q =>
 bU HE (q _ _ H Hf hR (bM.mpr rfl) (.refl S.sb))
theorem Ly (hR:R (.str i)):aB c (.Constant (.str i) j pos) Y R:=λZ H Hf Q S q =>
 bU HF (q _ _ H Hf hR (c8.mpr rfl) (.refl S.sb))
theorem pF (hm:mg x=some (.int i t)) (hR:R (.int i)) (hg:sc.names.lookup x=some .globalImplicit:=by rfl') (hd:Ndb x:=by decide) :
 aB c (.Name x pos) Y R:=λZ H Hf Q S q =>
 bU (DN (X:=c.X) (v:=.int i) (u:=.int i t) (by unfold Gl P6; rw [c.esc]; exact hg) (by rw [c.emg]; exact hm) ⟨t,rfl⟩ hd) (q _ _ H Hf hR (au.mpr rfl) (.refl S.sb))
def M8 (K:O7) (r:R2) (p:D->D->(Sl->Prop)->Prop):Prop :=
 ∀ (x y:D) (v u:V) (H Hf:Hp) (Q:VK) (R:Sl->Prop),aL Hf H->Rep K Hf x v->Rep K Hf y u->p x y R ->
  (∀ z v' H' aj,R z->bx K (λp=>H p=none) H' aj z v'->bz H Hf H' aj->Q v' H')->r v u H Q
theorem lC (ho:fu c.X (binaryOp op) r) (hd:M8 c.X.K r p)
 (h:aB c a Y λx=>aB c b Y λy=>p x y R):dU c (.BinOp a op b pos) Y R:=λZ H Hf Q S q =>
 bU (Ag ho cI cI) (h Z H Hf _ S λx v1 H1 aP h1 r1 g1=>h1 Z H1 aP _ (S.cD g1) λy v2 H2 cL h2 r2 g2 =>
  hd x y v1 v2 H2 cL Q R g2.b (Rep.mono g2.f x r1) r2 h2 λz v' H' aj hz rz g3 =>
   q z v' H' aj hz (rz.weak λp hp=>(g1.trans g2).s.free hp) ((g1.trans g2).trans g3))
theorem jP {f:Int->Int->Int}:M8 K (rI C λi j=>.int (f i j)) λx y R=>∃ i j,x=.int i/\y=.int j/\C i j/\R (.va (.int (f i j))):=by
 rintro x y v u H Hf Q R s rx ry ⟨i,j,rfl,rfl,hC,hR⟩ q
 rw [au] at rx ry
 exact ⟨i,j,rx,ry,hC,q (.va (.int (f i j))) _ H Hf hR (show Rep K Hf (.int (f i j)) _ from au.mpr rfl) (.refl s)⟩
theorem AJ {f:Int->Int->Int}:M8 K (yj λi j=>.int (f i j)) λx y R=>∃ i j,x=.int i/\y=.int j/\R (.va (.int (f i j))):=by
 rintro x y v u H Hf Q R s rx ry ⟨i,j,rfl,rfl,hR⟩ q
 rw [au] at rx ry
 exact ⟨i,j,rx,ry,q (.va (.int (f i j))) _ H Hf hR (show Rep K Hf (.int (f i j)) _ from au.mpr rfl) (.refl s)⟩
theorem gh (h:dU c e Y λr=>∃ d,r=.va d/\R d):aB c e Y R:=e_x (h.imp λr ⟨d,e,hr⟩=>⟨d,by subst e; rfl,hr⟩)
noncomputable def jQ:D->D->Bool
 | .non,.non=>true | .non,.int _=>true | .int _,.non=>true | .non,.bl _=>true | .bl _,.non=>true | .non,.str _=>true | .str _,.non=>true
 | .int _,.int _=>true | .bl _,.bl _=>true | .str _,.str _=>true | .int _,.str _=>true | .str _,.int _=>true | .bl _,.str _=>true | .str _,.bl _=>true
 | _,_=>false
noncomputable instance:DecidableEq D:=λ_ _=>Classical.propDecidable _
inductive lD:Nat->D->D->Prop where
 | sc {n:Nat} {x y:D} (h:jQ x y=true):lD n x y
 | tup {n:Nat} {ds es:List D} (h:∀ (i:Nat) (d e:D),ds[i]?=some d->es[i]?=some e->lD n d e):lD (n+1) (.tup ds) (.tup es)
 | lst {n:Nat} {ds es:List D} (h:∀ (i:Nat) (d e:D),ds[i]?=some d->es[i]?=some e->lD n d e):lD (n+1) (.lst ds) (.lst es)
 | ln {n:Nat} {ds:List D}:lD n (.lst ds) .non
 | nl {n:Nat} {ds:List D}:lD n .non (.lst ds)
 | tn {n:Nat} {ds:List D}:lD n (.tup ds) .non
 | nt {n:Nat} {ds:List D}:lD n .non (.tup ds)
def lE (ds es:List D):Prop:=∀ (i:Nat) (d e:D),ds[i]?=some d->es[i]?=some e->lD 40 d e
def Lz (x y:D):Prop:=jQ x y=true\/∃ ds es,((x=.tup ds/\y=.tup es)\/(x=.lst ds/\y=.lst es))/\lE ds es
section
variable {a b:Expr} {pos:Pos} {Y:List Sl} {R:D->Prop}
structure Sd (A B:Prop):Prop where
 s:A
 r:B
structure g6 (A B:Prop) (x:Bool):Prop where
 t:x=true->A
 f:x=false->B
theorem if2 (h1:x=true->A) (h2:x=false->B):g6 A B x:=⟨h1,h2⟩
theorem LA (h1:A):g6 A B true:=⟨λ_=>h1,λh=>by cases h⟩
theorem LB (h1:B):g6 A B false:=⟨λh=>(by cases h),λ_=>h1⟩
theorem Ei (h1:p->A) (h2:¬ p->B):g6 A B (@decide p i):=⟨λh=>h1 (of_decide_eq_true h),λh=>h2 (of_decide_eq_false h)⟩
theorem Ej (h:g6 B A x):g6 A B (!x):=⟨λe=>h.f (by simpa using e),λe=>h.t (by simpa using e)⟩
def vN (x y:D) (T:Bool->Prop):Prop:=Lz x y/\T (decide (x=y))
theorem Ek (h:T (decide (i=j))):vN (.int i) (.int j) T:=⟨.inl rfl,by
 have e:decide (D.int i=D.int j)=decide (i=j):=by simp
 rw [e]; exact h⟩
theorem El (h:T (decide (i=j))):vN (.str i) (.str j) T:=⟨.inl rfl,by
 have e:decide (D.str i=D.str j)=decide (i=j):=by simp
 rw [e]; exact h⟩
theorem Em (h:Sd (lE ds es) (T (decide (ds=es)))):vN (.tup ds) (.tup es) T:=⟨.inr ⟨ds,es,.inl ⟨rfl,rfl⟩,h.s⟩,by
 have e:decide (D.tup ds=D.tup es)=decide (ds=es):=by simp
 rw [e]; exact h.r⟩
theorem fP (h:Sd (lE ds es) (T (decide (ds=es)))):vN (.lst ds) (.lst es) T:=⟨.inr ⟨ds,es,.inr ⟨rfl,rfl⟩,h.s⟩,by
 have e:decide (D.lst ds=D.lst es)=decide (ds=es):=by simp
 rw [e]; exact h.r⟩
noncomputable def I2 (k:Int->Int->Prop):D->D->Prop:=λx y=>∃ i j,x=.int i/\y=.int j/\k i j
theorem i2 {k:Int->Int->Prop} (h:k i j):I2 k (.int i) (.int j):=⟨i,j,rfl,rfl,h⟩
noncomputable def I1 (k:Int->Prop):D->Prop:=λx=>∃ i,x=.int i/\k i
theorem i1 {k:Int->Prop} (h:k i):I1 k (.int i):=⟨i,rfl,h⟩
noncomputable def B1 (k:Bool->Prop):D->Prop:=λx=>∃ i,x=.bl i/\k i
theorem b1 {k:Bool->Prop} (h:k i):B1 k (.bl i):=⟨i,rfl,h⟩
theorem GP (h:aB c a Y λx=>aB c b Y λy=>I2 (λi j=>R (.int (i - j))) x y):aB c (.BinOp a .Sub b pos) Y R :=
 gh (lC HX AJ (h.imp λx hx=>hx.imp λy ⟨i,j,e1,e2,r⟩=>⟨i,j,e1,e2,_,rfl,r⟩))
def MulOk (i j:Int):Prop:=IntMulOk i j
def AK (j:Int):Prop:=0<j/\j.natAbs.log2<9000
theorem En:fu c.X (binaryOp .Mult) (rI MulOk λi j=>.int (i * j)):=GI λ_ _ _ _ _ _ _ hc q=>mul_int q hc
theorem AL:fu c.X (binaryOp .FloorDiv) (rI (λ_ j=>AK j) λi j=>.int (i / j)):=GI λi j _ _ _ _ _ hc q=>by
 have h1:(0:Int)<j:=hc.1
 exact floordiv_int 'l' (by rw [Int.fdiv_eq_ediv_of_nonneg i 'l']; exact q) (.inl (Vc hc.2))
theorem AM:fu c.X (binaryOp .FloorDiv) (rI (λ_ j=>j≠0/\j.natAbs.log2<9000) λi j=>.int (i.fdiv j)):=GI λi j _ _ _ _ _ hc q =>
 floordiv_int hc.1 q (.inl (Vc hc.2))
theorem LC (h:aB c a Y λx=>aB c b Y λy=>I2 (λi j=>Sd (MulOk i j) (R (.int (i * j)))) x y):aB c (.BinOp a .Mult b pos) Y R :=
 gh (lC En jP (h.imp λx hx=>hx.imp λy ⟨i,j,e1,e2,⟨hc,r⟩⟩=>⟨i,j,e1,e2,hc,_,rfl,r⟩))
theorem IE (h:aB c a Y λx=>aB c b Y λy=>I2 (λi j=>Sd (AK j) (R (.int (i / j)))) x y):aB c (.BinOp a .FloorDiv b pos) Y R :=
 gh (lC AL jP (h.imp λx hx=>hx.imp λy ⟨i,j,e1,e2,⟨hc,r⟩⟩=>⟨i,j,e1,e2,hc,_,rfl,r⟩))
theorem vO (h:aB c a Y λx=>aB c b Y λy=>I2 (λi j=>Sd ((j≠0/\j.natAbs.log2<9000)) (R (.int (i.fdiv j)))) x y):aB c (.BinOp a .FloorDiv b pos) Y R :=
 gh (lC AM jP (h.imp λx hx=>hx.imp λy ⟨i,j,e1,e2,⟨hc,r⟩⟩=>⟨i,j,e1,e2,hc,_,rfl,r⟩))
theorem LD (h:aB c a Y λx=>aB c b Y λy=>I2 (λi j=>Sd (0<j) (R (.int (i % j)))) x y):aB c (.BinOp a .Mod b pos) Y R :=
 gh (lC HY jP (h.imp λx hx=>hx.imp λy ⟨i,j,e1,e2,⟨hc,r⟩⟩=>⟨i,j,e1,e2,hc,_,rfl,r⟩))
theorem LF (h:aB c a Y λx=>aB c b Y λy=>I2 (λi j=>Sd (Ai i j) (R (.int (i ^ j.toNat)))) x y):aB c (.BinOp a .Pow b pos) Y R :=
 gh (lC HZ jP (h.imp λx hx=>hx.imp λy ⟨i,j,e1,e2,⟨hc,r⟩⟩=>⟨i,j,e1,e2,hc,_,rfl,r⟩))
theorem LG (h:aB c a Y (I1 λi=>R (.int (-i)))):aB c (.UnaryOp .USub a pos) Y R:=λZ H Hf Q S q =>
 bU (Le Ie cI) (h Z H Hf _ S λx v H' aj hx r g=>by
  obtain ⟨i,rfl,hR⟩:=hx
  rw [au] at r
  exact ⟨i,r,q _ _ H' aj hR (au.mpr rfl) g⟩)
def AN (K:O7) (r:R2) (p:D->D->(Bool->Prop)->Prop):Prop :=
 ∀ (x y:D) (v u:V) (H Hf:Hp) (Q:VK) (R:Bool->Prop),aL Hf H->Rep K Hf x v->Rep K Hf y u->p x y R->(∀ b,R b->Q (.bl b) H)->r v u H Q
theorem LH (ho:fu c.X (compareOp op) r) (hd:AN c.X.K r p) (h:aB c a Y λx=>aB c b Y λy=>p x y λz=>R (.bl z))
 (hm:behindInMarks op b=false):aB c (.Compare a [op] [b] pos) Y R:=λZ H Hf Q S q =>
 bU (DU ho cI cI hm) (h Z H Hf _ S λx v1 H1 aP h1 r1 g1=>h1 Z H1 aP _ (S.cD g1) λy v2 H2 cL h2 r2 g2 =>
  hd x y v1 v2 H2 cL Q _ g2.b (Rep.mono g2.f x r1) r2 h2 λz hz=>q _ _ H2 cL hz (cG.mpr rfl) (g1.trans g2))
theorem vP (ho:fu c.X (compareOp op) r) (hd:AN c.X.K r p) (h:aB c a Y λx=>aB c b Y λy=>p x y T)
 (hm:behindInMarks op b=false):gZ c (.Compare a [op] [b] pos) Y T:=λZ H Hf Q S q =>
 lz (DV ho cI cI hm) (h Z H Hf _ S λx v1 H1 aP h1 r1 g1=>h1 Z H1 aP _ (S.cD g1) λy v2 H2 cL h2 r2 g2 =>
  hd x y v1 v2 H2 cL _ T g2.b (Rep.mono g2.f x r1) r2 h2 λz hz=>⟨z,rfl,q _ H2 cL hz (g1.trans g2)⟩)
theorem GQ {f:Int->Int->Bool}:AN K (yj λi j=>.bl (f i j)) λx y R=>I2 (λi j=>R (f i j)) x y:=by
 rintro x y v u H Hf Q R s rx ry ⟨i,j,rfl,rfl,hR⟩ q
 rw [au] at rx ry
 exact ⟨i,j,rx,ry,q _ hR⟩
theorem vQ (h:jQ x y=true) (rx:Rep K H x v) (ry:Rep K H y u):DT v u=true/\decide (v=u)=decide (x=y):=by
 cases x <;> cases y <;> (first|(cases (show false=true from h); done)|clear h) <;> simp only [au,cG,bM,c8] at rx ry <;> subst rx <;> subst ry <;> exact ⟨rfl,by simp⟩
theorem Oa (h:aB c a Y λx=>aB c b Y λy=>I2 (λi j=>T (decide (i<j))) x y):gZ c (.Compare a [.Lt] [b] pos) Y T:=vP Li GQ h (kR b)
theorem Ob (h:aB c a Y λx=>aB c b Y λy=>I2 (λi j=>T (decide (j<i))) x y):gZ c (.Compare a [.Gt] [b] pos) Y T:=vP Lj GQ h (kR b)
end
end
section
variable {K:O7} {c:Ctx P w K mg base k N sc bk}
variable {es rest:List Expr}
noncomputable def bW (X:Cx) (e:Expr):TT:=λZ H Q=>∀ whole aa s,Inv X aa Z H s->wpAny (model X.prog X.w) X.A (isTrue e X.env whole) (TP X aa Z Q) X.xe s
theorem OG:PW X e (bW X e):=λwhole aa s Z H Q I h=>h whole aa s I
theorem vR (h:PW X e t) (q:t Z H Q):bW X e Z H Q:=λwhole aa s I=>h whole aa s Z H Q I q
def GR (c:Ctx P w K mg base k N sc bk) (e:Expr) (Y:List Sl) (R:Bool->Prop):Prop :=
 ∀ (Z:L2.St) (H Hf:Hp) (Q:Bool->Hp->Prop),bK c Z H Hf Y->(∀ b H' aj,R b->bz H Hf H' aj->Q b H')->bW c.X e Z H Q
theorem OH (h:GR c e Y T):gZ c e Y T:=λZ H Hf Q S q aa s I=>h Z H Hf Q S q _ aa s I
theorem IF (h:gZ c a Y T):GR c (.BoolOp .And [a] pos) Y T:=λZ H Hf Q S q=>vR (pw_and1 GL) (h Z H Hf Q S q)
theorem LJ (h:gZ c a Y T):GR c (.BoolOp .Or [a] pos) Y T:=λZ H Hf Q S q=>vR (pw_or1 GL) (h Z H Hf Q S q)
theorem w_and (h:gZ c a Y (g6 (GR c (.BoolOp .And (b::rest) pos) Y T) (T false))):GR c (.BoolOp .And (a::b::rest) pos) Y T:=λZ H Hf Q S q =>
 vR (pw_and GL OG) (h Z H Hf _ S λx H' aj hx g=>by
  cases x with
  | true=>exact hx.t rfl Z H' aj Q (S.cD g) λy H2 cL hy g2=>q y H2 cL hy (g.trans g2)
  | false=>exact q false H' aj (hx.f rfl) g)
theorem w_or (h:gZ c a Y (g6 (T true) (GR c (.BoolOp .Or (b::rest) pos) Y T))):GR c (.BoolOp .Or (a::b::rest) pos) Y T:=λZ H Hf Q S q =>
 vR (pw_or GL OG) (h Z H Hf _ S λx H' aj hx g=>by
  cases x with
  | false=>exact hx.f rfl Z H' aj Q (S.cD g) λy H2 cL hy g2=>q y H2 cL hy (g.trans g2)
  | true=>exact q true H' aj (hx.t rfl) g)
theorem LK (h:gZ c a Y λx=>T (!x)):gZ c (.UnaryOp .Not a pos) Y T:=λZ H Hf Q S q =>
 lz (HJ GL) (h Z H Hf _ S λx H' aj hx g=>q _ H' aj hx g)
theorem LL (h:aB c a Y R):aB c (.BoolOp op [a] pos) Y R:=λZ H Hf Q S q=>bU (HK cI) (h Z H Hf Q S q)
theorem LM (h:aB c a Y (B1 (g6 (aB c (.BoolOp .And (b::rest) pos) Y R) (R (.bl false))))):aB c (.BoolOp .And (a::b::rest) pos) Y R:=λZ H Hf Q S q =>
 bU (HL cI cI) (h Z H Hf _ S λx v H' aj ⟨k,e,h1⟩ r g=>by
  subst e
  rw [cG] at r
  refine ⟨k,r,?_⟩
  cases k with
  | true=>rw [if_pos rfl]; exact h1.t rfl Z H' aj Q (S.cD g) λy v2 H2 cL hy r2 g2=>q y v2 H2 cL hy r2 (g.trans g2)
  | false=>rw [if_neg Pp]; exact q _ _ H' aj (h1.f rfl) (cG.mpr rfl) g)
theorem LN (h:aB c a Y (B1 λk=>R (.bl (!k)))):aB c (.UnaryOp .Not a pos) Y R:=λZ H Hf Q S q =>
 bU (HM cI) (h Z H Hf _ S λx v H' aj ⟨k,e,h1⟩ r g=>by
  subst e; rw [cG] at r
  exact ⟨k,r,q _ _ H' aj h1 (cG.mpr rfl) g⟩)
theorem Eo {R:Sl->Prop} (h:gZ c t Y (g6 (dU c a Y R) (dU c b Y R))):dU c (.IfExp t a b pos) Y R:=λZ H Hf Q S q =>
 bU (Aa GL cI cI) (h Z H Hf _ S λx H' aj hx g=>by
  cases x with
  | true=>rw [if_pos rfl]; exact hx.t rfl Z H' aj Q (S.cD g) λy v2 H2 cL hy r2 g2=>q y v2 H2 cL hy (r2.weak λp hp=>g.s.free hp) (g.trans g2)
  | false=>rw [if_neg Pp]; exact hx.f rfl Z H' aj Q (S.cD g) λy v2 H2 cL hy r2 g2=>q y v2 H2 cL hy (r2.weak λp hp=>g.s.free hp) (g.trans g2))
theorem Ep (h:gZ c t Y (g6 (aB c a Y R) (aB c b Y R))):aB c (.IfExp t a b pos) Y R :=
 gh (Eo (h.imp λx hx=>⟨λe=>M7 ((hx.t e).imp λd h=>⟨d,rfl,h⟩),λe=>M7 ((hx.f e).imp λd h=>⟨d,rfl,h⟩)⟩))
theorem LO (h:aB c e Y (B1 T)) (he:∀ (env:Env) whole,isTrue e env whole=(do let v <- whole; standAt e.pos; holding [v] (truthy v)):=by intro _ _; rfl'):gZ c e Y T:=λZ H Hf Q S q =>
 lz (HH cI (he _)) (h Z H Hf _ S λx v H' aj ⟨k,e,h1⟩ r g=>by
  subst e; rw [cG] at r
  exact ⟨k,r,q k H' aj h1 g⟩)
theorem iN {R:List D->Prop} (h:R []):rj c [] Y R:=λZ H Hf Q S q=>ri cM (q [] [] H Hf h (aA.mpr rfl) (.refl S.sb))
theorem c6 {R:List D->Prop} (h:aB c e Y λd=>rj c es Y λds=>R (d::ds)) (hs:∀ env,starEach (e::es) env=(false,eval e env)::starEach es env:=by symm):rj c (e::es) Y R:=λZ H Hf Q S q =>
 ri (bC cI GN (hs _)) (h Z H Hf _ S λd v H1 aP h1 r1 g1=>h1 Z H1 aP _ (S.cD g1) λds vs H2 cL h2 r2 g2=>q _ _ H2 cL h2 (.cons (Rep.mono g2.f d r1) r2) (g1.trans g2))
theorem LP (h:rj c es Y λds=>Sd (ds.length<=sizeLine) (R (.tup ds))):aB c (.Tuple es j pos) Y R:=λZ H Hf Q S q =>
 bU (Ak GN) (h Z H Hf _ S λds vs H' aj ⟨hl,hR⟩ r g=>⟨by rw [<- r.length]; exact hl,λp hp=>by
  have g2:=bz.new g.b hp (o:=.tup vs)
  exact q _ _ _ _ hR (aI.mpr ⟨p,vs,rfl,.inl (.inl ah),r.mono g2.f⟩) (g.trans g2)⟩)
theorem GS {R:Sl->Prop} (h:rj c es Y λds=>Sd (ds.length<=sizeLine) (R (.ow ds))):dU c (.List es pos) Y R:=λZ H Hf Q S q =>
 bU (Ig GN) (h Z H Hf _ S λds vs H' aj ⟨hl,hR⟩ r g=>⟨by rw [<- r.length]; exact hl,λp hp=>by
  have g2:=bz.f7 g.b hp (o:=.lst vs)
  exact q _ _ _ _ hR ⟨p,vs,rfl,g.s.free hp,ah,g.b.free hp,r⟩ (g.trans g2)⟩)
variable {st:Stmt}
theorem dF (h:nx Y):aU c [] Y nx p:=λZ H Hf D S o=>AH DP (o.nx Z H Hf Y S h)
theorem aJ (h:fm c st Y (λY'=>aU c sts Y' nx p) p):aU c (st::sts) Y nx p:=λZ H Hf D S o =>
 AH (Ab O0 lB) (h Z H Hf { D with nx:=GO c.X sts D } S ⟨λZ' H' aj Y' S' q=>q Z' H' aj D S' o,o.rt,o.bk,o.ct⟩)
theorem jR (h:dU c e Y p.rt):fm c (.Return (some e) pos) Y nx p:=λZ H Hf D S o =>
 cO (t8 cI) (h Z H Hf _ S λr v H' aj hr rs g=>o.rt r v H' aj (S.bas.trans g) (rs.weak λp hp=>S.bas.s.free hp) hr)
theorem rA (hN:At N i x) (hi:At Y i r) (hu:r.owned=true) (h:p.rt r)
 (hd:Ndb x:=by decide) (hcd:Ncd x:=by decide) :
 fm c (.Return (some (.Name x pos2)) pos) Y nx p:=λZ H Hf D S o=>by
 obtain ⟨v,e,rs⟩:=S.at_ i r hi.get (by rintro rfl; cases hu)
 exact cO (t8 (kO (X:=c.X) (i:=i) (by rw [c.eN]; exact hN.get) (by rw [c.esc]; rcases c.vis x hN.mem with h | h; exact .inl h; exact .inr (.inl h)) hd hcd)) ⟨v,e,o.rt r v H Hf S.bas rs h⟩
theorem Er (h:gZ c t Y (g6 (aU c A Y nx p) (aU c B Y nx p))):fm c (.If t A B pos) Y nx p:=λZ H Hf D S o =>
 cO (K8 GL lB lB) (h Z H Hf _ S λx H' aj hx g=>by
  cases x with
  | true=>rw [if_pos rfl]; exact hx.t rfl Z H' aj D (S.cD g) o
  | false=>rw [if_neg Pp]; exact hx.f rfl Z H' aj D (S.cD g) o)
def Nx (Y:List Sl) (i:Nat) (R:List Sl->Prop) (r:Sl):Prop:=∃ Y',SSet Y i r Y'/\R Y'
theorem j0 {R:List Sl->Prop} (h:SSet Y i r Y') (hr:R Y'):Nx Y i R r:=⟨Y',h,hr⟩
theorem iO (hN:At N i x) (h:dU c e Y (Nx Y i nx))
 (hs:∀ env,swapsWith e (some (.Name x pos2)) pos.line env=pure false:=by symm) (hf:bk=false\/sc.names.lookup x=some .local:=by first | exact .inl rfl | exact .inr (by rfl')):fm c (.Assign [.Name x pos2] e pos) Y nx p:=λZ H Hf D S o =>
 cO (Ad (X:=c.X) (i:=i) (by rw [c.eN]; exact c.nd) (by rw [c.eN]; exact hN.get) (by rw [c.esc]; exact c.vis x hN.mem) cI (hs _) (c.fn x hf)) (h Z H Hf _ S λr v H' aj ⟨Y',hs,hx⟩ rs g=>o.nx _ H' aj _ (hs.eq ▸ S.set g rs) hx)
theorem fj {R:List Sl->Prop} (hN:At N i x) (h:Nx Y i R (.va d)) (hf:bk=false\/sc.names.lookup x=some .local:=by first | exact .inl rfl | exact .inr (by rfl')):nh c (.Name x pos) d Y R:=λZ H Hf v Q S r q=>by
 obtain ⟨Y',hs,h⟩:=h
 exact vM (iL (X:=c.X) (i:=i) (by rw [c.eN]; exact c.nd) (by rw [c.eN]; exact hN.get) (by rw [c.esc]; exact c.vis x hN.mem) (c.fn x hf)) (q _ H Hf _ (hs.eq ▸ S.set (.refl S.sb) (r:=.va d) r) (.refl S.sb) h)
def yv (c:Ctx P w K mg base k N sc bk) (ts:List Expr) (ds:List D) (Y:List Sl) (R:List Sl->Prop):Prop :=
 ∀ (Z:L2.St) (H Hf:Hp) (vs:List V) (Q:L2.St->Hp->Prop),bK c Z H Hf Y->ak c.X.K Hf ds vs->(∀ Z' H' aj Y',bK c Z' H' aj Y'->bz H Hf H' aj->R Y'->Q Z' H') ->
  ∀ aa s us,Inv c.X aa Z H s->Vals vs us->wpAny (model c.X.prog c.X.w) c.X.A (assignInOrder ((assignEach ts c.X.env).map (·.2)) us) (λ_ s'=>∃ Z' H',Inv c.X aa Z' H' s'/\Q Z' H') c.X.xe s
theorem AO {R:List Sl->Prop} (h:R Y):yv c [] [] Y R:=λZ H Hf vs Q S r q aa s us I rv=>by
 rw [aA] at r; subst r
 exact vD aa s Z H [] us Q I rv ⟨rfl,q Z H Hf Y S (.refl S.sb) h⟩
theorem pG {R:List Sl->Prop} (hN:At N i x) (h:Nx Y i (λY'=>yv c ts ds Y' R) (.va d))
 (hs:∀ env,(assignEach (.Name x pos::ts) env).map (·.2)=assign (.Name x pos) env::(assignEach ts env).map (·.2):=by symm) (hf:bk=false\/sc.names.lookup x=some .local:=by first | exact .inl rfl | exact .inr (by rfl')):yv c (.Name x pos::ts) (d::ds) Y R:=λZ H Hf vs Q S r q aa s us I rv=>by
 obtain ⟨Y',hs',h⟩:=h
 rw [aF] at r
 obtain ⟨v,vr,rfl,r1,r2⟩:=r
 have hp:KQ c.X ts (λvs' Z' H' Q'=>∀ aa s us,Inv c.X aa Z' H' s->Vals vs' us->wpAny (model c.X.prog c.X.w) c.X.A (assignInOrder ((assignEach ts c.X.env).map (·.2)) us) (λ_ s'=>∃ Z'' H'',Inv c.X aa Z'' H'' s'/\Q' Z'' H'') c.X.xe s) :=
  λaa s Z H vs us Q I r h=>h aa s us I r
 refine kQ (iL (X:=c.X) (i:=i) (by rw [c.eN]; exact c.nd) (by rw [c.eN]; exact hN.get) (by rw [c.esc]; exact c.vis x hN.mem) (c.fn x hf)) hp (hs _) aa s Z H _ us Q I rv ⟨v,vr,rfl,?_⟩
 have S1:=S.set (i:=i) (.refl S.sb) (r:=.va d) (v:=v) r1
 rw [<- hs'.eq] at S1
 exact h _ H Hf vr Q S1 r2 q
theorem AQ {R:List Sl->Prop} (he:d=.tup ds) (hl:ds.length=ts.length) (h:yv c ts ds Y R)
 (hn:∀ env,(assignEach ts env).length=ts.length:=by symm) (hst:∀ env,(assignEach ts env).findIdx? (·.1)=none:=by symm):nh c (.Tuple ts j pos) d Y R:=λZ H Hf v Q S r q=>by
 subst he
 rw [aI] at r
 obtain ⟨a,xs,rfl,h1,h2⟩:=r
 have hp:KQ c.X ts (λvs' Z' H' Q'=>∀ aa s us,Inv c.X aa Z' H' s->Vals vs' us->wpAny (model c.X.prog c.X.w) c.X.A (assignInOrder ((assignEach ts c.X.env).map (·.2)) us) (λ_ s'=>∃ Z'' H'',Inv c.X aa Z'' H'' s'/\Q' Z'' H'') c.X.xe s) :=
  λaa s Z H vs us Q I r h=>h aa s us I r
 refine vM (Ac (X:=c.X) (k:=j) (n:=ts.length) c.calm hp (hn _) (hst _)) ⟨a,xs,rfl,az S.sb h1,by rw [<- h2.length,hl],?_⟩
 exact h Z H Hf xs Q S h2 λZ' H' aj Y' S' g' hR=>q Z' H' aj Y' S' g' hR
theorem LQ (h:aB c e Y λd=>nh c tg d Y nx) (hs:∀ env,swapsWithSole [tg] e pos.line env=pure false:=by symm) (hw:∀ env,swappedStores [tg] e env=pure none:=by symm) (h1:∀ env,(assignEach [tg] env).map (·.2)=[assign tg env]:=by symm):fm c (.Assign [tg] e pos) Y nx p:=λZ H Hf D S o =>
 cO (uc cI N8 (hs _) (hw _) (h1 _)) (h Z H Hf _ S λd v H' aj hx r g=>hx Z H' aj v _ (S.cD g) r λZ' H2 cL Y' S' _ hR=>o.nx Z' H2 cL Y' S' hR)
theorem LR {f:Int->Int->Int} (ho:fu c.X (inplaceOp op) (rI C λi j=>.int (f i j))) (hN:At N i x) (hi:At Y i (.va (.int m)))
 (h:aB c e Y (I1 λj=>Sd (C m j) (Nx Y i nx (.va (.int (f m j)))))) (hf:bk=false\/sc.names.lookup x=some .local:=by first | exact .inl rfl | exact .inr (by rfl')):fm c (.AugAssign (.Name x pos2) op e pos) Y nx p:=λZ H Hf D S o=>by
 obtain ⟨v,e1,r1⟩:=S.va hi.get
 rw [au] at r1; subst r1
 have hip:OE c.X op (rI C λi j=>.int (f i j)):=λaa s Z H x y v u Q I rx ry h=>ho aa s Z H x y v u Q I rx ry h
 refine cO (HQ (X:=c.X) (i:=i) (by rw [c.eN]; exact c.nd) (by rw [c.eN]; exact hN.get) (by rw [c.esc]; exact c.vis x hN.mem) cI hip (c.fn x hf)) ⟨_,e1,h Z H Hf _ S λd v H' aj ⟨j,ed,⟨hC,Y',hs,hn⟩⟩ r g=>?_⟩
 subst ed; rw [au] at r
 have S2:=S.set g (i:=i) (r:=.va (.int (f m j))) (show Rep c.X.K aj (.int (f m j)) (.int (f m j)) from au.mpr rfl)
 rw [<- hs.eq] at S2
 exact ⟨m,j,rfl,r,hC,o.nx _ H' aj _ S2 hn⟩
theorem IG (hN:At N i x) (hi:At Y i (.va (.int m))) (h:aB c e Y (I1 λj=>Nx Y i nx (.va (.int (m - j))))) (hf:bk=false\/sc.names.lookup x=some .local:=by first | exact .inl rfl | exact .inr (by rfl')) :
 fm c (.AugAssign (.Name x pos2) .Sub e pos) Y nx p :=
 LR (C:=λ_ _=>True) (f:=λi j=>i - j) (λaa s Z H x y v u Q I rx ry ⟨i,j,e1,e2,_,q⟩=>DS aa s Z H x y v u Q I rx ry ⟨i,j,e1,e2,q⟩) hN hi (h.imp λd ⟨j,e,q⟩=>⟨j,e,trivial,q⟩) hf
theorem kj (hq:c.X.xe=λ_ _=>False) (I:Nat->List Sl->Prop) (h0:I m₀ Y)
 (h:∀ m Y',I m Y'->gZ c t Y' (g6 (aU c body Y' (λr=>∃ m',m'<m/\I m' r) { ct:=λr=>∃ m',m'<m/\I m' r,bk:=nx,rt:=p.rt }) (nx Y'))) :
 fm c (.While t body [] pos) Y nx p:=λZ H Hf D S o =>
 cO (Ae (by rw [hq]; exact PassesOwn.never) GL lB) ⟨λm Z H=>∃ Hf Y',bK c Z H Hf Y'/\I m Y',⟨m₀,Hf,Y,S,h0⟩,λm Z H ⟨Hf,Y',S,hI⟩=>h m Y' hI Z H Hf _ S λx H' aj hx g=>by
  cases x with
  | false=>rw [if_neg Pp]; exact o.nx Z H' aj Y' (S.cD g) (hx.f rfl)
  | true =>
   rw [if_pos rfl]
   refine ⟨λZ' H'=>∃ m',m'<m/\∃ Hf Y',bK c Z' H' Hf Y'/\I m' Y',λZ' H' ⟨m',hl,hh⟩=>⟨m',hl,hh⟩,?_⟩
   exact hx.t rfl Z H' aj _ (S.cD g) ⟨λZ H Hf Y S ⟨m',hl,hi⟩=>⟨m',hl,Hf,Y,S,hi⟩,o.rt,λZ H Hf Y S q=>o.nx Z H Hf Y S q,λZ H Hf Y S ⟨m',hl,hi⟩=>⟨m',hl,Hf,Y,S,hi⟩⟩⟩
end
theorem rB (h:n<=1000):n<=sizeLine:=Rx (yu h)
theorem AR (h:0<j) (h2:j.natAbs.log2<9000):AK j:=⟨h,h2⟩
inductive Res where
 | ok (r:Sl)
 | ex (C:Addr)
noncomputable abbrev Fn:=List D->Res->Prop
noncomputable def eE (K:O7) (F:Fn):Sp:=λvs H Q E=>∃ Hf ds r,aL Hf H/\ak K Hf ds vs/\F ds r/\match r with
 | .ok sl=>∀ v H' aj,bz H Hf H' aj->bx K (λp=>H p=none) H' aj sl v->Q v H'
 | .ex C=>∀ a H',aL H H'->E (.ref C) (some a) H'
structure fk (P:Program) (w:World) (K:O7) (mg:Str->Option Value) (base:Heap) (k:Nat) (x:Str) (F:Fn):Prop where
 ex:∃ f fd ps,mg x=some (.ref f)/\Rk K (.ref f)=true/\Binds K fd ps []/\bw P w K mg base (cN P w) k f fd ps (eE K F)
section
variable {K:O7} {c:Ctx P w K mg base k N sc bk}
noncomputable def KW (c:Ctx P w K mg base k N sc bk) (Y:List Sl) (R:Sl->Prop):Res->Prop
 | .ok sl=>R sl
 | .ex C=>c.RX C Y
theorem Es (h:fk P w K mg base j x F) (hj:j<=k):∃ f,mg x=some (.ref f)/\Rk K (.ref f)=true /\
 ∀ (aa:List (Addr×Obj)) (Z:L2.St) (H Hf:Hp) (s:Shared) (us:List Value) (vs:List V) (ds:List D) (r:Res) (Q:VK),Inv c.X aa Z H s->bK c Z H Hf Y->Vals vs us->ak c.X.K Hf ds vs->F ds r ->
  (∀ sl v H' aj,r=.ok sl->bx c.X.K (λp=>H p=none) H' aj sl v->bz H Hf H' aj->Q v H')->(∀ C,r=.ex C->c.RX C Y)->wpAny (model c.X.prog c.X.w) c.X.A (call (.ref f) us) (EP c.X aa Z Q) c.X.xe s:=by
 obtain ⟨f,fd,ps,hm,hk,hb,hF⟩:=h.ex
 refine ⟨f,hm,hk,λaa Z H Hf s us vs ds r Q I S rv rs hr q hx=>?_⟩
 have hF':bw c.X.prog c.X.w c.X.K c.X.mg c.X.base (cN c.X.prog c.X.w) k f fd ps (eE c.X.K F):=by rw [c.eP,c.ew,c.eK,c.emg,c.eb]; exact hF.mono hj
 have vz:eE c.X.K F vs H Q (λcv ao H'=>∃ C,r=.ex C/\cv=.ref C/\aL H H'):=by
  refine ⟨Hf,ds,r,S.bas.b,rs,hr,?_⟩
  cases r with
  | ok sl=>exact λv H' aj g rs2=>q sl v H' aj rfl rs2 g
  | ex C=>exact λa H' s2=>⟨C,rfl,rfl,s2⟩
 have hl:us.length=ps.length:=by rw [<- rv.length]; exact hF'.len _ _ _ _ vz
 have hb':Binds c.X.K fd ps []:=by rw [c.eK]; exact hb
 have hb2:=hb' s us I.qK (by simpa using hl)
 rw [Qv] at hb2
 refine S6 (TM (hF'.run c.X.A c.X.stack s H ⟨us,[]⟩ us vs Q _ c.room I.Ii hb2 rv vz) λr' s' hq=>?_)
 cases r' with
 | error e =>
  obtain ⟨a,C,H',rfl,hE,C',e1,e2,sm⟩:=hq
  cases e2
  exact c.exc C a aa Z H Hf Y s H' s' I S (hx C e1) hE sm
 | ok fl =>
  cases fl with
  | ret u=>exact I.after hq
  | next=>exact QA hq
  | brk=>exact QA hq
  | cont=>exact QA hq
theorem x_call {R:Sl->Prop} (h:fk P w K mg base j x F) (hj:j<=k)
 (ha:rj c (e::es) Y λds=>∃ r,F ds r/\KW c Y R r)
 (hg:sc.names.lookup x=some .globalImplicit:=by rfl') (hdb:Ndb x:=by decide) (he:∀ env,starEach (e::es) env=(false,eval e env)::starEach es env:=by symm)
 (hpl:∀ env,(backTo pos (starEach es env)).any (·.1)=false:=by symm):dU c (.Call (.Name x p) (e::es) [] pos) Y R:=λZ H Hf Q S q aa s I=>by
 obtain ⟨f,hm,hk,run⟩:=Es (c:=c) (Y:=Y) h hj
 refine Q0 (gG I (by unfold Gl P6; rw [c.esc]; exact hg) (by rw [c.emg]; exact hm) ?_ hdb)
 refine VH (h₀:=c.X.base) I.ok.mod.kin (by rw [c.eK]; exact hk) (bL (ha Z H Hf (λvs H1=>∃ aP ds,(∃ r,F ds r/\KW c Y R r)/\ak c.X.K aP ds vs/\bz H Hf H1 aP) S (λds vs H1 aP hr rs g=>⟨aP,ds,hr,rs,g⟩) pos aa s I) λus s1 hh=>z2 hh λvs H1 hh=>w3 hh λI1 rv hh=>z2 hh λaP ds hh=>w3 hh λhh rs g=>hh.elim λr hh=>w2 hh λhF hR=>⟨I1.qK,?_⟩) (he _) (hpl _)
 refine run aa Z H1 aP s1 us vs ds r Q I1 (S.cD g) rv rs hF (λsl v H' aj e1 rs2 g2=>?_) λC e1=>?_
 ·subst e1
  exact q sl v H' aj hR (rs2.weak λp hp=>g.s.free hp) (g.trans g2)
 ·subst e1
  exact hR
theorem aX (h:fk P w K mg base j x F) (hj:j<=k)
 (ha:rj c (e::es) Y λds=>∃ r,F ds r/\KW c Y (IC R) r)
 (hg:sc.names.lookup x=some .globalImplicit:=by rfl') (hdb:Ndb x:=by decide) (he:∀ env,starEach (e::es) env=(false,eval e env)::starEach es env:=by symm)
 (hpl:∀ env,(backTo pos (starEach es env)).any (·.1)=false:=by symm):aB c (.Call (.Name x p) (e::es) [] pos) Y R:=e_x (x_call h hj ha hg hdb he hpl)
noncomputable def gi (N:List Str) (ds:List D):List Sl:=ds.map .va++Pu (N.length - ds.length) .un
theorem rC (r:ak K fc ds vs) (sb:aL fc H₀):dN K H₀ fc (L2.start N vs) H₀ fc (gi N ds):=by
 have hl:=r.length
 refine ⟨.refl sb,by simp [L2.start,gi,hl],λi r' h hu=>?_,λi j r1 r2 p hne h1 h2 o1 o2=>?_⟩
 ·by_cases q:i<ds.length
  ·have e:(gi N ds)[i]?=some (.va ds[i]):=by
    unfold gi
    rw [Rc (by simpa using q)]; simp [q]
   rw [e] at h; cases h
   obtain ⟨x,e2,rx⟩:=r.get (i:=i) (d:=ds[i]) 'p'
   refine ⟨x,?_,rx⟩
   unfold L2.start
   rw [Rc (by simp; lia)]
   simp [e2]
  ·unfold gi at h
   rw [RA (by simp; lia)] at h
   have:=Rg h
   exact absurd (Ud this) hu
 ·exfalso
  unfold gi at h1
  by_cases q:i<(ds.map Sl.va).length
  ·rw [Rc q] at h1
   rw [Pr] at h1
   cases z:ds[i]? with
   | none=>rw [z] at h1; cases h1
   | some d=>rw [z] at h1; cases h1; cases o1
  ·rw [RA 'l'] at h1
   have e3:=Ud (Rg h1)
   subst e3; cases o1
abbrev FS (N P:List Str) (st:Stmt):Prop:=(aH st).kind=.function/\(aH st).isCoroutine=false/\(aH st).isGenerator=false/\N.Nodup/\N.take P.length=P/\(∀ x∈P,(aH st).names.lookup x=some .local\/(aH st).names.lookup x=some .cell)/\(∀ y∈(aH st).names,y.2≠.free)/\∀ x∈N,(aH st).names.lookup x=some .local\/(aH st).names.lookup x=some .cell
theorem vS {N P:List Str} {st:Stmt} (h:FS N P st):oZ N P (aH st)/\∀ x∈N,Loc (aH st) x:=⟨⟨h.1,h.2.1,h.2.2.1,h.2.2.2.1,h.2.2.2.2.1,h.2.2.2.2.2.1,h.2.2.2.2.2.2.1⟩,h.2.2.2.2.2.2.2⟩
theorem cP {st:Stmt} (Fu:d9 K x qual st f fd) (SV:FS N ps st) (ar:∀ ds r,F ds r->ds.length=ps.length)
 (hok:∀ ds r,F ds r->∃ sl,r=.ok sl)
 (body:∀ (c:Ctx P w K mg base k N (aH st) false),c.X.xe=(λ_ _=>False)->∀ ds sl,F ds (.ok sl)->aU c (ay st) (gi N ds) (λ_=>sl=.va .non) { rt:=λr=>r=sl }) :
 bw P w K mg base (cN P w) (k+1) f fd ps (eE K F):=by
 obtain ⟨Sc,Vi⟩:=vS SV
 obtain ⟨oc,od,kV,doc,pm,an,cdv,ct,osl,rfl,lk,hcd⟩:=Fu.ex
 refine vH lk hcd Sc (λvs H Q E ⟨Hf,ds,r,_,rs,hF,_⟩=>by rw [<- rs.length]; exact ar _ _ hF) λA outer s H vs Q E hr ⟨Hf,ds,r,sb,rs,hF,hq⟩=>?_
 obtain ⟨sl,rfl⟩:=hok _ _ hF
 let X:Cx:=(o7 (cN P w) P w K mg base N qual (aH st) f cdv A outer s H E).yf
 let c:Ctx P w K mg base k N (aH st) false :=
  { X:=X,eP:=rfl,ew:=rfl,eK:=rfl,emg:=rfl,eb:=rfl,eN:=rfl,esc:=rfl,calm:=rfl,top:=λ_=>⟨rfl,rfl,rfl⟩,cb:=λ_ _ _ _ _ I x c h=>I.ok.cab x c rfl h,fn:=λ_ _=>.inl rfl,B:=H,room:=hr,nd:=Sc.nd,vis:=Vi,Hf:=Hf,RX:=λ_ _=>False,
    exc:=λ_ _ _ _ _ _ _ _ _ _ _ _ h _ _=>h.elim,RM:=λ_ _=>False,mde:=λ_ _ _ _ _ _ _ _ _ _ _ _ h _=>h.elim }
 refine ⟨_,qQ.yf (t:=GO X (ay st)) (lB (X:=X)),?_⟩
 refine body c rfl ds sl hF (L2.start N vs) H Hf _ (rC rs sb) ⟨λZ H' aj Y S e=>?_,λr v H' aj g rv e=>?_,λ_ _ _ _ _ h=>h.elim,λ_ _ _ _ _ h=>h.elim⟩
 ·subst e
  exact hq .non H' aj S.bas (show Rep K aj .non .non from bM.mpr rfl)
 ·have e:r=sl:=e
  subst e
  exact hq v H' aj g rv
def LU (K:O7) (r:List V->Hp->VK->Prop) (p:List D->(Sl->Prop)->Prop):Prop :=
 ∀ (ds:List D) (vs:List V) (H Hf:Hp) (Q:VK) (R:Sl->Prop),aL Hf H->ak K Hf ds vs->p ds R->(∀ z v' H' aj,R z->bx K (λp=>H p=none) H' aj z v'->bz H Hf H' aj->Q v' H')->r vs H Q
theorem GU {id:String} {R:Sl->Prop} (hc:fy c.X (.type id) r) (hd:LU c.X.K r q) (hm:mg x=none) (hv:bootBuiltins x=some (.type id))
 (ha:rj c (e::es) Y λds=>q ds R) (hg:sc.names.lookup x=some .globalImplicit:=by rfl') (hn:x≠"__name__":=by decide) (hdb:Ndb x:=by decide)
 (he:∀ env,starEach (e::es) env=(false,eval e env)::starEach es env:=by symm) (hpl:∀ env,(backTo pos (starEach es env)).any (·.1)=false:=by symm):dU c (.Call (.Name x p) (e::es) [] pos) Y R:=λZ H Hf Q S qq =>
 bU (nG hc (by unfold Gl P6; rw [c.esc]; exact hg) (by rw [c.emg]; exact hm) hv GN hn hdb (he _) (hpl _))
  (ha Z H Hf _ S λds vs H1 aP h1 rs g=>hd ds vs H1 aP Q R g.b rs h1 λz v' H' aj hz rz g2=>qq z v' H' aj hz (rz.weak λp hp=>g.s.free hp) (g.trans g2))
theorem lF (h:ak K H [d] vs):∃ v,vs=[v]/\Rep K H d v:=by
 rw [aF] at h
 obtain ⟨x,r,rfl,h1,h2⟩:=h
 rw [aA] at h2; subst h2
 exact ⟨x,rfl,h1⟩
theorem LV (h:ak K H [d,d'] vs):∃ v v',vs=[v,v']/\Rep K H d v/\Rep K H d' v':=by
 rw [aF] at h
 obtain ⟨x,r,rfl,h1,h2⟩:=h
 obtain ⟨y,rfl,h3⟩:=lF h2
 exact ⟨x,y,rfl,h1,h3⟩
def AS (K:O7) (r:List V->Hp->VK->Prop) (p:List D->(D->Prop)->Prop):Prop :=
 ∀ (ds:List D) (vs:List V) (H Hf:Hp) (Q:VK) (R:D->Prop),aL Hf H->ak K Hf ds vs->p ds R->(∀ d v H' aj,R d->Rep K aj d v->bz H Hf H' aj->Q v H')->r vs H Q
theorem rD {id:String} (hc:fy c.X (.builtin id) r) (hd:AS c.X.K r q) (hm:mg x=none) (hv:bootBuiltins x=some (.builtin id))
 (ha:rj c (e::es) Y λds=>q ds R) (hg:sc.names.lookup x=some .globalImplicit) (hn:x≠"__name__") (hdb:Ndb x)
 (he:∀ env,starEach (e::es) env=(false,eval e env)::starEach es env) (hpl:∀ env,(backTo pos (starEach es env)).any (·.1)=false):aB c (.Call (.Name x p) (e::es) [] pos) Y R:=λZ H Hf Q S qq =>
 bU (Al hc (by unfold Gl P6; rw [c.esc]; exact hg) (by rw [c.emg]; exact hm) hv GN hn hdb (he _) (hpl _))
  (ha Z H Hf _ S λds vs H1 aP h1 rs g=>hd ds vs H1 aP Q R g.b rs h1 λz v' H' aj hz rz g2=>qq z v' H' aj hz rz (g.trans g2))
theorem LW {id:String} (hc:fy c.X (.type id) r) (hd:AS c.X.K r q) (hm:mg x=none) (hv:bootBuiltins x=some (.type id))
 (ha:rj c (e::es) Y λds=>q ds R) (hg:sc.names.lookup x=some .globalImplicit) (hn:x≠"__name__") (hdb:Ndb x)
 (he:∀ env,starEach (e::es) env=(false,eval e env)::starEach es env) (hpl:∀ env,(backTo pos (starEach es env)).any (·.1)=false):aB c (.Call (.Name x p) (e::es) [] pos) Y R:=λZ H Hf Q S qq =>
 bU (nG hc (by unfold Gl P6; rw [c.esc]; exact hg) (by rw [c.emg]; exact hm) hv GN hn hdb (he _) (hpl _))
  (ha Z H Hf _ S λds vs H1 aP h1 rs g=>hd ds vs H1 aP Q R g.b rs h1 λz v' H' aj hz rz g2=>qq z v' H' aj hz rz (g.trans g2))
end
end EV
namespace EV
open PySem PySem.Spec PySem.Calls PyProof.Rows L2
theorem pH (x:bf P w H h a o):∃ u,h.get? a=some u:=by
 cases o with
 | lst xs=>obtain ⟨_,_,_,_,e⟩:=x; exact ⟨_,e⟩
 | tup xs=>obtain ⟨_,_,_,ob,e,_⟩:=x; exact ⟨_,e⟩
 | dK kvs=>obtain ⟨_,_,_,_,o,_,_,e,_⟩:=x; exact ⟨_,e⟩
 | dT kvs=>obtain ⟨_,_,_,_,o,_,_,e,_⟩:=x; exact ⟨_,e⟩
 | set S n=>obtain ⟨o,_,_,_,e,_⟩:=x; exact ⟨_,e⟩
 | ins C dx fs=>obtain ⟨_,_,_,e,_⟩:=x; exact ⟨_,e⟩
 | own y=>exact x
 | xd fs=>obtain ⟨_,⟨_,_,_,e,_⟩,_⟩:=x; exact ⟨_,e⟩
 | rng lo hi=>obtain ⟨_,_,_,e⟩:=x; exact ⟨_,e⟩
 | frz ob u=>obtain ⟨e,_⟩:=x; exact ⟨_,e⟩
 | tbl ps=>exact ⟨_,x⟩
 | met f y=>exact ⟨_,x⟩
 | ext φ =>exact x.2.1
section
variable {K:O7}
noncomputable abbrev GV (P:Program) (w:World) (K:O7) (mg:Str->Option Value) (base:Heap) (N:List Str) (qual:Str) (scope:Scope) (f:Addr) (cd:Value) (A:Around) (outer:List Env) (s:Shared) (H:Hp) (E:XK):Cx :=
 o7 (cN P w) P w K mg base N qual scope f cd A outer s H E
theorem ko (he:env∈l) (hf:env.frame=some a):a∈frs l:=Rr.mpr ⟨env,he,hf⟩
theorem gH (I:Inv (GV P w K mg base N qual scope f cd A outer s H E) aa Z H1 s1) (e:s.heap.get? b=some o) (hb:b∉frs outer) :
 b∉frs (envOfC qual scope s.heap.objs.size f cd::outer):=λm=>by
 rcases Rr.mp m with ⟨env,he,hf⟩
 rcases Pg.mp he with rfl | he
 ·have:b=s.heap.objs.size:=(QU hf).symm
  subst this
  exact absurd (Pf e) (QJ _)
 ·exact hb (ko he hf)
theorem bf.GW (hok:ig P w H h) (k:∀ b o,H b≠none->h.get? b=some o->h'.get? b=some o):ig P w H h':=λa o e =>
 (hok a o e).stay (λb u hb q=>by
  rcases hb with rfl | hb
  ·exact k _ _ (by rw [e]; simp) q
  ·exact k _ _ (by rw [hb]; simp) q) (λ_ q=>q) λ_ _ q=>q
theorem rE (I:Inv (GV P w K mg base N qual scope f cd A outer s H E) aa Z H1 s1)
 (hx:Heap.MadeExcOf s1.heap h' a (.ref C) us) (hE:E (.ref C) (some a) H1):(GV P w K mg base N qual scope f cd A outer s H E).xe (.ref a) { s1 with heap:=h' }:=by
 have hb0:I.ok.mod=I.ok.mod:=rfl
 let env:Env:=envOfC qual scope s.heap.objs.size f cd
 have hst:(GV P w K mg base N qual scope f cd A outer s H E).stack=env::outer:=rfl
 have FF:s1.heap.FunFrames base (env::outer):=I.stack
 have hin:∀ e∈(env::outer),∀ b,e.frame=some b->b∈frs (env::outer):=λe he b hb=>ko he hb
 let B:Heap:=PySem.W.hideAll s1.heap (frs (env::outer))
 have hkb:B.StaysIn s1.heap:=λb o q=>PySem.W.of_hideAll _ q
 have inB:∀ b o,s1.heap.get? b=some o->b∉frs (env::outer)->B.get? b=some o:=λb o e hb=>PySem.W.hideAll_get _ e hb
 show wpAny (model P w) (A.deeper env) (leaving env (.ref a)) (λ_ s''=>cN P w outer H s E (.ref a) s'') (λe' s''=>cN P w outer H s E e' s'') { s1 with heap:=h' }
 refine wpAny_leaves_madeW (base:=B) (h:=s1.heap) (outer:=outer) (L:=s.heap.objs.size) I.ok.frames rfl hkb (PySem.W.funFrames_hide FF hin) hx λh2 t fl tup tn up=>?_
 have old:∀ b o,s.heap.get? b=some o->∃ o',s1.heap.get? b=some o':=λb o e=>I.base.there b o e (by intro z; cases z)
 have tr:∀ b o,H1 b≠none->s1.heap.get? b=some o->B.get? b=some o:=λb o hn e=>inB b o e λm=>hn (I.j8 b m)
 refine ⟨a,C,H1,rfl,⟨I.os,I.bare,⟨λb o e n hb hx'=>?_,λb o e n hb hx'=>?_,λb o e n hx'=>I.base.free b o e n hx',λb o e hx'=>?_,I.base.tups,I.base.frzs,I.base.tbls⟩,?_,?_,?_,t,B,fl,λb o e hb=>?_,λb o hn e=>?_⟩,hE⟩
 ·exact fl.1 b o (inB b o (I.base.keep b o e n hb hx') (gH I e hb))
 ·obtain ⟨sl,e1⟩:=I.base.slot b o e n hb hx'
  have hm:b∈frs (env::outer):=by
   obtain ⟨e',he,hf⟩:=Rr.mp hb
   exact ko (Ph _ he) hf
  obtain ⟨_,o3,e3,nf⟩:=FF.mem hm
  obtain ⟨sl2,e2⟩:=up b _ (hx.keeps b _ e1) (by rw [e1] at e3; cases e3; exact nf)
  exact ⟨sl2,e2⟩
 ·obtain ⟨o',e1⟩:=old b o e
  by_cases hb:b∈frs (env::outer)
  ·obtain ⟨_,o3,e3,nf⟩:=FF.mem hb
   rw [e1] at e3; cases e3
   obtain ⟨sl2,e2⟩:=up b _ (hx.keeps b _ e1) nf
   exact ⟨_,e2⟩
  ·exact ⟨o',fl.1 b o' (inB b o' e1 hb)⟩
 ·exact bf.GW I.hok λb o hn e=>fl.1 b o (tr b o hn e)
 ·cases q:s.heap.get? a with
  | none=>rfl
  | some o=>obtain ⟨o',e1⟩:=old a o q; rw [hx.new] at e1; cases e1
 ·cases q:H1 a with
  | none=>rfl
  | some o =>
   obtain ⟨o',e⟩:=pH (I.hok a o q)
   rw [hx.new] at e; cases e
 ·obtain ⟨o',e1⟩:=old b o e
  have e2:=inB b o' e1 (gH I e hb)
  exact ⟨o',fl.1 b o' e2,e2⟩
 ·cases z:s1.heap.get? b with
  | none =>
   cases q:H1 b with
   | none=>exact absurd q hn
   | some u =>
    obtain ⟨o',e'⟩:=pH (I.hok b u q)
    rw [z] at e'; cases e'
  | some o' =>
   have e1:=tr b o' hn z
   have e2:=fl.1 b o' e1
   rw [e] at e2; cases e2
   exact e1
theorem rF (I:Inv (GV P w K mg base N qual scope f cd A outer s H E) aa Z H1 s1)
 (X:Eh P w (GV P w K mg base N qual scope f cd A outer s H E).stack H1 s1 a C H' s') (hE:E (.ref C) (some a) H'):(GV P w K mg base N qual scope f cd A outer s H E).xe (.ref a) s':=by
 let env:Env:=envOfC qual scope s.heap.objs.size f cd
 obtain ⟨os,bare,un,hok,new,free,t,B,fl,cov,tr⟩:=X
 show wpAny (model P w) (A.deeper env) (leaving env (.ref a)) (λ_ s''=>cN P w outer H s E (.ref a) s'') (λe' s''=>cN P w outer H s E e' s'') s'
 have FF:s'.heap.FunFrames B (env::outer):=fl.2.2.1
 refine wpAny_leaves_onW (outer:=outer) (L:=s.heap.objs.size) I.ok.frames rfl fl λh2 fl2 up=>?_
 have old:∀ b o,s.heap.get? b=some o->∃ o',s1.heap.get? b=some o':=λb o e=>I.base.there b o e (by intro z; cases z)
 refine ⟨a,C,H',rfl,⟨os.trans I.os,bare,⟨λb o e n hb hx'=>?_,λb o e n hb hx'=>?_,λb o e n hx'=>?_,λb o e hx'=>?_,λb xs q=>un.tups b xs (I.base.tups b xs q),λb o u q=>un.frzs b o u (I.base.frzs b o u q),λb ps q=>?_⟩,?_,?_,free,t,B,fl2,λb o e hb=>?_,λb o hn e=>?_⟩,hE⟩
 ·have e1:=I.base.keep b o e n hb hx'
  have nf:=gH I e hb
  have e2:=un.keep b o e1 (I.base.free b o e n hx') nf (by intro z; cases z)
  obtain ⟨o',e3,e4⟩:=cov b o e1 nf
  rw [e2] at e3; cases e3
  exact fl2.1 b o e4
 ·obtain ⟨sl,e1⟩:=I.base.slot b o e n hb hx'
  have hm:b∈frs (env::outer):=by
   obtain ⟨e',he,hf⟩:=Rr.mp hb
   exact ko (Ph _ he) hf
  obtain ⟨sl1,e2⟩:=un.slot b _ e1 (I.base.free b o e n hx') hm (by intro z; cases z)
  obtain ⟨_,o3,e3,nf⟩:=FF.mem hm
  obtain ⟨sl2,e4⟩:=up b _ e2 (by rw [e2] at e3; cases e3; exact nf)
  exact ⟨sl2,e4⟩
 ·obtain ⟨o',e1⟩:=old b o e
  exact un.free b o' e1 (I.base.free b o e n hx') (by intro z; cases z)
 ·obtain ⟨o',e1⟩:=old b o e
  by_cases hb:b∈frs (env::outer)
  ·obtain ⟨o2,e2⟩:=un.there b o' e1 (by intro z; cases z)
   obtain ⟨_,o3,e3,nf⟩:=FF.mem hb
   rw [e2] at e3; cases e3
   obtain ⟨sl2,e4⟩:=up b _ e2 nf
   exact ⟨_,e4⟩
  ·obtain ⟨o2,e2,e3⟩:=cov b o' e1 hb
   exact ⟨o2,fl2.1 b o2 e3⟩
 ·obtain ⟨m1,e1⟩:=I.base.tbls b ps q
  obtain ⟨m2,e2⟩:=un.tbls b _ e1
  exact ⟨m1++m2,by rw [e2,VM]⟩
 ·exact bf.GW hok λb o hn e=>fl2.1 b o (tr b o hn e)
 ·cases q:s.heap.get? a with
  | none=>rfl
  | some o=>obtain ⟨o',e1⟩:=old a o q; rw [new] at e1; cases e1
 ·obtain ⟨o',e1⟩:=old b o e
  obtain ⟨o2,e2,e3⟩:=cov b o' e1 (gH I e hb)
  exact ⟨o2,fl2.1 b o2 e3,e3⟩
 ·cases q:H' b with
  | none=>exact absurd q hn
  | some u =>
   obtain ⟨o',e'⟩:=pH (hok b u q)
   have e1:=tr b o' hn e'
   have e2:=fl2.1 b o' e1
   rw [e] at e2; cases e2
   exact e1
theorem Od {st:Stmt} (Fu:d9 K x qual st f fd) (SV:FS N ps st) (ar:∀ ds r,F ds r->ds.length=ps.length)
 (body:∀ (c:Ctx P w K mg base k N (aH st) false) ds r,F ds r->(∀ C Y,r=.ex C->c.RX C Y)->(∀ C Y,r=.ex C->c.RM C Y)->aU c (ay st) (gi N ds) (λ_=>r=.ok (.va .non)) { rt:=λsl=>r=.ok sl }) :
 bw P w K mg base (cN P w) (k+1) f fd ps (eE K F):=by
 obtain ⟨Sc,Vi⟩:=vS SV
 obtain ⟨oc,od,kV,doc,pm,an,cdv,ct,osl,rfl,lk,hcd⟩:=Fu.ex
 refine vH lk hcd Sc (λvs H Q E ⟨Hf,ds,r,_,rs,hF,_⟩=>by rw [<- rs.length]; exact ar _ _ hF) λA outer s H vs Q E hr ⟨Hf,ds,r,sb,rs,hF,hq⟩=>?_
 let X:Cx:=GV P w K mg base N qual (aH st) f cdv A outer s H E
 have hEx:∀ (C a:Addr) (H':Hp),r=.ex C->aL H H'->E (.ref C) (some a) H':=λC a H' e sm=>by
  subst e
  exact hq a H' sm
 let c:Ctx P w K mg base k N (aH st) false :=
  { X:=X,eP:=rfl,ew:=rfl,eK:=rfl,emg:=rfl,eb:=rfl,eN:=rfl,esc:=rfl,calm:=rfl,top:=λ_=>⟨rfl,rfl,rfl⟩,cb:=λ_ _ _ _ _ I x c h=>I.ok.cab x c rfl h,fn:=λ_ _=>.inl rfl,B:=H,room:=hr,nd:=Sc.nd,vis:=Vi,Hf:=Hf,RX:=λC _=>r=.ex C,RM:=λC _=>r=.ex C,
    exc:=λC a aa Z H1 aP Y s1 H' s' I S h X sm=>rF I X (hEx C a H' h (S.bas.s.trans sm))
    mde:=λC a aa Z H1 aP Y s1 h' us I S h hx=>rE I hx (hEx C a H1 h S.bas.s) }
 refine ⟨_,lB (X:=X),?_⟩
 refine body c ds r hF (λC _ h=>h) (λC _ h=>h) (L2.start N vs) H Hf _ (rC rs sb) ⟨λZ H' aj Y S e=>?_,λsl v H' aj g rv e=>?_,λ_ _ _ _ _ h=>h.elim,λ_ _ _ _ _ h=>h.elim⟩
 ·subst e
  exact hq .non H' aj S.bas (show Rep K aj .non .non from bM.mpr rfl)
 ·have e:r=.ok sl:=e
  subst e
  exact hq v H' aj g rv
noncomputable def Ctx.yf {k:Nat} {sc:Scope} {bk:Bool} (c:Ctx P w K mg base k N sc bk):Ctx P w K mg base k N sc bk :=
 { X:=c.X.yf,eP:=c.eP,ew:=c.ew,eK:=c.eK,emg:=c.emg,eb:=c.eb,eN:=c.eN,esc:=c.esc,calm:=c.calm,top:=c.top,cb:=λhb aa Z H s I=>c.cb hb aa Z H s I.fN,fn:=c.fn,room:=c.room,nd:=c.nd,vis:=c.vis,B:=c.B,Hf:=c.Hf,RX:=λ_ _=>False,RM:=λ_ _=>False,
   exc:=λ_ _ _ _ _ _ _ _ _ _ _ _ h _ _=>h.elim,mde:=λ_ _ _ _ _ _ _ _ _ _ _ _ h _=>h.elim }
theorem II {c:Ctx P w K mg base k N sc bk} (h:∀ c':Ctx P w K mg base k N sc bk,c'.X.xe=(λ_ _=>False)->aU c' sts Y nx p):aU c sts Y nx p:=λZ H Hf D S o aa s I =>
 qQ.yf (X:=c.X) (lB (X:=c.X.yf)) aa s Z H D I (h c.yf rfl Z H Hf D S ⟨o.nx,o.rt,o.bk,o.ct⟩)
end
def yw:List Value:=[.type "ValueError",.type "Exception",.type "BaseException",.type "object"]
section
variable {K:O7} {c:Ctx P w K mg base k N sc bk}
theorem Et (X:K.In h) (q:SY K C yw "ValueError.__new__"=true) :
 ∃ bm N nm q bs hdct sn sub ab col dd k0 k1 k2 k3 k5 mN,h.get? C=some (excClassObj nm q C N bs bm hdct sn sub ab col dd k0 k1 k2 k3 k5 "ValueError.__new__")/\h.Ns N mN/\mN "__init__"=none/\OwnTail h yw bm:=by
 unfold SY at q
 split at q
 ·rename_i dd cd sl ho
  split at q
  ·rename_i C' bm k0 k1 k2 k3 n k5 hm hs
   simp only [SS,beq_iff_eq,Bool.not_eq_true'] at q
   obtain ⟨⟨⟨⟨⟨rfl,rfl⟩,hdel⟩,ht⟩,hok⟩,hni⟩:=q
   obtain ⟨nm,bs,mro,ns,qn,hd,sn,sub,ab,col,del⟩:=cd
   dsimp only at hm hdel hok hni
   subst hm hdel
   have hsl:sl= #[k0,k1,k2,k3,some (.builtin "ValueError.__new__"),k5]:=by
    obtain ⟨l⟩:=sl
    simp only at hs
    rw [hs]
   subst hsl
   exact ⟨bm,ns,nm,qn,bs,hd,sn,sub,ab,col,dd,k0,k1,k2,k3,k5,_,X _ _ ho,.of_isNs (PySem.W.isNs_of_in X hok),PySem.W.nsMap_none_of_in X hok hni,PySem.W.tail_of_in X ht⟩
  ·cases q
 ·cases q
theorem Eu (hm:mg x=some (.ref C)) (q:SY K C yw "ValueError.__new__"=true) (h:aB c e Y λ_=>c.RM C Y)
 (hg:sc.names.lookup x=some .globalImplicit:=by rfl') (hdb:Ndb x:=by decide)
 (he:∀ env,starEach [e] env=(false,eval e env)::starEach [] env:=by symm) (hpl:∀ env,(backTo cpos (starEach [e] env)).any (·.1)=false:=by symm) :
 fm c (.Raise (some (.Call (.Name x np) [e] [] cpos)) none pos) Y nx p:=λZ H Hf D S o aa s I=>by
 have KX:K.In c.X.base:=by
  have z:c.X.K.In c.X.base:=I.ok.mod.kin
  rw [c.eK] at z
  exact z
 obtain ⟨tl,Nn,nm,qq,bs,hdct,sn,sub,ab,col,dd,k0,k1,k2,k3,k5,mN,hC,hN,hni,T⟩:=Et KX q
 refine wpAny_Raise_call_subT (C:=C) (nm:=nm) (q:=qq) (N:=Nn) (bs:=bs) (bm:=tl) (hdct:=hdct) (sn:=sn) (sub:=sub) (ab:=ab) (col:=col) (dd:=dd) (k0:=k0) (k1:=k1) (k2:=k2) (k3:=k3) (k5:=k5)
  PySem.F.excBase_ValueError (mN:=mN) (T.hasType PySem.F.excBase_ValueError.hasBase) (I.ok.hd c.calm) (hpl _) hni (gG I (by unfold Gl P6; rw [c.esc]; exact hg) (by rw [c.emg]; exact hm) ⟨rfl,?_⟩ hdb)
 have hs:=ri (bC cI cM (he _)) (Q:=λvs H1=>∃ aP,c.RM C Y/\bz H Hf H1 aP/\vs.length=1) (h Z H Hf _ S λd v H' aj hR r g=>⟨aj,hR,g,rfl⟩) cpos aa s I
 rw [he] at hs |-
 refine Vy (bL hs λus s2 ⟨vs,H2,I2,rv,cL,hR,g,hl⟩=>?_)
 have hlen:us.length=1:=by rw [<- rv.length]; exact hl
 exact ⟨rfl,by rw [hlen]; decide,I2.bk _ _ hC,hN.keeps I2.bk,T.keeps I2.bk,λh' a hx=>c.mde C a aa Z H2 cL Y s2 h' us I2 (S.cD g) hR hx⟩
end
open PySem.W Builtin Builtin.ObjectAttr Builtin.Getset_descriptor
structure LX (K:O7) (C:Addr):Prop where
 ga:Q6 K (.ref C) "__getattribute__"=some (some (.builtin "BaseException.__getattribute__"))
 hk:Q6 K (.ref C) "__getattr__"=some none
 ca:Q6 K (.ref C) "__class__"=some (some (.builtin "object.__class__"))
 gt:Ur K (.builtin "object.__class__") "__get__"=some (some (.builtin "getset_descriptor.__get__"))
 tk:PySem.W.takesIn K (.builtin "object.__class__")=some true
 mo:SX K C (.type "object")=some true
 mb:SX K C (.type "BaseException")=some true
section
variable {prog:Program} {w:World} {A:Around} {E:Value->Shared->Prop} {s:Shared} {K:O7} {x C:Addr} {R:Result->Shared->Prop}
theorem vU (p:fh x C h):Looks M h (typeOf (.ref x)) (.ref C):=by
 obtain ⟨o,ho,hc,_⟩:=p
 rw [<- hc]
 exact (Looks.ld ho).andThen .now
theorem ni (X:K.In s.heap) (L:Looks (model prog w) s.heap (typeOf (.ref x)) (.ref C)) (hm:SX K C (.type "object")=some true)
 (h:R (.ok (.ret (.ref C))) s):codeAny (model prog w) A (.call (.builtin "getset_descriptor.__get__") ⟨[.builtin "object.__class__",.ref x,tp],[]⟩) R s:=by
 obtain ⟨hh,g,dr,t,os⟩:=s
 have L0:=L
 have L1:=looks_mroIn (M:=model prog w) X hm
 refine Vw KF.slot_gs.plain KF.entry_gs (KF.slot_gs.check _ _ _ _ _ _ _ _ KF.type_class (KF.args_gs _ _ _) ?_)
 unfold Builtin.«getset_descriptor.__get__» descrGet
 rw [dga_obj]
 refine O6 (O8 ?_)
 unfold descrGetter descrCheckInstance descrNameAndClass isInstance
 simp only [KF.owner_class]
 repeat lk
 refine ⟨Code.quiet_builtin _ (by decide +kernel),Rt KF.entry_class ?_⟩
 unfold Builtin.«object.__class__» shownTypeOf
 repeat lk
 exact h
theorem AU (X:K.In h) (k:LX K C):Looks M h (find (.ref x) (.ref C) "__class__") (.bind (.builtin "getset_descriptor.__get__") (.builtin "object.__class__")):=by
 have L1:=looks_findIn (M:=M) X k.ca
 have L2:Looks M h (getOf (some (.builtin "object.__class__"))) (some (.builtin "getset_descriptor.__get__")):=looks_specialIn X k.gt
 have L3:=looks_takesIn (M:=M) X k.tk
 unfold find
 refine L1.andThen (L2.andThen ?_)
 refine Looks.andThen (a:=some (.builtin "getset_descriptor.__get__",.builtin "object.__class__")) ?_ (Looks.tag .now)
 unfold dataDescriptor?
 exact L3.andThen .now
theorem yx (X:K.In s.heap) (p:fh x C s.heap) (k:LX K C) (h:Q (some (.ref C)) { s with toks:=s.toks+1 }):wpAny (model prog w) A (getAttr? (.ref x) "__class__") Q E s:=by
 obtain ⟨hh,g,d,t,os⟩:=s
 have L0:Looks (model prog w) hh (typeOf (.ref x)) (.ref C):=vU p
 have L1:=looks_findIn (M:=model prog w) X k.ga
 have L2:=looks_findIn (M:=model prog w) X k.hk
 have L3:=looks_mroIn (M:=model prog w) X k.mb
 have L4:=AU (M:=model prog w) (x:=x) X k
 unfold getAttr? getAttrBy? getAttrBy
 refine O6 (wpAny_mkText (O6 (Sg (Qw (O6 (L0.at (O6 (L1.at ?_))))))))
 dsimp only
 have hx2:(Value.builtin "BaseException.__getattribute__" == Value.builtin "object.__getattribute__")=false:=by decide +kernel
 rw [hx2,Bool.and_false,if_neg Pp]
 unfold getAttrByItsOwn hookBefore
 rw [if_pos (by rfl)]
 refine O6 (L2.at ?_)
 refine O6 (Sg (Qw ?_))
 unfold callGetattribute
 rw [if_neg 'p']
 unfold boundAndCalled
 have f3:=PySem.F.attrBase_ValueError.ga.bind (.ref x)
 rw [f3]
 refine O6 (O8 ?_)
 refine S6 (Vw PySem.F.attrBase_ValueError.ga.plain PySem.F.entry_bexc_ga ?_)
 have hk:builtinKind "BaseException.__getattribute__"=some .slot:=by decide +kernel
 have hsplit:splitId "BaseException.__getattribute__"=some ("BaseException","__getattribute__"):=by decide +kernel
 have ha:=PySem.F.args_bexc_ga (.ref x) (T6 "__class__" t)
 simp only [checkBuiltinCall,hk,hsplit]
 dsimp only [R9,Tt]
 have LI:Looks (model prog w) hh (isInstance (.ref x) (.type "BaseException")) true:=L0.andThen L3
 refine O6 (LI.at ?_)
 rw [if_neg 'd']
 refine Qd (Q:=λ_ s1=>s1=⟨hh,g,d,t+1,os⟩) (E:=λ_ _=>False) ?_ (λ_ s1 e1=>?_) (λ_ _ z=>z.elim)
 ·repeat (any_goals (first | assumption | rfl | wp_step))
 subst e1
 unfold «object.__getattribute__»
 repeat (first | with_reducible refine S6 ?_ | lk)
 refine ni X L0 k.mo ?_
 repeat lk
 exact h
theorem AV (k:LX K C):PySem.W.KitX K (.ref x) (.ref C) (fh x C) where
 ty:=λ_ _ _ p=>vU p
 it:=λ_ _ X _=>by
  have hdct:∃ cd,Rm K C=some cd:=by
   obtain ⟨cd,h1,_⟩:=Vh.mp (show (Rm K C).bind _=some true from k.mo)
   exact ⟨cd,h1⟩
  obtain ⟨cdD,hcD⟩:=hdct
  unfold Rm at hcD
  split at hcD
  ·rename_i c' d' cd' sl' ho
   intro A' Q' E' s' k q
   unfold isType loadHead
   exact O6 (wpAny_loadPart (k _ _ (X _ _ ho)) (O8 q))
  ·cases hcD
 ne:=λh tp dd its n sl X htp=>by
  obtain ⟨cdD,hcD,_⟩:=Vh.mp (show (Rm K C).bind _=some true from k.mo)
  refine Bool.eq_false_iff.mpr λq=>?_
  have e:C=tp:=Px.inj (beq_iff_eq.mp q)
  subst e
  unfold Rm at hcD
  split at hcD
  ·rename_i c' d' cd' sl' ho
   have z:=(X _ _ ho).symm.trans htp
   cases z
  ·cases hcD
 ca:=λX p h=>yx X p k h
end
inductive yy (K:O7):D->Value->Prop where
 | non:yy K .non (.type "NoneType")
 | bl {x:Bool}:yy K (.bl x) (.type "bool")
 | int {i:Int}:yy K (.int i) (.type "int")
 | str {x:Str}:yy K (.str x) (.type "str")
 | lst {ds:List EV.D}:yy K (.lst ds) (.type "list")
 | tup {ds:List EV.D}:yy K (.tup ds) (.type "tuple")
 | exc {C:Addr} (k:LX K C):yy K (.exc C) (.ref C)
theorem Ew (I:Inv X aa Z H s) (sb:aL Hf H) (rx:RelV v u) (rd:Rep X.K Hf d v) (ty:yy X.K d t) (e:Qq X.K t cv=some b) (h:∀ tk,Q (.bool b) { s with toks:=tk }) :
 wpAny (model X.prog X.w) A (call (.builtin "isinstance") [u,cv]) Q E s:=by
 cases ty with
 | non=>rw [bM] at rd; subst rd; cases (show u=QK from rx); exact Sb PySem.W.kitx_none I.qK Rb e (λz=>nomatch z) h
 | bl=>rw [cG] at rd; subst rd; cases (show u=RS _ from rx); exact Sb PySem.W.kitx_bool I.qK Rb e (λz=>nomatch z) h
 | int=>rw [au] at rd; subst rd; obtain ⟨t,q⟩:=(show ∃ t,u=RU _ t from rx); cases q; exact Sb PySem.W.kitx_int I.qK Rb e (λz=>nomatch z) h
 | str=>rw [c8] at rd; subst rd; obtain ⟨t,q⟩:=(show ∃ t,u=T6 _ t from rx); cases q; exact Sb PySem.W.kitx_str I.qK Rb e (λz=>nomatch z) h
 | lst =>
  rw [bh] at rd
  obtain ⟨a,xs,rfl,h1,_⟩:=rd
  cases (show u=Px a from rx)
  obtain ⟨its,_,p,_⟩:=I.list (sb.seq h1)
  obtain ⟨o,n1,p1,p2,_⟩:=p
  exact Sb PySem.W.kitx_list I.qK ⟨o,p1,p2⟩ e (λz=>nomatch z) h
 | tup =>
  rw [aI] at rd
  obtain ⟨a,xs,rfl,h1,_⟩:=rd
  cases (show u=Px a from rx)
  obtain ⟨its,_,p,_⟩:=I.tuple (az sb h1)
  obtain ⟨o,p1,p2,_⟩:=p
  exact Sb PySem.W.kitx_tuple I.qK ⟨o,p1,p2⟩ e (λz=>nomatch z) h
 | @exc C k =>
  rw [ki] at rd
  obtain ⟨a,rfl,h1⟩:=rd
  cases (show u=Px a from rx)
  have p:fh a C s.heap:=(show bf X.prog X.w H s.heap a (.ext (fh a C)) from I.hok a _ (sb _ _ h1)).1
  exact Sb (AV k) I.qK p e (λz=>nomatch z) h
section
variable {K:O7} {c:Ctx P w K mg base k N sc bk}
def gI (mg:Str->Option Value) (x:Str) (cv:Value):Prop:=(∃ C,cv=.ref C/\mg x=some (.ref C))\/(∃ T,cv=.type T/\mg x=none/\bootBuiltins x=some (.type T)/\x≠"__name__")
theorem yz:bootBuiltins "isinstance"=some (.builtin "isinstance"):=by decide +kernel
theorem iu (hm:mg "isinstance"=none) (hc:gI mg x cv) (h:aB c e Y λd=>∃ t b,yy K d t/\Qq K t cv=some b/\R (.bl b))
 (hgi:sc.names.lookup (O5 "isinstance")=some .globalImplicit:=by rfl') (hgx:sc.names.lookup x=some .globalImplicit:=by rfl') (hdx:Ndb x:=by decide)
 (he:∀ env,starEach [e,.Name x cp] env=(false,eval e env)::starEach [.Name x cp] env:=by symm) (he2:∀ env,starEach [.Name x cp] env=[(false,eval (.Name x cp) env)]:=by symm)
 (hpl:∀ env,(backTo pos (starEach [.Name x cp] env)).any (·.1)=false:=by symm):aB c (.Call (.Name "isinstance" np) [e,.Name x cp] [] pos) Y R:=λZ H Hf Q S q aa s I=>by
 refine Q0 (cX I (by unfold Gl P6; rw [c.esc]; exact hgi) (by rw [c.emg]; exact hm) yz ?_ 'd' 'd')
 have hx:∀ (s1:Shared) (H1:Hp) (Q':Value->Shared->Prop),Inv c.X aa Z H1 s1->Q' cv s1->wpAny (model c.X.prog c.X.w) c.X.A (eval (.Name x cp) c.X.env) Q' c.X.xe s1:=λs1 H1 Q' I1 q'=>by
  rcases hc with ⟨C,rfl,hm'⟩ | ⟨T,rfl,hm',hb,hn⟩
  ·exact gG I1 (by unfold Gl P6; rw [c.esc]; exact hgx) (by rw [c.emg]; exact hm') q' hdx
  ·exact cX I1 (by unfold Gl P6; rw [c.esc]; exact hgx) (by rw [c.emg]; exact hm') hb q' hn hdx
 refine U4 (spliced_more (h Z H Hf (λv H1=>∃ d aP,(∃ t b,yy K d t/\Qq K t cv=some b/\R (.bl b))/\Rep c.X.K aP d v/\bz H Hf H1 aP) S (λd v H' aj hR r g=>⟨d,aj,hR,r,g⟩) aa s I |> (bL · λu s1 hh=>z2 hh λv H1 hh=>w3 hh λI1 rv hh=>z2 hh λd aP hh=>w3 hh λhh rd g=>z2 hh λt b hh=>w3 hh λty ek hR=>?_)) (he _)) (he _) (hpl _)
 refine spliced_more (hx s1 H1 _ I1 (spliced_none ?_)) (he2 _)
 refine Ew I1 g.b rv rd (by rw [c.eK]; exact ty) (by rw [c.eK]; exact ek) λtk=>?_
 exact ⟨.bl b,H1,I1.tok tk,rfl,q _ _ H1 aP hR (cG.mpr rfl) g⟩
end
section
variable {X:Cx}
theorem pI (I:Inv X aa Z H s) (sb:aL Hf H):∀ (n:Nat) (d e:D) (v:V),lD n d e->Rep X.K Hf d v->Rep X.K Hf e v->d=e:=by
 intro n
 induction n with
 | zero =>
  intro d e v h r1 r2
  cases h with
  | sc h=>cases d <;> cases e <;> (first|(cases (show false=true from h); done)|clear h) <;> simp_all [Rep]
  | ln=>rw [bM] at r2; subst r2; rw [bh] at r1; obtain ⟨_,_,e,_⟩:=r1; cases e
  | nl=>rw [bM] at r1; subst r1; rw [bh] at r2; obtain ⟨_,_,e,_⟩:=r2; cases e
  | tn=>rw [bM] at r2; subst r2; rw [aI] at r1; obtain ⟨_,_,e,_⟩:=r1; cases e
  | nt=>rw [bM] at r1; subst r1; rw [aI] at r2; obtain ⟨_,_,e,_⟩:=r2; cases e
 | succ n ih =>
  have els:∀ (ds es:List D) (xs:List V),(∀ (i:Nat) (d e:D),ds[i]?=some d->es[i]?=some e->lD n d e)->ak X.K Hf ds xs->ak X.K Hf es xs->ds=es:=λds es xs h q1 q2=>by
   apply Tq
   intro i
   cases a:ds[i]? with
   | none =>
    have:ds.length<=i:=by simpa using a
    symm
    rw [List.getElem?_eq_none_iff,q2.length,<- q1.length]; exact this
   | some d =>
    obtain ⟨x,ex,rx⟩:=q1.get a
    obtain ⟨e,ee,re⟩:=q2.get' ex
    rw [ee,ih d e x (h i d e a ee) rx re]
  intro d e v h r1 r2
  cases h with
  | sc h=>cases d <;> cases e <;> (first|(cases (show false=true from h); done)|clear h) <;> simp_all [Rep]
  | ln=>rw [bM] at r2; subst r2; rw [bh] at r1; obtain ⟨_,_,e,_⟩:=r1; cases e
  | nl=>rw [bM] at r1; subst r1; rw [bh] at r2; obtain ⟨_,_,e,_⟩:=r2; cases e
  | tn=>rw [bM] at r2; subst r2; rw [aI] at r1; obtain ⟨_,_,e,_⟩:=r1; cases e
  | nt=>rw [bM] at r1; subst r1; rw [aI] at r2; obtain ⟨_,_,e,_⟩:=r2; cases e
  | tup h =>
   rw [aI] at r1 r2
   obtain ⟨a,xs,rfl,p1,q1⟩:=r1
   obtain ⟨a',ys,e',p2,q2⟩:=r2
   cases e'
   have:=I.jq (az sb p1) (az sb p2)
   subst this
   rw [els _ _ _ h q1 q2]
  | lst h =>
   rw [bh] at r1 r2
   obtain ⟨a,xs,rfl,p1,q1⟩:=r1
   obtain ⟨a',ys,e',p2,q2⟩:=r2
   cases e'
   have:=I.kP (sb.seq p1) (sb.seq p2)
   subst this
   rw [els _ _ _ h q1 q2]
theorem pJ {α:Type} [BEq α] [LawfulBEq α] {a b:α} {i:Decidable (a=b)}:(a == b)=@decide (a=b) i:=by
 by_cases h:a=b
 ·subst h; simp
 ·simp [h]
theorem all_range {ds es:List D} (hn:ds.length=n) (hm:es.length=m) (h:n=m):((PM n).all λj=>decide (ds[j]?=es[j]?))=decide (ds=es):=by
 rw [Tv,List.all_eq_true]
 simp only [TF,decide_eq_true_eq]
 constructor
 ·intro q
  apply Tq
  intro i
  by_cases hi:i<n
  ·exact q i hi
  ·rw [Sy 'l',Sy 'l']
 ·rintro rfl; intro _ _; rfl
theorem vV (h:jQ x y=true) (r1:Rep X.K Hf x v) (r2:Rep X.K Hf y v') (e1:RelV v u) (e2:RelV v' u'):PR A s u u' (decide (x=y)):=by
 cases x <;> cases y <;> (first|(cases (show false=true from h); done)|clear h) <;> simp only [au,cG,bM,c8] at r1 r2 <;> subst r1 <;> subst r2
 case non.non=>cases e1; cases e2; simpa using PR.same _
 case non.bl b=>cases e1; cases e2; simpa using PR.none_bool (A:=A) (s:=s) b
 case non.int i=>cases e1; obtain ⟨t,rfl⟩:=e2; simpa using PR.none_int (A:=A) (s:=s) i t
 case non.str i=>cases e1; obtain ⟨t,rfl⟩:=e2; simpa using PR.none_str (A:=A) (s:=s) i t
 case bl.non b=>cases e1; cases e2; simpa using PR.bool_none (A:=A) (s:=s) b
 case bl.bl a b=>cases e1; cases e2; have q:=PR.bool_bool (A:=A) (s:=s) a b; rw [pJ (i:=inferInstance)] at q; simpa using q
 case bl.str a b=>cases e1; obtain ⟨t,rfl⟩:=e2; simpa using PR.bool_str (A:=A) (s:=s) a b t
 case int.non a=>obtain ⟨t,rfl⟩:=e1; cases e2; simpa using PR.int_none (A:=A) (s:=s) a t
 case int.int a b=>obtain ⟨t,rfl⟩:=e1; obtain ⟨t',rfl⟩:=e2; have q:=PR.int_int (A:=A) (s:=s) a t b t'; rw [pJ (i:=inferInstance)] at q; simpa using q
 case int.str a b=>obtain ⟨t,rfl⟩:=e1; obtain ⟨t',rfl⟩:=e2; simpa using PR.int_str (A:=A) (s:=s) a t b t'
 case str.non a=>obtain ⟨t,rfl⟩:=e1; cases e2; simpa using PR.str_none (A:=A) (s:=s) a t
 case str.bl a b=>obtain ⟨t,rfl⟩:=e1; cases e2; simpa using PR.str_bool (A:=A) (s:=s) a t b
 case str.int a b=>obtain ⟨t,rfl⟩:=e1; obtain ⟨t',rfl⟩:=e2; simpa using PR.str_int (A:=A) (s:=s) a t b t'
 case str.str a b=>obtain ⟨t,rfl⟩:=e1; obtain ⟨t',rfl⟩:=e2; have q:=PR.str_str (A:=A) (s:=s) a t b t'; rw [pJ (i:=inferInstance)] at q; simpa using q
theorem in1_units (A:Around):A.in1.units=A.units+1:=rfl
theorem vW:decide (D.tup ds=D.tup es)=decide (ds=es):=by simp
theorem kq:decide (D.lst ds=D.lst es)=decide (ds=es):=by simp
theorem pK (I:Inv X aa Z H s) {A:Around} (h:∀ (i:Nat) (d e:D),ds[i]?=some d->es[i]?=some e->lD n d e)
 (ih:∀ (d e:D) (v v':V) (u u':Value) (A:Around),lD n d e->Rep X.K Hf d v->Rep X.K Hf e v'->RelV v u->RelV v' u'->A.units+n<cLine->PR A s u u' (decide (d=e)))
 (q1:ak X.K Hf ds xs) (q2:ak X.K Hf es ys) (r1:Vals xs us) (r2:Vals ys ws) (hu:A.in1.units+n<cLine) :
 ∀ j (h1:j<us.toArray.size) (h2:j<ws.toArray.size),PR A.in1 s us.toArray[j] ws.toArray[j] (decide (ds[j]?=es[j]?)):=λj h1 h2=>by
 have l1:=q1.length
 have l2:=q2.length
 have m1:=r1.length
 have m2:=r2.length
 simp only [PN] at h1 h2
 have hd:ds[j]?=some ds[j]:=PX 'l'
 have he:es[j]?=some es[j]:=PX 'l'
 obtain ⟨x,ex,rx⟩:=q1.get hd
 obtain ⟨y,ey,ry⟩:=q2.get he
 obtain ⟨u,eu,ru⟩:=r1.get ex
 obtain ⟨u',eu',ru'⟩:=r2.get ey
 have z1:us.toArray[j]=u:=by
  have:=PX h1
  rw [this] at eu
  simpa using eu
 have z2:ws.toArray[j]=u':=by
  have:=PX h2
  rw [this] at eu'
  simpa using eu'
 rw [z1,z2,hd,he]
 have q:=ih _ _ x y u u' A.in1 (h j _ _ hd he) rx ry ru ru' hu
 simpa using q
theorem nO (I:Inv X aa Z H s) (sb:aL Hf H):∀ (n:Nat) (d e:D) (v v':V) (u u':Value) (A:Around),lD n d e->Rep X.K Hf d v->Rep X.K Hf e v'->RelV v u->RelV v' u'->A.units+n<cLine->PR A s u u' (decide (d=e)):=by
 have non:∀ (n:Nat) (d e:D) (v v':V) (u u':Value) (A:Around),A.units<cLine->Rep X.K Hf d v->Rep X.K Hf e v'->RelV v u->RelV v' u' ->
  ((∃ ds,d=.lst ds/\e=.non)\/(∃ ds,d=.non/\e=.lst ds)\/(∃ ds,d=.tup ds/\e=.non)\/(∃ ds,d=.non/\e=.tup ds))->PR A s u u' (decide (d=e)):=by
  intro n d e v v' u u' A hu r1 r2 e1 e2 h
  rcases h with ⟨ds,rfl,rfl⟩ | ⟨ds,rfl,rfl⟩ | ⟨ds,rfl,rfl⟩ | ⟨ds,rfl,rfl⟩
  ·rw [bM] at r2; subst r2; rw [bh] at r1; obtain ⟨a,xs,rfl,p,_⟩:=r1; cases e1; cases e2
   obtain ⟨its,_,q,_⟩:=I.list (sb.seq p)
   simpa using PR.list_none (A:=A) q.isList hu
  ·rw [bM] at r1; subst r1; rw [bh] at r2; obtain ⟨a,xs,rfl,p,_⟩:=r2; cases e1; cases e2
   obtain ⟨its,_,q,_⟩:=I.list (sb.seq p)
   simpa using PR.none_list (A:=A) q.isList hu
  ·rw [bM] at r2; subst r2; rw [aI] at r1; obtain ⟨a,xs,rfl,p,_⟩:=r1; cases e1; cases e2
   obtain ⟨its,_,q,_⟩:=I.tuple (az sb p)
   simpa using PR.tuple_none (A:=A) (show s.heap.IsTuple a its.toArray from q) hu
  ·rw [bM] at r1; subst r1; rw [aI] at r2; obtain ⟨a,xs,rfl,p,_⟩:=r2; cases e1; cases e2
   obtain ⟨its,_,q,_⟩:=I.tuple (az sb p)
   simpa using PR.none_tuple (A:=A) (show s.heap.IsTuple a its.toArray from q) hu
 intro n
 induction n with
 | zero =>
  intro d e v v' u u' A h r1 r2 e1 e2 hu
  cases h with
  | sc h=>exact vV h r1 r2 e1 e2
  | ln=>exact non 0 _ _ _ _ _ _ A 'l' r1 r2 e1 e2 (.inl ⟨_,rfl,rfl⟩)
  | nl=>exact non 0 _ _ _ _ _ _ A 'l' r1 r2 e1 e2 (.inr (.inl ⟨_,rfl,rfl⟩))
  | tn=>exact non 0 _ _ _ _ _ _ A 'l' r1 r2 e1 e2 (.inr (.inr (.inl ⟨_,rfl,rfl⟩)))
  | nt=>exact non 0 _ _ _ _ _ _ A 'l' r1 r2 e1 e2 (.inr (.inr (.inr ⟨_,rfl,rfl⟩)))
 | succ n ih =>
  intro d e v v' u u' A h r1 r2 e1 e2 hu
  cases h with
  | sc h=>exact vV h r1 r2 e1 e2
  | ln=>exact non 0 _ _ _ _ _ _ A 'l' r1 r2 e1 e2 (.inl ⟨_,rfl,rfl⟩)
  | nl=>exact non 0 _ _ _ _ _ _ A 'l' r1 r2 e1 e2 (.inr (.inl ⟨_,rfl,rfl⟩))
  | tn=>exact non 0 _ _ _ _ _ _ A 'l' r1 r2 e1 e2 (.inr (.inr (.inl ⟨_,rfl,rfl⟩)))
  | nt=>exact non 0 _ _ _ _ _ _ A 'l' r1 r2 e1 e2 (.inr (.inr (.inr ⟨_,rfl,rfl⟩)))
  | @tup _ ds es h =>
   have hh:=lD.tup h
   have r1':=r1; have r2':=r2
   rw [aI] at r1 r2
   obtain ⟨a,xs,rfl,p1,q1⟩:=r1
   obtain ⟨b,ys,rfl,p2,q2⟩:=r2
   cases e1; cases e2
   by_cases hab:a=b
   ·subst hab
    have:=pI I sb _ _ _ _ hh r1' r2'
    rw [this]
    simpa using PR.same _
   ·obtain ⟨us,v1,t1,_⟩:=I.tuple (az sb p1)
    obtain ⟨ws,v2,t2,_⟩:=I.tuple (az sb p2)
    have key:=Sn.tuples (A:=A) (s:=s) (show s.heap.IsTuple a us.toArray from t1) (show s.heap.IsTuple b ws.toArray from t2) 'l' (pK I h ih q1 q2 v1 v2 (by rw [in1_units]; lia))
    have hl1:us.toArray.size=ds.length:=by simp [<- v1.length,q1.length]
    have hl2:ws.toArray.size=es.length:=by simp [<- v2.length,q2.length]
    have e:((PM (min us.toArray.size ws.toArray.size)).all (λj=>decide (ds[j]?=es[j]?)) && us.toArray.size == ws.toArray.size)=decide (D.tup ds=D.tup es):=by
     rw [vW,hl1,hl2]
     by_cases hl:ds.length=es.length
     ·rw [hl,Nat.min_self]
      simp only [beq_self_eq_true,Bool.and_true]
      exact all_range hl rfl rfl
     ·have:¬ ds=es:=λz=>hl (by rw [z])
      simp [hl,this]
    rw [e] at key
    exact .of_refs hab key
  | @lst _ ds es h =>
   have hh:=lD.lst h
   have r1':=r1; have r2':=r2
   rw [bh] at r1 r2
   obtain ⟨a,xs,rfl,p1,q1⟩:=r1
   obtain ⟨b,ys,rfl,p2,q2⟩:=r2
   cases e1; cases e2
   by_cases hab:a=b
   ·subst hab
    have:=pI I sb _ _ _ _ hh r1' r2'
    rw [this]
    simpa using PR.same _
   ·obtain ⟨us,v1,t1,_⟩:=I.list (sb.seq p1)
    obtain ⟨ws,v2,t2,_⟩:=I.list (sb.seq p2)
    have hl1:us.toArray.size=ds.length:=by simp [<- v1.length,q1.length]
    have hl2:ws.toArray.size=es.length:=by simp [<- v2.length,q2.length]
    by_cases hl:ds.length=es.length
    ·have key:=Sn.lists (A:=A) (s:=s) t1.isList t2.isList (by rw [hl1,hl2,hl]) 'l' (pK I h ih q1 q2 v1 v2 (by rw [in1_units]; lia))
     rw [hl1,all_range rfl hl.symm rfl,<- kq] at key
     exact .of_refs hab key
    ·have key:=Sn.lists_lengths (A:=A) (s:=s) t1.isList t2.isList (by rw [hl1,hl2]; simpa using hl) 'l'
     have e:decide (D.lst ds=D.lst es)=false:=by
      rw [kq]; exact decide_eq_false λz=>hl (by rw [z])
     rw [e]
     exact .of_refs hab key
theorem rG (I:Inv X aa Z H s) (sb:aL Hf H) (hu:A.units+50<cLine) (hk:(d=.tup ds/\e=.tup es)\/(d=.lst ds/\e=.lst es)) (h:lE ds es)
 (r1:Rep X.K Hf d v) (r2:Rep X.K Hf e v') (e1:RelV v u) (e2:RelV v' u'):Sn A s u u' (decide (d=e))/\UR A s u u' (!decide (d=e)):=by
 have ih:=nO I sb 40
 rcases hk with ⟨rfl,rfl⟩ | ⟨rfl,rfl⟩
 ·rw [aI] at r1 r2
  obtain ⟨a,xs,rfl,p1,q1⟩:=r1
  obtain ⟨b,ys,rfl,p2,q2⟩:=r2
  cases e1; cases e2
  obtain ⟨us,v1,t1,_⟩:=I.tuple (az sb p1)
  obtain ⟨ws,v2,t2,_⟩:=I.tuple (az sb p2)
  have els:=pK (A:=A) I h ih q1 q2 v1 v2 (by rw [in1_units]; lia)
  have key:=Sn.tuples (A:=A) (s:=s) (show s.heap.IsTuple a us.toArray from t1) (show s.heap.IsTuple b ws.toArray from t2) 'l' els
  have key2:=UR.tuples (A:=A) (s:=s) (show s.heap.IsTuple a us.toArray from t1) (show s.heap.IsTuple b ws.toArray from t2) 'l' els
  have hl1:us.toArray.size=ds.length:=by simp [<- v1.length,q1.length]
  have hl2:ws.toArray.size=es.length:=by simp [<- v2.length,q2.length]
  have e:((PM (min us.toArray.size ws.toArray.size)).all (λj=>decide (ds[j]?=es[j]?)) && us.toArray.size == ws.toArray.size)=decide (D.tup ds=D.tup es):=by
   rw [vW,hl1,hl2]
   by_cases hl:ds.length=es.length
   ·rw [hl,Nat.min_self]
    simp only [beq_self_eq_true,Bool.and_true]
    exact all_range hl rfl rfl
   ·have:¬ ds=es:=λz=>hl (by rw [z])
    simp [hl,this]
  rw [e] at key key2
  exact ⟨key,key2⟩
 ·rw [bh] at r1 r2
  obtain ⟨a,xs,rfl,p1,q1⟩:=r1
  obtain ⟨b,ys,rfl,p2,q2⟩:=r2
  cases e1; cases e2
  obtain ⟨us,v1,t1,_⟩:=I.list (sb.seq p1)
  obtain ⟨ws,v2,t2,_⟩:=I.list (sb.seq p2)
  have hl1:us.toArray.size=ds.length:=by simp [<- v1.length,q1.length]
  have hl2:ws.toArray.size=es.length:=by simp [<- v2.length,q2.length]
  by_cases hl:ds.length=es.length
  ·have els:=pK (A:=A) I h ih q1 q2 v1 v2 (by rw [in1_units]; lia)
   have key:=Sn.lists (A:=A) (s:=s) t1.isList t2.isList (by rw [hl1,hl2,hl]) 'l' els
   have key2:=UR.lists (A:=A) (s:=s) t1.isList t2.isList (by rw [hl1,hl2,hl]) 'l' els
   rw [hl1,all_range rfl hl.symm rfl,<- kq] at key key2
   exact ⟨key,key2⟩
  ·have key:=Sn.lists_lengths (A:=A) (s:=s) t1.isList t2.isList (by rw [hl1,hl2]; simpa using hl) 'l'
   have key2:=UR.lists_lengths (A:=A) (s:=s) t1.isList t2.isList (by rw [hl1,hl2]; simpa using hl) 'l'
   have e:decide (D.lst ds=D.lst es)=false:=by
    rw [kq]; exact decide_eq_false λz=>hl (by rw [z])
   rw [e]
   exact ⟨key,key2⟩
end
section
variable {K:O7} {c:Ctx P w K mg base k N sc bk}
noncomputable def Ey (K:O7) (neg:Bool):R2:=λv u H Q=>∃ x y Hf,aL Hf H/\Rep K Hf x v/\Rep K Hf y u/\Lz x y/\Q (.bl (if neg then !decide (x=y) else decide (x=y))) H
theorem AW:fu c.X (compareOp .Eq) (Ey c.X.K false):=λaa s Z H v u v' u' Q I rv ru ⟨x,y,Hf,sb,rx,ry,ok,q⟩=>by
 rcases ok with h | ⟨ds,es,hk,hi⟩
 ·obtain ⟨z1,z2⟩:=vQ h rx ry
  exact Lg aa s Z H v u v' u' Q I rv ru ⟨z1,by rw [z2]; exact q⟩
 ·exact (rG I sb (by have:=c.room.un; lia) hk hi rx ry rv ru).1 _ _ _ _ ⟨.bl (decide (x=y)),H,I,rfl,q⟩
theorem IJ:fu c.X (compareOp .NotEq) (Ey c.X.K true):=λaa s Z H v u v' u' Q I rv ru ⟨x,y,Hf,sb,rx,ry,ok,q⟩=>by
 rcases ok with h | ⟨ds,es,hk,hi⟩
 ·obtain ⟨z1,z2⟩:=vQ h rx ry
  exact Lh aa s Z H v u v' u' Q I rv ru ⟨z1,by rw [z2]; exact q⟩
 ·exact (rG I sb (by have:=c.room.un; lia) hk hi rx ry rv ru).2 _ _ _ _ ⟨.bl (!decide (x=y)),H,I,rfl,q⟩
theorem AX:AN K (Ey K false) λx y R=>vN x y R:=λx y v u H Hf Q R s rx ry ⟨h1,h2⟩ q=>⟨x,y,Hf,s,rx,ry,h1,q _ h2⟩
theorem IK:AN K (Ey K true) λx y R=>vN x y λb=>R (!b):=λx y v u H Hf Q R s rx ry ⟨h1,h2⟩ q=>⟨x,y,Hf,s,rx,ry,h1,q _ h2⟩
theorem Oe (h:aB c a Y λx=>aB c b Y λy=>vN x y T):gZ c (.Compare a [.Eq] [b] pos) Y T:=vP AW AX h (kR b)
theorem Of (h:aB c a Y λx=>aB c b Y λy=>vN x y λb=>T (!b)):gZ c (.Compare a [.NotEq] [b] pos) Y T:=vP IJ IK h (kR b)
theorem Og (h:aB c a Y λx=>aB c b Y λy=>vN x y λb=>R (.bl b)):aB c (.Compare a [.Eq] [b] pos) Y R:=LH AW AX h (kR b)
end
section
variable {P:Program} {w:World} {K:O7} {mg:Str->Option Value} {base:Heap} {k:Nat} {N:List Str} {sc:Scope} {bk:Bool} {c:Ctx P w K mg base k N sc bk} {Y:List Sl} {pos:Pos} {a b e:Expr} {es:List Expr} {R:D->Prop} {T:Bool->Prop}
theorem iw:∀ {d:D} {v:V},Rep K H d v->decide (v=.non)=decide (d=.non)
 | .non,_,h=>by rw [bM] at h; subst h; simp
 | .bl _,_,h=>by rw [cG] at h; subst h; simp
 | .int _,_,h=>by rw [au] at h; subst h; simp
 | .str _,_,h=>by rw [c8] at h; subst h; simp
 | .tup _,_,h=>by rw [aI] at h; obtain ⟨_,_,rfl,_⟩:=h; simp
 | .lst _,_,h=>by rw [bh] at h; obtain ⟨_,_,rfl,_⟩:=h; simp
 | .exc _,_,h=>by rw [ki] at h; obtain ⟨_,rfl,_⟩:=h; simp
 | .fdK _ _,_,h=>by rw [fO] at h; obtain ⟨_,_,_,rfl,_⟩:=h; simp
 | .fdT _ _,_,h=>by rw [kh] at h; obtain ⟨_,_,_,rfl,_⟩:=h; simp
 | .adr _,_,h=>by rw [AF] at h; subst h; simp
def GX (x:D) (T:Bool->Prop):Prop:=T (decide (x=.non))
theorem LY (h:T true):GX .non T:=by unfold GX; simpa using h
theorem vX (hx:x≠.non) (h:T false):GX x T:=by unfold GX; rw [decide_eq_false hx]; exact h
theorem LZ (h:aB c a Y λx=>GX x λb=>R (.bl b)):aB c (.Compare a [.Is] [.Constant .none j p2] pos) Y R:=λZ H Hf Q S q =>
 bU (HG (zZ cI)) (h Z H Hf _ S λx v H' aj hx r g=>by
  have e:=iw r
  rw [e]
  exact q _ _ H' aj hx (cG.mpr rfl) g)
theorem L5 (h:aB c a Y λx=>GX x T):gZ c (.Compare a [.Is] [.Constant .none j p2] pos) Y T:=λZ H Hf Q S q =>
 lz (oY (zZ cI)) (h Z H Hf _ S λx v H' aj hx r g=>by
  have e:=iw r
  exact ⟨_,rfl,by rw [e]; exact q _ H' aj hx g⟩)
theorem IL (h:aB c a Y λx=>GX x λb=>T (!b)):gZ c (.Compare a [.IsNot] [.Constant .none j p2] pos) Y T:=λZ H Hf Q S q =>
 lz (oY (DO cI)) (h Z H Hf _ S λx v H' aj hx r g=>by
  have e:=iw r
  exact ⟨_,rfl,by rw [e]; exact q _ H' aj hx g⟩)
noncomputable def D.row:D->Option (List D)
 | .lst ds=>some ds
 | .tup ds=>some ds
 | _=>none
theorem iP (e:d.row=some ds) (h:Rep K H d v):∃ p xs,v=.ref p/\ak K H ds xs/\((d=.lst ds/\fZ K H p xs)\/(d=.tup ds/\c9 K H p xs)):=by
 cases d with
 | lst _=>cases e; rw [bh] at h; obtain ⟨p,xs,rfl,h1,h2⟩:=h; exact ⟨p,xs,rfl,h2,.inl ⟨rfl,h1⟩⟩
 | tup _=>cases e; rw [aI] at h; obtain ⟨p,xs,rfl,h1,h2⟩:=h; exact ⟨p,xs,rfl,h2,.inr ⟨rfl,h1⟩⟩
 | _=>cases e
def KY (x y:D) (R:D->Prop):Prop:=∃ ds i d,x.row=some ds/\y=.int i/\j9 ds i=some d/\R d
theorem nP (h:j9 ds i=some d) (hR:R d):KY (.lst ds) (.int i) R:=⟨ds,i,d,rfl,rfl,h,hR⟩
theorem nQ (h:j9 ds i=some d) (hR:R d):KY (.tup ds) (.int i) R:=⟨ds,i,d,rfl,rfl,h,hR⟩
theorem AY (h:ak K H ds xs) (e:j9 ds i=some d):∃ x,j9 xs i=some x/\Rep K H d x:=by
 unfold j9 at e |-
 rw [<- h.length]
 obtain ⟨j,e1,e2⟩:=Vh.mp e
 obtain ⟨x,e3,rx⟩:=h.get e2
 exact ⟨x,by rw [e1]; exact e3,rx⟩
theorem L6 (h:aB c a Y λx=>aB c b Y λy=>KY x y R) (hs:kg b:=by intro _ _; rfl'):aB c (.Subscript a b pos) Y R:=λZ H Hf Q S q =>
 bU (Lq (GJ.or D5 Il) cI cI hs) (h Z H Hf _ S λx v H1 aP h1 r1 g1=>h1 Z H1 aP _ (S.cD g1) λy u H2 cL ⟨ds,i,d,e1,e2,e3,hR⟩ r2 g2=>by
  subst e2
  rw [au] at r2; subst r2
  obtain ⟨p,xs,rfl,hr,hk⟩:=iP e1 (Rep.mono g2.f x r1)
  obtain ⟨z,ez,rz⟩:=AY hr e3
  have fin:=q d z H2 cL hR rz (g1.trans g2)
  rcases hk with ⟨_,hk⟩ | ⟨_,hk⟩
  ·exact .inl ⟨p,xs,i,z,rfl,rfl,g2.b.seq hk,ez,fin⟩
  ·exact .inr ⟨p,xs,i,z,rfl,rfl,az g2.b hk,ez,fin⟩)
theorem vY (sb:aL Hf H) {d:D} (h:(d=.lst ds/\fZ K Hf p xs)\/(d=.tup ds/\c9 K Hf p xs)):fZ K H p xs\/c9 K H p xs:=h.elim (λz=>.inl (sb.seq z.2)) λz=>.inr (az sb z.2)
theorem AZ:AS K (λxs H Q=>∃ p ys,xs=[.ref p]/\(fZ K H p ys\/c9 K H p ys)/\Q (.int ys.length) H) (λds R=>∃ x,ds=[x]/\∃ ys,x.row=some ys/\R (.int ys.length)):=by
 rintro ds vs H Hf Q R s rs ⟨x,rfl,ys,e,hR⟩ q
 obtain ⟨v,rfl,rv⟩:=lF rs
 obtain ⟨p,xs,rfl,hr,hk⟩:=iP e rv
 exact ⟨p,xs,rfl,vY s hk,q _ _ H Hf hR (by rw [hr.length]; exact au.mpr rfl) (.refl s)⟩
theorem e_len (hm:mg "len"=none) (h:aB c e Y λx=>∃ ys,x.row=some ys/\R (.int ys.length)) (hg:sc.names.lookup (O5 "len")=some .globalImplicit:=by rfl')
 (he:∀ env,starEach [e] env=(false,eval e env)::starEach [] env:=by symm):aB c (.Call (.Name "len" p) [e] [] pos) Y R :=
 rD pe AZ hm PySem.boot_len (c6 (h.imp λd hd=>iN ⟨d,rfl,hd⟩) he) hg 'd' 'd' he (by symm)
theorem uB {R:Sl->Prop} (hm:mg "list"=none) (h:aB c e Y λx=>∃ ys,x.row=some ys/\R (.ow ys)) (hg:sc.names.lookup (O5 "list")=some .globalImplicit:=by rfl')
 (he:∀ env,starEach [e] env=(false,eval e env)::starEach [] env:=by symm):dU c (.Call (.Name "list" p) [e] [] pos) Y R :=
 GU pq (q:=λds R=>∃ x ys,ds=[x]/\x.row=some ys/\R (.ow ys)) (λds vs H Hf Q R s rs ⟨x,ys,e1,e2,hR⟩ q=>by
  subst e1
  obtain ⟨v,rfl,rv⟩:=lF rs
  obtain ⟨p,xs,rfl,hr,hk⟩:=iP e2 rv
  exact ⟨p,xs,rfl,vY s hk,λl hl=>by
   have g2:=bz.f7 s hl (o:=.lst xs)
   exact q _ _ _ _ hR ⟨l,xs,rfl,hl,ah,s.free hl,hr⟩ g2⟩) hm PyProof.Rows.boot_list (c6 (h.imp λd ⟨ys,h1,h2⟩=>iN ⟨d,ys,rfl,h1,h2⟩) he) hg 'd' 'd' he (by symm)
theorem vZ (hm:mg "tuple"=none) (h:aB c e Y λx=>∃ ys,x.row=some ys/\R (.tup ys)) (hg:sc.names.lookup (O5 "tuple")=some .globalImplicit:=by rfl')
 (he:∀ env,starEach [e] env=(false,eval e env)::starEach [] env:=by symm):aB c (.Call (.Name "tuple" p) [e] [] pos) Y R :=
 LW nc (q:=λds R=>∃ x ys,ds=[x]/\x.row=some ys/\R (.tup ys)) (λds vs H Hf Q R s rs ⟨x,ys,e1,e2,hR⟩ q=>by
  subst e1
  obtain ⟨v,rfl,rv⟩:=lF rs
  obtain ⟨p,xs,rfl,hr,hk⟩:=iP e2 rv
  rcases hk with ⟨_,hk⟩ | ⟨_,hk⟩
  ·exact ⟨p,xs,rfl,.inl ⟨s.seq hk,λl hl=>by
    have g2:=bz.new s hl (o:=.tup xs)
    exact q _ _ _ _ hR (aI.mpr ⟨l,xs,rfl,.inl (.inl ah),hr.mono g2.f⟩) g2⟩⟩
  ·exact ⟨p,xs,rfl,.inr ⟨az s hk,q _ _ H Hf hR (aI.mpr ⟨p,xs,rfl,hk,hr⟩) (.refl s)⟩⟩) hm PyProof.Rows.boot_tuple (c6 (h.imp λd ⟨ys,h1,h2⟩=>iN ⟨d,ys,rfl,h1,h2⟩) he) hg 'd' 'd' he (by symm)
noncomputable def GY (K:O7):R2:=λx y H Q=>∃ l b xs zs,x=.ref l/\y=.ref b/\fZ K H l xs/\fZ K H b zs/\xs.length+zs.length<=sizeLine/\∀ p,H p=none->Q (.ref p) (upd H p (.lst (xs++zs)))
theorem Ez:fu X (binaryOp .Add) (GY X.K):=by
 intro aa s Z H x y v u Q I rx ry h
 obtain ⟨l,b,xs,zs,rfl,rfl,hH,hB,hz,q⟩:=h
 cases rx
 cases ry
 obtain ⟨its,r,hl,z⟩:=I.list hH
 obtain ⟨its2,r2,hl2,z2⟩:=I.list hB
 have e1:=r.length
 have e2:=r2.length
 obtain ⟨⟨cls,dd,data,sl⟩,n,p1,p2,p3,p4⟩:=hl
 obtain ⟨⟨cls2,dd2,data2,sl2⟩,n',q1,q2,q3,q4⟩:=hl2
 simp only at p2 p3 p4 q2 q3 q4
 subst p2 p3 p4 q2 q3 q4
 have ea:its.toArray++its2.toArray=(its++its2).toArray:=by simp
 refine UQ ⟨_,p1,rfl⟩ ⟨_,q1,rfl⟩ noFill_list_add seq_list_add PySem.F.slot_list_add PySem.F.entry_list_add (PySem.F.args_list_add_2 _ _) (list_addW l b its.toArray its2.toArray n n' none none sl sl2 (by simp; lia)) ⟨p1,q1,?_⟩
 rw [ea]
 exact ⟨.ref _,_,I.Im (t':=s.toks) (r.append r2) (by rw [PY]; lia),rfl,q _ I.fresh⟩
noncomputable def A0 (K:O7):R2:=λx y H Q=>∃ a b xs ys,x=.ref a/\y=.ref b/\c9 K H a xs/\c9 K H b ys/\xs.length+ys.length<=sizeLine /\
 (xs=[]->Q (.ref b) H)/\(ys=[]->Q (.ref a) H)/\∀ p,H p=none->Q (.ref p) (upd H p (.tup (xs++ys)))
theorem A1:fu X (binaryOp .Add) (A0 X.K):=by
 intro aa s Z H x y v u Q I rx ry h
 obtain ⟨t,b,xs,ys,rfl,rfl,hH,hB,hz,c1,c2,q⟩:=h
 cases rx
 cases ry
 obtain ⟨vs,r,ht,z⟩:=I.tuple hH
 obtain ⟨ws,r2,hb,z2⟩:=I.tuple hB
 obtain ⟨⟨cls,dd,data,sl⟩,ho,hc,n,hd⟩:=id ht
 obtain ⟨⟨cls2,dd2,data2,sl2⟩,ho2,hc2,n2,hd2⟩:=id hb
 simp only at hc hd hc2 hd2
 subst hc hd hc2 hd2
 have e:vs.toArray++ws.toArray=(vs++ws).toArray:=by simp
 have e1:=r.length
 have e2:=r2.length
 by_cases hv:vs=[]
 ·exact UQ ⟨_,ho,rfl⟩ ⟨_,ho2,rfl⟩ VV seq_tuple_add Vm Vg (Vb _ _)
   (tuple_addW0 t b vs.toArray ws.toArray n n2 dd dd2 sl sl2 (by simp [hv])) ⟨ho,ho2,⟨.ref b,H,I,rfl,c1 (by rw [Vals.vJ r] at hv; exact hv)⟩⟩
 ·by_cases hw:ws=[]
  ·exact UQ ⟨_,ho,rfl⟩ ⟨_,ho2,rfl⟩ VV seq_tuple_add Vm Vg (Vb _ _)
    (tuple_addW1 t b vs.toArray ws.toArray n n2 dd dd2 sl sl2 (by simpa using hv) (by simp [hw])) ⟨ho,ho2,⟨.ref t,H,I,rfl,c2 (by rw [Vals.vJ r2] at hw; exact hw)⟩⟩
  ·refine UQ ⟨_,ho,rfl⟩ ⟨_,ho2,rfl⟩ VV seq_tuple_add Vm Vg (Vb _ _)
    (tuple_addW2 t b vs.toArray ws.toArray n n2 dd dd2 sl sl2 (by simpa using hv) (by simpa using hw) (by rw [PN,PN]; lia)) ⟨ho,ho2,?_⟩
   rw [e]
   refine ⟨.ref s.heap.objs.size,_,I.laid (t':=s.toks) (o:=.tup (xs++ys)) (λb ob q=>Pe _ q) (O9 _) ?_,rfl,q _ (I.hok.fresh (O9 _))⟩
   exact ⟨by rw [PY]; exact hz,_,r.append r2,IsTup.new _ _⟩
inductive lG:D->D->(Sl->Prop)->Prop where
 | int {i j:Int} {R:Sl->Prop} (h:R (.va (.int (i+j)))):lG (.int i) (.int j) R
 | lst {ds es:List D} {R:Sl->Prop} (h:Sd (ds.length+es.length<=sizeLine) (R (.ow (ds++es)))):lG (.lst ds) (.lst es) R
 | tup {ds es:List D} {R:Sl->Prop} (h:Sd (ds.length+es.length<=sizeLine) (R (.va (.tup (ds++es))))):lG (.tup ds) (.tup es) R
 | str {x y:Str} {R:Sl->Prop} (h:Sd (x.length+y.length<=sizeLine) (R (.va (.str (x++y))))):lG (.str x) (.str y) R
theorem jS (h:ak K H ds []):ds=[]:=by
 have:=h.length; cases ds with
 | nil=>rfl
 | cons _ _=>simp at this
theorem EA:M8 K (λx y H Q=>(((yj λi j=>V.int (i+j)) x y H Q\/GY K x y H Q)\/A0 K x y H Q)\/∃ i j,x=.str i/\y=.str j/\i.length+j.length<=sizeLine/\Q (.str (i++j)) H) lG:=by
 rintro x y v u H Hf Q R s rx ry h q
 cases h with
 | @int i j _ h =>
  rw [au] at rx ry
  exact .inl (.inl (.inl ⟨i,j,rx,ry,q (.va (.int (i+j))) _ H Hf h (show Rep K Hf (.int (i+j)) _ from au.mpr rfl) (.refl s)⟩))
 | @lst ds es _ h =>
  rw [bh] at rx ry
  obtain ⟨a,xs,rfl,h1,h2⟩:=rx
  obtain ⟨b,ys,rfl,h3,h4⟩:=ry
  refine .inl (.inl (.inr ⟨a,b,xs,ys,rfl,rfl,s.seq h1,s.seq h3,by rw [<- h2.length,<- h4.length]; exact h.s,λp hp=>?_⟩))
  exact q (.ow (ds++es)) _ _ _ h.r ⟨p,xs++ys,rfl,hp,ah,s.free hp,h2.append h4⟩ (bz.f7 s hp)
 | @tup ds es _ h =>
  rw [aI] at rx ry
  obtain ⟨a,xs,rfl,h1,h2⟩:=rx
  obtain ⟨b,ys,rfl,h3,h4⟩:=ry
  refine .inl (.inr ⟨a,b,xs,ys,rfl,rfl,az s h1,az s h3,by rw [<- h2.length,<- h4.length]; exact h.s,λe=>?_,λe=>?_,λp hp=>?_⟩)
  ·subst e
   have:=jS h2
   subst this
   exact q (.va (.tup ([]++es))) _ H Hf h.r (show Rep K Hf (.tup ([]++es)) _ from aI.mpr ⟨b,ys,rfl,h3,h4⟩) (.refl s)
  ·subst e
   have:=jS h4
   subst this
   exact q (.va (.tup (ds++[]))) _ H Hf h.r (show Rep K Hf (.tup (ds++[])) _ from aI.mpr ⟨a,xs,rfl,h1,by rw [Qv]; exact h2⟩) (.refl s)
  ·have g:=bz.new s hp (o:=.tup (xs++ys))
   exact q (.va (.tup (ds++es))) _ _ _ h.r (show Rep K _ (.tup (ds++es)) _ from aI.mpr ⟨p,xs++ys,rfl,.inl (.inl ah),(h2.append h4).mono g.f⟩) g
 | @str x y _ h =>
  rw [c8] at rx ry
  exact .inr ⟨x,y,rx,ry,h.s,q (.va (.str (x++y))) _ H Hf h.r (show Rep K Hf (.str (x++y)) _ from c8.mpr rfl) (.refl s)⟩
theorem GZ {R:Sl->Prop} (h:aB c a Y λx=>aB c b Y λy=>lG x y R):dU c (.BinOp a .Add b pos) Y R :=
 lC (fu.or (fu.or (fu.or HW Ez) A1) uh) EA h
noncomputable def cutD {α:Type} (xs:List α) (lo hi:Option Int):List α:=(xs.drop (HT.cA xs.length 0 lo)).take (HT.cA xs.length xs.length hi - HT.cA xs.length 0 lo)
theorem rH (h:ak K H ds xs) (lo hi):ak K H (cutD ds lo hi) (o8 xs lo hi):=by
 unfold cutD o8
 rw [h.length]
 exact (h.drop _).take _
noncomputable def bP (X:Cx) (e:Option Expr):TO:=λZ H Q=>∀ aa s,Inv X aa Z H s->wpAny (model X.prog X.w) X.A (evalPart e X.env) (λu s'=>∃ o H',Inv X aa Z H' s'/\IsPart u o/\Q o H') X.xe s
theorem OI {X:Cx} {e:Option Expr}:PO X e (bP X e):=λaa s Z H Q I h=>h aa s I
def IM (c:Ctx P w K mg base k N sc bk) (e:Option Expr) (Y:List Sl) (R:Option Int->Prop):Prop :=
 ∀ (Z:L2.St) (H Hf:Hp) (Q:Option Int->Hp->Prop),bK c Z H Hf Y->(∀ o H' aj,R o->bz H Hf H' aj->Q o H')->bP c.X e Z H Q
theorem IP {R:Option Int->Prop} (h:R none):IM c none Y R:=λZ H Hf Q S q aa s I=>DZ aa s Z H Q I (q none H Hf h (.refl S.sb))
theorem IQ {R:Option Int->Prop} (h:aB c e Y (I1 λi=>R (some i))):IM c (some e) Y R:=λZ H Hf Q S q aa s I =>
 D3 cI aa s Z H Q I (h Z H Hf _ S λd v H' aj ⟨i,e,hR⟩ r g=>by subst e; rw [au] at r; exact ⟨i,r,q _ H' aj hR g⟩)
noncomputable def L7 (K:O7):V->Option Int->Option Int->Hp->VK->Prop:=λx lo hi H Q=>∃ a xs,x=.ref a/\c9 K H a xs /\
 (HT.cA xs.length 0 lo=0/\HT.cA xs.length xs.length hi=xs.length)/\Q (.ref a) H
theorem gU {lo hi:Option Int} (ht:IsTup s.heap t items) (hs:s.heap.IsSliceOf sl vl vu .none) (pl:IsPart vl lo) (pu:IsPart vu hi)
 (hw:HT.cA items.size 0 lo=0/\HT.cA items.size items.size hi=items.size) (h:Q (.ref t) s):wpAny (model prog w) A (getItem (.ref t) (.ref sl)) Q E s:=by
 obtain ⟨os,hos,hcs,hds⟩:=id hs
 have hTs:s.TypeIs (.ref sl) "slice":=⟨os,hos,hcs⟩
 unfold getItem
 try with_reducible refine Qw ?_
 first | refine O6 (O8 ?_) | skip
 refine O6 (VN ht.typeIs 'd' ?_)
 refine O6 (RB (name:=O5 "__getitem__") ht.typeIs Sq
  (Q3 Sq ht.typeIs entry_tuple_getitem ?_ (args_tuple_getitem _ _)))
 show wpAny _ _ (Builtin.Tuple.tupleItemsOf (.ref t) >>= _) _ _ s
 refine O6 (tupleItemsOf_ ht ?_)
 refine O6 (Rw hTs ?_)
 rw [if_pos 'd']
 refine O6 (HT.fC hs pl pu ?_)
 have hyes:((((HT.cA items.size 0 lo:Nat):Int) == 0 && (1:Int) == 1 && (HT.cA items.size items.size hi - HT.cA items.size 0 lo) == items.size)=true):=by
  rw [hw.1,hw.2]; simp
 show wpAny _ _ (if (((HT.cA items.size 0 lo:Nat):Int) == 0 && (1:Int) == 1 && (HT.cA items.size items.size hi - HT.cA items.size 0 lo) == items.size)=true then _ else _) _ _ s
 rw [if_pos hyes]
 obtain ⟨⟨cls,dd,data,sl'⟩,ho,hc,n,hd⟩:=id ht
 simp only at hc hd
 subst hc hd
 unfold Builtin.Tuple.tupleIsExact
 wp_walk using Ug ho
 exact ⟨_,rfl,O8 h⟩
theorem A2:DC X (L7 X.K):=by
 intro aa s Z H x v vl vu lo hi sl Q I rx hs pl pu h
 obtain ⟨a,xs,rfl,hx,hw,q⟩:=h
 cases rx
 obtain ⟨its,r,ht,hz⟩:=I.tuple hx
 have hlen:its.toArray.size=xs.length:=by rw [PN]; exact r.length.symm
 refine ⟨"tuple",_,Sq.lookup,ht.typeIs,?_⟩
 exact gU ht hs pl pu (by rw [hlen]; exact hw) ⟨.ref a,H,I,rfl,q⟩
inductive IS:D->Option Int->Option Int->(Sl->Prop)->Prop where
 | lst {ds:List D} {lo hi:Option Int} {R:Sl->Prop} (h:R (.ow (cutD ds lo hi))):IS (.lst ds) lo hi R
 | tup {ds:List D} {lo hi:Option Int} {R:Sl->Prop} (h:R (.va (.tup (cutD ds lo hi)))):IS (.tup ds) lo hi R
theorem yC {lo hi:Option Int} (h:HT.cA xs.length 0 lo=0/\HT.cA xs.length xs.length hi=xs.length):cutD xs lo hi=xs:=by
 unfold cutD; rw [h.1,h.2]; simp
theorem v5 {lo hi:Option Expr} {R:Sl->Prop} (h:aB c e Y λx=>IM c lo Y λl=>IM c hi Y λu=>IS x l u R):dU c (.Subscript e (.Slice lo hi none p2) pos) Y R:=λZ H Hf Q S q =>
 bU (Ar (DC.or (DC.or D6 Ik) A2) cI OI OI) (h Z H Hf _ S λx v H1 aP h1 r1 g1=>h1 Z H1 aP _ (S.cD g1) λl H2 cL h2 g2=>h2 Z H2 cL _ (S.cD (g1.trans g2)) λu H3 Hf3 h3 g3=>by
  have r3:=Rep.mono g3.f x (Rep.mono g2.f x r1)
  have g:=(g1.trans g2).trans g3
  cases h3 with
  | lst h =>
   rw [bh] at r3
   obtain ⟨a,xs,rfl,k1,k2⟩:=r3
   refine .inl (.inl ⟨a,xs,rfl,g3.b.seq k1,λp hp=>?_⟩)
   exact q _ _ _ _ h ⟨p,_,rfl,g.s.free hp,ah,g3.b.free hp,rH k2 l u⟩ (g.trans (bz.f7 g3.b hp))
  | tup h =>
   rw [aI] at r3
   obtain ⟨a,xs,rfl,k1,k2⟩:=r3
   by_cases hw:HT.cA xs.length 0 l=0/\HT.cA xs.length xs.length u=xs.length
   ·refine .inr ⟨a,xs,rfl,az g3.b k1,hw,?_⟩
    refine q _ _ _ _ h (show Rep c.X.K Hf3 _ _ from aI.mpr ⟨a,xs,rfl,k1,?_⟩) g
    rw [yC (by rw [k2.length]; exact hw)]; exact k2
   ·refine .inl (.inr ⟨a,xs,rfl,az g3.b k1,hw,λp hp=>?_⟩)
    have g4:=bz.new g3.b hp (o:=.tup (o8 xs l u))
    exact q _ _ _ _ h (show Rep c.X.K _ _ _ from aI.mpr ⟨p,_,rfl,.inl (.inl ah),(rH k2 l u).mono g4.f⟩) (g.trans g4))
theorem A3 (a:bz H₀ fc H1 aP) (b:bz H₀ aP H Hf):bz H₀ fc H Hf :=
 ⟨b.s,a.f.trans b.f,b.b,λc h1 h2 h3=>b.n c (a.n c h1 h2 h3) h2 h3⟩
theorem dN.re (a:bz H₀ fc H1 aP) (S:dN K H₀ aP Z H Hf Y):dN K H₀ fc Z H Hf Y:=⟨A3 a S.bas,S.len,S.at_,S.sep⟩
theorem dN.anew (S:dN K H₀ fc Z H Hf Y):dN K H₀ Hf Z H Hf Y:=⟨⟨S.bas.s,.refl _,S.bas.b,λ_ h _ _=>h⟩,S.len,S.at_,S.sep⟩
noncomputable def Ctx.at_ (c:Ctx P w K mg base k N sc bk) {H1 aP:Hp} (a:bz c.B c.Hf H1 aP):Ctx P w K mg base k N sc bk :=
 { X:=c.X,eP:=c.eP,ew:=c.ew,eK:=c.eK,emg:=c.emg,eb:=c.eb,eN:=c.eN,esc:=c.esc,calm:=c.calm,top:=c.top,cb:=c.cb,fn:=c.fn,room:=c.room,nd:=c.nd,vis:=c.vis,B:=c.B,Hf:=aP,RX:=c.RX,RM:=c.RM,
   exc:=λC x aa Z H aj Y s H' s' I S h X sm=>c.exc C x aa Z H aj Y s H' s' I (S.re a) h X sm,mde:=λC x aa Z H aj Y s h' us I S h hx=>c.mde C x aa Z H aj Y s h' us I (S.re a) h hx }
theorem AI.at_ {nx:List Sl->Prop} {p:Pt} {D:Ends} {H1 aP:Hp} (a:bz c.B c.Hf H1 aP) (o:AI c nx p D):AI (c.at_ a) nx p D :=
 ⟨λZ H Hf Y S q=>o.nx Z H Hf Y (dN.re a S) q,λr v H Hf g rv q=>o.rt r v H Hf (A3 a g) rv q,λZ H Hf Y S q=>o.bk Z H Hf Y (dN.re a S) q,λZ H Hf Y S q=>o.ct Z H Hf Y (dN.re a S) q⟩
noncomputable def bI (X:Cx) (tg iter:Expr):TI:=λZ H R=>∀ aa s,Inv X aa Z H s->wpAny (model X.prog X.w) X.A (eval iter X.env) (λv s1=>wpAny (model X.prog X.w) X.A (pyIter v) (NH X aa Z tg R) X.xe s1) X.xe s
theorem O1 {X:Cx} {tg iter:Expr}:PI X tg iter (bI X tg iter):=λaa s Z H R I h=>h aa s I
structure jw (K:O7) (J:It) (ds:List D) (fc:Hp):Prop where
 go:∀ i d H Hf,aL fc Hf->aL Hf H->ds[i]?=some d->J.go i H/\∀ x H',J.yld i H x H'->∃ aj,bz H Hf H' aj/\Rep K aj d x
 stop:∀ i H Hf,aL fc Hf->aL Hf H->ds.length<=i->J.stop i H
def zU (c:Ctx P w K mg base k N sc bk) (tg iter:Expr) (Y:List Sl) (R:List D->Prop):Prop :=
 ∀ (Z:L2.St) (H Hf:Hp) (Q:It->Hp->Prop),bK c Z H Hf Y->(∀ ds J H' aj,R ds->bz H Hf H' aj->jw c.X.K J ds aj->Q J H')->bI c.X tg iter Z H Q
theorem yD {K:O7} {ds:List D} {xs:List V} {p:Addr} {fc:Hp} (h:fZ K fc p xs) (r:ak K fc ds xs):jw K (NI K p) ds fc where
 go:=λi d H Hf s1 s2 e=>by
  obtain ⟨x,ex,rx⟩:=r.get e
  refine ⟨⟨xs,x,(s1.trans s2).seq h,ex⟩,λy H' ⟨e1,e2⟩=>?_⟩
  subst e1
  have:=e2 xs ((s1.trans s2).seq h)
  rw [ex] at this; cases this
  exact ⟨Hf,.refl s2,Rep.mono s1 d rx⟩
 stop:=λi H Hf s1 s2 e=>⟨xs,(s1.trans s2).seq h,by rw [<- r.length]; exact e⟩
theorem A4 {K:O7} {ds:List D} {xs:List V} {p:Addr} {fc:Hp} (h:c9 K fc p xs) (r:ak K fc ds xs):jw K (NJ K p) ds fc where
 go:=λi d H Hf s1 s2 e=>by
  obtain ⟨x,ex,rx⟩:=r.get e
  refine ⟨⟨xs,x,az (s1.trans s2) h,ex⟩,λy H' ⟨e1,e2⟩=>?_⟩
  subst e1
  have:=e2 xs (az (s1.trans s2) h)
  rw [ex] at this; cases this
  exact ⟨Hf,.refl s2,Rep.mono s1 d rx⟩
 stop:=λi H Hf s1 s2 e=>⟨xs,az (s1.trans s2) h,by rw [<- r.length]; exact e⟩
noncomputable def Oh (K:O7) (tl:TE):TI:=λZ H R=>tl Z H λx H1=>∃ a,x=.ref a/\(((∃ xs,fZ K H1 a xs)/\R (NI K a) H1)\/((∃ xs,c9 K H1 a xs)/\R (NJ K a) H1))
theorem IT (hl:PE X l tl):PI X tg l (Oh X.K tl):=by
 intro aa s Z H R I h
 refine bL (hl aa s Z H _ I h) λv s1 ⟨x,H1,I1,r1,q1⟩=>?_
 obtain ⟨a,e,h⟩:=q1
 subst e
 cases r1
 rcases h with ⟨⟨xs,hq⟩,q⟩ | ⟨⟨xs,hq⟩,q⟩
 ·obtain ⟨its,rv,p,hz⟩:=I1.list hq
  refine R6 p.isList ?_
  refine ⟨s1.heap.objs.size,[s1.heap.objs.size],_,_,H1,rfl,I1.kept (t':=s1.toks) λb o e=>Pe _ e,yg a _,⟨_,Pq _ rfl,rfl,rfl⟩,λb hb=>?_,q⟩
  have e:b=s1.heap.objs.size:=by simpa using hb
  subst e
  exact I1.jr (O9 _) (I1.hok.fresh (O9 _))
 ·obtain ⟨its,rv,p,hz⟩:=I1.tuple hq
  refine VG (show s1.heap.IsTuple a its.toArray from p) ?_
  refine ⟨s1.heap.objs.size,[s1.heap.objs.size],_,_,H1,rfl,I1.kept (t':=s1.toks) λb o e=>Pe _ e,ud a _,⟨_,Pq _ rfl,rfl,rfl⟩,λb hb=>?_,q⟩
  have e:b=s1.heap.objs.size:=by simpa using hb
  subst e
  exact I1.jr (O9 _) (I1.hok.fresh (O9 _))
theorem dh {R:List D->Prop} (h:aB c e Y λd=>∃ ds,d.row=some ds/\R ds):zU c tg e Y R:=λZ H Hf Q S q aa s I =>
 IT cI aa s Z H Q I (h Z H Hf _ S λd v H' aj ⟨ds,er,hR⟩ r g=>by
  obtain ⟨p,xs,rfl,hr,hk⟩:=iP er r
  refine ⟨p,rfl,?_⟩
  rcases hk with ⟨_,hk⟩ | ⟨_,hk⟩
  ·exact .inl ⟨⟨xs,g.b.seq hk⟩,q ds _ H' aj hR g (yD hk hr)⟩
  ·exact .inr ⟨⟨xs,az g.b hk⟩,q ds _ H' aj hR g (A4 hk hr)⟩)
noncomputable def nj (lo:Int) (n:Nat):List D:=(PM n).map λ(i:Nat)=>D.int (lo+(i:Int))
theorem A5 {K:O7} {lo:Int} {n:Nat} {fc:Hp}:jw K (M5 lo n) (nj lo n) fc where
 go:=λi d H Hf s1 s2 e=>by
  unfold nj at e
  rw [Pr] at e
  obtain ⟨j,e1,e2⟩:=PD.mp e
  have hi:i<n:=by
   have:=(Po.mp e1).1
   simpa using this
  have:j=i:=by
   rw [SG hi] at e1; cases e1; rfl
  subst this
  refine ⟨hi,λx H' ⟨e3,e4⟩=>?_⟩
  subst e3 e4 e2
  exact ⟨Hf,.refl s2,au.mpr rfl⟩
 stop:=λi H Hf s1 s2 e=>by
  show n<=i
  simpa [nj] using e
def A6 (i:Int):Prop:= -(2 ^ 62)<=i/\i<2 ^ 62
theorem gj {R:List D->Prop} (hm:mg "range"=none) (h:aB c e Y (I1 λj=>Sd (A6 j) (R (nj 0 j.toNat)))) (hg:sc.names.lookup (O5 "range")=some .globalImplicit:=by rfl')
 (hs:∀ env,starEach [e] env=(false,eval e env)::starEach [] env:=by symm):zU c tg (.Call (.Name "range" p) [e] [] pos) Y R:=λZ H Hf Q S q aa s I =>
 yh (by unfold Gl P6; rw [c.esc]; exact hg) (by rw [c.emg]; exact hm) (bC cI cM (hs _)) (hs _) aa s Z H Q I (h Z H Hf _ S λd v H' aj ⟨j,ed,⟨hj,hR⟩⟩ r g=>by
  subst ed; rw [au] at r; subst r
  exact ⟨j,rfl,hj.1,hj.2,q _ _ H' aj hR g A5⟩)
theorem eS {tg iter:Expr} {body:List Stmt} {nx:List Sl->Prop} {p:Pt} (hq:c.X.xe=λ_ _=>False)
 (h:zU c tg iter Y λds=>∃ I:Nat->List Sl->Prop,I 0 Y /\
   (∀ c':Ctx P w K mg base k N sc bk,c'.X=c.X->c'.RX=c.RX->c'.RM=c.RM->∀ i d Y',ds[i]?=some d->I i Y'->nh c' tg d Y' λY''=>aU c' body Y'' (I (i+1)) { rt:=p.rt,bk:=nx,ct:=I (i+1) })/\∀ Y',I ds.length Y'->nx Y')
 (hs:∀ env x,foldedSetIterable iter env x=pure x:=by intro _ _; rfl'):fm c (.For tg iter body [] pos) Y nx p:=λZ H Hf D S o =>
 cO (HU (by rw [hq]; exact PassesOwn.never) c.calm O1 N8 lB (hs _)) (h Z H Hf _ S λds J H1 aP ⟨I,h0,hb,he⟩ g io=>by
  have S1:=S.cD g
  have gb:bz c.B c.Hf H1 aP:=S1.bas
  refine ⟨λi m Z H=>m=ds.length - i/\i<=ds.length/\∃ Hf Y',bK (c.at_ gb) Z H Hf Y'/\I i Y',⟨_,rfl,P7 _,aP,Y,S1.anew,h0⟩,?_⟩
  rintro i m Z H ⟨rfl,hi,Hf,Y',S',hI⟩
  by_cases hlt:i<ds.length
  ·have ed:ds[i]?=some ds[i]:=PX hlt
   obtain ⟨hgo,hy⟩:=io.go i _ H Hf S'.bas.f S'.bas.b ed
   refine .inr ⟨hgo,λZ' H'=>∃ aj Y'',bK (c.at_ gb) Z' H' aj Y''/\I (i+1) Y'',λZ' H' ⟨aj,Y'',S'',hI'⟩=>⟨_,by omega,rfl,hlt,aj,Y'',S'',hI'⟩,λx H' hx=>?_⟩
   obtain ⟨aj,g',rx⟩:=hy x H' hx
   refine hb (c.at_ gb) rfl rfl rfl i _ Y' ed hI Z H' aj x _ (S'.cD g') rx λZ2 H2 cL Y2 S2 _ hbody=>?_
   exact hbody Z2 H2 cL _ S2 ⟨λZ H Hf Y S q=>⟨Hf,Y,S,q⟩,(o.at_ gb).rt,λZ H Hf Y S q=>(o.at_ gb).nx Z H Hf Y S q,λZ H Hf Y S q=>⟨Hf,Y,S,q⟩⟩
  ·have e:i=ds.length:=by omega
   subst e
   exact .inl ⟨io.stop _ H Hf S'.bas.f S'.bas.b (O9 _),(o.at_ gb).nx Z H Hf Y' S' (he Y' hI)⟩)
end
section
variable {s1 s':Shared}
theorem lH (I:Inv X aa Z H1 s1) (htop:X.stack=X.env::X.outer/\X.env.frame=some X.env.locals/\X.ex=[]) (hfn:∀ x c,X.env.cells.lookup x=some c->X.s₀.heap.objs.size<=c)
 (os:s'.os=s1.os) (bare:AllBare s'.gens) (un:Un (frs X.stack) [] H1 H' s1.heap s'.heap) (hok:ig X.prog X.w H' s'.heap) (new:s1.heap.get? a=none) (free:H' a=none)
 (fl:TV B X.stack a (.ref C) (.ref t) h6) (cov:∀ b o,s1.heap.get? b=some o->b∉frs X.stack->∃ o',s'.heap.get? b=some o'/\B.get? b=some o') (tr:∀ b o,H' b≠none->s'.heap.get? b=some o->B.get? b=some o)
 (up:s'.heap.UpToSlots h6):Inv X aa Z (upd H' a (.ext (fh a C))) { s' with heap:=h6 }:=by
 have nst:∀ b,b≠X.env.locals->b∉X.fs->b∉frs X.stack:=λb h1 h2 m=>by
  rcases Pg.mp (I.oX b m) with q | q
  ·exact h1 q
  ·exact h2 q
 have keep:∀ b o,s1.heap.get? b=some o->H1 b=none->b∉frs X.stack->h6.get? b=some o:=λb o e n hb=>by
  have e2:=un.keep b o e n hb (by intro z; cases z)
  obtain ⟨o',e3,e4⟩:=cov b o e hb
  rw [e2] at e3; cases e3
  exact fl.1 b o e4
 have slot:∀ b o,s1.heap.get? b=some o->H1 b=none->b∈frs X.stack->∃ sl,h6.get? b=some { o with slots:=sl }:=λb o e n hb=>by
  obtain ⟨sl,e2⟩:=un.slot b o e n hb (by intro z; cases z)
  obtain ⟨_,o3,e3,nf⟩:=fl.2.2.1.mem hb
  obtain ⟨_,o4,e4,nf4⟩:=I.stack.mem hb
  rw [e] at e4; cases e4
  obtain ⟨sl2,e5⟩:=up b _ e2 nf4
  exact ⟨sl2,e5⟩
 have there:∀ b o,s1.heap.get? b=some o->∃ o',h6.get? b=some o':=λb o e=>by
  by_cases hb:b∈frs X.stack
  ·obtain ⟨sl,q⟩:=slot b o e (I.j8 b hb) hb
   exact ⟨_,q⟩
  ·obtain ⟨o',e3,e4⟩:=cov b o e hb
   exact ⟨o',fl.1 b o' e4⟩
 have nea:∀ b o,s1.heap.get? b=some o->b≠a:=λb o e z=>by subst z; rw [new] at e; cases e
 have fr':∀ b o,s1.heap.get? b=some o->H1 b=none->(upd H' a (.ext (fh a C))) b=none:=λb o e n=>by
  rw [ai (nea b o e)]; exact un.free b o e n (by intro z; cases z)
 have old:∀ b o,X.s₀.heap.get? b=some o->b∉X.ex->∃ o',s1.heap.get? b=some o':=λb o e hx=>I.base.there b o e hx
 have nloc:∀ b o,X.s₀.heap.get? b=some o->b≠X.env.locals:=λb o e z=>by
  subst z
  exact absurd (Pf e) (Nat.not_lt.mpr I.ok.above)
 have hlocal:X.env.locals∈frs X.stack:=by rw [htop.1]; exact Rr.mpr ⟨_,.head _,htop.2.1⟩
 have fs_old:∀ b∈X.fs,∃ o,X.s₀.heap.get? b=some o:=λb hb=>by
  obtain ⟨_,o,e,_⟩:=I.ok.gS.mem hb
  exact ⟨o,e⟩
 have cellok:∀ x c v,X.env.cells.lookup x=some c->s1.heap.IsCell c v->h6.IsCell c v:=λx c v hc ⟨o,e,d⟩=>by
  refine ⟨o,keep c o e (I.freeC x c hc) (nst c (I.zT x c hc) λm=>?_),d⟩
  obtain ⟨o',e'⟩:=fs_old c m
  exact absurd (Pf e') (Nat.not_lt.mpr (hfn x c hc))
 refine ⟨I.ok,os.trans I.os,bare,⟨λb o e n hb hx=>?_,λb o e n hb hx=>?_,λb o e n hx=>?_,λb o e hx=>?_,λb xs q=>?_,λb o u q=>?_,λb ps q=>?_⟩,?_,λx c hc=>?_,?_,λx c hc=>?_,λp hp=>?_,λb o q=>?_,I.len⟩
 ·exact keep b o (I.base.keep b o e n hb hx) (I.base.free b o e n hx) (nst b (nloc b o e) hb)
 ·obtain ⟨sl,e1⟩:=I.base.slot b o e n hb hx
  have hm:b∈frs X.stack:=by
   rw [htop.1]
   obtain ⟨e',he,hf⟩:=Rr.mp hb
   exact Rr.mpr ⟨e',Ph _ he,hf⟩
  obtain ⟨sl2,e2⟩:=slot b _ e1 (I.base.free b o e n hx) hm
  exact ⟨sl2,e2⟩
 ·obtain ⟨o',e1⟩:=old b o e hx
  exact fr' b o' e1 (I.base.free b o e n hx)
 ·obtain ⟨o',e1⟩:=old b o e hx
  exact there b o' e1
 ·have q2:=un.tups b xs (I.base.tups b xs q)
  rw [ai (aq q2 free)]; exact q2
 ·have q2:=un.frzs b o u (I.base.frzs b o u q)
  rw [ai (aq q2 free)]; exact q2
 ·obtain ⟨m1,e1⟩:=I.base.tbls b ps q
  obtain ⟨m2,e2⟩:=un.tbls b _ e1
  exact ⟨m1++m2,by rw [ai (aq e2 free),e2,VM]⟩
 ·obtain ⟨m,hns,hl⟩:=I.loc
  have hns':h6.Ns X.env.locals m:=by
   obtain ⟨o,es,ep,ho,hd,hk,hm⟩:=hns
   obtain ⟨sl,e⟩:=slot _ o ho I.free hlocal
   exact ⟨_,es,ep,e,hd,hk,hm⟩
  refine ⟨m,hns',λi x v h1 h2 h3=>?_⟩
  obtain ⟨u,r,lk⟩:=hl i x v h1 h2 h3
  refine ⟨u,r,?_⟩
  rcases lk with ⟨k1,k2⟩ | ⟨k1,c,k2,k3⟩
  ·exact .inl ⟨k1,k2⟩
  ·exact .inr ⟨k1,c,k2,cellok x c _ k2 k3⟩
 ·obtain ⟨v,hv⟩:=I.cell x c hc
  exact ⟨v,cellok x c v hc hv⟩
 ·obtain ⟨o,es,ep,ho,_⟩:=(show ∃ m,s1.heap.Ns X.env.locals m from let ⟨m,h,_⟩:=I.loc; ⟨m,h⟩).choose_spec
  exact fr' _ o ho I.free
 ·obtain ⟨v,o,e,d⟩:=I.cell x c hc
  exact fr' c o e (I.freeC x c hc)
 ·obtain ⟨p1,p2,p3,p4,p5⟩:=I.pin p hp
  exact ⟨keep p.1 p.2 p1 p2 (nst p.1 p3 p4),fr' p.1 p.2 p1 p2,p3,p4,p5⟩
 ·by_cases hb:b=a
  ·subst hb
   rw [ah] at q; cases q
   obtain ⟨oe,vs,k1,k2,k3,_⟩:=fl.first
   exact ⟨⟨oe,k1,k2,vs,k3⟩,⟨oe,k1⟩,λh1 h2 ⟨o,z1,z2,z3⟩ k=>⟨o,k o z1,z2,z3⟩⟩
  ·rw [ai hb] at q
   have ht:∀ b o,H' b≠none->s'.heap.get? b=some o->h6.get? b=some o:=λb o hn e=>fl.1 b o (tr b o hn e)
   refine (hok b o q).stay (λc u hc e=>?_) (λc r=>by rw [ai (aq r free)]; exact r) λc xs r=>by rw [ai (aq r free)]; exact r
   rcases hc with rfl | hc
   ·exact ht _ _ (by rw [q]; simp) e
   ·exact ht _ _ (by rw [hc]; simp) e
end
theorem EB (I:Inv X aa Z H s) (hN:X.N.Nodup) (hi:X.N[i]?=some n) (hk:X.env.scope.names.lookup n=some .local)
 (h:∀ s',Inv X aa (Z.set i none) H s'->Q () s'):wpAny M A (do bindName X.env n .none; unbindBehindTheSuite X.env n pos) Q E s:=by
 obtain ⟨m,hn,hl⟩:=id I.loc
 have hcls:(X.env.scope.kind == .class || (X.env.scope.kind == .module && X.env.locals != X.env.globals))=false:=by rw [I.ok.kind]; rfl
 have zT:=I.zT
 refine wpAny_nameGoes_keeps hk hn hcls λh' v hn' hs=>?_
 obtain ⟨oL,_,_,hoL,_⟩:=id hn
 refine h _ ⟨I.ok,I.os,I.bare,⟨λb o e n hb hx=>?_,λb o e n hb hx=>?_,I.base.free,λb o e hx=>?_,I.base.tups,I.base.frzs,I.base.tbls⟩,⟨_,hn',λj y v' e1 e2 e3=>?_⟩,λy c e=>?_,I.free,I.freeC,λp hp=>?_,λb ob e=>?_,by simpa using I.len⟩
 ·exact (hs.2 b (PJ (P9 (Pf e) I.ok.above))).trans (I.base.keep b o e n hb hx)
 ·obtain ⟨sl,e1⟩:=I.base.slot b o e n hb hx
  exact ⟨sl,(hs.2 b (PJ (P9 (Pf e) I.ok.above))).trans e1⟩
 ·obtain ⟨o',e1⟩:=I.base.there b o e hx
  exact ⟨o',(hs.2 b (PJ (P9 (Pf e) I.ok.above))).trans e1⟩
 ·by_cases hj:j=i
  ·subst hj
   have hiZ:j<Z.length:=by rw [I.len]; exact (Po.mp hi).1
   rw [Qu hiZ] at e2
   cases e2
  ·rw [Ql (Py hj)] at e2
   obtain ⟨u',r',q⟩:=hl j y v' e1 e2 e3
   refine ⟨u',r',?_⟩
   rcases q with ⟨k,e⟩ | ⟨k,c,e,z⟩
   ·refine .inl ⟨k,?_⟩
    have:y≠n:=λe=>hj (kN hN e1 (e ▸ hi))
    simp [this,e]
   ·exact .inr ⟨k,c,e,z.sameBut hs (zT y c e)⟩
 ·obtain ⟨w',z⟩:=I.cell y c e
  exact ⟨w',z.sameBut hs (zT y c e)⟩
 ·obtain ⟨e,n,ne,nf,d⟩:=I.pin p hp
  exact ⟨(hs.2 p.1 ne).trans e,n,ne,nf,d⟩
 ·refine (I.hok b ob e).stay (λc w' hc q=>(hs.2 c ?_).trans q) (λ_ q=>q) λ_ _ q=>q
  rintro rfl
  rcases hc with rfl | hc
  ·rw [I.free] at e; cases e
  ·rw [I.free] at hc; cases hc
theorem A7 (I:Inv X aa Z H s) (hg:Gl X x) (hm:X.mg x=some u) (h:Q u s)
 (hd:Ndb x:=by decide):wpAny (model X.prog X.w) A (eval (.Name x pos) X.env) Q E s :=
 U7 I.ok.kind hg (Calls.loadGlobal_global (by rw [I.ok.glob]; exact I.mod.glob.keeps I.bk) hm h) hd
theorem L8 {i:Nat} (I:Inv X aa Z H s) (hN:X.N[i]?=some x) (hv:M4 X.env.scope x) (hs:Z[i]?=some (some v)) (h:∀ u,RelV v u->Q u s)
 (hd:Ndb x:=by decide) (hcd:Ncd x:=by decide):wpAny (model X.prog X.w) A (eval (.Name x pos) X.env) Q E s:=by
 obtain ⟨m,hn,hl⟩:=I.loc
 obtain ⟨u,r,l⟩:=hl i x v hN hs hv
 rcases l with ⟨hk,hm⟩ | ⟨hk,c,hc,hcell⟩
 ·exact S9 (Vv I.ok.kind hk hn hm (h u r)) hd
 ·rcases hk with hk | hk
  ·exact S9 (VA I.ok.kind hk hc hcell (h u r)) hd
  ·exact S9 (wpAny_loadName_free I.ok.kind hk hc hcell (h u r) hcd) hd
theorem EC (b:aL Hf H) (s:aL H H') (free:H' a=none):bz H Hf (upd H' a (.ext (fh a C))) (upd Hf a (.ext (fh a C))):=by
 have ha:H a=none:=s.free free
 have zW:Hf a=none:=b.free ha
 refine ⟨λc u h=>?_,λc u h=>?_,λc u h=>?_,λc h1 h2 _=>?_⟩
 ·rw [ai (aq (s c u h) free)]; exact s c u h
 ·rw [ai (aq h zW)]; exact h
 ·by_cases e:c=a
  ·subst e; rw [ah] at h |-; exact h
  ·rw [ai e] at h |-; exact s c u (b c u h)
 ·by_cases e:c=a
  ·subst e; exact absurd ha h2
  ·rw [ai e]; exact h1
section
variable {K:O7}
theorem dN.gone' (S:dN K H₀ fc Z H Hf Y):dN K H₀ fc (Z.set i none) H Hf (Y.set i .un):=by
 refine ⟨S.bas,by simp [S.len],λj r hj hu=>?_,λj j' r r' q hne h1 h2 o1 o2=>?_⟩
 ·by_cases q:j=i
  ·subst q
   have hi:j<Y.length:=by have:=(Po.mp hj).1; simpa using this
   rw [Qu hi] at hj; cases hj; exact absurd rfl hu
  ·rw [Ql (Py q)] at hj |-
   exact S.at_ j r hj hu
 ·have out:∀ {j:Nat} {r:Sl},(Y.set i .un)[j]?=some r->r.owned=true->Y[j]?=some r/\j≠i:=λ{j r} hj ho=>by
   by_cases q:j=i
   ·subst q
    have hi:j<Y.length:=by have:=(Po.mp hj).1; simpa using this
    rw [Qu hi] at hj; cases hj; cases ho
   ·rw [Ql (Py q)] at hj; exact ⟨hj,q⟩
  obtain ⟨a1,n1⟩:=out h1 o1
  obtain ⟨a2,n2⟩:=out h2 o2
  rw [Ql (Py n1),Ql (Py n2)]
  exact S.sep j j' r r' q hne a1 a2 o1 o2
def A8 (K:O7) (Ch:Addr) (i j:Nat) (nx:List Sl->Prop) (C:Addr) (Y:List Sl):Prop :=
 Tz K (.ref C) (.ref Ch)=some true/\∃ Y1 Y2,SSet Y j (.va (.exc C)) Y1/\SSet Y1 i .un Y2/\nx Y2
theorem A9 {c:Ctx P w K mg base k N sc false} (hm:mg xh=some (.ref Ch)) (hNi:At N i n) (hNj:At N j y) (hij:i≠j)
 (hb:∀ c':Ctx P w K mg base k N sc false,(∀ C Y',A8 K Ch i j nx C Y'->c'.RX C Y')->aU c' body Y nx p)
 (hl:sc.names.lookup n=some .local:=by rfl') (hg:sc.names.lookup xh=some .globalImplicit:=by rfl') (hdx:Ndb xh:=by decide)
 (hdn:Ndb n:=by decide) (hcn:Ncd n:=by decide) (hs:∀ env,swapsWith (.Name n np2) (some (.Name y yp)) ap.line env=pure false:=by symm) :
 fm c (.Try body [.ExceptHandler (some (.Name xh hp)) (some n) [.Assign [.Name y yp] (.Name n np2) ap] hpos] [] [] pos) Y nx p:=λZ H Hf D S o aa s I=>by
 let hd:ExceptHandler:=.ExceptHandler (some (.Name xh hp)) (some n) [.Assign [.Name y yp] (.Name n np2) ap] hpos
 let M:=model c.X.prog c.X.w
 let Wx:Value->Shared->Prop:=λe s₁=>wpAny M c.X.A (noteFrame e c.X.env) (λ_ s₂=>wpAny M c.X.A (setFlight e none) (λ_ s₃=>wpAny M c.X.A (handleBy e c.X.env [hd]) (SP c.X aa D) c.X.xe s₃) c.X.xe s₂) c.X.xe s₁
 let X':Cx:={ c.X with xe:=Wx,pn:=c.X.pn++aa }
 have toX:∀ {pins' Z' H' s'},Inv X' pins' Z' H' s'->Inv c.X (aa++pins') Z' H' s':=λ{pins' Z' H' s'} I=>⟨⟨I.ok.mod,I.ok.kind,I.ok.glob,I.ok.blt,I.ok.above,I.ok.inj,I.ok.has,I.ok.cab,I.ok.hd,I.ok.frames,I.ok.stk,I.ok.exf,I.ok.bs,I.ok.bsz,I.ok.noex,I.ok.exfs,I.ok.gS,I.ok.frf⟩,
  I.os,I.bare,I.base,I.loc,I.cell,I.free,I.freeC,λq hq=>I.pin q (by show q∈(c.X.pn++aa)++pins'; rw [PU]; exact hq),I.hok,I.len⟩
 have drop:∀ {pins' Z' H' s'},Inv c.X (aa++pins') Z' H' s'->Inv c.X aa Z' H' s':=λ{pins' Z' H' s'} I=>I.dS
 have I':Inv X' [] Z H s:=⟨⟨I.ok.mod,I.ok.kind,I.ok.glob,I.ok.blt,I.ok.above,I.ok.inj,I.ok.has,I.ok.cab,I.ok.hd,I.ok.frames,I.ok.stk,I.ok.exf,I.ok.bs,I.ok.bsz,I.ok.noex,I.ok.exfs,I.ok.gS,I.ok.frf⟩,
  I.os,I.bare,I.base,I.loc,I.cell,I.free,I.freeC,λq hq=>I.pin q (by have z:q∈(c.X.pn++aa)++[]:=hq; rw [Qv] at z; exact z),I.hok,I.len⟩
 have hx:∀ (C a:Addr) (pins':List (Addr×Obj)) (Z1:L2.St) (H1 aP:Hp) (Y1:List Sl) (s1:Shared) (H':Hp) (s':Shared),Inv X' pins' Z1 H1 s1->dN c.X.K c.B c.Hf Z1 H1 aP Y1->A8 K Ch i j nx C Y1->Eh c.X.prog c.X.w c.X.stack H1 s1 a C H' s'->aL H1 H'->Wx (.ref a) s':=by
  rintro C a pins' Z1 H1 aP Y1 s1 H' s' I1 S1 ⟨hex,Y2,Y3,hs1,hs2,hnx⟩ E sm
  obtain ⟨os,bare,un,hok,new,free,t,B,fl,cov,tr⟩:=E
  have J1:Inv c.X (aa++pins') Z1 H1 s1:=toX I1
  have hfr:c.X.A.frames=some (c.X.env::c.X.outer):=by rw [J1.ok.frames,(c.top rfl).1]
  have fl':TV B (c.X.env::c.X.outer) a (.ref C) (.ref t) s'.heap:=by rw [<- (c.top rfl).1]; exact fl
  refine wpAny_looks_onW hfr (c.top rfl).2.1 fl' λh4 held4 up4=>?_
  refine wpAny_landsW held4 λh5 fl5 up5'=>?_
  have up5:=up4.trans up5'
  have fl5s:TV B c.X.stack a (.ref C) (.ref t) h5:=by rw [(c.top rfl).1]; exact fl5
  have J5:Inv c.X (aa++pins') Z1 (upd H' a (.ext (fh a C))) { s' with heap:=h5 }:=lH J1 (c.top rfl) (c.cb rfl _ _ _ _ J1) os bare un hok new free fl5s cov tr up5
  refine wpAny_handleBy_cons (codeAny_handlers_test (A7 J5 (by unfold Gl P6; rw [c.esc]; exact hg) (by rw [c.emg]; exact hm) ?_ hdx)) (by intro q; cases q)
  have LT:PySem.W.Looks M h5 (typeOf (.ref a)) (.ref C):=by
   obtain ⟨ob,hob,hc⟩:=fl5.there
   rw [<- hc]; exact (PySem.W.Looks.ld hob).andThen .now
  have KX:K.In h5:=by
   have z:c.X.K.In h5:=J5.qK
   rw [c.eK] at z; exact z
  refine (PySem.W.exm_one KX LT hex).at ?_
  refine codeAny_handlers_suite_as ?_
  refine lands_againW fl5 λh6 fl6 up6=>?_
  have fl6s:TV B c.X.stack a (.ref C) (.ref t) h6:=by rw [(c.top rfl).1]; exact fl6
  have J6:Inv c.X (aa++pins') Z1 (upd H' a (.ext (fh a C))) { s' with heap:=h6 }:=lH J1 (c.top rfl) (c.cb rfl _ _ _ _ J1) os bare un hok new free fl6s cov tr (up5.trans up6)
  have hNd:c.X.N.Nodup:=by rw [c.eN]; exact c.nd
  have hNi':c.X.N[i]?=some n:=by rw [c.eN]; exact hNi.get
  have hNj':c.X.N[j]?=some y:=by rw [c.eN]; exact hNj.get
  have hln:c.X.env.scope.names.lookup n=some .local:=by rw [c.esc]; exact hl
  refine gc J6 hNd hNi' (.inl hln) (show RelV (.ref a) (.ref a) from rfl) (λs7 J7=>?_) (c.fn n (.inl rfl))
  have hiZ:i<Z1.length:=by rw [J6.len]; exact (Po.mp hNi').1
  refine wpAny_execs_cons ?_
  have hj0:(Z1.set i (some (.ref a)))[i]?=some (some (.ref a)):=Qu hiZ
  refine wpAny_Assign_Name (L8 (v:=.ref a) J7 hNi' (by rw [c.esc]; exact .inl hl) hj0 (λu ru=>?_) hdn hcn) (hs _)
  refine gc J7 hNd hNj' (by rw [c.esc]; exact c.vis y hNj.mem) ru (λs8 J8=>?_) (c.fn y (.inl rfl))
  refine Tr ?_
  refine EB J8 hNd hNi' hln λs9 J9=>?_
  refine ⟨_,_,drop J9,o.nx _ _ (upd aP a (.ext (fh a C))) Y3 ?_ hnx⟩
  have g1:bz H1 aP (upd H' a (.ext (fh a C))) (upd aP a (.ext (fh a C))):=EC S1.sb sm free
  have re:bx c.X.K (λp=>H1 p=none) (upd H' a (.ext (fh a C))) (upd aP a (.ext (fh a C))) (.va (.exc C)) (.ref a):=(ki (K:=c.X.K)).mpr ⟨a,rfl,ah⟩
  have T1:=S1.set (i:=i) g1 re
  have re2:bx c.X.K (λp=>(upd H' a (.ext (fh a C))) p=none) (upd H' a (.ext (fh a C))) (upd aP a (.ext (fh a C))) (.va (.exc C)) (.ref a):=(ki (K:=c.X.K)).mpr ⟨a,rfl,ah⟩
  have T2:=T1.set (i:=j) (.refl T1.sb) re2
  have hi3:=hs2
  have e1:=hs1.eq
  have e2:=hs2.eq
  have T3:dN c.X.K c.B c.Hf _ _ _ ((Y1.set i (.va (.exc C))).set j (.va (.exc C)) |>.set i .un):=T2.gone'
  have e3:((Y1.set i (.va (.exc C))).set j (.va (.exc C)) |>.set i .un)=Y3:=by
   rw [e2,e1,List.set_comm _ _ hij,List.set_set]
  rw [<- e3]; exact T3
 let c':Ctx P w K mg base k N sc false:={ X:=X',eP:=c.eP,ew:=c.ew,eK:=c.eK,emg:=c.emg,eb:=c.eb,eN:=c.eN,esc:=c.esc,calm:=c.calm,top:=c.top,cb:=λhb pins' Z' H' s' I=>c.cb hb (aa++pins') Z' H' s' (toX I),fn:=c.fn,room:=c.room,nd:=c.nd,vis:=c.vis,B:=c.B,Hf:=c.Hf,RX:=A8 K Ch i j nx,RM:=λ_ _=>False,exc:=λC a pins' Z1 H1 aP Y1 s1 H' s' I1 S1 R1 E1 sm=>hx C a pins' Z1 H1 aP Y1 s1 H' s' I1 S1 R1 E1 sm,mde:=λ_ _ _ _ _ _ _ _ _ _ _ _ h _=>h.elim }
 have hbd:GO X' body D Z H:=hb c' (λ_ _ h=>h) Z H Hf D S ⟨o.nx,o.rt,o.bk,o.ct⟩
 refine wpAny_Try_except (Qd (lB (X:=X') [] s Z H D I' hbd) (λf s1 q=>?_) λe s1 q=>q)
 cases f with
 | next =>
  obtain ⟨Z',H',I1,q⟩:=q
  exact Tr ⟨Z',H',drop (toX I1),q⟩
 | brk=>obtain ⟨Z',H',I1,q⟩:=q; exact ⟨Z',H',drop (toX I1),q⟩
 | cont=>obtain ⟨Z',H',I1,q⟩:=q; exact ⟨Z',H',drop (toX I1),q⟩
 | ret u=>obtain ⟨v,Z',H',I1,r,q⟩:=q; exact ⟨v,Z',H',drop (toX I1),r,q⟩
end
section
variable {K:O7} {R:D->Prop}
theorem v7 (h:R d):IC R (.va d):=⟨d,rfl,h⟩
theorem gm (h:R (.lst ds)):IC R (.ow ds):=⟨.lst ds,rfl,h⟩
theorem IU (h:aB c a Y λx=>aB c b Y λy=>lG x y (IC R)):aB c (.BinOp a .Add b pos) Y R:=e_x (GZ h)
theorem rj.imp {R R':List D->Prop} (h:rj c es Y R) (hi:∀ d,R d->R' d):rj c es Y R':=λZ H Hf Q S q=>h Z H Hf Q S λd v H' aj rd=>q d v H' aj (hi d rd)
theorem IV (h:rj c es Y λds=>Sd (ds.length<=sizeLine) (R (.lst ds))):aB c (.List es pos) Y R:=e_x (GS (h.imp λds hd=>⟨hd.s,gm hd.r⟩))
theorem Ba {lo hi:Option Expr} (h:aB c e Y λx=>IM c lo Y λl=>IM c hi Y λu=>IS x l u (IC R)):aB c (.Subscript e (.Slice lo hi none p2) pos) Y R:=e_x (v5 h)
theorem Bb {R:Sl->Prop} (h:R (.va (.int (i+j)))):lG (.int i) (.int j) R:=.int h
theorem Bc {ds es:List D} {R:Sl->Prop} (h:Sd (ds.length+es.length<=sizeLine) (R (.ow (ds++es)))):lG (.lst ds) (.lst es) R:=.lst h
theorem Be {ds es:List D} {R:Sl->Prop} (h:Sd (ds.length+es.length<=sizeLine) (R (.va (.tup (ds++es))))):lG (.tup ds) (.tup es) R:=.tup h
theorem DE {b:Bool} (ty:yy K d t) (e:Qq K t cv=some b) (h:R (.bl b)):∃ t b,yy K d t/\Qq K t cv=some b/\R (.bl b):=⟨t,b,ty,e,h⟩
theorem v8 (h:aB c a Y λx=>aB c b Y λy=>KY x y R) (hs:kg b:=by with_unfolding_all exact λ_ _=>rfl):aB c (.Subscript a b pos) Y R:=L6 h hs
theorem IW {x:D} {Q:List D->Prop} (e:x.row=some ds) (h:Q ds):∃ ys,x.row=some ys/\Q ys:=⟨ds,e,h⟩
theorem aO {F:Fn} {R:Sl->Prop} (h:F ds (.ok sl)) (r:R sl):∃ r,F ds r/\KW c Y R r:=⟨_,h,r⟩
theorem Ma {F:Fn} {R:Sl->Prop} (h:F ds (.ex C)) (r:c.RX C Y):∃ r,F ds r/\KW c Y R r:=⟨_,h,r⟩
end
section
variable {K:O7}
end
noncomputable def del (H:Hp) (p:Addr):Hp:=λb=>if b=p then none else H b
theorem fE:del H p p=none:=if_pos rfl
theorem bQ (h:b≠p):del H p b=H b:=if_neg h
theorem Bf (h:H₀ p=none) (s:aL H₀ H):aL H₀ (del H p):=λb o e=>by
 rw [bQ (aq e h)]; exact s b o e
theorem dW (h:del H p b=some o):b≠p/\H b=some o:=by
 by_cases e:b=p
 ·subst e; rw [fE] at h; cases h
 ·rw [bQ e] at h; exact ⟨e,h⟩
theorem eT (sb:aL Hf H) (hp:Hf p=none):bz (del H p) Hf (upd H p o) Hf :=
 ⟨λb u e=>by obtain ⟨h1,h2⟩:=dW e; rw [ai h1]; exact h2,.refl _,λb u e=>by rw [ai (aq e hp)]; exact sb b u e,λ_ h _ _=>h⟩
section
variable {K:O7}
theorem bx.G0 (ho:r.owned=true) (h:bx K fr H Hf r v):∃ p o,v=.ref p/\fr p/\H p=some o/\Hf p=none/\¬ AG H p:=by
 have nf:∀ {p:Addr} {u:HO},H p=some u->(∀ φ,u≠.ext φ)->¬ AG H p:=λe k ⟨z,e2⟩=>by rw [e] at e2; exact k _ (QU e2)
 cases r with
 | un=>cases ho
 | va d=>cases ho
 | fo s=>cases ho
 | ow ds=>obtain ⟨p,xs,rfl,f,h1,h2,_⟩:=h; exact ⟨p,_,rfl,f,h1,h2,nf h1 (by intro _ z; cases z)⟩
 | oT ds=>obtain ⟨p,xs,rfl,f,h1,h2,_⟩:=h; exact ⟨p,_,rfl,f,h1,h2,nf h1 (by intro _ z; cases z)⟩
 | oK ds=>obtain ⟨p,xs,rfl,f,h1,h2,_⟩:=h; exact ⟨p,_,rfl,f,h1,h2,nf h1 (by intro _ z; cases z)⟩
 | aw a ds=>obtain ⟨p,xs,rfl,f,h1,h2,_⟩:=h; exact ⟨p,_,rfl,f.1,h1,h2,nf h1 (by intro _ z; cases z)⟩
 | aT a ds=>obtain ⟨p,xs,rfl,f,h1,h2,_⟩:=h; exact ⟨p,_,rfl,f.1,h1,h2,nf h1 (by intro _ z; cases z)⟩
 | aK a ds=>obtain ⟨p,xs,rfl,f,h1,h2,_⟩:=h; exact ⟨p,_,rfl,f.1,h1,h2,nf h1 (by intro _ z; cases z)⟩
theorem bx.rJ (ho:r.owned=true) (h:bx K fr H Hf r v):∃ p o,v=.ref p/\fr p/\H p=some o/\Hf p=none :=
 let ⟨p,o,a,b,c,d,_⟩:=h.G0 ho; ⟨p,o,a,b,c,d⟩
theorem bx.Mb (nf:¬ AG H p) (hv:r.owned=true->v≠.ref p) (h:bx K fr H Hf r v):bx K fr (del H p) Hf r v :=
 bx.mv (B:=λq=>q=p) (.refl _) (λq o hq e1 _ e3=>⟨by rw [bQ hq]; exact e1,e3⟩) (λ_ q e=>by subst e; exact nf) (λho q z e=>by subst e; exact hv ho z) h
theorem dN.own (S:dN K H₀ fc Z H Hf Y) {i:Nat} (hi:Y[i]?=some r) (ho:r.owned=true):∃ p,Z[i]?=some (some (.ref p))/\bx K (λp=>H₀ p=none) H Hf r (.ref p):=by
 obtain ⟨v,e,q⟩:=S.at_ i r hi (by rintro rfl; cases ho)
 obtain ⟨p,o,rfl,_⟩:=q.rJ ho
 exact ⟨p,e,q⟩
theorem dN.upd (S:dN K H₀ fc Z H Hf Y) (hi:Y[i]?=some r) (ho:r.owned=true) (hp:Z[i]?=some (some (.ref p))) (g:bz (del H p) Hf H1 aP)
 (hr:bx K (λq=>q=p) H1 aP r' (.ref p)) (ho':r'.owned=true):dN K H₀ fc Z H1 aP (Y.set i r'):=by
 obtain ⟨p',ep,q⟩:=S.own hi ho
 rw [hp] at ep; cases ep
 obtain ⟨_,o,e,fp,hHp,hfp,nfz⟩:=q.G0 ho
 cases e
 have hlt:i<Y.length:=(Po.mp hi).1
 refine ⟨⟨(Bf fp S.bas.s).trans g.s,S.bas.f.trans g.f,g.b,λb h1 h2 h3=>?_⟩,by simp [S.len],λj r1 hj hu=>?_,λj j' r1 r2 q' hne h1 h2 o1 o2=>?_⟩
 ·have hb:b≠p:=λz=>by subst z; exact h2 fp
  cases z:H₀ b with
  | none=>exact absurd z h2
  | some o1 =>
   have e1:=S.bas.s b o1 z
   refine g.n b (S.bas.n b h1 h2 h3) (by rw [bQ hb,e1]; simp) λxs=>?_
   rw [bQ hb,e1,<- z]; exact h3 xs
 ·by_cases e:j=i
  ·subst e
   rw [Qu hlt] at hj; cases hj
   exact ⟨_,hp,hr.weak λq' z=>by subst z; exact fp⟩
  ·rw [Ql (Py e)] at hj
   obtain ⟨v,e1,e2⟩:=S.at_ j r1 hj hu
   exact ⟨v,e1,(e2.Mb (p:=p) nfz λow z=>by subst z; exact S.sep i j _ _ p (Py e) hi hj ho ow hp e1).cD g⟩
 ·have out:∀ {j:Nat} {r1:Sl},(Y.set i r')[j]?=some r1->r1.owned=true->∃ r2,Y[j]?=some r2/\r2.owned=true:=λ{j r1} hj how=>by
   by_cases e:j=i
   ·subst e; exact ⟨r,hi,ho⟩
   ·rw [Ql (Py e)] at hj; exact ⟨r1,hj,how⟩
  obtain ⟨r3,a1,a2⟩:=out h1 o1
  obtain ⟨r4,b1,b2⟩:=out h2 o2
  exact S.sep j j' r3 r4 q' hne a1 b1 a2 b2
end
section
variable {K:O7} {c:Ctx P w K mg base k N sc bk}
theorem Ctx.iQ (c:Ctx P w K mg base k N sc bk) (hN:At N i x) (hd:Ndb x) (hcd:Ncd x):PE c.X (.Name x px) (K2 i) :=
 kO (X:=c.X) (i:=i) (by rw [c.eN]; exact hN.get) (by rw [c.esc]; rcases c.vis x hN.mem with h | h; exact .inl h; exact .inr (.inl h)) hd hcd
noncomputable def Sl.getL:Sl->Option (List D) | .ow ds=>some ds | .aw _ ds=>some ds | _=>none
noncomputable def Sl.putL:Sl->List D->Sl | .ow _,es=>.ow es | .aw a _,es=>.aw a es | s,_=>s
theorem bH {r:Sl} (h:r.getL=some ds):r.owned=true:=by cases r <;> first | rfl | cases h
theorem c7 {r:Sl} {ds es:List D} (h:r.getL=some ds):(r.putL es).owned=true:=by cases r <;> first | rfl | cases h
theorem yE {p:Addr} (h:r.getL=some ds) (q:bx K fr H Hf r (.ref p)):∃ xs,H p=some (.lst xs)/\Hf p=none/\ak K Hf ds xs:=by
 cases r with
 | ow es=>cases h; obtain ⟨_,xs,e,_,h1,h2,h3⟩:=q; cases e; exact ⟨xs,h1,h2,h3⟩
 | aw a es=>cases h; obtain ⟨_,xs,e,_,h1,h2,h3⟩:=q; cases e; exact ⟨xs,h1,h2,h3⟩
 | _=>cases h
theorem fF {ds es:List D} {p:Addr} (h:r.getL=some ds) (q:bx K fr H Hf r (.ref p)) (h1:H1 p=some (.lst ys)) (h2:aP p=none) (h3:ak K aP es ys) :
 bx K (λq=>q=p) H1 aP (r.putL es) (.ref p):=by
 cases r with
 | ow _=>exact ⟨p,ys,rfl,rfl,h1,h2,h3⟩
 | aw a _=>obtain ⟨_,xs,e,f,_⟩:=q; cases e; exact ⟨p,ys,rfl,⟨rfl,f.2⟩,h1,h2,h3⟩
 | _=>cases h
theorem IX (hN:At N i x) (hi:At Y i r) (hr:r.getL=some ds) (h:aB c e Y λd=>Sd (ds.length<sizeLine) (Nx Y i nx (r.putL (ds++[d]))))
 (hs:∀ env,swapsWith (.Call (.Attribute (.Name x px) "append" ap) [e] [] cp) none pos.line env=pure false:=by symm) (hd:Ndb x:=by decide) (hcd:Ncd x:=by decide)
 (hbase:∀ env,attributeBase (.Name x px) "append" env (eval (.Name x px) env)=eval (.Name x px) env:=by symm)
 (hfew:∀ env,((backTo cp (starEach [e] env)).all (λx=> !x.1) && (backToKw cp (keywordEach [] env)).all (λx=>x.1.isSome)
   && decide (([e]:List Expr).length+([]:List Keyword).length+(if ([]:List Keyword).isEmpty then 0 else 1)<30))=true:=by symm)
 (hline:(ap.endLine == cp.line)=true:=by rfl') (he:∀ env,starEach [e] env=(false,eval e env)::starEach [] env:=by symm) (hpl:∀ env,(backTo cp (starEach [] env)).any (·.1)=false:=by symm) :
 fm c (.Expr (.Call (.Attribute (.Name x px) "append" ap) [e] [] cp) pos) Y nx p:=λZ H Hf D S o=>by
 obtain ⟨q,eq,rq⟩:=S.own hi.get (bH hr)
 obtain ⟨xs,h1,h2,h3⟩:=yE hr rq
 refine cO (iK (GK Uh PySem.F.slot_list_append PySem.F.type_list_append nH (c.iQ hN hd hcd) (bC cI cM (he _)) (hbase _) (hfew _) hline (he _) (hpl _)) (hs _)) ⟨_,eq,.inl ⟨rfl,xs,.inl (.inl h1)⟩,?_⟩
 refine h Z H Hf _ S λd v H' aj ⟨hz,Y',hs',hn⟩ rd g=>?_
 have S':=S.cD g
 have e1:H' q=some (.lst xs):=g.s _ _ h1
 have e2:aj q=none:=g.n q h2 (by rw [h1]; simp) (by intro ys; rw [h1]; simp)
 refine ⟨q,xs,v,rfl,rfl,e1,by rw [<- h3.length]; exact hz,?_⟩
 refine o.nx _ _ aj Y' ?_ hn
 rw [hs'.eq]
 have rq':=rq.cD g
 exact S'.upd hi.get (bH hr) eq (eT g.b e2) (fF hr rq' ah e2 ((h3.mono g.f).append (.one rd))) (c7 hr)
end
section
variable {U β:Type} [DecidableEq U]
noncomputable def aM (kvs:List (U×β)) (k:U):Option β:=(kvs.find? λkv=>decide (kv.1=k)).map (·.2)
noncomputable def putD (kvs:List (U×β)) (k:U) (v:β):List (U×β) :=
 if (aM kvs k).isSome=true then kvs.map (λkv=>if kv.1=k then (kv.1,v) else kv) else kvs++[(k,v)]
theorem bg {q:U×β} {r:List (U×β)} {k:U} (e:q.1=k):aM (q::r) k=some q.2:=by simp [aM,QV,e]
theorem aQ {q:U×β} {r:List (U×β)} {k:U} (e:¬ q.1=k):aM (q::r) k=aM r k:=by simp [aM,QV,e]
end
noncomputable def D.yF:D->Option Key | .int i=>some (.inl i) | .str x=>some (.inr x) | _=>none
noncomputable def D.keys:List D->Option (List Key)
 | []=>some []
 | d::r=>match d.yF,D.keys r with | some k,some ks=>some (k::ks) | _,_=>none
theorem iR {K:O7} (h:d.yF=some k) (r:Rep K H d v):v=kV k:=by
 cases d with
 | int i=>cases h; exact au.mp r
 | str x=>cases h; exact c8.mp r
 | _=>cases h
theorem jx {K:O7}:∀ {ds:List D} {ks:List Key} {xs:List V},D.keys ds=some ks->ak K H ds xs->xs=ks.map kV
 | [],ks,xs,h,r=>by cases h; rw [aA.mp r]; rfl
 | d::ds,ks,xs,h,r=>by
  obtain ⟨x,t,rfl,r1,r2⟩:=aF.mp r
  unfold D.keys at h
  cases e1:d.yF with
  | none=>rw [e1] at h; cases h
  | some k =>
   cases e2:D.keys ds with
   | none=>rw [e1,e2] at h; cases h
   | some ks' =>
    rw [e1,e2] at h; cases h
    rw [iR e1 r1,jx e2 r2]; rfl
noncomputable def Sl.G1:Sl->Bool | .oK _=>true | .aK _ _=>true | .oT _=>true | .aT _ _=>true | _=>false
theorem rK {r:Sl} (h:r.G1=true):r.owned=true:=by cases r <;> first | rfl | cases h
noncomputable def Sl.rL:Sl->Option (List (Key×D)) | .oK kvs=>some kvs | .aK _ kvs=>some kvs | _=>none
noncomputable def Sl.jT:Sl->List (Key×D)->Sl | .oK _,es=>.oK es | .aK a _,es=>.aK a es | s,_=>s
noncomputable def Sl.yG:Sl->Option (List (List Key×D)) | .oT kvs=>some kvs | .aT _ kvs=>some kvs | _=>none
noncomputable def Sl.Bg:Sl->List (List Key×D)->Sl | .oT _,es=>.oT es | .aT a _,es=>.aT a es | s,_=>s
theorem fQ {r:Sl} (h:r.rL=some kvs):r.owned=true:=by cases r <;> first | rfl | cases h
theorem iy {r:Sl} (h:r.rL=some kvs):(r.jT es).owned=true:=by cases r <;> first | rfl | cases h
theorem uC {r:Sl} (h:r.yG=some kvs):(r.Bg es).owned=true:=by cases r <;> first | rfl | cases h
section
variable {K:O7} {fr:Addr->Prop} {H Hf H1 aP:Hp} {r:Sl} {p:Addr}
theorem uD (h:r.rL=some kvs) (q:bx K fr H Hf r (.ref p)):∃ xs,H p=some (.dK xs)/\Hf p=none/\ir K Hf kvs xs:=by
 cases r with
 | oK es=>cases h; obtain ⟨_,xs,e,_,h1,h2,h3⟩:=q; cases e; exact ⟨xs,h1,h2,h3⟩
 | aK a es=>cases h; obtain ⟨_,xs,e,_,h1,h2,h3⟩:=q; cases e; exact ⟨xs,h1,h2,h3⟩
 | _=>cases h
theorem ED (h:r.yG=some kvs) (q:bx K fr H Hf r (.ref p)):∃ xs,H p=some (.dT xs)/\Hf p=none/\mX K Hf kvs xs:=by
 cases r with
 | oT es=>cases h; obtain ⟨_,xs,e,_,h1,h2,h3⟩:=q; cases e; exact ⟨xs,h1,h2,h3⟩
 | aT a es=>cases h; obtain ⟨_,xs,e,_,h1,h2,h3⟩:=q; cases e; exact ⟨xs,h1,h2,h3⟩
 | _=>cases h
theorem lI (h:r.rL=some kvs) (q:bx K fr H Hf r (.ref p)) (h1:H1 p=some (.dK ys)) (h2:aP p=none) (h3:ir K aP es ys):bx K (λq=>q=p) H1 aP (r.jT es) (.ref p):=by
 cases r with
 | oK _=>exact ⟨p,ys,rfl,rfl,h1,h2,h3⟩
 | aK a _=>obtain ⟨_,xs,e,f,_⟩:=q; cases e; exact ⟨p,ys,rfl,⟨rfl,f.2⟩,h1,h2,h3⟩
 | _=>cases h
theorem Bh (h:r.yG=some kvs) (q:bx K fr H Hf r (.ref p)) (h1:H1 p=some (.dT ys)) (h2:aP p=none) (h3:mX K aP es ys):bx K (λq=>q=p) H1 aP (r.Bg es) (.ref p):=by
 cases r with
 | oT _=>exact ⟨p,ys,rfl,rfl,h1,h2,h3⟩
 | aT a _=>obtain ⟨_,xs,e,f,_⟩:=q; cases e; exact ⟨p,ys,rfl,⟨rfl,f.2⟩,h1,h2,h3⟩
 | _=>cases h
noncomputable def Bj (K:O7) (Hf:Hp):Option D->Option V->Prop
 | none,none=>True
 | some d,some v=>Rep K Hf d v
 | _,_=>False
theorem ir.val (h:ir K Hf kvs xs) (k:Key):Bj K Hf (aM kvs k) (kY xs k):=by
 unfold ir at h
 induction h with
 | nil=>exact Rb
 | @cons a b as bs h t ih =>
  by_cases e:a.1=k
  ·rw [bg e,kZ (h.1.symm.trans e)]; exact h.2
  ·rw [aQ e,k9 (λz=>e (h.1.trans z))]; exact ih
theorem Bj.isSome (h:Bj K Hf o u):o.isSome=u.isSome:=by
 cases o <;> cases u <;> first | rfl | exact h.elim
theorem ir.put (h:ir K Hf kvs xs) (k:Key) (rd:Rep K Hf d v):ir K Hf (putD kvs k d) (putK xs k v):=by
 have e:=(h.val k).isSome
 unfold putD putK
 rw [e,qW]
 by_cases q:(kY xs k).isSome=true
 ·rw [if_pos q,if_pos q]
  unfold ir at h |-
  clear e q
  induction h with
  | nil=>exact .nil
  | @cons a b as bs h t ih =>
   rw [Pn,Pn]
   refine .cons ?_ ih
   by_cases e:a.1=k
   ·rw [if_pos e,if_pos (h.1.symm.trans e)]; exact ⟨h.1,rd⟩
   ·rw [if_neg e,if_neg (λz=>e (h.1.trans z))]; exact h
 ·rw [if_neg q,if_neg q]; exact U0 h ⟨rfl,rd⟩
theorem mX.val (h:mX K Hf kvs xs) (k):Bj K Hf (aM kvs k) (atT xs k):=by
 unfold mX at h
 induction h with
 | nil=>exact Rb
 | @cons a b as bs h t ih =>
  by_cases e:a.1=k
  ·have z:L2.atT (b::bs) k=some b.2.2:=by simp [L2.atT,QV,h.1.symm.trans e]
   rw [bg e,z]; exact h.2.2
  ·have z:L2.atT (b::bs) k=L2.atT bs k:=by
    have:¬ b.1=k:=λz=>e (h.1.trans z)
    simp [L2.atT,QV,this]
   rw [aQ e,z]; exact ih
theorem mX.put (h:mX K Hf kvs xs) (k) (hb:c9 K Hf b (k.map kV)) (rd:Rep K Hf d v):mX K Hf (putD kvs k d) (qX xs k b v):=by
 have e:=(h.val k).isSome
 unfold putD qX
 rw [e]
 by_cases q:(atT xs k).isSome=true
 ·rw [if_pos q,if_pos q]
  unfold mX at h |-
  clear e q
  induction h with
  | nil=>exact .nil
  | @cons a b' as bs h t ih =>
   rw [Pn,Pn]
   refine .cons ?_ ih
   unfold pB
   by_cases e:a.1=k
   ·rw [if_pos e,if_pos (h.1.symm.trans e)]; exact ⟨h.1,h.2.1,rd⟩
   ·rw [if_neg e,if_neg (λz=>e (h.1.trans z))]; exact h
 ·rw [if_neg q,if_neg q]; exact U0 h ⟨rfl,hb,rd⟩
theorem mX.Bk (h:mX K Hf kvs xs):∀ x∈xs,c9 K Hf x.2.1 (x.1.map kV):=by
 unfold mX at h
 induction h with
 | nil=>intro x hx; cases hx
 | @cons a b as bs h t ih =>
  intro x hx
  rcases Pg.mp hx with e | hx
  ·subst e; rw [<- h.1]; exact h.2.1
  ·exact ih x hx
inductive zV:Sl->D->Option D->Prop
 | k {r:Sl} {kvs:List (Key×D)} {d:D} {k:Key} (h:r.rL=some kvs) (hk:d.yF=some k):zV r d (aM kvs k)
 | t {r:Sl} {kvs:List (List Key×D)} {ds:List D} {k:List Key} (h:r.yG=some kvs) (hk:D.keys ds=some k):zV r (.tup ds) (aM kvs k)
inductive EE:Sl->D->D->Sl->Prop
 | k {r:Sl} {kvs:List (Key×D)} {d e:D} {k:Key} (h:r.rL=some kvs) (hk:d.yF=some k) (hz:kvs.length<sizeLine):EE r d e (r.jT (putD kvs k e))
 | t {r:Sl} {kvs:List (List Key×D)} {ds:List D} {e:D} {k:List Key} (h:r.yG=some kvs) (hk:D.keys ds=some k) (hz:kvs.length<sizeLine):EE r (.tup ds) e (r.Bg (putD kvs k e))
theorem EE.owned' (h:EE r d e r'):r'.owned=true:=by cases h with | k h _ _=>exact iy h | t h _ _=>exact uC h
theorem zV.get (h:zV r d o) (q:bx K fr H Hf r (.ref p)) (rv:Rep K Hf d v) (sb:aL Hf H):∃ u,ly K H p v u/\Bj K Hf o u:=by
 cases h with
 | k h hk =>
  obtain ⟨xs,h1,_,h3⟩:=uD h q
  rw [iR hk rv]
  exact ⟨_,.inl ⟨xs,_,.inl h1,rfl,rfl⟩,h3.val _⟩
 | t h hk =>
  obtain ⟨xs,h1,_,h3⟩:=ED h q
  obtain ⟨a,ys,rfl,h4,h5⟩:=aI.mp rv
  have:=jx hk h5
  subst this
  exact ⟨_,.inr ⟨xs,_,a,.inl h1,λx hx=>az sb (h3.Bk x hx),rfl,az sb h4,rfl⟩,h3.val _⟩
theorem ir.length (h:ir K Hf kvs xs):kvs.length=xs.length:=QD h
theorem mX.length (h:mX K Hf kvs xs):kvs.length=xs.length:=QD h
theorem EE.put (h:EE r d e r') (q:bx K fr H Hf r (.ref p)) (rv:Rep K Hf d v) (ry:Rep K Hf e y) (sb:aL Hf H) :
 ∃ o,D8 K H p v y (upd H p o)/\bx K (λq=>q=p) (upd H p o) Hf r' (.ref p):=by
 cases h with
 | k h hk hz =>
  obtain ⟨xs,h1,h2,h3⟩:=uD h q
  rw [iR hk rv]
  exact ⟨_,.inl ⟨xs,_,h1,rfl,by rw [<- h3.length]; exact hz,rfl⟩,lI h q ah h2 (h3.put _ ry)⟩
 | t h hk hz =>
  obtain ⟨xs,h1,h2,h3⟩:=ED h q
  obtain ⟨a,ys,rfl,h4,h5⟩:=aI.mp rv
  have:=jx hk h5
  subst this
  exact ⟨_,.inr ⟨xs,_,a,h1,λx hx=>az sb (h3.Bk x hx),rfl,az sb h4,by rw [<- h3.length]; exact hz,rfl⟩,Bh h q ah h2 (h3.put _ h4 ry)⟩
end
section
variable {K:O7} {c:Ctx P w K mg base k N sc bk}
theorem Ctx.hu (c:Ctx P w K mg base k N sc bk):c.X.A.units+1<cLine:=Lv c.room
theorem EF {R:Sl->Prop} (h:R (.oK [])):dU c (.Dict [] [] pos) Y R:=λZ H Hf Q S q =>
 bU AA λp hp=>q (.oK []) (.ref p) _ Hf h ⟨p,[],rfl,hp,ah,S.sb.free hp,.nil⟩ (bz.f7 S.sb hp)
theorem EG {R:Sl->Prop} (h:R (.oT [])):dU c (.Dict [] [] pos) Y R:=λZ H Hf Q S q =>
 bU AB λp hp=>q (.oT []) (.ref p) _ Hf h ⟨p,[],rfl,hp,ah,S.sb.free hp,.nil⟩ (bz.f7 S.sb hp)
theorem v9 (hN:At N i x) (hi:At Y i r) (h:aB c e Y λdk=>∃ d,zV r dk (some d)/\R d) (hs:Ea e:=by intro _ _; rfl') (hd:Ndb x:=by decide) (hcd:Ncd x:=by decide) (ho:r.owned=true:=by rfl) :
 aB c (.Subscript (.Name x px) e pos) Y R:=λZ H Hf Q S q=>by
 obtain ⟨p,ep,rp⟩:=S.own hi.get ho
 refine bU (vL c.hu (c.iQ hN hd hcd) cI hs) ⟨_,ep,h Z H Hf _ S λdk v H' aj ⟨d,lk,hR⟩ rv g=>?_⟩
 obtain ⟨u,dg,rel⟩:=lk.get (rp.cD g) rv g.b
 cases u with
 | none=>exact rel.elim
 | some u=>exact ⟨p,u,rfl,dg,q d u H' aj hR rel g⟩
theorem IY (hN:At N i x) (hi:At Y i r) (h:aB c e Y λdk=>aB c f Y λdf=>∃ o,zV r dk o/\R (o.getD df)) (hd:Ndb x:=by decide) (hcd:Ncd x:=by decide) (ho:r.G1=true:=by rfl)
 (m1:∀ env,attributeBase (.Name x px) "get" env (eval (.Name x px) env)=eval (.Name x px) env:=by symm)
 (m2:∀ env,((backTo cp (starEach [e,f] env)).all (λx=> !x.1) && (backToKw cp (keywordEach [] env)).all (λx=>x.1.isSome)
   && decide (([e,f]:List Expr).length+([]:List Keyword).length+(if ([]:List Keyword).isEmpty then 0 else 1)<30))=true:=by symm)
 (m3:(ap.endLine == cp.line)=true:=by rfl') (m4:∀ env,backTo cp (starEach [e,f] env)=[(false,eval e env),(false,eval f env)]:=by symm) :
 aB c (.Call (.Attribute (.Name x px) "get" ap) [e,f] [] cp) Y R:=λZ H Hf Q S q=>by
 obtain ⟨p,ep,rp⟩:=S.own hi.get (rK ho)
 have DE:N6 H p:=by
  cases r with
  | oK kvs=>obtain ⟨xs,h1,_⟩:=uD (r:=.oK kvs) rfl rp; exact .inl ⟨xs,.inl h1⟩
  | aK a kvs=>obtain ⟨xs,h1,_⟩:=uD (r:=.aK a kvs) rfl rp; exact .inl ⟨xs,.inl h1⟩
  | oT kvs=>obtain ⟨xs,h1,_⟩:=ED (r:=.oT kvs) rfl rp; exact .inr ⟨xs,.inl h1⟩
  | aT a kvs=>obtain ⟨xs,h1,_⟩:=ED (r:=.aT a kvs) rfl rp; exact .inr ⟨xs,.inl h1⟩
  | _=>cases ho
 refine bU (AD c.hu (c.iQ hN hd hcd) cI cI ⟨m1 _,m2 _,m3,m4 _⟩) ⟨_,ep,p,rfl,DE,h Z H Hf _ S λdk v H1 aP h1 rv g1=>h1 Z H1 aP _ (S.cD g1) λdf y H2 cL ⟨o,lk,hR⟩ ry g2=>?_⟩
 obtain ⟨u,dg,rel⟩:=lk.get (rp.cD (g1.trans g2)) (Rep.mono g2.f _ rv) g2.b
 refine ⟨u,dg,?_⟩
 cases o with
 | none=>cases u with
  | none=>exact q df y H2 cL hR ry (g1.trans g2)
  | some _=>exact rel.elim
 | some d=>cases u with
  | none=>exact rel.elim
  | some v'=>exact q d v' H2 cL hR rel (g1.trans g2)
theorem Bl (hN:At N i x) (hi:At Y i r) (h:aB c e Y λdv=>aB c b Y λdk=>∃ r',EE r dk dv r'/\Nx Y i nx r') (ho:r.owned=true:=by rfl)
 (hs:∀ env,swapsWith e (some (.Subscript (.Name x px) b tp)) pos.line env=pure false:=by symm) (hd:Ndb x:=by decide) (hcd:Ncd x:=by decide) :
 fm c (.Assign [.Subscript (.Name x px) b tp] e pos) Y nx p:=λZ H Hf D S o=>by
 obtain ⟨p,ep,rp⟩:=S.own hi.get ho
 refine cO (Ed c.hu (c.iQ hN hd hcd) cI cI (hs _)) (h Z H Hf _ S λdv v H1 aP h1 rv g1=>⟨_,ep,h1 Z H1 aP _ (S.cD g1) λdk y H2 cL ⟨r',pt,Y',hs',hn⟩ ry g2=>?_⟩)
 have g:=g1.trans g2
 obtain ⟨ob,dp,rp'⟩:=pt.put (rp.cD g) ry (Rep.mono g2.f _ rv) g.b
 refine ⟨p,_,rfl,dp,o.nx _ _ cL Y' ?_ hn⟩
 rw [hs'.eq]
 obtain ⟨_,_,e0,_,_,hf⟩:=(rp.cD g).rJ ho
 cases e0
 exact (S.cD g).upd hi.get ho ep (eT g.b hf) rp' pt.owned'
theorem wc (hN:At N i x) (hi:At Y i r) (h:aB c b Y λdk=>∃ m:Int,zV r dk (some (.int m))/\aB c e Y (I1 λj=>∃ r',EE r dk (.int (m+j)) r'/\Nx Y i nx r')) (ho:r.owned=true:=by rfl)
 (ha:∀ ov iv new,augStore b ov iv new=(do holding [new,ov,iv] (setItem ov iv new); release [new,ov,iv] []; pure .next):=by intro _ _ _; rfl') (hd:Ndb x:=by decide) (hcd:Ncd x:=by decide) :
 fm c (.AugAssign (.Subscript (.Name x px) b tp) .Add e pos) Y nx p:=λZ H Hf D S o=>by
 obtain ⟨p,ep,rp⟩:=S.own hi.get ho
 have hop:Ll c.X .Add (yj λi j=>.int (i+j)):=DR
 refine cO (Ef c.hu (c.iQ hN hd hcd) cI cI hop ha) ⟨_,ep,h Z H Hf _ S λdk y H1 aP ⟨m,lk,h1⟩ ry g1=>?_⟩
 obtain ⟨u,dg,rel⟩:=lk.get (rp.cD g1) ry g1.b
 cases u with
 | none=>exact rel.elim
 | some u =>
  have eu:u=V.int m:=(au (K:=c.X.K) (H:=aP)).mp rel
  subst eu
  refine ⟨p,_,rfl,dg,h1 Z H1 aP _ (S.cD g1) λdj y2 H2 cL ⟨j,ej,r',pt,Y',hs',hn⟩ ry2 g2=>?_⟩
  subst ej
  rw [au.mp ry2]
  have g:=g1.trans g2
  obtain ⟨ob,dp,rp'⟩:=pt.put (rp.cD g) (Rep.mono g2.f _ ry) (v:=y) (y:=.int (m+j)) (au.mpr rfl) g.b
  refine ⟨m,j,rfl,rfl,_,dp,o.nx _ _ cL Y' ?_ hn⟩
  rw [hs'.eq]
  obtain ⟨_,_,e0,_,_,hf⟩:=(rp.cD g).rJ ho
  cases e0
  exact (S.cD g).upd hi.get ho ep (eT g.b hf) rp' pt.owned'
theorem G2 (hN:At N i x) (hi:At Y i r) (h:aB c e Y λdk=>∃ o,zV r dk o/\T o.isSome) (ho:r.owned=true:=by rfl) (hm:behindInMarks CmpOp.In (.Name x px)=false:=by rfl')
 (hd:Ndb x:=by decide) (hcd:Ncd x:=by decide):gZ c (.Compare e [.In] [.Name x px] pos) Y T:=λZ H Hf Q S q=>by
 obtain ⟨p,ep,rp⟩:=S.own hi.get ho
 refine lz (oY (Ip c.hu cI (c.iQ hN hd hcd)) hm) (h Z H Hf _ S λdk y H1 aP ⟨o,lk,hT⟩ ry g=>⟨_,ep,?_⟩)
 obtain ⟨u,dg,rel⟩:=lk.get (rp.cD g) ry g.b
 refine ⟨p,u,rfl,dg,u.isSome,rfl,q _ H1 aP ?_ g⟩
 rw [<- rel.isSome]; exact hT
theorem rM (hN:At N i x) (hi:At Y i r) (h:aB c e Y λdk=>∃ o,zV r dk o/\T (!o.isSome)) (ho:r.owned=true:=by rfl) (hm:behindInMarks CmpOp.NotIn (.Name x px)=false:=by rfl')
 (hd:Ndb x:=by decide) (hcd:Ncd x:=by decide):gZ c (.Compare e [.NotIn] [.Name x px] pos) Y T:=λZ H Hf Q S q=>by
 obtain ⟨p,ep,rp⟩:=S.own hi.get ho
 refine lz (oY (yo c.hu cI (c.iQ hN hd hcd)) hm) (h Z H Hf _ S λdk y H1 aP ⟨o,lk,hT⟩ ry g=>⟨_,ep,?_⟩)
 obtain ⟨u,dg,rel⟩:=lk.get (rp.cD g) ry g.b
 refine ⟨p,u,rfl,dg,!u.isSome,rfl,q _ H1 aP ?_ g⟩
 rw [<- rel.isSome]; exact hT
end
noncomputable abbrev iJ:Value->Shared->Prop:=λ_ _=>False
section
variable {prog:Program} {w:World} {A:Around} {R:Result->Shared->Prop} {s:Shared}
theorem pM {elt target iter:Expr} {ifs:List Expr} {scope:Scope} {pos:Pos} {it acc:Value} {env:Env} (I:Nat->Shared->Prop)
 (turn:∀ n s,I n s->wpAny (model prog w) A (pyNext it) (λr s₁=>match r with
   | none=>R (.ok .next) s₁
   | some v=>wpAny (model prog w) A (letOwnedTupleGo target it v) (λ_ s₁'=>wpAny (model prog w) A (assign target env v) (λ_ s₂ =>
    wpAny (model prog w) A (forIn ifs true λc r=>if r=true then do let ok <- isTrue c env (eval c env); pure (Qi ok) else pure (Qi r)) (λok s₃ =>
     if ok=true then wpAny (model prog w) A (eval elt env) (λx s₄ =>
      wpAny (model prog w) A (call (.builtin "list.append") [acc,x]) (λ_ s₅=>∃ m,m<n/\I m s₅) iJ s₄) iJ s₃
     else ∃ m,m<n/\I m s₃) iJ s₂) iJ s₁') iJ s₁) iJ s)
 (n:Nat) (h:I n s) :
 codeAny (model prog w) A (.compLoop (.ListComp elt [⟨target,iter,ifs,0⟩] scope pos) 0 it acc env) R s:=by
 refine codeAny_loop rfl I (λn s hI=>?_) n h
 show wpAny _ A ((compTurn (.ListComp elt [⟨target,iter,ifs,0⟩] scope pos) 0 it acc env).onRaise (λx=>do noteFrame x env; theTreesLotGoes x)) _ _ s
 refine wpAny_noted ?_
 rw [compTurn_list]
 refine O6 (wpAny_standAt (O6 (Qd (turn n s hI) (λr s₁ h₁=>?_) λ_ _ f=>f.elim)))
 cases r with
 | none=>exact O8 h₁
 | some v =>
  refine O6 (Qd h₁ (λ_ s₁' h₁'=>?_) λ_ _ f=>f.elim)
  refine O6 (Qd h₁' (λ_ s₂ h₂=>O6 (Qd h₂ (λok s₃ h₃=>?_) λ_ _ f=>f.elim)) λ_ _ f=>f.elim)
  cases ok with
  | false=>exact O8 ⟨rfl,h₃⟩
  | true =>
   exact O6 (O6 (Qd h₃ (λx s₄ h₄=>O6 (Qd h₄ (λ_ s₅ h₅=>O8 (O8 ⟨rfl,h₅⟩)) λ_ _ f=>f.elim)) λ_ _ f=>f.elim))
theorem jU:∀ (ifs:List Expr),Q false s ->
 wpAny (model prog w) A (forIn ifs false λc r=>if r=true then do let ok <- isTrue c env (eval c env); pure (Qi ok) else pure (Qi r)) Q E s
 | [],h=>O8 h
 | t::ts,h=>by
  simp only [Sf,Qp,if_false]
  exact O6 (O8 (jU ts h))
theorem uE
 (h:wpAny (model prog w) A (isTrue t env (eval t env)) (λb s'=>if b=true then wpAny (model prog w) A (forIn ts true λc r=>if r=true then do let ok <- isTrue c env (eval c env); pure (Qi ok) else pure (Qi r)) Q E s' else Q false s') E s) :
 wpAny (model prog w) A (forIn (t::ts) true λc r=>if r=true then do let ok <- isTrue c env (eval c env); pure (Qi ok) else pure (Qi r)) Q E s:=by
 simp only [Sf,if_true]
 refine O6 (O6 (Qd h (λb s' hb=>O8 ?_) λ_ _ x=>x))
 cases b with
 | true=>exact hb
 | false=>exact jU ts hb
end
noncomputable def cg (scope sc:Scope):Scope:={ scope with names:=scope.names.map λ(n,k)=>if (k == .free && sc.kind == .function && sc.names.lookup n == some .cell) then (n,.cell) else (n,k) }
theorem rN (h:env.scope=sc):relabel scope env=cg scope sc:=by
 subst h; rfl
noncomputable def Sl.tag (a:Addr):Sl->Sl
 | .ow ds=>.aw a ds | .oT ds=>.aT a ds | .oK ds=>.aK a ds
 | .aw b ds=>.aw b ds | .aT b ds=>.aT b ds | .aK b ds=>.aK b ds | .fo s=>.fo s
 | .un=>.un | .va d=>.va d
inductive yH (t:Str->Addr) (nm:List (Str×NameKind)) (N:List Str) (Y:List Sl):List Str->List Sl->Prop
 | nil:yH t nm N Y [] []
 | un {y:Str} {M:List Str} {r:List Sl}:yH t nm N Y M r->yH t nm N Y (y::M) (.un::r)
 | fr {y:Str} {i:Nat} {s s':Sl} {M:List Str} {r:List Sl} (hN:At N i y) (hs:At Y i s) (hy:(y,Rv)∈nm) (ht:s.tag (t y)=s'):yH t nm N Y M r->yH t nm N Y (y::M) (s'::r)
theorem yH.len (h:yH t nm N Y M r):M.length=r.length:=by
 induction h with
 | nil=>rfl
 | un t ih=>simp [ih]
 | fr hN hs hy ht t ih=>simp [ih]
inductive DF:List Sl->List Sl->Prop
 | nil:DF [] []
 | un {r:Sl} {a b:List Sl}:DF a b->DF (.un::a) (r::b)
 | same {r:Sl} {a b:List Sl}:DF a b->DF (r::a) (r::b)
theorem DF.weak (h:DF a b):a.length=b.length/\∀ (i:Nat) (r:Sl),a[i]?=some r->r≠.un->b[i]?=some r:=by
 induction h with
 | nil=>exact ⟨rfl,λi r e=>by simp at e⟩
 | un t ih=>exact ⟨by simp [ih.1],λi r e hu=>by cases i with | zero=>simp at e; exact absurd e.symm hu | succ i=>simpa using ih.2 i r (by simpa using e) hu⟩
 | same t ih=>exact ⟨by simp [ih.1],λi r e hu=>by cases i with | zero=>simpa using e | succ i=>simpa using ih.2 i r (by simpa using e) hu⟩
section
variable {K:O7}
noncomputable def kr (c:Ctx P w K mg base k N sc bk):List Expr->List Sl->(Bool->Prop)->Prop
 | [],_,T=>T true
 | t::ts,Y,T=>gZ c t Y (g6 (kr c ts Y T) (T false))
theorem nR (hq:c.X.xe=iJ):∀ (ifs:List Expr) {H Hf:Hp} {s:Shared},bK c Z H Hf Y->kr c ifs Y T->(∀ b H' aj,T b->bz H Hf H' aj->Q b H')->Inv c.X aa Z H s ->
 wpAny (model c.X.prog c.X.w) c.X.A (forIn ifs true λt r=>if r=true then do let ok <- isTrue t c.X.env (eval t c.X.env); pure (Qi ok) else pure (Qi r)) (TP c.X aa Z Q) iJ s
 | [],H,Hf,s,S,h,q,I=>wpAny_tests_nil ⟨H,I,q true H Hf h (.refl S.sb)⟩
 | t::ts,H,Hf,s,S,h,q,I=>by
  have h0:=h Z H Hf (λb H'=>∃ aj,g6 (kr c ts Y T) (T false) b/\bz H Hf H' aj) S (λb H' aj hb g=>⟨aj,hb,g⟩) aa s I
  rw [hq] at h0
  refine uE (bL h0 λb s' ⟨H',I',aj,hb,g⟩=>?_)
  cases b with
  | true=>exact nR hq ts (S.cD g) (hb.t rfl) (λb H2 cL hT g2=>q b H2 cL hT (g.trans g2)) I'
  | false=>exact ⟨H',I',q false H' aj (hb.f rfl) g⟩
end
theorem lJ:∀ (names:List (Str×NameKind)) (cs:List (Str×Addr)),(∀ x∈names,x.2=.free->∃ a,env.cells.lookup x.1=some a) ->
 ∃ cl,(forIn names cs (λ(x:Str×NameKind) (r:List (Str×Addr))=>(if (x.2 == Rv)=true then do let a <- cellOf env x.1; pure (Qi ((x.1,a)::r)) else pure (Qi r):Sem (ForInStep (List (Str×Addr))))))=(pure cl:Sem (List (Str×Addr))) /\
  (∀ y a,cl.lookup y=some a->cs.lookup y=some a\/env.cells.lookup y=some a/\(y,Rv)∈names)/\(∀ y a,(y,Rv)∈names\/(∃ b,cs.lookup y=some b/\env.cells.lookup y=some b)->env.cells.lookup y=some a->cl.lookup y=some a)
 | [],cs,_=>⟨cs,rfl,λy a e=>.inl e,λy a h e=>by
  rcases h with h | ⟨b,h1,h2⟩
  ·cases h
  ·rw [e] at h2; cases h2; exact h1⟩
 | (n,kd)::r,cs,h=>by
  by_cases hk:kd=.free
  ·subst hk
   obtain ⟨a,ea⟩:=h (n,.free) Pd rfl
   obtain ⟨cl,e1,e2,e3⟩:=lJ r ((n,a)::cs) λx hx=>h x (Ph _ hx)
   refine ⟨cl,?_,λy b e=>?_,λy b hy e=>?_⟩
   ·rw [Sf]
    simp only [beq_self_eq_true,if_true,cellOf,ea,pure_bind]
    exact e1
   ·rcases e2 y b e with z | ⟨z1,z2⟩
    ·rw [VY] at z
     cases q:(y == n) with
     | true =>
      rw [q] at z; cases z
      have:y=n:=by simpa using q
      subst this
      exact .inr ⟨ea,Pd⟩
     | false=>rw [q] at z; exact .inl z
    ·exact .inr ⟨z1,Ph _ z2⟩
   ·refine e3 y b ?_ e
    rcases hy with hy | ⟨b',h1,h2⟩
    ·rcases Pg.mp hy with z | z
     ·cases z; exact .inr ⟨a,by simp,ea⟩
     ·exact .inl z
    ·refine .inr ⟨b',?_,h2⟩
     rw [VY]
     cases q:(y == n) with
     | true =>
      have:y=n:=by simpa using q
      subst this
      rw [ea] at h2; exact h2
     | false=>exact h1
  ·have hb:(kd == Rv)=false:=by simpa using hk
   obtain ⟨cl,e1,e2,e3⟩:=lJ r cs λx hx=>h x (Ph _ hx)
   refine ⟨cl,?_,λy b e=>?_,λy b hy e=>?_⟩
   ·rw [Sf]
    simp only [hb,Qp,if_false,pure_bind]
    exact e1
   ·rcases e2 y b e with z | ⟨z1,z2⟩
    ·exact .inl z
    ·exact .inr ⟨z1,Ph _ z2⟩
   ·refine e3 y b ?_ e
    rcases hy with hy | hy
    ·rcases Pg.mp hy with z | z
     ·cases z; exact absurd rfl hk
     ·exact .inl z
    ·exact .inr hy
theorem EH (h:∀ x∈scope.names,x.2=.free->∃ a,env.cells.lookup x.1=some a) :
 ∃ cl,closureFor scope env=pure cl/\(∀ y a,cl.lookup y=some a->env.cells.lookup y=some a/\(y,Rv)∈scope.names)/\(∀ y a,(y,Rv)∈scope.names->env.cells.lookup y=some a->cl.lookup y=some a):=by
 obtain ⟨cl,e1,e2,e3⟩:=lJ scope.names [] h
 refine ⟨cl,?_,λy a e=>?_,λy a hy e=>e3 y a (.inl hy) e⟩
 ·unfold closureFor
  have e1':=congrArg (· >>= λcs=>(pure cs:Sem _)) e1
  simp only [pure_bind] at e1'
  exact e1'
 ·rcases e2 y a e with z | z
  ·simp at z
  ·exact z
section
variable {P:Program} {w:World} {K:O7} {mg:Str->Option Value} {base:Heap} {k:Nat} {N:List Str} {sc:Scope} {bk:Bool} {c:Ctx P w K mg base k N sc bk} {Y:List Sl} {pos:Pos}
def we (c:Ctx P w K mg base k N sc bk) (tg:Expr) (ifs:List Expr) (elt:Expr) (Y0:List Sl) (d:D) (o:Option D):Prop :=
 nh c tg d Y0 λY1=>DF Y0 Y1/\kr c ifs Y1 (g6 (aB c elt Y1 λe=>o=some e) (o=none))
theorem iS {nm:List (Str×NameKind)}:∀ {y:Str} {kd:NameKind},(nm.map λ(x:Str×NameKind)=>match x with | (n,k)=>(if (k == .free && sc.kind == .function && sc.names.lookup n == some .cell)=true then (n,NameKind.cell) else (n,k))).lookup y=some kd->∃ k0,(y,k0)∈nm/\(kd=k0\/kd=.cell/\k0=.free):=by
 induction nm with
 | nil=>intro y kd h; simp at h
 | cons x r ih =>
  obtain ⟨n,k0⟩:=x
  intro y kd h
  rw [Pn,VY] at h
  by_cases e:(k0 == .free && sc.kind == .function && sc.names.lookup n == some .cell)=true
  ·simp only [e,if_true] at h
   cases q:(y == n) with
   | true =>
    rw [q] at h; cases h
    have:y=n:=by simpa using q
    subst this
    have hf:k0=.free:=by simp only [SS,beq_iff_eq] at e; exact e.1.1
    exact ⟨k0,Pd,.inr ⟨rfl,hf⟩⟩
   | false=>rw [q] at h; obtain ⟨k1,h1,h2⟩:=ih h; exact ⟨k1,Ph _ h1,h2⟩
  ·simp only [e,Qp,if_false] at h
   cases q:(y == n) with
   | true =>
    rw [q] at h; cases h
    have:y=n:=by simpa using q
    subst this
    exact ⟨k0,Pd,.inl rfl⟩
   | false=>rw [q] at h; obtain ⟨k1,h1,h2⟩:=ih h; exact ⟨k1,Ph _ h1,h2⟩
theorem yH.start {Z:L2.St} (h:yH t nm N Y M r) (hZ:∀ (i:Nat) (s:Sl),Y[i]?=some s->s≠.un->∃ v,Z[i]?=some (some v)) :
 ∃ Z0:L2.St,Z0.length=r.length/\∀ (j:Nat) (s:Sl),r[j]?=some s->(s=.un/\Z0[j]?=some none)\/∃ (i:Nat) (y:Str) (v:V) (s0:Sl),M[j]?=some y/\(y,Rv)∈nm/\N[i]?=some y/\Y[i]?=some s0/\s=s0.tag (t y)/\s0≠.un/\Z[i]?=some (some v)/\Z0[j]?=some (some v):=by
 induction h with
 | nil=>exact ⟨[],rfl,λj s e=>by simp at e⟩
 | un t ih =>
  obtain ⟨Z0,hl,h0⟩:=ih
  refine ⟨none::Z0,by simp [hl],λj s e=>?_⟩
  cases j with
  | zero=>simp at e; exact .inl ⟨e.symm,by simp⟩
  | succ j =>
   rcases h0 j s (by simpa using e) with ⟨h1,h2⟩ | ⟨i,y,v,s0,h1,h2,h3,h4,h5,h6,h7,h8⟩
   ·exact .inl ⟨h1,by simpa using h2⟩
   ·exact .inr ⟨i,y,v,s0,by simpa using h1,h2,h3,h4,h5,h6,h7,by simpa using h8⟩
 | @fr y i s' s'' M r hN hs hy ht t ih =>
  obtain ⟨Z0,hl,h0⟩:=ih
  by_cases hu:s'=.un
  ·refine ⟨none::Z0,by simp [hl],λj s e=>?_⟩
   cases j with
   | zero=>simp at e; subst hu; exact .inl ⟨e.symm.trans ht.symm,by simp⟩
   | succ j =>
    rcases h0 j s (by simpa using e) with ⟨h1,h2⟩ | ⟨i,y,v,s0,h1,h2,h3,h4,h5,h6,h7,h8⟩
    ·exact .inl ⟨h1,by simpa using h2⟩
    ·exact .inr ⟨i,y,v,s0,by simpa using h1,h2,h3,h4,h5,h6,h7,by simpa using h8⟩
  ·obtain ⟨v,ev⟩:=hZ i s' hs.get hu
   refine ⟨some v::Z0,by simp [hl],λj s e=>?_⟩
   cases j with
   | zero=>simp at e; subst e; exact .inr ⟨i,y,v,s',by simp,hy,hN.get,hs.get,ht.symm,hu,ev,by simp⟩
   | succ j =>
    rcases h0 j s (by simpa using e) with ⟨h1,h2⟩ | ⟨i,y,v,s0,h1,h2,h3,h4,h5,h6,h7,h8⟩
    ·exact .inl ⟨h1,by simpa using h2⟩
    ·exact .inr ⟨i,y,v,s0,by simpa using h1,h2,h3,h4,h5,h6,h7,by simpa using h8⟩
noncomputable def Sl.adr:Sl->Option Addr | .aw a _=>some a | .aT a _=>some a | .aK a _=>some a | _=>none
theorem nS {s:Sl}:(s.tag a).owned=s.owned:=by cases s <;> rfl
theorem EI {s:Sl} (h:s.owned=true):∃ b,(s.tag a).adr=some b:=by cases s <;> first | exact ⟨_,rfl⟩ | cases h
theorem wg (hv:s.owned=true->v=.ref a) (h:bx K fr H Hf s v):bx K fr H Hf (s.tag a) v:=by
 cases s with
 | ow ds=>obtain ⟨p,xs,e,f,r⟩:=h; exact ⟨p,xs,e,⟨f,by have:=hv rfl; rw [e] at this; cases this; rfl⟩,r⟩
 | oT ds=>obtain ⟨p,xs,e,f,r⟩:=h; exact ⟨p,xs,e,⟨f,by have:=hv rfl; rw [e] at this; cases this; rfl⟩,r⟩
 | oK ds=>obtain ⟨p,xs,e,f,r⟩:=h; exact ⟨p,xs,e,⟨f,by have:=hv rfl; rw [e] at this; cases this; rfl⟩,r⟩
 | _=>exact h
theorem wj (hb:s.adr=some b) (h:bx K fr H Hf s (.ref p)):p=b:=by
 cases s with
 | aw a ds=>cases hb; obtain ⟨q,xs,e,f,r⟩:=h; cases e; exact f.2
 | aT a ds=>cases hb; obtain ⟨q,xs,e,f,r⟩:=h; cases e; exact f.2
 | aK a ds=>cases hb; obtain ⟨q,xs,e,f,r⟩:=h; cases e; exact f.2
 | _=>cases hb
theorem dN.apart (S:dN K H₀ fc Z H Hf Y) (h0:H₀ a=none) (hf:Hf a=none) (nf:¬ AG H a) (ha:∀ (i:Nat) (r:Sl),Y[i]?=some r->r.owned=true->Z[i]?≠some (some (.ref a))):dN K H₀ fc Z (L2.upd H a o) Hf Y :=
 ⟨⟨λb u e=>by rw [L2.ai (aq e h0)]; exact S.bas.s b u e,S.bas.f,λb u e=>by rw [L2.ai (aq e hf)]; exact S.bas.b b u e,S.bas.n⟩,S.len,λi r hi hu=>by
   obtain ⟨v,e,q⟩:=S.at_ i r hi hu
   refine ⟨v,e,?_⟩
   have hg:bz (del H a) Hf (L2.upd H a o) Hf:=eT S.bas.b hf
   exact (q.Mb (p:=a) nf λow z=>by subst z; exact ha i r hi ow e).cD hg,S.sep⟩
theorem ku (g:bz H1 aP H' aj) (h1:H1 a=none) (hf:aj a=none):bz H1 aP (upd H' a o) aj :=
 ⟨λb u e=>by rw [ai (aq e h1)]; exact g.s b u e,g.f,λb u e=>by rw [ai (aq e hf)]; exact g.b b u e,g.n⟩
section
variable {K:O7} {H Hf H' aj:Hp}
noncomputable abbrev Fp:=List (Addr×List V)
mutual
theorem cZ.fz:∀ (s:Sh) {v:V} {fp:Fp},cZ K H Hf s v fp->∀ a∈fp,H a.1=some (pl a.1 a.2)/\Hf a.1=none
 | .v d,_,_,h=>by simp only [cZ] at h; obtain ⟨_,rfl⟩:=h; intro a ha; cases ha
 | .l ds,_,_,h=>by
  simp only [cZ] at h
  obtain ⟨p,xs,e,h1,h2,h3,rfl⟩:=h
  intro a ha
  obtain rfl:=Pk.mp ha
  exact ⟨h1,h2⟩
 | .la p ds,_,_,h=>by
  simp only [cZ] at h
  obtain ⟨xs,e,h1,h2,h3,rfl⟩:=h
  intro a ha
  obtain rfl:=Pk.mp ha
  exact ⟨h1,h2⟩
 | .t ss,_,_,h=>by
  simp only [cZ] at h
  obtain ⟨a,xs,e,h1,h2⟩:=h
  exact aZ.fz ss h2
 | .ls ss,_,_,h=>by
  simp only [cZ] at h
  obtain ⟨p,xs,fq,e,h1,h2,h3,rfl⟩:=h
  intro a ha
  rcases Pg.mp ha with rfl | ha
  ·exact ⟨h1,h2⟩
  ·exact aZ.fz ss h3 a ha
theorem aZ.fz:∀ (ss:List Sh) {xs:List V} {fp:Fp},aZ K H Hf ss xs fp->∀ a∈fp,H a.1=some (pl a.1 a.2)/\Hf a.1=none
 | [],_,_,h=>by simp only [aZ] at h; obtain ⟨_,rfl⟩:=h; intro a ha; cases ha
 | s::ss,_,_,h=>by
  simp only [aZ] at h
  obtain ⟨x,r,f1,f2,e,h1,h2,rfl⟩:=h
  intro a ha
  rcases PF.mp ha with ha | ha
  ·exact cZ.fz s h1 a ha
  ·exact aZ.fz ss h2 a ha
end
end
noncomputable def Sl.sh:Sl->Option Sh | .va d=>some (.v d) | .fo s=>some s | _=>none
theorem IZ {H H' aj:Hp} (e:r.sh=some s) (h:bx K (λp=>H p=none) H' aj r v):∃ fp,cZ K H' aj s v fp/\(fp.map (·.1)).Nodup/\∀ a∈fp,H a.1=none:=by
 cases r with
 | va d=>cases e; exact ⟨[],by simp only [cZ]; exact ⟨h,trivial⟩,by simp,by intro a ha; cases ha⟩
 | fo s=>cases e; exact h
 | _=>cases e
theorem aZ.snoc (h:cZ K H Hf s v fp):∀ {ss:List Sh} {vs:List V} {fq:Fp},aZ K H Hf ss vs fq->aZ K H Hf (ss++[s]) (vs++[v]) (fq++fp)
 | [],_,_,q=>by
  simp only [aZ] at q
  obtain ⟨rfl,rfl⟩:=q
  simp only [Tt,aZ]
  exact ⟨v,[],fp,[],rfl,h,⟨rfl,rfl⟩,(Qv _).symm⟩
 | s'::ss,_,_,q=>by
  simp only [aZ] at q
  obtain ⟨x,r,f1,f2,rfl,h1,h2,rfl⟩:=q
  have:=aZ.snoc h h2
  simp only [R9,aZ]
  exact ⟨x,r++[v],f1,f2++fp,rfl,h1,this,PU _ _ _⟩
def Bm (c:Ctx P w K mg base k N sc bk) (tg:Expr) (ifs:List Expr) (elt:Expr) (Y0:List Sl) (d:D) (o:Option Sh):Prop :=
 nh c tg d Y0 λY1=>DF Y0 Y1/\kr c ifs Y1 (g6 (dU c elt Y1 λr=>∃ z,o=some z/\r.sh=some z) (o=none))
abbrev M9 (scope sc:Scope) (N':List Str):Prop:=scope.kind=.function/\(∀ x∈scope.names,x.2≠.cell)/\(∀ x∈scope.names,x.2=.local->scope.names.lookup x.1=some .local)/\(∀ x∈scope.names,x.2=.free->sc.names.lookup x.1=some .cell)/\N'.Nodup/\(∀ x∈N',(cg scope sc).names.lookup x=some .local\/(cg scope sc).names.lookup x=some .cell)/\∀ x∈scope.names,x.2=.free->(cg scope sc).names.lookup x.1=some .cell
theorem EJ {elt tg iter:Expr} {ifs:List Expr} {scope:Scope} {N':List Str} {Y0:(Str->Addr)->List Sl} {R:List Sh->Prop} (hq:c.X.xe=iJ) (hfr:∀ t,yH t scope.names N Y N' (Y0 t))
 (h:zU c tg iter Y λds=>Sd (ds.length<=sizeLine) (∃ os:List (Option Sh),os.length=ds.length /\
   (∀ c':Ctx P w K mg base k N' (cg scope sc) true,c'.X.xe=iJ->∀ (t:Str->Addr) (i:Nat) (d:D) (o:Option Sh),ds[i]?=some d->os[i]?=some o->Bm c' tg ifs elt (Y0 t) d o)/\R (os.filterMap id)))
 (hcp:M9 scope sc N':=by decide +kernel)
 (hs:∀ env v,foldedSetIterable iter env v=pure v:=by intro _ _; rfl')
 {Z:L2.St} {H Hf:Hp} (S:bK c Z H Hf Y) {aa:List (Addr×Obj)} {s:Shared} (I:Inv c.X aa Z H s) {use:Option (Value->Sem Unit)} {QQ:Value->Shared->Prop}
 (kont:∀ (s':Shared) (H' aj:Hp) (a C:Addr) (ss:List Sh) (vs:List V) (fq:Fp),R ss->(∃ m,s'.heap.Ns C m)->C∉c.X.fs->dQ c.X aa H' C->H a=none->H' a=some (.lst vs)->aj a=none->aZ c.X.K H' aj ss vs fq->(fq.map (·.1)).Nodup->(∀ b∈fq,H b.1=none)->bz H Hf H' aj->(∀ h5,QW C s'.heap h5->Inv c.X aa Z H' { s' with heap:=h5 })->compPost (model c.X.prog c.X.w) c.X.A iJ use QQ (.ref a) C (.ok .next) s') :
 wpAny (model c.X.prog c.X.w) c.X.A (comprehension (.ListComp elt [⟨tg,iter,ifs,0⟩] scope pos) scope c.X.env (firstIterPos [⟨tg,iter,ifs,0⟩] pos) (newList []) (firstAsync [⟨tg,iter,ifs,0⟩]) (firstIter [⟨tg,iter,ifs,0⟩] c.X.env) use) QQ iJ s:=by
 obtain ⟨hk,hnc,hnl,hfree,hnd,hv,hvf⟩:=hcp
 have hI:=h Z H Hf (λJ H1=>∃ ds aP,Sd (ds.length<=sizeLine) (∃ os:List (Option Sh),os.length=ds.length /\
  (∀ c':Ctx P w K mg base k N' (cg scope sc) true,c'.X.xe=iJ->∀ (t:Str->Addr) (i:Nat) (d:D) (o:Option Sh),ds[i]?=some d->os[i]?=some o->Bm c' tg ifs elt (Y0 t) d o)/\R (os.filterMap id))/\bz H Hf H1 aP/\jw c.X.K J ds aP) S (λds J H' aj hR g io=>⟨ds,aj,hR,g,io⟩) aa s I
 rw [hq] at hI
 have hcells:∀ x∈scope.names,x.2=.free->∃ a,c.X.env.cells.lookup x.1=some a:=λx hx hf=>I.ok.has x.1 (.inl (by unfold P6; rw [c.esc]; exact hfree x hx hf))
 obtain ⟨cl,hclos,zR,hcl2⟩:=EH hcells
 refine wpAny_comprehension_free (cl:=cl) (use:=use) rfl (hs _) hclos hk hnl ?_
 refine bL (show wpAny _ _ (eval iter c.X.env) _ _ _ from hI) λv s1 h1=>bL h1 λitv s2 hh=>z5 hh λit fp tn J H1 hh=>w6 hh λe0 I1 Tn t0 hfp hh=>z2 hh λds aP hh=>w3 hh λhz g io=>?_
 obtain ⟨hz,os,hh⟩:=hz
 refine w3 hh λhol hb hR=>?_
 subst e0
 have hcell':∀ y∈scope.names,y.2≠.cell:=hnc
 refine QG (wpAny_newFunctionEnv hcell' (by intro y hy; simp at hy) (λh4 hns hsb=>?_) hk)
 dsimp only at hns hsb |-
 generalize hDe:s2.heap.objs.size=Da at *
 have k3:∀ b u,s2.heap.get? b=some u->(s2.heap.push { cls:=.type "list",dict:=none,data:=.seq ([]:List Value).toArray }).get? b=some u:=λb u e=>Pe _ e
 generalize hH3:s2.heap.push { cls:=.type "list",dict:=none,data:=.seq ([]:List Value).toArray }=h3 at *
 have hCe:h3.objs.size=Da+1:=by rw [<- hH3,Q7,hDe]
 have hgD:h3.get? Da=some { cls:=.type "list",dict:=none,data:=.seq ([]:List Value).toArray }:=by rw [<- hH3,<- hDe]; exact Pq _ rfl
 have vA:H1 Da=none:=by rw [<- hDe]; exact I1.hok.fresh (O9 _)
 have I3:Inv c.X aa Z (upd H1 Da (.lst [])) { s2 with heap:=h3,toks:=s2.toks }:=I1.laid (a:=Da) (o:=.lst []) (t':=s2.toks) k3 (by rw [hDe]; exact O9 _) ⟨P7 _,[],0,.nil,hgD⟩
 have fpne:∀ b∈fp,b≠Da:=λb hb z=>by
  obtain ⟨o,e,_⟩:=Tn.obj _ _ t0 b hb
  subst z
  exact absurd (Pf e) (by rw [hDe]; exact QJ _)
 have fplt:∀ b∈fp,b<h3.objs.size:=λb hb=>by
  obtain ⟨o,e,_⟩:=Tn.obj _ _ t0 b hb
  exact Pf (k3 b o e)
 let s3:Shared:={ s2 with heap:=h3,toks:=s2.toks }
 let H2:Hp:=upd H1 Da (.lst [])
 let X':Cx:={ prog:=c.X.prog,w:=c.X.w,K:=c.X.K,mg:=c.X.mg,base:=c.X.base,A:=c.X.A,N:=N',s₀:=s3,H₀:=H2,env:=compEnvC scope cl h3.objs.size c.X.env,outer:=c.X.stack,stack:=c.X.stack,ex:=fp,fn:=λ_=>false,calm:=true,pn:=[],xe:=iJ }
 have S1:=S.cD g
 have S2:bK c Z H2 aP Y:=S1.cD (bz.f7 g.b vA)
 obtain ⟨t,ht⟩:∃ t:Str->Addr,∀ (i:Nat) (y:Str) (p:Addr),N[i]?=some y->Z[i]?=some (some (.ref p))->t y=p:=by
  classical
  refine ⟨λy=>if h:∃ (i:Nat) (p:Addr),N[i]?=some y/\Z[i]?=some (some (.ref p)) then h.choose_spec.choose else 0,λi y p e1 e2=>?_⟩
  have h:∃ (i:Nat) (p:Addr),N[i]?=some y/\Z[i]?=some (some (.ref p)):=⟨i,p,e1,e2⟩
  show (if h:_ then _ else _)=p
  rw [dif_pos h]
  obtain ⟨e3,e4⟩:=h.choose_spec.choose_spec
  have hi:h.choose<N.length:=(Po.mp e3).1
  have e5:h.choose=i:=(List.getElem?_inj hi c.nd).mp (e3.trans e1.symm)
  have e6:=(congrArg (λz=>Z[z]?) e5).symm.trans e4
  rw [show Z[i]?=some (some (.ref p)) from e2] at e6
  have e4:=e6
  exact (V.ref.inj (QU (QU e4))).symm
 have hfr:=hfr t
 generalize hY:Y0 t=Yt at hfr
 obtain ⟨Z0,hZl,hZ0⟩:=hfr.start (Z:=Z) λi s e hu=>let ⟨v,e2,_⟩:=S2.at_ i s e hu; ⟨v,e2⟩
 have k4:∀ b u,h3.get? b=some u->h4.get? b=some u:=λb u e=>hsb.extBut b u (PJ (Pf e)) (Pe _ e)
 have hsc:X'.env.scope=cg scope sc:=rN c.esc
 have okX:X'.Ok:={
  mod:=I3.ok.mod
  kind:=hk
  glob:=I3.ok.glob
  blt:=I3.ok.blt
  above:=O9 _
  inj:=λx y a e1 e2=>I3.ok.inj x y a (zR x a e1).1 (zR y a e2).1
  has:=λx hx=>by
   have key:(x,Rv)∈scope.names:=by
    have hx':(cg scope sc).names.lookup x=some .cell\/(cg scope sc).names.lookup x=some .free:=by
     unfold P6 at hx; rw [hsc] at hx; exact hx
    rcases hx' with hx' | hx'
    ·obtain ⟨k0,h1,h2⟩:=iS hx'
     rcases h2 with h2 | ⟨_,h2⟩
     ·subst h2; exact absurd rfl (hnc _ h1)
     ·subst h2; exact h1
    ·obtain ⟨k0,h1,h2⟩:=iS hx'
     rcases h2 with h2 | ⟨h2,_⟩
     ·subst h2; exact h1
     ·cases h2
   obtain ⟨a,ea⟩:=hcells _ key rfl
   exact ⟨a,hcl2 x a key ea⟩
  cab:=λx a hf=>by cases hf
  hd:=λ_=>I3.ok.hd c.calm
  frames:=I3.ok.frames
  stk:=.inl rfl
  exf:=λb hb=>⟨PJ (fplt b hb),λx a ea=>(hfp b hb).2.2.2.2.1 x a (zR x a ea).1⟩
  bs:=I3.bs
  bsz:=Pj I3.ok.bsz I3.sz
  noex:=λb o e hb=>by
   rcases (hfp b hb).2.2.2.1 with z | z
   ·exact I3.ok.noex b o e z
   ·exact absurd (P9 (Pf e) (Pj I3.ok.bsz z)) (QJ _)
  exfs:=λb hb m=>by
   rcases Pg.mp (I3.oX b m) with z | z
   ·exact (hfp b hb).2.1 z
   ·exact (hfp b hb).2.2.1 z
  gS:=I3.stack
  frf:=I3.j8 }
 have I4:Inv X' [] Z0 H2 { s2 with heap:=h4,toks:=s2.toks+([]:List (Str×Value)).length }:={
  ok:=okX
  os:=rfl
  bare:=I3.bare
  base:=Un.kept k4
  loc:=⟨_,hns,λj y v hy hv' _=>by
   have hj:j<Yt.length:=by
    have:=(Po.mp hv').1
    rw [hZl] at this; exact this
   rcases hZ0 j Yt[j] (PX hj) with ⟨_,z⟩ | hh
   ·rw [z] at hv'; cases hv'
   ·refine z4 hh λi y' v' s0 hh=>w8 hh λh1 h2 h3' h4' hs5 hs6 h5 h6=>?_
    rw [h6] at hv'; cases hv'
    have hy':N'[j]?=some y:=hy
    rw [h1] at hy'; cases hy'
    obtain ⟨m0,hm0,hl⟩:=I3.loc
    have hkc:c.X.env.kindOf y=some .cell:=by unfold P6; rw [c.esc]; exact hfree _ h2 rfl
    obtain ⟨u,r,lk⟩:=hl i y v (by rw [c.eN]; exact h3') h5 (.inr (.inl hkc))
    refine ⟨u,r,?_⟩
    rcases lk with ⟨q1,_⟩ | ⟨_,a,e1,e2⟩
    ·rw [hkc] at q1; cases q1
    ·refine .inr ⟨.inl ?_,a,hcl2 _ a h2 e1,?_⟩
     ·show List.lookup y X'.env.scope.names=_
      rw [hsc]; exact hvf _ h2 rfl
     ·obtain ⟨oc,e3,e4⟩:=e2
      exact ⟨oc,k4 _ _ e3,e4⟩⟩
  cell:=λx a ea=>by
   obtain ⟨v',oc,e3,e4⟩:=I3.cell x a (zR x a ea).1
   exact ⟨v',oc,k4 _ _ e3,e4⟩
  free:=I3.hok.fresh (O9 _)
  freeC:=λx a ea=>I3.freeC x a (zR x a ea).1
  pin:=λq hq'=>by simp at hq'; cases hq'
  hok:=I3.hok.kept k4
  len:=by rw [hZl]; exact hfr.len.symm }
 let c':Ctx P w K mg base k N' (cg scope sc) true :=
  { X:=X',eP:=c.eP,ew:=c.ew,eK:=c.eK,emg:=c.emg,eb:=c.eb,eN:=rfl,esc:=hsc,calm:=rfl,top:=λz=>(by cases z),cb:=λz=>(by cases z),fn:=λx hx=>.inr (by rw [hsc]; exact hx.resolve_left (λz=>by cases z)),room:=c.room,nd:=hnd,vis:=hv,
    Hf:=c.Hf,B:=c.B,RX:=λ_ _=>False,exc:=λ_ _ _ _ _ _ _ _ _ _ _ _ h _ _=>h.elim,RM:=λ_ _=>False,mde:=λ_ _ _ _ _ _ _ _ _ _ _ _ h _=>h.elim }
 have hN0:N'.length=Yt.length:=hfr.len
 have S4:bK c' Z0 H2 aP Yt:=by
  refine ⟨S2.bas,hZl,λj r hj hu=>?_,λj j' r r' p hne e1 e2 o1 o2 f1 f2=>?_⟩
  ·rcases hZ0 j r hj with ⟨z,_⟩ | hh
   ·exact absurd z hu
   ·refine z4 hh λi y v s0 hh=>w8 hh λh1 h2 h3' h4' hs5 hs6 h5 h6=>?_
    obtain ⟨v',e3,q3⟩:=S2.at_ i s0 h4' hs6
    rw [h5] at e3; cases e3
    subst hs5
    exact ⟨v,h6,wg (λow=>by
     obtain ⟨p,_,rfl,_⟩:=q3.rJ ow
     rw [ht i y p h3' h5]) q3⟩
  ·have u1:r≠.un:=by rintro rfl; cases o1
   have u2:r'≠.un:=by rintro rfl; cases o2
   rcases hZ0 j r e1 with ⟨z,_⟩ | hh
   ·exact u1 z
   rcases hZ0 j' r' e2 with ⟨z,_⟩ | hh'
   ·exact u2 z
   refine z4 hh λi y v s0 hh=>w8 hh λh1 h2 h3' h4' hs5 hs6 h5 h6=>z4 hh' λi' y' v' s0' hh'=>w8 hh' λh1' h2' h3'' h4'' hs5' hs6' h5' h6'=>?_
   rw [f1] at h6; cases h6
   rw [f2] at h6'; cases h6'
   have hii:i≠i':=λz=>by
    subst z
    rw [h3'] at h3''; cases h3''
    have a1:j<N'.length:=(Po.mp h1).1
    exact hne ((List.getElem?_inj a1 hnd).mp (h1.trans h1'.symm))
   subst hs5; subst hs5'
   rw [nS] at o1 o2
   exact S2.sep i i' s0 s0' p hii h4' h4'' o1 o2 h5 h5'
 have howA:∀ (j:Nat) (r:Sl),Yt[j]?=some r->r.owned=true->∃ b,r.adr=some b/\b≠Da:=λj r hj ho=>by
  rcases hZ0 j r hj with ⟨z,_⟩ | hh
  ·subst z; cases ho
  ·refine z4 hh λi y v s0 hh=>w8 hh λh1 h2 h3' h4' hs5 hs6 h5 h6=>?_
   subst hs5
   rw [nS] at ho
   obtain ⟨b,eb⟩:=EI (a:=t y) ho
   refine ⟨b,eb,λz=>?_⟩
   obtain ⟨v',e3,q3⟩:=S1.at_ i s0 h4' hs6
   obtain ⟨p,o,e4,_,e5,_⟩:=q3.rJ ho
   subst e4
   have q4:=wg (a:=t y) (λ_=>by rw [ht i y p h3' e3]) q3
   have:=wj eb q4
   rw [this,z,vA] at e5; cases e5
 have hB0:c.B Da=none:=S1.bas.s.free vA
 have fps:∀ {H':Hp},(∀ b∈fp,H' b=none)->∀ b∈fp,dQ X' [] H' b:=λhn b hb =>
  ⟨hn b hb,PJ (fplt b hb),okX.exfs b hb,.inl hb,λx a ea=>(hfp b hb).2.2.2.2.1 x a (zR x a ea).1,λp hp=>by cases hp⟩
 have fin:∀ (s':Shared) (Z':L2.St) (H' aj:Hp) (vs:List V) (fq:Fp),Inv X' [] Z' H' s'->bz H1 aP H' aj->H' Da=some (.lst vs)->aj Da=none->aZ c.X.K H' aj (os.filterMap id) vs fq->(fq.map (·.1)).Nodup->(∀ b∈fq,H1 b.1=none) ->
  compPost (model c.X.prog c.X.w) c.X.A iJ use QQ (.ref Da) h3.objs.size (.ok .next) s':=λs' Z' H' aj vs fq I' g' hD hfD hr hnd2 hfr2=>by
  obtain ⟨m,hm,_⟩:=I'.loc
  have hCX:h3.objs.size∉c.X.fs:=I3.K1 (O9 _)
  have hCf:dQ c.X aa H' h3.objs.size:=by
   refine ⟨I'.free,λz=>?_,hCX,.inr I3.sz,λx a ea z=>?_,λp hp z=>?_⟩
   ·obtain ⟨m0,hm0,_⟩:=I3.loc
    obtain ⟨o,_,_,e,_⟩:=hm0
    exact absurd (Pf e) (by rw [<- z]; exact QJ _)
   ·obtain ⟨v',oc,e,_⟩:=I3.cell x a ea
    exact absurd (Pf e) (by rw [z]; exact QJ _)
   ·exact absurd (Pf (I3.pin p hp).1) (by rw [z]; exact QJ _)
  refine kont s' H' aj Da h3.objs.size (os.filterMap id) vs fq hR ⟨m,hm⟩ hCX hCf (g.s.free vA) hD hfD hr hnd2 (λb hb=>g.s.free (hfr2 b hb)) (g.trans g') λh5 zS=>?_
  have ub:Un (frs c.X.stack) fp H2 H' s3.heap h5:=by
   have u:=I'.base
   have ne:∀ b o,s3.heap.get? b=some o->b≠h3.objs.size:=λb o e=>PJ (Pf e)
   refine ⟨λb o e n hf hx=>(zS.2 b (ne b o e)).trans (u.keep b o e n hf hx),λb o e n hf hx=>?_,u.free,λb o e hx=>?_,u.tups,u.frzs,u.tbls⟩
   ·obtain ⟨sl,e2⟩:=u.slot b o e n hf hx
    exact ⟨sl,(zS.2 b (ne b o e)).trans e2⟩
   ·obtain ⟨o',e2⟩:=u.there b o e hx
    exact ⟨o',(zS.2 b (ne b o e)).trans e2⟩
  have hokf:ig c.X.prog c.X.w H' h5:=λb u e=>(I'.hok b u e).stay (λa o ha e2=>by
   refine (zS.2 a ?_).trans e2
   intro z; subst z
   have hfree':H' h3.objs.size=none:=I'.free
   rcases ha with z | z
   ·subst z; rw [hfree'] at e; cases e
   ·rw [hfree'] at z; cases z) (λ_ z=>z) λ_ _ z=>z
  exact I3.GG (ch:=fp) I'.os ub hokf I'.bare λb hb=>⟨(hfp b hb).2.2.2.1,(hfp b hb).2.1,(hfp b hb).2.2.2.2.1,(hfp b hb).2.2.2.2.2⟩
 have loop:codeAny (model c.X.prog c.X.w) c.X.A (.compLoop (.ListComp elt [⟨tg,iter,ifs,0⟩] scope pos) 0 (.ref it) (.ref Da) X'.env) (compPost (model c.X.prog c.X.w) c.X.A iJ use QQ (.ref Da) h3.objs.size) { s2 with heap:=h4,toks:=s2.toks+([]:List (Str×Value)).length }:=by
  refine pM (λn s'=>∃ (i:Nat) (Z':L2.St) (H' aj:Hp) (vs:List V) (fq:Fp),n=ds.length - i/\i<=ds.length/\Inv X' [] Z' H' s'/\tn i s'.heap/\bK c' Z' H' aj Yt/\bz H1 aP H' aj/\H' Da=some (.lst vs)/\aj Da=none/\aZ c.X.K H' aj ((os.take i).filterMap id) vs fq/\(fq.map (·.1)).Nodup/\(∀ b∈fq,H1 b.1=none)/\vs.length<=i/\∀ b∈fp,H' b=none) ?_ ds.length
   ⟨0,Z0,H2,aP,[],[],by simp,P7 _,I4,Tn.keep _ _ _ t0 λb hb o e=>k4 b o (k3 b o e),S4,bz.f7 g.b vA,ah,g.b.free vA,by simp [aZ],List.nodup_nil,(λb hb=>by cases hb),O9 _,λb hb=>by show upd H1 Da _ b=none; rw [ai (fpne b hb)]; exact (hfp b hb).1⟩
  refine λn s5 hh=>z5 hh λi Z5 H5 Hf5 vs hh=>hh.elim λfq hh=>w6 hh λen hi I5 t5 S5 hh=>w6 hh λg5 hD5 hfD5 hr5 hnd5 hh=>w3 hh λhfr5 hlv fr5=>?_
  subst en
  by_cases hlt:i<ds.length
  ·have ed:ds[i]?=some ds[i]:=PX hlt
   have eo:os[i]?=some (os[i]'(by rw [hol]; exact hlt)):=PX _
   generalize ds[i]=d at ed
   generalize os[i]'(by rw [hol]; exact hlt)=o at eo
   obtain ⟨hgo,hy⟩:=io.go i d H5 Hf5 g5.f g5.b ed
   refine bL (Tn.item X' rfl rfl rfl rfl i [] s5 Z5 H5 iJ I5 (fps fr5) t5 hgo) λr s6 hh=>hh.elim λu hh=>w2 hh λhr h6=>?_
   subst hr
   refine bL h6 λ_ s7 hh=>z2 hh λx H7 hh=>w5 hh λI7 rx y7 t7 fr7=>?_
   obtain ⟨Hf7,g7,rx7⟩:=hy x H7 y7
   have I7':=I7.pinned (fps fr7) (Tn.obj _ _ t7)
   have S7:bK c' Z5 H7 Hf7 Yt:=S5.cD g7
   have hasg0:=hb c' rfl t i d o ed eo
   rw [hY] at hasg0
   have hasg:=hasg0 Z5 H7 Hf7 x (λZ2 H2'=>∃ cL Y1,bK c' Z2 H2' cL Y1/\bz H7 Hf7 H2' cL/\DF Yt Y1/\kr c' ifs Y1 (g6 (dU c' elt Y1 λr=>∃ z,o=some z/\r.sh=some z) (o=none))) S7 rx7 (λZ2 H2' cL Y1 S' g' hw=>⟨cL,Y1,S',g',hw⟩) _ s7 u I7' rx
   refine bL (show wpAny _ _ _ _ iJ _ from hasg) λ_ s8 hh=>z2 hh λZ8 H8 hh=>w2 hh λI8 hh=>z2 hh λHf8 Y8 hh=>w4 hh λS8 g8 w8 hC8=>?_
   refine bL (nR (c:=c') rfl ifs S8 hC8 (Q:=λb H'=>∃ aj,g6 (dU c' elt Y8 λr=>∃ z,o=some z/\r.sh=some z) (o=none) b/\bz H8 Hf8 H' aj) (λb H' aj hb' g'=>⟨aj,hb',g'⟩) I8) λb s9 hh=>hh.elim λH9 hh=>w2 hh λI9 hh=>hh.elim λHf9 hh=>w2 hh λhb9 g9=>?_
   have g79:=(g7.trans g8).trans g9
   have hD9:H9 Da=some (.lst vs):=g79.s _ _ hD5
   have hfD9:Hf9 Da=none:=g79.n Da hfD5 (by rw [hD5]; simp) (by intro ys; rw [hD5]; simp)
   have keepT:∀ {Z':L2.St} {H':Hp} {s':Shared},Inv X' ([]++ju fp s7.heap) Z' H' s'->tn (i+1) s'.heap/\∀ b∈fp,H' b=none:=λ{Z' H' s'} I' =>
    ⟨Tn.keep _ _ _ t7 λb hb' ob e=>(I'.pin (b,ob) (QE _ (QE _ (dR hb' e)))).1,λb hb'=>by
      obtain ⟨ob,e,_⟩:=Tn.obj _ _ t7 b hb'
      exact (I'.pin (b,ob) (QE _ (QE _ (dR hb' e)))).2.1⟩
   have wk:∀ {Z':L2.St} {H' aj:Hp},bK c' Z' H' aj Y8->bK c' Z' H' aj Yt:=λS'=>dN.weak S' w8.weak.1 w8.weak.2
   have tk:(os.take (i+1)).filterMap id=(os.take i).filterMap id++o.toList:=by
    rw [Ut,eo,List.filterMap_append]
    cases o <;> rfl
   cases b with
   | false =>
    have eo':=hb9.f rfl
    subst eo'
    rw [if_neg Pp]
    obtain ⟨t9,fr9⟩:=keepT I9
    have hr9:aZ c.X.K H9 Hf9 ((os.take i).filterMap id) vs fq:=aZ.mv g79.f _ (λa _ e1 e2=>⟨g79.s _ _ e1,g79.n a.1 e2 (by rw [e1]; simp) (by intro ys z; rw [e1] at z; cases z)⟩) hr5
    exact ⟨_,Nat.sub_lt_sub_left hlt (SO i),i+1,Z8,H9,Hf9,vs,fq,rfl,hlt,I9.dS,t9,wk (S8.cD g9),g5.trans g79,hD9,hfD9,by rw [tk]; simpa using hr9,hnd5,hfr5,Nat.le_succ_of_le hlv,fr9⟩
   | true =>
    rw [if_pos rfl]
    have hev:=hb9.t rfl Z8 H9 Hf9 (λv H'=>∃ aj r,(∃ z,o=some z/\r.sh=some z)/\bx c.X.K (λp=>H9 p=none) H' aj r v/\bz H9 Hf9 H' aj) (S8.cD g9) (λr v H' aj he r' g'=>⟨aj,r,he,r',g'⟩) _ s9 I9
    refine bL (show wpAny _ _ _ _ iJ _ from hev) λu2 s10 hh=>z2 hh λv2 H10 hh=>w3 hh λI10 r10 hh=>z2 hh λHf10 r hh=>w3 hh λeo0 re g10=>?_
    obtain ⟨z,rfl,eo'⟩:=eo0
    obtain ⟨f1,rf1,nd1,fr1⟩:=IZ eo' re
    have z1:=cZ.fz z rf1
    have z0:=aZ.fz _ hr5
    have g510:=g79.trans g10
    have hr10:aZ c.X.K H10 Hf10 ((os.take i).filterMap id) vs fq:=aZ.mv g510.f _ (λa _ e1 e2=>⟨g510.s _ _ e1,g510.n a.1 e2 (by rw [e1]; simp) (by intro ys z; rw [e1] at z; cases z)⟩) hr5
    have hD10:H10 Da=some (.lst vs):=g10.s _ _ hD9
    have hfD10:Hf10 Da=none:=g10.n Da hfD9 (by rw [hD9]; simp) (by intro ys; rw [hD9]; simp)
    have app:=nH (X:=X') _ s10 Z8 H10 (.ref Da) [v2] (.ref Da) [u2] (λ_ H'=>H'=upd H10 Da (.lst (vs++[v2]))) I10 rfl (.cons r10 .nil) ⟨Da,vs,v2,rfl,rfl,hD10,P9 (R4 hlv hlt) hz,rfl⟩
    refine bL (show wpAny _ _ _ _ iJ _ from app) λ_ s11 ⟨_,H11,I11,_,e11⟩=>?_
    subst e11
    obtain ⟨t11,fr11⟩:=keepT I11
    have S10:bK c' Z8 H10 Hf10 Y8:=(S8.cD g9).cD g10
    have gA:bz H1 aP (upd H10 Da (.lst (vs++[v2]))) Hf10:=ku ((g5.trans g79).trans g10) vA hfD10
    refine ⟨_,Nat.sub_lt_sub_left hlt (SO i),i+1,Z8,_,Hf10,vs++[v2],fq++f1,rfl,hlt,I11.dS,t11,?_,gA,ah,hfD10,?_,?_,?_,by rw [PY]; exact UA hlv,fr11⟩
    ·refine (wk S10).apart hB0 hfD10 (λ⟨_,z⟩=>by rw [hD10] at z; cases z) λj r hj ho=>λz=>?_
     obtain ⟨b,eb,nb⟩:=howA j r hj ho
     obtain ⟨v',e3,q3⟩:=(wk S10).at_ j r hj (by rintro rfl; cases ho)
     rw [z] at e3; cases e3
     exact nb (wj eb q3).symm
    ·rw [tk]
     refine aZ.mv (.refl _) _ (λa ha e1 e2=>⟨?_,e2⟩) (aZ.snoc rf1 hr10)
     rw [ai λz=>by rw [z,hD10] at e1; cases e1]; exact e1
    ·rw [Qh,Uu]
     refine ⟨hnd5,nd1,λa ha b hb z=>?_⟩
     subst z
     obtain ⟨p,hp,ep⟩:=Pz.mp ha
     obtain ⟨q,hq',eq⟩:=Pz.mp hb
     have e1:=g79.s _ _ (z0 p hp).1
     have e2:=fr1 q hq'
     rw [eq,<- ep,e1] at e2; cases e2
    ·intro b hb
     rcases PF.mp hb with hb | hb
     ·exact hfr5 b hb
     ·exact (g5.trans g79).s.free (fr1 b hb)
  ·have e:i=ds.length:=Nat.le_antisymm hi (Nat.le_of_not_lt hlt)
   subst e
   refine bL (Tn.done X' rfl rfl rfl rfl ds.length [] s5 Z5 H5 iJ I5 (fps fr5) t5 (io.stop _ H5 Hf5 g5.f g5.b (O9 _))) λr s6 ⟨hr,I6⟩=>?_
   subst hr
   refine fin s6 Z5 H5 Hf5 vs fq I6 g5 hD5 hfD5 ?_ hnd5 hfr5
   rw [RZ (by rw [hol]; exact O9 _)] at hr5
   exact hr5
 exact codeAny_compStart_list loop (Tn.self _ 0 _ _ _ (Tn.keep _ _ _ t0 λb hb o e=>k4 b o (k3 b o e)) loop)
theorem wm:∀ {ds:List D} {vs:List V} {fq:Fp},aZ K H Hf (ds.map .v) vs fq->ak K Hf ds vs
 | [],_,_,h=>by simp only [Q8,aZ] at h; exact aA.mpr h.1
 | d::ds,_,_,h=>by
  simp only [Pn,aZ,cZ] at h
  obtain ⟨x,r,f1,f2,rfl,h1,h2,-⟩:=h
  exact ak.cons h1.1 (wm h2)
theorem I0:∀ os:List (Option D),(os.map (Option.map Sh.v)).filterMap id=(os.filterMap id).map Sh.v
 | []=>rfl
 | none::os=>I0 os
 | some d::os=>congrArg (Sh.v d:: ·) (I0 os)
theorem kr.imp (h:∀ b,T b->T' b):∀ {ifs:List Expr} {Y:List Sl},kr c ifs Y T->kr c ifs Y T'
 | [],_,q=>h _ q
 | _::_,_,q=>λZ H Hf Q S z=>q Z H Hf Q S λb H' aj hb g=>z b H' aj ⟨λe=>kr.imp h (hb.t e),λe=>h _ (hb.f e)⟩ g
theorem Bo (h:we c tg ifs elt Y0 d o):Bm c tg ifs elt Y0 d (o.map .v):=λZ H Hf v Q S r q=>h Z H Hf v Q S r λZ' H' aj Y' S' g hw=>q Z' H' aj Y' S' g ⟨hw.1,kr.imp (λb hb=>⟨λe=>λZ2 H2 cL Q2 S2 q2=>hb.t e Z2 H2 cL Q2 S2 λd2 v2 H3 Hf3 ed rv g3=>q2 (.va d2) v2 H3 Hf3 ⟨.v d2,by rw [ed]; rfl,rfl⟩ rv g3,λe=>by rw [hb.f e]; rfl⟩) hw.2⟩
theorem wo {elt tg iter:Expr} {ifs:List Expr} {scope:Scope} {N':List Str} {Y0:(Str->Addr)->List Sl} {R:Sl->Prop} (hq:c.X.xe=iJ) (hfr:∀ t,yH t scope.names N Y N' (Y0 t))
 (h:zU c tg iter Y λds=>Sd (ds.length<=sizeLine) (∃ os:List (Option D),os.length=ds.length /\
   (∀ c':Ctx P w K mg base k N' (cg scope sc) true,c'.X.xe=iJ->∀ (t:Str->Addr) (i:Nat) (d:D) (o:Option D),ds[i]?=some d->os[i]?=some o->we c' tg ifs elt (Y0 t) d o)/\R (.ow (os.filterMap id))))
 (hcp:M9 scope sc N':=by decide +kernel)
 (hs:∀ env v,foldedSetIterable iter env v=pure v:=by intro _ _; rfl')
 {Z:L2.St} {H Hf:Hp} (S:bK c Z H Hf Y) {aa:List (Addr×Obj)} {s:Shared} (I:Inv c.X aa Z H s) {use:Option (Value->Sem Unit)} {QQ:Value->Shared->Prop}
 (kont:∀ (s':Shared) (H' aj:Hp) (a C:Addr) (r:Sl),R r->(∃ m,s'.heap.Ns C m)->C∉c.X.fs->dQ c.X aa H' C->bx c.X.K (λp=>H p=none) H' aj r (.ref a)->bz H Hf H' aj->(∀ h5,QW C s'.heap h5->Inv c.X aa Z H' { s' with heap:=h5 })->compPost (model c.X.prog c.X.w) c.X.A iJ use QQ (.ref a) C (.ok .next) s') :
 wpAny (model c.X.prog c.X.w) c.X.A (comprehension (.ListComp elt [⟨tg,iter,ifs,0⟩] scope pos) scope c.X.env (firstIterPos [⟨tg,iter,ifs,0⟩] pos) (newList []) (firstAsync [⟨tg,iter,ifs,0⟩]) (firstIter [⟨tg,iter,ifs,0⟩] c.X.env) use) QQ iJ s:=by
 refine EJ (R:=λss=>∃ os:List D,ss=os.map .v/\R (.ow os)) hq hfr (λZ' H' aj Q S' q=>h Z' H' aj Q S' λds J H1 aP hd=>q ds J H1 aP ⟨hd.1,hd.2.elim λos ho=>⟨os.map (Option.map .v),by rw [Pc]; exact ho.1,λc' hc t i d o e1 e2=>?_,os.filterMap id,?_,ho.2.2⟩⟩) hcp hs S I λs' H' aj a C ss vs fq hR hC1 hC2 zQ ha h1 h2 r nd fr g hJ=>?_
 ·rw [Pr,PD] at e2
  obtain ⟨o',e3,rfl⟩:=e2
  exact Bo (ho.2.1 c' hc t i d o' e1 e3)
 ·exact I0 os
 ·obtain ⟨os,rfl,hR⟩:=hR
  exact kont s' H' aj a C (.ow os) hR hC1 hC2 zQ ⟨a,vs,rfl,ha,h1,h2,wm r⟩ g hJ
theorem dX {elt tg iter:Expr} {ifs:List Expr} {scope:Scope} {N':List Str} {Y0:(Str->Addr)->List Sl} {R:Sl->Prop} (hq:c.X.xe=iJ) (hfr:∀ t,yH t scope.names N Y N' (Y0 t))
 (h:zU c tg iter Y λds=>Sd (ds.length<=sizeLine) (∃ os:List (Option D),os.length=ds.length /\
   (∀ c':Ctx P w K mg base k N' (cg scope sc) true,c'.X.xe=iJ->∀ (t:Str->Addr) (i:Nat) (d:D) (o:Option D),ds[i]?=some d->os[i]?=some o->we c' tg ifs elt (Y0 t) d o)/\R (.ow (os.filterMap id))))
 (hcp:M9 scope sc N':=by decide +kernel)
 (hs:∀ env v,foldedSetIterable iter env v=pure v:=by intro _ _; rfl'):dU c (.ListComp elt [⟨tg,iter,ifs,0⟩] scope pos) Y R:=λZ H Hf Q S q aa s I=>by
 rw [hq]
 rw [show (eval (.ListComp elt [⟨tg,iter,ifs,0⟩] scope pos) c.X.env)=comprehension (.ListComp elt [⟨tg,iter,ifs,0⟩] scope pos) scope c.X.env (firstIterPos [⟨tg,iter,ifs,0⟩] pos) (newList []) (firstAsync [⟨tg,iter,ifs,0⟩]) (firstIter [⟨tg,iter,ifs,0⟩] c.X.env) from rfl]
 exact wo hq hfr h hcp hs S I λs' H' aj a C r hr ⟨m,hm⟩ _ _ hrep g hJ=>⟨m,hm,λh5 zS=>⟨.ref a,H',hJ h5 zS,rfl,q r _ H' aj hr hrep g⟩⟩
theorem pN:QW a h h:=⟨rfl,λ_ _=>rfl⟩
theorem EK (I:Inv X aa Z H s) (hC:dQ X aa H C) (hsb:QW C s.heap h5):Inv X aa Z H { s with heap:=h5 }:=by
 refine I.GG (ch:=[C]) rfl ⟨λb o e _ _ hx=>?_,λb o e _ _ hx=>⟨o.slots,?_⟩,λb o e n _=>n,λb o e hx=>⟨o,?_⟩,λb xs e=>e,λb o u e=>e,λb ps e=>⟨#[],by simpa using e⟩⟩ (λb u e=>(I.hok b u e).stay (λa o ha e2=>?_) (λ_ z=>z) λ_ _ z=>z) I.bare λb hb=>?_
 ·exact (hsb.2 b (λz=>hx (by rw [z]; exact Pd))).trans e
 ·exact (hsb.2 b (λz=>hx (by rw [z]; exact Pd))).trans e
 ·exact (hsb.2 b (λz=>hx (by rw [z]; exact Pd))).trans e
 ·refine (hsb.2 a ?_).trans e2
  intro z; subst z
  rcases ha with z | z
  ·subst z; rw [hC.1] at e; cases e
  ·rw [hC.1] at z; cases z
 ·have:b=C:=by simpa using hb
  subst this
  exact ⟨hC.2.2.2.1,hC.2.1,hC.2.2.2.2.1,hC.2.2.2.2.2⟩
theorem Bp {elt tg iter:Expr} {ifs:List Expr} {scope:Scope} {N':List Str} {Y0:(Str->Addr)->List Sl} {nx:List Sl->Prop} {p:Pt} {x:Str} {pos2 posA:Pos} {i:Nat} (hN:At N i x) (hq:c.X.xe=iJ) (hfr:∀ t,yH t scope.names N Y N' (Y0 t))
 (h:zU c tg iter Y λds=>Sd (ds.length<=sizeLine) (∃ os:List (Option D),os.length=ds.length /\
   (∀ c':Ctx P w K mg base k N' (cg scope sc) true,c'.X.xe=iJ->∀ (t:Str->Addr) (i:Nat) (d:D) (o:Option D),ds[i]?=some d->os[i]?=some o->we c' tg ifs elt (Y0 t) d o)/\Nx Y i nx (.ow (os.filterMap id))))
 (hsw:(pos2.line == pos.line && !scope.names.any λ(n,k)=>n == x && (k == NameKind.local || k == NameKind.cell))=true:=by decide +kernel) (hl:sc.names.lookup x=some .local:=by rfl')
 (hcp:M9 scope sc N':=by decide +kernel)
 (hs:∀ env v,foldedSetIterable iter env v=pure v:=by intro _ _; rfl'):fm c (.Assign [.Name x pos2] (.ListComp elt [⟨tg,iter,ifs,0⟩] scope pos) posA) Y nx p:=λZ H Hf D S o aa s I=>by
 have hsw':swapsWith (.ListComp elt [⟨tg,iter,ifs,0⟩] scope pos) (some (.Name x pos2)) posA.line c.X.env=pure true:=by
  have e1:c.X.env.blockKind=.function:=by unfold Env.blockKind; rw [show c.X.env.scope.kind=.function from I.ok.kind]; rfl
  have e2:c.X.env.kindOf x=some .local:=by unfold P6; rw [c.esc]; exact hl
  show pure (c.X.env.blockKind == ScopeKind.function && c.X.env.kindOf x == some NameKind.local && pos2.line == pos.line && !scope.names.any λ(n,k)=>n == x && (k == NameKind.local || k == NameKind.cell))=pure true
  rw [e1,e2]; exact congrArg pure hsw
 rw [hq,exec_Assign_Name_used x pos2 _ posA hsw']
 refine O6 (wpAny_standAt ?_)
 refine O6 ?_
 rw [show (evalThenUse (.ListComp elt [⟨tg,iter,ifs,0⟩] scope pos) c.X.env (assign (.Name x pos2) c.X.env))=(do let _ <- comprehension (.ListComp elt [⟨tg,iter,ifs,0⟩] scope pos) scope c.X.env (firstIterPos [⟨tg,iter,ifs,0⟩] pos) (newList []) (firstAsync [⟨tg,iter,ifs,0⟩]) (firstIter [⟨tg,iter,ifs,0⟩] c.X.env) (some (assign (.Name x pos2) c.X.env)); pure ()) from rfl]
 refine O6 (wo hq hfr h hcp hs S I λs' H' aj a C r hr ⟨m,hm⟩ hCX hCf hrep g hJ=>?_)
 have J:=hJ s'.heap pN
 obtain ⟨oC,es,ep,e1,e2,e3,e4⟩:=hm
 have fps:∀ b∈[C],dQ c.X aa H' b:=λb hb=>by rw [Pk.mp hb]; exact hCf
 have hob:∀ b∈[C],∃ o,s'.heap.get? b=some o/\∀ v:Option Value,o.data≠.cell v:=λb hb=>by
  rw [Pk.mp hb]; exact ⟨oC,e1,λv z=>by rw [e2] at z; cases z⟩
 have J2:=J.pinned fps hob
 have hmem:(C,oC)∈ju [C] s'.heap:=dR Pd e1
 obtain ⟨Y',hset,hx⟩:=hr
 have st:=vM (iL (X:=c.X) (i:=i) (pos:=pos2) (by rw [c.eN]; exact c.nd) (by rw [c.eN]; exact hN.get) (by rw [c.esc]; exact c.vis x hN.mem) (c.fn x (.inr hl))) (v:=.ref a) (Z:=Z) (H:=H') (Q:=λZ' H''=>D.nx Z' H'') (o.nx _ H' aj _ (hset.eq ▸ S.set g hrep) hx) _ s' (.ref a) J2 rfl
 rw [hq] at st
 refine bL st λ_ s'' ⟨Z',H'',I'',dn⟩=>?_
 have pC:=I''.pin (C,oC) (QE _ (QE _ hmem))
 refine ⟨m,⟨oC,es,ep,pC.1,e2,e3,e4⟩,λh' hsb=>?_⟩
 have I3:Inv c.X aa Z' H'' s'':=I''.dS
 have I4:=EK I3 (C:=C) ⟨pC.2.1,hCf.2⟩ hsb
 exact O8 (O8 ⟨_,_,I4,dn⟩)
end
mutual
def D.nl:D->Prop
 | .lst _=>False
 | .fdK _ _=>False
 | .fdT _ _=>False
 | .tup ds=>D.uF ds
 | _=>True
def D.uF:List D->Prop
 | []=>True
 | d::ds=>d.nl/\D.uF ds
end
theorem wu:∀ {ds:List D},D.uF ds↔∀ d∈ds,d.nl
 | []=>by simp [D.uF]
 | d::ds=>by simp [D.uF,wu (ds:=ds)]
theorem fR {α:Type} {f:α->D} {l:List α} (h:∀ x∈l,(f x).nl):D.uF (l.map f):=wu.mpr λd hd=>by
 obtain ⟨x,hx,rfl⟩:=Pz.mp hd
 exact h x hx
theorem pO:(D.int i).nl:=by simp [D.nl]
theorem kB (l:List Int):D.uF (l.map D.int):=fR λx _=>pO
theorem uG (h:D.uF ds):(D.tup ds).nl:=by simpa [D.nl] using h
noncomputable def HO.mt:HO->Prop | .lst _=>True | .dK _=>True | .dT _=>True | _=>False
theorem yI {K:O7} (hp:Hf p=some o) (hm:HO.mt o) (h:c9 K Hf a xs):c9 K (del Hf p) a xs:=by
 rcases h with (h | ⟨o',h⟩) | h
 ·exact .inl (.inl (by rw [bQ (by rintro rfl; rw [hp] at h; cases h; exact hm)]; exact h))
 ·exact .inl (.inr ⟨o',by rw [bQ (by rintro rfl; rw [hp] at h; cases h; exact hm)]; exact h⟩)
 ·exact .inr h
mutual
theorem uH {K:O7} {Hf:Hp} {p:Addr} {o:HO} (hp:Hf p=some o) (hm:HO.mt o):∀ (d:D) {v:V},d.nl->Rep K Hf d v->Rep K (del Hf p) d v
 | .non,_,_,h=>by simpa [Rep] using h
 | .bl _,_,_,h=>by simpa [Rep] using h
 | .int _,_,_,h=>by simpa [Rep] using h
 | .str _,_,_,h=>by simpa [Rep] using h
 | .adr _,_,_,h=>by simpa [Rep] using h
 | .tup ds,v,f,h=>by
  simp only [Rep] at h |-
  obtain ⟨a,xs,e,h1,h2⟩:=h
  exact ⟨a,xs,e,yI hp hm h1,pP hp hm ds (by simpa [D.nl] using f) h2⟩
 | .lst _,_,f,_=>by simp [D.nl] at f
 | .fdK _ _,_,f,_=>by simp [D.nl] at f
 | .fdT _ _,_,f,_=>by simp [D.nl] at f
 | .exc C,_,_,h=>by
  simp only [Rep] at h |-
  obtain ⟨a,e,h⟩:=h
  exact ⟨a,e,by rw [bQ (by rintro rfl; rw [hp] at h; cases h; exact hm)]; exact h⟩
theorem pP {K:O7} {Hf:Hp} {p:Addr} {o:HO} (hp:Hf p=some o) (hm:HO.mt o):∀ (ds:List D) {xs:List V},D.uF ds->ak K Hf ds xs->ak K (del Hf p) ds xs
 | [],_,_,h=>by simpa [ak] using h
 | d::ds,xs,f,h=>by
  simp only [ak] at h |-
  simp only [D.uF] at f
  obtain ⟨x,r,e,h1,h2⟩:=h
  exact ⟨x,r,e,uH hp hm d f.1 h1,pP hp hm ds f.2 h2⟩
end
noncomputable def Sl.nl:Sl->Prop
 | .va d=>d.nl
 | .ow ds=>D.uF ds
 | _=>False
theorem bx.Oi {K:O7} {H H' aj:Hp} (hp:aj p=some oz) (hm:HO.mt oz) (h0:H p=some o) (f:r.nl) (h:bx K (λp=>H p=none) H' aj r v):bx K (λp=>H p=none) H' (del aj p) r v:=by
 cases r with
 | va d=>exact uH hp hm d f h
 | ow ds =>
  obtain ⟨q,xs,rfl,fq,h1,h2,h3⟩:=h
  refine ⟨q,xs,rfl,fq,h1,?_,pP hp hm ds f h3⟩
  rw [bQ (by rintro rfl; rw [h0] at fq; cases fq)]; exact h2
 | _=>exact f.elim
section
variable {P:Program} {w:World} {K:O7} {mg:Str->Option Value} {base:Heap} {k:Nat} {N:List Str} {sc:Scope} {bk:Bool} {c:Ctx P w K mg base k N sc bk} {Y Y':List Sl} {pos ap cp px tp:Pos} {a b e f:Expr} {es:List Expr} {R:D->Prop} {T:Bool->Prop} {nx:List Sl->Prop} {p:Pt} {x:Str} {i:Nat} {r:Sl} {ds:List D}
noncomputable def Sl.iT:Sl->Option D
 | .ow ds=>some (.lst ds) | .aw _ ds=>some (.lst ds)
 | _=>none
theorem lK (h:r.iT=some d):r.owned=true:=by cases r <;> first | rfl | cases h
theorem iU {U:Type} {Hf:Hp} {kvs:List (U×D)} {xs:List (U×V)} (h:ir K Hf kvs xs):xs.map (·.1)=kvs.map (·.1)/\ak K Hf (kvs.map (·.2)) (xs.map (·.2)):=by
 unfold ir at h
 induction h with
 | nil=>exact ⟨rfl,aA.mpr rfl⟩
 | cons h t ih=>exact ⟨by rw [Pn,Pn,ih.1,h.1],.cons h.2 ih.2⟩
theorem fG (h:mX K Hf kvs xs):xs.map (·.1)=kvs.map (·.1)/\(∀ y∈xs,c9 K Hf y.2.1 (y.1.map kV))/\ak K Hf (kvs.map (·.2)) (xs.map (·.2.2)):=by
 refine ⟨?_,h.Bk,?_⟩
 ·unfold mX at h
  induction h with
  | nil=>rfl
  | cons h t ih=>rw [Pn,Pn,ih,h.1]
 ·unfold mX at h
  induction h with
  | nil=>exact aA.mpr rfl
  | cons h t ih=>exact .cons h.2.2 ih
theorem bx.iT (h:r.iT=some d) (q:bx K fr H Hf r v):∃ p o,v=.ref p/\fr p/\H p=some o/\Hf p=none/\HO.mt o/\Rep K (upd Hf p o) d v:=by
 have sf:∀ {p:Addr} {o:HO},Hf p=none->aL Hf (upd Hf p o):=λhp b u e=>by rw [ai (aq e hp)]; exact e
 cases r with
 | ow ds=>cases h; obtain ⟨p,xs,rfl,f,h1,h2,h3⟩:=q; exact ⟨p,_,rfl,f,h1,h2,trivial,bh.mpr ⟨p,xs,rfl,.inl (.inl ah),h3.mono (sf h2)⟩⟩
 | aw a ds=>cases h; obtain ⟨p,xs,rfl,f,h1,h2,h3⟩:=q; exact ⟨p,_,rfl,f.1,h1,h2,trivial,bh.mpr ⟨p,xs,rfl,.inl (.inl ah),h3.mono (sf h2)⟩⟩
 | _=>cases h
theorem dN.kC (S:dN K H₀ fc Z H Hf Y) (h:Y[i]?=some r) (hr:r.iT=some d) :
 ∃ q o,H q=some o/\Hf q=none/\HO.mt o/\dN K H₀ fc Z H (L2.upd Hf q o) (Y.set i (.va d)):=by
 obtain ⟨q,ev,rq⟩:=S.own h (lK hr)
 obtain ⟨_,o,e0,fq,hq,ya,hm,rd⟩:=rq.iT hr
 cases e0
 have hi:i<Y.length:=(Po.mp h).1
 have hown:=lK hr
 have sf:aL Hf (L2.upd Hf q o):=λb u e=>by rw [L2.ai (aq e ya)]; exact e
 have sb:aL (L2.upd Hf q o) H:=λb u e=>by
  by_cases z:b=q
  ·subst z; rw [L2.ah] at e; rw [hq]; exact e
  ·rw [L2.ai z] at e; exact S.sb b u e
 refine ⟨q,o,hq,ya,hm,⟨S.bas.s,S.bas.f.trans sf,sb,λb h1 h2 h3=>?_⟩,by simp [S.len],λj r' hj hu=>?_,λj j' r1 r2 q' hne h1 h2 o1 o2=>?_⟩
 ·have e:=S.bas.n b h1 h2 h3
  by_cases z:b=q
  ·subst z; exact absurd fq h2
  ·rw [L2.ai z]; exact e
 ·by_cases z:j=i
  ·subst z
   rw [Qu hi] at hj
   cases hj
   exact ⟨_,ev,rd⟩
  ·rw [Ql (Py z)] at hj
   obtain ⟨v,e1,e2⟩:=S.at_ j r' hj hu
   refine ⟨v,e1,?_⟩
   have key:r'.owned=true->v≠.ref q:=λho z=>by
    subst z
    exact S.sep i j _ _ q (Py ‹_›) h hj hown ho ev e1
   exact bx.mv (B:=λz=>z=q) sf (λz u hz e1 _ e3=>⟨e1,by rw [L2.ai hz]; exact e3⟩) (by rintro _ z rfl ⟨ys,e9⟩; rw [hq] at e9; cases e9; exact hm) (λho z e=>by rintro rfl; exact key ho e) e2
 ·have out:∀ {j:Nat} {r:Sl},(Y.set i (.va d))[j]?=some r->r.owned=true->Y[j]?=some r:=λ{j r} hj ho=>by
   by_cases z:j=i
   ·subst z; rw [Qu hi] at hj; cases hj; cases ho
   ·rw [Ql (Py z)] at hj; exact hj
  exact S.sep j j' r1 r2 q' hne (out h1 o1) (out h2 o2) o1 o2
theorem lM (sb:aL Hf H) (hq:H q=some o) (ya:Hf q=none) (g:bz H (upd Hf q o) H' aj):bz H Hf H' (del aj q) :=
 ⟨g.s,λb o e=>by rw [bQ (aq e ya)]; exact g.f b o (by rw [ai (aq e ya)]; exact e),λb o e=>by obtain ⟨_,e2⟩:=dW e; exact g.b b o e2,λb h1 h2 h3=>by
   by_cases z:b=q
   ·subst z; exact fE
   ·rw [bQ z]; exact g.n b (by rw [ai z]; exact h1) h2 h3⟩
theorem wz (i) (hi:At Y i r) (hr:r.iT=some d0) (hs:SSet Y i (.va d0) Y') (h:aB c e Y' λd=>Sd d.nl (R d)):aB c e Y R:=λZ H Hf Q S q=>by
 obtain ⟨a,o,ha,zW,hm,S1⟩:=S.kC hi.get hr
 rw [<- hs.eq] at S1
 exact h Z H _ Q S1 λd v H' aj ⟨fl,rd⟩ rv g=>q d v H' _ rd (uH (g.f a _ ah) hm d fl rv) (lM S.sb ha zW g)
theorem Mc (i) {R:Sl->Prop} (hi:At Y i r) (hr:r.iT=some d0) (hs:SSet Y i (.va d0) Y') (h:dU c e Y' λd=>Sd d.nl (R d)):dU c e Y R:=λZ H Hf Q S q=>by
 obtain ⟨a,o,ha,zW,hm,S1⟩:=S.kC hi.get hr
 rw [<- hs.eq] at S1
 exact h Z H _ Q S1 λd v H' aj ⟨fl,rd⟩ rv g=>q d v H' _ rd (rv.Oi (g.f a _ ah) hm ha fl) (lM S.sb ha zW g)
theorem Me (i) (hi:At Y i r) (hr:r.iT=some d0) (hs:SSet Y i (.va d0) Y') (h:gZ c e Y' T):gZ c e Y T:=λZ H Hf Q S q=>by
 obtain ⟨a,o,ha,zW,hm,S1⟩:=S.kC hi.get hr
 rw [<- hs.eq] at S1
 exact h Z H _ Q S1 λb H' aj rd g=>q b H' _ rd (lM S.sb ha zW g)
theorem cB {st:List Stmt} (i) (hi:At Y i r) (hr:r.iT=some d0) (hs:SSet Y i (.va d0) Y') (h:aU c st Y' nx p):aU c st Y nx p:=λZ H Hf D S o=>by
 obtain ⟨a,ob,ha,zW,hm,S1⟩:=S.kC hi.get hr
 rw [<- hs.eq] at S1
 exact h Z H _ D S1 o
theorem Mf (hN:At N i x) (hi:At Y i r) (hr:r.iT=some (.lst ds)) (hs:SSet Y i (.va (.lst ds)) Y') (h:aB c b Y' λy=>Sd y.nl (∃ j d,y=.int j/\j9 ds j=some d/\Sd d.nl (R d))) (hx:At Y' i (.va (.lst ds)))
 (hd:Ndb x:=by decide) (hcd:Ncd x:=by decide) (hp:kg b:=by with_unfolding_all exact λ_ _=>rfl):aB c (.Subscript (.Name x p2) b pos) Y R :=
 wz i hi hr hs (L6 (rm hN hx (h.imp λy ⟨_,j,d,e1,e2,e3⟩=>⟨ds,j,d,rfl,e1,e2,e3⟩) hd hcd) hp)
theorem SSet.at (h:SSet l i r l'):At l' i r:=by
 induction h with
 | z=>exact .z
 | s _ ih=>exact .s ih
theorem Ja (hm:mg "len"=none) (hN:At N i x) (hi:At Y i r) (hr:r.iT=some (.lst ds)) (hs:SSet Y i (.va (.lst ds)) Y') (h:R (.int ds.length)) (hg:sc.names.lookup (O5 "len")=some .globalImplicit:=by rfl')
 (hd:Ndb x:=by decide) (hcd:Ncd x:=by decide)
 (he:∀ env,starEach [.Name x p2] env=(false,eval (.Name x p2) env)::starEach [] env:=by symm):aB c (.Call (.Name "len" p1) [.Name x p2] [] pos) Y R :=
 wz i hi hr hs (e_len hm (rm hN hs.at ⟨ds,rfl,pO,h⟩ hd hcd) hg he)
theorem Bq (hm:mg "tuple"=none) (hN:At N i x) (hi:At Y i r) (hr:r.iT=some (.lst ds)) (hs:SSet Y i (.va (.lst ds)) Y') (h:Sd (D.uF ds) (R (.tup ds))) (hg:sc.names.lookup (O5 "tuple")=some .globalImplicit:=by rfl')
 (hd:Ndb x:=by decide) (hcd:Ncd x:=by decide)
 (he:∀ env,starEach [.Name x p2] env=(false,eval (.Name x p2) env)::starEach [] env:=by symm):aB c (.Call (.Name "tuple" p1) [.Name x p2] [] pos) Y R :=
 wz i hi hr hs (vZ hm (rm hN hs.at ⟨ds,rfl,uG h.s,h.r⟩ hd hcd) hg he)
end
end EV
set_option maxHeartbeats 0
namespace EV
open PySem PySem.Spec PyProof.Rows L2
section
variable {P:Program} {w:World} {K:O7} {mg:Str->Option Value} {base h:Heap}
def aD (K:O7) (mg:Str->Option Value) (x:Str) (st:Stmt):Prop:=∃ f fd,mg x=some (.ref f)/\d9 K x x st f fd
theorem Jb {st:Stmt} {kV doc pm cdv ct:Value} (KX:K.In h) (G:h.Ns mainGlobals mg) (a:P5 K mainGlobals x=some (some (.ref f)))
 (l:K.lookup f=some ⟨oc,od,.func (Rn x x (eG st) (ay st) (aH st) .none kV doc pm an cdv ct),osl⟩) (c:UI K cdv x=true) (k:Rk K (.ref f)=true):aD K mg x st :=
 ⟨f,_,TJ KX G a,IB l c k⟩
theorem Bt (e:(t == Qz T)=false) (m:PySem.W.kitMeta T=true) (s:Rl K t (.type T)=some b):Qq K t (.type T)=some b:=by
 unfold Qq PySem.W.kitCls
 simp [e,m,s]
theorem iV (e:(t == t)=true):Qq K t t=some true:=by
 unfold Qq
 simp [e]
structure Txt (K:O7) (mg:Str->Option Value):Prop where
 abs:mg "abs"=none
 len:mg "len"=none
 isin:mg "isinstance"=none
 range:mg "range"=none
 int:mg "int"=none
 bool:mg "bool"=none
 tuple:mg "tuple"=none
 list:mg "list"=none
 max:mg "max"=none
 min:mg "min"=none
 sum:mg "sum"=none
 sorted:mg "sorted"=none
 zip:mg "zip"=none
 enum:mg "enumerate"=none
 all:mg "all"=none
 any:mg "any"=none
 dict:mg "dict"=none
 ib:Qq K (.type "int") (.type "bool")=some false
theorem Txt.Mg (T:Txt K mg):gI mg "int" (.type "int"):=.inr ⟨_,rfl,T.int,by decide +kernel,by decide +kernel⟩
theorem Txt.Jc (T:Txt K mg):gI mg "bool" (.type "bool"):=.inr ⟨_,rfl,T.bool,by decide +kernel,by decide +kernel⟩
theorem Txt.EL (T:Txt K mg):gI mg "tuple" (.type "tuple"):=.inr ⟨_,rfl,T.tuple,by decide +kernel,by decide +kernel⟩
theorem Txt.Jd (T:Txt K mg):gI mg "list" (.type "list"):=.inr ⟨_,rfl,T.list,by decide +kernel,by decide +kernel⟩
theorem Je:Qq K (.type "int") (.type "int")=some true:=iV 'd'
theorem Jf:Qq K (.type "tuple") (.type "tuple")=some true:=iV 'd'
theorem Jg:Qq K (.type "list") (.type "list")=some true:=iV 'd'
theorem Jh (KX:K.In h) (G:h.Ns mainGlobals mg)
 (z1:P5 K mainGlobals "abs"=some none)
 (z2:P5 K mainGlobals "len"=some none)
 (z3:P5 K mainGlobals "isinstance"=some none)
 (z4:P5 K mainGlobals "range"=some none)
 (z5:P5 K mainGlobals "int"=some none)
 (z6:P5 K mainGlobals "bool"=some none)
 (z7:P5 K mainGlobals "tuple"=some none)
 (z8:P5 K mainGlobals "list"=some none)
 (z9:P5 K mainGlobals "max"=some none)
 (z10:P5 K mainGlobals "min"=some none)
 (z11:P5 K mainGlobals "sum"=some none)
 (z12:P5 K mainGlobals "sorted"=some none)
 (z13:P5 K mainGlobals "zip"=some none)
 (z14:P5 K mainGlobals "enumerate"=some none)
 (z15:P5 K mainGlobals "all"=some none)
 (z16:P5 K mainGlobals "any"=some none)
 (z17:P5 K mainGlobals "dict"=some none)
 (sib:Rl K (.type "int") (.type "bool")=some false):Txt K mg :=
 ⟨Qm KX G z1,Qm KX G z2,Qm KX G z3,Qm KX G z4,Qm KX G z5,Qm KX G z6,Qm KX G z7,Qm KX G z8,
  Qm KX G z9,Qm KX G z10,Qm KX G z11,Qm KX G z12,Qm KX G z13,Qm KX G z14,Qm KX G z15,Qm KX G z16,Qm KX G z17,
  Bt 'd' 'd' sib⟩
theorem Mh {α:Type} (us:List α) (h:us.length=1):∃ a,us=[a]:=by match us,h with | [a],_=>exact ⟨a,rfl⟩
theorem Mi {α:Type} (us:List α) (h:us.length=2):∃ a b,us=[a,b]:=by match us,h with | [a,b],_=>exact ⟨a,b,rfl⟩
theorem Mj {α:Type} (us:List α) (h:us.length=3):∃ a b c,us=[a,b,c]:=by match us,h with | [a,b,c],_=>exact ⟨a,b,c,rfl⟩
theorem Ml {α:Type} (us:List α) (h:us.length=4):∃ a b c d,us=[a,b,c,d]:=by match us,h with | [a,b,c,d],_=>exact ⟨a,b,c,d,rfl⟩
theorem Ji {α:Type} (us:List α) (h:us.length=5):∃ a b c d e,us=[a,b,c,d,e]:=by match us,h with | [a,b,c,d,e],_=>exact ⟨a,b,c,d,e,rfl⟩
theorem br (P) (w) (base) {st:Stmt} (D:aD K mg x st) (ok:∀ {f:Addr} {fd:FuncData},d9 K x x st f fd->bw P w K mg base (cN P w) k f fd ps (eE K F))
 (hb:∀ (kV doc pm:Value) (an:Option Addr) (cdv ct:Value) (us:List Value),us.length=ps.length->bindArgs (Rn x x (eG st) (ay st) (aH st) .none kV doc pm an cdv ct) ⟨us,[]⟩=pure (ps.zip us):=by intro _ _ _ _ _ _ us hl; first | (obtain ⟨a,rfl⟩:=Mh us hl; rfl) | (obtain ⟨a,b,rfl⟩:=Mi us hl; rfl) | (obtain ⟨a,b,c,rfl⟩:=Mj us hl; rfl) | (obtain ⟨a,b,c,d,rfl⟩:=Ml us hl; rfl) | (obtain ⟨a,b,c,d,e,rfl⟩:=Ji us hl; rfl) | (obtain ⟨a,b,c,d,e,f,rfl⟩:=len6 us hl; rfl) | (obtain rfl:=len0 us hl; rfl)):fk P w K mg base k x F :=
 let ⟨f,fd,m,Fu⟩:=D; ⟨f,fd,ps,m,Fu.kp,Fu.binds hb,ok Fu⟩
noncomputable def Bu:Fn:=λds r=>∃ ns:List Int,ns.length<=63/\ds=[.lst (ns.map D.int)]/\r=.ok (.va (.bl true))
theorem Jj (H) (a) (ns:List Int) (hl:ns.length<=63) (hS:fZ K H a (ns.map V.int)):eE K Bu [.ref a] H (λv _=>v=.bl true) λ_ _ _=>False :=
 ⟨H,[.lst (ns.map D.int)],.ok (.va (.bl true)),.refl H,.cons (bh.mpr ⟨a,_,rfl,hS,nN ns⟩) (aA.mpr rfl),⟨ns,hl,rfl,rfl⟩,λv H' aj _ r=>(cG (K:=K) (H:=aj)).mp r⟩
theorem walk {l:PySem.W.OpenLaw} {K:Params->O7} (hk:k<=20) (hn:l.most=some 63) (hdf:d.params.defaults=[])
 (hY:∀ (w:World) (h:Heap),YP w h->(K w.params).In h)
 (F:∀ (w:World) (mg:Str->Option Value) (fa:Addr) (h:Heap),(K w.params).In h->h.Ns mainGlobals mg->mg d.name=some (.ref fa) ->
   ∃ fd:FuncData,(∀ (s:Shared) (u:Value),BindsTo s fd ⟨[u],[]⟩ [("_law_script",u)])/\∀ base:Heap,(K w.params).In base->base.Ns mainGlobals mg->bw l.prog w (K w.params) mg base (cN l.prog w) 20 fa fd ["_law_script"] (eE (K w.params) Bu)) :
 PySem.W.WalkO q loose XP YP l.row.toRowW d [] (λf vs=>PySem.call f vs) :=
 L2.Eg (n:=63) (k:=20) (x:="_law_script") (CX:=λw=>cN l.prog w) (sp:=λw=>eE (K w.params) Bu) hn 'd' hdf ⟨rfl,by decide,by decide⟩ hY F (λ_ H a ns hl _ hS=>Jj H a ns hl hS) λ_ _ _ _ _ ⟨_,_,_,_,_,q⟩=>q
end
theorem gn (f:α->β) (xs) (lo hi):EV.cutD (xs.map f) lo hi=(EV.cutD xs lo hi).map f:=by
 unfold EV.cutD; simp only [Pc,List.map_take,List.map_drop]
theorem gJ (h0:0<=j) (h1:j<xs.length):j9 xs j=xs[j.toNat]?:=by
 unfold j9 KR
 rw [if_pos h0,if_pos h1]; rfl
theorem EM {j:Int} (h0:j<0) (h1:0<=j+xs.length):j9 xs j=xs[(j+xs.length).toNat]?:=by
 unfold j9 KR
 rw [if_neg 'l']
 rw [if_pos 'l']; rfl
theorem Bv (h:a.natAbs<2 ^ 63):QB a<=64:=by
 unfold QB
 by_cases z:a=0
 ·subst z; decide
 ·have e:(a == 0)=false:=by simpa using z
  rw [e,if_neg Pp]
  have:=(U1 (n:=a.natAbs) (k:=63) 'l').mpr h
  lia
theorem jV (h:a.natAbs<2 ^ 63):EV.MulOk a b:=IntMulOk.of_left (Bv h)
theorem iW (h:(nj 0 n)[i]?=some d):i<n/\d=.int (i:Int):=by
 unfold nj at h
 simp only [Pr,PD] at h
 obtain ⟨j,h1,rfl⟩:=h
 obtain ⟨hj,rfl⟩:=Po.mp h1
 simp at hj
 exact ⟨hj,by simp⟩
section
variable {K:O7}
theorem wA (I) (h:gZ c t Y (g6 (aU c A Y I p) (aU c B Y I p))) (hI:∀ Y',I Y'->nx Y'):fm c (.If t A B pos) Y nx p :=
 Er (h.imp λx hx=>⟨λe Z H Hf D S o=>hx.t e Z H Hf D S ⟨λZ H Hf Y S q=>o.nx Z H Hf Y S (hI _ q),o.rt,o.bk,o.ct⟩,λe Z H Hf D S o=>hx.f e Z H Hf D S ⟨λZ H Hf Y S q=>o.nx Z H Hf Y S (hI _ q),o.rt,o.bk,o.ct⟩⟩)
end
end EV
namespace EV
open PySem PySem.Spec PySem.Calls PyProof.Rows L2
noncomputable def HO.dct:HO->Prop | .dK _=>True | .dT _=>True | _=>False
theorem pQ (I:Inv X aa Z H s) (hu:H a=some u) (nu:∀ xs,u≠.tup xs) (nw:∀ y,u≠.own y) (nt:∀ ps,u≠.tbl ps) (nf:∀ o z,X.H₀ a≠some (.frz o z))
 (hv:bf X.prog X.w H s.heap a v):Inv X aa Z (upd H a v) s:=by
 have hne:∀ {b:Addr} {z:HO},H b=some z->z≠u->b≠a:=λe d q=>by subst q; rw [hu] at e; cases e; exact d rfl
 have hno:∀ {b:Addr},H b=none->b≠a:=λe q=>by subst q; rw [hu] at e; cases e
 have hst:∀ {b:Addr} {z:HO},bf X.prog X.w H s.heap b z->bf X.prog X.w (upd H a v) s.heap b z:=λq =>
  q.stay (λ_ _ _ e=>e) (λb e=>by rw [ai (hne e (Py (nw _)))]; exact e) λb xs e=>by rw [ai (hne e (Py (nu xs)))]; exact e
 have fr:=I.free
 exact {
  ok:=I.ok,os:=I.os,bare:=I.bare,loc:=I.loc,cell:=I.cell,len:=I.len
  base:=⟨I.base.keep,I.base.slot,λb o h1 h2 h3=>by have e:=I.base.free b o h1 h2 h3; rw [ai (hno e)]; exact e,I.base.there,
   λb xs e=>by have q:=I.base.tups b xs e; rw [ai (hne q (Py (nu xs)))]; exact q,
   λb o z e=>by
    have q:=I.base.frzs b o z e
    by_cases w:b=a
    ·subst w; exact absurd e (nf o z)
    ·rw [ai w]; exact q,
   λb ps e=>by obtain ⟨m,q⟩:=I.base.tbls b ps e; exact ⟨m,by rw [ai (hne q (Py (nt _)))]; exact q⟩⟩
  free:=by rw [ai (hno I.free)]; exact I.free
  freeC:=λx c e=>by have q:=I.freeC x c e; rw [ai (hno q)]; exact q
  pin:=λq hq=>by obtain ⟨h1,h2,h3⟩:=I.pin q hq; exact ⟨h1,by rw [ai (hno h2)]; exact h2,h3⟩
  hok:=λb z e=>by
   by_cases w:b=a
   ·subst w; rw [ah] at e; cases e; exact hst hv
   ·rw [ai w] at e; exact hst (I.hok b z e) }
theorem EN (I:Inv X aa Z H s) (hu:H a=some u) (hd:HO.dct u) :
 ∃ o,Inv X aa Z (upd H a (.frz o u)) s/\∀ o z,X.H₀ a≠some (.frz o z):=by
 obtain ⟨o,ho⟩:=pH (I.hok a u hu)
 have nf:∀ o z,X.H₀ a≠some (.frz o z):=λo z e=>by
  have q:=I.base.frzs a o z e
  rw [hu] at q; cases q; exact hd
 exact ⟨o,pQ I hu (by rintro xs rfl; exact hd) (by rintro y rfl; exact hd) (by rintro ps rfl; exact hd) nf ⟨ho,I.hok a u hu⟩,nf⟩
theorem Bw (I:Inv X aa Z H s) (hu:H a=some (.frz o u)) (nf:∀ o z,X.H₀ a≠some (.frz o z)):Inv X aa Z (upd H a u) s :=
 pQ I hu (by intro xs z; cases z) (by intro y z; cases z) (by intro ps z; cases z) nf (I.hok a _ hu).2
noncomputable def Sl.pR:Sl->Option D
 | .oK kvs=>some (.fdK (kvs.map (·.1)) (kvs.map (·.2))) | .aK _ kvs=>some (.fdK (kvs.map (·.1)) (kvs.map (·.2)))
 | .oT kvs=>some (.fdT (kvs.map (·.1)) (kvs.map (·.2))) | .aT _ kvs=>some (.fdT (kvs.map (·.1)) (kvs.map (·.2)))
 | _=>none
theorem lN {r:Sl} (h:r.pR=some d):r.owned=true:=by cases r <;> first | rfl | cases h
section
variable {K:O7}
theorem bx.pR (h:r.pR=some d) (q:bx K fr H Hf r v):∃ p u,v=.ref p/\fr p/\H p=some u/\Hf p=none/\HO.dct u/\∀ o,Rep K (L2.upd Hf p (.frz o u)) d v:=by
 have sf:∀ {p:Addr} {o:HO},Hf p=none->aL Hf (L2.upd Hf p o):=λhp b u e=>by rw [ai (aq e hp)]; exact e
 cases r with
 | oK ds=>cases h; obtain ⟨p,xs,rfl,f,h1,h2,h3⟩:=q; exact ⟨p,_,rfl,f,h1,h2,trivial,λo=>fO.mpr ⟨p,xs,o,rfl,ah,(iU h3).1,(iU h3).2.mono (sf h2)⟩⟩
 | aK a ds=>cases h; obtain ⟨p,xs,rfl,f,h1,h2,h3⟩:=q; exact ⟨p,_,rfl,f.1,h1,h2,trivial,λo=>fO.mpr ⟨p,xs,o,rfl,ah,(iU h3).1,(iU h3).2.mono (sf h2)⟩⟩
 | oT ds=>cases h; obtain ⟨p,xs,rfl,f,h1,h2,h3⟩:=q; exact ⟨p,_,rfl,f,h1,h2,trivial,λo=>kh.mpr ⟨p,xs,o,rfl,ah,(fG h3).1,λy hy=>az (sf h2) ((fG h3).2.1 y hy),(fG h3).2.2.mono (sf h2)⟩⟩
 | aT a ds=>cases h; obtain ⟨p,xs,rfl,f,h1,h2,h3⟩:=q; exact ⟨p,_,rfl,f.1,h1,h2,trivial,λo=>kh.mpr ⟨p,xs,o,rfl,ah,(fG h3).1,λy hy=>az (sf h2) ((fG h3).2.1 y hy),(fG h3).2.2.mono (sf h2)⟩⟩
 | _=>cases h
theorem dN.EO (S:dN K H₀ fc Z H Hf Y) (h:Y[i]?=some r) (hr:r.pR=some d) :
 ∃ q u,H q=some u/\Hf q=none/\HO.dct u/\∀ o,dN K H₀ fc Z (L2.upd H q (.frz o u)) (L2.upd Hf q (.frz o u)) (Y.set i (.va d)):=by
 obtain ⟨q,ev,rq⟩:=S.own h (lN hr)
 obtain ⟨_,u,e0,fq,hq,ya,hd,rd⟩:=rq.pR hr
 cases e0
 have hi:i<Y.length:=(Po.mp h).1
 have hown:=lN hr
 refine ⟨q,u,hq,ya,hd,λo=>⟨⟨λb z e=>?_,λb z e=>?_,λb z e=>?_,λb h1 h2 h3=>?_⟩,by simp [S.len],λj r' hj hu=>?_,λj j' r1 r2 q' hne h1 h2 o1 o2=>?_⟩⟩
 ·rw [L2.ai (aq e fq)]; exact S.bas.s b z e
 ·have e2:=S.bas.f b z e
  rw [L2.ai (aq e2 ya)]; exact e2
 ·by_cases w:b=q
  ·subst w; rw [L2.ah] at e |-; exact e
  ·rw [L2.ai w] at e |-; exact S.sb b z e
 ·have e:=S.bas.n b h1 h2 h3
  by_cases z:b=q
  ·subst z; exact absurd fq h2
  ·rw [L2.ai z]; exact e
 ·have sf:aL Hf (L2.upd Hf q (.frz o u)):=λb z e=>by rw [L2.ai (aq e ya)]; exact e
  by_cases z:j=i
  ·subst z
   rw [Qu hi] at hj
   cases hj
   exact ⟨_,ev,rd o⟩
  ·rw [Ql (Py z)] at hj
   obtain ⟨v,e1,e2⟩:=S.at_ j r' hj hu
   refine ⟨v,e1,?_⟩
   have key:r'.owned=true->v≠.ref q:=λho z=>by
    subst z
    exact S.sep i j _ _ q (Py ‹_›) h hj hown ho ev e1
   exact bx.mv (B:=λz=>z=q) sf (λz w hz e1 _ e3=>⟨by rw [L2.ai hz]; exact e1,by rw [L2.ai hz]; exact e3⟩) (by rintro _ z rfl ⟨ys,e9⟩; rw [hq] at e9; cases e9; exact hd) (λho z e=>by rintro rfl; exact key ho e) e2
 ·have out:∀ {j:Nat} {r:Sl},(Y.set i (.va d))[j]?=some r->r.owned=true->Y[j]?=some r:=λ{j r} hj ho=>by
   by_cases z:j=i
   ·subst z; rw [Qu hi] at hj; cases hj; cases ho
   ·rw [Ql (Py z)] at hj; exact hj
  exact S.sep j j' r1 r2 q' hne (out h1 o1) (out h2 o2) o1 o2
end
theorem yJ (sb:aL Hf H) (hq:H q=some u) (ya:Hf q=none) (g:bz (upd H q (.frz o u)) (upd Hf q (.frz o u)) H' aj):bz H Hf (upd H' q u) (del aj q) :=
 ⟨λb z e=>by
   by_cases w:b=q
   ·subst w; rw [ah]; rw [hq] at e; exact e
   ·rw [ai w]; exact g.s b z (by rw [ai w]; exact e),
   λb z e=>by rw [bQ (aq e ya)]; exact g.f b z (by rw [ai (aq e ya)]; exact e),
   λb z e=>by obtain ⟨w,e2⟩:=dW e; rw [ai w]; exact g.b b z e2,λb h1 h2 h3=>by
   by_cases w:b=q
   ·subst w; exact fE
   ·rw [bQ w]; exact g.n b (by rw [ai w]; exact h1) (by rw [ai w]; exact h2) λxs=>by rw [ai w]; exact h3 xs⟩
theorem ER {K:O7} (hp:Hf p=some (.frz o u)) (hd:HO.dct u) (h:c9 K Hf a xs):c9 K (del Hf p) a xs:=by
 rcases h with (h | ⟨o',h⟩) | h
 ·exact .inl (.inl (by rw [bQ (by rintro rfl; rw [hp] at h; cases h)]; exact h))
 ·exact .inl (.inr ⟨o',by rw [bQ (by rintro rfl; rw [hp] at h; cases h; exact hd)]; exact h⟩)
 ·exact .inr h
mutual
theorem Bx {K:O7} {Hf:Hp} {p:Addr} {o:Obj} {u:HO} (hp:Hf p=some (.frz o u)) (hd:HO.dct u):∀ (d:D) {v:V},d.nl->Rep K Hf d v->Rep K (del Hf p) d v
 | .non,_,_,h=>by simpa [Rep] using h
 | .bl _,_,_,h=>by simpa [Rep] using h
 | .int _,_,_,h=>by simpa [Rep] using h
 | .str _,_,_,h=>by simpa [Rep] using h
 | .adr _,_,_,h=>by simpa [Rep] using h
 | .tup ds,v,f,h=>by
  simp only [Rep] at h |-
  obtain ⟨a,xs,e,h1,h2⟩:=h
  exact ⟨a,xs,e,ER hp hd h1,pS hp hd ds (by simpa [D.nl] using f) h2⟩
 | .lst _,_,f,_=>by simp [D.nl] at f
 | .fdK _ _,_,f,_=>by simp [D.nl] at f
 | .fdT _ _,_,f,_=>by simp [D.nl] at f
 | .exc C,_,_,h=>by
  simp only [Rep] at h |-
  obtain ⟨a,e,h⟩:=h
  exact ⟨a,e,by rw [bQ (by rintro rfl; rw [hp] at h; cases h)]; exact h⟩
theorem pS {K:O7} {Hf:Hp} {p:Addr} {o:Obj} {u:HO} (hp:Hf p=some (.frz o u)) (hd:HO.dct u):∀ (ds:List D) {xs:List V},D.uF ds->ak K Hf ds xs->ak K (del Hf p) ds xs
 | [],_,_,h=>by simpa [ak] using h
 | d::ds,xs,f,h=>by
  simp only [ak] at h |-
  simp only [D.uF] at f
  obtain ⟨x,r,e,h1,h2⟩:=h
  exact ⟨x,r,e,Bx hp hd d f.1 h1,pS hp hd ds f.2 h2⟩
end
section
variable {K:O7}
theorem By (S:bK c Z H Hf Y) (hi:At Y i r) (hr:r.pR=some d0) (hs:SSet Y i (.va d0) Y')
 (h:∀ q u o,H q=some u->Hf q=none->HO.dct u->bK c Z (upd H q (.frz o u)) (upd Hf q (.frz o u)) Y'->bE c.X e Z (upd H q (.frz o u)) λv H'=>∃ aj,bz (upd H q (.frz o u)) (upd Hf q (.frz o u)) H' aj/\Q v (upd H' q u)):bE c.X e Z H Q:=by
 obtain ⟨q,u,hq,ya,hd,S1⟩:=S.EO hi.get hr
 intro aa s I
 obtain ⟨o,I1,nf⟩:=EN I hq hd
 have S2:=S1 o
 rw [<- hs.eq] at S2
 refine bL (h q u o hq ya hd S2 aa s I1) λv s' ⟨x,H',I',rv,aj,g,hQ⟩=>⟨x,_,Bw I' (g.s q _ ah) nf,rv,hQ⟩
theorem pU (i) {R:Sl->Prop} (hi:At Y i r) (hr:r.pR=some d0) (hs:SSet Y i (.va d0) Y') (h:dU c e Y' λd=>Sd d.nl (R d)):dU c e Y R:=λZ H Hf Q S q=>by
 refine By S hi hr hs λa u o ha zW hd S1=>h Z _ _ _ S1 λr1 v H' aj ⟨fl,rd⟩ rv g=>⟨aj,g,?_⟩
 have hp:=g.f a _ ah
 refine q r1 v _ (del aj a) rd ?_ (yJ S.sb ha zW g)
 have hH:H' a=some (.frz o u):=g.s a _ ah
 cases r1 with
 | va d=>exact Bx hp hd d fl rv
 | ow ds =>
  obtain ⟨b,xs,rfl,fb,h1,h2,h3⟩:=rv
  have nb:b≠a:=by rintro rfl; rw [show (upd H b (.frz o u)) b=_ from ah] at fb; cases fb
  exact ⟨b,xs,rfl,by rw [ai nb] at fb; exact fb,by rw [ai nb]; exact h1,by rw [bQ nb]; exact h2,pS hp hd ds fl h3⟩
 | _=>exact fl.elim
end
def BA (h:Heap) (it d:Addr) (i n ep:Nat):Prop :=
 ∃ (x:Value) (f:Bool) (k v:Value),h.get? it=some { cls:=.type "dict_itemiterator",dict:=none,data:=.fields #[x,.bool f,.ref d,.int i 0,.int n 0,.int ep 0,k,v],slots:= #[] }/\(x=.none\/∃ a:Addr,x=rawInt a)
section
variable {s:Shared} {i n ep:Nat}
theorem pV:Builtin.Dict_items.ownsTuple "dict_itemiterator"=true:=by decide
theorem rP (h:Q (s.heap.get? a) s):wpAny M A (loadIfAlive a) Q E s:=λΓ p z=>by
 show Sem.wp M Γ (Sem.loadIfAlive a Sem.pure) _ _ p s
 rw [Sem.wp_loadIfAlive,Sem.wp]
 exact h
theorem BB (hs:s.heap=h) (hit:h.get? it=some { cls:=.type "dict_itemiterator",dict:=none,data:=.fields #[x,.bool f,.ref d,.int i 0,.int n 0,.int ep 0,k,v],slots:= #[] }) (hx:x=.none\/∃ a:Addr,x=rawInt a)
 (hQ:∀ h',BA h' it d i n ep->h'.get? h.objs.size=some { cls:=.type "tuple",data:=.seq #[a,b] }->h'.objs.size=h.objs.size+1->(∀ c o,c≠it->h.get? c=some o->h'.get? c=some o)->Q (.ref h.objs.size) { s with heap:=h' }) :
 wpAny (model prog w) A (U3 (.ref it) 6 a b) Q E s:=by
 subst hs
 have lt:it<s.heap.objs.size:=Pf hit
 have ne:s.heap.objs.size≠it:=Si lt
 unfold U3
 refine O6 (wpAny_newTuple ?_)
 have tW:=Pe ({ cls:=.type "tuple",data:=.seq [a,b].toArray }:Obj) hit
 have htu:(s.heap.push { cls:=.type "tuple",data:=.seq [a,b].toArray }).get? s.heap.objs.size=some { cls:=.type "tuple",data:=.seq #[a,b] }:=Pq _ rfl
 have hsz:(s.heap.push { cls:=.type "tuple",data:=.seq [a,b].toArray }).objs.size=s.heap.objs.size+1:=Q7 ..
 have hold:∀ c o,s.heap.get? c=some o->(s.heap.push { cls:=.type "tuple",data:=.seq [a,b].toArray }).get? c=some o:=λc o e=>Pe _ e
 generalize (s.heap.push { cls:=.type "tuple",data:=.seq [a,b].toArray })=h2 at tW htu hsz hold |-
 have free:wpAny (model prog w) A (do
  let old:=[<- field (.ref it) 6,<- field (.ref it) (6+1)]
  setField (.ref it) 6 a; setField (.ref it) (6+1) b
  setField (.ref it) 0 (rawInt s.heap.objs.size); setField (.ref it) 1 (.bool false)
  letGo old [.ref s.heap.objs.size]
  pure (Px s.heap.objs.size)) Q E { s with heap:=h2 }:=by
  refine O6 (Qs tW rfl (x:=k) rfl (O6 (Qs tW rfl (x:=v) rfl ?_)))
  refine O6 (QL tW 'p' λh3 e3 s3=>?_)
  refine O6 (QL e3 'p' λh4 e4 s4=>?_)
  refine O6 (QL e4 'p' λh5 e5 s5=>?_)
  refine O6 (QL e5 'p' λh6 e6 s6=>?_)
  have keep:∀ c o,c≠it->h2.get? c=some o->h6.get? c=some o:=λc o hc e=>s6.extBut c o hc (s5.extBut c o hc (s4.extBut c o hc (s3.extBut c o hc e)))
  refine O6 (RN (O8 (hQ h6 ⟨_,_,_,_,e6,.inr ⟨_,rfl⟩⟩ (keep _ _ ne htu) ?_ λc o hc e=>keep c o hc (hold c o e))))
  rw [s6.1,s5.1,s4.1,s3.1,hsz]
 have told:∀ (h3:Heap) (x:Value) (f:Bool),h3.get? it=some { cls:=.type "dict_itemiterator",dict:=none,data:=.fields #[x,.bool f,.ref d,.int i 0,.int n 0,.int ep 0,k,v],slots:= #[] }->(x=.none\/∃ a:Addr,x=rawInt a) ->
  QW it h2 h3->Q (.ref s.heap.objs.size) { s with heap:=h3 }:=λh3 x f e hx' s3 =>
  hQ h3 ⟨x,f,k,v,e,hx'⟩ (s3.extBut _ _ ne htu) (by rw [s3.1,hsz]) λc o hc e=>s3.extBut c o hc (hold c o e)
 show wpAny _ _ (V4 (.ref it) >>= _) _ _ _
 unfold V4
 refine O6 (O6 (Qs tW rfl (x:=x) rfl ?_))
 rcases hx with rfl | ⟨a0,rfl⟩
 ·exact O8 free
 ·show wpAny _ _ (loadIfAlive (a0:Int).toNat >>= _) _ _ _
  refine O6 (rP ?_)
  split
  ·exact O8 free
  ·refine O6 ?_
   refine Qs tW rfl (x:=.bool f) rfl ?_
   cases f with
   | true =>
    dsimp only
    rw [if_neg 'd']
    exact O8 (O8 (told h2 _ _ tW (.inr ⟨a0,rfl⟩) (.refl ..)))
   | false =>
    dsimp only
    rw [if_pos 'd']
    refine O6 (QL tW 'p' λh3 e3 s3=>?_)
    exact O8 (O8 (told h3 _ true e3 (.inr ⟨a0,rfl⟩) s3))
theorem BA.Jk (h:BA s.heap it d i n ep):s.TypeIs (.ref it) "dict_itemiterator":=let ⟨_,_,_,_,e,_⟩:=h; ⟨_,e,rfl⟩
theorem next_item (hit:BA s.heap it d i es.size ep) (hod:s.heap.get? d=some od) (hdd:od.data=.dict es ep) (hx:es[i]?=some e)
 (hQ:∀ h',BA h' it d (i+1) es.size ep->h'.get? s.heap.objs.size=some { cls:=.type "tuple",data:=.seq #[e.key,e.val] }->h'.objs.size=s.heap.objs.size+1->(∀ c o,c≠it->s.heap.get? c=some o->h'.get? c=some o)->Q (some (.ref s.heap.objs.size)) { s with heap:=h' }) :
 wpAny (model prog w) A (pyNext (.ref it)) Q E s:=by
 have hT:=hit.Jk
 obtain ⟨x,f,k,v,hat,hxx⟩:=hit
 have hlt:i<es.size:=(Sw.mp hx).1
 unfold pyNext
 refine O6 (Sg (RB (name:=O5 "__next__") hT Ss (Q3 Ss hT V8 ?_ (V6 _))))
 refine O6 (O8 (O6 (O6 ?_)))
 first | refine O6 (T8 hT (O8 ?_)) | refine O6 (T9 hT (O8 ?_))
 refine O6 (wpAny_fieldsOf hat rfl ?_)
 simp only [pV,if_true]
 show wpAny _ _ (if (Px d == QK)=true then _ else _) _ _ _
 rw [if_neg (show ¬ (Px d == QK)=true from Pp)]
 refine O6 (O8 (O6 (VO hod hdd ?_)))
 rw [if_neg 'p']
 refine O6 (O8 (O6 (wpAny_dictEpoch hod hdd ?_)))
 rw [if_neg 'p']
 refine O8 ?_
 simp only [show ¬ ((i:Int)<0) from by lia,if_false,Qc,hx]
 refine O6 ?_
 first | refine O6 (T8 hT (O8 ?_)) | refine O6 (T9 hT (O8 ?_))
 refine O6 (Vk hT ?_)
 show wpAny _ _ (setField (.ref it) 3 (rawInt ((i:Int)+1)) >>= _) _ _ s
 refine O6 (QL hat 'p' λh1 e1 s1=>?_)
 have e1':h1.get? it=some { cls:=.type "dict_itemiterator",dict:=none,data:=.fields #[x,.bool f,.ref d,.int ((i+1:Nat):Int) 0,.int es.size 0,.int ep 0,k,v],slots:= #[] }:=by
  have q:((i+1:Nat):Int)=(i:Int)+1:=by lia
  rw [q]; simpa [rawInt] using e1
 have hT1:Shared.TypeIs { s with heap:=h1 } (.ref it) "dict_itemiterator":=⟨_,e1',rfl⟩
 refine O6 (Qw ?_)
 refine O6 (Vk hT1 (O6 (Vk hT1 ?_)))
 show wpAny _ _ (U3 (.ref it) 6 e.key e.val) _ _ { s with heap:=h1 }
 have z1:h1.objs.size=s.heap.objs.size:=s1.1
 refine BB (s:={ s with heap:=h1 }) rfl e1' hxx λh2 g2 t2 z2 k2=>?_
 rw [z1] at t2 z2 |-
 exact O8 ⟨_,rfl,O8 (hQ h2 g2 t2 z2 λc o hc q=>k2 c o hc (s1.extBut c o hc q))⟩
theorem next_end (hh:A.handled=none) (hit:BA s.heap it d i es.size ep) (hod:s.heap.get? d=some od) (hdd:od.data=.dict es ep) (hx:es.size<=i)
 (hQ:∀ h',RQ it s.heap h'->Q none { s with heap:=h' }):wpAny (model prog w) A (pyNext (.ref it)) Q E s:=by
 have hT:=hit.Jk
 obtain ⟨x,f,k,v,hat,hxx⟩:=hit
 unfold pyNext
 refine O6 (Sg (RB (name:=O5 "__next__") hT Ss (Q3 Ss hT V8 ?_ (V6 _))))
 refine O6 (O8 (O6 (O6 ?_)))
 first | refine O6 (T8 hT (O8 ?_)) | refine O6 (T9 hT (O8 ?_))
 refine O6 (wpAny_fieldsOf hat rfl ?_)
 simp only [pV,if_true]
 show wpAny _ _ (if (Px d == QK)=true then _ else _) _ _ _
 rw [if_neg (show ¬ (Px d == QK)=true from Pp)]
 refine O6 (O8 (O6 (VO hod hdd ?_)))
 rw [if_neg 'p']
 refine O6 (O8 (O6 (wpAny_dictEpoch hod hdd ?_)))
 rw [if_neg 'p']
 refine O8 ?_
 simp only [show ¬ ((i:Int)<0) from by lia,if_false,Qc,Vq hx]
 refine O6 ?_
 first | refine O6 (T8 hT (O8 ?_)) | refine O6 (T9 hT (O8 ?_))
 show wpAny _ _ (setField (.ref it) 2 .none >>= _) _ _ s
 refine O6 (wpAny_setField hat rfl 'p' (O6 ?_))
 simp only [newExc,newTuple]
 refine O6 (QG ?_ (by size_fits))
 refine O6 (m:=firstArgMember _ _) (wpAny_of_eq (a:=QK) (by first | rfl | (simp only [firstArgMember]; rfl)) ?_)
 refine QG ?_ (by size_fits)
 simp only [raiseNew]
 refine O6 (wpAny_handled ?_)
 rw [show A.in1.handled=none from hh]
 refine O6 (O8 (wpAny_throw ?_))
 refine O6 (Uz (T:="StopIteration") (b:=true) ⟨_,Pq _ rfl,rfl⟩ isSubtype_stop ?_)
 exact O8 (hQ _ (((VF ..).extBut.push _).push _))
theorem ES (hit:BA s.heap it d i n ep) (h:∀ h',BA h' it d i n ep->QW it s.heap h'->Q () { s with heap:=h' }):wpAny (model prog w) A (letOwnedTupleGo tg (.ref it) (.ref a)) Q E s:=by
 have stay:Q () s:=h s.heap hit (.refl ..)
 obtain ⟨x,f,k,v,hat,hxx⟩:=hit
 have part:wpAny (model prog w) A (do
  let o <- load it
  match o.cls,o.data with
  | .type n,.fields vs =>
   if (["enumerate","zip","dict_itemiterator","dict_reverseitemiterator","odict_iterator","itertools.zip_longest","itertools.pairwise"].contains n && vs[0]? == some (rawInt a))=true then do
    rule "for.unpacks-the-owned-tuple"
    updateField it 0 .none
   else pure ()
  | _,_=>pure ()) Q E s:=by
  refine O6 (wpAny_load hat ?_)
  dsimp only
  split
  ·refine O6 (Qy ?_)
   show wpAny _ _ (setField (.ref it) 0 .none) Q E s
   exact QL hat 'p' λh' e' s'=>h h' ⟨_,_,_,_,e',.inl rfl⟩ s'
  ·exact O8 stay
 unfold letOwnedTupleGo
 cases tg <;> first
  | exact O8 stay
  | exact part
end
noncomputable def cH:HO->List (V×V)
 | .dK ys=>ys.map λy=>(kV y.1,y.2)
 | .dT ys=>ys.map λy=>(.ref y.2.1,y.2.2)
 | _=>[]
theorem wB (h:kM k v=true):RelV (kV k) v:=by
 rcases bN h with ⟨i,t,rfl,rfl⟩ | ⟨x,t,rfl,rfl⟩
 ·exact ⟨t,rfl⟩
 ·exact ⟨t,rfl⟩
theorem di (ok:bf P w H h d u) (hd:HO.dct u) (ho:h.get? d=some o) :
 o.ExactDict/\∃ es ep,o.data=.dict es ep/\Paired (λ(a:V×V) (e:DictEntry)=>RelV a.1 e.key/\RelV a.2 e.val) (cH u) es.toList/\(d == sysModules)=false/\(cH u).length<=sizeLine:=by
 cases u with
 | dK ys =>
  obtain ⟨z,y,vs,kv,o',es,ep,h1,h2,h3,h4,h5,h6⟩:=ok
  rw [ho] at h1; cases h1
  refine ⟨h2,es,ep,h3,?_,y,by simpa [cH] using z⟩
  show Paired _ (ys.map _) _
  clear h3 h4 h6 z
  generalize es.toList=l at h5 |-
  unfold KV at kv
  induction kv generalizing l with
  | nil=>cases h5; exact .nil
  | @cons a b as bs q t ih =>
   cases h5 with
   | cons r t' t''=>exact .cons ⟨by show L2.RelV (kV a.1) _; rw [q.1]; exact wB r,by rw [t']; exact q.2⟩ (ih hd _ t'')
 | dT ys =>
  obtain ⟨z,y,xs,kv,o',es,ep,h1,h2,h3,h4,h5⟩:=ok
  rw [ho] at h1; cases h1
  refine ⟨h2,es,ep,h3,?_,y,by simpa [cH] using z⟩
  rw [h4]
  show Paired _ (ys.map _) _
  clear h3 h4 h5 z
  induction kv with
  | nil=>exact .nil
  | @cons a b as bs q t ih =>
   rw [Pn,Pn]
   refine .cons ⟨?_,q.2.2⟩ (ih hd)
   show Px b.2.1=Px a.2.1
   rw [q.2.1]
 | _=>exact hd.elim
theorem dY:∀ {l:List α} {m:List β} {i:Nat} {a:α},Paired F l m->l[i]?=some a->∃ b,m[i]?=some b/\F a b
 | _,_,_,_,.nil,e=>by simp at e
 | _,_,0,_,.cons r _,e=>by simp at e; subst e; exact ⟨_,rfl,r⟩
 | _,_,i+1,a,.cons _ t,e=>by
  obtain ⟨b,h1,h2⟩:=dY (i:=i) t (by simpa using e)
  exact ⟨b,by simpa using h1,h2⟩
noncomputable def Na (d:Addr) (o:Obj) (u:HO):It :=
 ⟨λi H=>H d=some (.frz o u)/\i<(cH u).length,λi H x H'=>∃ p kv,(cH u)[i]?=some kv/\x=.ref p/\H p=none/\H'=upd H p (.tup [kv.1,kv.2]),λi H=>H d=some (.frz o u)/\(cH u).length<=i⟩
theorem yK:entryFor table "dict_itemiterator.__iter__"=some Builtin.«dict_keyiterator.__iter__» :=entryFor_alias (id':="dict_keyiterator.__iter__") (by kernel_rfl) rfl (by decide +kernel) (by kernel_rfl)
theorem lO {P:Program} {w:World} {K:O7} {tg:Expr} {d it:Addr} {o:Obj} {u:HO} {es:Array DictEntry} {ep:Nat} (hd:HO.dct u) (hod:o.data=.dict es ep) (hne:it≠d) (hes:es.size=(cH u).length) :
 Turn P w K tg (Na d o u) [it] it (λi h=>BA h it d i es.size ep) where
 mem:=by simp
 obj:=λi h st b hb=>by
  have e:b=it:=by simpa using hb
  subst e
  obtain ⟨x,f,k,v,e,_⟩:=st
  exact ⟨_,e,λv z=>by
   have z':TY _=So v:=z
   cases z'⟩
 keep:=λi h h' st k=>by
  obtain ⟨x,f,kk,v,e,hx⟩:=st
  exact ⟨x,f,kk,v,k it 'p' _ e,hx⟩
 item:=by
  intro X hP hw hK hc i aa s Z H E I hf st hg
  subst hP hw hK
  obtain ⟨hH,hi⟩:=hg
  obtain ⟨f0,f1,f2,f3,f4,f5⟩:=hf it 'p'
  obtain ⟨ho,ok⟩:=(show bf X.prog X.w H s.heap d (.frz o u) from I.hok d _ hH)
  obtain ⟨_,es',ep',e1,e2,_⟩:=di ok hd ho
  rw [hod] at e1; cases e1
  obtain ⟨e,he,re⟩:=dY e2 (PX hi)
  have he':es[i]?=some e:=by simpa using he
  refine next_item st ho hod he' λh1 g1 t1 z1 k1=>?_
  have hil:it<s.heap.objs.size:=by
   obtain ⟨_,_,_,_,q,_⟩:=st
   exact Pf q
  have Hp:H s.heap.objs.size=none:=I.hok.fresh (O9 _)
  have hit0:it≠s.heap.objs.size:=PJ hil
  generalize hkv:(cH u)[i]=kv at re
  have IA:Inv X aa Z (upd H s.heap.objs.size (.tup [kv.1,kv.2])) { s with heap:=s.heap.push { cls:=.type "tuple",data:=.seq #[e.key,e.val] },toks:=s.toks } :=
   I.laid (a:=s.heap.objs.size) (o:=.tup [kv.1,kv.2]) (λ_ _ q=>Pe _ q) (O9 _) ⟨by show 2<=sizeLine; decide,[e.key,e.val],.cons re.1 (.cons re.2 .nil),_,Pq _ rfl,rfl,0,rfl⟩
  have g0:upd H s.heap.objs.size (.tup [kv.1,kv.2]) it=none:=by rw [ai hit0]; exact f0
  have I1:Inv X aa Z (upd H s.heap.objs.size (.tup [kv.1,kv.2])) { s with heap:=h1,toks:=s.toks }:=IA.turned (λb o hb q=>by
   by_cases z:b=s.heap.objs.size
   ·subst z
    rw [Pq _ rfl] at q; cases q; exact t1
   ·have lt:b<s.heap.objs.size:=by
     have:=Pf q
     rw [Q7] at this
     exact Nat.lt_of_le_of_ne (Nat.le_of_lt_succ this) z
    refine k1 b o hb ?_
    rw [VT _ _ _ z] at q; exact q) g0 f1 f3 f4 f5
  refine ⟨_,rfl,ES (s:={ s with heap:=h1 }) g1 λh2 g2 s2=>?_⟩
  refine ⟨.ref s.heap.objs.size,_,I1.turned (t':=s.toks) (λb o hb q=>(s2.2 b hb).trans q) g0 f1 f3 f4 f5,rfl,⟨_,kv,by rw [PX hi,hkv],rfl,Hp,rfl⟩,g2,λb hb=>?_⟩
  have e:b=it:=by simpa using hb
  rw [e]; exact g0
 done:=by
  intro X hP hw hK hc i aa s Z H E I hf st hg
  subst hP hw hK
  obtain ⟨hH,hi⟩:=hg
  obtain ⟨f0,f1,f2,f3,f4,f5⟩:=hf it 'p'
  obtain ⟨ho,ok⟩:=(show bf X.prog X.w H s.heap d (.frz o u) from I.hok d _ hH)
  exact next_end (I.ok.hd hc) st ho hod 'l' λh' eb=>⟨rfl,I.turned (t':=s.toks) (λb o hb e=>eb b o hb e) f0 f1 f3 f4 f5⟩
 self:=by
  intro A i s Q E st h
  have hT:=st.Jk
  refine wpAny_pyIter_slot hT Wa (Q3 Wa hT yK ?_ (F.args_dict_itemiterator_iter_1 _))
  show wpAny _ _ (ret (.ref it)) _ _ s
  exact O8 ⟨_,rfl,"dict_itemiterator",_,hT,Ss.lookup,h⟩
theorem jW (d) (hd:(d == sysModules)=false) :
 MeetsIn prog w (Builtin.«dict.items» ⟨[.ref d],[]⟩) (λ_ R s=>s.TypeIs (.ref d) "dict"/\R (.ok (.ret (.ref s.heap.objs.size))) { s with heap:=s.heap.push { cls:=.type "dict_items",data:=.fields #[.ref d] } }) :=
 .of_wp λA R s ⟨hT,h⟩=>by
  unfold Builtin.«dict.items»
  refine O6 ?_
  unfold Builtin.Dict.noArgs
  refine O6 (wpAny_notOrdered_dict hT (show wpAny _ _ (pure d) _ _ s from O8 ?_))
  show wpAny _ _ (Builtin.Dict.showsAll d >>= _) _ _ s
  unfold Builtin.Dict.showsAll
  rw [if_neg (by rw [hd]; exact Pp)]
  exact O6 (O8 (O6 (QG (O8 ⟨_,rfl,h⟩))))
theorem nT (hv:s.heap.IsItemsView v d) (hod:s.heap.get? d=some od) (hdd:od.data=.dict es ep)
 (hQ:Q (.ref s.heap.objs.size) { s with heap:=s.heap.push { cls:=.type "dict_itemiterator",data:=.fields #[.none,.bool false,.ref d,.int 0 0,.int es.size 0,.int ep 0,.none,.none] } }) :
 wpAny (model prog w) A (pyIter (.ref v)) Q E s:=by
 obtain ⟨ov,hov,hcv,hdv⟩:=id hv
 refine wpAny_pyIter_slot hv.typeIs F.slot_dict_items_iter (Q3 F.slot_dict_items_iter hv.typeIs F.entry_dict_items_iter ?_ (F.args_dict_items_iter_1 _))
 unfold Builtin.«dict_items.__iter__»
 refine O6 (O8 (O6 ?_))
 unfold Builtin.Dict_items.dictOf
 refine O6 (Qs hov hdv (x:=.ref d) rfl (O8 (O6 ?_)))
 unfold Builtin.Dict_items.newIterator
 refine O6 (VO hod hdd (O6 (wpAny_dictEpoch hod hdd ?_)))
 simp only [pV,if_true]
 refine QG (O8 ⟨_,rfl,"dict_itemiterator",_,⟨_,Pq _ rfl,rfl⟩,Ss.lookup,?_⟩)
  (by simp only [sizeOk,V5,PN,PY,P4,Q5,RO]; lia)
 simpa [rawInt,V5] using hQ
noncomputable def rQ:Key->D | .inl i=>.int i | .inr x=>.str x
noncomputable def D.pairs:D->Option (List D)
 | .fdK ks ds=>some (TQ (λk d=>D.tup [rQ k,d]) ks ds)
 | .fdT ks ds=>some (TQ (λk d=>D.tup [.tup (k.map rQ),d]) ks ds)
 | _=>none
noncomputable def Jl (te:TE):TI:=λZ H R=>te Z H λx H1=>∃ d o u,x=.ref d/\H1 d=some (.frz o u)/\HO.dct u/\∀ v,H1 v=none->R (Na d o u) (upd H1 v (.ext λh=>h.IsItemsView v d))
theorem BC (he:PE X e te) (hbase:attributeBase e "items" X.env (eval e X.env)=eval e X.env) (hline:(ap.endLine == cp.line)=true):PI X tg (.Call (.Attribute e "items" ap) [] [] cp) (Jl te):=by
 intro aa s Z H R I h
 refine VP (T:="dict") (id:="dict.items") hbase rfl hline F.plainAttrs_dict Uy F.type_dict_items (bL (he aa s Z H _ I h) λv s1 hh=>z2 hh λx H1 hh=>w3 hh λI1 r1 hh=>z3 hh λd o u hh=>w4 hh λex hH hd q=>?_)
 subst ex
 cases r1
 obtain ⟨ho,ok⟩:=(show bf X.prog X.w H1 s1.heap d (.frz o u) from I1.hok d _ hH)
 obtain ⟨hx,es,ep,hod,hp,hs,hz⟩:=di ok hd ho
 have hT:s1.TypeIs (.ref d) "dict":=⟨o,ho,hx.1⟩
 refine ⟨hT,λb z=>by cases z; exact ⟨o,ho,hx.2.1⟩,?_⟩
 show wpAny _ _ (callWith cp (.builtin "dict.items") [.ref d] [] []) _ _ s1
 refine method_meetsIn Uy F.entry_dict_items rfl (VB ⟨rfl,hT,F.args_dict_items_1 _,_,jW d hs,hT,?_⟩)
 have Hv:H1 s1.heap.objs.size=none:=I1.hok.fresh (O9 _)
 have hve:(s1.heap.push { cls:=.type "dict_items",data:=.fields #[.ref d] }).IsItemsView s1.heap.objs.size d:=⟨_,Pq _ rfl,rfl,rfl⟩
 have I2:Inv X aa Z (upd H1 s1.heap.objs.size (.ext λh=>h.IsItemsView s1.heap.objs.size d)) { s1 with heap:=s1.heap.push { cls:=.type "dict_items",data:=.fields #[.ref d] },toks:=s1.toks } :=
  I1.laid (a:=s1.heap.objs.size) (λ_ _ q=>Pe _ q) (O9 _) ⟨hve,⟨_,Pq _ rfl⟩,λh1 h2 ⟨o,e,r⟩ k=>⟨o,k o e,r⟩⟩
 refine nT hve (Pe _ ho) hod ?_
 have hsz:es.size=(cH u).length:=by rw [QD hp]; simp
 have I3:=I2.kept (t':=s1.toks) (h':=(s1.heap.push { cls:=.type "dict_items",data:=.fields #[.ref d] }).push { cls:=.type "dict_itemiterator",data:=.fields #[.none,.bool false,.ref d,.int 0 0,.int es.size 0,.int ep 0,.none,.none] }) λb o e=>Pe _ e
 refine ⟨_,[_],_,_,_,rfl,I3,lO (o:=o) (u:=u) (es:=es) (ep:=ep) hd hod (λz=>?_) hsz,⟨.none,false,.none,.none,Pq _ rfl,.inl rfl⟩,λb hb=>?_,q _ Hv⟩
 ·have lt:=Pf (Pe ({ cls:=.type "dict_items",data:=.fields #[.ref d] }:Obj) ho)
  rw [z] at lt
  exact absurd lt (QJ _)
 ·have e:b=(s1.heap.push { cls:=.type "dict_items",data:=.fields #[.ref d] }).objs.size:=by simpa using hb
  subst e
  exact I2.jr (O9 _) (I2.hok.fresh (O9 _))
section
variable {K:O7} {Hf:Hp}
theorem rR:Rep K Hf (rQ k) (kV k):=by
 cases k with
 | inl i=>exact au.mpr rfl
 | inr x=>exact c8.mpr rfl
theorem nU:∀ {ks:List Key},ak K Hf (ks.map rQ) (ks.map kV)
 | []=>aA.mpr rfl
 | k::ks=>.cons rR nU
def lP (K:O7) (Hf:Hp) (d:D) (kv:V×V):Prop:=∃ k e,d=.tup [k,e]/\Rep K Hf k kv.1/\Rep K Hf e kv.2
theorem wC:∀ {ys:List (Key×V)} {vs:List D},ak K Hf vs (ys.map (·.2))->Paired (lP K Hf) (TQ (λk d=>D.tup [rQ k,d]) (ys.map (·.1)) vs) (ys.map λy=>(kV y.1,y.2))
 | [],vs,h=>by
  cases vs with
  | nil=>exact .nil
  | cons d ds=>obtain ⟨x,r,e,_⟩:=aF.mp h; cases e
 | y::ys,vs,h=>by
  cases vs with
  | nil=>rw [aA] at h; cases h
  | cons d ds =>
   obtain ⟨x,r,e,h1,h2⟩:=aF.mp h
   cases e
   exact .cons ⟨_,_,rfl,rR,h1⟩ (wC h2)
theorem wD:∀ {ys:List (List Key×Addr×V)} {vs:List D},(∀ y∈ys,c9 K Hf y.2.1 (y.1.map kV))->ak K Hf vs (ys.map (·.2.2))->Paired (lP K Hf) (TQ (λk d=>D.tup [.tup (k.map rQ),d]) (ys.map (·.1)) vs) (ys.map λy=>(.ref y.2.1,y.2.2))
 | [],vs,_,h=>by
  cases vs with
  | nil=>exact .nil
  | cons d ds=>obtain ⟨x,r,e,_⟩:=aF.mp h; cases e
 | y::ys,vs,hk,h=>by
  cases vs with
  | nil=>rw [aA] at h; cases h
  | cons d ds =>
   obtain ⟨x,r,e,h1,h2⟩:=aF.mp h
   cases e
   exact .cons ⟨_,_,rfl,aI.mpr ⟨_,_,rfl,hk y Pd,nU⟩,h1⟩ (wD (λz hz=>hk z (Ph _ hz)) h2)
theorem nV (hp:d.pairs=some ds) (h:Rep K Hf d v):∃ a o u,v=.ref a/\Hf a=some (.frz o u)/\HO.dct u/\Paired (lP K Hf) ds (cH u):=by
 cases d with
 | fdK ks vs =>
  cases hp
  obtain ⟨a,ys,o,rfl,h1,h2,h3⟩:=fO.mp h
  subst h2
  exact ⟨a,o,_,rfl,h1,trivial,wC h3⟩
 | fdT ks vs =>
  cases hp
  obtain ⟨a,ys,o,rfl,h1,h2,h3,h4⟩:=kh.mp h
  subst h2
  exact ⟨a,o,_,rfl,h1,trivial,wD h3 h4⟩
 | _=>cases hp
theorem lQ {ds:List D} {a:Addr} {o:Obj} {u:HO} (h:Hf a=some (.frz o u)) (hp:Paired (lP K Hf) ds (cH u)):jw K (Na a o u) ds Hf where
 go:=λi d H aP s1 s2 e=>by
  obtain ⟨kv,ekv,k,dd,rfl,r1,r2⟩:=dY hp e
  refine ⟨⟨s2 _ _ (s1 _ _ h),(Po.mp ekv).1⟩,λx H' ⟨p,kv',e1,e2,e3,e4⟩=>?_⟩
  rw [ekv] at e1; cases e1
  subst e2 e4
  have g:=bz.new s2 e3 (o:=.tup [kv.1,kv.2])
  exact ⟨upd aP p (.tup [kv.1,kv.2]),g,aI.mpr ⟨p,_,rfl,.inl (.inl ah),.cons (Rep.mono (s1.trans g.f) _ r1) (.cons (Rep.mono (s1.trans g.f) _ r2) (aA.mpr rfl))⟩⟩
 stop:=λi H aP s1 s2 e=>⟨s2 _ _ (s1 _ _ h),by rw [<- QD hp]; exact e⟩
end
section
variable {K:O7}
theorem ET (h:aB c e Y λd=>∃ ds,d.pairs=some ds/\R ds)
 (hb:∀ env,attributeBase e "items" env (eval e env)=eval e env:=by symm) (hl:(ap.endLine == cp.line)=true:=by rfl') :
 zU c tg (.Call (.Attribute e "items" ap) [] [] cp) Y R:=λZ H Hf Q S q aa s I =>
 BC (cI (X:=c.X)) (hb _) hl aa s Z H Q I (h Z H Hf _ S λd v H1 aP ⟨ds,hp,hR⟩ rv g=>by
  obtain ⟨a,o,u,e1,e2,e3,e4⟩:=nV hp rv
  refine ⟨a,o,u,e1,g.b _ _ e2,e3,λvw hv=>?_⟩
  exact q ds _ _ aP hR (g.trans (bz.f7 g.b hv)) (lQ e2 e4))
theorem Jm {x:D} {Q:List D->Prop} (e:x.pairs=some ds) (h:Q ds):∃ ys,x.pairs=some ys/\Q ys:=⟨ds,e,h⟩
end
end EV
namespace SR
open PySem PyProof.Rows
noncomputable def cQ:Bool->Keyed->Array Keyed->Nat->Nat->Nat->StateT SortSt Sem (Option Nat):=sortPriv% PySem.Builtin.gallop
noncomputable def cJ:Nat->StateT SortSt Sem Unit:=sortPriv% PySem.Builtin.setMinGallop
noncomputable def dH (left:Bool) (key:Keyed) (arr:Array Keyed) (base i:Nat):StateT SortSt Sem (Option Bool):=do
 let x <- elem' arr (base+i)
 if left then lt' x key else return (<- lt' key x).map (!·)
noncomputable abbrev rT:=Option (Option Nat)×Nat×Nat
noncomputable def lR (bey:Nat->StateT SortSt Sem (Option Bool)) (n lo hi:Nat):StateT SortSt Sem (Option Nat):=do
 let __s <- forIn [0:n] ((none,lo,hi):rT) λ_ __s =>
  if __s.snd.fst>=__s.snd.snd then pure (QN (none,__s.snd.fst,__s.snd.snd))
  else do
   let __x <- bey (__s.snd.fst+(__s.snd.snd - __s.snd.fst) / 2)
   match __x with
   | some more=>if more=true then pure (Qi (none,__s.snd.fst+(__s.snd.snd - __s.snd.fst) / 2+1,__s.snd.snd)) else pure (Qi (none,__s.snd.fst,__s.snd.fst+(__s.snd.snd - __s.snd.fst) / 2))
   | _=>pure (QN (some none,__s.snd.fst,__s.snd.snd))
 match __s.fst with
 | some r=>pure r
 | none=>pure (some __s.snd.snd)
noncomputable def BD (bey:Nat->StateT SortSt Sem (Option Bool)) (n hint maxofs:Nat):StateT SortSt Sem rT :=
 forIn [0:n] ((none,0,1):rT) λ_ __s =>
  if __s.snd.snd>=maxofs then pure (QN (none,__s.snd.fst,__s.snd.snd))
  else do
   let __x <- bey (hint+__s.snd.snd)
   match __x with
   | some more=>if (!more)=true then pure (QN (none,__s.snd.fst,__s.snd.snd)) else pure (Qi (none,__s.snd.snd,2 * __s.snd.snd+1))
   | _=>pure (QN (some none,__s.snd.fst,__s.snd.snd))
noncomputable def BE (bey:Nat->StateT SortSt Sem (Option Bool)) (n hint maxofs:Nat):StateT SortSt Sem rT :=
 forIn [0:n] ((none,0,1):rT) λ_ __s =>
  if __s.snd.snd>=maxofs then pure (QN (none,__s.snd.fst,__s.snd.snd))
  else do
   let __x <- bey (hint - __s.snd.snd)
   match __x with
   | some found=>if found=true then pure (QN (none,__s.snd.fst,__s.snd.snd)) else pure (Qi (none,__s.snd.snd,2 * __s.snd.snd+1))
   | _=>pure (QN (some none,__s.snd.fst,__s.snd.snd))
local macro_rules | `(tactic| walk_at "dl gallop")=>do
 let i:=Sj (R0 `PySem.Builtin.List.W1All `PySem.Builtin.gallop)
 `(tactic| delta $i)
theorem uI (left) (key) (arr) (base n hint):cQ left key arr base n hint=(do
 let __x <- dH left key arr base hint
 match __x with
 | some right =>
  if right=true then do
   let __s <- BD (dH left key arr base) n hint (n - hint)
   match __s.fst with
   | some r=>pure r
   | none=>lR (dH left key arr base) n (hint+__s.snd.fst+1) (hint+min __s.snd.snd (n - hint))
  else do
   let __s <- BE (dH left key arr base) n hint (hint+1)
   match __s.fst with
   | some r=>pure r
   | none=>lR (dH left key arr base) n (hint+1 - min __s.snd.snd (hint+1)) (hint - __s.snd.fst)
 | _=>pure none):=by
 unfold cQ
 walk_at "dl gallop"
 unfold BD BE lR dH
 dsimp only
 congr 1
 funext x
 cases x with
 | none=>rfl
 | some right =>
  dsimp only
  cases right with
  | true =>
   rw [if_pos rfl,if_pos rfl]
   congr 1
   funext c
   obtain ⟨r,l,o⟩:=c
   cases r with
   | some r=>rfl
   | none =>
    dsimp only
    congr 1
    funext c
    obtain ⟨r,l,o⟩:=c
    cases r <;> rfl
  | false =>
   rw [if_neg Pp,if_neg Pp]
   congr 1
   funext c
   obtain ⟨r,l,o⟩:=c
   cases r with
   | some r=>rfl
   | none =>
    dsimp only
    congr 1
    funext c
    obtain ⟨r,l,o⟩:=c
    cases r <;> rfl
def iX (prog:Program) (w:World) (A:Around) (s:Shared) (U:SortKind) (rk:Keyed->Int) (L:List Keyed):Prop :=
 ∀ x∈L,∀ y∈L,∀ (E:Value->Shared->Prop) (Q:Bool->Shared->Prop),Q (decide (rk x<rk y)) s->wpAny (model prog w) A (keyLt' U x.1 y.1) Q E s
noncomputable def R (rk:Keyed->Int) (xs:Array Keyed) (i:Nat):Int:=match xs[i]? with | some p=>rk p | none=>0
theorem dI (h:xs[i]?=some p):R rk xs i=rk p:=by unfold R; rw [h]
theorem cz (h:xs[i]?=ys[j]?):R rk xs i=R rk ys j:=by unfold R; rw [h]
theorem lS {st:SortSt} (hC:iX prog w A s U rk L) (hk:kindOf st=U) (hx:x∈L) (hy:y∈L) (h:Q (some (decide (rk x<rk y))) st):wpS (model prog w) A E s (lt' x y) Q st:=by
 rw [lt'_eq]
 refine Pa (QS ?_)
 rw [hk]
 refine Pa (RV (Sg (hC x hx y hy _ _ ⟨rfl,?_⟩)))
 exact Pb h
theorem aV {st:SortSt} (hi:arr[i]?=some p) (h:Q p st):wpS (model prog w) A E s (elem' arr i) Q st:=by
 rw [elem'_eq,hi]; exact Pb h
theorem yL {st:SortSt} (hC:iX prog w A s U rk L) (hk:kindOf st=U) (hi:(arrOf st)[i]?=some p) (hj:(arrOf st)[j]?=some q) (hp:p∈L) (hq:q∈L)
 (h:Q (some (decide (R rk (arrOf st) i<R rk (arrOf st) j))) st):wpS (model prog w) A E s (ltAt' i j) Q st:=by
 rw [ltAt'_eq]
 refine Pa (QS ?_)
 show wpS _ _ _ _ (do let x <- elem' (arrOf st) i; let y <- elem' (arrOf st) j; lt' x y) Q st
 refine Pa (aV hi (Pa (aV hj (lS hC hk hp hq ?_))))
 rw [dI hi,dI hj] at h
 exact h
theorem uJ {st:SortSt} (hC:iX prog w A s U rk L) (hk:kindOf st=U) (hkey:key∈L) (hi:arr[base+i]?=some p) (hp:p∈L)
 (hb:(if left=true then rk p<rk key else rk p<=rk key)↔i<k) (h:Q (some (decide (i<k))) st):wpS (model prog w) A E s (dH left key arr base i) Q st:=by
 unfold dH
 refine Pa (aV hi ?_)
 cases left with
 | true =>
  simp only [if_true] at hb |-
  refine lS hC hk hp hkey ?_
  rw [decide_eq_decide.mpr hb]; exact h
 | false =>
  simp only [Qp,if_false] at hb |-
  refine Pa (lS hC hk hkey hp (Pb ?_))
  have e:(!decide (rk key<rk p))=decide (i<k):=by
   rw [<- decide_not]; exact decide_eq_decide.mpr (by rw [<- hb]; omega)
  rw [Option.map_some,e]; exact h
theorem lT {st:SortSt} {n lo hi k:Nat} (hb:∀ i,i<n->∀ (Q:Option Bool->SortSt->Prop),Q (some (decide (i<k))) st->wpS (model prog w) A E s (bey i) Q st)
 (h1:lo<=k) (h2:k<=hi) (h3:hi<=n) (h:Q (some k) st):wpS (model prog w) A E s (lR bey n lo hi) Q st:=by
 unfold lR
 refine Pa (P8 (Qx (I:=λx c st'=>st'=st/\∃ l r,c=(none,l,r)/\l<=k/\k<=r/\r<=n/\r - l<=n - x) (Q:=λc st'=>st'=st/\∃ l,c=(none,l,k)) ?step ?fin ⟨rfl,lo,hi,rfl,h1,h2,h3,by omega⟩) ?post)
 case fin =>
  rintro c st' ⟨rfl,l,r,rfl,a1,a2,a3,a4⟩
  have:r=k:=by omega
  subst this
  exact ⟨rfl,l,rfl⟩
 case step =>
  rintro x c st' _ hx ⟨rfl,l,r,rfl,a1,a2,a3,a4⟩
  dsimp only
  by_cases hge:l>=r
  ·rw [if_pos hge]
   have:r=k:=by omega
   subst this
   exact Pb ⟨rfl,l,rfl⟩
  ·rw [if_neg hge]
   refine Pa (hb _ 'o' _ ?_)
   dsimp only
   by_cases hm:l+(r - l) / 2<k
   ·rw [decide_eq_true hm,if_pos rfl]
    exact Pb ⟨rfl,_,_,rfl,by omega,by omega,by omega,by omega⟩
   ·rw [decide_eq_false hm,if_neg Pp]
    exact Pb ⟨rfl,_,_,rfl,by omega,by omega,by omega,by omega⟩
 case post =>
  rintro c st' ⟨rfl,l,rfl⟩
  exact Pb h
theorem fS {st:SortSt} (hC:iX prog w A s U rk L) (hk:kindOf st=U) (hkey:key∈L) (harr:∀ i,i<n->∃ p,arr[base+i]?=some p/\p∈L)
 (hb:∀ i,i<n->((if left=true then R rk arr (base+i)<rk key else R rk arr (base+i)<=rk key)↔i<k)) (hkn:k<=n) (hh:hint<n) (h:Q (some k) st):wpS (model prog w) A E s (cQ left key arr base n hint) Q st:=by
 have bey:∀ i,i<n->∀ (Q:Option Bool->SortSt->Prop),Q (some (decide (i<k))) st->wpS (model prog w) A E s (dH left key arr base i) Q st:=λi hi Q hQ=>by
  obtain ⟨p,e,hp⟩:=harr i hi
  refine uJ hC hk hkey e hp ?_ hQ
  have:=hb i hi
  rw [dI e] at this
  exact this
 rw [uI]
 refine Pa (bey hint hh _ ?_)
 dsimp only
 by_cases hr:hint<k
 ·rw [decide_eq_true hr,if_pos rfl]
  unfold BD
  refine Pa (P8 (Qx (I:=λx c st'=>st'=st/\∃ l o,c=(none,l,o)/\hint+l<k/\x<o) (Q:=λc st'=>st'=st/\∃ l o,c=(none,l,o)/\hint+l<k/\(k<=hint+o\/n - hint<=o)) ?step ?fin ⟨rfl,0,1,rfl,hr,by omega⟩) ?post)
  case fin =>
   rintro c st' ⟨rfl,l,o,rfl,a1,a2⟩
   exact ⟨rfl,l,o,rfl,a1,.inr 'o'⟩
  case step =>
   rintro x c st' _ hx ⟨rfl,l,o,rfl,a1,a2⟩
   dsimp only
   by_cases hge:o>=n - hint
   ·rw [if_pos hge]; exact Pb ⟨rfl,l,o,rfl,a1,.inr hge⟩
   ·rw [if_neg hge]
    refine Pa (bey _ 'o' _ ?_)
    dsimp only
    by_cases hm:hint+o<k
    ·rw [decide_eq_true hm]; simp only [RK,Qp,if_false]
     exact Pb ⟨rfl,o,2 * o+1,rfl,hm,by omega⟩
    ·rw [decide_eq_false hm]; simp only [Bool.not_false,if_true]
     exact Pb ⟨rfl,l,o,rfl,a1,.inl 'o'⟩
  case post =>
   rintro c st' ⟨rfl,l,o,rfl,a1,a2⟩
   dsimp only
   exact lT bey 'o' 'o' 'o' h
 ·rw [decide_eq_false hr,if_neg Pp]
  unfold BE
  refine Pa (P8 (Qx (I:=λx c st'=>st'=st/\∃ l o,c=(none,l,o)/\l<=hint/\k<=hint - l/\x<o) (Q:=λc st'=>st'=st/\∃ l o,c=(none,l,o)/\l<=hint/\k<=hint - l/\(hint+1<=k+o\/hint+1<=o)) ?step ?fin ⟨rfl,0,1,rfl,by omega,by omega,by omega⟩) ?post)
  case fin =>
   rintro c st' ⟨rfl,l,o,rfl,a1,a2,a3⟩
   exact ⟨rfl,l,o,rfl,a1,a2,.inr 'o'⟩
  case step =>
   rintro x c st' _ hx ⟨rfl,l,o,rfl,a1,a2,a3⟩
   dsimp only
   by_cases hge:o>=hint+1
   ·rw [if_pos hge]; exact Pb ⟨rfl,l,o,rfl,a1,a2,.inr hge⟩
   ·rw [if_neg hge]
    refine Pa (bey _ 'o' _ ?_)
    dsimp only
    by_cases hm:hint - o<k
    ·rw [decide_eq_true hm,if_pos rfl]
     exact Pb ⟨rfl,l,o,rfl,a1,a2,.inl 'o'⟩
    ·rw [decide_eq_false hm,if_neg Pp]
     exact Pb ⟨rfl,o,2 * o+1,rfl,by omega,by omega,by omega⟩
  case post =>
   rintro c st' ⟨rfl,l,o,rfl,a1,a2,a3⟩
   dsimp only
   exact lT bey 'o' 'o' 'o' h
noncomputable def lU:Array Keyed->Array Keyed->StateT SortSt Sem (Array Keyed):=sortPriv% PySem.Builtin.mergeLo
theorem fT {st:SortSt} (h:Q () (T4 (kindOf st) (arrOf st) (pendingOf st) g (failedOf st))):wpS M A E s (cJ g) Q st :=
 Ra (f:=λst=>T4 (kindOf st) (arrOf st) (pendingOf st) g (failedOf st)) h
section
variable {rk:Keyed->Int} {a b:Array Keyed}
def BF (rk:Keyed->Int) (xs:List Keyed):Prop:=xs.Pairwise λp q=>rk p<=rk q
theorem wF (h:xs.length<=1):BF rk xs:=by
 cases xs with
 | nil=>exact SN
 | cons x xs =>
  cases xs with
  | nil=>exact RY _ _
  | cons y ys=>simp at h
def Res (rk:Keyed->Int) (a b r:Array Keyed):Prop:=r.toList.Perm (a.toList++b.toList)/\BF rk r.toList
structure WL (rk:Keyed->Int) (a b:Array Keyed) (out:Array Keyed) (ia ib:Nat):Prop where
 pa:ia<=a.size
 pb:ib<=b.size
 pm:out.toList.Perm (a.toList.take ia++b.toList.take ib)
 sr:BF rk out.toList
 ha:∀ p∈out.toList,∀ (j:Nat) (q:Keyed),ia<=j->a[j]?=some q->rk p<=rk q
 hb:∀ p∈out.toList,∀ (j:Nat) (q:Keyed),ib<=j->b[j]?=some q->rk p<=rk q
def Up (rk:Keyed->Int) (a:Array Keyed):Prop:=∀ (i j:Nat) (p q:Keyed),i<=j->a[i]?=some p->a[j]?=some q->rk p<=rk q
theorem jy (h:Up rk a):BF rk a.toList:=by
 unfold BF
 rw [U9]
 intro i j hi hj hij
 exact h i j _ _ (Rx hij) (by simp at hi |-) (by simp at hj |-)
theorem Jo (h:BF rk a.toList):Up rk a:=λi j p q hij e1 e2=>by
 rw [<- Qg] at e1 e2
 obtain ⟨h1,r1⟩:=Po.mp e1
 obtain ⟨h2,r2⟩:=Po.mp e2
 subst r1 r2
 rcases Nat.lt_or_eq_of_le hij with z | z
 ·exact (U9.mp h) i j h1 h2 z
 ·subst z; exact Qj _
theorem bY (h1:BF rk xs) (h2:BF rk ys) (h3:∀ p∈xs,∀ q∈ys,rk p<=rk q):BF rk (xs++ys):=SA.mpr ⟨h1,h2,h3⟩
theorem dZ (xs:Array Keyed) (i j):(xs.extract i j).toList=(xs.toList.take j).drop i:=by
 rw [List.drop_take]; simp [List.extract_eq_take_drop]
theorem gK (xs:Array Keyed) (i):(xs.extract i xs.size).toList=xs.toList.drop i:=by
 rw [dZ,RZ 'p']
theorem iY (xs:Array Keyed) (i):(xs.extract i i).toList=[]:=by
 rw [dZ,List.drop_take]; simp
theorem wG {xs:Array Keyed} (h:q∈(xs.extract i j).toList):∃ k,i<=k/\k<j/\xs[k]?=some q:=by
 obtain ⟨n,hn⟩:=SD h
 rw [Qg,Uk] at hn
 split at hn
 ·rename_i z
  exact ⟨i+n,by lia,by lia,hn⟩
 ·cases hn
theorem WL.jz (h:WL rk a b out ia ib) (ua:Up rk a) (e:ib=b.size):Res rk a b (out++a.extract ia a.size++b.extract ib b.size):=by
 subst e
 have e0:(out++a.extract ia a.size++b.extract b.size b.size).toList=out.toList++a.toList.drop ia:=by
  rw [QC,QC,gK,gK,List.drop_of_length_le (show b.toList.length<=b.size by simp),Qv]
 refine ⟨?_,?_⟩
 ·rw [e0]
  have hp:=h.pm
  rw [RZ (show b.toList.length<=b.size by simp)] at hp
  refine (hp.append_right _).trans ?_
  have:(a.toList.take ia++b.toList++a.toList.drop ia).Perm (a.toList.take ia++a.toList.drop ia++b.toList):=by
   rw [PU,PU]
   exact Sz _ R3
  rw [Rp] at this
  exact this
 ·rw [e0]
  refine bY h.sr ((jy ua).sublist (Uw _ _)) λp hp q hq=>?_
  obtain ⟨n,hn⟩:=SD hq
  rw [SJ] at hn
  exact h.ha p hp (ia+n) q 'l' (by rw [<- Qg]; exact hn)
theorem WL.jA (h:WL rk a b out ia ib) (ub:Up rk b) (e:ia=a.size):Res rk a b (out++a.extract ia a.size++b.extract ib b.size):=by
 subst e
 have e0:(out++a.extract a.size a.size++b.extract ib b.size).toList=out.toList++b.toList.drop ib:=by
  rw [QC,QC,gK,gK,List.drop_of_length_le (show a.toList.length<=a.size by simp),Qv]
 refine ⟨?_,?_⟩
 ·rw [e0]
  have hp:=h.pm
  rw [RZ (show a.toList.length<=a.size by simp)] at hp
  refine (hp.append_right _).trans ?_
  rw [PU,Rp]
 ·rw [e0]
  refine bY h.sr ((jy ub).sublist (Uw _ _)) λp hp q hq=>?_
  obtain ⟨n,hn⟩:=SD hq
  rw [SJ] at hn
  exact h.hb p hp (ib+n) q 'l' (by rw [<- Qg]; exact hn)
theorem WL.last (h:WL rk a b out ia ib) (ub:Up rk b) (e:ia+1=a.size) (hl:∀ (j:Nat) (p q:Keyed),a[ia]?=some p->b[j]?=some q->rk q<=rk p) :
 Res rk a b (out++b.extract ib b.size++a.extract ia a.size):=by
 have e0:(out++b.extract ib b.size++a.extract ia a.size).toList=out.toList++(b.toList.drop ib++a.toList.drop ia):=by
  rw [QC,QC,gK,gK,PU]
 refine ⟨?_,?_⟩
 ·rw [e0]
  refine (h.pm.append_right _).trans ?_
  have:(a.toList.take ia++b.toList.take ib++(b.toList.drop ib++a.toList.drop ia)).Perm (a.toList.take ia++a.toList.drop ia++(b.toList.take ib++b.toList.drop ib)):=by
   rw [PU,PU]
   refine Sz _ ?_
   rw [<- PU]
   exact R3
  rw [Rp,Rp] at this
  exact this
 ·rw [e0]
  have ml:∀ q∈b.toList.drop ib,∃ j,ib<=j/\b[j]?=some q:=λq hq=>by
   obtain ⟨n,hn⟩:=SD hq
   rw [SJ] at hn
   exact ⟨ib+n,by lia,by rw [<- Qg]; exact hn⟩
  have ml2:∀ q∈a.toList.drop ia,a[ia]?=some q:=λq hq=>by
   obtain ⟨n,hn⟩:=SD hq
   rw [SJ] at hn
   have:=(Po.mp hn).1
   have hn0:n=0:=by simp at this; lia
   subst hn0
   rw [<- Qg]; exact hn
  refine bY h.sr (bY ((jy ub).sublist (Uw _ _)) ?_ λp hp q hq=>?_) λp hp q hq=>?_
  ·exact wF (by simp; lia)
  ·obtain ⟨j,_,e1⟩:=ml p hp
   exact hl j q p (ml2 q hq) e1
  ·rcases PF.mp hq with z | z
   ·obtain ⟨j,h1,e1⟩:=ml q z
    exact h.hb p hp j q h1 e1
   ·exact h.ha p hp ia q (O9 _) (ml2 q z)
theorem cR {xs:Array Keyed} (h:xs[i]?=some p):xs.toList.take (i+1)=xs.toList.take i++[p]:=by
 rw [Ut,Qg,h]; rfl
theorem WL.gp {out:Array Keyed} {ia ib:Nat} {p:Keyed} (h:WL rk a b out ia ib) (ub:Up rk b) (e:b[ib]?=some p) (hl:∀ (j:Nat) (q:Keyed),ia<=j->a[j]?=some q->rk p<=rk q):WL rk a b (out.push p) ia (ib+1) where
 pa:=h.pa
 pb:=(Sw.mp e).1
 pm:=by
  rw [Qa,cR e,<- PU]
  exact h.pm.append_right _
 sr:=by
  rw [Qa]
  exact bY h.sr (RY _ _) λq hq r hr=>by
   rw [Pk.mp hr]; exact h.hb q hq ib p (O9 _) e
 ha:=λq hq j r hj er=>by
  rw [Qa] at hq
  rcases PF.mp hq with z | z
  ·exact h.ha q z j r hj er
  ·rw [Pk.mp z]; exact hl j r hj er
 hb:=λq hq j r hj er=>by
  rw [Qa] at hq
  rcases PF.mp hq with z | z
  ·exact h.hb q z j r 'l' er
  ·rw [Pk.mp z]; exact ub ib j p r 'l' e er
theorem WL.gq {out:Array Keyed} {ia ib:Nat} {p:Keyed} (h:WL rk a b out ia ib) (ua:Up rk a) (e:a[ia]?=some p) (hl:∀ (j:Nat) (q:Keyed),ib<=j->b[j]?=some q->rk p<=rk q):WL rk a b (out.push p) (ia+1) ib where
 pa:=(Sw.mp e).1
 pb:=h.pb
 pm:=by
  rw [Qa,cR e]
  refine (h.pm.append_right _).trans ?_
  rw [PU,PU]
  exact Sz _ R3
 sr:=by
  rw [Qa]
  exact bY h.sr (RY _ _) λq hq r hr=>by
   rw [Pk.mp hr]; exact h.ha q hq ia p (O9 _) e
 hb:=λq hq j r hj er=>by
  rw [Qa] at hq
  rcases PF.mp hq with z | z
  ·exact h.hb q z j r hj er
  ·rw [Pk.mp z]; exact hl j r hj er
 ha:=λq hq j r hj er=>by
  rw [Qa] at hq
  rcases PF.mp hq with z | z
  ·exact h.ha q z j r 'l' er
  ·rw [Pk.mp z]; exact ua ia j p r 'l' e er
theorem WL.rV (h:WL rk a b out ia ib) (ua:Up rk a):∀ (k:Nat),ia+k<=a.size->(∀ (i j:Nat) (p q:Keyed),ia<=i->i<ia+k->ib<=j->a[i]?=some p->b[j]?=some q->rk p<=rk q)->WL rk a b (out++a.extract ia (ia+k)) (ia+k) ib
 | 0,_,_=>by
  have:out++a.extract ia (ia+0)=out:=by
   apply RT
   rw [QC,Nat.add_zero,iY,Qv]
  rw [this]; exact h
 | k+1,hk,hl=>by
  have ih:=h.rV ua k 'l' λi j p q h1 h2=>hl i j p q h1 'l'
  have e:a[ia+k]?=some (a[ia+k]'(by lia)):=PV _
  have z:=ih.gq ua e λj q hj eq=>hl _ j _ q 'l' 'l' hj e eq
  have:out++a.extract ia (ia+(k+1))=(out++a.extract ia (ia+k)).push (a[ia+k]'(by lia)):=by
   apply RT
   simp only [QC,Qa,dZ]
   rw [show ia+(k+1)=(ia+k)+1 by lia,cR e,V9 (by simp; lia),PU]
  rw [this]; exact z
theorem WL.rX (h:WL rk a b out ia ib) (ub:Up rk b):∀ (k:Nat),ib+k<=b.size->(∀ (i j:Nat) (p q:Keyed),ib<=i->i<ib+k->ia<=j->b[i]?=some p->a[j]?=some q->rk p<=rk q)->WL rk a b (out++b.extract ib (ib+k)) ia (ib+k)
 | 0,_,_=>by
  have:out++b.extract ib (ib+0)=out:=by
   apply RT
   rw [QC,Nat.add_zero,iY,Qv]
  rw [this]; exact h
 | k+1,hk,hl=>by
  have ih:=h.rX ub k 'l' λi j p q h1 h2=>hl i j p q h1 'l'
  have e:b[ib+k]?=some (b[ib+k]'(by lia)):=PV _
  have z:=ih.gp ub e λj q hj eq=>hl _ j _ q 'l' 'l' hj e eq
  have:out++b.extract ib (ib+(k+1))=(out++b.extract ib (ib+k)).push (b[ib+k]'(by lia)):=by
   apply RT
   simp only [QC,Qa,dZ]
   rw [show ib+(k+1)=(ib+k)+1 by lia,cR e,V9 (by simp; lia),PU]
  rw [this]; exact z
end
section
variable {prog:Program} {w:World} {A:Around} {E:Value->Shared->Prop} {s:Shared} {L:List Keyed} {U:SortKind} {rk:Keyed->Int} {a b:Array Keyed}
theorem lV (f:Nat->Int) (c):∀ n,(∀ i j,i<=j->j<n->f i<=f j)->∃ k,k<=n/\∀ i,i<n->(f i<=c↔i<k)
 | 0,_=>⟨0,O9 _,λi hi=>by lia⟩
 | n+1,hm=>by
  obtain ⟨k,h1,h2⟩:=lV f c n λi j hij hj=>hm i j hij 'l'
  by_cases hc:f n<=c
  ·refine ⟨n+1,O9 _,λi hi=>⟨λ_=>hi,λ_=>?_⟩⟩
   exact P1 (hm i n 'l' 'l') hc
  ·refine ⟨k,by lia,λi hi=>?_⟩
   by_cases hin:i<n
   ·exact h2 i hin
   ·have:i=n:=by lia
    subst this
    exact ⟨λz=>absurd z hc,λz=>by lia⟩
theorem lW (f:Nat->Int) (c):∀ n,(∀ i j,i<=j->j<n->f i<=f j)->∃ k,k<=n/\∀ i,i<n->(f i<c↔i<k)
 | 0,_=>⟨0,O9 _,λi hi=>by lia⟩
 | n+1,hm=>by
  obtain ⟨k,h1,h2⟩:=lW f c n λi j hij hj=>hm i j hij 'l'
  by_cases hc:f n<c
  ·refine ⟨n+1,O9 _,λi hi=>⟨λ_=>hi,λ_=>?_⟩⟩
   exact SK (hm i n 'l' 'l') hc
  ·refine ⟨k,by lia,λi hi=>?_⟩
   by_cases hin:i<n
   ·exact h2 i hin
   ·have:i=n:=by lia
    subst this
    exact ⟨λz=>absurd z hc,λz=>by lia⟩
theorem Mm (h:Up rk a) (hij:i<=j) (hj:j<a.size):R rk a i<=R rk a j:=by
 have e1:a[i]?=some (a[i]'(by lia)):=PV _
 have e2:a[j]?=some a[j]:=PV _
 rw [dI e1,dI e2]
 exact h i j _ _ hij e1 e2
structure cS (st st':SortSt):Prop where
 k:kindOf st'=kindOf st
 a:arrOf st'=arrOf st
 p:pendingOf st'=pendingOf st
 f:failedOf st'=failedOf st
theorem cS.refl (st:SortSt):cS st st:=⟨rfl,rfl,rfl,rfl⟩
theorem cS.min {st st':SortSt} (h:cS st st') (g):cS st (T4 (kindOf st') (arrOf st') (pendingOf st') g (failedOf st')):=⟨h.k,h.a,h.p,h.f⟩
theorem cS.trans (h:cS s1 s2) (g:cS s2 s3):cS s1 s3:=⟨g.k.trans h.k,g.a.trans h.a,g.p.trans h.p,g.f.trans h.f⟩
theorem rY {st:SortSt} (hC:iX prog w A s U rk L) (hk:kindOf st=U) (hkey:key∈L) (mx:∀ (i:Nat) (p:Keyed),xs[i]?=some p->p∈L) (ux:Up rk xs) (n) (hn:base+n<=xs.size) (hh:hint<n)
 (h:∀ k,k<=n->(∀ (i:Nat) (p:Keyed),i<k->xs[base+i]?=some p->rk p<=rk key)->(∀ (i:Nat) (p:Keyed),k<=i->base+i<base+n->xs[base+i]?=some p->rk key<rk p)->Q (some k) st) :
 wpS (model prog w) A E s (cQ false key xs base n hint) Q st:=by
 obtain ⟨k,h1,h2⟩:=lV (λi=>R rk xs (base+i)) (rk key) n λi j hij hj=>Mm ux 'l' 'l'
 refine fS hC hk hkey (λi hi=>⟨xs[base+i]'(by lia),PV _,mx _ _ (PV _)⟩) (λi hi=>by simp only [Qp,if_false]; exact h2 i hi) h1 hh (h k h1 (λi p hi e=>?_) λi p hi hb e=>?_)
 ·have:=(h2 i 'l').mpr hi
  rw [dI e] at this; exact this
 ·have:=mt (h2 i 'l').mp 'l'
  rw [dI e] at this; lia
theorem rZ {st:SortSt} (hC:iX prog w A s U rk L) (hk:kindOf st=U) (hkey:key∈L) (mx:∀ (i:Nat) (p:Keyed),xs[i]?=some p->p∈L) (ux:Up rk xs) (n) (hn:base+n<=xs.size) (hh:hint<n)
 (h:∀ k,k<=n->(∀ (i:Nat) (p:Keyed),i<k->xs[base+i]?=some p->rk p<rk key)->(∀ (i:Nat) (p:Keyed),k<=i->base+i<base+n->xs[base+i]?=some p->rk key<=rk p)->Q (some k) st) :
 wpS (model prog w) A E s (cQ true key xs base n hint) Q st:=by
 obtain ⟨k,h1,h2⟩:=lW (λi=>R rk xs (base+i)) (rk key) n λi j hij hj=>Mm ux 'l' 'l'
 refine fS hC hk hkey (λi hi=>⟨xs[base+i]'(by lia),PV _,mx _ _ (PV _)⟩) (λi hi=>by simp only [if_true]; exact h2 i hi) h1 hh (h k h1 (λi p hi e=>?_) λi p hi hb e=>?_)
 ·have:=(h2 i 'l').mpr hi
  rw [dI e] at this; exact this
 ·have:=mt (h2 i 'l').mp 'l'
  rw [dI e] at this; lia
structure nk (rk:Keyed->Int) (a b out:Array Keyed) (ia ib:Nat):Prop where
 w:WL rk a b out ia ib
 la:ia+1<a.size
 lb:ib<b.size
end
section
local macro_rules | `(tactic| walk_at "dl mergeLo")=>do
 let i:=Sj (R0 `PySem.Builtin.List.W1All `PySem.Builtin.mergeLo)
 `(tactic| delta $i)
noncomputable abbrev BG:=Option (Array Keyed)×Array Keyed×Nat×Nat×Nat×Nat×Nat
noncomputable def G3 (a b out:Array Keyed) (ia ib:Nat):Array Keyed:=out++a.extract ia a.size++b.extract ib b.size
noncomputable def DG (a b out:Array Keyed) (ia ib:Nat):Array Keyed:=out++b.extract ib b.size++a.extract ia a.size
noncomputable def wH (a b:Array Keyed) (mg ac bc ia ib:Nat) (out:Array Keyed):StateT SortSt Sem (ForInStep BG):=do
 let p <- elem' a ia
 if (ia+1+1 == a.size)=true then pure (.done (some (DG a b (out.push p) (ia+1) ib),out.push p,ia+1,ib,mg,ac,bc))
 else if (decide (ac<7) && decide (bc<7))=true then pure (.done (none,out.push p,ia+1,ib,mg,ac,bc))
 else pure (.yield (none,out.push p,ia+1,ib,mg,ac,bc))
noncomputable def wI (a b:Array Keyed) (mg ac bc ia ib:Nat) (out:Array Keyed):StateT SortSt Sem (ForInStep BG):=do
 let q <- elem' b ib
 if (ib+1 == b.size)=true then pure (.done (some (G3 a b (out.push q) ia (ib+1)),out.push q,ia,ib+1,mg,ac,bc))
 else do
  let p <- elem' a ia
  let x <- cQ true p b (ib+1) (b.size - (ib+1)) 0
  match x with
  | some k=>(if k>0 then
   (if (ib+1+k == b.size)=true then pure (.done (some (G3 a b (out.push q++b.extract (ib+1) (ib+1+k)) ia (ib+1+k)),out.push q++b.extract (ib+1) (ib+1+k),ia,ib+1+k,mg,ac,k))
    else wH a b mg ac k ia (ib+1+k) (out.push q++b.extract (ib+1) (ib+1+k)))
   else wH a b mg ac k ia (ib+1) (out.push q))
  | _=>pure (.done (some (G3 a b (out.push q) ia (ib+1)),out.push q,ia,ib+1,mg,ac,bc))
noncomputable def wJ (a b:Array Keyed) (mg ac bc ia ib:Nat) (out:Array Keyed):StateT SortSt Sem (ForInStep BG):=do
 cJ mg
 let q <- elem' b ib
 let x <- cQ false q a ia (a.size - ia) 0
 match x with
 | some k=>(if k>0 then
  (if (ia+k+1 == a.size)=true then pure (.done (some (DG a b (out++a.extract ia (ia+k)) (ia+k) ib),out++a.extract ia (ia+k),ia+k,ib,mg,k,bc))
   else if (ia+k == a.size)=true then pure (.done (some (G3 a b (out++a.extract ia (ia+k)) (ia+k) ib),out++a.extract ia (ia+k),ia+k,ib,mg,k,bc))
   else wI a b mg k bc (ia+k) ib (out++a.extract ia (ia+k)))
  else wI a b mg k bc ia ib out)
 | _=>pure (.done (some (G3 a b out ia ib),out,ia,ib,mg,ac,bc))
noncomputable def BH (a b:Array Keyed) (c:BG):StateT SortSt Sem (ForInStep BG) :=
 if c.2.2.2.2.1>1 then wJ a b (c.2.2.2.2.1 - 1) c.2.2.2.2.2.1 c.2.2.2.2.2.2 c.2.2.1 c.2.2.2.1 c.2.1 else wJ a b c.2.2.2.2.1 c.2.2.2.2.2.1 c.2.2.2.2.2.2 c.2.2.1 c.2.2.2.1 c.2.1
noncomputable abbrev Jp:=Option (Array Keyed)×Array Keyed×Nat×Nat×Nat×Nat
noncomputable def BI (a b:Array Keyed) (mg:Nat) (c:Jp):StateT SortSt Sem (ForInStep Jp):=do
 let q <- elem' b c.2.2.2.1
 let p <- elem' a c.2.2.1
 let x <- lt' q p
 match x with
 | some y=>(if y=true then (do
  let q <- elem' b c.2.2.2.1
  if (c.2.2.2.1+1 == b.size)=true then pure (.done (some (G3 a b (c.2.1.push q) c.2.2.1 (c.2.2.2.1+1)),c.2.1.push q,c.2.2.1,c.2.2.2.1+1,0,c.2.2.2.2.2+1))
  else if c.2.2.2.2.2+1>=mg then pure (.done (none,c.2.1.push q,c.2.2.1,c.2.2.2.1+1,0,c.2.2.2.2.2+1))
  else pure (.yield (none,c.2.1.push q,c.2.2.1,c.2.2.2.1+1,0,c.2.2.2.2.2+1)))
  else (do
   let p <- elem' a c.2.2.1
   if (c.2.2.1+1+1 == a.size)=true then pure (.done (some (DG a b (c.2.1.push p) (c.2.2.1+1) c.2.2.2.1),c.2.1.push p,c.2.2.1+1,c.2.2.2.1,c.2.2.2.2.1+1,0))
   else if c.2.2.2.2.1+1>=mg then pure (.done (none,c.2.1.push p,c.2.2.1+1,c.2.2.2.1,c.2.2.2.2.1+1,0))
   else pure (.yield (none,c.2.1.push p,c.2.2.1+1,c.2.2.2.1,c.2.2.2.2.1+1,0))))
 | _=>pure (.done (some (G3 a b c.2.1 c.2.2.1 c.2.2.2.1),c.2.1,c.2.2.1,c.2.2.2.1,c.2.2.2.2.1,c.2.2.2.2.2))
noncomputable abbrev EU:=Option (Array Keyed)×Array Keyed×Nat×Nat×Nat
noncomputable def pW (a b:Array Keyed) (c:EU):StateT SortSt Sem (ForInStep EU):=do
 let s <- forIn [:a.size+b.size] ((none,c.2.1,c.2.2.1,c.2.2.2.1,0,0):Jp) λ_ s=>BI a b c.2.2.2.2 s
 match s.1 with
 | some r=>pure (.done (some r,s.2.1,s.2.2.1,s.2.2.2.1,c.2.2.2.2))
 | none=>do
  liftM (rule "list.sort.gallop")
  let t <- forIn [:a.size+b.size] ((none,s.2.1,s.2.2.1,s.2.2.2.1,c.2.2.2.2+1,s.2.2.2.2.1,s.2.2.2.2.2):BG) λ_ t=>BH a b t
  match t.1 with
  | some r=>pure (.done (some r,t.2.1,t.2.2.1,t.2.2.2.1,t.2.2.2.2.1))
  | none=>do
   cJ (t.2.2.2.2.1+1)
   pure (.yield (none,t.2.1,t.2.2.1,t.2.2.2.1,t.2.2.2.2.1+1))
theorem r6 (a b):lU a b=(do
 liftM (rule "list.sort.merge-lo")
 let p <- elem' b 0
 if (1 == b.size)=true then pure (G3 a b #[p] 0 1)
 else if (0+1 == a.size)=true then pure (DG a b #[p] 0 1)
 else do
  let st <- get
  let s <- forIn [:a.size+b.size] ((none,#[p],0,1,gallopOf st):EU) λ_ c=>pW a b c
  match s.1 with
  | some r=>pure r
  | none=>liftM (unsupported (α:=Array Keyed) "internal:list.sort.merge-bound")):=by
 unfold lU
 walk_at "dl mergeLo"
 dsimp only
 refine congrArg _ (funext λ_=>?_)
 refine congrArg _ (funext λp=>?_)
 refine congrArg _ (congrArg _ ?_)
 refine congrArg _ (funext λst=>?_)
 have e:∀ (f g:Nat->EU->StateT SortSt Sem (ForInStep EU)) (c:EU) (k:EU->StateT SortSt Sem (Array Keyed)),f=g->(forIn [:a.size+b.size] c f >>= k)=(forIn [:a.size+b.size] c g >>= k):=λ_ _ _ _ h=>by rw [h]
 refine (e _ _ _ _ (funext λ_=>funext λc=>?_)).trans (congrArg _ (funext λs=>?_))
 ·obtain ⟨o,out,ia,ib,mg⟩:=c
  unfold pW
  dsimp only
  have e2:∀ (f g:Nat->Jp->StateT SortSt Sem (ForInStep Jp)) (c:Jp) (k l:Jp->StateT SortSt Sem (ForInStep EU)),f=g->k=l->(forIn [:a.size+b.size] c f >>= k)=(forIn [:a.size+b.size] c g >>= l):=λ_ _ _ _ _ h h2=>by rw [h,h2]
  refine e2 _ _ _ _ _ (funext λ_=>funext λc=>?_) (funext λs=>?_)
  ·rfl
  ·obtain ⟨o,out,ia,ib,ac,bc⟩:=s
   cases o with
   | some r=>rfl
   | none =>
    dsimp only
    refine congrArg _ (funext λ_=>?_)
    have e3:∀ (f g:Nat->BG->StateT SortSt Sem (ForInStep BG)) (c:BG) (k l:BG->StateT SortSt Sem (ForInStep EU)),f=g->k=l->(forIn [:a.size+b.size] c f >>= k)=(forIn [:a.size+b.size] c g >>= l):=λ_ _ _ _ _ h h2=>by rw [h,h2]
    refine e3 _ _ _ _ _ (funext λ_=>funext λc=>?_) (funext λs=>?_)
    ·rfl
    ·obtain ⟨o,s⟩:=s
     cases o <;> rfl
 ·obtain ⟨o,s⟩:=s
  cases o <;> rfl
end
theorem some_at {xs:Array Keyed} (h:i<xs.size):∃ p,xs[i]?=some p:=⟨xs[i],PV h⟩
def EW (rk:Keyed->Int) (a b:Array Keyed) (n:Nat) (o:Option (Array Keyed)) (ia ib:Nat) (out:Array Keyed):Prop:=(∃ r,o=some r/\Res rk a b r)\/(o=none/\nk rk a b out ia ib/\n<=ia+ib)
noncomputable def EX (rk:Keyed->Int) (a b:Array Keyed) (n:Nat):ForInStep BG->Prop
 | .done c=>EW rk a b n c.1 c.2.2.1 c.2.2.2.1 c.2.1
 | .yield c=>c.1=none/\nk rk a b c.2.1 c.2.2.1 c.2.2.2.1/\n<=c.2.2.1+c.2.2.2.1
theorem nW {st:SortSt} (lA:∀ {out:Array Keyed} {ia ib:Nat},WL rk a b out ia ib->ia+1=a.size->Res rk a b (DG a b out ia ib)) (W:WL rk a b out ia ib) (ua:Up rk a) (la:ia+1<a.size) (lb:ib<b.size) (ep:a[ia]?=some p)
 (hl:∀ (j:Nat) (r:Keyed),ib<=j->b[j]?=some r->rk p<=rk r) (hn:n<=ia+1+ib) (hQ:∀ x,EX rk a b n x->Q x st):wpS (model prog w) A E s (wH a b mg ac bc ia ib out) Q st:=by
 unfold wH
 have W4:=W.gq ua ep hl
 refine Pa (aV ep ?_)
 by_cases e9:ia+1+1=a.size
 ·rw [if_pos (by simpa using e9)]
  exact Pb (hQ _ (.inl ⟨_,rfl,lA W4 e9⟩))
 rw [if_neg (by simpa using e9)]
 have hL:nk rk a b (out.push p) (ia+1) ib:=⟨W4,Nat.lt_of_le_of_ne la e9,lb⟩
 split
 ·exact Pb (hQ _ (.inr ⟨rfl,hL,hn⟩))
 ·exact Pb (hQ _ ⟨rfl,hL,hn⟩)
theorem pX {xs:Array Keyed} {i j:Nat} (h:i<=j) (e:xs[j]?=some p):xs[i+(j - i)]?=some p:=by rw [VC h]; exact e
theorem nX {st:SortSt} (hC:iX prog w A s U rk L) (hk:kindOf st=U) (ma:∀ (i:Nat) (p:Keyed),a[i]?=some p->p∈L) (mb:∀ (i:Nat) (p:Keyed),b[i]?=some p->p∈L)
 (lA:∀ {out:Array Keyed} {ia ib:Nat},WL rk a b out ia ib->ia+1=a.size->Res rk a b (DG a b out ia ib)) (W:WL rk a b out ia ib) (ua:Up rk a) (ub:Up rk b) (la:ia+1<a.size) (lb:ib<b.size) (eq:b[ib]?=some q)
 (hl:∀ (j:Nat) (r:Keyed),ia<=j->a[j]?=some r->rk q<=rk r) (hn:n<=ia+ib+2) (hQ:∀ x,EX rk a b n x->Q x st):wpS (model prog w) A E s (wI a b mg ac bc ia ib out) Q st:=by
 unfold wI
 have W2:=W.gp ub eq hl
 refine Pa (aV eq ?_)
 by_cases e5:ib+1=b.size
 ·rw [if_pos (by simpa using e5)]
  exact Pb (hQ _ (.inl ⟨_,rfl,W2.jz ua e5⟩))
 rw [if_neg (by simpa using e5)]
 obtain ⟨p,ep⟩:=some_at (xs:=a) (i:=ia) 'l'
 refine Pa (aV ep ?_)
 refine Pa (rZ hC hk (ma _ _ ep) mb ub _ 'l' 'l' λk hj1 hj2 hj3=>?_)
 dsimp only
 have W3:=W2.rX ub k 'l' λi j r p' z1 z2 z3 e6 e7=>P1 (QO (hj2 (i - (ib+1)) r 'l' (pX z1 e6))) (ua ia j p p' z3 ep e7)
 have bwd:∀ (j:Nat) (r:Keyed),ib+1+k<=j->b[j]?=some r->rk p<=rk r:=λj r hj e6=>hj3 (j - (ib+1)) r 'l' (by have:=(Sw.mp e6).1; lia) (pX (Pj (RI _ _) hj) e6)
 by_cases hj0:k>0
 ·rw [if_pos hj0]
  by_cases e8:ib+1+k=b.size
  ·rw [if_pos (by simpa using e8)]
   exact Pb (hQ _ (.inl ⟨_,rfl,W3.jz ua e8⟩))
  rw [if_neg (by simpa using e8)]
  exact nW lA W3 ua la 'l' ep bwd 'l' hQ
 ·rw [if_neg hj0]
  exact nW lA W2 ua la 'l' ep (λj r hj e6=>bwd j r 'l' e6) 'l' hQ
theorem nY {st:SortSt} (hC:iX prog w A s U rk L) (hk:kindOf st=U) (ma:∀ (i:Nat) (p:Keyed),a[i]?=some p->p∈L) (mb:∀ (i:Nat) (p:Keyed),b[i]?=some p->p∈L)
 (lA:∀ {out:Array Keyed} {ia ib:Nat},WL rk a b out ia ib->ia+1=a.size->Res rk a b (DG a b out ia ib)) (ua:Up rk a) (ub:Up rk b) (hL:nk rk a b out ia ib) (hn:n<=ia+ib) (hQ:∀ x st',cS st st'->EX rk a b n x->Q x st') :
 wpS (model prog w) A E s (wJ a b mg ac bc ia ib out) Q st:=by
 unfold wJ
 have W:=hL.w
 have la:=hL.la
 have lb:=hL.lb
 obtain ⟨q,eq⟩:=some_at (xs:=b) lb
 refine Pa (fT ?_)
 have DA:=λx=>hQ x _ ((cS.refl st).min mg)
 refine Pa (aV eq ?_)
 refine Pa (rY hC (by exact hk) (mb _ _ eq) ma ua _ 'l' 'l' λk hk1 hk2 hk3=>?_)
 dsimp only
 have Wk:=W.rV ua k 'l' λi j p r z1 z2 z3 e3 e4=>P1 (hk2 (i - ia) p 'l' (pX z1 e3)) (ub ib j q r z3 eq e4)
 have fwd:∀ (j:Nat) (r:Keyed),ia+k<=j->a[j]?=some r->rk q<=rk r:=λj r hj e3=>QO (hk3 (j - ia) r 'l' (by have:=(Sw.mp e3).1; lia) (pX (Pj (RI _ _) hj) e3))
 by_cases hk0:k>0
 ·rw [if_pos hk0]
  by_cases e3:ia+k+1=a.size
  ·rw [if_pos (by simpa using e3)]
   exact Pb (DA _ (.inl ⟨_,rfl,lA Wk e3⟩))
  rw [if_neg (by simpa using e3)]
  by_cases e4:ia+k=a.size
  ·rw [if_pos (by simpa using e4)]
   exact Pb (DA _ (.inl ⟨_,rfl,Wk.jA ub e4⟩))
  rw [if_neg (by simpa using e4)]
  exact nX hC (by exact hk) ma mb lA Wk ua ub 'l' lb eq fwd 'l' DA
 ·rw [if_neg hk0]
  exact nX hC (by exact hk) ma mb lA W ua ub la lb eq (λj r hj e3=>fwd j r 'l' e3) 'l' DA
theorem yM {st:SortSt} (hC:iX prog w A s U rk L) (hk:kindOf st=U) (ma:∀ (i:Nat) (p:Keyed),a[i]?=some p->p∈L) (mb:∀ (i:Nat) (p:Keyed),b[i]?=some p->p∈L)
 (lA:∀ {out:Array Keyed} {ia ib:Nat},WL rk a b out ia ib->ia+1=a.size->Res rk a b (DG a b out ia ib)) (ua:Up rk a) (ub:Up rk b) (hL:nk rk a b c.2.1 c.2.2.1 c.2.2.2.1) (hn:n<=c.2.2.1+c.2.2.2.1+1)
 (hQ:∀ o ia ib out z y,EW rk a b n o ia ib out->Q (.done (o,out,ia,ib,z)) st/\(o=none->Q (.yield (none,out,ia,ib,y)) st)):wpS (model prog w) A E s (BI a b mg c) Q st:=by
 obtain ⟨_,out,ia,ib,ac,bc⟩:=c
 unfold BI
 dsimp only at hL hn |-
 have W:=hL.w
 have la:=hL.la
 have lb:=hL.lb
 obtain ⟨q,eq⟩:=some_at (xs:=b) lb
 obtain ⟨p,ep⟩:=some_at (xs:=a) (Nat.lt_of_succ_lt la)
 refine Pa (aV eq (Pa (aV ep (Pa (lS hC hk (mb _ _ eq) (ma _ _ ep) ?_)))))
 dsimp only
 by_cases hw:rk q<rk p
 ·rw [decide_eq_true hw,if_pos rfl]
  have W1:=W.gp ub eq λj r hj e=>P1 (QO hw) (ua ia j p r hj ep e)
  refine Pa (aV eq ?_)
  by_cases e3:ib+1=b.size
  ·rw [if_pos (by simpa using e3)]
   exact Pb (hQ _ _ _ _ _ (0,0) (.inl ⟨_,rfl,W1.jz ua e3⟩)).1
  rw [if_neg (by simpa using e3)]
  have z:=hQ none ia (ib+1) (out.push q) (0,bc+1) (0,bc+1) (.inr ⟨rfl,⟨W1,la,by lia⟩,by lia⟩)
  split
  ·exact Pb z.1
  ·exact Pb (z.2 rfl)
 ·rw [decide_eq_false hw,if_neg Pp]
  have W1:=W.gq ua ep λj r hj e=>P1 (Te.mp hw) (ub ib j q r hj eq e)
  refine Pa (aV ep ?_)
  by_cases e3:ia+1+1=a.size
  ·rw [if_pos (by simpa using e3)]
   exact Pb (hQ _ _ _ _ _ (0,0) (.inl ⟨_,rfl,lA W1 e3⟩)).1
  rw [if_neg (by simpa using e3)]
  have z:=hQ none (ia+1) ib (out.push p) (ac+1,0) (ac+1,0) (.inr ⟨rfl,⟨W1,by lia,lb⟩,by lia⟩)
  split
  ·exact Pb z.1
  ·exact Pb (z.2 rfl)
theorem uK {st:SortSt} (hC:iX prog w A s U rk L) (hk:kindOf st=U) (ma:∀ (i:Nat) (p:Keyed),a[i]?=some p->p∈L) (mb:∀ (i:Nat) (p:Keyed),b[i]?=some p->p∈L)
 (lA:∀ {out:Array Keyed} {ia ib:Nat},WL rk a b out ia ib->ia+1=a.size->Res rk a b (DG a b out ia ib)) (ua:Up rk a) (ub:Up rk b) (hL:nk rk a b c.2.1 c.2.2.1 c.2.2.2.1) (hn:n<=c.2.2.1+c.2.2.2.1+1)
 (h1:∀ r z st',cS st st'->Res rk a b r->Q (.done (some r,z)) st') (h2:∀ ia ib out g st',cS st st'->nk rk a b out ia ib->n<=ia+ib->Q (.yield (none,out,ia,ib,g)) st'):wpS (model prog w) A E s (pW a b c) Q st:=by
 unfold pW
 refine Pa (P8 (Qx (I:=λy c st'=>st'=st/\c.1=none/\nk rk a b c.2.1 c.2.2.1 c.2.2.2.1/\n+y<=c.2.2.1+c.2.2.2.1+1) (Q:=λc st'=>st'=st/\EW rk a b n c.1 c.2.2.1 c.2.2.2.1 c.2.1) ?step ?fin ⟨rfl,rfl,hL,hn⟩) ?post)
 case fin =>
  rintro c st' ⟨rfl,hc,hL',hx⟩
  exact ⟨rfl,.inr ⟨hc,hL',by have:=hL'.la; have:=hL'.lb; lia⟩⟩
 case step =>
  rintro y c st' _ hy ⟨rfl,_,hL',hx⟩
  refine yM (n:=n+y) hC hk ma mb lA ua ub hL' hx λo ia ib out z y hR=>⟨?_,?_⟩
  ·refine ⟨rfl,?_⟩
   rcases hR with hR | ⟨q1,q2,q3⟩
   ·exact .inl hR
   ·exact .inr ⟨q1,q2,Pj (RI _ _) q3⟩
  ·rintro rfl
   rcases hR with ⟨_,q,_⟩ | ⟨q1,q2,q3⟩
   ·cases q
   ·exact ⟨rfl,rfl,q2,UA q3⟩
 case post =>
  rintro ⟨o,out,ia,ib,ac,bc⟩ st' ⟨rfl,hR⟩
  dsimp only at hR |-
  rcases hR with ⟨r,rfl,hr⟩ | ⟨rfl,hL2,hn2⟩
  ·exact Pb (h1 r _ _ (.refl _) hr)
  refine Pa (RV (Qy ⟨rfl,?_⟩))
  refine Pa (P8 (Qx (I:=λy c st''=>cS st' st''/\c.1=none/\nk rk a b c.2.1 c.2.2.1 c.2.2.2.1/\n<=c.2.2.1+c.2.2.2.1) (Q:=λc st''=>cS st' st''/\EW rk a b n c.1 c.2.2.1 c.2.2.2.1 c.2.1) ?gstep ?gfin ⟨.refl _,rfl,hL2,hn2⟩) ?gpost)
  case gfin=>exact λc st'' ⟨q1,q2,q3,q4⟩=>⟨q1,.inr ⟨q2,q3,q4⟩⟩
  case gstep =>
   rintro y c st'' _ _ ⟨q1,q2,q3,q4⟩
   have key:wpS (model prog w) A E s (BH a b c) (λx st3=>cS st'' st3/\EX rk a b n x) st'':=by
    unfold BH
    split
    ·exact nY hC (q1.k.trans hk) ma mb lA ua ub q3 q4 λx st3 k h=>⟨k,h⟩
    ·exact nY hC (q1.k.trans hk) ma mb lA ua ub q3 q4 λx st3 k h=>⟨k,h⟩
   refine P8 key λx st3 ⟨k,h⟩=>?_
   cases x with
   | done c=>exact ⟨q1.trans k,h⟩
   | yield c=>exact ⟨q1.trans k,h⟩
  case gpost =>
   rintro ⟨o,out,ia,ib,g,ac,bc⟩ st'' ⟨q1,hR⟩
   dsimp only at hR |-
   rcases hR with ⟨r,rfl,hr⟩ | ⟨rfl,hL3,hn3⟩
   ·exact Pb (h1 r _ _ q1 hr)
   ·exact Pa (fT (Pb (h2 _ _ _ _ _ (q1.min _) hL3 hn3)))
theorem r9 {st:SortSt} (hC:iX prog w A s U rk L) (hk:kindOf st=U) (ma:∀ (i:Nat) (p:Keyed),a[i]?=some p->p∈L) (mb:∀ (i:Nat) (p:Keyed),b[i]?=some p->p∈L) (ua:Up rk a) (ub:Up rk b) (na:1<=a.size) (nb:1<=b.size)
 (h0:∀ p q,a[0]?=some p->b[0]?=some q->rk q<=rk p) (hl:∀ (j:Nat) (p q:Keyed),a[a.size - 1]?=some p->b[j]?=some q->rk q<=rk p) (h:∀ r st',Res rk a b r->cS st st'->Q r st'):wpS (model prog w) A E s (lU a b) Q st:=by
 have lastA:∀ {out:Array Keyed} {ia ib:Nat},WL rk a b out ia ib->ia+1=a.size->Res rk a b (DG a b out ia ib):=λhw e=>hw.last ub e λj p q e1 e2=>hl j p q (by rw [<- e]; exact e1) e2
 obtain ⟨q0,eq0⟩:=some_at (xs:=b) (i:=0) nb
 obtain ⟨p0,ep0⟩:=some_at (xs:=a) (i:=0) na
 have W0:WL rk a b #[q0] 0 1:=by
  have z:WL rk a b #[] 0 0:=⟨P7 _,P7 _,by simp,SN,by simp,by simp⟩
  exact z.gp ub eq0 λj q _ e=>P1 (h0 p0 q0 ep0 eq0) (ua 0 j p0 q (P7 _) ep0 e)
 rw [r6]
 refine Pa (RV (Qy ⟨rfl,?_⟩))
 refine Pa (aV eq0 ?_)
 by_cases e1:1=b.size
 ·rw [if_pos (by simpa using e1)]
  exact Pb (h _ _ (W0.jz ua e1) (.refl _))
 rw [if_neg (by simpa using e1)]
 by_cases e2:0+1=a.size
 ·rw [if_pos (by simpa using e2)]
  exact Pb (h _ _ (lastA W0 e2) (.refl _))
 rw [if_neg (by simpa using e2)]
 refine Pa (QS ?_)
 refine Pa (P8 (Qx (I:=λx c st'=>cS st st'/\c.1=none/\nk rk a b c.2.1 c.2.2.1 c.2.2.2.1/\x+1<=c.2.2.1+c.2.2.2.1) (Q:=λc st'=>cS st st'/\∃ r,c.1=some r/\Res rk a b r) ?step ?fin ⟨.refl _,rfl,⟨W0,by dsimp only; lia,by dsimp only; lia⟩,by dsimp only; lia⟩) ?post)
 case fin =>
  rintro c st' ⟨hK,hc,hL,hx⟩
  have h1:=hL.la
  have h2:=hL.lb
  lia
 case post =>
  rintro c st' ⟨hK,r,hc,hr⟩
  rw [hc]
  exact Pb (h r st' hr hK)
 case step =>
  rintro x c st1 _ hx ⟨hK,_,hL,hn⟩
  exact uK (n:=x+2) hC (hK.k.trans hk) ma mb lastA ua ub hL (UA hn) (λr z st' k hr=>⟨hK.trans k,r,rfl,hr⟩) λia ib out g st' k q1 q2=>⟨hK.trans k,rfl,q1,q2⟩
noncomputable def lX:Array Keyed->Array Keyed->StateT SortSt Sem (Array Keyed):=sortPriv% PySem.Builtin.mergeHi
local macro_rules | `(tactic| walk_at "dl mergeHi")=>do
 let i:=Sj (R0 `PySem.Builtin.List.W1All `PySem.Builtin.mergeHi)
 `(tactic| delta $i)
section
variable {rk:Keyed->Int} {a b:Array Keyed}
structure WH (rk:Keyed->Int) (a b:Array Keyed) (out:Array Keyed) (na nb:Nat):Prop where
 pa:na<=a.size
 pb:nb<=b.size
 pm:out.toList.Perm (a.toList.drop na++b.toList.drop nb)
 sr:BF rk out.toList.reverse
 ha:∀ p∈out.toList,∀ (j:Nat) (q:Keyed),j<na->a[j]?=some q->rk q<=rk p
 hb:∀ p∈out.toList,∀ (j:Nat) (q:Keyed),j<nb->b[j]?=some q->rk q<=rk p
theorem dw (xs:Array Keyed) (i):(xs.extract 0 i).toList=xs.toList.take i:=by rw [dZ,List.drop_zero]
theorem iZ {xs:Array Keyed} (h:q∈xs.toList.take i):∃ j,j<i/\xs[j]?=some q:=by
 obtain ⟨n,hn⟩:=SD h
 have hl:=(Po.mp hn).1
 rw [Qf] at hl
 rw [Uc 'l'] at hn
 exact ⟨n,by lia,by rw [<- Qg]; exact hn⟩
theorem WH.res (h:WH rk a b out na nb) (x) (hx:x.toList.Perm (a.toList.take na++b.toList.take nb)) (hs:BF rk x.toList):Res rk a b (x++out.reverse):=by
 have e0:(x++out.reverse).toList=x.toList++out.toList.reverse:=by simp
 refine ⟨?_,?_⟩
 ·rw [e0]
  refine (hx.append ((VS _).trans h.pm)).trans ?_
  have:(a.toList.take na++b.toList.take nb++(a.toList.drop na++b.toList.drop nb)).Perm (a.toList.take na++a.toList.drop na++(b.toList.take nb++b.toList.drop nb)):=by
   rw [PU,PU]
   refine Sz _ ?_
   rw [<- PU,<- PU]
   exact List.Perm.append_right _ R3
  rw [Rp,Rp] at this
  exact this
 ·rw [e0]
  refine bY hs h.sr λp hp q hq=>?_
  have hq':q∈out.toList:=by simpa using hq
  rcases PF.mp (hx.mem_iff.mp hp) with z | z
  ·obtain ⟨j,h1,e⟩:=iZ z
   exact h.ha q hq' j p h1 e
  ·obtain ⟨j,h1,e⟩:=iZ z
   exact h.hb q hq' j p h1 e
theorem WH.jA (h:WH rk a b out na nb) (ub:Up rk b) (e:na=0):Res rk a b (a.extract 0 na++b.extract 0 nb++out.reverse):=by
 subst e
 refine h.res _ ?_ ?_
 ·simp [dw]
 ·have:(a.extract 0 0++b.extract 0 nb).toList=b.toList.take nb:=by rw [QC,dw,dw]; simp
  rw [this]; exact (jy ub).sublist (To _ _)
theorem WH.jz (h:WH rk a b out na nb) (ua:Up rk a) (e:nb=0):Res rk a b (a.extract 0 na++b.extract 0 nb++out.reverse):=by
 subst e
 refine h.res _ ?_ ?_
 ·simp [dw]
 ·have:(a.extract 0 na++b.extract 0 0).toList=a.toList.take na:=by rw [QC,dw,dw]; simp
  rw [this]; exact (jy ua).sublist (To _ _)
theorem WH.first (h:WH rk a b out na nb) (ua:Up rk a) (e:nb=1) (hf:∀ (j:Nat) (p q:Keyed),a[j]?=some p->b[0]?=some q->rk q<=rk p) :
 Res rk a b (b.extract 0 nb++a.extract 0 na++out.reverse):=by
 subst e
 have e1:(b.extract 0 1++a.extract 0 na).toList=b.toList.take 1++a.toList.take na:=by rw [QC,dw,dw]
 refine h.res _ ?_ ?_
 ·rw [e1]; exact R3
 ·rw [e1]
  refine bY ?_ ((jy ua).sublist (To _ _)) λp hp q hq=>?_
  ·exact wF (by simp; lia)
  ·obtain ⟨j,h1,e2⟩:=iZ hp
   obtain ⟨j2,h2,e3⟩:=iZ hq
   have:j=0:=by lia
   subst this
   exact hf j2 q p e3 e2
theorem nZ {xs:Array Keyed} (hi:1<=i) (h:xs[i - 1]?=some p):xs.toList.drop (i - 1)=p::xs.toList.drop i:=by
 rw [<- Qg] at h
 obtain ⟨h1,h2⟩:=Po.mp h
 rw [List.drop_eq_getElem_cons h1,h2,show i - 1+1=i by lia]
theorem WH.gq {out:Array Keyed} {na nb:Nat} {p:Keyed} (h:WH rk a b out na nb) (ua:Up rk a) (hn:1<=na) (e:a[na - 1]?=some p) (hl:∀ (j:Nat) (q:Keyed),j<nb->b[j]?=some q->rk q<=rk p):WH rk a b (out.push p) (na - 1) nb where
 pa:=by have:=h.pa; lia
 pb:=h.pb
 pm:=by
  rw [Qa,nZ hn e]
  refine (h.pm.append_right _).trans ?_
  rw [R9]
  exact R3
 sr:=by
  rw [Qa,VD]
  exact bY (RY _ _) h.sr λr hr q hq=>by
   have hr':r=p:=by simpa using hr
   rw [hr']
   exact h.ha q (by simpa using hq) (na - 1) p 'l' e
 ha:=λq hq j r hj er=>by
  rw [Qa] at hq
  rcases PF.mp hq with z | z
  ·exact h.ha q z j r 'l' er
  ·rw [Pk.mp z]; exact ua j (na - 1) r p 'l' er e
 hb:=λq hq j r hj er=>by
  rw [Qa] at hq
  rcases PF.mp hq with z | z
  ·exact h.hb q z j r hj er
  ·rw [Pk.mp z]; exact hl j r hj er
theorem WH.gp {out:Array Keyed} {na nb:Nat} {p:Keyed} (h:WH rk a b out na nb) (ub:Up rk b) (hn:1<=nb) (e:b[nb - 1]?=some p) (hl:∀ (j:Nat) (q:Keyed),j<na->a[j]?=some q->rk q<=rk p):WH rk a b (out.push p) na (nb - 1) where
 pa:=h.pa
 pb:=by have:=h.pb; lia
 pm:=by
  rw [Qa,nZ hn e]
  refine (h.pm.append_right _).trans ?_
  rw [PU]
  exact Sz _ R3
 sr:=by
  rw [Qa,VD]
  exact bY (RY _ _) h.sr λr hr q hq=>by
   have hr':r=p:=by simpa using hr
   rw [hr']
   exact h.hb q (by simpa using hq) (nb - 1) p 'l' e
 hb:=λq hq j r hj er=>by
  rw [Qa] at hq
  rcases PF.mp hq with z | z
  ·exact h.hb q z j r 'l' er
  ·rw [Pk.mp z]; exact ub j (nb - 1) r p 'l' er e
 ha:=λq hq j r hj er=>by
  rw [Qa] at hq
  rcases PF.mp hq with z | z
  ·exact h.ha q z j r hj er
  ·rw [Pk.mp z]; exact hl j r hj er
theorem wK {xs:Array Keyed} (h:m<n) (e:xs[m]?=some p):(xs.extract m n).reverse=(xs.extract (m+1) n).reverse.push p:=by
 apply RT
 rw [Qa,SE,SE,dZ,dZ]
 rw [<- Qg] at e
 obtain ⟨h1,h2⟩:=Po.mp e
 have h3:m<(xs.toList.take n).length:=by rw [Qf]; lia
 rw [List.drop_eq_getElem_cons h3,List.reverse_cons,List.getElem_take,h2]
theorem se (xs ys:Array Keyed) (p):xs++ys.push p=(xs++ys).push p:=by
 apply RT; simp
theorem WH.rV (h:WH rk a b out na nb) (ua:Up rk a):∀ (k m:Nat),m+k=na->(∀ (i j:Nat) (p q:Keyed),m<=i->i<na->j<nb->a[i]?=some p->b[j]?=some q->rk q<=rk p)->WH rk a b (out++(a.extract m na).reverse) m nb
 | 0,m,hm,_=>by
  have e:m=na:=by lia
  subst e
  have:out++(a.extract m m).reverse=out:=by
   apply RT
   rw [QC,SE,iY,List.reverse_nil,Qv]
  rw [this]; exact h
 | k+1,m,hm,hl=>by
  have hp:=h.pa
  have ih:=h.rV ua k (m+1) 'l' λi j p q h1 h2=>hl i j p q 'l' h2
  have e:a[m+1 - 1]?=some (a[m]'(by lia)):=PV (show m<a.size by lia)
  have z:=ih.gq ua 'l' e λj q hj eq=>hl m j _ q (O9 _) 'l' hj (PV (show m<a.size by lia)) eq
  rw [wK (show m<na by lia) (PV (show m<a.size by lia)),se]
  exact z
theorem WH.rX (h:WH rk a b out na nb) (ub:Up rk b):∀ (k m:Nat),m+k=nb->(∀ (i j:Nat) (p q:Keyed),m<=i->i<nb->j<na->b[i]?=some p->a[j]?=some q->rk q<=rk p)->WH rk a b (out++(b.extract m nb).reverse) na m
 | 0,m,hm,_=>by
  have e:m=nb:=by lia
  subst e
  have:out++(b.extract m m).reverse=out:=by
   apply RT
   rw [QC,SE,iY,List.reverse_nil,Qv]
  rw [this]; exact h
 | k+1,m,hm,hl=>by
  have hp:=h.pb
  have ih:=h.rX ub k (m+1) 'l' λi j p q h1 h2=>hl i j p q 'l' h2
  have e:b[m+1 - 1]?=some (b[m]'(by lia)):=PV (show m<b.size by lia)
  have z:=ih.gp ub 'l' e λj q hj eq=>hl m j _ q (O9 _) 'l' hj (PV (show m<b.size by lia)) eq
  rw [wK (show m<nb by lia) (PV (show m<b.size by lia)),se]
  exact z
structure ic (rk:Keyed->Int) (a b out:Array Keyed) (na nb:Nat):Prop where
 w:WH rk a b out na nb
 la:1<=na
 lb:2<=nb
end
noncomputable abbrev BJ:=Option (Array Keyed)×Nat×Nat×Array Keyed×Nat×Nat×Nat
noncomputable def G4 (a b out:Array Keyed) (na nb:Nat):Array Keyed:=a.extract 0 na++b.extract 0 nb++out.reverse
noncomputable def EY (a b out:Array Keyed) (na nb:Nat):Array Keyed:=b.extract 0 nb++a.extract 0 na++out.reverse
noncomputable def wL (a b:Array Keyed) (mg ac bc na nb:Nat) (out:Array Keyed):StateT SortSt Sem (ForInStep BJ):=do
 let p <- elem' a (na - 1)
 if (na - 1 == 0)=true then pure (.done (some (G4 a b (out.push p) (na - 1) nb),na - 1,nb,out.push p,mg,ac,bc))
 else if (decide (ac<7) && decide (bc<7))=true then pure (.done (none,na - 1,nb,out.push p,mg,ac,bc))
 else pure (.yield (none,na - 1,nb,out.push p,mg,ac,bc))
noncomputable def wM (a b:Array Keyed) (mg ac bc na nb:Nat) (out:Array Keyed):StateT SortSt Sem (ForInStep BJ):=do
 let q <- elem' b (nb - 1)
 if (nb - 1 == 1)=true then pure (.done (some (EY a b (out.push q) na (nb - 1)),na,nb - 1,out.push q,mg,ac,bc))
 else do
  let p <- elem' a (na - 1)
  let x <- cQ true p b 0 (nb - 1) (nb - 1 - 1)
  match x with
  | some k=>(if nb - 1 - k>0 then
   (if (k == 1)=true then pure (.done (some (EY a b (out.push q++(b.extract k (nb - 1)).reverse) na k),na,k,out.push q++(b.extract k (nb - 1)).reverse,mg,ac,nb - 1 - k))
    else if (k == 0)=true then pure (.done (some (G4 a b (out.push q++(b.extract k (nb - 1)).reverse) na k),na,k,out.push q++(b.extract k (nb - 1)).reverse,mg,ac,nb - 1 - k))
    else wL a b mg ac (nb - 1 - k) na k (out.push q++(b.extract k (nb - 1)).reverse))
   else wL a b mg ac (nb - 1 - k) na (nb - 1) (out.push q))
  | _=>pure (.done (some (G4 a b (out.push q) na (nb - 1)),na,nb - 1,out.push q,mg,ac,bc))
noncomputable def wN (a b:Array Keyed) (mg ac bc na nb:Nat) (out:Array Keyed):StateT SortSt Sem (ForInStep BJ):=do
 cJ mg
 let q <- elem' b (nb - 1)
 let x <- cQ false q a 0 na (na - 1)
 match x with
 | some k=>(if na - k>0 then
  (if (k == 0)=true then pure (.done (some (G4 a b (out++(a.extract k na).reverse) k nb),k,nb,out++(a.extract k na).reverse,mg,na - k,bc))
   else wM a b mg (na - k) bc k nb (out++(a.extract k na).reverse))
  else wM a b mg (na - k) bc na nb out)
 | _=>pure (.done (some (G4 a b out na nb),na,nb,out,mg,ac,bc))
noncomputable def BK (a b:Array Keyed) (c:BJ):StateT SortSt Sem (ForInStep BJ) :=
 if c.2.2.2.2.1>1 then wN a b (c.2.2.2.2.1 - 1) c.2.2.2.2.2.1 c.2.2.2.2.2.2 c.2.1 c.2.2.1 c.2.2.2.1 else wN a b c.2.2.2.2.1 c.2.2.2.2.2.1 c.2.2.2.2.2.2 c.2.1 c.2.2.1 c.2.2.2.1
noncomputable abbrev Jq:=Option (Array Keyed)×Nat×Nat×Array Keyed×Nat×Nat
noncomputable def BL (a b:Array Keyed) (mg:Nat) (c:Jq):StateT SortSt Sem (ForInStep Jq):=do
 let q <- elem' b (c.2.2.1 - 1)
 let p <- elem' a (c.2.1 - 1)
 let x <- lt' q p
 match x with
 | some y=>(if y=true then (do
  let p <- elem' a (c.2.1 - 1)
  if (c.2.1 - 1 == 0)=true then pure (.done (some (G4 a b (c.2.2.2.1.push p) (c.2.1 - 1) c.2.2.1),c.2.1 - 1,c.2.2.1,c.2.2.2.1.push p,c.2.2.2.2.1+1,0))
  else if c.2.2.2.2.1+1>=mg then pure (.done (none,c.2.1 - 1,c.2.2.1,c.2.2.2.1.push p,c.2.2.2.2.1+1,0))
  else pure (.yield (none,c.2.1 - 1,c.2.2.1,c.2.2.2.1.push p,c.2.2.2.2.1+1,0)))
  else (do
   let q <- elem' b (c.2.2.1 - 1)
   if (c.2.2.1 - 1 == 1)=true then pure (.done (some (EY a b (c.2.2.2.1.push q) c.2.1 (c.2.2.1 - 1)),c.2.1,c.2.2.1 - 1,c.2.2.2.1.push q,0,c.2.2.2.2.2+1))
   else if c.2.2.2.2.2+1>=mg then pure (.done (none,c.2.1,c.2.2.1 - 1,c.2.2.2.1.push q,0,c.2.2.2.2.2+1))
   else pure (.yield (none,c.2.1,c.2.2.1 - 1,c.2.2.2.1.push q,0,c.2.2.2.2.2+1))))
 | _=>pure (.done (some (G4 a b c.2.2.2.1 c.2.1 c.2.2.1),c.2.1,c.2.2.1,c.2.2.2.1,c.2.2.2.2.1,c.2.2.2.2.2))
noncomputable abbrev DH:=Option (Array Keyed)×Nat×Nat×Array Keyed×Nat
noncomputable def jB (a b:Array Keyed) (c:DH):StateT SortSt Sem (ForInStep DH):=do
 let s <- forIn [:a.size+b.size] ((none,c.2.1,c.2.2.1,c.2.2.2.1,0,0):Jq) λ_ s=>BL a b c.2.2.2.2 s
 match s.1 with
 | some r=>pure (.done (some r,s.2.1,s.2.2.1,s.2.2.2.1,c.2.2.2.2))
 | none=>do
  liftM (rule "list.sort.gallop")
  let t <- forIn [:a.size+b.size] ((none,s.2.1,s.2.2.1,s.2.2.2.1,c.2.2.2.2+1,s.2.2.2.2.1,s.2.2.2.2.2):BJ) λ_ t=>BK a b t
  match t.1 with
  | some r=>pure (.done (some r,t.2.1,t.2.2.1,t.2.2.2.1,t.2.2.2.2.1))
  | none=>do
   cJ (t.2.2.2.2.1+1)
   pure (.yield (none,t.2.1,t.2.2.1,t.2.2.2.1,t.2.2.2.2.1+1))
theorem sj (a b):lX a b=(do
 liftM (rule "list.sort.merge-hi")
 let p <- elem' a (a.size - 1)
 if (a.size - 1 == 0)=true then pure (G4 a b #[p] (a.size - 1) b.size)
 else if (b.size == 1)=true then pure (EY a b #[p] (a.size - 1) b.size)
 else do
  let st <- get
  let s <- forIn [:a.size+b.size] ((none,a.size - 1,b.size,#[p],gallopOf st):DH) λ_ c=>jB a b c
  match s.1 with
  | some r=>pure r
  | none=>liftM (unsupported (α:=Array Keyed) "internal:list.sort.merge-bound")):=by
 unfold lX
 walk_at "dl mergeHi"
 dsimp only
 refine congrArg _ (funext λ_=>?_)
 refine congrArg _ (funext λp=>?_)
 refine congrArg _ (congrArg _ ?_)
 refine congrArg _ (funext λst=>?_)
 have h1:∀ (c:DH),jB a b c=jB a b c:=λ_=>rfl
 have e:∀ (f g:Nat->DH->StateT SortSt Sem (ForInStep DH)) (c:DH) (k:DH->StateT SortSt Sem (Array Keyed)),f=g->(forIn [:a.size+b.size] c f >>= k)=(forIn [:a.size+b.size] c g >>= k):=λ_ _ _ _ h=>by rw [h]
 refine (e _ _ _ _ (funext λ_=>funext λc=>?_)).trans (congrArg _ (funext λs=>?_))
 ·obtain ⟨o,na,nb,out,mg⟩:=c
  unfold jB
  dsimp only
  have e2:∀ (f g:Nat->Jq->StateT SortSt Sem (ForInStep Jq)) (c:Jq) (k l:Jq->StateT SortSt Sem (ForInStep DH)),f=g->k=l->(forIn [:a.size+b.size] c f >>= k)=(forIn [:a.size+b.size] c g >>= l):=λ_ _ _ _ _ h h2=>by rw [h,h2]
  refine e2 _ _ _ _ _ (funext λ_=>funext λc=>?_) (funext λs=>?_)
  ·rfl
  ·obtain ⟨o,na,nb,out,ac,bc⟩:=s
   cases o with
   | some r=>rfl
   | none =>
    dsimp only
    refine congrArg _ (funext λ_=>?_)
    have e3:∀ (f g:Nat->BJ->StateT SortSt Sem (ForInStep BJ)) (c:BJ) (k l:BJ->StateT SortSt Sem (ForInStep DH)),f=g->k=l->(forIn [:a.size+b.size] c f >>= k)=(forIn [:a.size+b.size] c g >>= l):=λ_ _ _ _ _ h h2=>by rw [h,h2]
    refine e3 _ _ _ _ _ (funext λ_=>funext λc=>?_) (funext λs=>?_)
    ·rfl
    ·obtain ⟨o,s⟩:=s
     cases o <;> rfl
 ·obtain ⟨o,s⟩:=s
  cases o <;> rfl
def EZ (rk:Keyed->Int) (a b:Array Keyed) (n:Nat) (o:Option (Array Keyed)) (na nb:Nat) (out:Array Keyed):Prop:=(∃ r,o=some r/\Res rk a b r)\/(o=none/\ic rk a b out na nb/\na+nb<=n)
noncomputable def E0 (rk:Keyed->Int) (a b:Array Keyed) (n:Nat):ForInStep BJ->Prop
 | .done c=>EZ rk a b n c.1 c.2.1 c.2.2.1 c.2.2.2.1
 | .yield c=>c.1=none/\ic rk a b c.2.2.2.1 c.2.1 c.2.2.1/\c.2.1+c.2.2.1<=n
theorem n5 {st:SortSt} (W:WH rk a b out na nb) (ua:Up rk a) (ub:Up rk b) (la:1<=na) (lb:2<=nb) (ep:a[na - 1]?=some p)
 (hl:∀ (j:Nat) (r:Keyed),j<nb->b[j]?=some r->rk r<=rk p) (hn:na - 1+nb<=n) (hQ:∀ x,E0 rk a b n x->Q x st):wpS (model prog w) A E s (wL a b mg ac bc na nb out) Q st:=by
 unfold wL
 have W4:=W.gq ua la ep hl
 refine Pa (aV ep ?_)
 by_cases e9:na - 1=0
 ·rw [if_pos (by simpa using e9)]
  exact Pb (hQ _ (.inl ⟨_,rfl,W4.jA ub e9⟩))
 rw [if_neg (by simpa using e9)]
 have hL:ic rk a b (out.push p) (na - 1) nb:=⟨W4,Vn.mpr e9,lb⟩
 split
 ·exact Pb (hQ _ (.inr ⟨rfl,hL,hn⟩))
 ·exact Pb (hQ _ ⟨rfl,hL,hn⟩)
theorem n6 {st:SortSt} (hC:iX prog w A s U rk L) (hk:kindOf st=U) (ma:∀ (i:Nat) (p:Keyed),a[i]?=some p->p∈L) (mb:∀ (i:Nat) (p:Keyed),b[i]?=some p->p∈L)
 (fB:∀ {out:Array Keyed} {na nb:Nat},WH rk a b out na nb->nb=1->Res rk a b (EY a b out na nb)) (W:WH rk a b out na nb) (ua:Up rk a) (ub:Up rk b) (la:1<=na) (lb:2<=nb) (eq:b[nb - 1]?=some q)
 (hl:∀ (j:Nat) (r:Keyed),j<na->a[j]?=some r->rk r<=rk q) (hn:na+nb<=n+2) (hQ:∀ x,E0 rk a b n x->Q x st):wpS (model prog w) A E s (wM a b mg ac bc na nb out) Q st:=by
 unfold wM
 have W2:=W.gp ub (Nat.le_of_succ_le lb) eq hl
 have hpa:=W.pa
 have hpb:=W.pb
 refine Pa (aV eq ?_)
 by_cases e5:nb - 1=1
 ·rw [if_pos (by simpa using e5)]
  exact Pb (hQ _ (.inl ⟨_,rfl,fB W2 e5⟩))
 rw [if_neg (by simpa using e5)]
 have lb1:2<=nb - 1:=by lia
 obtain ⟨p,ep⟩:=some_at (xs:=a) (i:=na - 1) 'l'
 refine Pa (aV ep ?_)
 refine Pa (rZ hC hk (ma _ _ ep) mb ub _ 'l' 'l' λk hj1 hj2 hj3=>?_)
 dsimp only
 have dn2:∀ (i:Nat) (r:Keyed),i<k->b[i]?=some r->rk r<rk p:=λi r z1 e6=>hj2 i r z1 (by rw [RL]; exact e6)
 by_cases hj0:nb - 1 - k>0
 ·rw [if_pos hj0]
  have W3:=W2.rX ub (nb - 1 - k) k (VC hj1) λi j r p' z1 z2 z3 e6 e7=>P1 (ua j (na - 1) p' p (Um z3) e7 ep) (hj3 i r z1 (Nat.add_lt_add_left z2 0) (by rw [RL]; exact e6))
  by_cases e8:k=1
  ·rw [if_pos (by simpa using e8)]
   exact Pb (hQ _ (.inl ⟨_,rfl,fB W3 e8⟩))
  rw [if_neg (by simpa using e8)]
  by_cases e10:k=0
  ·rw [if_pos (by simpa using e10)]
   exact Pb (hQ _ (.inl ⟨_,rfl,W3.jz ua e10⟩))
  rw [if_neg (by simpa using e10)]
  exact n5 W3 ua ub la 'l' ep (λj r hj e6=>QO (dn2 j r hj e6)) 'l' hQ
 ·rw [if_neg hj0]
  exact n5 W2 ua ub la lb1 ep (λj r hj e6=>QO (dn2 j r 'l' e6)) 'l' hQ
theorem n8 {st:SortSt} (hC:iX prog w A s U rk L) (hk:kindOf st=U) (ma:∀ (i:Nat) (p:Keyed),a[i]?=some p->p∈L) (mb:∀ (i:Nat) (p:Keyed),b[i]?=some p->p∈L)
 (fB:∀ {out:Array Keyed} {na nb:Nat},WH rk a b out na nb->nb=1->Res rk a b (EY a b out na nb)) (ua:Up rk a) (ub:Up rk b) (hL:ic rk a b out na nb) (hn:na+nb<=n) (hQ:∀ x st',cS st st'->E0 rk a b n x->Q x st') :
 wpS (model prog w) A E s (wN a b mg ac bc na nb out) Q st:=by
 unfold wN
 have W:=hL.w
 have la:=hL.la
 have lb:=hL.lb
 have hpa:=W.pa
 have hpb:=W.pb
 obtain ⟨q,eq⟩:=some_at (xs:=b) (i:=nb - 1) 'l'
 refine Pa (fT ?_)
 have DA:=λx=>hQ x _ ((cS.refl st).min mg)
 refine Pa (aV eq ?_)
 refine Pa (rY hC (by exact hk) (mb _ _ eq) ma ua _ 'l' 'l' λk hk1 hk2 hk3=>?_)
 dsimp only
 have dn1:∀ (i:Nat) (p:Keyed),i<k->a[i]?=some p->rk p<=rk q:=λi p z1 e3=>hk2 i p z1 (by rw [RL]; exact e3)
 by_cases hk0:na - k>0
 ·rw [if_pos hk0]
  have Wk:=W.rV ua (na - k) k (VC hk1) λi j p r z1 z2 z3 e3 e4=>P1 (ub j (nb - 1) r q (Um z3) e4 eq) (QO (hk3 i p z1 (Nat.add_lt_add_left z2 0) (by rw [RL]; exact e3)))
  by_cases e4:k=0
  ·rw [if_pos (by simpa using e4)]
   exact Pb (DA _ (.inl ⟨_,rfl,Wk.jA ub e4⟩))
  rw [if_neg (by simpa using e4)]
  exact n6 hC (by exact hk) ma mb fB Wk ua ub (Vn.mpr e4) lb eq dn1 'l' DA
 ·rw [if_neg hk0]
  exact n6 hC (by exact hk) ma mb fB W ua ub la lb eq (λj r hj e3=>dn1 j r 'l' e3) 'l' DA
theorem yN {st:SortSt} (hC:iX prog w A s U rk L) (hk:kindOf st=U) (ma:∀ (i:Nat) (p:Keyed),a[i]?=some p->p∈L) (mb:∀ (i:Nat) (p:Keyed),b[i]?=some p->p∈L)
 (fB:∀ {out:Array Keyed} {na nb:Nat},WH rk a b out na nb->nb=1->Res rk a b (EY a b out na nb)) (ua:Up rk a) (ub:Up rk b) (hL:ic rk a b c.2.2.2.1 c.2.1 c.2.2.1) (hn:c.2.1+c.2.2.1<=n+1)
 (hQ:∀ o na nb out z y,EZ rk a b n o na nb out->Q (.done (o,na,nb,out,z)) st/\(o=none->Q (.yield (none,na,nb,out,y)) st)):wpS (model prog w) A E s (BL a b mg c) Q st:=by
 obtain ⟨_,na,nb,out,ac,bc⟩:=c
 unfold BL
 dsimp only at hL hn |-
 have W:=hL.w
 have la:=hL.la
 have lb:=hL.lb
 have hpa:=W.pa
 have hpb:=W.pb
 obtain ⟨q,eq⟩:=some_at (xs:=b) (i:=nb - 1) 'l'
 obtain ⟨p,ep⟩:=some_at (xs:=a) (i:=na - 1) 'l'
 refine Pa (aV eq (Pa (aV ep (Pa (lS hC hk (mb _ _ eq) (ma _ _ ep) ?_)))))
 dsimp only
 by_cases hw:rk q<rk p
 ·rw [decide_eq_true hw,if_pos rfl]
  have W1:=W.gq ua la ep λj r hj e=>P1 (ub j (nb - 1) r q (Um hj) e eq) (QO hw)
  refine Pa (aV ep ?_)
  by_cases e3:na - 1=0
  ·rw [if_pos (by simpa using e3)]
   exact Pb (hQ _ _ _ _ _ (0,0) (.inl ⟨_,rfl,W1.jA ub e3⟩)).1
  rw [if_neg (by simpa using e3)]
  have z:=hQ none (na - 1) nb (out.push p) (ac+1,0) (ac+1,0) (.inr ⟨rfl,⟨W1,Vn.mpr e3,lb⟩,by lia⟩)
  split
  ·exact Pb z.1
  ·exact Pb (z.2 rfl)
 ·rw [decide_eq_false hw,if_neg Pp]
  have W1:=W.gp ub (Nat.le_of_succ_le lb) eq λj r hj e=>P1 (ua j (na - 1) r p (Um hj) e ep) (Te.mp hw)
  refine Pa (aV eq ?_)
  by_cases e3:nb - 1=1
  ·rw [if_pos (by simpa using e3)]
   exact Pb (hQ _ _ _ _ _ (0,0) (.inl ⟨_,rfl,fB W1 e3⟩)).1
  rw [if_neg (by simpa using e3)]
  have z:=hQ none na (nb - 1) (out.push q) (0,bc+1) (0,bc+1) (.inr ⟨rfl,⟨W1,la,by lia⟩,by lia⟩)
  split
  ·exact Pb z.1
  ·exact Pb (z.2 rfl)
theorem uL {st:SortSt} (hC:iX prog w A s U rk L) (hk:kindOf st=U) (ma:∀ (i:Nat) (p:Keyed),a[i]?=some p->p∈L) (mb:∀ (i:Nat) (p:Keyed),b[i]?=some p->p∈L)
 (fB:∀ {out:Array Keyed} {na nb:Nat},WH rk a b out na nb->nb=1->Res rk a b (EY a b out na nb)) (ua:Up rk a) (ub:Up rk b) (hL:ic rk a b c.2.2.2.1 c.2.1 c.2.2.1) (hn:c.2.1+c.2.2.1<=n+1) (hm:n+1<=a.size+b.size)
 (h1:∀ r z st',cS st st'->Res rk a b r->Q (.done (some r,z)) st') (h2:∀ na nb out g st',cS st st'->ic rk a b out na nb->na+nb<=n->Q (.yield (none,na,nb,out,g)) st'):wpS (model prog w) A E s (jB a b c) Q st:=by
 unfold jB
 refine Pa (P8 (Qx (I:=λy c st'=>st'=st/\c.1=none/\ic rk a b c.2.2.2.1 c.2.1 c.2.2.1/\y+c.2.1+c.2.2.1<=n+1) (Q:=λc st'=>st'=st/\EZ rk a b n c.1 c.2.1 c.2.2.1 c.2.2.2.1) ?step ?fin ⟨rfl,rfl,hL,by dsimp only; lia⟩) ?post)
 case fin =>
  rintro c st' ⟨rfl,hc,hL',hx⟩
  exact ⟨rfl,.inr ⟨hc,hL',by lia⟩⟩
 case step =>
  rintro y c st' _ hy ⟨rfl,_,hL',hx⟩
  refine yN (n:=n - y) hC hk ma mb fB ua ub hL' (by have:=hL'.la; have:=hL'.lb; lia) λo na nb out z y hR=>⟨?_,?_⟩
  ·refine ⟨rfl,?_⟩
   rcases hR with hR | ⟨q1,q2,q3⟩
   ·exact .inl hR
   ·exact .inr ⟨q1,q2,by dsimp only; lia⟩
  ·rintro rfl
   rcases hR with ⟨_,q,_⟩ | ⟨q1,q2,q3⟩
   ·cases q
   ·exact ⟨rfl,rfl,q2,by have:=q2.la; have:=q2.lb; dsimp only; lia⟩
 case post =>
  rintro ⟨o,na,nb,out,ac,bc⟩ st' ⟨rfl,hR⟩
  dsimp only at hR |-
  rcases hR with ⟨r,rfl,hr⟩ | ⟨rfl,hL2,hn2⟩
  ·exact Pb (h1 r _ _ (.refl _) hr)
  refine Pa (RV (Qy ⟨rfl,?_⟩))
  refine Pa (P8 (Qx (I:=λy c st''=>cS st' st''/\c.1=none/\ic rk a b c.2.2.2.1 c.2.1 c.2.2.1/\c.2.1+c.2.2.1<=n) (Q:=λc st''=>cS st' st''/\EZ rk a b n c.1 c.2.1 c.2.2.1 c.2.2.2.1) ?gstep ?gfin ⟨.refl _,rfl,hL2,hn2⟩) ?gpost)
  case gfin=>exact λc st'' ⟨q1,q2,q3,q4⟩=>⟨q1,.inr ⟨q2,q3,q4⟩⟩
  case gstep =>
   rintro y c st'' _ _ ⟨q1,q2,q3,q4⟩
   have key:wpS (model prog w) A E s (BK a b c) (λx st3=>cS st'' st3/\E0 rk a b n x) st'':=by
    unfold BK
    split
    ·exact n8 hC (q1.k.trans hk) ma mb fB ua ub q3 q4 λx st3 k h=>⟨k,h⟩
    ·exact n8 hC (q1.k.trans hk) ma mb fB ua ub q3 q4 λx st3 k h=>⟨k,h⟩
   refine P8 key λx st3 ⟨k,h⟩=>?_
   cases x with
   | done c=>exact ⟨q1.trans k,h⟩
   | yield c=>exact ⟨q1.trans k,h⟩
  case gpost =>
   rintro ⟨o,na,nb,out,g,ac,bc⟩ st'' ⟨q1,hR⟩
   dsimp only at hR |-
   rcases hR with ⟨r,rfl,hr⟩ | ⟨rfl,hL3,hn3⟩
   ·exact Pb (h1 r _ _ q1 hr)
   ·exact Pa (fT (Pb (h2 _ _ _ _ _ (q1.min _) hL3 hn3)))
theorem su {st:SortSt} (hC:iX prog w A s U rk L) (hk:kindOf st=U) (ma:∀ (i:Nat) (p:Keyed),a[i]?=some p->p∈L) (mb:∀ (i:Nat) (p:Keyed),b[i]?=some p->p∈L) (ua:Up rk a) (ub:Up rk b) (na1:1<=a.size) (nb1:1<=b.size)
 (h0:∀ p q,a[0]?=some p->b[0]?=some q->rk q<=rk p) (hl:∀ (j:Nat) (p q:Keyed),a[a.size - 1]?=some p->b[j]?=some q->rk q<=rk p) (h:∀ r st',Res rk a b r->cS st st'->Q r st'):wpS (model prog w) A E s (lX a b) Q st:=by
 obtain ⟨p0,ep0⟩:=some_at (xs:=a) (i:=0) na1
 have firstB:∀ {out:Array Keyed} {na nb:Nat},WH rk a b out na nb->nb=1->Res rk a b (EY a b out na nb):=λhw e=>hw.first ua e λj p q e1 e2=>P1 (h0 p0 q ep0 e2) (ua 0 j p0 p (P7 _) ep0 e1)
 obtain ⟨pl,epl⟩:=some_at (xs:=a) (i:=a.size - 1) 'l'
 have W0:WH rk a b #[pl] (a.size - 1) b.size:=by
  have z:WH rk a b #[] a.size b.size:=⟨O9 _,O9 _,by simp,SN,by simp,by simp⟩
  exact z.gq ua na1 epl λj q _ e=>hl j pl q epl e
 rw [sj]
 refine Pa (RV (Qy ⟨rfl,?_⟩))
 refine Pa (aV epl ?_)
 by_cases e1:a.size - 1=0
 ·rw [if_pos (by simpa using e1)]
  exact Pb (h _ _ (W0.jA ub e1) (.refl _))
 rw [if_neg (by simpa using e1)]
 by_cases e2:b.size=1
 ·rw [if_pos (by simpa using e2)]
  exact Pb (h _ _ (firstB W0 e2) (.refl _))
 rw [if_neg (by simpa using e2)]
 refine Pa (QS ?_)
 refine Pa (P8 (Qx (I:=λx c st'=>cS st st'/\c.1=none/\ic rk a b c.2.2.2.1 c.2.1 c.2.2.1/\x+c.2.1+c.2.2.1<a.size+b.size) (Q:=λc st'=>cS st st'/\∃ r,c.1=some r/\Res rk a b r) ?step ?fin ⟨.refl _,rfl,⟨W0,by dsimp only; lia,by dsimp only; lia⟩,by dsimp only; lia⟩) ?post)
 case fin =>
  rintro c st' ⟨hK,hc,hL,hx⟩
  have h1:=hL.la
  lia
 case post =>
  rintro c st' ⟨hK,r,hc,hr⟩
  rw [hc]
  exact Pb (h r st' hr hK)
 case step =>
  rintro x c st1 _ hx ⟨hK,_,hL,hn⟩
  have l1:=hL.la
  have l2:=hL.lb
  exact uL (n:=a.size+b.size - x - 2) hC (hK.k.trans hk) ma mb firstB ua ub hL 'l' 'l' (λr z st' k hr=>⟨hK.trans k,r,rfl,hr⟩) λna nb out g st' k q1 q2=>⟨hK.trans k,rfl,q1,by have:=q1.la; dsimp only; lia⟩
def Seg (rk:Keyed->Int) (xs:Array Keyed) (lo hi:Nat):Prop:=∀ i j,lo<=i->i<=j->j<hi->R rk xs i<=R rk xs j
def G5 (rk:Keyed->Int) (xs:Array Keyed) (lo hi:Nat):Prop:=∀ i j,lo<=i->i<=j->j<hi->R rk xs j<=R rk xs i
structure Bs (U:SortKind) (L:List Keyed) (st:SortSt):Prop where
 perm:(arrOf st).toList.Perm L
 kind:kindOf st=U
 failed:failedOf st=none
structure Mv (st st':SortSt) (lo hi:Nat):Prop where
 out:∀ i,i<lo\/hi<=i->(arrOf st')[i]?=(arrOf st)[i]?
 pend:pendingOf st'=pendingOf st
section
variable {st st' st'':SortSt} {lo hi:Nat}
theorem Bs.size (h:Bs U L st):(arrOf st).size=L.length:=by simpa using h.perm.length_eq
theorem Bs.at (h:Bs U L st) (hi:i<L.length):∃ p,(arrOf st)[i]?=some p/\p∈L:=by
 have hs:=h.size
 refine ⟨(arrOf st)[i]'(by lia),PV _,h.perm.mem_iff.mp ?_⟩
 rw [Vz]; exact VU _
theorem Bs.arr (h:Bs U L st) (hp:xs.toList.Perm (arrOf st).toList):Bs U L (setArr st xs):=⟨hp.trans h.perm,h.kind,h.failed⟩
theorem Mv.refl:Mv st st lo hi:=⟨λ_ _=>rfl,rfl⟩
theorem Mv.trans (a:Mv st st' lo hi) (b:Mv st' st'' lo hi):Mv st st'' lo hi:=⟨λi h=>(b.out i h).trans (a.out i h),b.pend.trans a.pend⟩
theorem BN (hj:j<=xs.size) (k):R rk (mirror xs i j ((j - i) / 2)) k=if i<=k/\k<j then R rk xs (i+j - 1 - k) else R rk xs k:=by
 have e:=getElem?_mirror_all (i:=i) hj k
 by_cases h:i<=k/\k<j
 ·rw [if_pos h] at e |-; exact cz e
 ·rw [if_neg h] at e |-; exact cz e
theorem lY (hj:j<=(arrOf st).size) (h1:lo<=i) (h2:j<=hi):Mv st (setArr st (mirror (arrOf st) i j ((j - i) / 2))) lo hi :=
 ⟨λk hk=>by
   have e:=getElem?_mirror_all (i:=i) hj k
   rw [if_neg 'l'] at e; exact e,rfl⟩
theorem E2 (i) (xs):Seg rk xs i (i+1):=λa b h1 h2 h3=>by
 have:a=b:=by lia
 subst this; exact Qj _
theorem BO (h:Seg rk xs lo (lo+n)) (hn:1<=n) (hl:¬ R rk xs (lo+n)<R rk xs (lo+n - 1)):Seg rk xs lo (lo+(n+1)):=λa b h1 h2 h3=>by
 by_cases hb:b<lo+n
 ·exact h a b h1 h2 hb
 ·have e:b=lo+n:=by lia
  subst e
  by_cases ha:a=lo+n
  ·subst ha; exact Qj _
  ·exact P1 (h a (lo+n - 1) h1 'l' 'l') (Te.mp hl)
theorem gr (h:G5 rk xs lo (lo+n)) (hn:1<=n) (hl:R rk xs (lo+n)<=R rk xs (lo+n - 1)):G5 rk xs lo (lo+(n+1)):=λa b h1 h2 h3=>by
 by_cases hb:b<lo+n
 ·exact h a b h1 h2 hb
 ·have e:b=lo+n:=by lia
  subst e
  by_cases ha:a=lo+n
  ·subst ha; exact Qj _
  ·exact P1 hl (h a (lo+n - 1) h1 'l' 'l')
end
section
variable {st:SortSt} {lo nrem:Nat}
theorem lZ (hC:iX prog w A s U rk L) (hB:Bs U L st) (hi:i<L.length) (hj:j<L.length) (h:Q (some (decide (R rk (arrOf st) i<R rk (arrOf st) j))) st):wpS (model prog w) A E s (ltAt' i j) Q st:=by
 obtain ⟨p,ep,hp⟩:=hB.at hi
 obtain ⟨q,eq,hq⟩:=hB.at hj
 exact yL hC hB.kind ep eq hp hq h
theorem eU (h:Q () (setArr st (mirror (arrOf st) i j ((j - i) / 2)))):wpS (model prog w) A E s (reverseSlice' i j) Q st :=
 Ra (f:=λs=>setArr s (mirror (arrOf s) i j ((j - i) / 2))) h
noncomputable abbrev Mn:=Option (Option Nat)×Nat
noncomputable def asc (lo a nrem:Nat):StateT SortSt Sem Mn :=
 forIn [a:nrem] ((none,a):Mn) λ_ c=>ltAt' (lo+c.2) (lo+c.2 - 1) >>= λx=>match x with
  | some smaller=>if smaller=true then pure (QN (none,c.2)) else pure (Qi (none,c.2+1))
  | _=>pure (QN (some none,c.2))
theorem wO (hC:iX prog w A s U rk L) (hB:Bs U L st) (hn:lo+nrem<=L.length) (h1:1<=a) (h2:a<=nrem) (hs:Seg rk (arrOf st) lo (lo+a))
 (h:∀ n,a<=n->n<=nrem->Seg rk (arrOf st) lo (lo+n)->(n=nrem\/R rk (arrOf st) (lo+n)<R rk (arrOf st) (lo+n - 1))->Q (none,n) st):wpS (model prog w) A E s (asc lo a nrem) Q st:=by
 unfold asc
 refine Qx (I:=λx c st'=>st'=st/\c=(none,x)/\Seg rk (arrOf st) lo (lo+x)) ?step ?fin ⟨rfl,rfl,hs⟩
 case fin =>
  rintro c st' ⟨rfl,rfl,hs'⟩
  rw [show max a nrem=nrem by lia] at hs' |-
  exact h nrem h2 (O9 _) hs' (.inl rfl)
 case step =>
  rintro x c st' hax hxn ⟨rfl,rfl,hs'⟩
  refine Pa (lZ hC hB (by dsimp only; lia) (by dsimp only; lia) ?_)
  dsimp only
  by_cases hl:R rk (arrOf st') (lo+x)<R rk (arrOf st') (lo+x - 1)
  ·rw [decide_eq_true hl,if_pos rfl]
   exact Pb (h x hax 'l' hs' (.inr hl))
  ·rw [decide_eq_false hl,if_neg Pp]
   exact Pb ⟨rfl,rfl,BO hs' 'l' hl⟩
noncomputable abbrev Mp:=Option (Option Nat)×Nat×Nat
noncomputable def Mq (lo n nrem:Nat):StateT SortSt Sem Mp :=
 forIn [n:nrem] ((none,n,0):Mp) λ_ c=>ltAt' (lo+c.2.1) (lo+c.2.1 - 1) >>= λx=>match x with
  | some smaller=>if smaller=true then
   (if c.2.2>0 then reverseSlice' (lo+c.2.1 - (c.2.2+1)) (lo+c.2.1) >>= λ_=>pure (Qi (none,c.2.1+1,0)) else pure (Qi (none,c.2.1+1,0)))
   else ltAt' (lo+c.2.1 - 1) (lo+c.2.1) >>= λy=>match y with
    | some larger=>if larger=true then pure (QN (none,c.2.1,c.2.2)) else pure (Qi (none,c.2.1+1,c.2.2+1))
    | _=>pure (QN (some none,c.2.1,c.2.2))
  | _=>pure (QN (some none,c.2.1,c.2.2))
theorem i0 (hj:j<=xs.size) (he:∀ k,i<=k->k<j->R rk xs k=R rk xs (j - 1)) (k):R rk (mirror xs i j ((j - i) / 2)) k=R rk xs k:=by
 rw [BN hj]
 split
 ·rw [he _ 'l' 'l',he k 'l' 'l']
 ·rfl
theorem E3 (hC:iX prog w A s U rk L) (hB:Bs U L st) (hn:lo+nrem<=L.length) (h1:1<=n) (h2:n<=nrem) (hs:G5 rk (arrOf st) lo (lo+n))
 (h:∀ m neq st',Bs U L st'->Mv st st' lo (lo+nrem)->n<=m->m<=nrem->G5 rk (arrOf st') lo (lo+m)->neq+1<=m->(∀ i,lo+m - (neq+1)<=i->i<lo+m->R rk (arrOf st') i=R rk (arrOf st') (lo+m - 1))->Q (none,m,neq) st') :
 wpS (model prog w) A E s (Mq lo n nrem) Q st:=by
 unfold Mq
 refine Qx (I:=λx c st'=>∃ neq,c=(none,x,neq)/\Bs U L st'/\Mv st st' lo (lo+nrem)/\G5 rk (arrOf st') lo (lo+x)/\neq+1<=x/\(∀ i,lo+x - (neq+1)<=i->i<lo+x->R rk (arrOf st') i=R rk (arrOf st') (lo+x - 1))) ?step ?fin
  ⟨0,rfl,hB,.refl,hs,h1,λi a1 a2=>by congr 1; lia⟩
 case fin =>
  rintro c st' ⟨neq,rfl,jM,hM',hs',hq,he⟩
  rw [show max n nrem=nrem by lia] at hs' hq he |-
  exact h nrem neq st' jM hM' h2 (O9 _) hs' hq he
 case step =>
  rintro x c st' hax hxn ⟨neq,rfl,jM,hM',hs',hq,he⟩
  have hsz:=jM.size
  refine Pa (lZ hC jM (by dsimp only; lia) (by dsimp only; lia) ?_)
  dsimp only
  by_cases hl:R rk (arrOf st') (lo+x)<R rk (arrOf st') (lo+x - 1)
  ·rw [decide_eq_true hl,if_pos rfl]
   by_cases hq0:neq>0
   ·rw [if_pos hq0]
    have key:=i0 (rk:=rk) (xs:=arrOf st') (i:=lo+x - (neq+1)) (j:=lo+x) 'l' he
    refine Pa (eU (Pb ⟨0,rfl,jM.arr (Sv.mp (TX _ _ _ _)),hM'.trans (lY 'l' 'l' 'l'),?_,by lia,λi a1 a2=>by congr 1; lia⟩))
    refine gr (λa b z1 z2 z3=>?_) 'l' ?_
    ·show R rk (mirror _ _ _ _) b<=R rk (mirror _ _ _ _) a
     rw [key,key]; exact hs' a b z1 z2 z3
    ·show R rk (mirror _ _ _ _) _<=R rk (mirror _ _ _ _) _
     rw [key,key]; lia
   ·rw [if_neg hq0]
    exact Pb ⟨0,rfl,jM,hM',gr hs' 'l' 'l',by lia,λi a1 a2=>by congr 1; lia⟩
  ·rw [decide_eq_false hl,if_neg Pp]
   refine Pa (lZ hC jM 'l' 'l' ?_)
   dsimp only
   by_cases hg:R rk (arrOf st') (lo+x - 1)<R rk (arrOf st') (lo+x)
   ·rw [decide_eq_true hg,if_pos rfl]
    exact Pb (h x neq st' jM hM' hax 'l' hs' hq he)
   ·rw [decide_eq_false hg,if_neg Pp]
    have heq:R rk (arrOf st') (lo+x)=R rk (arrOf st') (lo+x - 1):=by lia
    refine Pb ⟨neq+1,rfl,jM,hM',gr hs' 'l' 'l',by lia,λi a1 a2=>?_⟩
    rw [show lo+(x+1) - 1=lo+x by lia]
    by_cases hi:i=lo+x
    ·rw [hi]
    ·rw [heq]; exact he i 'l' 'l'
noncomputable def countRun':Nat->Nat->StateT SortSt Sem (Option Nat):=sortPriv% PySem.Builtin.countRun
theorem i6 {Q:Option Nat->SortSt->Prop} (hC:iX prog w A s U rk L) (hB:Bs U L st) (hn:lo+nrem<=L.length) (h1:1<=n) (h2:n<=nrem) (hs:G5 rk (arrOf st) lo (lo+n))
 (h:∀ m st',Bs U L st'->Mv st st' lo (lo+nrem)->1<=m->m<=nrem->Seg rk (arrOf st') lo (lo+m)->Q (some m) st') :
 wpS (model prog w) A E s (asc lo n nrem) (λc st'=>c.1=none/\Q (some c.2) st') (setArr st (mirror (arrOf st) lo (lo+n) ((lo+n - lo) / 2))):=by
 have hsz:=hB.size
 have jM:=hB.arr (Sv.mp (TX (arrOf st) lo (lo+n) ((lo+n - lo) / 2)))
 refine wO hC jM hn h1 h2 (λa b z1 z2 z3=>?_) λm m1 m2 ms _=>⟨rfl,h m _ jM (lY 'l' (O9 _) 'l') 'l' m2 ms⟩
 show R rk (mirror _ _ _ _) a<=R rk (mirror _ _ _ _) b
 rw [BN 'l',BN 'l',if_pos 'l',if_pos 'l']
 exact hs _ _ 'l' 'l' 'l'
local macro_rules | `(tactic| walk_at "dl countRun")=>do
 let i:=Sj (R0 `PySem.Builtin.List.W1All `PySem.Builtin.countRun)
 `(tactic| delta $i)
theorem wpS_countRun (hC:iX prog w A s U rk L) (hB:Bs U L st) (hn:lo+nrem<=L.length) (h1:1<=nrem)
 (h:∀ m st',Bs U L st'->Mv st st' lo (lo+nrem)->1<=m->m<=nrem->Seg rk (arrOf st') lo (lo+m)->Q (some m) st'):wpS (model prog w) A E s (countRun' lo nrem) Q st:=by
 unfold countRun'
 walk_at "dl countRun"
 dsimp only
 have hsz:=hB.size
 refine Pa (show wpS _ _ _ _ (asc lo 1 nrem) _ _ from wO hC hB hn (O9 _) h1 (E2 lo _) λn n1 n2 ns nor=>?_)
 dsimp only
 by_cases hnn:n=nrem
 ·rw [if_pos (by simpa using hnn)]
  exact Pb (h n st hB .refl n1 n2 ns)
 rw [if_neg (by simpa using hnn)]
 have hlt:=nor.resolve_left hnn
 have rest:∀ (st1:SortSt),Bs U L st1->Mv st st1 lo (lo+nrem)->G5 rk (arrOf st1) lo (lo+(n+1))->wpS (model prog w) A E s (Mq lo (n+1) nrem) (λc st2=>Bs U L st2/\Mv st st2 lo (lo+nrem)/\c.1=none/\n+1<=c.2.1/\c.2.1<=nrem/\G5 rk (arrOf st2) lo (lo+c.2.1)/\c.2.2+1<=c.2.1/\(∀ i,lo+c.2.1 - (c.2.2+1)<=i->i<lo+c.2.1->R rk (arrOf st2) i=R rk (arrOf st2) (lo+c.2.1 - 1))) st1 :=
  λst1 hB1 hM1 hs1=>E3 hC hB1 hn 'l' 'l' hs1 λm neq st2 a1 a2 a3 a4 a5 a6 a7=>⟨a1,hM1.trans a2,rfl,a3,a4,a5,a6,a7⟩
 by_cases hgt:n>1
 ·rw [if_pos hgt]
  refine Pa (lZ hC hB 'l' 'l' ?_)
  dsimp only
  by_cases hrose:R rk (arrOf st) lo<R rk (arrOf st) (lo+n - 1)
  ·rw [decide_eq_true hrose,if_pos rfl]
   exact Pb (h n st hB .refl n1 n2 ns)
  ·rw [decide_eq_false hrose,if_neg Pp]
   have hall:∀ k,lo<=k->k<lo+n->R rk (arrOf st) k=R rk (arrOf st) (lo+n - 1):=λk z1 z2=>by
    have a1:=ns lo k (O9 _) z1 z2
    have a2:=ns k (lo+n - 1) z1 'l' 'l'
    lia
   have key:=i0 (rk:=rk) (xs:=arrOf st) (i:=lo) (j:=lo+n) 'l' hall
   refine Pa (eU ?_)
   refine Pa (RV (Qy ⟨rfl,?_⟩))
   refine Pa (P8 (show wpS _ _ _ _ (Mq lo (n+1) nrem) _ _ from rest _ (hB.arr (Sv.mp (TX _ _ _ _))) (lY 'l' (O9 _) 'l') (gr (λa b z1 z2 z3=>?_) 'l' ?_)) λc st2 hc=>?_)
   ·show R rk (mirror _ _ _ _) b<=R rk (mirror _ _ _ _) a
    rw [key,key,hall b 'l' z3,hall a z1 'l']; exact Qj _
   ·show R rk (mirror _ _ _ _) _<=R rk (mirror _ _ _ _) _
    rw [key,key]; lia
   ·obtain ⟨r,m,neq⟩:=c
    obtain ⟨b1,b2,b3,b4,b5,b6,b7,b8⟩:=hc
    dsimp only at b3 b4 b5 b6 b7 b8 |-
    rw [b3]
    dsimp only
    by_cases hq0:neq>0
    ·rw [if_pos hq0]
     have hsz2:=b1.size
     have key2:=i0 (rk:=rk) (xs:=arrOf st2) (i:=lo+m - (neq+1)) (j:=lo+m) 'l' b8
     refine Pa (eU (Pa (eU (Pa (P8 (show wpS _ _ _ _ (asc lo m nrem) _ _ from i6 (Q:=Q) hC (b1.arr (Sv.mp (TX _ _ _ _))) hn 'l' b5 (λa b z1 z2 z3=>?_) λk st3 c1 c2 c3 c4 c5=>h k st3 c1 ((b2.trans (lY 'l' 'l' 'l')).trans c2) c3 c4 c5) λc st4 hc=>?_)))))
     ·show R rk (mirror _ _ _ _) b<=R rk (mirror _ _ _ _) a
      rw [key2,key2]; exact b6 a b z1 z2 z3
     ·obtain ⟨r,k⟩:=c
      obtain ⟨e,hQ⟩:=hc
      dsimp only at e hQ |-
      rw [e]
      exact Pb hQ
    ·rw [if_neg hq0]
     refine Pa (eU (Pa (P8 (show wpS _ _ _ _ (asc lo m nrem) _ _ from i6 (Q:=Q) hC b1 hn 'l' b5 b6 λk st3 c1 c2 c3 c4 c5=>h k st3 c1 (b2.trans c2) c3 c4 c5) λc st4 hc=>?_)))
     obtain ⟨r,k⟩:=c
     obtain ⟨e,hQ⟩:=hc
     dsimp only at e hQ |-
     rw [e]
     exact Pb hQ
 ·rw [if_neg hgt]
  have e1:n=1:=by lia
  subst e1
  refine Pa (RV (Qy ⟨rfl,?_⟩))
  refine Pa (P8 (show wpS _ _ _ _ (Mq lo (1+1) nrem) _ _ from rest st hB .refl (gr (λa b z1 z2 z3=>?_) (O9 _) (QO hlt))) λc st2 hc=>?_)
  ·have:a=b:=by lia
   subst this; exact Qj _
  ·obtain ⟨r,m,neq⟩:=c
   obtain ⟨b1,b2,b3,b4,b5,b6,b7,b8⟩:=hc
   dsimp only at b3 b4 b5 b6 b7 b8 |-
   rw [b3]
   dsimp only
   by_cases hq0:neq>0
   ·rw [if_pos hq0]
    have hsz2:=b1.size
    have key2:=i0 (rk:=rk) (xs:=arrOf st2) (i:=lo+m - (neq+1)) (j:=lo+m) 'l' b8
    refine Pa (eU (Pa (eU (Pa (P8 (show wpS _ _ _ _ (asc lo m nrem) _ _ from i6 (Q:=Q) hC (b1.arr (Sv.mp (TX _ _ _ _))) hn 'l' b5 (λa b z1 z2 z3=>?_) λk st3 c1 c2 c3 c4 c5=>h k st3 c1 ((b2.trans (lY 'l' 'l' 'l')).trans c2) c3 c4 c5) λc st4 hc=>?_)))))
    ·show R rk (mirror _ _ _ _) b<=R rk (mirror _ _ _ _) a
     rw [key2,key2]; exact b6 a b z1 z2 z3
    ·obtain ⟨r,k⟩:=c
     obtain ⟨e,hQ⟩:=hc
     dsimp only at e hQ |-
     rw [e]
     exact Pb hQ
   ·rw [if_neg hq0]
    refine Pa (eU (Pa (P8 (show wpS _ _ _ _ (asc lo m nrem) _ _ from i6 (Q:=Q) hC b1 hn 'l' b5 b6 λk st3 c1 c2 c3 c4 c5=>h k st3 c1 (b2.trans c2) c3 c4 c5) λc st4 hc=>?_)))
    obtain ⟨r,k⟩:=c
    obtain ⟨e,hQ⟩:=hc
    dsimp only at e hQ |-
    rw [e]
    exact Pb hQ
end
section
variable {st:SortSt} {lo:Nat}
theorem G6 (hs:src<xs.size) (hd:d<=src) (k):R rk (bubble xs src d) k=if k=src - d then R rk xs src else if src - d<k/\k<=src then R rk xs (k - 1) else R rk xs k:=by
 have e:=getElem?_bubble hs d hd k
 by_cases h1:k=src - d
 ·rw [if_pos h1] at e |-; exact cz e
 ·rw [if_neg h1] at e |-
  by_cases h2:src - d<k/\k<=src
  ·rw [if_pos h2] at e |-; exact cz e
  ·rw [if_neg h2] at e |-; exact cz e
theorem BP (h:Q () (setArr st (bubble (arrOf st) i (i - j)))):wpS (model prog w) A E s (moveDown' i j) Q st :=
 Ra (f:=λs=>setArr s (bubble (arrOf s) i (i - j))) h
noncomputable def binarySort':Nat->Nat->Nat->StateT SortSt Sem Bool:=sortPriv% PySem.Builtin.binarySort
local macro_rules | `(tactic| walk_at "dl binarySort")=>do
 let i:=Sj (R0 `PySem.Builtin.List.W1All `PySem.Builtin.binarySort)
 `(tactic| delta $i)
theorem wpS_binarySort (hC:iX prog w A s U rk L) (hB:Bs U L st) (hn:lo+n<=L.length) (hok:ok<=n) (hs:Seg rk (arrOf st) lo (lo+ok))
 (h:∀ st',Bs U L st'->Mv st st' lo (lo+n)->Seg rk (arrOf st') lo (lo+n)->Q true st'):wpS (model prog w) A E s (binarySort' lo n ok) Q st:=by
 unfold binarySort'
 walk_at "dl binarySort"
 dsimp only
 refine Pa (P8 (Qx (I:=λk c st'=>c.1=none/\Bs U L st'/\Mv st st' lo (lo+n)/\Seg rk (arrOf st') lo (lo+min k n)) (Q:=λc st'=>c.1=none/\Bs U L st'/\Mv st st' lo (lo+n)/\Seg rk (arrOf st') lo (lo+n)) ?step ?fin ?init) ?post)
 case post =>
  rintro ⟨c,u⟩ st' ⟨hc,jM,hM',hs'⟩
  dsimp only at hc |-
  rw [hc]
  exact Pb (h st' jM hM' hs')
 case init =>
  refine ⟨rfl,hB,.refl,λa b z1 z2 z3=>?_⟩
  by_cases h1:ok=0
  ·have:a=b:=by lia
   subst this; exact Qj _
  ·exact hs a b z1 z2 'l'
 case fin =>
  rintro c st' ⟨hc,jM,hM',hs'⟩
  rw [show min (max (max ok 1) n) n=n by lia] at hs'
  exact ⟨hc,jM,hM',hs'⟩
 case step =>
  rintro k ⟨c,u⟩ st' hak hkn ⟨rfl,jM,hM',hs'⟩
  rw [show min k n=k by lia] at hs'
  have hsz:=jM.size
  refine Pa (P8 (Qx (I:=λx c st2=>st2=st'/\∃ l r,c=(none,l,r)/\l<=r/\r<=k/\r - l<=k - x/\(∀ i,i<l->R rk (arrOf st') (lo+i)<=R rk (arrOf st') (lo+k))/\(∀ i,r<=i->i<k->R rk (arrOf st') (lo+k)<R rk (arrOf st') (lo+i)))
   (Q:=λc st2=>st2=st'/\∃ l r,c=(none,l,r)/\l<=k/\(∀ i,i<l->R rk (arrOf st') (lo+i)<=R rk (arrOf st') (lo+k))/\(∀ i,l<=i->i<k->R rk (arrOf st') (lo+k)<R rk (arrOf st') (lo+i))) ?istep ?ifin ⟨rfl,0,k,rfl,by lia,by lia,by lia,λi hi=>by lia,λi h1 h2=>by lia⟩) ?ipost)
  case ifin =>
   rintro c st2 ⟨rfl,l,r,rfl,a1,a2,a3,a4,a5⟩
   have:l=r:=by lia
   subst this
   exact ⟨rfl,l,l,rfl,a2,a4,a5⟩
  case istep =>
   rintro x c st2 _ hx ⟨rfl,l,r,rfl,a1,a2,a3,a4,a5⟩
   dsimp only
   by_cases hge:l>=r
   ·rw [if_pos hge]
    have:l=r:=by lia
    subst this
    exact Pb ⟨rfl,l,l,rfl,a2,a4,a5⟩
   ·rw [if_neg hge]
    refine Pa (lZ hC jM 'l' 'l' ?_)
    dsimp only
    by_cases hl:R rk (arrOf st2) (lo+k)<R rk (arrOf st2) (lo+(l+r) / 2)
    ·rw [decide_eq_true hl,if_pos rfl]
     refine Pb ⟨rfl,l,(l+r) / 2,rfl,by lia,by lia,by lia,a4,λi h1 h2=>?_⟩
     exact Int.lt_of_lt_of_le hl (hs' _ _ 'l' 'l' 'l')
    ·rw [decide_eq_false hl,if_neg Pp]
     refine Pb ⟨rfl,(l+r) / 2+1,r,rfl,by lia,by lia,by lia,λi h1=>?_,a5⟩
     exact P1 (hs' (lo+i) (lo+(l+r) / 2) 'l' 'l' 'l') (Te.mp hl)
  case ipost =>
   rintro c st2 ⟨rfl,l,r,rfl,hlk,a4,a5⟩
   dsimp only
   have e1:lo+k - (lo+l)=k - l:=by lia
   refine Pa (BP (Pb ⟨rfl,jM.arr (Sv.mp (bubble_perm _ _ _)),?_,?_⟩))
   ·refine hM'.trans ⟨λi hi=>?_,rfl⟩
    have e:=getElem?_bubble (xs:=arrOf st2) (src:=lo+k) 'l' (lo+k - (lo+l)) 'l' i
    rw [if_neg 'l',if_neg 'l'] at e
    exact e
   ·rw [show min (k+1) n=k+1 by lia]
    intro i j hi hij hj
    show R rk (bubble (arrOf st2) (lo+k) (lo+k - (lo+l))) i<=R rk (bubble (arrOf st2) (lo+k) (lo+k - (lo+l))) j
    rw [G6 'l' 'l',G6 'l' 'l',e1]
    have sub:∀ i,lo<=i->lo+(i - lo)=i:=λi hi=>by lia
    have f4:∀ i,lo<=i->i<lo+l->R rk (arrOf st2) i<=R rk (arrOf st2) (lo+k):=λi h1 h2=>by have:=a4 (i - lo) 'l'; rwa [sub i h1] at this
    have f5:∀ i,lo+l<=i->i<lo+k->R rk (arrOf st2) (lo+k)<R rk (arrOf st2) i:=λi h1 h2=>by have:=a5 (i - lo) 'l' 'l'; rwa [sub i 'l'] at this
    repeat' split
    all_goals first
     | (exfalso; lia)
     | exact Qj _
     | exact f4 _ 'l' 'l'
     | exact QO (f5 _ 'l' 'l')
     | exact hs' _ _ 'l' 'l' 'l'
theorem n9:∀ (l:List Keyed) (k sa:Nat) (A:Array Keyed),sa+k+l.length<=A.size->((l.zipIdx k).foldl (λa (x:Keyed×Nat)=>a.setIfInBounds (sa+x.2) x.1) A).size=A.size /\
 ∀ i:Nat,((l.zipIdx k).foldl (λa (x:Keyed×Nat)=>a.setIfInBounds (sa+x.2) x.1) A)[i]?=if sa+k<=i/\i<sa+k+l.length then l[i - (sa+k)]? else A[i]?
 | [],k,sa,A,h=>⟨rfl,λi=>by rw [if_neg (by simp only [Q5]; lia)]; rfl⟩
 | x::l,k,sa,A,h=>by
  rw [P4] at h
  obtain ⟨h1,h2⟩:=n9 l (k+1) sa (A.setIfInBounds (sa+k) x) (by rw [Array.size_setIfInBounds]; lia)
  rw [VX,RJ]
  refine ⟨by rw [h1,Array.size_setIfInBounds],λi=>?_⟩
  rw [h2 i,P4]
  by_cases c1:sa+(k+1)<=i/\i<sa+(k+1)+l.length
  ·rw [if_pos c1,if_pos 'l',show i - (sa+k)=i - (sa+(k+1))+1 by lia,List.getElem?_cons_succ]
  ·rw [if_neg c1]
   by_cases c2:i=sa+k
   ·subst c2
    rw [if_pos 'l',Nat.sub_self,List.getElem?_cons_zero,Array.getElem?_setIfInBounds_self_of_lt 'l']
   ·rw [if_neg 'l',Array.getElem?_setIfInBounds_ne 'l']
end
noncomputable def iz:Nat->StateT SortSt Sem Bool:=sortPriv% PySem.Builtin.mergeAt
local macro_rules | `(tactic| walk_at "dl mergeAt")=>do
 let i:=Sj (R0 `PySem.Builtin.List.W1All `PySem.Builtin.mergeAt)
 `(tactic| delta $i)
section
variable {st:SortSt}
theorem E4 (h:Q ⟨⟩ st1):wpS M A E s (set st1:StateT SortSt Sem PUnit) Q st:=by
 unfold wpS; rw [StateT.run_set]; exact O8 ⟨rfl,h⟩
theorem yO (hC:iX prog w A s U rk L) (hk:kindOf st=U) (hkey:key∈L) (mx:∀ (i:Nat) (p:Keyed),xs[i]?=some p->p∈L) (hn:base+n<=xs.size) (us:Seg rk xs base (base+n)) (hh:hint<n)
 (h:∀ k,k<=n->(∀ i,base<=i->i<base+k->R rk xs i<=rk key)->(∀ i,base+k<=i->i<base+n->rk key<R rk xs i)->Q (some k) st):wpS (model prog w) A E s (cQ false key xs base n hint) Q st:=by
 obtain ⟨k,h1,h2⟩:=lV (λi=>R rk xs (base+i)) (rk key) n λi j hij hj=>us _ _ 'l' 'l' 'l'
 refine fS hC hk hkey (λi hi=>⟨xs[base+i]'(by lia),PV _,mx _ _ (PV _)⟩) (λi hi=>by simp only [Qp,if_false]; exact h2 i hi) h1 hh (h k h1 (λi hi hk=>?_) λi hi hk=>?_)
 ·have:=(h2 (i - base) 'l').mpr 'l'
  rwa [show base+(i - base)=i by lia] at this
 ·have:=mt (h2 (i - base) 'l').mp 'l'
  rw [show base+(i - base)=i by lia] at this
  lia
theorem yP (hC:iX prog w A s U rk L) (hk:kindOf st=U) (hkey:key∈L) (mx:∀ (i:Nat) (p:Keyed),xs[i]?=some p->p∈L) (hn:base+n<=xs.size) (us:Seg rk xs base (base+n)) (hh:hint<n)
 (h:∀ k,k<=n->(∀ i,base<=i->i<base+k->R rk xs i<rk key)->(∀ i,base+k<=i->i<base+n->rk key<=R rk xs i)->Q (some k) st):wpS (model prog w) A E s (cQ true key xs base n hint) Q st:=by
 obtain ⟨k,h1,h2⟩:=lW (λi=>R rk xs (base+i)) (rk key) n λi j hij hj=>us _ _ 'l' 'l' 'l'
 refine fS hC hk hkey (λi hi=>⟨xs[base+i]'(by lia),PV _,mx _ _ (PV _)⟩) (λi hi=>by simp only [if_true]; exact h2 i hi) h1 hh (h k h1 (λi hi hk=>?_) λi hi hk=>?_)
 ·have:=(h2 (i - base) 'l').mpr 'l'
  rwa [show base+(i - base)=i by lia] at this
 ·have:=mt (h2 (i - base) 'l').mp 'l'
  rw [show base+(i - base)=i by lia] at this
  lia
theorem eV {xs:Array Keyed} (h:(xs.extract i j)[m]?=some p):xs[i+m]?=some p/\i+m<j:=by
 rw [Uk] at h
 split at h
 ·exact ⟨h,by lia⟩
 ·cases h
theorem wQ {lo hi i j:Nat} (h:Seg rk xs lo hi) (h1:lo<=i) (h2:j<=hi):Up rk (xs.extract i j):=λa b p q hab e1 e2=>by
 obtain ⟨f1,g1⟩:=eV e1
 obtain ⟨f2,g2⟩:=eV e2
 have:=h (i+a) (i+b) 'l' 'l' 'l'
 rwa [dI f1,dI f2] at this
theorem sA (hC:iX prog w A s U rk L) (hB:Bs U L st) (p1:(pendingOf st)[i]?=some (sa,na,pw)) (p2:(pendingOf st)[i+1]?=some (sa+na,nb,pw2)) (h1:1<=na) (h2:1<=nb) (hz:sa+na+nb<=L.length)
 (s1:Seg rk (arrOf st) sa (sa+na)) (s2:Seg rk (arrOf st) (sa+na) (sa+na+nb))
 (h:∀ st',Bs U L st'->(∀ j,j<sa\/sa+na+nb<=j->(arrOf st')[j]?=(arrOf st)[j]?)->pendingOf st'=((pendingOf st).setIfInBounds i (sa,na+nb,pw)).eraseIdxIfInBounds (i+1)->Seg rk (arrOf st') sa (sa+na+nb)->Q true st') :
 wpS (model prog w) A E s (iz i) Q st:=by
 unfold iz
 walk_at "dl mergeAt"
 dsimp only
 refine Pa (QS ?_)
 rw [p1,p2]
 dsimp only
 have hsz:=hB.size
 have mL:∀ (i:Nat) (p:Keyed),(arrOf st)[i]?=some p->p∈L:=λi p e=>hB.perm.mem_iff.mp (by
  obtain ⟨h1,h2⟩:=Sw.mp e
  rw [<- h2,Vz]; exact VU _)
 refine Pa (E4 ?_)
 obtain ⟨key,ek,hkL⟩:=hB.at (i:=sa+na) 'l'
 refine Pa (aV ek ?_)
 have rkey:R rk (arrOf st) (sa+na)=rk key:=dI ek
 refine Pa (yO hC hB.kind hkL mL (by show _<=(arrOf st).size; lia) s1 'l' λk k1 k2 k3=>?_)
 dsimp only
 by_cases e0:na - k=0
 ·rw [if_pos (by simpa using e0)]
  refine Pb (h _ ⟨hB.perm,hB.kind,hB.failed⟩ (λ_ _=>rfl) rfl λa b z1 z2 z3=>?_)
  by_cases hb:b<sa+na
  ·exact s1 a b z1 z2 hb
  ·by_cases ha:sa+na<=a
   ·exact s2 a b ha z2 z3
   ·refine P1 (k2 a z1 'l') ?_
    rw [<- rkey]; exact s2 (sa+na) b (O9 _) 'l' z3
 rw [if_neg (by simpa using e0)]
 obtain ⟨key2,ek2,hk2L⟩:=hB.at (i:=sa+k+(na - k) - 1) 'l'
 have rkey2:R rk (arrOf st) (sa+na - 1)=rk key2:=by rw [<- dI (rk:=rk) ek2]; congr 1; lia
 refine Pa (aV ek2 ?_)
 refine Pa (yP hC (by exact hB.kind) hk2L mL (by show _<=(arrOf st).size; lia) s2 'l' λm m1 m2 m3=>?_)
 dsimp only
 by_cases e1:m=0
 ·exfalso
  have a1:=m3 (sa+na) 'l' 'l'
  have a2:=k3 (sa+na - 1) 'l' 'l'
  rw [rkey2] at a2; rw [rkey] at a1; lia
 rw [if_neg (by simpa using e1)]
 have mx:∀ (i:Nat) (p:Keyed),((arrOf st).extract (sa+k) (sa+na))[i]?=some p->p∈L:=λi p e=>mL _ p (eV e).1
 have my:∀ (i:Nat) (p:Keyed),((arrOf st).extract (sa+na) (sa+na+m))[i]?=some p->p∈L:=λi p e=>mL _ p (eV e).1
 have ux:Up rk ((arrOf st).extract (sa+k) (sa+na)):=wQ s1 'l' (O9 _)
 have uy:Up rk ((arrOf st).extract (sa+na) (sa+na+m)):=wQ s2 (O9 _) 'l'
 have zx:((arrOf st).extract (sa+k) (sa+na)).size=na - k:=by rw [Array.size_extract]; lia
 have zy:((arrOf st).extract (sa+na) (sa+na+m)).size=m:=by rw [Array.size_extract]; lia
 have h0:∀ p q,((arrOf st).extract (sa+k) (sa+na))[0]?=some p->((arrOf st).extract (sa+na) (sa+na+m))[0]?=some q->rk q<=rk p:=λp q e2 e3=>by
  obtain ⟨f1,g1⟩:=eV e2
  obtain ⟨f2,g2⟩:=eV e3
  have a1:=k3 (sa+k+0) 'l' 'l'
  rw [dI f1] at a1
  have a2:rk q=rk key:=by rw [<- rkey,<- dI (rk:=rk) f2]; rfl
  lia
 have hl:∀ (j:Nat) (p q:Keyed),((arrOf st).extract (sa+k) (sa+na))[((arrOf st).extract (sa+k) (sa+na)).size - 1]?=some p->((arrOf st).extract (sa+na) (sa+na+m))[j]?=some q->rk q<=rk p:=λj p q e2 e3=>by
  rw [zx] at e2
  obtain ⟨f1,g1⟩:=eV e2
  obtain ⟨f2,g2⟩:=eV e3
  have a1:=m2 (sa+na+j) 'l' 'l'
  rw [dI f2] at a1
  have a2:rk p=rk key2:=by rw [<- rkey2,<- dI (rk:=rk) f1]; congr 1; lia
  lia
 have fin:∀ (r:Array Keyed) (st2:SortSt),Res rk ((arrOf st).extract (sa+k) (sa+na)) ((arrOf st).extract (sa+na) (sa+na+m)) r->kindOf st2=kindOf st->arrOf st2=arrOf st->pendingOf st2=((pendingOf st).setIfInBounds i (sa,na+nb,pw)).eraseIdxIfInBounds (i+1)->failedOf st2=failedOf st ->
  Q true (setArr st2 (Tc (λa (x:Keyed×Nat)=>a.setIfInBounds (sa+k+x.2) x.1) (arrOf st2) r.toList.zipIdx)):=λr st2 hr e2 e3 e4 e5=>by
  have hlen:r.toList.length=na - k+m:=by
   have:=hr.1.length_eq
   simp only [PY,Qo,zx,zy] at this |-
   exact this
  obtain ⟨w1,w2⟩:=n9 r.toList 0 (sa+k) (arrOf st) 'l'
  generalize hW:Tc (λa (x:Keyed×Nat)=>a.setIfInBounds (sa+k+x.2) x.1) (arrOf st) r.toList.zipIdx=W at w1 w2
  rw [e3,hW]
  have rW:∀ i,sa+k<=i->i<sa+na+m->R rk W i=R rk r (i - (sa+k)):=λi z1 z2=>by
   refine cz ?_
   rw [w2,if_pos 'l',Qg]; rfl
  have rO:∀ i,(i<sa+k\/sa+na+m<=i)->R rk W i=R rk (arrOf st) i:=λi z=>by
   refine cz ?_
   rw [w2,if_neg 'l']
  have elt:∀ i,sa+k<=i->i<sa+na+m->∃ t,sa+k<=t/\t<sa+na+m/\R rk W i=R rk (arrOf st) t:=λi z1 z2=>by
   have hi:i - (sa+k)<r.size:=by rw [<- Qo]; lia
   have e6:r[i - (sa+k)]?=some r[i - (sa+k)]:=PV hi
   have hm:r[i - (sa+k)]∈r.toList:=by rw [Vz]; exact VU _
   rw [rW i z1 z2,dI e6]
   rcases PF.mp (hr.1.mem_iff.mp hm) with z | z
   ·obtain ⟨t,t1,t2,t3⟩:=wG z
    exact ⟨t,t1,by lia,(dI t3).symm⟩
   ·obtain ⟨t,t1,t2,t3⟩:=wG z
    exact ⟨t,by lia,by lia,(dI t3).symm⟩
  have ur:=Jo hr.2
  refine h _ ⟨?_,e2.trans hB.kind,e5.trans hB.failed⟩ (λj hj=>?_) e4 λa b z1 z2 z3=>?_
  ·
   refine List.Perm.trans ?_ hB.perm
   have eW:W.toList=(arrOf st).toList.take (sa+k)++r.toList++(arrOf st).toList.drop (sa+na+m):=by
    apply Tq
    intro j
    rw [Qg,w2,PU,Th,Th,Qf,SJ,Se (by rw [Qo]; lia)]
    by_cases c1:j<sa+k
    ·rw [if_neg 'l',if_pos c1,Uc c1,Qg]
    ·rw [if_neg c1]
     by_cases c2:j - (sa+k)<r.toList.length
     ·rw [if_pos 'l',if_pos c2]; rfl
     ·rw [if_neg 'l',if_neg c2,Qg]; congr 1; lia
   have eA:(arrOf st).toList=(arrOf st).toList.take (sa+k)++(((arrOf st).extract (sa+k) (sa+na)).toList++((arrOf st).extract (sa+na) (sa+na+m)).toList)++(arrOf st).toList.drop (sa+na+m):=by
    apply Tq
    intro j
    rw [PU,PU,Th,Th,Th,Qf,Qo,Qo,Qo,zx,zy,SJ,Se 'l']
    by_cases c1:j<sa+k
    ·rw [if_pos c1,Uc c1]
    ·rw [if_neg c1]
     by_cases c2:j - (sa+k)<na - k
     ·rw [if_pos c2,Qg,Qg,Uk,if_pos 'l']; congr 1; lia
     ·rw [if_neg c2]
      by_cases c3:j - (sa+k) - (na - k)<m
      ·rw [if_pos c3,Qg,Qg,Uk,if_pos 'l']; congr 1; lia
      ·rw [if_neg c3]; congr 1; lia
   show W.toList.Perm _
   rw [eW]
   conv=>rhs; rw [eA]
   exact (Sz _ hr.1).append_right _
  ·show W[j]?=_
   rw [w2,if_neg 'l']
  ·show R rk W a<=R rk W b
   have kk:∀ t,sa+na<=t->t<sa+na+nb->rk key<=R rk (arrOf st) t:=λt t1 t2=>by rw [<- rkey]; exact s2 _ t (O9 _) t1 t2
   have kk2:∀ t,sa<=t->t<sa+na->R rk (arrOf st) t<=rk key2:=λt t1 t2=>by rw [<- rkey2]; exact s1 t _ t1 'l' 'l'
   by_cases c1:a<sa+k
   ·rw [rO a (.inl c1)]
    have la:=k2 a z1 c1
    by_cases d1:b<sa+k
    ·rw [rO b (.inl d1)]; exact s1 a b z1 z2 'l'
    ·by_cases d2:b<sa+na+m
     ·obtain ⟨t,t1,t2,t3⟩:=elt b 'l' d2
      rw [t3]
      by_cases d3:t<sa+na
      ·exact s1 a t z1 'l' d3
      ·exact P1 la (kk t 'l' 'l')
     ·rw [rO b (.inr 'l')]
      exact P1 la (kk b 'l' z3)
   ·by_cases c2:a<sa+na+m
    ·by_cases d2:b<sa+na+m
     ·rw [rW a 'l' c2,rW b 'l' d2]
      have f1:r[a - (sa+k)]?=some (r[a - (sa+k)]'(by rw [<- Qo]; lia)):=PV _
      have f2:r[b - (sa+k)]?=some (r[b - (sa+k)]'(by rw [<- Qo]; lia)):=PV _
      rw [dI f1,dI f2]
      exact ur _ _ _ _ 'l' f1 f2
     ·obtain ⟨t,t1,t2,t3⟩:=elt a 'l' c2
      rw [t3,rO b (.inr 'l')]
      by_cases d3:t<sa+na
      ·exact P1 (kk2 t 'l' d3) (m3 b 'l' z3)
      ·exact s2 t b 'l' 'l' z3
    ·rw [rO a (.inr 'l'),rO b (.inr 'l')]
     exact s2 a b 'l' z2 z3
 have post:∀ (r:Array Keyed) (st2:SortSt),failedOf st2=failedOf st->(failedOf st2).isNone=true:=λr st2 e=>by rw [e,hB.failed]; rfl
 by_cases hle:na - k<=m
 ·rw [if_pos hle]
  refine Pa (r9 hC (by exact hB.kind) mx my ux uy (by show 1<=((arrOf st).extract (sa+k) (sa+na)).size; lia) (by show 1<=((arrOf st).extract (sa+na) (sa+na+m)).size; lia) h0 hl λr st2 hr hK=>?_)
  refine Pa (Ra (Pa (QS ?_)))
  have e9:failedOf st2=none:=hK.f.trans hB.failed
  have z:=fin r st2 hr hK.k hK.a hK.p hK.f
  refine Pb ?_
  show Q (failedOf st2).isNone _
  rw [e9]; exact z
 ·rw [if_neg hle]
  refine Pa (su hC (by exact hB.kind) mx my ux uy (by show 1<=((arrOf st).extract (sa+k) (sa+na)).size; lia) (by show 1<=((arrOf st).extract (sa+na) (sa+na+m)).size; lia) h0 hl λr st2 hr hK=>?_)
  refine Pa (Ra (Pa (QS ?_)))
  have e9:failedOf st2=none:=hK.f.trans hB.failed
  have z:=fin r st2 hr hK.k hK.a hK.p hK.f
  refine Pb ?_
  show Q (failedOf st2).isNone _
  rw [e9]; exact z
end
noncomputable abbrev Mr:Nat->Nat->Nat->Nat:=sortPriv% PySem.Builtin.minRun
noncomputable def sC:StateT SortSt Sem Unit:=sortPriv% PySem.Builtin.sortRuns
local macro_rules | `(tactic| walk_at "dl sortRuns")=>do
 let i:=Sj (R0 `PySem.Builtin.List.W1All `PySem.Builtin.sortRuns)
 `(tactic| delta $i)
noncomputable def fH (rk:Keyed->Int) (xs:Array Keyed):Nat->List (Nat×Nat×Nat)->Nat->Prop
 | a,[],b=>a=b
 | a,p::r,b=>p.1=a/\1<=p.2.1/\Seg rk xs a (a+p.2.1)/\fH rk xs (a+p.2.1) r b
theorem fH.le:∀ {ps:List (Nat×Nat×Nat)} {a b:Nat},fH rk xs a ps b->a+ps.length<=b
 | [],a,b,h=>by have:a=b:=h; simp; lia
 | p::r,a,b,h=>by
  obtain ⟨_,h1,_,h2⟩:=h
  have:=h2.le
  rw [P4]; lia
theorem fH.app:∀ {ps qs:List (Nat×Nat×Nat)} {a b:Nat},fH rk xs a (ps++qs) b↔∃ m,fH rk xs a ps m/\fH rk xs m qs b
 | [],qs,a,b=>⟨λh=>⟨a,rfl,h⟩,λ⟨m,h1,h2⟩=>by have:a=m:=h1; subst this; exact h2⟩
 | p::r,qs,a,b=>by
  constructor
  ·rintro ⟨h1,h2,h3,h4⟩
   obtain ⟨m,h5,h6⟩:=fH.app.mp h4
   exact ⟨m,⟨h1,h2,h3,h5⟩,h6⟩
  ·rintro ⟨m,⟨h1,h2,h3,h5⟩,h6⟩
   exact ⟨h1,h2,h3,fH.app.mpr ⟨m,h5,h6⟩⟩
theorem fH.congr:∀ {ps:List (Nat×Nat×Nat)} {a b:Nat},fH rk xs a ps b->(∀ i,a<=i->i<b->R rk ys i=R rk xs i)->fH rk ys a ps b
 | [],a,b,h,_=>h
 | p::r,a,b,h,e=>by
  obtain ⟨h1,h2,h3,h4⟩:=h
  have hl:=h4.le
  refine ⟨h1,h2,λi j z1 z2 z3=>?_,h4.congr λi z1 z2=>e i 'l' z2⟩
  rw [e i z1 'l',e j 'l' 'l']
  exact h3 i j z1 z2 z3
theorem fH.mod (f) (hf:∀ p,(f p).1=p.1/\(f p).2.1=p.2.1):∀ {ps:List (Nat×Nat×Nat)} {a b:Nat} (i:Nat),fH rk xs a ps b->fH rk xs a (ps.modify i f) b
 | [],a,b,i,h=>by simpa using h
 | p::r,a,b,0,h=>by
  obtain ⟨h1,h2,h3,h4⟩:=h
  rw [List.modify_zero_cons]
  refine ⟨(hf p).1.trans h1,by rw [(hf p).2]; exact h2,by rw [(hf p).2]; exact h3,by rw [(hf p).2]; exact h4⟩
 | p::r,a,b,i+1,h=>by
  obtain ⟨h1,h2,h3,h4⟩:=h
  rw [List.modify_succ_cons]
  exact ⟨h1,h2,h3,h4.mod f hf i⟩
theorem fH.two:∀ {ps:List (Nat×Nat×Nat)} {a b:Nat} (i:Nat),fH rk xs a ps b->i+1<ps.length->∃ s n pw m pw2,ps[i]?=some (s,n,pw)/\ps[i+1]?=some (s+n,m,pw2)/\1<=n/\1<=m/\a<=s/\s+n+m<=b/\Seg rk xs s (s+n)/\Seg rk xs (s+n) (s+n+m) /\
 ∀ ys:Array Keyed,(∀ j,j<s\/s+n+m<=j->R rk ys j=R rk xs j)->Seg rk ys s (s+n+m)->fH rk ys a ((ps.set i (s,n+m,pw)).eraseIdx (i+1)) b
 | [],a,b,i,h,hi=>by simp at hi
 | [p],a,b,i,h,hi=>by simp at hi
 | p::q::r,a,b,0,h,hi=>by
  obtain ⟨h1,h2,h3,h4,h5,h6,h7⟩:=h
  obtain ⟨s,n,pw⟩:=p
  obtain ⟨s',m,pw2⟩:=q
  dsimp only at h1 h2 h3 h4 h5 h6 h7
  subst h1; subst h4
  have hl:=h7.le
  refine ⟨s,n,pw,m,pw2,rfl,rfl,h2,h5,O9 _,by lia,h3,h6,λys e hs=>?_⟩
  refine ⟨rfl,by dsimp only; lia,by dsimp only; rw [<- Nat.add_assoc]; exact hs,?_⟩
  dsimp only
  rw [<- Nat.add_assoc]
  exact h7.congr λi z1 z2=>e i (.inr z1)
 | p::q::r,a,b,i+1,h,hi=>by
  obtain ⟨h1,h2,h3,h4⟩:=h
  obtain ⟨s,n,pw,m,pw2,e1,e2,a1,a2,a3,a4,a5,a6,a7⟩:=h4.two i (by simpa using hi)
  refine ⟨s,n,pw,m,pw2,by simpa using e1,by simpa using e2,a1,a2,by lia,a4,a5,a6,λys e hs=>?_⟩
  rw [List.set_cons_succ,List.eraseIdx_cons_succ]
  refine ⟨h1,h2,λj j' z1 z2 z3=>?_,a7 ys e hs⟩
  rw [e j (.inl 'l'),e j' (.inl 'l')]
  exact h3 j j' z1 z2 z3
section
variable {st:SortSt}
theorem iA (hC:iX prog w A s U rk L) (hB:Bs U L st) (hc:fH rk (arrOf st) 0 (pendingOf st).toList b) (hb:b<=L.length) (hi:i+1<(pendingOf st).size)
 (h:∀ st',Bs U L st'->fH rk (arrOf st') 0 (pendingOf st').toList b->(∀ j,b<=j->(arrOf st')[j]?=(arrOf st)[j]?)->(pendingOf st').size+1=(pendingOf st).size->Q true st'):wpS (model prog w) A E s (iz i) Q st:=by
 obtain ⟨sa,n,pw,m,pw2,e1,e2,a1,a2,a3,a4,a5,a6,a7⟩:=hc.two i (by rw [Qo]; exact hi)
 rw [Qg] at e1 e2
 refine sA hC hB e1 e2 a1 a2 'l' a5 a6 λst' b1 b2 b3 b4=>h st' b1 ?_ (λj hj=>b2 j (.inr 'l')) ?_
 ·rw [b3,V7,Array.toList_setIfInBounds]
  exact a7 _ (λj hj=>cz (b2 j hj)) b4
 ·rw [b3,<- Qo,V7,Array.toList_setIfInBounds,List.length_eraseIdx,List.length_set,Qo,if_pos hi]; lia
theorem wpS_sortRuns (hC:iX prog w A s U rk L) (hB:Bs U L st) (hp:pendingOf st= #[]) (h:∀ st',Bs U L st'->Seg rk (arrOf st') 0 L.length->Q () st'):wpS (model prog w) A E s sC Q st:=by
 unfold sC
 walk_at "dl sortRuns"
 dsimp only
 refine Pa (QS ?_)
 have hsz:=hB.size
 rw [hsz]
 obtain ⟨mr,hmr⟩:∃ mr,Mr L.length L.length 0=mr:=⟨_,rfl⟩
 delta Mr at hmr
 rw [hmr]
 refine Pa (P8 (Qx (I:=λx c st'=>c.1=none/\Bs U L st'/\fH rk (arrOf st') 0 (pendingOf st').toList c.2/\c.2<=L.length/\(x<=c.2\/L.length<=c.2)) (Q:=λc st'=>c.1=none/\Bs U L st'/\fH rk (arrOf st') 0 (pendingOf st').toList L.length) ?step ?fin ?init) ?post)
 case init=>exact ⟨rfl,hB,by rw [hp]; rfl,P7 _,.inl (O9 _)⟩
 case fin =>
  rintro ⟨c,lo⟩ st' ⟨rfl,jM,hC',h1,h2⟩
  dsimp only at hC' h1 h2 |-
  have e:lo=L.length:=by
   rcases h2 with z | z
   ·lia
   ·lia
  subst e
  exact ⟨rfl,jM,hC'⟩
 case step =>
  rintro x ⟨c,lo⟩ st' _ hx ⟨rfl,jM,hC',h1,h2⟩
  dsimp only at hC' h1 h2 |-
  by_cases hge:lo>=L.length
  ·rw [if_pos hge]
   have e:lo=L.length:=by lia
   subst e
   exact Pb ⟨rfl,jM,hC'⟩
  rw [if_neg hge]
  refine Pa (show wpS _ _ _ _ (countRun' lo (L.length - lo)) _ _ from wpS_countRun hC jM 'l' 'l' λm st1 hB1 hM1 m1 m2 ms=>?_)
  have hC1:fH rk (arrOf st1) 0 (pendingOf st1).toList lo:=by
   rw [hM1.pend]; exact hC'.congr λi _ z=>cz (hM1.out i (.inl z))
  dsimp only
  by_cases hmin:m<mr
  ·rw [if_pos (show m<_ from hmin)]
   refine Pa (RV (Qy ⟨rfl,?_⟩))
   have hf1:m<=min (L.length - lo) mr:=by lia
   have hf2:lo+min (L.length - lo) mr<=L.length:=by lia
   refine Pa (show wpS _ _ _ _ (binarySort' lo (min (L.length - lo) mr) m) _ _ from wpS_binarySort hC hB1 hf2 hf1 ms λst2 hB2 hM2 hS2=>?_)
   have hC2:fH rk (arrOf st2) 0 (pendingOf st2).toList lo:=by
    rw [hM2.pend]; exact hC1.congr λi _ z=>cz (hM2.out i (.inl z))
   simp only [RK,Qp,if_false]
   generalize hF:min (L.length - lo) mr=F at hf1 hf2 hS2
   have hF':=hF
   clear hM2 hM1
   refine Pa (QS ?_)
   rcases hbk:(pendingOf st2).back? with _ | ⟨q1,q2,q3⟩
   ·dsimp only
    refine Pa (Ra (Pb ⟨rfl,⟨hB2.perm,hB2.kind,hB2.failed⟩,?_,by dsimp only; lia,by dsimp only; lia⟩))
    show fH rk (arrOf st2) 0 ((pendingOf st2).push (lo,F,0)).toList (lo+(F))
    rw [Qa]
    exact fH.app.mpr ⟨lo,hC2,rfl,by dsimp only; lia,hS2,rfl⟩
   ·dsimp only
    refine Pa (P8 (Qx (I:=λy c st'=>c.1=none/\Bs U L st'/\fH rk (arrOf st') 0 (pendingOf st').toList lo/\Seg rk (arrOf st') lo (lo+(F))) (Q:=λc st'=>c.1=none/\Bs U L st'/\fH rk (arrOf st') 0 (pendingOf st').toList lo/\Seg rk (arrOf st') lo (lo+(F))) ?_ (λ_ _ z=>z) ⟨rfl,hB2,hC2,hS2⟩) ?_)
    ·rintro y ⟨c,u⟩ st3 _ hy ⟨rfl,vv,zQ,DB⟩
     refine Pa (QS ?_)
     by_cases hs1:(pendingOf st3).size>1
     ·rw [if_pos hs1]
      obtain ⟨⟨r1,r2,r3⟩,er⟩:∃ t,(pendingOf st3)[(pendingOf st3).size - 2]?=some t:=⟨_,PV (show (pendingOf st3).size - 2<(pendingOf st3).size by lia)⟩
      rw [er]
      dsimp only
      split
      ·exact Pb ⟨rfl,vv,zQ,DB⟩
      ·refine Pa (show wpS _ _ _ _ (iz ((pendingOf st3).size - 2)) _ _ from iA hC vv zQ 'l' 'l' λst4 hB4 hC4 ho4 hz4=>?_)
       simp only [RK,Qp,if_false]
       exact Pb ⟨rfl,hB4,hC4,λa b z1 z2 z3=>by rw [cz (ho4 a z1),cz (ho4 b 'l')]; exact DB a b z1 z2 z3⟩
     ·rw [if_neg hs1]
      exact Pb ⟨rfl,vv,zQ,DB⟩
    ·rintro ⟨c,u⟩ st3 ⟨hc,vv,zQ,DB⟩
     dsimp only at hc |-
     rw [hc]
     dsimp only
     refine Pa (Ra (Pa (Ra (Pb ⟨rfl,⟨vv.perm,vv.kind,vv.failed⟩,?_,by dsimp only; lia,by dsimp only; lia⟩))))
     show fH rk (arrOf st3) 0 (((pendingOf st3).modify ((pendingOf st3).size - 1) _).push (lo,F,0)).toList (lo+(F))
     rw [Qa,Array.toList_modify]
     refine fH.app.mpr ⟨lo,?_,rfl,by dsimp only; lia,DB,rfl⟩
     refine fH.mod _ (λp=>?_) _ zQ
     exact ⟨rfl,rfl⟩
  ·rw [if_neg (show ¬ m<_ from hmin)]
   refine Pa (QS ?_)
   rcases hbk:(pendingOf st1).back? with _ | ⟨q1,q2,q3⟩
   ·dsimp only
    refine Pa (Ra (Pb ⟨rfl,⟨hB1.perm,hB1.kind,hB1.failed⟩,?_,by dsimp only; lia,by dsimp only; lia⟩))
    show fH rk (arrOf st1) 0 ((pendingOf st1).push (lo,m,0)).toList (lo+(m))
    rw [Qa]
    exact fH.app.mpr ⟨lo,hC1,rfl,by dsimp only; lia,ms,rfl⟩
   ·dsimp only
    refine Pa (P8 (Qx (I:=λy c st'=>c.1=none/\Bs U L st'/\fH rk (arrOf st') 0 (pendingOf st').toList lo/\Seg rk (arrOf st') lo (lo+(m))) (Q:=λc st'=>c.1=none/\Bs U L st'/\fH rk (arrOf st') 0 (pendingOf st').toList lo/\Seg rk (arrOf st') lo (lo+(m))) ?_ (λ_ _ z=>z) ⟨rfl,hB1,hC1,ms⟩) ?_)
    ·rintro y ⟨c,u⟩ st3 _ hy ⟨rfl,vv,zQ,DB⟩
     refine Pa (QS ?_)
     by_cases hs1:(pendingOf st3).size>1
     ·rw [if_pos hs1]
      obtain ⟨⟨r1,r2,r3⟩,er⟩:∃ t,(pendingOf st3)[(pendingOf st3).size - 2]?=some t:=⟨_,PV (show (pendingOf st3).size - 2<(pendingOf st3).size by lia)⟩
      rw [er]
      dsimp only
      split
      ·exact Pb ⟨rfl,vv,zQ,DB⟩
      ·refine Pa (show wpS _ _ _ _ (iz ((pendingOf st3).size - 2)) _ _ from iA hC vv zQ 'l' 'l' λst4 hB4 hC4 ho4 hz4=>?_)
       simp only [RK,Qp,if_false]
       exact Pb ⟨rfl,hB4,hC4,λa b z1 z2 z3=>by rw [cz (ho4 a z1),cz (ho4 b 'l')]; exact DB a b z1 z2 z3⟩
     ·rw [if_neg hs1]
      exact Pb ⟨rfl,vv,zQ,DB⟩
    ·rintro ⟨c,u⟩ st3 ⟨hc,vv,zQ,DB⟩
     dsimp only at hc |-
     rw [hc]
     dsimp only
     refine Pa (Ra (Pa (Ra (Pb ⟨rfl,⟨vv.perm,vv.kind,vv.failed⟩,?_,by dsimp only; lia,by dsimp only; lia⟩))))
     show fH rk (arrOf st3) 0 (((pendingOf st3).modify ((pendingOf st3).size - 1) _).push (lo,m,0)).toList (lo+(m))
     rw [Qa,Array.toList_modify]
     refine fH.app.mpr ⟨lo,?_,rfl,by dsimp only; lia,DB,rfl⟩
     refine fH.mod _ (λp=>?_) _ zQ
     exact ⟨rfl,rfl⟩
 case post =>
  rintro ⟨c,lo⟩ st' ⟨hc,jM,hC'⟩
  dsimp only at hc |-
  rw [hc]
  dsimp only
  have hl0:=hC'.le
  rw [Qo] at hl0
  refine Pa (P8 (Qx (I:=λx c st2=>c.1=none/\Bs U L st2/\fH rk (arrOf st2) 0 (pendingOf st2).toList L.length/\((pendingOf st2).size<=1\/(pendingOf st2).size+x<=L.length)) (Q:=λc st2=>c.1=none/\Bs U L st2/\fH rk (arrOf st2) 0 (pendingOf st2).toList L.length/\(pendingOf st2).size<=1) ?mstep ?mfin ⟨rfl,jM,hC',.inr 'l'⟩) ?mpost)
  case mfin =>
   rintro c2 st2 ⟨a1,a2,a3,a4⟩
   exact ⟨a1,a2,a3,by lia⟩
  case mpost =>
   rintro ⟨c2,u⟩ st2 ⟨a1,a2,a3,a4⟩
   dsimp only at a1 |-
   rw [a1]
   refine Pb (h st2 a2 ?_)
   rw [<- Qo] at a4
   match e:(pendingOf st2).toList,a4 with
   | [],_ =>
    rw [e] at a3
    have z:0=L.length:=a3
    intro i j _ _ hj; lia
   | [p],_ =>
    rw [e] at a3
    obtain ⟨b1,b2,b3,b4⟩:=a3
    have z:0+p.2.1=L.length:=b4
    rw [<- z]; exact b3
  case mstep =>
   rintro x ⟨c2,u⟩ st2 _ hx ⟨a1,a2,a3,a4⟩
   refine Pa (QS ?_)
   by_cases hs1:(pendingOf st2).size<=1
   ·rw [if_pos hs1]
    exact Pb ⟨rfl,a2,a3,hs1⟩
   ·rw [if_neg hs1]
    have key:∀ i,i+1<(pendingOf st2).size->wpS (model prog w) A E s (iz i) (λr st3=>r=true/\Bs U L st3/\fH rk (arrOf st3) 0 (pendingOf st3).toList L.length/\(pendingOf st3).size+1=(pendingOf st2).size) st2:=λi hi =>
     iA hC a2 a3 (O9 _) hi λst3 b1 b2 _ b3=>⟨rfl,b1,b2,b3⟩
    refine Pa (P8 (show wpS _ _ _ _ (iz _) _ _ from key _ ?_) λr st3 hr=>?_)
    ·unfold pendingOf at hs1 |-
     repeat' split
     all_goals lia
    ·obtain ⟨rfl,b1,b2,b3⟩:=hr
     simp only [RK,Qp,if_false]
     exact Pb ⟨rfl,b1,b2,.inr 'l'⟩
end
end SR
namespace SR
open PySem PyProof.Rows
noncomputable def dup (vs:List Value):List Keyed:=vs.map λv=>(v,v)
theorem wR (vs):(vs.toArray.zip vs.toArray).toList=dup vs:=by
 unfold dup
 rw [Array.toList_zip]
 induction vs with
 | nil=>rfl
 | cons v vs ih=>simpa using ih
def Ord (rk:Keyed->Int) (b:Bool) (out:List Value):Prop:=out.Pairwise λx y=>if b then rk (y,y)<=rk (x,x) else rk (x,x)<=rk (y,y)
theorem sD {xs:Array Keyed} (h:xs.toList.Perm (dup vs)):(xs.toList.map (·.2)).Perm vs/\∀ p∈xs.toList,p=(p.2,p.2):=by
 refine ⟨?_,λp hp=>?_⟩
 ·have q:=h.map (·.2)
  have e:(dup vs).map (·.2)=vs:=by
   unfold dup
   rw [PZ]
   exact List.map_id' vs
  rwa [e] at q
 ·have:=h.mem_iff.mp hp
  simp only [dup,Pz] at this
  obtain ⟨v,_,rfl⟩:=this
  rfl
theorem E5 {st:SortSt} (hp:(arrOf st).toList.Perm (dup vs)) (hs:Seg rk (arrOf st) 0 (dup vs).length) (b) :
 ((if b=true then ((arrOf st).map (·.2)).reverse else (arrOf st).map (·.2)).toList).Perm vs/\Ord rk b (if b=true then ((arrOf st).map (·.2)).reverse else (arrOf st).map (·.2)).toList:=by
 obtain ⟨h1,h2⟩:=sD hp
 have up:((arrOf st).toList.map (·.2)).Pairwise λx y=>rk (x,x)<=rk (y,y):=by
  rw [SM]
  refine U9.mpr λi j hi hj hij=>?_
  have l:=hp.length_eq
  simp only [Qo] at hi hj l
  have z:=hs i j (P7 _) (Rx hij) 'l'
  have ei:(arrOf st)[i]?=some ((arrOf st).toList[i]'(by simpa using hi)):=by simp [hi]
  have ej:(arrOf st)[j]?=some ((arrOf st).toList[j]'(by simpa using hj)):=by simp [hj]
  rw [dI ei,dI ej] at z
  have e1:=h2 _ (P0 (show i<(arrOf st).toList.length by simpa using hi))
  have e2:=h2 _ (P0 (show j<(arrOf st).toList.length by simpa using hj))
  rw [e1,e2] at z
  exact z
 cases b with
 | false=>simp only [Qp,if_false,Array.toList_map]; exact ⟨h1,up.imp λh=>by simpa using h⟩
 | true =>
  simp only [if_true,SE,Array.toList_map]
  refine ⟨(VS _).trans h1,?_⟩
  unfold Ord
  rw [List.pairwise_reverse]
  exact up.imp λh=>by simpa using h
def Oj (prog:Program) (w:World) (A:Around) (s:Shared) (a:Addr) (vs:List Value) (U:SortKind) (rk:Keyed->Int):Prop :=
 ∀ h':Heap,(∀ c o,c≠a->s.heap.get? c=some o->h'.get? c=some o) ->
  (∀ (Q:SortKind->Shared->Prop) (E:Value->Shared->Prop),2<=vs.length->Q U { s with heap:=h' }->wpAny (model prog w) A (keyKind' vs.toArray) Q E { s with heap:=h' })/\iX prog w A { s with heap:=h' } U rk (dup vs)
theorem oh (ho:s.heap.get? a=some (seqObj "list" vs.toArray n)) (hk:Oj prog w A s a vs U rk) (hz:vs.length<=sizeLine)
 (h:∀ out:Array Value,out.toList.Perm vs->Ord rk b out.toList->P (.done (.ret .none)) { s with heap:=sortedHeap s.heap a vs out }) :
 wpAny (model prog w) A (Builtin.«list.sort» ⟨[.ref a],[(O5 "reverse",.bool b)]⟩) P E s:=by
 rw [list_sort_rev]
 have lta:a<s.heap.objs.size:=Pf ho
 refine O6 (UO ho rfl (O6 (SW ho rfl ?_ (by simpa using hz))))
 obtain ⟨e1,ho1⟩:∃ e1,(s.heap.update a (QY λ_=> #[])).get? a=some (seqObj "list" #[] e1):=⟨_,get?_update_seq ho (λ_=> #[])⟩
 have oth:∀ c o,c≠a->s.heap.get? c=some o->(s.heap.update a (QY λ_=> #[])).get? c=some o:=λc o hc q=>by rw [SI _ _ _ _ hc]; exact q
 have sz1:(s.heap.update a (QY λ_=> #[])).objs.size=s.heap.objs.size:=Heap.size_update ..
 refine O6 (seqEpoch_at ho1 rfl (O6 (wpAny_newTuple ?_ (by simpa using hz))))
 refine O6 (UL (Qw ?_))
 show wpAny (model prog w) A _ P E { s with heap:=((s.heap.update a (QY λ_=> #[])).push (seqObj "tuple" vs.toArray 0)).push (seqObj "list" #[] 0) }
 have ho6:(((s.heap.update a (QY λ_=> #[])).push (seqObj "tuple" vs.toArray 0)).push (seqObj "list" #[] 0)).get? a=some (seqObj "list" #[] e1):=Pe _ (Pe _ ho1)
 obtain ⟨hkk,hC⟩:=hk (((s.heap.update a (QY λ_=> #[])).push (seqObj "tuple" vs.toArray 0)).push (seqObj "list" #[] 0)) λc o hc q=>Pe _ (Pe _ (oth c o hc q))
 have fin:∀ st':SortSt,(arrOf st').toList.Perm (dup vs)->Seg rk (arrOf st') 0 (dup vs).length ->
  P (.done (.ret .none)) { s with heap:=sortedHeap s.heap a vs (if b then ((arrOf st').map (·.2)).reverse else (arrOf st').map (·.2)) }:=λst' hp hs =>
  let ⟨q1,q2⟩:=E5 hp hs b; h _ q1 q2
 have hstart:(if b=true then (vs.toArray.zip vs.toArray).reverse else vs.toArray.zip vs.toArray).toList.Perm (dup vs):=by
  cases b with
  | false=>rw [if_neg Pp,wR]
  | true=>rw [if_pos rfl,SE,wR]; exact VS _
 dsimp only
 have told:∀ t:Sem Fin,wpAny (model prog w) A t P E { s with heap:=((s.heap.update a (QY λ_=> #[])).push (seqObj "tuple" vs.toArray 0)).push (seqObj "list" #[] 0) } ->
  wpAny (model prog w) A (if b=true then (do let _ <- rule "list.sort.reverse"; t) else t) P E { s with heap:=((s.heap.update a (QY λ_=> #[])).push (seqObj "tuple" vs.toArray 0)).push (seqObj "list" #[] 0) }:=λt ht=>by
  split
  ·exact O6 (Qy ht)
  ·exact ht
 refine told _ ?_
 have hlen:∀ {xs:Array Keyed},xs.toList.Perm (dup vs)->(if b=true then (Array.map (λx=>x.snd) xs).reverse else Array.map (λx=>x.snd) xs).size<=sizeLine+1:=λ{xs} hp=>by
  have l:=hp.length_eq
  simp only [Qo,dup,Pc] at l
  split
  ·rw [Array.size_reverse,Array.size_map]; lia
  ·rw [Array.size_map]; lia
 by_cases h2:vs.toArray.size<2
 ·rw [if_pos h2,if_pos h2]
  refine O6 (O8 ?_)
  rw [StateT.run_pure]
  refine O6 (O8 ?_)
  dsimp only
  refine O6 (seqEpoch_at ho6 rfl (O6 (SW ho6 rfl ?_ (hsz2:=hlen hstart))))
  simp only [bne_self_eq_false,Qp,if_false]
  refine O8 (fin (T4 general' (if b=true then (vs.toArray.zip vs.toArray).reverse else vs.toArray.zip vs.toArray) #[] 7 none) hstart ?_)
  intro i j _ hij hj
  have hl:(dup vs).length<2:=by simpa [dup] using h2
  have:i=j:=by lia
  subst this; exact Qj _
 ·rw [if_neg h2,if_neg h2]
  refine O6 (hkk _ _ (by simpa using h2) ?_)
  refine O6 (Qd (wpS_sortRuns (U:=U) (rk:=rk) (L:=dup vs) (st:=T4 U (if b=true then (vs.toArray.zip vs.toArray).reverse else vs.toArray.zip vs.toArray) #[] 7 none)
   (Q:=λ_ st'=>(arrOf st').toList.Perm (dup vs)/\failedOf st'=none/\Seg rk (arrOf st') 0 (dup vs).length) hC ⟨hstart,rfl,rfl⟩ rfl λst' a1 a2=>⟨a1.perm,a1.failed,a2⟩) ?_ λ_ _ e=>e)
  rintro ⟨⟨⟩,st'⟩ s' ⟨rfl,hp,hf,hs⟩
  dsimp only
  refine O6 (seqEpoch_at ho6 rfl (O6 (SW ho6 rfl ?_ (hsz2:=hlen hp))))
  rw [hf]
  simp only [bne_self_eq_false,Qp,if_false]
  exact O8 (fin st' hp hs)
section
variable {α:Type} {lt:α->α->Bool} {L:List α}
theorem filter_le:∀ {l:List α},(∀ z∈l,p z=true->q z=true)->(l.filter p).length<=(l.filter q).length
 | [],_=>O9 _
 | x::l,h=>by
  have ih:=filter_le (l:=l) λz hz=>h z (Ph _ hz)
  have hx:=h x Pd
  cases e:p x with
  | false =>
   rw [Sx (by simp [e])]
   by_cases e2:q x=true
   ·rw [RC e2]; exact Nat.le_succ_of_le ih
   ·rw [Sx e2]; exact ih
  | true =>
   rw [RC e,RC (hx e)]
   exact UA ih
theorem filter_lt:∀ {l:List α},(∀ z∈l,p z=true->q z=true)->(∃ z∈l,q z=true/\p z=false)->(l.filter p).length<(l.filter q).length
 | [],_,h=>by obtain ⟨z,h,_⟩:=h; cases h
 | x::l,h,g=>by
  have h':∀ z∈l,p z=true->q z=true:=λz hz=>h z (Ph _ hz)
  have hx:=h x Pd
  by_cases e:p x=true
  ·rw [RC e,RC (hx e)]
   obtain ⟨z,hz,z1,z2⟩:=g
   rcases Pg.mp hz with rfl | hz
   ·rw [e] at z2; cases z2
   ·exact Nat.succ_lt_succ (filter_lt h' ⟨z,hz,z1,z2⟩)
  ·rw [Sx e]
   by_cases e2:q x=true
   ·rw [RC e2]; exact Nat.lt_succ_of_le (filter_le h')
   ·rw [Sx e2]
    obtain ⟨z,hz,z1,z2⟩:=g
    rcases Pg.mp hz with rfl | hz
    ·exact absurd z1 e2
    ·exact filter_lt h' ⟨z,hz,z1,z2⟩
structure Jr (lt:α->α->Bool) (L:List α):Prop where
 irr:∀ x∈L,lt x x=false
 tr:∀ x∈L,∀ y∈L,∀ z∈L,lt x y=true->lt y z=true->lt x z=true
 tot:∀ x∈L,∀ y∈L,x≠y->lt x y=true\/lt y x=true
noncomputable def rank (lt:α->α->Bool) (L:List α) (x:α):Int:=((L.filter λz=>lt z x).length:Int)
theorem kD (h:Jr lt L) (hx:x∈L) (hy:y∈L) (e:lt x y=true):rank lt L x<rank lt L y:=by
 have q:=filter_lt (l:=L) (p:=λz=>lt z x) (q:=λz=>lt z y) (λz hz hzx=>h.tr z hz x hx y hy hzx e) ⟨x,hx,e,h.irr x hx⟩
 unfold rank; lia
theorem E6 (h:Jr lt L) (hx:x∈L) (hy:y∈L):decide (rank lt L x<rank lt L y)=lt x y:=by
 classical
 cases e:lt x y with
 | true=>exact decide_eq_true (kD h hx hy e)
 | false =>
  refine decide_eq_false λz=>?_
  by_cases w:x=y
  ·subst w; exact absurd z (Int.lt_irrefl _)
  ·rcases h.tot x hx y hy w with q | q
   ·rw [e] at q; cases q
   ·have:=kD h hy hx q; lia
theorem sF (hp:n.Perm m):∀ {l:List α},Paired S l m->∃ l',l'.Perm l/\Paired S l' n:=by
 induction hp with
 | nil=>intro l h; exact ⟨l,.refl _,h⟩
 | cons x _ ih =>
  intro l h
  cases h with
  | cons r t=>obtain ⟨l',h1,h2⟩:=ih t; exact ⟨_::l',h1.cons _,.cons r h2⟩
 | swap x y l' =>
  intro l h
  cases h with
  | cons r t=>cases t with | cons r2 t2=>exact ⟨_,.swap _ _ _,.cons r2 (.cons r t2)⟩
 | trans _ _ ih1 ih2 =>
  intro l h
  obtain ⟨l1,h1,h2⟩:=ih2 h
  obtain ⟨l2,h3,h4⟩:=ih1 h2
  exact ⟨l2,h3.trans h1,h4⟩
theorem l0 (h:Paired S l m):∀ u∈m,∃ x∈l,S x u:=by
 induction h with
 | nil=>intro u hu; cases hu
 | cons r t ih =>
  intro u hu
  rcases Pg.mp hu with rfl | hu
  ·exact ⟨_,Pd,r⟩
  ·obtain ⟨x,h1,h2⟩:=ih u hu; exact ⟨x,Ph _ h1,h2⟩
open Classical in
noncomputable def yQ {β:Type} (S:α->Value->Prop) (lt:α->α->Bool) (L:List α) (p:Value×β):Int:=if h:∃ x,x∈L/\S x p.1 then rank lt L h.choose else 0
theorem kE (inj:∀ x y u,S x u->S y u->x=y) (hx:x∈L) (h:S x p.1):yQ S lt L p=rank lt L x:=by
 have e:∃ x,x∈L/\S x p.1:=⟨x,hx,h⟩
 unfold yQ
 rw [dif_pos e,inj _ _ _ e.choose_spec.2 h]
theorem sG (inj:∀ x y u,S x u->S y u->x=y) (h:Jr lt L) (nd:L.Nodup) (hL:Paired S L us) (hp:out.Perm us) (ho:Ord (yQ S lt L) b out) :
 ∃ L',L'.Perm L/\L'.Pairwise (λx y=>if b then lt y x=true else lt x y=true)/\Paired S L' out:=by
 obtain ⟨L',h1,h2⟩:=sF hp hL
 refine ⟨L',h1,?_,h2⟩
 have hm:∀ x∈L',x∈L:=λx hx=>h1.mem_iff.mp hx
 have nd':L'.Nodup:=h1.nodup_iff.mpr nd
 clear h1 hp hL nd
 unfold Ord at ho
 induction h2 with
 | nil=>exact .nil
 | @cons x u xs us r t ih =>
  obtain ⟨q1,q2⟩:=Ri.mp ho
  obtain ⟨n1,n2⟩:=QM.mp nd'
  refine .cons (λy hy=>?_) (ih q2 (λz hz=>hm z (Ph _ hz)) n2)
  have hx:=hm x Pd
  have hyL:=hm y (Ph _ hy)
  obtain ⟨v,hv,sv⟩:∃ v∈us,S y v:=by
   clear ih ho q1 q2 n1 n2 hm nd'
   induction t with
   | nil=>cases hy
   | cons r t ih2 =>
    rcases Pg.mp hy with rfl | hy
    ·exact ⟨_,Pd,r⟩
    ·obtain ⟨v,h1,h2⟩:=ih2 hy; exact ⟨v,Ph _ h1,h2⟩
  have q:=q1 v hv
  rw [kE inj hx (p:=(u,u)) r,kE inj hyL (p:=(v,v)) sv] at q
  have ne:x≠y:=λz=>n1 (z ▸ hy)
  cases b with
  | true =>
   simp only [if_true] at q |-
   rcases h.tot x hx y hyL ne with w | w
   ·have:=kD h hx hyL w; lia
   ·exact w
  | false =>
   simp only [Qp,if_false] at q |-
   rcases h.tot x hx y hyL ne with w | w
   ·exact w
   ·have:=kD h hyL hx w; lia
end
theorem BQ (inj:∀ x y u,S x u->S y u->x=y) (h:Jr lt L) (hL:Paired S L us)
 (hk:∀ x∈L,∀ y∈L,∀ u v,S x u->S y v->∀ (E:Value->Shared->Prop) (Q:Bool->Shared->Prop),Q (lt x y) s->wpAny (model prog w) A (keyLt' U u v) Q E s):iX prog w A s U (yQ S lt L) (dup us):=by
 intro p hp q hq E Q hQ
 simp only [dup,Pz] at hp hq
 obtain ⟨u,hu,rfl⟩:=hp
 obtain ⟨v,hv,rfl⟩:=hq
 obtain ⟨x,hx,sx⟩:=l0 hL u hu
 obtain ⟨y,hy,sy⟩:=l0 hL v hv
 refine hk x hx y hy u v sx sy E Q ?_
 rw [kE inj hx (p:=(u,u)) sx,kE inj hy (p:=(v,v)) sy,E6 h hx hy] at hQ
 exact hQ
end SR
namespace SR
open PySem PySem.Calls PyProof.Rows L2 EV
end SR
namespace EV
open PySem PySem.Spec PySem.Calls PyProof.Rows L2
theorem yR (b) (x y):keyLt' (tuples' b) x y=(do
 let xs <- Vp x
 let ys <- Vp y
 for ((p,q),i) in (xs.toList.zip ys.toList).zipIdx do
  if !(<- eqBool p q) then return <- oneLt' (b && i == 0) p q
 return decide (xs.size<ys.size)):=rfl
theorem wU:∀ l:List Int,HT.lexLt l l=false
 | []=>rfl
 | x::l=>by rw [HT.cY,if_pos rfl]; exact wU l
theorem BR:∀ {a b c:List Int},HT.lexLt a b=true->HT.lexLt b c=true->HT.lexLt a c=true
 | [],[],_,h,_=>by cases h
 | [],_::_,[],_,h=>by cases h
 | [],_::_,_::_,_,_=>rfl
 | _::_,[],_,h,_=>by cases h
 | _::_,_::_,[],_,h=>by cases h
 | x::a,y::b,z::c,h,g=>by
  rw [HT.cY] at h g |-
  by_cases e:x=y
  ·subst e
   rw [if_pos rfl] at h
   by_cases f:x=z
   ·subst f; rw [if_pos rfl] at g |-; exact BR h g
   ·rw [if_neg f] at g |-; exact g
  ·rw [if_neg e] at h
   have h:=of_decide_eq_true h
   by_cases f:y=z
   ·subst f; rw [if_neg e]; exact decide_eq_true h
   ·rw [if_neg f] at g
    have g:=of_decide_eq_true g
    rw [if_neg 'l']; exact decide_eq_true 'l'
theorem pY:∀ {a b:List Int},a≠b->HT.lexLt a b=true\/HT.lexLt b a=true
 | [],[],h=>absurd rfl h
 | [],_::_,_=>.inl rfl
 | _::_,[],_=>.inr rfl
 | x::a,y::b,h=>by
  rw [HT.cY,HT.cY]
  by_cases e:x=y
  ·subst e
   rw [if_pos rfl,if_pos rfl]
   exact pY λz=>h (by rw [z])
  ·rw [if_neg e,if_neg (Py e)]
   rcases Int.lt_or_gt_of_ne e with z | z
   ·exact .inl (decide_eq_true z)
   ·exact .inr (decide_eq_true z)
noncomputable abbrev aG:=List Int×Int
noncomputable def cE (x y:aG):Bool:=if x.1=y.1 then decide (x.2<y.2) else HT.lexLt x.1 y.1
theorem kF (L:List aG):SR.Jr cE L where
 irr:=λx _=>by unfold cE; rw [if_pos rfl]; exact decide_eq_false (Int.lt_irrefl _)
 tr:=λx _ y _ z _ h g=>by
  unfold cE at *
  by_cases e:x.1=y.1
  ·rw [if_pos e] at h
   by_cases f:y.1=z.1
   ·rw [if_pos f] at g; rw [if_pos (e.trans f)]
    exact decide_eq_true (Int.lt_trans (of_decide_eq_true h) (of_decide_eq_true g))
   ·rw [if_neg f] at g; rw [if_neg (λw=>f (e.symm.trans w)),e]; exact g
  ·rw [if_neg e] at h
   by_cases f:y.1=z.1
   ·rw [if_neg (λw=>e (w.trans f.symm)),<- f]; exact h
   ·rw [if_neg f] at g
    have q:=BR h g
    rw [if_neg λw=>by rw [w,wU] at q; cases q]; exact q
 tot:=λx _ y _ h=>by
  unfold cE
  by_cases e:x.1=y.1
  ·rw [if_pos e,if_pos e.symm]
   have:x.2≠y.2:=λz=>h (Prod.ext e z)
   rcases Int.lt_or_gt_of_ne this with z | z
   ·exact .inl (decide_eq_true z)
   ·exact .inr (decide_eq_true z)
  ·rw [if_neg e,if_neg (Py e)]
   exact pY e
noncomputable abbrev af (t:aG):D:=.tup [.tup (t.1.map .int),.int t.2]
section
variable {X:Cx}
def kG (K:O7) (Hf:Hp) (d:D) (u:Value):Prop:=∃ v,RelV v u/\Rep K Hf d v
theorem sH (l m:List Int):lD 1 (.tup (l.map .int)) (.tup (m.map .int)):=.tup λi d e h1 h2=>by
 simp only [Pr,PD] at h1 h2
 obtain ⟨x,_,rfl⟩:=h1
 obtain ⟨y,_,rfl⟩:=h2
 exact .sc rfl
theorem E7 (x y):lD 2 (af x) (af y):=.tup λi d e h1 h2=>by
 rcases i with _ | _ | i
 ·simp at h1 h2; subst h1 h2; exact sH _ _
 ·simp at h1 h2; subst h1 h2; exact .sc rfl
 ·simp at h1
theorem BS (h:af x=af y):x=y:=by
 simp only [D.tup.injEq,List.cons.injEq,D.int.injEq,and_true] at h
 have e:x.1=y.1:=by
  exact (List.map_inj_right (f:=D.int) (λa b e=>by injection e)).mp h.1
 exact Prod.ext e h.2
theorem i7:∀ {l:List Int} {ys:List V},ak X.K Hf (l.map D.int) ys->ys=l.map V.int
 | [],ys,h=>aA.mp h
 | n::l,ys,h=>by
  obtain ⟨y,r,rfl,z1,z2⟩:=aF.mp h
  rw [au] at z1; subst z1
  rw [i7 z2]; rfl
theorem E8 (I:Inv X aa Z H s) (sb:aL Hf H) (h1:kG X.K Hf (af x) u) (h2:kG X.K Hf (af y) u):x=y:=by
 obtain ⟨v,r1,q1⟩:=h1
 obtain ⟨v',r2,q2⟩:=h2
 have:=r1.inj r2
 subst this
 exact BS (pI I sb 2 _ _ _ (E7 x y) q1 q2)
theorem pZ (I:Inv X aa Z H s) (sb:aL Hf H) (h:kG X.K Hf (af x) u):∃ a b its t,u=.ref a/\IsTup s.heap a #[.ref b,.int x.2 t]/\IsTup s.heap b its/\IntsAre its.toList x.1/\kG X.K Hf (.tup (x.1.map .int)) (.ref b):=by
 obtain ⟨v,rv,q⟩:=h
 obtain ⟨a,xs,rfl,h1,h2⟩:=aI.mp q
 cases rv
 obtain ⟨p,r,rfl,q1,q2⟩:=aF.mp h2
 obtain ⟨p2,r2,rfl,q3,q4⟩:=aF.mp q2
 rw [aA] at q4; subst q4
 rw [au] at q3; subst q3
 obtain ⟨its,rel,tu,_⟩:=I.tuple (az sb h1)
 cases rel with
 | cons r1 t1=>cases t1 with
  | cons r2 t2 =>
   cases t2
   obtain ⟨t,rfl⟩:=r2
   obtain ⟨b,ys,rfl,h3,h4⟩:=aI.mp q1
   cases r1
   obtain ⟨its2,rel2,tu2,_⟩:=I.tuple (az sb h3)
   refine ⟨a,b,its2.toArray,t,rfl,tu,tu2,?_,.ref b,rfl,aI.mpr ⟨b,ys,rfl,h3,h4⟩⟩
   have e:=i7 h4
   subst e
   exact intsAre_of rel2
theorem iB:∀ (l:List α) (r:List β) {Q:List β->Shared->Prop},Paired (λa b=>∀ (Q:β->Shared->Prop),Q b s->wpAny M A (f a) Q E s) l r->Q r s->wpAny M A (l.mapM f) Q E s
 | _,_,Q,.nil,h=>by rw [List.mapM_nil]; exact O8 h
 | _,_,Q,.cons q t,h=>by
  rw [List.mapM_cons]
  exact O6 (q _ (O6 (iB _ _ t (O8 h))))
theorem BU (I:Inv X aa Z H s) (sb:aL Hf H) (h:Paired (λx u=>kG X.K Hf (af x) u) L us) (h2:2<=us.length) (hQ:Q (tuples' false) s):wpAny (model X.prog X.w) A (keyKind' us.toArray) Q E s:=by
 have key:∃ fs:List Value,fs.length=us.length/\(∀ f∈fs,s.TypeIs f "tuple")/\Paired (λu o=>∀ (Q:Option Value->Shared->Prop),Q o s->wpAny (model X.prog X.w) A (firstOfTuple' u) Q E s) us (fs.map some):=by
  clear h2 hQ
  induction h with
  | nil=>exact ⟨[],rfl,by simp,.nil⟩
  | @cons x u L us r t ih =>
   obtain ⟨fs,e1,e2,e3⟩:=ih
   obtain ⟨a,b,its,tk,rfl,t1,t2,_⟩:=pZ I sb r
   refine ⟨.ref b::fs,by simp [e1],λf hf=>?_,.cons (λQ hQ=>?_) e3⟩
   ·rcases Pg.mp hf with rfl | hf
    ·obtain ⟨o,ho,hc,_⟩:=t2; exact ⟨o,ho,hc⟩
    ·exact e2 f hf
   ·obtain ⟨o,ho,hc,n,hd⟩:=t1
    show wpAny _ _ (do
     if (<- typeOf (.ref a)) != .type "tuple" then return none
     return (<- Vp (.ref a))[0]?) _ _ _
    refine O6 (Rw (T:="tuple") ⟨o,ho,hc⟩ ?_)
    rw [if_neg 'p']
    exact O6 (UO ho hd (O8 hQ))
 obtain ⟨fs,e1,e2,e3⟩:=key
 rw [keyKind'_eq,List.mapM_toArray]
 simp only [bind_map_left]
 refine O6 (iB _ _ e3 ?_)
 rw [if_pos 'p']
 refine O6 (Qy ?_)
 have e4:(List.map some fs).toArray.filterMap id=fs.toArray:=by simp
 rw [e4,oneTypeOnly'_eq,List.mapM_toArray]
 simp only [bind_map_left]
 have e5:Paired (λu o=>∀ (Q:Value->Shared->Prop),Q o s->wpAny (model X.prog X.w) A (typeOf u) Q E s) fs (fs.map λ_=>Qz "tuple"):=by
  clear e1 e3 e4
  induction fs with
  | nil=>exact .nil
  | cons f fs ih=>exact .cons (λQ hQ=>Rw (e2 f Pd) hQ) (ih λg hg=>e2 g (Ph _ hg))
 refine O6 (O6 (iB _ _ e5 ?_))
 obtain ⟨f,fs',rfl⟩:∃ f fs',fs=f::fs':=by
  match fs,e1 with
  | [],e1=>simp at e1; lia
  | f::fs',_=>exact ⟨f,fs',rfl⟩
 have h0:(List.map (λ_=>Qz "tuple") (f::fs')).toArray[0]?=some (Qz "tuple"):=by simp
 rw [h0]
 dsimp only
 rw [if_pos 'p']
 refine O8 (O8 ?_)
 have e6:(some (Qz "tuple")).any (λx=>x != Qz "tuple")=false:=by simp
 rw [e6]
 exact hQ
theorem Js (I:Inv X aa Z H s) (sb:aL Hf H) (hA:A.units+10<cLine) (hx:kG X.K Hf (af x) u) (hy:kG X.K Hf (af y) v) (hQ:Q (cE x y) s):wpAny (model X.prog X.w) A (keyLt' (tuples' false) u v) Q E s:=by
 obtain ⟨a,b,its,t,rfl,⟨o,ho,hc,n,hd⟩,t2,i2,z1⟩:=pZ I sb hx
 obtain ⟨a',b',its',t',rfl,⟨o',ho',hc',n',hd'⟩,t2',i2',z2⟩:=pZ I sb hy
 rw [yR]
 refine O6 (UO ho hd (O6 (UO ho' hd' ?_)))
 obtain ⟨w1,r1,q1⟩:=z1
 obtain ⟨w2,r2,q2⟩:=z2
 have e1:PR A s (.ref b) (.ref b') (decide (D.tup (x.1.map .int)=D.tup (y.1.map .int))):=nO I sb 1 _ _ _ _ _ _ A (sH x.1 y.1) q1 q2 r1 r2 'l'
 have e2:decide (D.tup (x.1.map D.int)=D.tup (y.1.map D.int))=decide (x.1=y.1):=by
  by_cases z:x.1=y.1
  ·rw [z]; simp
  ·have:¬ D.tup (x.1.map D.int)=D.tup (y.1.map D.int):=λw=>by
    injection w with w
    exact z ((List.map_inj_right (f:=D.int) (λa b e=>by injection e)).mp w)
   rw [decide_eq_false this,decide_eq_false z]
 rw [e2] at e1
 have ez:((#[Px b,RU x.2 t]:Array Value).toList.zip (#[Px b',RU y.2 t']:Array Value).toList).zipIdx=[((Px b,Px b'),0),((RU x.2 t,RU y.2 t'),1)]:=rfl
 rw [ez]
 have lti:∀ (bb:Bool) (m n:Int) (t u:Tok) (Q:Bool->Shared->Prop),Q (decide (m<n)) s->wpAny (model X.prog X.w) A (oneLt' (false && bb) (.int m t) (.int n u)) Q E s:=λbb m n t u Q h=>by
  rw [Bool.false_and,oneLt'_eq,if_neg Pp]
  exact O6 (lt_int (O8 h))
 simp only [Sf,List.forIn_nil]
 refine O6 (O6 (O6 (e1 _ _ _ _ ?_)))
 unfold cE at hQ
 by_cases z:x.1=y.1
 ·rw [if_pos z] at hQ
  rw [decide_eq_true z]
  simp only [RK,Qp,if_false]
  refine O8 ?_
  dsimp only
  refine O6 (O6 ?_)
  refine wpAny_eqBool_int ?_
  by_cases w:x.2=y.2
  ·rw [show (x.2 == y.2)=true by simpa using w]
   simp only [RK,Qp,if_false]
   refine O8 (O8 ?_)
   dsimp only
   refine O8 ?_
   rw [w] at hQ
   simpa using hQ
  ·rw [show (x.2 == y.2)=false by simpa using w]
   simp only [Bool.not_false,if_true]
   refine O6 (lti _ _ _ _ _ _ (O8 ?_))
   dsimp only
   exact O8 (O8 hQ)
 ·rw [if_neg z] at hQ
  rw [decide_eq_false z]
  simp only [Bool.not_false,if_true]
  refine O6 ?_
  rw [Bool.false_and,oneLt'_eq,if_neg Pp]
  refine O6 (HT.uo (s:=s) t2 t2' i2 i2' 'l' ?_)
  refine O8 (O8 ?_)
  dsimp only
  exact O8 (O8 hQ)
end
noncomputable abbrev E9 (X:Cx) (A:Around):Cx:={ X with A:=A }
theorem G7 (ok:X.Ok) (h1:X.calm=true->A.handled=none) (h2:A.frames=some X.stack):(E9 X A).Ok :=
 ⟨ok.mod,ok.kind,ok.glob,ok.blt,ok.above,ok.inj,ok.has,ok.cab,h1,h2,ok.stk,ok.exf,ok.bs,ok.bsz,ok.noex,ok.exfs,ok.gS,ok.frf⟩
theorem jC (I:Inv X aa Z H s) (h1:X.calm=true->A.handled=none) (h2:A.frames=some X.stack):Inv (E9 X A) aa Z H s :=
 ⟨G7 I.ok h1 h2,I.os,I.bare,I.base,I.loc,I.cell,I.free,I.freeC,I.pin,I.hok,I.len⟩
theorem fJ (ok:X.Ok) (I:Inv (E9 X A) aa Z H s):Inv X aa Z H s :=
 ⟨ok,I.os,I.bare,I.base,I.loc,I.cell,I.free,I.freeC,I.pin,I.hok,I.len⟩
theorem Fb {fp:List Addr} (h:∀ b∈fp,dQ X aa H b) (n:∀ b∈fp,H' b=none):∀ b∈fp,dQ X aa H' b:=λb hb=>⟨n b hb,(h b hb).2⟩
theorem BV (hc:X.calm=true) (Tn:Turn X.prog X.w X.K (.Name nm np) J fp it tn) (io:jw X.K J ds DJ)
 (hS0:Hb S=none) (hSf:S∉fp) (hn:ds.length<=sizeLine) (okX:X.Ok) (h1:X.A.in1.handled=none) (h2:X.A.in1.frames=some X.stack)
 (fin:∀ (s':Shared) (H' aj:Hp) (xs:List V),Inv X aa Z H' s'->H' S=some (.lst xs)->aj S=none->ak X.K aj ds xs->bz Hb DJ H' aj->R (.ok (.ret res)) s') :
 ∀ (k i:Nat) (s:Shared) (H Hf:Hp) (xs:List V),ds.length - i=k->i<=ds.length->Inv X aa Z H s->tn i s.heap->(∀ b∈fp,dQ X aa H b)->H S=some (.lst xs)->Hf S=none->ak X.K Hf (ds.take i) xs->bz Hb DJ H Hf ->
  codeAny (model X.prog X.w) X.A (.builtin "list.extend.loop" ⟨[.ref S,.ref it,res],[]⟩) R s:=by
 intro k
 induction k with
 | zero =>
  intro i s H Hf xs hk hi I t hf hS hfS hr g
  have e:i=ds.length:=by omega
  subst e
  rw [QH] at hr
  refine Rt PySem.F.entry_extend_loop ?_
  rw [RG Ua _]
  show wpAny _ X.A.in1 (pyNext (.ref it) >>= _) _ _ s
  refine O6 (Qd (Tn.done (E9 X X.A.in1) rfl rfl rfl hc _ aa s Z H _ (jC I (λ_=>h1) h2) hf t (io.stop _ H Hf g.f g.b (O9 _))) (λr s' ⟨e,I'⟩=>?_) λ_ _ x=>x)
  subst e
  exact O8 (fin s' H Hf xs (fJ okX I') hS hfS hr g)
 | succ k ih =>
  intro i s H Hf xs hk hi I t hf hS hfS hr g
  have lt:i<ds.length:=by omega
  have ed:ds[i]?=some ds[i]:=PX lt
  obtain ⟨hgo,hy⟩:=io.go i ds[i] H Hf g.f g.b ed
  refine Rt PySem.F.entry_extend_loop ?_
  rw [RG Ua _]
  show wpAny _ X.A.in1 (pyNext (.ref it) >>= _) _ _ s
  refine O6 (Qd (Tn.item (E9 X X.A.in1) rfl rfl rfl hc i aa s Z H _ (jC I (λ_=>h1) h2) hf t hgo) (λr s1 ⟨u,e,hu⟩=>?_) λ_ _ x=>x)
  subst e
  show wpAny _ X.A.in1 (letOwnedTupleGo (.Name nm np) (.ref it) u >>= λ_=>(Builtin.List.listUpdate (.ref S) (·.push u) >>= λ_=>again (.builtin "list.extend.loop" ⟨[.ref S,.ref it,res],[]⟩))) _ _ s1
  refine O6 (Qd hu (λ_ s2 ⟨x,H',I2,rx,y,t2,n2⟩=>?_) λ_ _ x=>x)
  have I2:=fJ okX I2
  obtain ⟨aj,g',rd⟩:=hy x H' y
  have hS':H' S=some (.lst xs):=g'.s _ _ hS
  have hfS':aj S=none:=g'.n S hfS (by rw [hS]; simp) (by intro ys; rw [hS]; simp)
  obtain ⟨z,its,n,rv,el,eo⟩:=I2.pA hS'
  have hx:xs.length=i:=by rw [<- hr.length,Qf]; omega
  have hz:(xs++[x]).length<=sizeLine:=by simp only [PY,P4,Q5]; omega
  refine O6 (SW eo rfl ?_ (by simp; omega) (by simp; omega))
  have ef:(λa:Array Value=>a.push u) its.toArray=(its++[u]).toArray:=by simp
  have I3:=I2.uA (f:=λa=>a.push u) (t':=s2.toks) hS' eo ef (rv.append (.cons rx .nil)) hz
  refine O8 ⟨TH Ua _,ih (i+1) _ (upd H' S (.lst (xs++[x]))) aj (xs++[x]) 'o' lt I3 (Tn.keep _ _ _ t2 λb hb o e=>?_) (Fb hf λb hb=>?_) ah hfS' ?_ (ku (g.trans g') hS0 hfS')⟩
  ·exact (Uj _ _ (λw:S=b=>hSf (w ▸ hb))).trans e
  ·rw [ai (λw:b=S=>hSf (w ▸ hb))]; exact n2 b hb
  ·rw [Ut,ed]
   exact (hr.mono g'.f).append (ak.one rd)
theorem yS (hT:s.TypeIs (.ref v) "dict_items") (hQ:Q false s):wpAny (model prog w) A (Su (.ref v)) Q E s:=by
 unfold Su
 refine O6 (wpAny_specialOf hT PySem.F.slot_dict_items_len.lookup ?_)
 have e:splitId "dict_items.__len__"=some ("dict_items","__len__"):=by decide +kernel
 dsimp only
 rw [e]
 dsimp only
 refine O6 (Uz (b:=true) hT (by rw [isSubtype_type]; kernel_rfl) ?_)
 rw [if_neg 'd']
 exact O6 (Rw hT (O8 hQ))
theorem Fc (I:Inv X aa Z H s) (hv:s.heap.IsItemsView v d) (hH:H d=some (.frz o u)) (hd:HO.dct u) :
 wpAny (model X.prog X.w) A (pyIter (.ref v)) (λitv s2=>∃ (it:Addr) (es:Array DictEntry) (ep:Nat),itv=.ref it/\s.heap.objs.size<=it/\Inv X aa Z H s2/\Turn X.prog X.w X.K tg (Na d o u) [it] it (λi h=>BA h it d i es.size ep)/\BA s2.heap it d 0 es.size ep/\(∀ b∈[it],dQ X aa H b) /\
  (∀ b o,s.heap.get? b=some o->s2.heap.get? b=some o)) E s:=by
 obtain ⟨ho,ok⟩:=(show bf X.prog X.w H s.heap d (.frz o u) from I.hok d _ hH)
 obtain ⟨hx,es,ep,hod,hp,hs,hz⟩:=di ok hd ho
 refine nT hv ho hod ?_
 have hsz:es.size=(cH u).length:=by rw [QD hp]; simp
 refine ⟨_,es,ep,rfl,O9 _,I.kept (t':=s.toks) λb o e=>Pe _ e,lO (o:=o) (u:=u) (es:=es) (ep:=ep) hd hod (λz=>?_) hsz,⟨.none,false,.none,.none,Pq _ rfl,.inl rfl⟩,λb hb=>?_,λb o e=>Pe _ e⟩
 ·have lt:=Pf ho
  rw [<- z] at lt
  exact absurd lt (QJ _)
 ·have e:b=s.heap.objs.size:=by simpa using hb
  subst e
  exact I.jr (O9 _) (I.hok.fresh (O9 _))
theorem yT (hc:X.calm=true) (h1:X.A.in1.handled=none) (h2:X.A.in1.frames=some X.stack) (I1:Inv X aa Z (upd H S (.lst [])) s) (sb:aL Hf H) (HS:H S=none) (hvS:S≠src) (hltS:S<s.heap.objs.size) (hn:ds.length<=sizeLine)
 (hT:(false || Qz T == Qz "list" || Qz T == Qz "tuple")=false) (ty:∀ s':Shared,(∀ b o,s.heap.get? b=some o->s'.heap.get? b=some o)->s'.TypeIs (.ref src) T)
 (hint:∀ (A:Around) (s':Shared) (Q:Bool->Shared->Prop) (E:Value->Shared->Prop),s'.TypeIs (.ref src) T->Q false s'->wpAny (model X.prog X.w) A (Su (.ref src)) Q E s')
 (iter:wpAny (model X.prog X.w) X.A.in1 (pyIter (.ref src)) (λitv s2=>∃ (it:Addr) (tn:Nat->Heap->Prop) (J:It),itv=.ref it /\
   s.heap.objs.size<=it/\Inv X aa Z (upd H S (.lst [])) s2/\Turn X.prog X.w X.K (.Name "x" ⟨0,0,0,0⟩) J [it] it tn/\tn 0 s2.heap/\(∀ b∈[it],dQ X aa (upd H S (.lst [])) b)/\(∀ b o,s.heap.get? b=some o->s2.heap.get? b=some o)/\jw X.K J ds Hf) E s)
 (hR:∀ (s':Shared) (H' aj:Hp) (xs:List V),Inv X aa Z H' s'->H' S=some (.lst xs)->aj S=none->ak X.K aj ds xs->bz H Hf H' aj->R (.ok (.ret res)) s') :
 wpAny (model X.prog X.w) X.A.in1 (U6 (.ref S) (.ref src) res) (λfin s'=>match fin with | .done f=>R (.ok f) s' | .again c=>c.quiet=true/\codeAny (model X.prog X.w) X.A c R s') E s:=by
 unfold U6
 have ne:Builtin.List.listSameRef (.ref S) (.ref src)=false:=by simp [Builtin.List.listSameRef,hvS]
 refine O6 (Rw (ty s λ_ _ e=>e) ?_)
 rw [if_neg (by rw [ne,hT]; decide)]
 refine O6 (Qd iter (λitv s2 hh=>z3 hh λit tn J hh=>w8 hh λe hit I2 Tn t0 hf k2 io=>?_) λ_ _ x=>x)
 subst e
 refine O6 (Qw (hint _ s2 _ _ (ty s2 k2) ?_))
 have hSne:it≠S:=Si (P9 hltS hit)
 have g0:bz H Hf (upd H S (.lst [])) Hf:=bz.f7 sb HS
 have fin:∀ s3:Shared,Inv X aa Z (upd H S (.lst [])) s3->tn 0 s3.heap->wpAny (model X.prog X.w) X.A.in1 (again (.builtin "list.extend.loop" ⟨[.ref S,.ref it,res],[]⟩)) (λfin s'=>match fin with | .done f=>R (.ok f) s' | .again c=>c.quiet=true/\codeAny (model X.prog X.w) X.A c R s') E s3:=λs3 I3 t3 =>
  O8 ⟨TH Ua _,BV (X:=X) (Hb:=H) (DJ:=Hf) hc Tn io HS (λm=>hSne (Pk.mp m).symm) hn I1.ok h1 h2 hR ds.length 0 s3 _ Hf [] 'p' (P7 _) I3 t3 hf ah (sb.free HS) (aA.mpr rfl) g0⟩
 obtain ⟨_,its,n,rv,el,eo⟩:=I2.pA (l:=S) (xs:=[]) ah
 cases rv
 split
 ·refine O6 (Qy ?_)
  unfold Builtin.List.listTouch
  refine O6 (O6 (SW eo rfl ?_))
  have I3:=I2.uA (f:=λa=>a.push .none) (its':=[.none]) (ys:=[.non]) (t':=s2.toks) ah eo 'p' (.cons rfl .nil) (by show 1<=sizeLine; decide)
  obtain ⟨_,its3,n3,rv3,el3,eo3⟩:=I3.pA (l:=S) (xs:=[.non]) ah
  cases rv3 with
  | cons r3 t3 =>
   cases t3
   cases r3
   refine SW eo3 rfl ?_
   have I4:=I3.uA (f:=λa=>a.pop) (its':=[]) (ys:=[]) (t':=s2.toks) ah eo3 'p' .nil (P7 _)
   rw [oV,oV] at I4
   refine fin _ I4 (Tn.keep 0 _ _ t0 λb hb o e=>?_)
   have hbS:S≠b:=λw=>hSne (by rw [Pk.mp hb] at w; exact w.symm)
   exact (Uj _ _ hbS).trans ((Uj _ _ hbS).trans e)
 ·exact fin s2 I2 t0
theorem iC (hc:X.calm=true) (h1:X.A.in1.handled=none) (h2:X.A.in1.frames=some X.stack) (I:Inv X aa Z H s) (sb:aL Hf H) (hlt:src<s.heap.objs.size) (hn:ds.length<=sizeLine) (hT:(false || Qz T == Qz "list" || Qz T == Qz "tuple")=false)
 (ty:∀ s':Shared,(∀ b o,s.heap.get? b=some o->s'.heap.get? b=some o)->s'.TypeIs (.ref src) T)
 (hint:∀ (A:Around) (s':Shared) (Q:Bool->Shared->Prop) (E:Value->Shared->Prop),s'.TypeIs (.ref src) T->Q false s'->wpAny (model X.prog X.w) A (Su (.ref src)) Q E s')
 (iter:∀ (A:Around) (s1:Shared) (H1:Hp) (E:Value->Shared->Prop),Inv X aa Z H1 s1->aL Hf H1->(∀ b o,s.heap.get? b=some o->s1.heap.get? b=some o)->wpAny (model X.prog X.w) A (pyIter (.ref src)) (λitv s2=>∃ (it:Addr) (tn:Nat->Heap->Prop) (J:It),itv=.ref it /\
   s1.heap.objs.size<=it/\Inv X aa Z H1 s2/\Turn X.prog X.w X.K (.Name "x" ⟨0,0,0,0⟩) J [it] it tn/\tn 0 s2.heap/\(∀ b∈[it],dQ X aa H1 b)/\(∀ b o,s1.heap.get? b=some o->s2.heap.get? b=some o)/\jw X.K J ds Hf) E s1)
 (hQ:∀ (us:List Value) (s':Shared) (H' aj:Hp) (xs:List V),Inv X aa Z H' s'->Vals xs us->ak X.K aj ds xs->bz H Hf H' aj->ds.length<=sizeLine->Q us s'):wpAny (model X.prog X.w) X.A (collect (.ref src)) Q E s:=by
 unfold collect
 refine O6 (wpAny_runValue (Rt PySem.F.entry_proto_collect ?_))
 rw [RG PySem.F.plain_proto_collect _]
 show wpAny _ X.A.in1 (newList [] >>= λl=>again (.builtin "list.__iadd__" ⟨[l,.ref src],[]⟩)) _ _ s
 have HS:H s.heap.objs.size=none:=I.hok.fresh (O9 _)
 have hvS:s.heap.objs.size≠src:=Si hlt
 refine O6 (QG (O8 ⟨TH PySem.F.plain_list_iadd _,Rt PySem.F.entry_list_iadd ?_⟩))
 rw [RG PySem.F.plain_list_iadd _]
 generalize hS:s.heap.objs.size=S at *
 have I1:Inv X aa Z (upd H S (.lst [])) { s with heap:=s.heap.push { cls:=.type "list",data:=.seq ([]:List Value).toArray },toks:=s.toks }:=by
  have:=I.Im (t':=s.toks) (ys:=[]) (its:=[]) .nil (P7 _)
  rw [hS] at this
  exact this
 show wpAny _ X.A.in1 (U6 (.ref S) (.ref src) (.ref S)) _ _ { s with heap:=s.heap.push { cls:=.type "list",data:=.seq ([]:List Value).toArray } }
 have k1:∀ b o,s.heap.get? b=some o->(s.heap.push { cls:=.type "list",data:=.seq ([]:List Value).toArray }).get? b=some o:=λb o e=>Pe _ e
 generalize hs1:({ s with heap:=s.heap.push { cls:=.type "list",data:=.seq ([]:List Value).toArray } }:Shared)=s1
 replace I1:Inv X aa Z (upd H S (.lst [])) s1:=by rw [<- hs1]; exact I1
 replace k1:∀ b o,s.heap.get? b=some o->s1.heap.get? b=some o:=by rw [<- hs1]; exact k1
 have hltS:S<s1.heap.objs.size:=by rw [<- hs1,<- hS]; show _<(Heap.push _ _).objs.size; rw [Q7]; exact SO _
 refine yT (R:=λr s'=>match r with
  | .ok (.ret v)=>wpAny (model X.prog X.w) X.A (do
   let .ref a:=v | unsupported "internal:collect"
   let o <- load a
   match o.data with
   | .seq xs _=>pure xs.toList
   | _=>unsupported "internal:collect") Q E s'
  | .ok _=>False
  | .error e=>E e s') hc h1 h2 I1 sb HS hvS hltS hn hT (λs' k=>ty s' λb o e=>k b o (k1 b o e)) hint (iter _ s1 _ _ I1 (bz.f7 sb HS (o:=.lst [])).b k1) λs' H' aj xs I' hS' _ hr g=>?_
 obtain ⟨_,its,n,rv,el,eo⟩:=I'.pA hS'
 exact O6 (wpAny_load eo (O8 (hQ its s' H' aj xs I' rv hr g hn)))
theorem p6 (hc:X.calm=true) (h1:X.A.in1.handled=none) (h2:X.A.in1.frames=some X.stack) (I:Inv X aa Z H s) (sb:aL Hf H) (hv:s.heap.IsItemsView v d) (hH:Hf d=some (.frz o u)) (hd:HO.dct u)
 (hp:Paired (lP X.K Hf) ds (cH u))
 (hQ:∀ (us:List Value) (s':Shared) (H' aj:Hp) (xs:List V),Inv X aa Z H' s'->Vals xs us->ak X.K aj ds xs->bz H Hf H' aj->ds.length<=sizeLine->Q us s'):wpAny (model X.prog X.w) X.A (collect (.ref v)) Q E s:=by
 obtain ⟨ho,ok⟩:=(show bf X.prog X.w H s.heap d (.frz o u) from I.hok d _ (sb _ _ hH))
 obtain ⟨_,_,_,_,_,_,hz⟩:=di ok hd ho
 have up:∀ s':Shared,(∀ b o,s.heap.get? b=some o->s'.heap.get? b=some o)->s'.heap.IsItemsView v d:=λs' k=>by obtain ⟨q,q1,q2⟩:=hv; exact ⟨q,k _ _ q1,q2⟩
 refine iC (T:="dict_items") hc h1 h2 I sb (by obtain ⟨_,q,_⟩:=hv; exact Pf q) (by rw [QD hp]; exact hz) 'd' (λs' k=>(up s' k).typeIs) (λA s' Q E q h=>yS q h) (λA s1 H1 E I1 sb1 k1=>?_) hQ
 refine Qd (Fc (tg:=.Name "x" ⟨0,0,0,0⟩) I1 (up s1 k1) (sb1 _ _ hH) hd) (λitv s2 ⟨it,es,ep,e,hit,I2,Tn,t0,hf,k2⟩=>?_) λ_ _ x=>x
 exact ⟨it,_,_,e,hit,I2,Tn,t0,hf,k2,lQ hH hp⟩
noncomputable def Jt (te:TE):TE:=λZ H Q=>te Z H λx H1=>∃ d o u,x=.ref d/\H1 d=some (.frz o u)/\HO.dct u/\∀ v,H1 v=none->Q (.ref v) (upd H1 v (.ext λh=>h.IsItemsView v d))
theorem BW (he:PE X e te) (hbase:attributeBase e "items" X.env (eval e X.env)=eval e X.env) (hline:(ap.endLine == cp.line)=true):PE X (.Call (.Attribute e "items" ap) [] [] cp) (Jt te):=by
 intro aa s Z H Q I h
 refine VP (T:="dict") (id:="dict.items") hbase rfl hline F.plainAttrs_dict Uy F.type_dict_items (bL (he aa s Z H _ I h) λv s1 ⟨x,H1,I1,r1,d,o,u,ex,hH,hd,q⟩=>?_)
 subst ex
 cases r1
 obtain ⟨ho,ok⟩:=(show bf X.prog X.w H1 s1.heap d (.frz o u) from I1.hok d _ hH)
 obtain ⟨hx,es,ep,hod,hp,hs,hz⟩:=di ok hd ho
 have hT:s1.TypeIs (.ref d) "dict":=⟨o,ho,hx.1⟩
 refine ⟨hT,λb z=>by cases z; exact ⟨o,ho,hx.2.1⟩,?_⟩
 show wpAny _ _ (callWith cp (.builtin "dict.items") [.ref d] [] []) _ _ s1
 refine method_meetsIn Uy F.entry_dict_items rfl (VB ⟨rfl,hT,F.args_dict_items_1 _,_,jW d hs,hT,?_⟩)
 have Hv:H1 s1.heap.objs.size=none:=I1.hok.fresh (O9 _)
 have hve:(s1.heap.push { cls:=.type "dict_items",data:=.fields #[.ref d] }).IsItemsView s1.heap.objs.size d:=⟨_,Pq _ rfl,rfl,rfl⟩
 have I2:Inv X aa Z (upd H1 s1.heap.objs.size (.ext λh=>h.IsItemsView s1.heap.objs.size d)) { s1 with heap:=s1.heap.push { cls:=.type "dict_items",data:=.fields #[.ref d] },toks:=s1.toks } :=
  I1.laid (a:=s1.heap.objs.size) (λ_ _ q=>Pe _ q) (O9 _) ⟨hve,⟨_,Pq _ rfl⟩,λh1 h2 ⟨o,e,r⟩ k=>⟨o,k o e,r⟩⟩
 exact ⟨.ref s1.heap.objs.size,_,I2,rfl,q _ Hv⟩
section
variable {X:Cx} {aa:List (Addr×Obj)} {Z:L2.St} {H Hf:Hp} {s:Shared} {E:Value->Shared->Prop} {α:Type} {enc:α->D} {lt:α->α->Bool} {U:SortKind}
theorem l5 {K:O7}:∀ {L:List α} {xs:List V} {us:List Value},ak K Hf (L.map enc) xs->Vals xs us->Paired (λx u=>kG K Hf (enc x) u) L us
 | [],xs,us,h,v=>by rw [Q8,aA] at h; subst h; cases v; exact .nil
 | t::L,xs,us,h,v=>by
  rw [Pn] at h
  obtain ⟨x,r,rfl,h1,h2⟩:=aF.mp h
  cases v with
  | cons r1 r2=>exact .cons ⟨x,r1,h1⟩ (l5 h2 r2)
theorem l7 {K:O7}:∀ {L:List α} {us:List Value},Paired (λx u=>kG K Hf (enc x) u) L us->∃ xs,ak K Hf (L.map enc) xs/\Vals xs us
 | _,_,.nil=>⟨[],aA.mpr rfl,.nil⟩
 | _,_,.cons ⟨x,r1,h1⟩ t=>by
  obtain ⟨xs,h2,h3⟩:=l7 t
  exact ⟨x::xs,.cons h1 h2,.cons r1 h3⟩
structure Ju (X:Cx) (enc:α->D) (lt:α->α->Bool) (U:SortKind):Prop where
 lin:∀ L:List α,SR.Jr lt L
 inj:∀ (aa:List (Addr×Obj)) (Z:L2.St) (H Hf:Hp) (s:Shared),Inv X aa Z H s->aL Hf H->∀ x y u,kG X.K Hf (enc x) u->kG X.K Hf (enc y) u->x=y
 kind:∀ (aa:List (Addr×Obj)) (Z:L2.St) (H Hf:Hp) (s:Shared) (A:Around) (E:Value->Shared->Prop),Inv X aa Z H s->aL Hf H->∀ (L:List α) (us:List Value),Paired (λx u=>kG X.K Hf (enc x) u) L us->2<=us.length->∀ Q:SortKind->Shared->Prop,Q U s->wpAny (model X.prog X.w) A (keyKind' us.toArray) Q E s
 cmp:∀ (aa:List (Addr×Obj)) (Z:L2.St) (H Hf:Hp) (s:Shared) (A:Around) (E:Value->Shared->Prop),Inv X aa Z H s->aL Hf H->A.units+10<cLine->∀ (x y:α) (u v:Value),kG X.K Hf (enc x) u->kG X.K Hf (enc y) v->∀ Q:Bool->Shared->Prop,Q (lt x y) s->wpAny (model X.prog X.w) A (keyLt' U u v) Q E s
theorem wV:Ju X af cE (tuples' false) :=
 ⟨kF,λ_ _ _ _ _ I sb _ _ _ h1 h2=>E8 I sb h1 h2,λ_ _ _ _ _ _ _ I sb _ _ p h2 _ hQ=>BU I sb p h2 hQ,λ_ _ _ _ _ _ _ I sb hA _ _ _ _ hx hy _ hQ=>Js I sb hA hx hy hQ⟩
def gu (lt:α->α->Bool) (b:Bool) (L:List α):Prop:=L.Pairwise λx y=>if b then lt y x=true else lt x y=true
abbrev f9 (b:Bool) (L:List aG):Prop:=gu cE b L
theorem l8 {Q:Value->Shared->Prop} (hs:Ju X enc lt U) (I:Inv X aa Z H s) (sb:aL Hf H) (hA:A.units+20<cLine) (hr:ak X.K Hf (L.map enc) xs) (hv:Vals xs us) (hz:us.length<=sizeLine) (nd:L.Nodup)
 (hQ:∀ (L':List α) (xs':List V) (s':Shared),L'.Perm L->gu lt b L'->ak X.K Hf (L'.map enc) xs'->xs'.length<=sizeLine->Inv X aa Z (upd H s.heap.objs.size (.lst xs')) s'->Q (.ref s.heap.objs.size) s') :
 wpAny (model X.prog X.w) A (newList us >>= λl=>(holding [l] (call (.builtin "list.sort") [l] [(O5 "reverse",.bool b)]) >>= λ_=>ret l)) (λfin s'=>∃ v,fin=.done (.ret v)/\Q v s') E s:=by
 refine O6 (UL ?_ hz)
 have ha:(s.heap.push (seqObj "list" us.toArray 0)).get? s.heap.objs.size=some (seqObj "list" us.toArray 0):=Pq _ rfl
 have I1:Inv X aa Z H { s with heap:=s.heap.push (seqObj "list" us.toArray 0),toks:=s.toks }:=I.kept λb o e=>Pe _ e
 have Ha:H s.heap.objs.size=none:=I.hok.fresh (O9 _)
 obtain ⟨f0,f1,f2,f3,f4,f5⟩:=I.jr (H':=H) (O9 _) Ha
 have pL:=l5 hr hv
 refine O6 (Qw (wpAny_call_entry_kw slot_list_sort ⟨_,ha,rfl⟩ entry_list_sort (SR.oh (U:=U) (rk:=SR.yQ (λx u=>kG X.K Hf (enc x) u) lt L) (b:=b) ha ?_ hz λout hp ho=>⟨_,rfl,?_⟩) (args_list_sort_rev _ _)))
 ·intro h' k
  have I2:=I1.turned (h':=h') (t':=s.toks) (it:=s.heap.objs.size) (λb o hb e=>k b o hb e) f0 f1 f3 f4 f5
  refine ⟨λQ E h2 hQ=>hs.kind _ _ _ _ _ _ _ I2 sb _ _ pL h2 _ hQ,SR.BQ (λx y u h1 h2=>hs.inj _ _ _ _ _ I2 sb x y u h1 h2) (hs.lin L) pL λx _ y _ u v hx hy E Q hQ=>hs.cmp _ _ _ _ _ _ _ I2 sb ?_ _ _ _ _ hx hy _ hQ⟩
  show A.units+1+10<cLine
  lia
 ·obtain ⟨L',p1,p2,p3⟩:=SR.sG (S:=λx u=>kG X.K Hf (enc x) u) (λx y u h1 h2=>hs.inj _ _ _ _ _ I sb x y u h1 h2) (hs.lin L) nd pL hp ho
  obtain ⟨xs',r',v'⟩:=l7 p3
  obtain ⟨e,he⟩:=sortedHeap_at (vs:=us) (out:=out) ha
  have hl:out.toList.length=us.length:=hp.length_eq
  refine O8 ⟨_,rfl,hQ L' xs' _ p1 p2 r' ?_ ?_⟩
  ·have:=v'.length; lia
  ·refine I.laid (t':=s.toks) (λb o q=>?_) (O9 _) ⟨by have:=v'.length; lia,out.toList,e,v',by simpa using he⟩
   have lt:=Pf q
   rw [sortedHeap_old (PJ lt) (by rw [size_push']; exact Us lt)]
   exact Pe _ q
end
theorem sI (hc:X.calm=true) (I:Inv X aa Z H s) (sb:aL Hf H) (hA:X.A.units+60<cLine) (hv:s.heap.IsItemsView v d) (hH:Hf d=some (.frz o u)) (hd:HO.dct u)
 (hp:Paired (lP X.K Hf) (L.map af) (cH u)) (nd:L.Nodup)
 (hQ:∀ (L':List aG) (xs':List V) (s':Shared) (H' aj:Hp) (a:Addr),L'.Perm L->f9 b L'->ak X.K aj (L'.map af) xs'->bz H Hf H' aj->H' a=none->Inv X aa Z (upd H' a (.lst xs')) s'->Q (.ref a) s') :
 wpAny (model X.prog X.w) X.A (call (.builtin "sorted") [.ref v] [(O5 "reverse",.bool b)]) Q E s:=by
 refine Vl UX UN UP (args_sorted_rev _ _) ?_
 unfold Builtin.«sorted»
 refine O6 (m:=checkCount "sorted" 1 1 _) (O8 ?_)
 have h1:X.A.in1.handled=none:=I.ok.hd hc
 have h2:X.A.in1.frames=some X.stack:=I.ok.frames
 refine O6 (p6 (X:=E9 X X.A.in1) (H:=H) (Hf:=Hf) hc h1 h2 (jC I (λ_=>h1) h2) sb hv hH hd hp λus s' H' aj xs I' rv rr g hz=>?_)
 have I2:=fJ I.ok I'
 have el:=rr.length
 have el2:=rv.length
 refine l8 (b:=b) wV I2 g.b ?_ rr rv 'l' nd λL' xs' s2 p1 p2 p3 p4 I3=>hQ L' xs' s2 H' aj _ p1 p2 p3 g (I2.hok.fresh (O9 _)) I3
 show X.A.units+1+20<cLine
 lia
section
variable {K:O7} {c:Ctx P w K mg base k N sc bk}
theorem sJ (hm:mg "sorted"=none) (h:aB c e Y λd=>∃ L:List aG,d.pairs=some (L.map af)/\Sd L.Nodup (∀ L':List aG,L'.Perm L->f9 true L'->R (.ow (L'.map af))))
 (hg:sc.names.lookup (O5 "sorted")=some .globalImplicit:=by rfl')
 (hb:∀ env,attributeBase e "items" env (eval e env)=eval e env:=by symm) (hl:(ap.endLine == cp.line)=true:=by rfl') :
 dU c (.Call (.Name "sorted" np) [.Call (.Attribute e "items" ap) [] [] cp] [⟨some "reverse",.Constant (.bool true) j kp1,kp⟩] pos) Y R:=λZ H Hf Q S q aa s I=>by
 have hgl:Gl c.X "sorted":=by unfold Gl P6; rw [c.esc]; exact hg
 refine Q0 (cX I hgl (by rw [c.emg]; exact hm) (show bootBuiltins "sorted"=some (.builtin "sorted") by decide +kernel) ?_ 'd' 'd')
 refine UY ?_
 have hpa:=bC (X:=c.X) (e:=.Call (.Attribute e "items" ap) [] [] cp) (es:=[]) (BW cI (hb _) hl) cM (by rfl)
 refine bL (hpa pos aa s Z H (λvs H1=>∃ x,vs=[x]/\∃ (v d:Addr) (o:Obj) (u:HO) (L:List aG) (H0 DJ:Hp),x=.ref v/\H1=upd H0 v (.ext λh=>h.IsItemsView v d)/\H0 v=none/\DJ d=some (.frz o u)/\HO.dct u/\Paired (lP c.X.K DJ) (L.map af) (cH u)/\L.Nodup/\bz H Hf H0 DJ/\∀ L':List aG,L'.Perm L->f9 true L'->R (.ow (L'.map af))) I ?_) λus s1 hh=>?_
 ·exact h Z H Hf _ S λd v H1 aP ⟨L,hp,⟨hn,hR⟩⟩ rv g=>by
   obtain ⟨a,o,u,e1,e2,e3,e4⟩:=nV hp rv
   exact ⟨a,o,u,e1,g.b _ _ e2,e3,λvw hv=>⟨_,rfl,vw,a,o,u,L,H1,aP,rfl,rfl,hv,e2,e3,e4,hn,g,hR⟩⟩
 ·refine Classical.byContradiction λhG=>?_
  obtain ⟨vs,H1,I1,r1,x,ex,v,d,o,u,L,H0,DJ,e1,e2,e3,e4,e5,e6,e7,e8,e9⟩:=hh
  refine hG ?_
  subst ex e1 e2
  have eu:us=[.ref v]:=by
   cases r1 with
   | cons q1 q2=>cases q2; cases q1; rfl
  subst eu
  have g1:bz H0 DJ (upd H0 v (.ext λh=>h.IsItemsView v d)) DJ:=bz.f7 e8.b e3
  refine kws_cons (bL (vC (X:=c.X) (b:=true) (j:=j) (pos:=kp1) aa s1 Z _ (λx H1=>x=.bl true/\H1=upd H0 v (.ext λh=>h.IsItemsView v d)) I1 ⟨rfl,rfl⟩) λkv s2 ⟨x,H2,I2,rx,e10,e11⟩=>kws_nil ?_)
  subst e10 e11
  have ek:kv=.bool true:=rx
  subst ek
  obtain ⟨hvw,_⟩:=(show bf c.X.prog c.X.w _ s2.heap v (.ext λh=>h.IsItemsView v d) from I2.hok v _ ah)
  refine sI (b:=true) c.calm I2 g1.b ?_ hvw e4 e5 e6 e7 λL' xs' s' H' aj a p1 p2 p3 g2 na I3=>?_
  ·have:=c.room.un
   have hc:(200:Nat)<=16 * k+200:=by lia
   lia
  ·have gg:=(e8.trans g1).trans g2
   exact ⟨.ref a,_,I3,rfl,q (.ow (L'.map af)) _ _ aj (e9 L' p1 p2) ⟨a,xs',rfl,gg.s.free na,ah,g2.b.free na,p3⟩ (gg.trans (bz.f7 gg.b na))⟩
end
theorem p7 (hc:X.calm=true) (I:Inv X aa Z H s) (sb:aL Hf H) (hA:X.A.units+60<cLine) (hl:fZ X.K Hf l ys) (hr:ak X.K Hf (L.map af) ys) (nd:L.Nodup)
 (hQ:∀ (L':List aG) (xs':List V) (s':Shared) (a:Addr),L'.Perm L->f9 b L'->ak X.K Hf (L'.map af) xs'->H a=none->Inv X aa Z (upd H a (.lst xs')) s'->Q (.ref a) s') :
 wpAny (model X.prog X.w) X.A (call (.builtin "sorted") [.ref l] [(O5 "reverse",.bool b)]) Q E s:=by
 refine Vl UX UN UP (args_sorted_rev _ _) ?_
 unfold Builtin.«sorted»
 refine O6 (m:=checkCount "sorted" 1 1 _) (O8 ?_)
 obtain ⟨its,rv,p,hz⟩:=I.list (sb.seq hl)
 have el:=rv.length
 refine O6 (collect_list p.isList ?_ 'l')
 have I2:Inv X aa Z H { s with heap:=(s.heap.push (seqObj "list" #[] 0)).update s.heap.objs.size (QY (· ++its.toArray)),toks:=s.toks }:=I.kept λc o e=>by
  rw [SI _ _ _ _ (PJ (Pf e))]
  exact Pe _ e
 refine l8 (b:=b) wV I2 sb ?_ hr rv 'l' nd λL' xs' s2 p1 p2 p3 p4 I3=>hQ L' xs' s2 _ p1 p2 p3 (I2.hok.fresh (O9 _)) I3
 show X.A.units+1+20<cLine
 lia
section
variable {K:O7} {c:Ctx P w K mg base k N sc bk}
theorem uM (hm:mg "sorted"=none) (h:aB c e Y λd=>∃ L:List aG,d=.lst (L.map af)/\Sd L.Nodup (∀ L':List aG,L'.Perm L->f9 true L'->R (.ow (L'.map af))))
 (hg:sc.names.lookup (O5 "sorted")=some .globalImplicit:=by rfl')
 (he:∀ env,starEach [e] env=(false,eval e env)::starEach [] env:=by symm)
 (hpl:∀ env,(backTo pos (starEach [e] env)).any (·.1)=false:=by symm) :
 dU c (.Call (.Name "sorted" np) [e] [⟨some "reverse",.Constant (.bool true) j kp1,kp⟩] pos) Y R:=λZ H Hf Q S q aa s I=>by
 have hgl:Gl c.X "sorted":=by unfold Gl P6; rw [c.esc]; exact hg
 refine Q0 (cX I hgl (by rw [c.emg]; exact hm) (show bootBuiltins "sorted"=some (.builtin "sorted") by decide +kernel) ?_ 'd' 'd')
 refine UY ?_ (by rw [he]; rfl) (hpl _)
 have hpa:=bC (X:=c.X) (e:=e) (es:=[]) cI cM (he _)
 refine bL (hpa pos aa s Z H (λvs H1=>∃ x,vs=[x]/\∃ (L:List aG) (aP:Hp),Rep c.X.K aP (.lst (L.map af)) x/\L.Nodup/\bz H Hf H1 aP/\∀ L':List aG,L'.Perm L->f9 true L'->R (.ow (L'.map af))) I ?_) λus s1 hh=>z2 hh λvs H1 hh=>w3 hh λI1 r1 hh=>hh.elim λx hh=>w2 hh λex hh=>z2 hh λL aP hh=>w4 hh λe1 e7 e8 e9=>?_
 ·exact h Z H Hf _ S λd v H1 aP ⟨L,hp,⟨hn,hR⟩⟩ rv g=>⟨_,rfl,L,aP,by rw [<- hp]; exact rv,hn,g,hR⟩
 ·subst ex
  obtain ⟨a0,ys,rfl,hs,hr⟩:=bh.mp e1
  have eu:us=[.ref a0]:=by
   cases r1 with
   | cons q1 q2=>cases q2; cases q1; rfl
  subst eu
  refine kws_cons (bL (vC (X:=c.X) (b:=true) (j:=j) (pos:=kp1) aa s1 Z _ (λx H2=>x=.bl true/\H2=H1) I1 ⟨rfl,rfl⟩) λkv s2 ⟨x,H2,I2,rx,e10,e11⟩=>kws_nil ?_)
  subst e10 e11
  have ek:kv=.bool true:=rx
  subst ek
  refine p7 (b:=true) c.calm I2 e8.b ?_ hs hr e7 λL' xs' s' a p1 p2 p3 na I3=>?_
  ·have:=c.room.un
   lia
  ·exact ⟨.ref a,_,I3,rfl,q (.ow (L'.map af)) _ _ aP (e9 L' p1 p2) ⟨a,xs',rfl,e8.s.free na,ah,e8.b.free na,p3⟩ (e8.trans (bz.f7 e8.b na))⟩
end
end EV
namespace EV
open PySem PySem.Spec PyProof.Rows L2
noncomputable def trim (l:List Int):List Int:=(l.reverse.dropWhile λx=>x == 0).reverse
theorem gM (l):trim (l++[0])=trim l:=by simp [trim]
theorem oi (l) (h:x≠0):trim (l++[x])=l++[x]:=by simp [trim,List.dropWhile_cons,h]
theorem jD {l:List Int} (h:m<l.length):l.take (m+1)=l.take m++[l.getD m 0]:=by
 rw [QZ h]; simp [Qn,h]
theorem oj (h:m<l.length) (z:l.getD m 0=0) (e:trim (l.take (m+1))=trim l):trim (l.take m)=trim l:=by
 rw [jD h,z,gM] at e; exact e
theorem om (h:m<l.length) (z:l.getD m 0≠0) (e:trim (l.take (m+1))=trim l):l.take (m+1)=trim l:=by
 rw [<- e,jD h,oi _ z]
theorem dz (l):(trim l).length<=l.length:=by
 unfold trim
 rw [List.length_reverse]
 exact Pj (List.dropWhile_sublist _).length_le 'p'
theorem cj (l):trim (trim l)=trim l:=by
 unfold trim
 rw [Uo]
 congr 1
 generalize l.reverse=r
 induction r with
 | nil=>rfl
 | cons x r ih=>by_cases h:x == 0 <;> simp [List.dropWhile_cons,h,ih]
theorem BX (l:List α) (h:m<=l.length):EV.cutD l none (some (m:Int))=l.take m:=by
 unfold EV.cutD HT.cA
 have e:¬ (m:Int)<0:=by lia
 simp only [e,if_false,Qc]
 simp [Se h]
section
variable {K:O7} {c:Ctx P w K mg base k N sc bk}
theorem s_pop (hN:At N i x) (hi:At Y i r) (hr:r.getL=some ds) (h:Sd (ds≠[]) (Nx Y i nx (r.putL ds.dropLast)))
 (hs:∀ env,swapsWith (.Call (.Attribute (.Name x px) "pop" ap) [] [] cp) none pos.line env=pure false:=by symm) (hd:Ndb x:=by decide) (hcd:Ncd x:=by decide)
 (hbase:∀ env,attributeBase (.Name x px) "pop" env (eval (.Name x px) env)=eval (.Name x px) env:=by symm)
 (hline:(ap.endLine == cp.line)=true:=by rfl') :
 fm c (.Expr (.Call (.Attribute (.Name x px) "pop" ap) [] [] cp) pos) Y nx p:=λZ H Hf D S o=>by
 obtain ⟨q,eq,rq⟩:=S.own hi.get (bH hr)
 obtain ⟨xs,h1,h2,h3⟩:=yE hr rq
 obtain ⟨hz,Y',hs',hn⟩:=h
 have hl:=h3.length
 have hlen:0<xs.length:=by
  rw [<- hl]; exact List.length_pos_iff.mpr hz
 obtain ⟨y,hy⟩:∃ y,xs[xs.length - 1]?=some y:=⟨_,PX 'o'⟩
 refine cO (iK (uw Uh PySem.F.slot_list_pop PySem.F.type_list_pop Av (c.iQ hN hd hcd) (hbase _) hline) (hs _)) ⟨_,eq,.inl ⟨rfl,xs,.inl (.inl h1)⟩,?_⟩
 refine ⟨q,xs,y,rfl,rfl,h1,hy,?_⟩
 refine o.nx _ _ Hf Y' ?_ hn
 rw [hs'.eq]
 exact S.upd hi.get (bH hr) eq (eT S.sb h2) (fF hr rq ah h2 h3.dropLast) (c7 hr)
end
noncomputable def encA (A:List aG):List (List Key×D):=A.map λt=>(t.1.map PK,.int t.2)
theorem p9:∀ {l m:List Int},(l.map (PK:Int->Key))=m.map PK->l=m
 | [],[],_=>rfl
 | x::l,y::m,h=>by
  simp only [Pn,List.cons.injEq,PK.injEq] at h
  rw [h.1,p9 h.2]
 | [],_::_,h=>by simp at h
 | _::_,[],h=>by simp at h
theorem wW (A) (l):aM (encA A) (l.map PK)=(aM A l).map D.int:=by
 induction A with
 | nil=>rfl
 | cons t A ih =>
  by_cases e:t.1=l
  ·rw [bg e]
   show aM ((t.1.map PK,D.int t.2)::encA A) _=_
   rw [bg (by rw [e])]; rfl
  ·rw [aQ e,<- ih]
   show aM ((t.1.map PK,D.int t.2)::encA A) _=_
   rw [aQ λz=>e (p9 z)]
theorem Fd (A) (l) (n):putD (encA A) (l.map PK) (.int n)=encA (putD A l n):=by
 unfold putD
 rw [wW]
 by_cases h:(aM A l).isSome=true
 ·rw [if_pos h,if_pos (by rw [RH]; exact h)]
  unfold encA
  rw [PZ,PZ]
  refine Rq λt _=>?_
  simp only [UM]
  by_cases e:t.1=l
  ·rw [if_pos e,if_pos (by rw [e])]
  ·rw [if_neg e,if_neg λz=>e (p9 z)]
 ·rw [if_neg h,if_neg (by rw [RH]; exact h)]
  unfold encA
  simp
theorem jE:∀ l:List Int,D.keys (l.map D.int)=some (l.map PK)
 | []=>rfl
 | x::l=>by
  simp only [Pn]
  unfold D.keys
  rw [jE l]; rfl
theorem Fe (A:List aG) (l:List Int) (n:Int):(putD A l n).length<=A.length+1:=by
 unfold putD; split <;> simp
theorem Ff (A):(encA A).length=A.length:=by simp [encA]
theorem sL (l:List Int) (n:Int) (h:(A.map (·.1)).Nodup):((putD A l n).map (·.1)).Nodup:=by
 unfold putD
 split
 ·rw [PZ]
  have e:(A.map ((·.1)∘λkv:aG=>if kv.1=l then (kv.1,n) else kv))=A.map (·.1):=Rq λt _=>by
   simp only [UM]; split <;> rfl
  rw [e]; exact h
 ·rename_i q
  rw [Qh,Uu]
  refine ⟨h,by simp,?_⟩
  intro a ha b hb
  simp at hb
  subst hb
  intro z
  subst z
  apply q
  obtain ⟨t,ht,e⟩:=Pz.mp ha
  unfold aM
  rw [RH,List.find?_isSome]
  exact ⟨t,ht,decide_eq_true e⟩
theorem keys_nodup {A:List aG} (h:(A.map (·.1)).Nodup):A.Nodup:=by
 unfold Td at *
 rw [SM] at h
 exact h.imp λq z=>q (by rw [z])
noncomputable def gW (A:List aG) (t:aG):List aG:=putD A (trim t.1) ((aM A (trim t.1)).getD 0+t.2)
noncomputable def aY (ts:List aG):List aG:=ts.foldl gW []
theorem l9 (ts) (t):aY (ts++[t])=gW (aY ts) t:=by simp [aY]
theorem qa (ts:List aG) (A):(ts.foldl gW A).length<=A.length+ts.length:=by
 induction ts generalizing A with
 | nil=>simp
 | cons t ts ih =>
  have h1:=ih (gW A t)
  have h2:=Fe A (trim t.1) ((aM A (trim t.1)).getD 0+t.2)
  simp only [RJ,P4]
  unfold gW at *
  lia
theorem fU (ts):(aY ts).length<=ts.length:=by
 have:=qa ts []
 simpa [aY] using this
theorem gv (ts):((aY ts).map (·.1)).Nodup:=by
 unfold aY
 have:∀ A:List aG,(A.map (·.1)).Nodup->((ts.foldl gW A).map (·.1)).Nodup:=by
  induction ts with
  | nil=>exact λA h=>h
  | cons t ts ih=>exact λA h=>ih _ (sL _ _ h)
 exact this [] 'p'
theorem Fg (x):cE x x=false:=(kF [x]).irr x 'p'
theorem BY (h:cE x y=true) (g:cE y z=true):cE x z=true:=(kF [x,y,z]).tr x 'p' y 'p' z 'p' h g
theorem sM:∀ {L M:List aG},L.Perm M->f9 true L->f9 true M->L=M
 | [],M,h,_,_=>by rw [List.nil_perm] at h; exact h.symm
 | x::L,[],h,_,_=>by simp at h
 | x::L,y::M,h,h1,h2=>by
  unfold f9 gu at h1 h2
  rw [Ri] at h1 h2
  by_cases e:x=y
  ·subst e
   rw [sM ((List.perm_cons _).mp h) h1.2 h2.2]
  ·exfalso
   have hx:x∈M:=by
    have:=h.subset (Pd)
    rcases Pg.mp this with z | z
    ·exact absurd z e
    ·exact z
   have hy:y∈L:=by
    have:=h.symm.subset (Pd)
    rcases Pg.mp this with z | z
    ·exact absurd z.symm e
    ·exact z
   have a:=h1.1 y hy
   have b:=h2.1 x hx
   simp only [if_true] at a b
   have:=BY a b
   rw [Fg] at this; cases this
noncomputable def yU (t:aG):List aG->List aG
 | []=>[t]
 | x::r=>if cE x t=true then t::x::r else x::yU t r
noncomputable def gX (L:List aG):List aG:=L.foldr yU []
theorem mh (t):∀ L:List aG,(yU t L).Perm (t::L)
 | []=>.refl _
 | x::r=>by
  unfold yU
  split
  ·exact .refl _
  ·exact ((mh t r).cons x).trans (.swap _ _ _)
theorem ck:∀ L:List aG,(gX L).Perm L
 | []=>.refl _
 | t::L=>(mh t (gX L)).trans ((ck L).cons t)
theorem Fi (h:x≠y):cE x y=true\/cE y x=true:=(kF [x,y]).tot x 'p' y 'p' h
theorem wX (t):∀ L:List aG,t∉L->f9 true L->f9 true (yU t L)
 | [],_,_=>RY _ _
 | x::r,hn,h=>by
  have h':=h
  unfold f9 gu at h'
  rw [Ri] at h'
  unfold yU
  by_cases e:cE x t=true
  ·rw [if_pos e]
   unfold f9 gu
   rw [Ri]
   refine ⟨λy hy=>?_,h⟩
   simp only [if_true]
   rcases Pg.mp hy with rfl | z
   ·exact e
   ·have:=h'.1 y z
    simp only [if_true] at this
    exact BY this e
  ·rw [if_neg e]
   unfold f9 gu
   rw [Ri]
   refine ⟨λy hy=>?_,wX t r (λz=>hn (Ph _ z)) h'.2⟩
   rcases Pg.mp ((mh t r).subset hy) with rfl | z
   ·simp only [if_true]
    rcases Fi (x:=x) (y:=y) (λz=>hn (by rw [z]; exact Pd)) with q | q
    ·exact absurd q e
    ·exact q
   ·exact h'.1 y z
theorem i8:∀ {L:List aG},L.Nodup->f9 true (gX L)
 | [],_=>SN
 | t::L,h=>by
  rw [QM] at h
  exact wX t _ (λz=>h.1 ((ck L).subset z)) (i8 h.2)
theorem uN (hn:L.Nodup) (hp:L'.Perm L) (hs:f9 true L'):L'=gX L:=sM (hp.trans (ck L).symm) hs (i8 hn)
noncomputable def nz (L:List aG):List aG:=L.filter λt=>t.2 != 0
theorem BZ (hn:L.Nodup):nz (gX L)=gX (nz L) :=
 uN (Vx _ hn) ((ck L).filter _) ((i8 hn).filter _)
theorem encK (A):(Sl.oT (encA A)).pR=some (.fdT (A.map λt=>t.1.map PK) (A.map λt=>.int t.2)):=by
 show some _=some _
 unfold encA
 rw [PZ,PZ]; rfl
theorem oq (A:List aG):(D.fdT (A.map λt=>t.1.map PK) (A.map λt=>.int t.2)).pairs=some (A.map af):=by
 show some _=some _
 congr 1
 rw [VW,VR]
 refine Rq λt _=>?_
 unfold af
 congr 3
 rw [PZ]; rfl
theorem B0 (h:r.yG=some (encA A)) (l):zV r (.tup (l.map .int)) ((aM A l).map D.int):=by
 rw [<- wW]; exact .t h (jE l)
theorem B3 (hz:A.length<sizeLine):EE (.oT (encA A)) (.tup (l.map .int)) (.int n) (.oT (encA (putD A l n))):=by
 rw [<- Fd]
 exact .t (r:=.oT (encA A)) rfl (jE l) (by rw [Ff]; exact hz)
theorem sN (o:Option Int):(o.map D.int).getD (.int 0)=.int (o.getD 0):=by cases o <;> rfl
end EV
namespace EV
open PySem PySem.Spec PySem.Calls PyProof.Rows L2
theorem gO {L:List Addr} (I:Inv X aa Z H s) (k:∀ b o,b∉L->s.heap.get? b=some o->h'.get? b=some o) (hf:∀ b∈L,dQ X aa H b):Inv X aa Z H { s with heap:=h',toks:=t' }:=by
 have nit:∀ b u,H b=some u->b∉L:=λb u e z=>by rw [(hf b z).1] at e; cases e
 refine I.step (g':=s.gens) (d':=s.drawn) (ch:=L) (λb hb=>?_) (λb o _ _ hc e _=>k b o hc e) (λb o _ _ hc e _=>⟨o.slots,k b o hc e⟩) (λ_ _ _ _ n=>n)
  (λb o hc e=>⟨o,k b o hc e⟩) (λ_ _ e=>e) (λ_ _ _ e=>e) (λb ps e=>⟨#[],by rw [e]; simp⟩) (λm hm=>?_) (λb u e=>?_) I.bare
 ·obtain ⟨_,f1,_,f3,f4,f5⟩:=hf b hb
  exact ⟨f3,f1,f4,f5⟩
 ·obtain ⟨o,es,ep,ho,r⟩:=hm
  exact ⟨o,es,ep,k _ o (λz=>(hf _ z).2.1 rfl) ho,r⟩
 ·refine (I.hok b u e).stay (λc v hc q=>k c v ?_ q) (λ_ q=>q) λ_ _ q=>q
  rcases hc with z | z
  ·rw [z]; exact nit b u e
  ·exact nit c _ z
noncomputable def qb (ds es:List D):List D:=TQ (λx y=>D.tup [x,y]) ds es
theorem boot_zip:bootBuiltins "zip"=some (.type "zip"):=by decide +kernel
theorem jX {K:O7}:∀ {bs:List Bool} {xs:List V},ak K H (bs.map D.bl) xs->xs=bs.map V.bl
 | [],xs,h=>by rw [Q8,aA] at h; subst h; rfl
 | b::bs,xs,h=>by
  rw [Pn,aF] at h
  obtain ⟨x,r,rfl,h1,h2⟩:=h
  rw [cG] at h1
  rw [h1,jX h2]; rfl
theorem sO:∀ {bs:List Bool} {us:List Value},Vals (bs.map V.bl) us->us=bs.map RS
 | [],_,h=>by cases h; rfl
 | b::bs,_,h=>by
  cases h with
  | cons q t =>
   cases q
   rw [sO t]; rfl
theorem range_all (bs:List Bool):(PM bs.length).all (λi=>bs.getD i true)=bs.all id:=by
 induction bs with
 | nil=>rfl
 | cons b bs ih =>
  rw [P4,List.range_succ_eq_map,List.all_cons,List.all_map,List.all_cons,<- ih]
  rfl
theorem yV (hc:X.calm=true):fy X (.builtin "all") (λxs H Q=>∃ (p:Addr) (bs:List Bool),xs=[.ref p]/\fZ X.K H p (bs.map V.bl)/\Q (.bl (bs.all id)) H):=by
 intro aa s Z H xs us Q I r h
 obtain ⟨p,bs,rfl,hq,q⟩:=h
 obtain ⟨u,rfl,rx⟩:=vals1 r
 cases rx
 obtain ⟨its,rv,pl,hz⟩:=I.list hq
 have e:=sO rv
 subst e
 have hlt:p<s.heap.objs.size:=by obtain ⟨o,e,_⟩:=pl.isList; exact Pf e
 refine call_all_walk (R6 pl.isList ?_)
 have hh:X.A.in1.handled=none:=I.ok.hd hc
 refine ⟨_,_,_,_,_,_,λi=>bs.getD i true,rfl,Walks.list hh s.heap.objs.size p (PJ hlt) (bs.map RS).toArray,⟨⟨_,Pq _ rfl,rfl,rfl⟩,pl.isList.at λo e=>Pe _ e⟩,?_,?_⟩
 ·intro i v s Q E hP hQ
  have hP':(bs.map RS)[i]?=some v:=by simpa using hP
  rw [Pr,PD] at hP'
  obtain ⟨b,hb,rfl⟩:=hP'
  have e:bs.getD i true=b:=by rw [Qn,hb]; rfl
  have DA:Q (bs.getD i true) s:=hQ
  rw [e] at DA
  exact R5 DA
 ·intro h' tk hk
  have es:(bs.map RS).toArray.size=bs.length:=by simp
  rw [es,range_all]
  exact ⟨.bl (bs.all id),H,I.kept (h':=h') (t':=tk) (λb u e=>hk b u (by simpa using PJ (Pf e)) (Pe _ e)),rfl,q⟩
section
variable {K:O7} {c:Ctx P w K mg base k N sc bk}
theorem boot_all:bootBuiltins "all"=some (.builtin "all"):=by decide +kernel
theorem Ms (hm:mg "all"=none) (h:aB c e Y λx=>∃ bs:List Bool,x=.lst (bs.map D.bl)/\R (.bl (bs.all id))) (hg:sc.names.lookup (O5 "all")=some .globalImplicit:=by rfl')
 (he:∀ env,starEach [e] env=(false,eval e env)::starEach [] env:=by symm):aB c (.Call (.Name "all" p) [e] [] pos) Y R :=
 rD (yV c.calm) (q:=λds R=>∃ bs:List Bool,ds=[.lst (bs.map D.bl)]/\R (.bl (bs.all id))) (by
  rintro ds vs H Hf Q R s rs ⟨bs,rfl,hR⟩ q
  obtain ⟨v,rfl,rv⟩:=lF rs
  rw [bh] at rv
  obtain ⟨a,xs,rfl,h1,h2⟩:=rv
  rw [jX h2] at h1
  exact ⟨a,bs,rfl,s.seq h1,q _ _ H Hf hR (cG.mpr rfl) (.refl s)⟩) hm boot_all (c6 (h.imp λd ⟨bs,e,hR⟩=>iN ⟨bs,by rw [e],hR⟩) he) hg 'd' 'd' he (by symm)
end
end EV
namespace EV
open PySem PySem.Spec PyProof.Rows L2
theorem wY {A:List aG} {l:List Int} {n:Int} {t:aG} (h:t∈putD A l n):t.1=l\/t∈A:=by
 unfold putD at h
 split at h
 ·obtain ⟨u,hu,e⟩:=Pz.mp h
  split at e
  ·rename_i q; subst e; exact .inl q
  ·subst e; exact .inr hu
 ·rcases PF.mp h with q | q
  ·exact .inr q
  ·simp at q; subst q; exact .inl rfl
noncomputable def aR (ts:List aG):List aG:=gX (nz (aY ts))
theorem Fj (h:(A.map (·.1)).Nodup):((nz A).map (·.1)).Nodup:=Td.sublist (List.filter_sublist.map _) h
theorem ou (ts):(aR ts).Perm (nz (aY ts)):=ck _
theorem gw (h:t∈aR ts):t∈aY ts/\t.2≠0:=by
 have:=(ou ts).subset h
 unfold nz at this
 rw [Q4] at this
 exact ⟨this.1,by simpa using this.2⟩
theorem i9 (ts):(aR ts).length<=ts.length:=by
 rw [(ou ts).length_eq]
 exact Pj (List.length_filter_le _ _) (fU ts)
end EV
namespace EV
open PySem PySem.Spec PySem.Calls PyProof.Rows L2
theorem wZ {K:O7} {f:Int->Int->Int}:AS K (λxs H Q=>∃ i j,xs=[.int i,.int j]/\Q (.int (f i j)) H) (λds R=>∃ i j:Int,ds=[.int i,.int j]/\R (.int (f i j))):=by
 rintro ds vs H Hf Q R s rs ⟨i,j,rfl,hR⟩ q
 obtain ⟨v,r,rfl,r1,r2⟩:=aF.mp rs
 obtain ⟨v',r',rfl,r1',r2'⟩:=aF.mp r2
 rw [aA] at r2'
 subst r2'
 rw [au] at r1 r1'
 subst r1 r1'
 exact ⟨i,j,rfl,q _ _ H Hf hR (au.mpr rfl) (.refl s)⟩
section
variable {K:O7} {c:Ctx P w K mg base k N sc bk}
theorem boot_max:bootBuiltins "max"=some (.builtin "max"):=by decide +kernel
theorem boot_min:bootBuiltins "min"=some (.builtin "min"):=by decide +kernel
theorem B4 (hm:mg "max"=none) (h:aB c a Y λx=>aB c b Y λy=>I2 (λi j=>R (.int (if j>i then j else i))) x y) (hg:sc.names.lookup (O5 "max")=some .globalImplicit:=by rfl')
 (he:∀ env,starEach [a,b] env=(false,eval a env)::starEach [b] env:=by symm) (he2:∀ env,starEach [b] env=(false,eval b env)::starEach [] env:=by symm)
 (hpl:∀ env,(backTo pos (starEach [b] env)).any (·.1)=false:=by symm):aB c (.Call (.Name "max" p) [a,b] [] pos) Y R :=
 rD (yk c.calm) (wZ (f:=λi j=>if j>i then j else i)) hm boot_max (c6 (h.imp λx h1=>c6 (h1.imp λy ⟨i,j,e1,e2,hR⟩=>iN ⟨i,j,by rw [e1,e2],hR⟩) he2) he) hg 'd' 'd' he hpl
theorem Jv (hm:mg "min"=none) (h:aB c a Y λx=>aB c b Y λy=>I2 (λi j=>R (.int (if j<i then j else i))) x y) (hg:sc.names.lookup (O5 "min")=some .globalImplicit:=by rfl')
 (he:∀ env,starEach [a,b] env=(false,eval a env)::starEach [b] env:=by symm) (he2:∀ env,starEach [b] env=(false,eval b env)::starEach [] env:=by symm)
 (hpl:∀ env,(backTo pos (starEach [b] env)).any (·.1)=false:=by symm):aB c (.Call (.Name "min" p) [a,b] [] pos) Y R :=
 rD (yl c.calm) (wZ (f:=λi j=>if j<i then j else i)) hm boot_min (c6 (h.imp λx h1=>c6 (h1.imp λy ⟨i,j,e1,e2,hR⟩=>iN ⟨i,j,by rw [e1,e2],hR⟩) he2) he) hg 'd' 'd' he hpl
theorem G9 (h:aB c a Y λx=>aB c b Y λy=>I2 (λi j=>Sd (Ai i j) (R (.int (i * 2 ^ j.toNat)))) x y):aB c (.BinOp a .LShift b pos) Y R :=
 gh (lC Ia jP (h.imp λx hx=>hx.imp λy ⟨i,j,e1,e2,⟨hc,r⟩⟩=>⟨i,j,e1,e2,hc,_,rfl,r⟩))
theorem Hg (h:aB c a Y λx=>aB c b Y λy=>I2 (λi j=>Sd (0<=j) (R (.int (i / 2 ^ j.toNat)))) x y):aB c (.BinOp a .RShift b pos) Y R :=
 gh (lC Ib jP (h.imp λx hx=>hx.imp λy ⟨i,j,e1,e2,⟨hc,r⟩⟩=>⟨i,j,e1,e2,hc,_,rfl,r⟩))
theorem B5 (h:aB c a Y λx=>aB c b Y λy=>I2 (λi j=>R (.int (Builtin.bitAnd i j))) x y):aB c (.BinOp a .BitAnd b pos) Y R :=
 gh (lC Ic AJ (h.imp λx hx=>hx.imp λy ⟨i,j,e1,e2,r⟩=>⟨i,j,e1,e2,_,rfl,r⟩))
end
noncomputable abbrev Ol:=List (Key×D)->List D->(List (Key×D)->Prop)->Prop
noncomputable def KZ (K:O7) (F:Ol):Sp:=λvs H Q _=>∃ Hf p kvs xs us ds B,vs=.ref p::us/\aL Hf H/\H p=some (.dK xs)/\Hf p=none/\ir K Hf kvs xs/\ak K Hf ds us/\F kvs ds B /\
 ∀ kvs' H' aj xs',B kvs'->bz (del H p) Hf H' aj->H' p=some (.dK xs')->aj p=none->ir K aj kvs' xs'->Q .non H'
structure Jw (P:Program) (w:World) (K:O7) (mg:Str->Option Value) (base:Heap) (k:Nat) (x:Str) (F:Ol):Prop where
 ex:∃ f fd ps,mg x=some (.ref f)/\Rk K (.ref f)=true/\Binds K fd ps []/\bw P w K mg base (cN P w) k f fd ps (KZ K F)
noncomputable def startM (q:Addr) (kvs:List (Key×D)) (N:List Str) (ds:List D):List Sl:=.aK q kvs::(ds.map .va++Pu (N.length - (ds.length+1)) .un)
theorem yW {K:O7} (r:ak K Hf ds us) (sb:aL Hf H) (h1:H q=some (.dK xs)) (h2:Hf q=none) (h3:ir K Hf kvs xs) :
 dN K (del H q) Hf (L2.start N (.ref q::us)) H Hf (startM q kvs N ds):=by
 have hl:=r.length
 have rest:∀ (i:Nat) (r':Sl),(startM q kvs N ds)[i+1]?=some r'->r'≠.un->∃ d,ds[i]?=some d/\r'=.va d:=λi r' h hu=>by
  have h':(ds.map Sl.va++Pu (N.length - (ds.length+1)) Sl.un)[i]?=some r':=by simpa [startM] using h
  by_cases w:i<ds.length
  ·rw [Rc (by simpa using w),Pr,PX w] at h'
   cases h'
   exact ⟨_,by simp,rfl⟩
  ·rw [RA (by simp; lia)] at h'
   exact absurd (Ud (Rg h')) hu
 refine ⟨⟨λb o e=>(dW e).2,.refl _,sb,λ_ h _ _=>h⟩,by simp [L2.start,startM,hl],λi r' h hu=>?_,λi j r1 r2 p hne e1 e2 o1 o2=>?_⟩
 ·cases i with
  | zero =>
   have:r'=.aK q kvs:=by simpa [startM] using h.symm
   subst this
   exact ⟨.ref q,by simp [L2.start],q,xs,rfl,⟨fE,rfl⟩,h1,h2,h3⟩
  | succ i =>
   obtain ⟨d,hd,rfl⟩:=rest i r' h hu
   obtain ⟨x,e2,rx⟩:=r.get hd
   refine ⟨x,?_,rx⟩
   have hi:i<us.length:=(Po.mp e2).1
   unfold L2.start
   rw [Rc (by simp; lia)]
   simp [e2]
 ·exfalso
  have own:∀ {i:Nat} {r:Sl},(startM q kvs N ds)[i]?=some r->r.owned=true->i=0:=λ{i r} h ho=>by
   cases i with
   | zero=>rfl
   | succ i =>
    obtain ⟨d,_,rfl⟩:=rest i r h (by rintro rfl; cases ho)
    cases ho
  exact hne ((own e1 o1).trans (own e2 o2).symm)
section
variable {K:O7} {c:Ctx P w K mg base k N sc bk}
theorem Om {st:Stmt} (Fu:d9 K x qual st f fd) (SV:FS N ps st) (ar:∀ kvs ds B,F kvs ds B->ds.length+1=ps.length)
 (body:∀ (c:Ctx P w K mg base k N (aH st) false),c.X.xe=(λ_ _=>False)->∀ q kvs ds B,F kvs ds B->aU c (ay st) (startM q kvs N ds) (λY=>∃ kvs' r,B kvs'/\Y=.aK q kvs'::r) { rt:=λ_=>False }) :
 bw P w K mg base (cN P w) (k+1) f fd ps (KZ K F):=by
 obtain ⟨Sc,Vi⟩:=vS SV
 obtain ⟨oc,od,kV,doc,pm,an,cdv,ct,osl,rfl,lk,hcd⟩:=Fu.ex
 refine vH lk hcd Sc (λvs H Q E hh=>z4 hh λHf q kvs xs hh=>z3 hh λus ds B hh=>w8 hh λe _ _ _ _ rs hF _=>by rw [e,P4,<- rs.length]; exact ar _ _ _ hF) λA outer s H vs Q E hr hh=>z4 hh λHf q kvs xs hh=>z3 hh λus ds B hh=>w8 hh λe sb h1 h2 h3 rs hF hq=>?_
 subst e
 let X:Cx:=(o7 (cN P w) P w K mg base N qual (aH st) f cdv A outer s H E).yf
 let c:Ctx P w K mg base k N (aH st) false :=
  { X:=X,eP:=rfl,ew:=rfl,eK:=rfl,emg:=rfl,eb:=rfl,eN:=rfl,esc:=rfl,calm:=rfl,top:=λ_=>⟨rfl,rfl,rfl⟩,cb:=λ_ _ _ _ _ I x c h=>I.ok.cab x c rfl h,fn:=λ_ _=>.inl rfl,B:=del H q,room:=hr,nd:=Sc.nd,vis:=Vi,Hf:=Hf,RX:=λ_ _=>False,
    exc:=λ_ _ _ _ _ _ _ _ _ _ _ _ h _ _=>h.elim,RM:=λ_ _=>False,mde:=λ_ _ _ _ _ _ _ _ _ _ _ _ h _=>h.elim }
 refine ⟨_,qQ.yf (t:=GO X (ay st)) (lB (X:=X)),?_⟩
 refine body c rfl q kvs ds B hF (L2.start N (.ref q::us)) H Hf _ (yW rs sb h1 h2 h3) ⟨λZ H' aj Y S ⟨kvs',r,hB,e⟩=>?_,λr v H' aj g rv e=>e.elim,λ_ _ _ _ _ h=>h.elim,λ_ _ _ _ _ h=>h.elim⟩
 subst e
 obtain ⟨v,_,q',xs',_,⟨_,rfl⟩,a1,a2,a3⟩:=S.at_ 0 _ rfl 'p'
 exact hq kvs' H' aj xs' hB S.bas a1 a2 a3
theorem Fl (h:Jw P w K mg base j x F) (hj:j<=k) (hN:At N i y) (hi:At Y i r) (hr:r.rL=some kvs)
 (ha:rj c es Y λds=>∃ B,F kvs ds B/\∀ kvs',B kvs'->Nx Y i nx (r.jT kvs'))
 (hg:sc.names.lookup x=some .globalImplicit:=by rfl') (hdb:Ndb x:=by decide) (hd:Ndb y:=by decide) (hcd:Ncd y:=by decide)
 (he:∀ env,starEach (.Name y py::es) env=(false,eval (.Name y py) env)::starEach es env:=by symm)
 (hpl:∀ env,(backTo cp (starEach es env)).any (·.1)=false:=by symm)
 (hs:∀ env,swapsWith (.Call (.Name x px) (.Name y py::es) [] cp) none pos.line env=pure false:=by symm):fm c (.Expr (.Call (.Name x px) (.Name y py::es) [] cp) pos) Y nx p:=λZ H Hf D S o=>by
 obtain ⟨q,eq,rq⟩:=S.own hi.get (fQ hr)
 obtain ⟨xs,h1,h2,h3⟩:=uD hr rq
 refine cO (iK cI (hs _)) (show bE c.X _ Z H (λ_ H'=>D.nx Z H') from λaa s I=>?_)
 obtain ⟨f,fd,ps,hm,hk,hb,hF⟩:=h.ex
 refine Q0 (gG I (by unfold Gl P6; rw [c.esc]; exact hg) (by rw [c.emg]; exact hm) ?_ hdb)
 have hA:bA c.X (.Name y py::es) Z H (λvs H1=>∃ us aP ds B,vs=.ref q::us/\F kvs ds B/\(∀ kvs',B kvs'->Nx Y i nx (r.jT kvs'))/\ak c.X.K aP ds us/\bz H Hf H1 aP) :=
  ri (bC (c.iQ hN hd hcd) GN (he _)) ⟨_,eq,ha Z H Hf _ S λds vs H1 aP ⟨B,hF,hn⟩ rs g=>⟨vs,aP,ds,B,rfl,hF,hn,rs,g⟩⟩
 refine VH (h₀:=c.X.base) I.ok.mod.kin (by rw [c.eK]; exact hk) (bL (hA cp aa s I) λus s1 hh=>z2 hh λvs H1 hh=>w3 hh λI1 rv hh=>z4 hh λus' aP ds B hh=>w5 hh λev hF' hn rs g=>⟨I1.qK,?_⟩) (he _) (hpl _)
 subst ev
 have S1:=S.cD g
 have rq1:=rq.cD g
 obtain ⟨xs1,a1,a2,a3⟩:=uD hr rq1
 have hF2:bw c.X.prog c.X.w c.X.K c.X.mg c.X.base (cN c.X.prog c.X.w) k f fd ps (KZ c.X.K F):=by rw [c.eP,c.ew,c.eK,c.emg,c.eb]; exact hF.mono hj
 have vz:KZ c.X.K F (.ref q::us') H1 (λ_ H'=>D.nx Z H') (λ_ _ _=>False):=by
  refine ⟨aP,q,kvs,xs1,us',ds,B,rfl,g.b,a1,a2,a3,rs,hF',λkvs' H' aj xs' hB g2 b1 b2 b3=>?_⟩
  obtain ⟨Y',hs',hn⟩:=hn kvs' hB
  refine o.nx Z H' aj Y' ?_ hn
  rw [hs'.eq]
  exact S1.upd hi.get (fQ hr) eq g2 (lI hr rq1 b1 b2 b3) (iy hr)
 have hl:us.length=ps.length:=by rw [<- rv.length]; exact hF2.len _ _ _ _ vz
 have hb':Binds c.X.K fd ps []:=by rw [c.eK]; exact hb
 have hb2:=hb' s1 us I1.qK (by simpa using hl)
 rw [Qv] at hb2
 refine S6 (TM (hF2.run c.X.A c.X.stack s1 H1 ⟨us,[]⟩ us _ _ _ c.room I1.Ii hb2 rv vz) λr' s' hq=>?_)
 cases r' with
 | error e =>
  obtain ⟨a,C,H',rfl,hE,h⟩:=hq
  exact h.elim
 | ok fl =>
  cases fl with
  | ret u=>exact I1.after hq
  | next=>exact QA hq
  | brk=>exact QA hq
  | cont=>exact QA hq
end
theorem ak.many {K:O7} (h:ak K H ds xs):∀ k:Nat,ak K H (Pu k ds).flatten (Pu k xs).flatten
 | 0=>aA.mpr rfl
 | k+1=>by
  rw [Rh,Rh,R8,R8]
  exact h.append (ak.many h k)
theorem ak.set {K:O7}:∀ {ds:List D} {xs:List V} (i:Nat) {d:D} {v:V},ak K H ds xs->Rep K H d v->ak K H (ds.set i d) (xs.set i v)
 | [],_,i,_,_,h,_=>by rw [aA] at h; subst h; exact aA.mpr rfl
 | e::ds,_,i,d,v,h,q=>by
  obtain ⟨x,r,rfl,h1,h2⟩:=aF.mp h
  cases i with
  | zero=>exact .cons q h2
  | succ i=>exact .cons h1 (ak.set i h2 q)
theorem B6 {n k:Nat} {i:Int} (hi:i=k) (e:s.heap.get? l=some { cls:=.type "list",data:=.seq items n }) (hk:k<items.size) (hf:items.size<2 ^ 63)
 (hQ:Q () { s with heap:=s.heap.update l (QY λxs=>xs.setIfInBounds k v) }):wpAny (model prog w) A (setItem (.ref l) (.int i t) v) Q E s:=by
 have ht:s.TypeIs (.ref l) "list":=⟨_,e,rfl⟩
 have hx:items[k]?=some items[k]:=PV hk
 unfold setItem
 refine Qw (O6 (VN ht 'd' ?_))
 refine O6 (RB (name:=O5 "__setitem__") ht PySem.slot_list_setitem (Q3 PySem.slot_list_setitem ht PySem.entry_list_setitem ?_ (PySem.args_list_setitem _ _ _)))
 show wpAny _ _ (Builtin.List.listSubscript? (.int i t) >>= _) _ _ s
 refine O6 (wpAny_listSubscript_int (fitsIndex_of (show 0<=i by lia) (show i<2 ^ 63 by lia)) ?_)
 clear hf
 subst hi
 show wpAny _ _ ((seqItemAt l k >>= λr=>pure (r.map λx=>(k,x))) >>= _) _ _ s
 refine O6 (O6 (wpAny_seqItemAt e rfl (O8 ?_)))
 rw [hx]
 show wpAny _ _ (setSeqItemAt l k v >>= _) _ _ s
 refine O6 (wpAny_setSeqItemAt e rfl ?_)
 first
  | exact O6 (O8 (O8 ⟨QK,rfl,O8 hQ⟩))
  | exact O8 ⟨QK,rfl,O8 hQ⟩
noncomputable def Mt:HN:=λo i v H Q=>∃ l xs k,o=.ref l/\i=.int (k:Nat)/\H l=some (.lst xs)/\k<xs.length/\Q (upd H l (.lst (xs.set k v)))
theorem B7:La X Mt:=by
 intro aa s Z H o i v ov iv u Q I r1 r2 r3 h
 obtain ⟨l,xs,k,rfl,rfl,hH,hk,q⟩:=h
 cases r1
 obtain ⟨t,rfl⟩:=r2
 obtain ⟨z,its,n,r,hl,e⟩:=I.pA hH
 have hbig:xs.length<2 ^ 63:=R4 z 'd'
 refine B6 rfl e (by rw [PN,<- hl]; exact hk) (by rw [PN,<- hl]; exact hbig) ⟨_,I.uA (its':=its.set k u) (t':=s.toks) hH e ?_ (Vals.set r3 k r) (by rw [List.length_set]; exact z),q⟩
 show its.toArray.setIfInBounds k u=(its.set k u).toArray
 simp
theorem Fo:NS X "int.bit_length" (λx vs H Q=>∃ i,x=.int i/\vs=[]/\Q (.int (QB i:Nat)) H):=by
 intro aa s Z H x xs v us Q I r1 r2 h
 obtain ⟨i,rfl,rfl,q⟩:=h
 obtain ⟨t,rfl⟩:=r1
 cases r2
 exact PyProof.Rows.call_int_bit_length ⟨.int (QB i:Nat),H,I.tok _,⟨_,rfl⟩,q⟩
section
variable {K:O7} {c:Ctx P w K mg base k N sc bk}
theorem Jx (h:aB c e Y (I1 λi=>R (.int (QB i:Nat)))) (hbase:∀ env,attributeBase e "bit_length" env (eval e env)=eval e env:=by symm) (hline:(ap.endLine == cp.line)=true:=by rfl') :
 aB c (.Call (.Attribute e "bit_length" ap) [] [] cp) Y R:=λZ H Hf Q S q =>
 bU (uw PySem.F.plainAttrs_int PySem.F.slot_int_bit_length PySem.F.type_int_bit_length Fo cI (hbase _) hline) (h Z H Hf _ S λd v H' aj ⟨i,e,hR⟩ r g=>by
  subst e
  rw [au] at r; subst r
  exact ⟨rfl,i,rfl,rfl,q _ _ H' aj hR (au.mpr rfl) g⟩)
theorem Mu {R:Sl->Prop} (h:dU c a Y λr=>∃ ds,r=.ow ds/\aB c b Y (I1 λn=>Sd ((0<=n/\n<2 ^ 63)/\ds.length * n.toNat<=sizeLine) (R (.ow (Pu n.toNat ds).flatten)))):dU c (.BinOp a .Mult b pos) Y R:=λZ H Hf Q S q =>
 bU (Ag Io cI cI) (h Z H Hf _ S λr v H1 aP ⟨ds,er,h1⟩ rr g1=>h1 Z H1 aP _ (S.cD g1) λdn u H2 cL ⟨n,en,⟨⟨n0,n1⟩,hz⟩,hR⟩ rn g2=>by
  subst er en
  rw [au] at rn; subst rn
  obtain ⟨l,xs,rfl,fl,k1,k2,k3⟩:=rr
  have k1':=g2.s _ _ k1
  refine ⟨l,n,xs,rfl,rfl,k1',by lia,n1,by rw [<- k3.length]; exact hz,λp hp=>?_⟩
  have g3:=bz.f7 (o:=.lst (Pu n.toNat xs).flatten) g2.b hp
  exact q _ _ _ _ hR ⟨p,_,rfl,(g1.trans g2).s.free hp,ah,g2.b.free hp,(k3.mono g2.f).many _⟩ ((g1.trans g2).trans g3))
theorem Jy (hN:At N i x) (hi:At Y i r) (hr:r.getL=some ds) (h:aB c e Y λdv=>aB c b Y λdk=>∃ m:Nat,dk=.int m/\Sd (m<ds.length) (Nx Y i nx (r.putL (ds.set m dv))))
 (hs:∀ env,swapsWithSole [.Subscript (.Name x px) b tp] e pos.line env=pure false:=by symm) (hw:∀ env,swappedStores [.Subscript (.Name x px) b tp] e env=pure none:=by symm)
 (h1:∀ env,(assignEach [.Subscript (.Name x px) b tp] env).map (·.2)=[assign (.Subscript (.Name x px) b tp) env]:=by symm)
 (ha:∀ env v,assign (.Subscript (.Name x px) b tp) env v=(do
   let ov <- holding [v] (eval (.Name x px) env)
   let iv <- holding [v,ov] (eval b env)
   standAt tp
   holding [v,ov,iv] (setItem ov iv v)
   release [v,ov,iv] []):=by intro _ _; rfl')
 (hd:Ndb x:=by decide) (hcd:Ncd x:=by decide):fm c (.Assign [.Subscript (.Name x px) b tp] e pos) Y nx p:=λZ H Hf D S o=>by
 obtain ⟨q,eq,rq⟩:=S.own hi.get (bH hr)
 refine cO (uc cI (HP (c.iQ hN hd hcd) cI B7 (ha _)) (hs _) (hw _) (h1 _)) (h Z H Hf _ S λdv v H1 aP h2 rv g1=>⟨_,eq,h2 Z H1 aP _ (S.cD g1) λdk y H2 cL ⟨m,em,hm,Y',hs',hn⟩ ry g2=>?_⟩)
 subst em
 rw [au] at ry; subst ry
 have g:=g1.trans g2
 obtain ⟨xs,k1,k2,k3⟩:=yE hr (rq.cD g)
 refine ⟨q,xs,m,rfl,rfl,k1,by rw [<- k3.length]; exact hm,o.nx _ _ cL Y' ?_ hn⟩
 rw [hs'.eq]
 exact (S.cD g).upd hi.get (bH hr) eq (eT g.b k2) (fF hr (rq.cD g) ah k2 (k3.set m (Rep.mono g2.f _ rv))) (c7 hr)
end
theorem iD {K:O7}:∀ {ns:List Int} {xs:List V},ak K H (ns.map D.int) xs->xs=ns.map V.int
 | [],xs,h=>by rw [Q8,aA] at h; subst h; rfl
 | b::bs,xs,h=>by
  rw [Pn,aF] at h
  obtain ⟨x,r,rfl,h1,h2⟩:=h
  rw [au] at h1
  rw [h1,iD h2]; rfl
theorem eX {ns:List Int} {us:List Value} (h:Vals (ns.map V.int) us) (i:Nat) (v:Value) (e:us.toArray[i]?=some v):∃ t,v=.int (ns.getD i 0) t:=by
 have e':us[i]?=some v:=by simpa using e
 have hi:i<ns.length:=by
  have:=(Po.mp e').1
  have l:=h.length
  rw [Pc] at l
  omega
 obtain ⟨u,hu,r⟩:=h.get (i:=i) (x:=.int (ns.getD i 0)) (by simp [Qn,hi])
 rw [e'] at hu; cases hu
 exact r
theorem mj (I:Inv X aa Z H s) (hq:fZ X.K H p xs) :
 ∃ its:List Value,Vals xs its/\s.heap.IsList p its.toArray/\p<s.heap.objs.size:=by
 obtain ⟨its,rv,pl,hz⟩:=I.list hq
 exact ⟨its,rv,pl.isList,by obtain ⟨o,e,_⟩:=pl.isList; exact Pf e⟩
theorem oA (I:Inv X aa Z H s) (hk:∀ b o,b∉[s.heap.objs.size]->(s.heap.push ob).get? b=some o->h'.get? b=some o):Inv X aa Z H { s with heap:=h',toks:=tk } :=
 I.kept (h':=h') (t':=tk) λb u e=>hk b u (by simpa using PJ (Pf e)) (Pe _ e)
theorem yX (hc:X.calm=true):fy X (.builtin "max") (λxs H Q=>∃ (p:Addr) (ns:List Int),xs=[.ref p]/\ns≠[]/\fZ X.K H p (ns.map V.int)/\∀ m∈ns,(∀ n∈ns,n<=m)->Q (.int m) H):=by
 intro aa s Z H xs us Q I r h
 obtain ⟨p,ns,rfl,hne,hq,q⟩:=h
 obtain ⟨u,rfl,rx⟩:=vals1 r
 cases rx
 obtain ⟨its,rv,pl,hlt⟩:=mj I hq
 have hn:its.toArray.size=ns.length:=by have l:=rv.length; rw [Pc] at l; simp [l]
 have hpos:0<ns.length:=List.length_pos_iff.mpr hne
 refine call_max_walk (R6 pl ?_)
 have hh:X.A.in1.handled=none:=I.ok.hd hc
 refine ⟨_,_,_,_,_,_,_,rfl,Walks.list hh s.heap.objs.size p (PJ hlt) its.toArray,⟨⟨_,Pq _ rfl,rfl,rfl⟩,pl.at λo e=>Pe _ e⟩,?_,by rw [hn]; exact hpos,CmpOf.ints_gt (λi=>ns.getD i 0) (eX rv),?_⟩
 ·intro b hb
  show b<(s.heap.push _).objs.size
  rw [Q7]
  simp only [Pg,QI,or_false] at hb
  rcases hb with rfl | rfl
  ·exact SO _
  ·exact Us hlt
 ·intro v h' tk hP hk
  obtain ⟨t,rfl⟩:=eX rv _ _ hP
  obtain ⟨b1,b2⟩:=argBest_gt (λi=>ns.getD i 0) (its.toArray.size - 1)
  rw [hn] at b1 b2 |-
  have J:=oA (s:=s) (tk:=tk) I hk
  refine ⟨.int _,H,J,⟨_,rfl⟩,q _ ?_ λn hm=>?_⟩
  ·rw [Qn,PX 'o']
   exact P0 _
  ·obtain ⟨j,hj,rfl⟩:=VE hm
   have:=b2 j 'o'
   rw [show ns.getD j 0=ns[j] by simp [Qn,hj]] at this
   exact this
section
variable {K:O7} {c:Ctx P w K mg base k N sc bk}
theorem yY {Zzz:List Int->Int->Prop} (hr:∀ (p:Addr) (ns:List Int) H Q,fZ K H p (ns.map V.int)->(∀ m,Zzz ns m->Q (.int m) H)->ns≠[]->r [.ref p] H Q) :
 AS K r (λds R=>∃ ns:List Int,ns≠[]/\ds=[.lst (ns.map D.int)]/\∀ m,Zzz ns m->R (.int m)):=by
 rintro ds vs H Hf Q R s rs ⟨ns,hne,rfl,hR⟩ q
 obtain ⟨v,rfl,rv⟩:=lF rs
 rw [bh] at rv
 obtain ⟨a,xs,rfl,h1,h2⟩:=rv
 rw [iD h2] at h1
 exact hr a ns H Q (s.seq h1) (λm hm=>q _ _ H Hf (hR m hm) (au.mpr rfl) (.refl s)) hne
theorem Jz (hm:mg "max"=none) (h:aB c e Y λx=>∃ ns:List Int,ns≠[]/\x=.lst (ns.map D.int)/\∀ m,(m∈ns/\∀ n∈ns,n<=m)->R (.int m)) (hg:sc.names.lookup (O5 "max")=some .globalImplicit:=by rfl')
 (he:∀ env,starEach [e] env=(false,eval e env)::starEach [] env:=by symm):aB c (.Call (.Name "max" p) [e] [] pos) Y R :=
 rD (yX c.calm) (yY (Zzz:=λns m=>m∈ns/\∀ n∈ns,n<=m) λp ns H Q h q hne=>⟨p,ns,rfl,hne,h,λm h1 h2=>q m ⟨h1,h2⟩⟩) hm boot_max
  (c6 (h.imp λd ⟨ns,hne,e,hR⟩=>iN ⟨ns,hne,by rw [e],hR⟩) he) hg 'd' 'd' he (by symm)
end
section
variable {prog:Program} {w:World} {A:Around} {E:Value->Shared->Prop} {s:Shared}
variable {jt tp:Addr} {i:Nat} {items:Array Value}
theorem nextT (hh:A.handled=none) (h1:s.heap.IsTupleIter jt tp i) (h2:s.heap.IsTuple tp items)
 (hv:∀ v,items[i]?=some v->∀ h',h'.IsTupleIter jt tp (i+1)->QW jt s.heap h'->Q v { s with heap:=h' })
 (hn:items[i]?=none->∀ h' e,RQ jt s.heap h'->(∃ o,h'.get? e=some o/\o.cls=.type "StopIteration")->E (.ref e) { s with heap:=h' }) :
 wpAny (model prog w) A (Rf (.ref jt)) Q E s:=by
 obtain ⟨ob,hob,hcb,hdb⟩:=id h1
 obtain ⟨ot,hot,_,m,hdt⟩:=id h2
 unfold Rf
 refine O6 (RB (name:=O5 "__next__") h1.typeIs F.slot_tuple_iterator_next (Q3 F.slot_tuple_iterator_next h1.typeIs F.entry_tuple_iterator_next ?_ (F.args_tuple_iterator_next_1 _)))
 show wpAny _ _ (field (.ref jt) 0 >>= _) _ _ s
 refine O6 (Qs hob hdb (x:=.ref tp) rfl ?_)
 show wpAny _ _ (if (Px tp == QK)=true then _ else _) _ _ s
 rw [if_neg (show ¬ ((Px tp == QK)=true) from Pp)]
 show wpAny _ _ (field (.ref jt) 1 >>= _) _ _ s
 refine O6 (Qs hob hdb (x:=.int i 0) rfl ?_)
 show wpAny _ _ (seqItems? (.ref tp) >>= _) _ _ s
 refine O6 (Rj hot hdt ?_)
 rw [Qc]
 dsimp only
 cases hx:items[i]? with
 | some v =>
  have q:=hv v hx (s.heap.update jt (Obj.mapFields λvs=>vs.setIfInBounds 1 (rawInt ((i:Int)+1)))) ⟨_,Vt _ hob (Obj.isFreed_of_fields (Obj.data_mapFields hdb _)),(Obj.cls_mapFields ..).trans hcb,by rw [Obj.data_mapFields hdb]; simp [rawInt]⟩ (VF ..)
  dsimp only
  exact O6 (wpAny_setField hob hdb 'p' (O8 ⟨v,rfl,O8 q⟩))
 | none =>
  dsimp only
  refine O6 (Qy (O6 (wpAny_setField hob hdb 'p' (show wpAny _ _ (newExc (.type "StopIteration") [] >>= _) _ _ _ from O6 ?_))))
  simp only [newExc,newTuple]
  refine O6 (QG (O6 (m:=firstArgMember _ _) (wpAny_of_eq (a:=QK) (by first | rfl | (simp only [firstArgMember]; rfl)) (QG ?_ (by size_fits)))) (by size_fits))
  simp only [raiseNew]
  refine O6 (wpAny_handled ?_)
  rw [show A.in1.handled=none from hh]
  exact O6 (O8 (wpAny_throw (hn hx _ _ (((VF ..).extBut.push _).push _) ⟨_,Pq _ rfl,rfl⟩)))
theorem JA (hh:A.handled=none) (jt tp:Addr) (hne:tp≠jt) (items:Array Value) :
 Draws prog w A jt [jt,tp] items.size (λi v=>items[i]?=some v) (λi h=>h.IsTupleIter jt tp i/\h.IsTuple tp items) where
 live:=λ_ _ ⟨⟨o,ho,_⟩,_⟩=>⟨o,ho⟩
 frame:=λ_ _ _ ⟨⟨o,e,r⟩,⟨o',e',r'⟩⟩ hk=>⟨⟨o,hk jt 'p' o e,r⟩,o',hk tp 'p' o' e',r'⟩
 item:=λi s Q E hi ⟨s1,s2⟩ q=>nextT hh s1 s2 (λv hv h' a b=>q v h' s.toks hv ⟨a,s2.extBut b.extBut hne⟩ b) λhx=>by
  rw [PV hi] at hx; cases hx
 done:=λs Q E ⟨s1,s2⟩ q=>nextT hh s1 s2 (λv hv=>by simp at hv) λ_=>q
end
set_option maxHeartbeats 1000000 in
theorem sP (tp) (items) (n) (dc) (sl) :
 Meets (Builtin.«enumerate.__new__» ⟨[.type "enumerate",.ref tp],[]⟩) (λ_ R s=>s.heap.get? tp=some { cls:=.type "tuple",dict:=dc,data:=.seq items n,slots:=sl } /\
  R (.ok (.ret (.ref (s.heap.push { cls:=.type "tuple_iterator",data:=.fields #[.ref tp,.int 0 0] }).objs.size)))
   { s with heap:=(s.heap.push { cls:=.type "tuple_iterator",data:=.fields #[.ref tp,.int 0 0] }).push { cls:=.type "enumerate",data:=.fields #[.none,.bool false,.ref s.heap.objs.size,rawInt 0,.none,.none] } }) :=
 .of_wp λprog w A R ⟨hp,g,d,tk,os⟩ ⟨hl,h⟩=>by
  have hz:=sub_enumerate
  have hT:Heap.IsTuple (Shared.heap ⟨hp,g,d,tk,os⟩) tp items:=⟨_,hl,rfl,n,rfl⟩
  wp_walk using Ug hl
  refine wpAny_stack_any λst=>O8 ?_
  split
  ·rename_i k _ _ _ _ _
   cases (k == Qz "enumerate") <;> (wp_walk using Ug hl,VG hT; exact ⟨_,rfl,h⟩)
  ·wp_walk using Ug hl,VG hT; exact ⟨_,rfl,h⟩
theorem uO (hT:s.heap.IsTuple tp items)
 (h:∀ h',IsEnum h' (s.heap.objs.size+1) s.heap.objs.size 0 .none->h'.IsTupleIter s.heap.objs.size tp 0->(∀ b o,s.heap.get? b=some o->h'.get? b=some o)->Q (.ref (s.heap.objs.size+1)) { s with heap:=h' }) :
 wpAny (model prog w) A (call (.type "enumerate") [.ref tp]) Q E s:=by
 obtain ⟨⟨c,dc,dt,sl⟩,hl,hc,n,hd⟩:=hT
 obtain rfl:c=.type "tuple":=hc
 obtain rfl:dt=.seq items n:=hd
 refine callType_new F.called_enumerate 'd' (F.typeCall_enumerate_1 _) (F.newCall_enumerate_1 _) (λob=>F.args_object_init_2 ob _) F.entry_enumerate_new (sP tp items n dc sl) ⟨hl,?_⟩
 generalize e1:s.heap.push { cls:=.type "tuple_iterator",data:=.fields #[.ref tp,.int 0 0] }=g1
 have hz:g1.objs.size=s.heap.objs.size+1:=by rw [<- e1]; exact Q7 ..
 have hi:g1.get? s.heap.objs.size=some { cls:=.type "tuple_iterator",data:=.fields #[.ref tp,.int 0 0] }:=by rw [<- e1]; exact Pq _ rfl
 have hb:∀ b o,s.heap.get? b=some o->g1.get? b=some o:=λb o q=>by rw [<- e1]; exact Pe _ q
 have he:IsEnum (g1.push { cls:=.type "enumerate",data:=.fields #[.none,.bool false,.ref s.heap.objs.size,rawInt 0,.none,.none] }) g1.objs.size s.heap.objs.size 0 .none:=Pq _ rfl
 rw [hz] at he
 show _/\_
 rw [hz]
 exact ⟨⟨_,he,rfl⟩,h _ he ⟨_,Pe _ hi,rfl,rfl⟩ λb o q=>Pe _ (hb b o q)⟩
noncomputable def mq (ds:List D):List D:=ds.zipIdx.map λx=>D.tup [.int x.2,x.1]
noncomputable def Oo (K:O7) (t:Addr):It :=
 ⟨λi H=>∃ xs x,c9 K H t xs/\xs[i]?=some x,
  λi H v H'=>∃ p x,v=.ref p/\H p=none/\H'=upd H p (.tup [.int (i:Nat),x])/\∀ xs,c9 K H t xs->xs[i]?=some x,
  λi H=>∃ xs,c9 K H t xs/\xs.length<=i⟩
theorem Fq (I:Inv X aa Z H s) (h1:c9 X.K H a xs) (h2:c9 X.K H a ys):xs=ys:=I.jq h1 h2
theorem B8 {prog:Program} {w:World} {A:Around} (hh:A.handled=none) (j t:Addr) (items:Array Value) (i:Nat) (hx:items[i]?=none) :
 Draws prog w A j [j,t] i (λ_ _=>False) (λk h=>k=i/\h.IsTupleIter j t i/\h.IsTuple t items) where
 live:=λ_ _ ⟨_,⟨o,ho,_⟩,_⟩=>⟨o,ho⟩
 frame:=λ_ _ _ ⟨ek,⟨o,e,r⟩,⟨o',e',r'⟩⟩ hk=>⟨ek,⟨o,hk j 'p' o e,r⟩,o',hk t 'p' o' e',r'⟩
 item:=λk s Q E hi ⟨ek,_⟩ _=>absurd ek (PJ hi)
 done:=λs Q E ⟨_,s1,s2⟩ q=>nextT hh s1 s2 (λv hv=>by rw [hx] at hv; cases hv) λ_=>q
theorem yZ {P:Program} {w:World} {K:O7} {elts:List Expr} {k:Nat} {pos:Pos} {e j t:Addr} (hne:e≠j) :
 Turn P w K (.Tuple elts k pos) (Oo K t) [e,j] e (λi h=>(∃ old,IsEnum h e j i old)/\h.IsTupleIter j t i) where
 mem:=by simp
 obj:=λi h ⟨⟨old,he⟩,⟨o1,e1,_,d1⟩⟩ b hb=>by
  simp only [Pg,QI,or_false] at hb
  rcases hb with rfl | rfl
  ·exact ⟨_,he,λv q=>by have q':TY _=So v:=q; cases q'⟩
  ·exact ⟨_,e1,λv q=>by rw [d1] at q; cases q⟩
 keep:=λi h h' ⟨⟨old,he⟩,⟨o1,e1,r1⟩⟩ hk=>⟨⟨old,hk e 'p' _ he⟩,⟨o1,hk j 'p' _ e1,r1⟩⟩
 item:=by
  intro X hP hw hK hc i aa s Z H E I hf st hg
  subst hP hw hK
  obtain ⟨⟨old,he⟩,hj⟩:=st
  obtain ⟨xs,x,q1,hx⟩:=hg
  obtain ⟨its,rv,p1,z1⟩:=I.tuple q1
  obtain ⟨u,hu,ru⟩:=rv.get hx
  have pT:s.heap.IsTuple t its.toArray:=by obtain ⟨o,ho,hc',n,hd⟩:=p1; exact ⟨o,ho,hc',n,hd⟩
  have hjt:t≠j:=by
   obtain ⟨o,ho,hc',n,hd⟩:=pT
   obtain ⟨o',ho',hc'',_⟩:=hj
   rintro rfl
   rw [ho] at ho'; cases ho'
   rw [hc'] at hc''; exact absurd hc'' 'p'
  have het:e≠t:=by
   obtain ⟨o,ho,hc',n,hd⟩:=pT
   rintro rfl
   rw [he] at ho; cases ho
   exact absurd hc' 'p'
  have hi:i<its.toArray.size:=by
   have:i<its.length:=(Po.mp hu).1
   simpa using this
  have hh:X.A.in1.handled=none:=I.ok.hd hc
  refine wpAny_pyNext_enum_itemD (JA hh j t hjt its.toArray) he ⟨hj,pT⟩ hi hne (by simp; exact ⟨hne,het⟩) λx' h' tk hPx a1 a2 a3 a4 hk=>?_
  have ex:x'=u:=by
   have:its[i]?=some x':=by simpa using hPx
   rw [hu] at this; cases this; rfl
  subst ex
  have Hp:H s.heap.objs.size=none:=I.hok.fresh (O9 _)
  have IA:Inv X aa Z (upd H s.heap.objs.size (.tup [.int (i:Nat),x])) { s with heap:=s.heap.push { cls:=.type "tuple",data:=.seq #[.int (i:Nat) tk,x'] },toks:=tk+1 } :=
   I.laid (a:=s.heap.objs.size) (o:=.tup [.int (i:Nat),x]) (λ_ _ q=>Pe _ q) (O9 _) ⟨by show 2<=sizeLine; decide,[.int (i:Nat) tk,x'],.cons ⟨tk,rfl⟩ (.cons ru .nil),_,Pq _ rfl,rfl,0,rfl⟩
  have lt:∀ b∈[e,j],b<s.heap.objs.size:=λb hb=>by
   obtain ⟨o1,e1,_⟩:=hj
   simp only [Pg,QI,or_false] at hb
   rcases hb with rfl | rfl
   ·exact Pf he
   ·exact Pf e1
  have gf:∀ b∈[e,j],dQ X aa (upd H s.heap.objs.size (.tup [.int (i:Nat),x])) b:=λb hb=>⟨by rw [ai (PJ (lt b hb))]; exact (hf b hb).1,(hf b hb).2⟩
  have I1:Inv X aa Z (upd H s.heap.objs.size (.tup [.int (i:Nat),x])) { s with heap:=h',toks:=tk+1 } :=
   gO (s:={ s with heap:=s.heap.push { cls:=.type "tuple",data:=.seq #[.int (i:Nat) tk,x'] },toks:=tk+1 }) (t':=tk+1) (h':=h') (L:=[e,j]) IA (λb o hb q=>by
    simp only [Pg,QI,or_false,not_or] at hb
    by_cases z:b=s.heap.objs.size
    ·subst z
     rw [Pq _ rfl] at q; cases q; exact a3
    ·refine hk b o hb.1 hb.2 ?_
     rw [VT _ _ _ z] at q; exact q) gf
  refine ⟨_,rfl,wpAny_letOwnedTupleGo_enum (s:={ s with heap:=h',toks:=tk+1 }) a1 λh2' hz' hs'=>?_⟩
  refine ⟨.ref s.heap.objs.size,_,gO (s:={ s with heap:=h',toks:=tk+1 }) (t':=tk+1) (h':=h2') (L:=[e,j]) I1 (λb o hb q=>hs'.extBut b o (λz=>hb (by simp [z])) q) gf,rfl,
   ⟨_,x,rfl,Hp,rfl,λxs' h=>by rw [Fq I h q1]; exact hx⟩,⟨⟨x',?_⟩,a2.1.extBut hs'.extBut (Py hne)⟩,λb hb=>(gf b hb).1⟩
  have hz2:=hz'
  rw [show ((i:Int)+1)=((i+1:Nat):Int) by lia] at hz2
  exact hz2
 done:=by
  intro X hP hw hK hc i aa s Z H E I hf st hg
  subst hP hw hK
  obtain ⟨⟨old,he⟩,hj⟩:=st
  obtain ⟨xs,q1,hend⟩:=hg
  obtain ⟨its,rv,p1,z1⟩:=I.tuple q1
  have pT:s.heap.IsTuple t its.toArray:=by obtain ⟨o,ho,hc',n,hd⟩:=p1; exact ⟨o,ho,hc',n,hd⟩
  have hl:=rv.length
  have hx:its.toArray[i]?=none:=by simp; lia
  have hh:X.A.in1.handled=none:=I.ok.hd hc
  exact wpAny_pyNext_enum_endD (B8 hh j t its.toArray i hx) he ⟨rfl,hj,pT⟩ λh' hk=>⟨rfl,gO (t':=s.toks) (L:=[e,j]) I (λb o hb q=>hk b o (λz=>hb (by simp [z])) q) hf⟩
 self:=λA i s Q E ⟨⟨old,he⟩,_⟩ h=>wpAny_pyIter_enum he h
theorem y9 {K:O7} {Hf:Hp} {ds:List D} {xs:List V} {t:Addr} (h1:c9 K Hf t xs) (r1:ak K Hf ds xs):jw K (Oo K t) (mq ds) Hf where
 go:=λi d H aP s1 s2 e=>by
  unfold mq at e
  rw [Pr,PD] at e
  obtain ⟨⟨x,m⟩,ex,rfl⟩:=e
  rw [List.getElem?_zipIdx,PD] at ex
  obtain ⟨x',ex,ee⟩:=ex
  cases ee
  obtain ⟨v1,f1,g1⟩:=r1.get ex
  have q1:=az (s1.trans s2) h1
  refine ⟨⟨xs,v1,q1,f1⟩,λv H' ⟨p,y,e1,e2,e3,e4⟩=>?_⟩
  have z1:=e4 xs q1
  rw [f1] at z1; cases z1
  subst e1 e3
  have g:=bz.new s2 e2 (o:=.tup [.int (i:Nat),v1])
  rw [RL]
  exact ⟨upd aP p (.tup [.int (i:Nat),v1]),g,aI.mpr ⟨p,_,rfl,.inl (.inl ah),.cons (au.mpr rfl) (.cons (Rep.mono (s1.trans g.f) _ g1) (aA.mpr rfl))⟩⟩
 stop:=λi H aP s1 s2 e=>⟨xs,az (s1.trans s2) h1,by
  rw [<- r1.length]
  simpa [mq] using e⟩
theorem za:bootBuiltins "enumerate"=some (.type "enumerate"):=by decide +kernel
noncomputable def Mw (K:O7) (ta:TA):TI:=λZ H R=>ta Z H λvs H1=>∃ t xs,vs=[.ref t]/\c9 K H1 t xs/\R (Oo K t) H1
theorem Ft (hg:Gl X "enumerate") (hm:X.mg "enumerate"=none) (ha:PA X [a] ta) (hs:starEach [a] X.env=[(false,eval a X.env)]) :
 PI X (.Tuple elts kt tpos) (.Call (.Name "enumerate" p) [a] [] pos) (Mw X.K ta):=by
 intro aa s Z H R I h
 refine Call_ (cX I hg hm za (Tg (bL (ha pos aa s Z H _ I h) λus s1 ⟨vs,H1,I1,r1,q1⟩=>?_) hs (by rfl)))
 obtain ⟨t,xs,e,q1,q⟩:=q1
 subst e
 obtain ⟨u,rfl,rx⟩:=vals1 r1
 cases rx
 obtain ⟨its,rv,p1,z1⟩:=I1.tuple q1
 have pT:s1.heap.IsTuple t its.toArray:=by obtain ⟨o,ho,hc',n,hd⟩:=p1; exact ⟨o,ho,hc',n,hd⟩
 refine uO pT λh' a1 a2 hk=>wpAny_pyIter_enum a1 ?_
 refine ⟨s1.heap.objs.size+1,[s1.heap.objs.size+1,s1.heap.objs.size],_,_,H1,rfl,I1.kept (t':=s1.toks) hk,yZ (Si (SO _)),⟨⟨.none,a1⟩,a2⟩,λb hb=>?_,q⟩
 have hb':s1.heap.objs.size<=b:=by
  simp only [Pg,QI,or_false] at hb
  rcases hb with rfl | rfl
  ·exact RI _ _
  ·exact O9 _
 exact I1.jr hb' (I1.hok.fresh hb')
section
variable {K:O7} {c:Ctx P w K mg base k N sc bk}
theorem JB (hm:mg "enumerate"=none) (h:aB c a Y λx=>∃ ds,x=.tup ds/\R (mq ds)) (hg:sc.names.lookup (O5 "enumerate")=some .globalImplicit:=by rfl')
 (hs:∀ env,starEach [a] env=(false,eval a env)::starEach [] env:=by symm):zU c (.Tuple elts kt tpos) (.Call (.Name "enumerate" p) [a] [] pos) Y R:=λZ H Hf Q S q aa s I =>
 Ft (by unfold Gl P6; rw [c.esc]; exact hg) (by rw [c.emg]; exact hm) (bC cI cM (hs _)) (by rw [hs]; rfl) aa s Z H Q I
  (h Z H Hf _ S λx v1 H1 aP ⟨ds,e1,hR⟩ r1 g1=>by
    subst e1
    rw [aI] at r1
    obtain ⟨t,xs,rfl,s1,t1⟩:=r1
    exact ⟨t,xs,rfl,az g1.b s1,q _ _ H1 aP hR g1 (y9 s1 t1)⟩)
end
noncomputable def JC (lo:Int) (n:Nat):It:=⟨λi _=>i<n,λi H x H'=>H'=H/\x=.int (lo - i),λi _=>n<=i⟩
noncomputable def B9 (lo:Int) (n:Nat):List D:=(PM n).map λ(i:Nat)=>D.int (lo - (i:Int))
theorem zb {P:Program} {w:World} {K:O7} {tg:Expr} (j:Addr) (lo:Int) (n:Nat):Turn P w K tg (JC lo n) [j] j (λi h=>IsRangeIter h j (lo+(i:Nat) * -1) ((n:Int) - (i:Nat)) (-1)) where
 mem:=Pk.mpr rfl
 obj:=λi h st b hb=>by
  obtain rfl:b=j:=Pk.mp hb
  exact ⟨_,st,λv z=>by have q:TY _=So v:=z; cases q⟩
 keep:=λi h h' st k=>k j (Pk.mpr rfl) _ st
 item:=by
  intro X hP hw hK hc i aa s Z H E I hf st hg
  subst hP hw hK
  obtain ⟨f0,f1,f2,f3,f4,f5⟩:=hf j (Pk.mpr rfl)
  have W:=Walks.range (prog:=X.prog) (w:=X.w) (I.ok.hd hc) j lo (-1) n
  refine W.item i s _ _ hg st λv h' tk hv st' kk=>?_
  obtain ⟨t,rfl⟩:=hv
  have I1:Inv X aa Z H { s with heap:=h',toks:=tk }:=I.turned (λb o hb e=>kk b o (by simpa using hb) e) f0 f1 f3 f4 f5
  have e:lo+(i:Int) * -1=lo - i:=by lia
  exact ⟨_,rfl,qU (s:={ s with heap:=h',toks:=tk }) (n:="range_iterator") st' rfl rfl 'd' ⟨.int (lo - i),H,I1,⟨t,by rw [e]⟩,⟨rfl,rfl⟩,st',λb hb=>(hf b hb).1⟩⟩
 done:=by
  intro X hP hw hK hc i aa s Z H E I hf st hg
  subst hP hw hK
  obtain ⟨f0,f1,f2,f3,f4,f5⟩:=hf j (Pk.mpr rfl)
  exact wpAny_pyNext_range_end (I.ok.hd hc) st (by have:n<=i:=hg; lia) λh' eb=>⟨rfl,I.turned (t':=s.toks) (λb o hb e=>eb b o hb e) f0 f1 f3 f4 f5⟩
 self:=λ_ _ _ _ _ st h=>wpAny_pyIter_rangeiter st h
theorem mz {lo hi:Int}:Ui lo hi (-1)=((lo - hi).toNat:Int):=by
 unfold Ui
 rw [if_neg 'd']
 split
 ·rw [show - (-1:Int)=1 by decide,Int.ediv_one]; lia
 ·lia
theorem small_down (ha: -(2 ^ 62)<=a) (ha':a<2 ^ 62) (hb: -(2 ^ 62)<=b) (hb':b<2 ^ 62):Builtin.Range.small a b (-1)=true:=by
 unfold Builtin.Range.small
 rw [mz]
 simp only [Builtin.Range.rangeFitsLong,SS,Bool.or_eq_true,decide_eq_true_eq,beq_iff_eq,show ¬ (-1:Int)>0 by decide,if_false]
 lia
noncomputable def Mx (ta:TA):TI:=λZ H R=>ta Z H λvs H1=>∃ i j:Int,vs=[.int i,.int j,.int (-1)]/\(-(2 ^ 62)<=i/\i<2 ^ 62/\ -(2 ^ 62)<=j/\j<2 ^ 62)/\R (JC i (i - j).toNat) H1
theorem Fv (hg:Gl X "range") (hm:X.mg "range"=none) (ha:PA X [a,b,c] ta) (hs:starEach [a,b,c] X.env=[(false,eval a X.env),(false,eval b X.env),(false,eval c X.env)])
 (hs2:starEach [b,c] X.env=[(false,eval b X.env),(false,eval c X.env)]):PI X tg (.Call (.Name "range" p) [a,b,c] [] pos) (Mx ta):=by
 intro aa s Z H R I h
 refine Call_ (cX I hg hm boot_range (Tg (bL (ha pos aa s Z H _ I h) λus s1 ⟨vs,H1,I1,r1,q1⟩=>?_) (by rw [hs,hs2]) (by rw [hs2]; rfl)))
 obtain ⟨i,j,e,⟨q1,q2,q3,q4⟩,q⟩:=q1
 subst e
 cases r1 with
 | cons r rr=>cases rr with
  | cons r' rr=>cases rr with
   | cons r'' rr =>
    cases rr
    obtain ⟨t,rfl⟩:=r
    obtain ⟨t',rfl⟩:=r'
    obtain ⟨t'',rfl⟩:=r''
    refine call_range_3 'd' ?_ (.inl (Vc (by decide +kernel)))
    refine wpAny_pyIter_range (IsRange.new ..) (small_down q1 q2 q3 q4) ?_
    have I2:Inv X aa Z H1 { s1 with heap:=s1.heap.push { cls:=.type "range",data:=.fields #[.int i t,.int j t',.int (-1) t''] },toks:=s1.toks }:=I1.kept λb o e=>Pe _ e
    generalize s1.heap.push { cls:=.type "range",data:=.fields #[.int i t,.int j t',.int (-1) t''] }=g at I2 |-
    refine ⟨g.objs.size,[g.objs.size],_,_,H1,rfl,I2.kept (t':=s1.toks) λb o e=>Pe _ e,zb _ i (i - j).toNat,?_,λb hb=>?_,q⟩
    ·show IsRangeIter _ _ (i+((0:Nat):Int) * -1) ((((i - j).toNat:Nat):Int) - ((0:Nat):Int)) (-1)
     rw [show i+((0:Nat):Int) * -1=i by simp,show (((i - j).toNat:Nat):Int) - ((0:Nat):Int)=Ui i j (-1) by rw [mz]; lia]
     exact Pq _ rfl
    ·obtain rfl:b=g.objs.size:=Pk.mp hb
     exact I2.jr (O9 _) (I2.hok.fresh (O9 _))
theorem Ca {K:O7} {lo:Int} {n:Nat} {fc:Hp}:jw K (JC lo n) (B9 lo n) fc where
 go:=λi d H Hf s1 s2 e=>by
  unfold B9 at e
  rw [Pr] at e
  obtain ⟨j,e1,e2⟩:=PD.mp e
  have hi:i<n:=by simpa using (Po.mp e1).1
  have:j=i:=by rw [SG hi] at e1; cases e1; rfl
  subst this
  refine ⟨hi,λx H' ⟨e3,e4⟩=>?_⟩
  subst e3 e4 e2
  exact ⟨Hf,.refl s2,au.mpr rfl⟩
 stop:=λi H Hf s1 s2 e=>show n<=i by simpa [B9] using e
section
variable {K:O7} {c:Ctx P w K mg base k N sc bk}
theorem JD (hm:mg "range"=none) (h:aB c a Y λx=>aB c b Y λy=>aB c e Y λz=>∃ i j:Int,x=.int i/\y=.int j/\z=.int (-1)/\Sd (A6 i) (Sd (A6 j) (R (B9 i (i - j).toNat))))
 (hg:sc.names.lookup (O5 "range")=some .globalImplicit:=by rfl')
 (hs:∀ env,starEach [a,b,e] env=(false,eval a env)::starEach [b,e] env:=by symm) (hs2:∀ env,starEach [b,e] env=(false,eval b env)::starEach [e] env:=by symm)
 (hs3:∀ env,starEach [e] env=(false,eval e env)::starEach [] env:=by symm):zU c tg (.Call (.Name "range" p) [a,b,e] [] pos) Y R:=λZ H Hf Q S q aa s I =>
 Fv (by unfold Gl P6; rw [c.esc]; exact hg) (by rw [c.emg]; exact hm) (bC cI (bC cI (bC cI cM (hs3 _)) (hs2 _)) (hs _)) (by rw [hs,hs2,hs3]; rfl) (by rw [hs2,hs3]; rfl) aa s Z H Q I
  (h Z H Hf _ S λx v1 H1 aP h1 r1 g1=>h1 Z H1 aP _ (S.cD g1) λy v2 H2 cL h2 r2 g2=>h2 Z H2 cL _ (S.cD (g1.trans g2)) λz v3 H3 Hf3 ⟨i,j,e1,e2,e3,⟨hi,⟨hj,hR⟩⟩⟩ r3 g3=>by
    subst e1 e2 e3; rw [au] at r1 r2 r3; subst r1 r2 r3
    exact ⟨i,j,rfl,⟨hi.1,hi.2,hj.1,hj.2⟩,q _ _ H3 Hf3 hR ((g1.trans g2).trans g3) Ca⟩)
end
noncomputable abbrev ltI (x y:Int):Bool:=decide (x<y)
noncomputable def OJ (d:Addr) (o:Obj) (ys:List (Key×V)):It :=
 ⟨λi H=>H d=some (.frz o (.dK ys))/\i<ys.length,λi H x H'=>H'=H/\∃ y,ys[i]?=some y/\x=kV y.1,λi H=>H d=some (.frz o (.dK ys))/\ys.length<=i⟩
theorem kH (I:Inv X aa Z H s) (hH:H d=some (.frz o (.dK ys))):∃ (vs:List (Key×Value)) (es:Array DictEntry) (ep:Nat),o.data=.dict es ep/\KV ys vs/\s.heap.DictAt (bZ X.prog X.w) d vs ep/\(d == sysModules)=false/\ys.length<=sizeLine:=by
 obtain ⟨ho,ok⟩:=(show bf X.prog X.w H s.heap d (.frz o (.dK ys)) from I.hok d _ hH)
 obtain ⟨z,y,vs,kv,o',es,ep,h1,h2,h3,h4,h5,h6⟩:=ok
 rw [ho] at h1; cases h1
 exact ⟨vs,es,ep,h3,kv,⟨o,es,ho,h2,h3,h4,h5,h6⟩,y,z⟩
theorem oB {P:Program} {w:World} {K:O7} {tg:Expr} {d j:Addr} {o:Obj} {ys:List (Key×V)} {es:Array DictEntry} {ep:Nat} (hod:o.data=.dict es ep):Turn P w K tg (OJ d o ys) [j] j (λi h=>h.IsKeyIter j d i ys.length ep) where
 mem:=Pk.mpr rfl
 obj:=λi h ⟨q,e,_,hd⟩ b hb=>by
  obtain rfl:b=j:=Pk.mp hb
  exact ⟨_,e,λv z=>by rw [hd] at z; cases z⟩
 keep:=λi h h' ⟨q,e,r⟩ k=>⟨q,k j (Pk.mpr rfl) _ e,r⟩
 item:=by
  intro X hP hw hK hc i aa s Z H E I hf st hg
  subst hP hw hK
  obtain ⟨f0,f1,f2,f3,f4,f5⟩:=hf j (Pk.mpr rfl)
  obtain ⟨hH,hi⟩:=hg
  obtain ⟨vs,es',ep',e1,kv,da,_⟩:=kH I hH
  rw [hod] at e1; cases e1
  have hl:ys.length=vs.length:=QD kv
  obtain ⟨⟨ky,v⟩,hv,r1,r2⟩:=dY kv (PX hi)
  rw [hl] at st
  refine wpAny_pyNext_dict_item st da hv λkey h' hkey hit' hs'=>?_
  have I1:Inv X aa Z H { s with heap:=h',toks:=s.toks }:=I.turned (λb o hb e=>hs'.extBut b o hb e) f0 f1 f3 f4 f5
  obtain ⟨q,e,qc,qd⟩:=id hit'
  rw [<- hl] at hit'
  exact ⟨_,rfl,qU (s:={ s with heap:=h',toks:=s.toks }) (n:="dict_keyiterator") e qc qd 'd' ⟨kV ky,H,I1,wB hkey,⟨rfl,_,PX hi,by rw [r1]⟩,hit',λb hb=>(hf b hb).1⟩⟩
 done:=by
  intro X hP hw hK hc i aa s Z H E I hf st hg
  subst hP hw hK
  obtain ⟨f0,f1,f2,f3,f4,f5⟩:=hf j (Pk.mpr rfl)
  obtain ⟨hH,hi⟩:=hg
  obtain ⟨vs,es',ep',e1,kv,da,_⟩:=kH I hH
  rw [hod] at e1; cases e1
  have hl:ys.length=vs.length:=QD kv
  rw [hl] at st
  exact wpAny_pyNext_dict_end (I.ok.hd hc) st da (Sy 'l') λh' eb=>⟨rfl,I.turned (t':=s.toks) (λb o hb e=>eb b o hb e) f0 f1 f3 f4 f5⟩
 self:=λ_ _ _ _ _ st h=>wpAny_pyIter_keyiter st h
theorem oE {K:O7} {Hf:Hp} {d:Addr} {o:Obj} {ys:List (Key×V)} {ns:List Int} (hH:Hf d=some (.frz o (.dK ys))) (hk:ys.map (·.1)=ns.map PK):jw K (OJ d o ys) (ns.map D.int) Hf where
 go:=λi x H aP s1 s2 e=>by
  rw [Pr,PD] at e
  obtain ⟨n,hn,rfl⟩:=e
  have hq:=congrArg (λl=>l[i]?) hk
  simp only [Pr,hn,Option.map_some] at hq
  obtain ⟨y,hy,ey⟩:=PD.mp hq
  refine ⟨⟨s2 _ _ (s1 _ _ hH),(Po.mp hy).1⟩,λv H' ⟨e1,y',e2,e3⟩=>?_⟩
  rw [hy] at e2; cases e2
  subst e1 e3
  exact ⟨aP,.refl s2,by rw [ey]; exact au.mpr rfl⟩
 stop:=λi H aP s1 s2 e=>⟨s2 _ _ (s1 _ _ hH),by
  have:=congrArg S0 hk
  simp only [Pc] at this e
  lia⟩
theorem oF (hT:s.TypeIs (.ref v) "dict") (hQ:Q false s):wpAny (model prog w) A (Su (.ref v)) Q E s:=by
 unfold Su
 refine O6 (wpAny_specialOf hT PySem.F.slot_dict_len.lookup ?_)
 have e:splitId "dict.__len__"=some ("dict","__len__"):=by decide +kernel
 dsimp only
 rw [e]
 dsimp only
 refine O6 (Uz (b:=true) hT (by rw [isSubtype_type]; kernel_rfl) ?_)
 rw [if_neg 'd']
 exact O6 (Rw hT (O8 hQ))
section
variable {X:Cx} {aa:List (Addr×Obj)} {Z:L2.St} {H Hf:Hp} {s:Shared} {E:Value->Shared->Prop}
theorem sQ {K:O7}:∀ {L:List Int} {us:List Value},Paired (λx u=>kG K Hf (D.int x) u) L us->IntsAre us L
 | _,_,.nil=>.nil
 | _,_,.cons ⟨x,r1,h1⟩ t=>by
  rw [au] at h1; subst h1
  obtain ⟨tk,rfl⟩:=r1
  exact .cons _ _ (sQ t)
theorem ja:Ju X D.int ltI oneType' where
 lin:=λL=>⟨λx _=>by simp,λx _ y _ z _ h g=>by simp only [decide_eq_true_eq] at *; lia,λx _ y _ h=>by simp only [decide_eq_true_eq]; lia⟩
 inj:=λ_ _ _ _ _ _ _ x y u ⟨v,r1,h1⟩ ⟨v',r2,h2⟩=>by
  rw [au] at h1 h2; subst h1 h2
  obtain ⟨t,rfl⟩:=r1
  obtain ⟨t',e⟩:=r2
  cases e; rfl
 kind:=λ_ _ _ _ _ _ _ _ _ L us p h2 Q hQ=>by
  rw [ksk_kind (kz:=L) (sQ p) (by simpa using h2)]
  exact O8 hQ
 cmp:=λ_ _ _ _ _ _ _ _ _ _ x y u v ⟨a,r1,h1⟩ ⟨b,r2,h2⟩ Q hQ=>by
  rw [au] at h1 h2; subst h1 h2
  obtain ⟨t,rfl⟩:=r1
  obtain ⟨t',rfl⟩:=r2
  rw [keyLt'_oneType]
  exact oneLt_int hQ
theorem sR (hc:X.calm=true) (I:Inv X aa Z H s) (sb:aL Hf H) (hA:X.A.units+60<cLine) (hH:Hf d=some (.frz o (.dK ys))) (hk:ys.map (·.1)=ns.map PK) (nd:ns.Nodup)
 (hQ:∀ (L':List Int) (xs':List V) (s':Shared) (H' aj:Hp) (a:Addr),L'.Perm ns->gu ltI b L'->ak X.K aj (L'.map D.int) xs'->bz H Hf H' aj->H' a=none->Inv X aa Z (upd H' a (.lst xs')) s'->Q (.ref a) s') :
 wpAny (model X.prog X.w) X.A (call (.builtin "sorted") [.ref d] [(O5 "reverse",.bool b)]) Q E s:=by
 refine Vl UX UN UP (args_sorted_rev _ _) ?_
 unfold Builtin.«sorted»
 refine O6 (m:=checkCount "sorted" 1 1 _) (O8 ?_)
 have h1:X.A.in1.handled=none:=I.ok.hd hc
 have h2:X.A.in1.frames=some X.stack:=I.ok.frames
 obtain ⟨vs,es,ep,e1,kv,da,hs,hz⟩:=kH I (sb _ _ hH)
 have hl:ys.length=vs.length:=QD kv
 have hn:(ns.map D.int).length=ys.length:=by have:=congrArg S0 hk; simp only [Pc] at this |-; lia
 refine O6 (iC (X:=E9 X X.A.in1) (H:=H) (Hf:=Hf) (ds:=ns.map D.int) (T:="dict") hc h1 h2 (jC I (λ_=>h1) h2) sb da.lt_size 'l' 'd' (λs' k=>(da.keep k).dictOf.typeIs) (λA s' Q E q h=>oF q h) (λA s1 H1 E I1 sb1 k1=>?_) λus s' H' aj xs I' rv rr g hz'=>?_)
 ·refine wpAny_pyIter_dict hs (da.keep k1) ?_
  refine ⟨_,_,_,rfl,O9 _,I1.kept (t':=s1.toks) λb o e=>Pe _ e,oB e1,⟨_,Pq _ rfl,rfl,?_⟩,λb hb=>?_,λb o e=>Pe _ e,oE hH hk⟩
  ·rw [hl]; rfl
  ·obtain rfl:b=s1.heap.objs.size:=Pk.mp hb
   exact I1.jr (O9 _) (I1.hok.fresh (O9 _))
 ·have I2:=fJ I.ok I'
  have el:=rr.length
  have el2:=rv.length
  refine l8 (b:=b) ja I2 g.b ?_ rr rv 'l' nd λL' xs' s2 p1 p2 p3 p4 I3=>hQ L' xs' s2 H' aj _ p1 p2 p3 g (I2.hok.fresh (O9 _)) I3
  show X.A.units+1+20<cLine
  lia
end
section
variable {K:O7} {c:Ctx P w K mg base k N sc bk}
theorem uP (hm:mg "sorted"=none) (h:aB c e Y λd=>∃ (ns:List Int) (ds:List D),d=.fdK (ns.map PK) ds/\Sd ns.Nodup (∀ L':List Int,L'.Perm ns->gu ltI true L'->R (.ow (L'.map D.int))))
 (hg:sc.names.lookup (O5 "sorted")=some .globalImplicit:=by rfl')
 (he:∀ env,starEach [e] env=(false,eval e env)::starEach [] env:=by symm)
 (hpl:∀ env,(backTo pos (starEach [e] env)).any (·.1)=false:=by symm) :
 dU c (.Call (.Name "sorted" np) [e] [⟨some "reverse",.Constant (.bool true) j kp1,kp⟩] pos) Y R:=λZ H Hf Q S q aa s I=>by
 have hgl:Gl c.X "sorted":=by unfold Gl P6; rw [c.esc]; exact hg
 refine Q0 (cX I hgl (by rw [c.emg]; exact hm) (show bootBuiltins "sorted"=some (.builtin "sorted") by decide +kernel) ?_ 'd' 'd')
 refine UY ?_ (by rw [he]; rfl) (hpl _)
 have hpa:=bC (X:=c.X) (e:=e) (es:=[]) cI cM (he _)
 refine bL (hpa pos aa s Z H (λvs H1=>∃ x,vs=[x]/\∃ (ns:List Int) (ds:List D) (aP:Hp),Rep c.X.K aP (.fdK (ns.map PK) ds) x/\ns.Nodup/\bz H Hf H1 aP/\∀ L':List Int,L'.Perm ns->gu ltI true L'->R (.ow (L'.map D.int))) I ?_) λus s1 hh=>z2 hh λvs H1 hh=>w3 hh λI1 r1 hh=>hh.elim λx hh=>w2 hh λex hh=>z3 hh λns ds aP hh=>w4 hh λe1 e7 e8 e9=>?_
 ·exact h Z H Hf _ S λd v H1 aP ⟨ns,ds,hp,⟨hn,hR⟩⟩ rv g=>⟨_,rfl,ns,ds,aP,by rw [<- hp]; exact rv,hn,g,hR⟩
 ·subst ex
  obtain ⟨a0,ys,o,rfl,hs,hk,hr⟩:=fO.mp e1
  have eu:us=[.ref a0]:=by
   cases r1 with
   | cons q1 q2=>cases q2; cases q1; rfl
  subst eu
  refine kws_cons (bL (vC (X:=c.X) (b:=true) (j:=j) (pos:=kp1) aa s1 Z _ (λx H2=>x=.bl true/\H2=H1) I1 ⟨rfl,rfl⟩) λkv s2 ⟨x,H2,I2,rx,e10,e11⟩=>kws_nil ?_)
  subst e10 e11
  have ek:kv=.bool true:=rx
  subst ek
  refine sR (b:=true) c.calm I2 e8.b ?_ hs hk e7 λL' xs' s' H' aj a p1 p2 p3 g na I3=>?_
  ·have:=c.room.un
   lia
  ·have gg:=e8.trans g
   exact ⟨.ref a,_,I3,rfl,q (.ow (L'.map D.int)) _ _ aj (e9 L' p1 p2) ⟨a,xs',rfl,gg.s.free na,ah,g.b.free na,p3⟩ (gg.trans (bz.f7 g.b na))⟩
end
theorem Fw {Q:Value->Shared->Prop} (ho:s.heap.get? l=some o) (hc:o.cls=.type "tuple") (hd:o.data=.seq its.toArray n) (hk:0<=k) (hk2:k<2 ^ 63) (hz:its.length * k.toNat<=sizeLine) (hne:its≠[])
 (h1:k=1->Q (.ref l) s) (h2:k≠1->Q (.ref s.heap.objs.size) { s with heap:=s.heap.push { cls:=.type "tuple",data:=.seq (Pu k.toNat its).flatten.toArray } }) :
 wpAny (model prog w) A (Builtin.«tuple.__mul__» ⟨[.ref l,.int k u],[]⟩) (λfin s'=>∃ v,fin=.done (.ret v)/\Q v s') E s:=by
 unfold Builtin.«tuple.__mul__»
 show wpAny _ _ (asIndex (.int k u) >>= _) _ _ s
 have ea:asIndex (.int k u)=pure k:=rfl
 rw [ea]
 refine O6 (O8 ?_)
 have b1:(decide (k< -2 ^ 63) || decide (k>=2 ^ 63))=false:=by simp only [Bool.or_eq_false_iff,decide_eq_false_iff_not]; lia
 rw [if_neg (by rw [b1]; exact Pp)]
 dsimp only
 refine O6 (show wpAny _ _ (seqItems? (.ref l) >>= _) _ _ s from O6 (Rj ho hd (O8 ?_)))
 have hne':its.toArray.isEmpty=false:=by cases its with | nil=>exact absurd rfl hne | cons a r=>rfl
 rw [hne',Bool.false_or]
 by_cases e:k=1
 ·rw [if_pos (by simp [e])]
  refine O6 (O6 (Rw ⟨o,ho,hc⟩ (O8 ?_)))
  rw [if_pos 'd']
  exact O6 (Qy (O8 ⟨_,rfl,h1 e⟩))
 ·rw [if_neg (by simpa using e)]
  have h2':=h2 e
  by_cases e0:k=0
  ·subst e0
   rw [if_pos 'd']
   exact O6 (QG (O8 ⟨_,rfl,h2'⟩))
  ·have hpos:0<k:=by lia
   rw [if_neg (by simp; lia)]
   have hm:(its.toArray.size:Int) * k=((its.length * k.toNat:Nat):Int):=by
    rw [Int.natCast_mul,Int.toNat_of_nonneg hk,PN]
   have hs:(sizeLine:Nat)<=(2 ^ 63 - 1) / 8:=by decide
   rw [hm,if_neg 'l',if_neg (by unfold Builtin.Tuple.tupleTooMany; simp only [decide_eq_true_eq]; lia)]
   have ef:=foldl_rep its k.toNat []
   rw [Tt] at ef
   show wpAny _ _ (newObj (.type "tuple") (.seq (Tc (λx1 x2=>x1++x2) ([]:List Value).toArray (Pu k.toNat its.toArray))) >>= _) _ _ _
   rw [ef]
   exact O6 (QG (O8 ⟨_,rfl,h2'⟩) (hd:=by
    show (Pu k.toNat its).flatten.toArray.size<=sizeLine
    rw [PN,len_rep,UT]; exact hz))
theorem uQ:fillsNumberSlot (.type "tuple") "mul"=pure false:=PySem.fillsNumberSlot_seq (id:="tuple.__mul__") (r:=some (.builtin "tuple.__rmul__")) V1.lookup (by decide +kernel) F.slot_tuple_rmul.lookup (by decide +kernel)
theorem uR:seqRepeat? (.type "tuple")=pure (some (.builtin "tuple.__mul__")):=by
 unfold seqRepeat?
 rw [PySem.seqSlot_of (T:="tuple") (name:="__mul__") (id:="tuple.__mul__") V1.lookup (by decide +kernel),PySem.seqSlot_of (T:="tuple") (name:="__rmul__") (id:="tuple.__rmul__") F.slot_tuple_rmul.lookup (by decide +kernel)]
 rfl
theorem Cb (a) (t:Tok) (l) (o) (items) (n) :
 Meets (Builtin.«int.__rmul__» ⟨[.int a t,.ref l],[]⟩) (λ_ R s=>s.heap.get? l=some o/\o.cls=.type "tuple"/\o.data=.seq items n/\R (.ok (.ret Value.notImplemented)) s) :=
 .of_wp λprog w A R ⟨hp,g,d,tk,os⟩ ⟨hl,hc,hd,h⟩=>by
  obtain ⟨c,dc,dt,sl⟩:=o
  obtain rfl:c=.type "tuple":=hc
  obtain rfl:dt=.seq items n:=hd
  wp_walk
  exact ⟨_,rfl,h⟩
noncomputable def Mz (K:O7):R2:=λx y H Q=>∃ l k xs,x=.ref l/\y=.int k/\c9 K H l xs/\xs≠[]/\0<=k/\k<2 ^ 63/\xs.length * k.toNat<=sizeLine/\(k=1->Q (.ref l) H)/\(k≠1->∀ p,H p=none->Q (.ref p) (upd H p (.tup (Pu k.toNat xs).flatten)))
theorem Fx:fu X (binaryOp .Mult) (Mz X.K):=by
 intro aa s Z H x y v u Q I rx ry h
 obtain ⟨l,k,xs,rfl,rfl,hq,hne,h0,h1,hz,q1,q2⟩:=h
 cases rx
 obtain ⟨t,rfl⟩:=ry
 obtain ⟨its,r,pl,hz0⟩:=I.tuple hq
 obtain ⟨o,ho,hc,n,hd⟩:=pl
 have hl:=r.length
 refine wpAny_binaryOp_repeat_ref (T:="tuple") (U:="int") 'd' ⟨o,ho,hc⟩ (λs'=>TZ s' k t) uQ F.fills_int_mul UD uR F.slot_int_index.lookup
  (Sm UD (TZ s k t) F.entry_int_rmul (F.args_int_rmul_2 _ _) (Cb k t l o _ _) ⟨ho,hc,hd,rfl,⟨o,ho,hc⟩,Q3 V1 ⟨o,ho,hc⟩ F.entry_tuple_mul (Fw (its:=its) ho hc hd h0 h1 (by rw [<- hl]; exact hz) (by rintro rfl; cases r; exact hne rfl) (λe=>?_) λe=>?_) (F.args_tuple_mul_2 _ _)⟩)
 ·exact ⟨.ref l,H,I,rfl,q1 e⟩
 ·have Hp:H s.heap.objs.size=none:=I.hok.fresh (O9 _)
  have hz2:(Pu k.toNat xs).flatten.length<=sizeLine:=by rw [len_rep,UT]; exact hz
  have IA:Inv X aa Z (upd H s.heap.objs.size (.tup (Pu k.toNat xs).flatten)) { s with heap:=s.heap.push { cls:=.type "tuple",data:=.seq (Pu k.toNat its).flatten.toArray },toks:=s.toks } :=
   I.laid (a:=s.heap.objs.size) (o:=.tup (Pu k.toNat xs).flatten) (λ_ _ q=>Pe _ q) (O9 _) ⟨hz2,_,r.rep k.toNat,_,Pq _ rfl,rfl,0,rfl⟩
  exact ⟨.ref s.heap.objs.size,_,IA,rfl,q2 e _ Hp⟩
section
variable {K:O7}
theorem Cc (h:aB c a Y λx=>aB c b Y λy=>∃ ds n,x=.tup ds/\y=.int n/\Sd (ds≠[]/\0<=n/\n<2 ^ 63/\ds.length * n.toNat<=sizeLine) (R (.tup (Pu n.toNat ds).flatten))):aB c (.BinOp a .Mult b pos) Y R:=λZ H Hf Q S q =>
 bU (Ag Fx cI cI) (h Z H Hf _ S λx v H1 aP h1 r1 g1=>h1 Z H1 aP _ (S.cD g1) λy u H2 cL ⟨ds,n,e1,e2,⟨hne,n0,n1,hz⟩,hR⟩ r2 g2=>by
  subst e1 e2
  have r1':=Rep.mono g2.f _ r1
  obtain ⟨l,xs,rfl,k1,k2⟩:=aI.mp r1'
  rw [au] at r2; subst r2
  have hl:=k2.length
  have g:=g1.trans g2
  refine ⟨l,n,xs,rfl,rfl,az g2.b k1,by rintro rfl; exact hne (U5 hl),n0,n1,by rw [<- hl]; exact hz,λe=>?_,λ_ p hp=>?_⟩
  ·subst e
   refine q _ _ H2 cL hR ?_ g
   rw [show (Pu (1:Int).toNat ds).flatten=ds by simp]
   exact r1'
  ·have g3:=bz.new (o:=.tup (Pu n.toNat xs).flatten) g2.b hp
   exact q _ _ _ _ hR (aI.mpr ⟨p,_,rfl,.inl (.inl ah),(k2.mono g3.f).many _⟩) (g.trans g3))
end
section
variable {K:O7}
end
end EV
namespace EV
open PySem PySem.Spec PyProof.Rows L2
noncomputable def dig (b:Int):Nat->(Nat->Int)->Int
 | 0,_=>0
 | m+1,f=>f 0 * b ^ m+dig b m (λi=>f (i+1))
noncomputable abbrev aN (p:List Int) (i:Nat):Int:=p.getD i 0
noncomputable def pk (b:Int) (p:List Int):Int:=dig b 6 (aN p)
theorem kI:∀ {m:Nat} {f g:Nat->Int},(∀ i,i<m->f i=g i)->dig b m f=dig b m g
 | 0,_,_,_=>rfl
 | m+1,f,g,h=>by
  unfold dig
  rw [h 0 'l',kI (m:=m) λi hi=>h (i+1) 'l']
theorem w9:∀ (m:Nat) (f g:Nat->Int),dig b m (λi=>f i+g i)=dig b m f+dig b m g
 | 0,_,_=>rfl
 | m+1,f,g=>by
  unfold dig
  rw [w9 m (λi=>f (i+1)) (λi=>g (i+1)),Q9]
  lia
theorem mC:∀ (m:Nat),dig b m (λ_=>0)=0
 | 0=>rfl
 | m+1=>by unfold dig; rw [mC m,Sk]; rfl
theorem gx (hb:0<b):∀ (m:Nat) (f:Nat->Int),(∀ i,i<m->0<=f i/\f i<b)->0<=dig b m f/\dig b m f<b ^ m
 | 0,_,_=>⟨Qj _,by show (0:Int)<b ^ 0; rw [Int.pow_zero]; decide⟩
 | m+1,f,h=>by
  have h0:=h 0 'l'
  have ih:=gx hb m (λi=>f (i+1)) λi hi=>h (i+1) 'l'
  have hp:0<b ^ m:=Ry hb
  unfold dig
  rw [Int.pow_succ]
  have a1:0<=f 0 * b ^ m:=Int.mul_nonneg h0.1 'l'
  have a2:(f 0+1) * b ^ m<=b * b ^ m:=Tf 'l' 'l'
  rw [Q9,S3] at a2
  rw [TR (b ^ m) b]
  lia
theorem xg (hb:0<b):∀ (m:Nat) (f:Nat->Int),(∀ i,i<m->0<=f i/\f i<b)->∀ i,i<m->dig b m f / b ^ (m - 1 - i) % b=f i
 | 0,_,_,_,hi=>absurd hi (Nat.not_lt_zero _)
 | m+1,f,h,i,hi=>by
  have ih:=xg hb m (λi=>f (i+1)) λi hi=>h (i+1) 'l'
  have bd:=gx hb m (λi=>f (i+1)) λi hi=>h (i+1) 'l'
  have hp:0<b ^ m:=Ry hb
  unfold dig
  cases i with
  | zero =>
   rw [show m+1 - 1 - 0=m by lia,TU,Int.add_mul_ediv_right _ _ 'l',Int.ediv_eq_zero_of_lt bd.1 bd.2,UU]
   exact Int.emod_eq_of_lt (h 0 'l').1 (h 0 'l').2
  | succ i =>
   have e:b ^ m=b ^ (i+1) * b ^ (m - 1 - i):=by rw [<- Int.pow_add]; congr 1; lia
   have hq:0<b ^ (m - 1 - i):=Ry hb
   rw [show m+1 - 1 - (i+1)=m - 1 - i by lia,e,<- TL,TU,Int.add_mul_ediv_right _ _ 'l',Int.pow_succ,<- TL,Int.add_mul_emod_self_right]
   exact ih i 'l'
theorem jF (h:trim (x::p)=x::p):trim p=p:=by
 rcases List.eq_nil_or_concat p with rfl | ⟨r,z,rfl⟩
 ·rfl
 ·rw [List.concat_eq_append] at h |-
  by_cases e:z=0
  ·subst e
   rw [<- R9,gM] at h
   have:=congrArg S0 h
   have l:=dz (x::r)
   simp only [P4,PY,Q5] at this l
   lia
  ·exact oi r e
theorem sS:∀ {p:List Int},trim p=p->p≠[]->(∀ x∈p,0<=x)->∃ i,i<p.length/\0<aN p i
 | [],_,h,_=>absurd rfl h
 | [x],h,_,h0=>by
  refine ⟨0,by simp,?_⟩
  have:x≠0:=by rintro rfl; simp [trim] at h
  have:=h0 x 'p'
  show 0<x
  lia
 | x::y::p,h,_,h0=>by
  obtain ⟨i,hi,hq⟩:=sS (jF h) 'p' λz hz=>h0 z (Ph _ hz)
  exact ⟨i+1,by simp only [P4] at *; lia,by simpa [aN] using hq⟩
theorem xj (hb:0<b):∀ (m:Nat) (f:Nat->Int),(∀ i,i<m->0<=f i/\f i<b)->(∃ i,i<m/\0<f i)->0<dig b m f
 | 0,_,_,h=>by obtain ⟨i,hi,_⟩:=h; lia
 | m+1,f,h,⟨i,hi,hq⟩=>by
  have bd:=gx hb m (λi=>f (i+1)) λi hi=>h (i+1) 'l'
  have hp:0<b ^ m:=Ry hb
  unfold dig
  cases i with
  | zero =>
   have:=Int.mul_pos hq hp
   lia
  | succ i =>
   have:=xj hb m (λi=>f (i+1)) (λi hi=>h (i+1) 'l') ⟨i,by lia,hq⟩
   have:=Int.mul_nonneg (h 0 'l').1 (show 0<=b ^ m by lia)
   lia
theorem Cd (hb:0<b):∀ (m:Nat) (p q:List Int),trim p=p->trim q=q->p.length<=m->q.length<=m->(∀ x∈p,0<=x/\x<b)->(∀ x∈q,0<=x/\x<b)->HT.lexLt p q=true->dig b m (aN p)<dig b m (aN q)
 | m,[],[],_,_,_,_,_,_,h=>by cases h
 | m,[],y::q,_,tq,_,lq,_,hq,_=>by
  have e:dig b m (aN [])=0:=by
   rw [show aN ([]:List Int)=λ_=>0 from funext λi=>by simp [aN]]; exact mC m
  rw [e]
  obtain ⟨i,hi,h0⟩:=sS tq 'p' λx hx=>(hq x hx).1
  refine xj hb m _ (λj hj=>?_) ⟨i,by lia,h0⟩
  by_cases z:j<(y::q).length
  ·have:aN (y::q) j=(y::q)[j]:=by unfold aN; rw [Qn,PX z]; rfl
   rw [this]; exact hq _ (P0 _)
  ·have:aN (y::q) j=0:=by simp only [aN,Qn,Sy (by lia:(y::q).length<=j)]; rfl
   rw [this]; lia
 | m,x::p,[],_,_,_,_,_,_,h=>by cases h
 | 0,x::p,y::q,_,_,lp,_,_,_,_=>by simp at lp
 | m+1,x::p,y::q,tp,tq,lp,lq,hp,hq,h=>by
  simp only [P4] at lp lq
  rw [HT.cY] at h
  have rd:∀ (r:List Int),(∀ z∈r,0<=z/\z<b)->∀ j,0<=aN r j/\aN r j<b:=λr hr j=>by
   by_cases z:j<r.length
   ·have:aN r j=r[j]:=by unfold aN; rw [Qn,PX z]; rfl
    rw [this]; exact hr _ (P0 _)
   ·have:aN r j=0:=by simp only [aN,Qn,Sy (by lia:r.length<=j)]; rfl
    rw [this]; lia
  have hp':∀ z∈p,0<=z/\z<b:=λz hz=>hp z (Ph _ hz)
  have hq':∀ z∈q,0<=z/\z<b:=λz hz=>hq z (Ph _ hz)
  unfold dig
  show x * b ^ m+dig b m (aN p)<y * b ^ m+dig b m (aN q)
  by_cases e:x=y
  ·rw [if_pos e] at h
   subst e
   have:=Cd hb m p q (jF tp) (jF tq) 'l' 'l' hp' hq' h
   lia
  ·rw [if_neg e] at h
   have hxy:x<y:=of_decide_eq_true h
   have b1:=gx hb m (aN p) λi _=>rd p hp' i
   have b2:=gx hb m (aN q) λi _=>rd q hq' i
   have a2:(x+1) * b ^ m<=y * b ^ m:=Tf 'l' (by have hh:0<b ^ m:=Ry hb; lia)
   rw [Q9,S3] at a2
   lia
def Bd (b:Int) (p:List Int):Prop:=p.length<=6/\∀ x∈p,0<=x/\x<b
theorem cu (z:j<p.length):aN p j=p[j]:=by unfold aN; rw [Qn,PX z]; rfl
theorem bR (z:p.length<=j):aN p j=0:=by unfold aN; rw [Qn,Sy z]; rfl
theorem oG (hb:0<b) (h:Bd b p) (i):0<=aN p i/\aN p i<b:=by
 by_cases z:i<p.length
 ·rw [cu z]; exact h.2 _ (P0 _)
 ·rw [bR 'l']; lia
theorem sU (p):∃ m,p=trim p++Pu m 0:=by
 suffices H:∀ r:List Int,∃ m,r=Pu m 0++r.dropWhile λx=>x == 0 by
  obtain ⟨m,h⟩:=H p.reverse
  refine ⟨m,?_⟩
  have:=congrArg List.reverse h
  rw [Uo,VD,List.reverse_replicate] at this
  exact this
 intro r
 induction r with
 | nil=>exact ⟨0,rfl⟩
 | cons x r ih =>
  by_cases e:x=0
  ·subst e
   obtain ⟨m,h⟩:=ih
   refine ⟨m+1,?_⟩
   rw [Rh,List.dropWhile_cons_of_pos 'p',R9,<- h]
  ·exact ⟨0,by rw [List.dropWhile_cons_of_neg (by simpa using e)]; rfl⟩
theorem bV (p) (i):aN (trim p) i=aN p i:=by
 obtain ⟨m,h⟩:=sU p
 by_cases z:i<(trim p).length
 ·have e:aN p i=aN (trim p++Pu m 0) i:=by rw [<- h]
  rw [e]
  unfold aN
  simp only [Qn]
  rw [Rc z]
 ·rw [bR 'l']
  have e:aN p i=aN (trim p++Pu m 0) i:=by rw [<- h]
  rw [e]
  unfold aN
  simp only [Qn]
  rw [RA 'l',Vj]
  split <;> rfl
theorem fV (b) (p):pk b (trim p)=pk b p:=kI λi _=>bV p i
theorem mD (h:x∈trim p):x∈p:=by
 obtain ⟨m,e⟩:=sU p
 rw [e]; exact QF _ h
theorem jb (h:Bd b p):Bd b (trim p):=⟨Pj (dz p) h.1,λx hx=>h.2 x (mD hx)⟩
theorem xm (hb:0<b) (hp:Bd b p) (hq:Bd b q) (tp:trim p=p) (tq:trim q=q) (h:HT.lexLt p q=true):pk b p<pk b q:=Cd hb 6 p q tp tq hp.1 hq.1 hp.2 hq.2 h
theorem mE (hb:0<b) (hp:Bd b p) (hq:Bd b q) (tp:trim p=p) (tq:trim q=q) (h:pk b p=pk b q):p=q:=by
 by_cases e:p=q
 ·exact e
 ·exfalso
  rcases pY e with z | z
  ·have:=xm hb hp hq tp tq z; lia
  ·have:=xm hb hq hp tq tp z; lia
noncomputable def uS (b:Int) (key:Int):List Int:=trim ((PM 6).map λ(i:Nat)=>key / b ^ (5 - i) % b)
theorem uT (hb:0<b) (h:Bd b p):uS b (pk b p)=trim p:=by
 have e:((PM 6).map λ(i:Nat)=>pk b p / b ^ (5 - i) % b)=p++Pu (6 - p.length) 0:=by
  refine V0 (by simp; have:=h.1; lia) λi h1 h2=>?_
  have hi:i<6:=by simpa using h1
  rw [UB,Uq]
  have:=xg hb 6 (aN p) (λj _=>oG hb h j) i hi
  rw [show 6 - 1 - i=5 - i by lia] at this
  rw [show pk b p=dig b 6 (aN p) from rfl,this]
  by_cases z:i<p.length
  ·rw [cu z,List.getElem_append_left z]
  ·rw [bR 'l',List.getElem_append_right 'l',List.getElem_replicate]
 unfold uS
 rw [e]
 generalize 6 - p.length=m
 induction m with
 | zero=>simp
 | succ m ih=>rw [List.replicate_succ',<- PU,gM]; exact ih
noncomputable def bD (B:List (Int×Int)):List (Key×D):=B.map λx=>(.inl x.1,.int x.2)
theorem d7 (B) (k):aM (bD B) (.inl k)=(aM B k).map D.int:=by
 induction B with
 | nil=>rfl
 | cons t B ih =>
  by_cases e:t.1=k
  ·rw [bg e]
   show aM ((PK t.1,D.int t.2)::bD B) _=_
   rw [bg (by rw [e])]; rfl
  ·rw [aQ e,<- ih]
   show aM ((PK t.1,D.int t.2)::bD B) _=_
   rw [aQ λz=>e (PK.inj z)]
theorem gy (B) (k n):putD (bD B) (.inl k) (.int n)=bD (putD B k n):=by
 unfold putD
 rw [d7]
 by_cases h:(aM B k).isSome=true
 ·rw [if_pos h,if_pos (by rw [RH]; exact h)]
  unfold bD
  rw [PZ,PZ]
  refine Rq λt _=>?_
  simp only [UM]
  by_cases e:t.1=k
  ·rw [if_pos e,if_pos (by rw [e])]
  ·rw [if_neg e,if_neg λz=>e (PK.inj z)]
 ·rw [if_neg h,if_neg (by rw [RH]; exact h)]
  unfold bD
  simp
noncomputable def fM (b:Int) (t:aG):Int×Int:=(pk b t.1,t.2)
def Gd (b:Int) (A:List aG):Prop:=∀ t∈A,Bd b t.1/\trim t.1=t.1
theorem qe (hb:0<b) (h:Gd b A) (hp:Bd b p) (tp:trim p=p):aM (A.map (fM b)) (pk b p)=aM A p:=by
 induction A with
 | nil=>rfl
 | cons t A ih =>
  have ih:=ih λx hx=>h x (Ph _ hx)
  have ht:=h t Pd
  by_cases e:t.1=p
  ·rw [bg e,Pn,bg (show (fM b t).1=pk b p by unfold fM; rw [e])]; rfl
  ·rw [aQ e,Pn,aQ λz=>e (mE hb ht.1 hp ht.2 tp z),ih]
theorem JE (hb:0<b) (h:Gd b A) (hp:Bd b p) (tp:trim p=p):putD (A.map (fM b)) (pk b p) n=(putD A p n).map (fM b):=by
 unfold putD
 rw [qe hb h hp tp]
 split
 ·rw [PZ,PZ]
  refine Rq λt ht=>?_
  simp only [UM]
  by_cases e:t.1=p
  ·rw [if_pos e,if_pos (show (fM b t).1=pk b p by unfold fM; rw [e])]; rfl
  ·rw [if_neg e,if_neg (show ¬ (fM b t).1=pk b p from λz=>e (mE hb (h t ht).1 hp (h t ht).2 tp z))]
 ·simp [fM]
theorem JF (h:Gd b A) (hp:Bd b p) (tp:trim p=p):Gd b (putD A p n):=λt ht=>by
 rcases wY ht with e | e
 ·rw [e]; exact ⟨hp,tp⟩
 ·exact h t e
theorem mF (h:∀ t∈ts,Bd b t.1):Gd b (aY ts):=by
 unfold aY
 suffices H:∀ A,Gd b A->Gd b (ts.foldl gW A) from H [] (λ_ h=>by cases h)
 induction ts with
 | nil=>exact λA h=>h
 | cons u ts ih=>exact λA hA=>ih (λt ht=>h t (Ph _ ht)) _ (JF hA (jb (h u Pd)) (cj _))
theorem JG (hb:0<b) (h:∀ t∈ts,Bd b t.1) (ht:Bd b t.1) :
 putD ((aY ts).map (fM b)) (pk b t.1) ((aM ((aY ts).map (fM b)) (pk b t.1)).getD 0+t.2)=(aY (ts++[t])).map (fM b):=by
 rw [l9]
 unfold gW
 rw [<- fV b t.1,qe hb (mF h) (jb ht) (cj _),JE hb (mF h) (jb ht) (cj _)]
theorem sV:∀ {L M:List Int},L.Perm M->L.Pairwise (λx y=>y<x)->M.Pairwise (λx y=>y<x)->L=M
 | [],M,h,_,_=>by rw [List.nil_perm] at h; exact h.symm
 | x::L,[],h,_,_=>by simp at h
 | x::L,y::M,h,h1,h2=>by
  rw [Ri] at h1 h2
  by_cases e:x=y
  ·subst e
   rw [sV ((List.perm_cons _).mp h) h1.2 h2.2]
  ·exfalso
   have hx:x∈M:=(Pg.mp (h.subset Pd)).resolve_left e
   have hy:y∈L:=(Pg.mp (h.symm.subset Pd)).resolve_left (Py e)
   have a:=h1.1 y hy
   have b:=h2.1 x hx
   lia
theorem xo {A:List aG} (hk:(A.map (·.1)).Nodup) {t:aG} (h:t∈A):aM A t.1=some t.2:=by
 induction A with
 | nil=>cases h
 | cons u A ih =>
  rw [Pn,QM] at hk
  rcases Pg.mp h with rfl | h
  ·exact bg rfl
  ·rw [aQ λe=>hk.1 (by rw [e]; exact List.mem_map_of_mem h)]
   exact ih hk.2 h
theorem Ce (hb:0<b) (h:∀ t∈ts,Bd b t.1) (hp:L'.Perm (((aY ts).map (fM b)).map (·.1))) (hs:L'.Pairwise λx y=>y<x):L'=(gX (aY ts)).map λt=>pk b t.1:=by
 have hg:=mF h
 have hk:=gv ts
 generalize aY ts=A at *
 refine sV (hp.trans ?_) hs ?_
 ·rw [PZ]
  exact ((ck A).map _).symm
 ·rw [SM]
  have hs2:=i8 (keys_nodup hk)
  have hm:∀ t∈gX A,t∈A:=λt ht=>(ck A).subset ht
  have hk2:(gX A).Pairwise λx y=>x.1≠y.1:=by
   have:=((ck A).map (·.1)).nodup_iff.mpr hk
   unfold Td at this
   rwa [SM] at this
  unfold f9 gu at hs2
  refine Vd (R:=λx y=>(if true then cE y x=true else cE x y=true)/\x.1≠y.1) (λ{x y} hx hy q=>?_) (hs2.and hk2)
  obtain ⟨q1,q2⟩:=q
  rw [if_pos rfl] at q1
  unfold cE at q1
  rw [if_neg (Py q2)] at q1
  exact xm hb (hg _ (hm _ hy)).1 (hg _ (hm _ hx)).1 (hg _ (hm _ hy)).2 (hg _ (hm _ hx)).2 q1
noncomputable def Fy (b:Int) (p:List Int):Int:=p.foldl (λa x=>a * b+x) 0
theorem Cf (b) (p) (x):Fy b (p++[x])=Fy b p * b+x:=by unfold Fy; rw [Uv]; rfl
theorem sW (b):∀ (p:List Int) (a:Int),p.foldl (λa x=>a * b+x) a=a * b ^ p.length+dig b p.length (aN p)
 | [],a=>by simp [dig]
 | x::p,a=>by
  rw [RJ,sW b p]
  show (a * b+x) * b ^ p.length+_=a * b ^ (p.length+1)+(x * b ^ p.length+dig b p.length (aN p))
  rw [Q9,Int.pow_succ,TL,TR b (b ^ p.length)]
  lia
theorem xq (b) (p):Fy b p=dig b p.length (aN p):=by unfold Fy; rw [sW]; lia
theorem sX (k):∀ (m:Nat) (f:Nat->Int),(∀ i,m<=i->f i=0)->dig b (m+k) f=dig b m f * b ^ k
 | 0,f,h=>by
  rw [RL,kI (g:=λ_=>0) λi _=>h i (P7 _),mC]
  show 0=0 * b ^ k
  rw [Sk]
 | m+1,f,h=>by
  rw [show m+1+k=(m+k)+1 by lia]
  unfold dig
  rw [sX k m (λi=>f (i+1)) λi hi=>h (i+1) 'l',Q9,Int.pow_add,TL]
theorem JH (h:p.length<=6):Fy b p * b ^ (6 - p.length)=pk b p:=by
 rw [xq,<- sX (6 - p.length) p.length (aN p) λi hi=>bR hi]
 rw [show p.length+(6 - p.length)=6 by lia]
 rfl
theorem Cg (hb:0<b) (h:∀ x∈p,0<=x/\x<b):0<=Fy b p/\Fy b p<b ^ p.length:=by
 rw [xq]
 exact gx hb _ _ λi hi=>by rw [cu hi]; exact h _ (P0 _)
theorem xr (hb:0<b) (h:Bd b p):0<=pk b p/\pk b p<b ^ 6:=gx hb _ _ λi _=>oG hb h i
theorem two_pos (W):(0:Int)<2 ^ W:=Ry 'd'
theorem gP (W):((2:Int) ^ W)=((2 ^ W:Nat):Int):=by rw [Int.natCast_pow]; rfl
theorem Ci (hW:W<=10) (hn:n<=6):((2:Int) ^ W) ^ n<=2 ^ 60:=by
 rw [<- Int.pow_mul,gP,gP]
 exact Int.ofNat_le.mpr (Ul 'd' (Pj (UJ hW hn) 'd'))
theorem xu (hW:W<=10) (hn:n<=6) (h0:0<=x) (h:x<((2:Int) ^ W) ^ n):x.natAbs<2 ^ 64:=by
 have:=Ci hW hn
 have h60:(2:Int) ^ 60<2 ^ 64:=by decide
 have:x<((2 ^ 64:Nat):Int):=by rw [<- gP]; lia
 lia
theorem zc (W) (h:0<=x):Builtin.bitAnd x (1 * 2 ^ W - 1)=x % 2 ^ W:=by
 have hp:=two_pos W
 have e0:(1:Int) * 2 ^ W - 1=((2 ^ W - 1:Nat):Int):=by
  have:0<2 ^ W:=Nat.pow_pos 'd'
  rw [S3,gP]; lia
 rw [e0]
 show (match decide (0<=x),decide (0<=((2 ^ W - 1:Nat):Int)) with
  | true,true=>(((x.toNat &&& (((2 ^ W - 1:Nat):Int)).toNat:Nat)):Int)
  | true,false=>_ | false,true=>_ | false,false=>_)=_
 rw [decide_eq_true h,decide_eq_true (VJ _)]
 show ((x.toNat &&& (2 ^ W - 1):Nat):Int)=_
 rw [Nat.and_two_pow_sub_one_eq_mod,gP,Int.natCast_emod,Int.toNat_of_nonneg h]
noncomputable def bX (p q:List Int):List Int:=(PM (max p.length q.length)).map λk=>aN p k+aN q k
noncomputable def dG (l r:aG):aG:=(bX l.1 r.1,l.2 * r.2)
noncomputable def av (A B:List aG):List aG:=A.flatMap λl=>B.map (dG l)
theorem fK (p q):(bX p q).length=max p.length q.length:=by simp [bX]
theorem bF (p q) (i):aN (bX p q) i=aN p i+aN q i:=by
 by_cases z:i<max p.length q.length
 ·rw [cu (by rw [fK]; exact z)]; simp [bX]
 ·rw [bR (by rw [fK]; lia),bR 'l',bR 'l']; rfl
theorem eY (b) (p q):pk b (bX p q)=pk b p+pk b q:=by
 unfold pk
 rw [<- w9]
 exact kI λi _=>bF p q i
theorem fL (h:t∈av A B):∃ l∈A,∃ r∈B,t=dG l r:=by
 unfold av at h
 obtain ⟨l,hl,h⟩:=List.mem_flatMap.mp h
 obtain ⟨r,hr,rfl⟩:=Pz.mp h
 exact ⟨l,hl,r,hr,rfl⟩
theorem oH (A B) (l):av (A++[l]) B=av A B++B.map (dG l):=by
 unfold av
 rw [List.flatMap_append,List.flatMap_cons,List.flatMap_nil,Qv]
theorem gz (A B):(av A B).length=A.length * B.length:=by
 induction A with
 | nil=>simp [av]
 | cons a A ih =>
  unfold av at *
  rw [List.flatMap_cons,PY,ih,Pc,P4,TN]
  lia
end EV
namespace EV
open PySem PySem.Spec PySem.Calls PyProof.Rows L2
theorem Cj {K:O7}:∀ {kvs:List (Key×D)} {ys:List (Key×V)},ys.map (·.1)=kvs.map (·.1)->ak K H (kvs.map (·.2)) (ys.map (·.2))->ir K H kvs ys
 | [],[],_,_=>.nil
 | [],y::ys,h,_=>by simp at h
 | x::kvs,[],h,_=>by simp at h
 | x::kvs,y::ys,h,r=>by
  rw [Pn,Pn] at h r
  obtain ⟨v,t,e,r1,r2⟩:=aF.mp r
  injection e with e1 e2
  injection h with h1 h2
  subst e1 e2
  exact .cons ⟨h1.symm,r1⟩ (Cj h2 r2)
section
variable {K:O7}
theorem JI (h:aB c a Y λx=>aB c b Y λy=>∃ (kvs:List (Key×D)) (kk:Key) (d:D),x=.fdK (kvs.map (·.1)) (kvs.map (·.2))/\y.yF=some kk/\aM kvs kk=some d/\R d) (hs:Ea b:=by with_unfolding_all exact λ_ _=>rfl):aB c (.Subscript a b pos) Y R:=λZ H Hf Q S q =>
 bU (vL c.hu cI cI hs) (h Z H Hf _ S λx v H1 aP h1 r1 g1=>h1 Z H1 aP _ (S.cD g1) λy u H2 cL ⟨kvs,kk,d,e1,e2,e3,hR⟩ r2 g2=>by
  subst e1
  obtain ⟨p,ys,o,rfl,k1,k2,k3⟩:=fO.mp r1
  have kv:=(Cj k2 k3).mono g2.f
  have rel:=kv.val kk
  rw [e3] at rel
  rw [iR e2 r2]
  cases z:kY ys kk with
  | none=>rw [z] at rel; exact rel.elim
  | some v =>
   rw [z] at rel
   exact ⟨p,v,rfl,.inl ⟨ys,kk,.inr ⟨o,g2.b _ _ (g2.f _ _ k1)⟩,rfl,z.symm⟩,q d v H2 cL hR rel (g1.trans g2)⟩)
end
end EV
namespace EV
open PySem PySem.Spec PyProof.Rows L2
theorem sY {A:List aG} {l:List Int} {n:Int} {t:aG} (h:t∈putD A l n):t=(l,n)\/t∈A:=by
 unfold putD at h
 split at h
 ·obtain ⟨u,hu,e⟩:=Pz.mp h
  split at e
  ·rename_i q; subst e; exact .inl (by rw [q])
  ·subst e; exact .inr hu
 ·rcases PF.mp h with q | q
  ·exact .inr q
  ·simp at q; exact .inl q
theorem JJ {A:List aG} (h:∀ t∈A,t.2.natAbs<=c) (l):((aM A l).getD 0).natAbs<=c:=by
 unfold aM
 cases e:A.find? (λkv=>decide (kv.1=l)) with
 | none=>exact P7 _
 | some u=>exact h u (List.mem_of_find?_eq_some e)
theorem xw:∀ (ts A:List aG) (c:Nat),(∀ t∈A,t.2.natAbs<=c)->(∀ t∈ts,t.2.natAbs<=m)->∀ t∈ts.foldl gW A,t.2.natAbs<=c+ts.length * m
 | [],A,c,h,_,t,ht=>by simpa using h t ht
 | u::ts,A,c,h,g,t,ht=>by
  have:=xw (m:=m) ts (gW A u) (c+m) (λt' ht'=>by
   rcases sY ht' with rfl | q
   ·have a:=JJ h (trim u.1)
    have b:=g u Pd
    show ((aM A (trim u.1)).getD 0+u.2).natAbs<=c+m
    omega
   ·have:=h t' q; omega) (λt h=>g t (Ph _ h)) t ht
  rw [P4,TN]
  omega
theorem JK (h:∀ t∈ts,t.2.natAbs<=m):∀ t∈aY ts,t.2.natAbs<=ts.length * m:=λt ht=>by
 have:=xw ts [] 0 'p' h t ht
 omega
theorem zd (l m:List Int):lD (n+1) (.tup (l.map D.int)) (.tup (m.map D.int)):=.tup λi d e h1 h2=>by
 simp only [Pr,PD] at h1 h2
 obtain ⟨a,_,rfl⟩:=h1
 obtain ⟨b,_,rfl⟩:=h2
 exact .sc rfl
theorem sZ (x y):lD (n+2) (af x) (af y):=.tup λi d e h1 h2=>by
 rcases i with _ | _ | i
 ·simp at h1 h2; subst h1 h2; exact zd _ _
 ·simp at h1 h2; subst h1 h2; exact .sc rfl
 ·simp at h1
theorem tw (L M:List aG):lD (n+3) (.lst (L.map af)) (.lst (M.map af)):=.lst λi d e h1 h2=>by
 simp only [Pr,PD] at h1 h2
 obtain ⟨a,_,rfl⟩:=h1
 obtain ⟨b,_,rfl⟩:=h2
 exact sZ a b
theorem Ck (es):lE [] es:=λi d e h _=>by simp at h
theorem oJ (h:lD 40 d e) (t:lE ds es):lE (d::ds) (e::es):=λi a b h1 h2=>by
 cases i with
 | zero=>simp at h1 h2; subst h1 h2; exact h
 | succ i=>exact t i a b (by simpa using h1) (by simpa using h2)
theorem dO (L M:List aG):lE (L.map af) (M.map af):=λi d e h1 h2=>by
 simp only [Pr,PD] at h1 h2
 obtain ⟨a,_,rfl⟩:=h1
 obtain ⟨b,_,rfl⟩:=h2
 exact sZ a b
theorem tD (h:lE ds ds) (t:T true):vN (.lst ds) (.lst ds) T:=fP ⟨h,by rw [decide_eq_true rfl]; exact t⟩
section
variable {K:O7}
theorem int_mk (KX:K.In h) (G:h.Ns mainGlobals mg) (a:P5 K mainGlobals x=some (some (.int i tk))):∃ tk:Tok,mg x=some (.int i tk):=⟨tk,TJ KX G a⟩
theorem Fz (P) (w) (base) {st:Stmt} (D:aD K mg x st) (ok:∀ {f:Addr} {fd:FuncData},d9 K x x st f fd->bw P w K mg base (cN P w) k f fd ps (KZ K F))
 (hb:∀ (kV doc pm:Value) (an:Option Addr) (cdv ct:Value) (us:List Value),us.length=ps.length->bindArgs (Rn x x (eG st) (ay st) (aH st) .none kV doc pm an cdv ct) ⟨us,[]⟩=pure (ps.zip us):=by intro _ _ _ _ _ _ us hl; first | (obtain ⟨a,rfl⟩:=Mh us hl; rfl) | (obtain ⟨a,b,rfl⟩:=Mi us hl; rfl) | (obtain ⟨a,b,c,rfl⟩:=Mj us hl; rfl) | (obtain ⟨a,b,c,d,rfl⟩:=Ml us hl; rfl) | (obtain ⟨a,b,c,d,e,rfl⟩:=Ji us hl; rfl) | (obtain ⟨a,b,c,d,e,f,rfl⟩:=len6 us hl; rfl) | (obtain rfl:=len0 us hl; rfl)):Jw P w K mg base k x F :=
 let ⟨f,fd,m,Fu⟩:=D; ⟨f,fd,ps,m,Fu.kp,Fu.binds hb,ok Fu⟩
end
structure O2 (P:Program) (w:World) (K:O7) (mg:Str->Option Value) (base:Heap) (k:Nat) (f:Addr) (F:Fn):Prop where
 ex:∃ fd ps,Rk K (.ref f)=true/\Binds K fd ps []/\bw P w K mg base (cN P w) k f fd ps (eE K F)
section
variable {K:O7}
end
end EV
namespace EV
open PySem PySem.Spec PySem.Calls PyProof.Rows L2
section
variable {K:O7}
end
section
variable {K:O7}
end
theorem Hh:bf P w H h p (pl p xs)↔bf P w H h p (.lst xs):=by
 constructor
 ·exact λq=>q.1
 ·rintro ⟨z,its,n,r,e⟩
  exact ⟨⟨z,its,n,r,e⟩,⟨_,e⟩,λh1 h2 ⟨z,its,n,r,e⟩ k=>⟨z,its,n,r,k _ e⟩⟩
theorem JL (I:Inv X aa Z H s) (h:H a=some (.lst xs)):Inv X aa Z (upd H a (pl a xs)) s :=
 pQ I h (by intro _ z; cases z) (by intro _ z; cases z) (by intro _ z; cases z) (λo z e=>by have q:=I.base.frzs a o z e; rw [h] at q; cases q) (Hh.mpr (I.hok a _ h))
theorem JM (I:Inv X aa Z H s) (h:H a=some (pl a xs)):Inv X aa Z (upd H a (.lst xs)) s :=
 pQ I h (by intro _ z; cases z) (by intro _ z; cases z) (by intro _ z; cases z) (λo z e=>by have q:=I.base.frzs a o z e; rw [h] at q; cases q) (Hh.mp (I.hok a _ h))
inductive Nb:List Sl->Prop where
 | nil:Nb []
 | cons {r:Sl} {l:List Sl} (h:r.N7=false):Nb l->Nb (r::l)
inductive JN:List Sl->Nat->Sh->Prop where
 | z {s:Sh} {l:List Sl}:Nb l->JN (.fo s::l) 0 s
 | s {r:Sl} {l:List Sl} {i:Nat} {s:Sh} (h:r.N7=false):JN l i s->JN (r::l) (i+1) s
section
variable {K:O7}
end
section
variable {K:O7}
end
section
variable {K:O7}
end
end EV
namespace EV
open PySem PySem.Spec PyProof.Rows L2
noncomputable def eF (t:aG):aG:=(t.1,-t.2)
theorem FA (h:trim m=m) (hn:m≠[]):aN m (m.length - 1)≠0:=by
 rcases List.eq_nil_or_concat m with rfl | ⟨l,x,rfl⟩
 ·exact absurd rfl hn
 ·rw [List.concat_eq_append] at h |-
  intro z
  have e:aN (l++[x]) ((l++[x]).length - 1)=x:=by
   rw [cu 'p']; simp
  rw [e] at z; subst z
  rw [gM] at h
  have:=dz l
  rw [h,PY,RD] at this
  lia
theorem ze (hl:trim l=l) (hm:trim m=m) (h:∀ i,aN l i=aN m i):l=m:=by
 have key:∀ {l m:List Int},trim m=m->(∀ i,aN l i=aN m i)->m.length<=l.length:=λ{l m} hm h=>by
  rcases Nat.lt_or_ge l.length m.length with z | z
  ·have hn:m≠[]:=by rintro rfl; simp at z
   have:=FA hm hn
   rw [<- h,bR 'l'] at this
   exact absurd rfl this
  ·exact z
 have e:l.length=m.length:=Nat.le_antisymm (key hl λi=>(h i).symm) (key hm h)
 refine V0 e λi h1 h2=>?_
 have:=h i
 rwa [cu h1,cu h2] at this
theorem dB (h:∀ i,aN p i=aN q i):trim p=trim q:=ze (cj p) (cj q) λi=>by rw [bV,bV,h]
theorem zf (a b):trim (bX (trim a) (trim b))=trim (bX a b):=dB λi=>by rw [bF,bF,bV,bV]
theorem uU (a b):trim (bX (trim a) b)=trim (bX a b):=dB λi=>by rw [bF,bF,bV]
theorem uV (a b):trim (bX a (trim b))=trim (bX a b):=dB λi=>by rw [bF,bF,bV]
theorem oM (a b):bX a b=bX b a:=by
 unfold bX; rw [Nat.max_comm]; exact Rq λk _=>TU _ _
theorem Cm (a):trim (bX [] a)=trim a:=dB λi=>by rw [bF,bR (P7 _),UU]
theorem uW (a b c):trim (bX (bX a b) c)=trim (bX a (bX b c)):=dB λi=>by
 rw [bF,bF,bF,bF,Int.add_assoc]
noncomputable def ev (g:List Int->Int):List aG->Int
 | []=>0
 | t::A=>t.2 * g (trim t.1)+ev g A
theorem aW (g) (t) (A):ev g (t::A)=t.2 * g (trim t.1)+ev g A:=rfl
theorem cy (g) (B):∀ A,ev g (A++B)=ev g A+ev g B
 | []=>by simp [ev]
 | t::A=>by rw [R9,aW,aW,cy g B A]; lia
theorem jG (g):∀ A:List aG,ev g (A.map eF)= - ev g A
 | []=>rfl
 | t::A=>by
  rw [Pn,aW,aW,jG g A]
  show -t.2 * g (trim t.1)+_=_
  rw [Int.neg_mul]; lia
theorem Cn (g) (l):∀ B:List aG,ev g (B.map (dG l))=l.2 * ev (λq=>g (trim (bX (trim l.1) q))) B
 | []=>by simp [ev]
 | r::B=>by
  rw [Pn,aW,aW,Cn g l B]
  show l.2 * r.2 * g (trim (bX l.1 r.1))+_=_
  rw [RP,zf,TL]
theorem b9 (g) (B):∀ A:List aG,ev g (av A B)=ev (λp=>ev (λq=>g (trim (bX p q))) B) A
 | []=>rfl
 | l::A=>by
  show ev g (B.map (dG l)++av A B)=_
  rw [cy,Cn,b9 g B A]; rfl
theorem gC (e:∀ p,trim p=p->g p=h p):∀ A,ev g A=ev h A
 | []=>rfl
 | t::A=>by rw [aW,aW,e _ (cj _),gC e A]
theorem Co (g h):∀ A,ev (λp=>g p+h p) A=ev g A+ev h A
 | []=>rfl
 | t::A=>by rw [aW,aW,aW,Co g h A,RP]; lia
theorem Hi (c) (g):∀ A,ev (λp=>c * g p) A=c * ev g A
 | []=>by simp [ev]
 | t::A=>by rw [aW,aW,Hi c g A,RP,Int.mul_left_comm]
theorem xx:∀ A,ev (λ_=>0) A=0
 | []=>rfl
 | t::A=>by rw [aW,xx A]; simp
theorem xy (f:List Int->List Int->Int) (B):∀ A,ev (λp=>ev (λq=>f p q) B) A=ev (λq=>ev (λp=>f p q) A) B
 | []=>by show 0=ev (λ_=>0) B; rw [xx]
 | t::A=>by
  show t.2 * ev (λq=>f (trim t.1) q) B+ev _ A=ev (λq=>t.2 * f (trim t.1) q+ev (λp=>f p q) A) B
  rw [Co,Hi,xy f B A]
def eqv (A B:List aG):Prop:=∀ g,ev g A=ev g B
theorem eqv.rf (A):eqv A A:=λ_=>rfl
theorem eqv.app (h:eqv A A') (k:eqv B B'):eqv (A++B) (A'++B'):=λg=>by rw [cy,cy,h g,k g]
theorem eqv.neg (h:eqv A B):eqv (A.map eF) (B.map eF):=λg=>by rw [jG,jG,h g]
theorem eqv.prod (h:eqv A A') (k:eqv B B'):eqv (av A B) (av A' B'):=λg=>by
 rw [b9,b9,h]; exact gC (λp _=>k _) _
instance trmSetoid:Setoid (List aG):=⟨eqv,⟨eqv.rf,λh g=>(h g).symm,λh k g=>(h g).trans (k g)⟩⟩
noncomputable def MP:Type:=Quotient trmSetoid
noncomputable def mp (A:List aG):MP:=Quotient.mk trmSetoid A
theorem d8:mp A=mp B↔eqv A B:=⟨λh=>Quotient.exact h,λh=>UH h⟩
noncomputable def cT (n:Int):List aG:=[([],n)]
theorem j3 (g) (n):ev g (cT n)=n * g []:=by show n * g (trim [])+0=_; rw [UW]; rfl
noncomputable instance:Add MP:=⟨Quotient.lift₂ (λA B=>mp (A++B)) λ_ _ _ _ h k=>UH (eqv.app h k)⟩
noncomputable instance:Mul MP:=⟨Quotient.lift₂ (λA B=>mp (av A B)) λ_ _ _ _ h k=>UH (eqv.prod h k)⟩
noncomputable instance:Neg MP:=⟨Quotient.lift (λA=>mp (A.map eF)) λ_ _ h=>UH (eqv.neg h)⟩
noncomputable instance:Sub MP:=⟨λa b=>a+ -b⟩
noncomputable instance:NatCast MP:=⟨λn=>mp (cT n)⟩
noncomputable instance:IntCast MP:=⟨λn=>mp (cT n)⟩
noncomputable instance (n:Nat):OfNat MP n:=⟨mp (cT n)⟩
noncomputable instance:SMul Nat MP:=⟨λn a=>(n:MP) * a⟩
noncomputable instance:SMul Int MP:=⟨λn a=>(n:MP) * a⟩
noncomputable def MP.pow (a:MP):Nat->MP
 | 0=>1
 | n+1=>MP.pow a n * a
noncomputable instance:HPow MP Nat MP:=⟨MP.pow⟩
theorem qf (A B):mp (A++B)=mp A+mp B:=rfl
theorem iE (A B):mp (av A B)=mp A * mp B:=rfl
theorem Cp (A):mp (A.map eF)= -mp A:=rfl
theorem JO (A B):mp (A++B.map eF)=mp A - mp B:=rfl
theorem qM {P:MP->Prop} (h:∀ A,P (mp A)) (a:MP):P a:=Quotient.inductionOn a h
theorem JP (g) (A):ev g (av (cT 1) A)=ev g A:=by
 rw [b9,j3,S3]
 exact gC (λp hp=>by rw [Cm,hp]) _
theorem mulC:∀ a b:MP,a * b=b * a:=qM λA=>qM λB=>d8.mpr λg=>by
 rw [b9,b9,xy]
 exact gC (λq _=>gC (λp _=>by rw [oM]) _) _
theorem MA:∀ a:MP,1 * a=a:=qM λA=>d8.mpr λg=>JP g A
theorem Oq:∀ a b:MP,a+b=b+a:=qM λA=>qM λB=>d8.mpr λg=>by rw [cy,cy,TU]
theorem Hj:∀ a b c:MP,(a+b) * c=a * c+b * c:=qM λA=>qM λB=>qM λC=>d8.mpr λg=>by rw [b9,cy,cy,b9,b9]
theorem Hl:∀ a:MP,0 * a=0:=qM λA=>d8.mpr λg=>by
 rw [b9,j3,j3]; show 0 * _=0 * _; rw [Sk,Sk]
noncomputable instance:Lean.Grind.CommRing MP where
 add_zero:=qM λA=>d8.mpr λg=>by rw [cy,j3]; show _+0 * _=_; rw [Sk,UW]
 add_comm:=Oq
 add_assoc:=qM λA=>qM λB=>qM λC=>d8.mpr λg=>by rw [cy,cy,cy,cy,Int.add_assoc]
 mul_assoc:=qM λA=>qM λB=>qM λC=>d8.mpr λg=>by
  rw [b9,b9,b9]
  refine gC (λp _=>?_) _
  rw [b9]
  refine gC (λq _=>gC (λr _=>?_) _) _
  rw [uU,uV,uW]
 mul_one:=λa=>by rw [mulC,MA]
 one_mul:=MA
 left_distrib:=λa b c=>by rw [mulC,Hj,mulC b,mulC c]
 right_distrib:=Hj
 zero_mul:=Hl
 mul_zero:=λa=>by rw [mulC,Hl]
 pow_zero:=λ_=>rfl
 pow_succ:=λ_ _=>rfl
 ofNat_succ:=λn=>d8.mpr λg=>by
  show ev g (cT ((n+1:Nat):Int))=ev g (cT (n:Int)++cT ((1:Nat):Int))
  rw [cy,j3,j3,j3,Int.natCast_add,Q9]
 ofNat_eq_natCast:=λ_=>rfl
 nsmul_eq_natCast_mul:=λ_ _=>rfl
 neg_add_cancel:=qM λA=>d8.mpr λg=>by
  rw [cy,jG,j3]; show _=0 * _; rw [Sk]; lia
 sub_eq_add_neg:=λ_ _=>rfl
 neg_zsmul:=λi=>qM λA=>d8.mpr λg=>by
  show ev g (av (cT (-i)) A)=ev g ((av (cT i) A).map eF)
  rw [jG,b9,b9,j3,j3,Int.neg_mul]
 zsmul_natCast_eq_nsmul:=λ_ _=>rfl
 intCast_ofNat:=λ_=>rfl
 intCast_neg:=λi=>d8.mpr λg=>by
  show ev g (cT (-i))=ev g ((cT i).map eF)
  rw [jG,j3,j3,Int.neg_mul]
 mul_comm:=mulC
theorem JQ (g) (hp:trim p=p) (n) (hk:(A.map (·.1)).Nodup) (ht:∀ t∈A,trim t.1=t.1):ev g (putD A p n)=ev g A+(n - (aM A p).getD 0) * g p:=by
 unfold putD
 split
 ·rename_i h
  induction A with
  | nil=>simp [aM] at h
  | cons t A ih =>
   rw [Pn]
   rw [Pn,QM] at hk
   by_cases e:t.1=p
   ·rw [if_pos e]
    have same:A.map (λkv:aG=>if kv.1=p then (kv.1,n) else kv)=A:=by
     refine (Rq λu hu=>?_).trans (List.map_id A)
     rw [if_neg λz=>hk.1 (by rw [e,<- z]; exact Pz.mpr ⟨u,hu,rfl⟩)]; rfl
    rw [same,bg e]
    rw [aW,aW]
    show n * g (trim t.1)+_=_+(n - t.2) * _
    rw [ht t Pd,e,Int.sub_mul]; lia
   ·rw [if_neg e]
    rw [aW,aW,ih hk.2 (λu hu=>ht u (Ph _ hu)) (by rw [aQ e] at h; exact h),aQ e]; lia
 ·rename_i h
  have e:aM A p=none:=by
   cases e:aM A p with
   | none=>rfl
   | some n=>rw [e] at h; exact absurd rfl h
  rw [cy,e]
  show _+(n * g (trim p)+0)=_+(n - 0) * _
  rw [hp,Int.sub_zero,UW]
theorem FD (ts):eqv (aY ts) ts:=by
 suffices H:∀ (ts A:List aG),(A.map (·.1)).Nodup->(∀ t∈A,trim t.1=t.1)->eqv (ts.foldl gW A) (A++ts) from H ts [] 'p' 'p'
 intro ts
 induction ts with
 | nil=>intro A _ _ g; simp
 | cons t ts ih =>
  intro A hk ht g
  have ih':ev g (ts.foldl gW (gW A t))=ev g (gW A t++ts):=ih _ (sL _ _ hk) (λu hu=>by
   rcases wY hu with e | e
   ·rw [e,cj]
   ·exact ht u e) g
  rw [RJ,ih',cy,cy]
  unfold gW
  rw [JQ g (cj _) _ hk ht]
  show _=_+(t.2 * g (trim t.1)+ev g ts)
  rw [Int.sub_mul,Q9]; lia
theorem FE (g) (h:A.Perm B):ev g A=ev g B:=by
 induction h with
 | nil=>rfl
 | cons x _ ih=>rw [aW,aW,ih]
 | swap x y l=>rw [aW,aW,aW,aW]; lia
 | trans _ _ a b=>rw [a,b]
theorem Cq (g):∀ A:List aG,ev g (nz A)=ev g A
 | []=>rfl
 | t::A=>by
  unfold nz
  by_cases h:t.2=0
  ·rw [Sx (by simp [h])]
   show ev g (nz A)=t.2 * _+_
   rw [Cq g A,h,Sk,UU]
  ·rw [RC (by simp [h])]
   show _+ev g (nz A)=_
   rw [Cq g A]; rfl
theorem Cr (ts):eqv (aR ts) ts:=λg=>by
 show ev g (gX (nz (aY ts)))=_
 rw [FE g (ck _),Cq,FD ts g]
theorem cU (A):mp (aR A)=mp A:=d8.mpr (Cr A)
section
variable {K:O7}
end
end EV
namespace EV
open PySem PySem.Spec PySem.Calls PyProof.Rows L2
structure Nc (prog:Program) (w:World) (L:List Addr) (i:Addr) (N N':Heap->Prop) (x:Value):Prop where
 keep:∀ {b:Addr} {h h':Heap},b∈L->RQ b h h'->N h->N h'
 keep':∀ {b:Addr} {h h':Heap},b∈L->RQ b h h'->N' h->N' h'
 run:∀ {A:Around} {E Q:Value->Shared->Prop} {s:Shared},N s.heap->(∀ h',N' h'->QW i s.heap h'->Q x { s with heap:=h' })->wpAny (model prog w) A (Rf (.ref i)) Q E s
structure Ot (prog:Program) (w:World) (L:List Addr) (i:Addr) (N:Heap->Prop):Prop where
 keep:∀ {b:Addr} {h h':Heap},b∈L->RQ b h h'->N h->N h'
 run:∀ {A:Around} {E Q:Value->Shared->Prop} {s:Shared},A.handled=none->N s.heap->(∀ h' e,RQ i s.heap h'->(∃ o,h'.get? e=some o/\o.cls=.type "StopIteration")->E (.ref e) { s with heap:=h' })->wpAny (model prog w) A (Rf (.ref i)) Q E s
structure MB (z TI TO i1 i2:Addr):Prop where
 a:TI≠z
 b:TO≠z
 c:i1≠z
 d:i2≠z
 e:TI≠TO
 f:TI≠i1
 g:TI≠i2
 h:TO≠i1
 i:TO≠i2
 j:i1≠i2
section
variable {z TI TO i1 i2:Addr}
theorem Cs {Q:Value->Shared->Prop} (D:MB z TI TO i1 i2) (hz:IsZip s.heap z TI TO .none) (hTI:IsPair s.heap TI (.ref i1) (.ref i2)) (hTO:IsPair s.heap TO a b)
 (d1:Nc prog w [z,TO,i2] i1 N1 N1' x) (d2:Nc prog w [z,TO,i1] i2 N2 N2' y) (h1:N1 s.heap) (h2:N2 s.heap)
 (up1:∀ {h h':Heap},(∀ c o,c≠z->h.get? c=some o->h'.get? c=some o)->N1' h->N1' h') (up2:∀ {h h':Heap},(∀ c o,c≠z->h.get? c=some o->h'.get? c=some o)->N2' h->N2' h')
 (q:∀ h',IsZip h' z TI TO (rawInt s.heap.objs.size)->IsPair h' TO x y->N1' h'->N2' h'->IsPair h' s.heap.objs.size x y ->
   (∀ c o,c≠z->c≠TO->c≠i1->c≠i2->s.heap.get? c=some o->h'.get? c=some o)->Q (.ref s.heap.objs.size) { s with heap:=h' }) :
 wpAny (model prog w) A (Builtin.«zip.__next__» ⟨[.ref z],[]⟩) (λfin s'=>∃ v,fin=.done (.ret v)/\Q v s') E s:=by
 refine O6 (m:=field (.ref z) 2) (Qs hz rfl (x:=.bool false) rfl ?_)
 refine O6 (m:=field (.ref z) 3) (Qs hz rfl (x:=.ref TI) rfl (O6 (Rj hTI rfl ?_)))
 refine O6 (m:=T7 (.ref z)) ?_
 unfold T7
 refine O6 (Qs hz rfl (x:=.none) rfl (O8 ?_))
 simp only [if_true]
 refine O6 (Qy (O6 (Qs hz rfl (x:=.ref TO) rfl (O6 (QL hz 'p' λg1 (k1:IsZip g1 z TI TO .ellipsis) b1=>?_)))))
 have c1:=b1.extBut
 refine O6 ?_
 simp only [VX,List.zipIdx_nil,Sf,List.forIn_nil]
 refine O6 (O6 (UK ?_))
 refine O6 (m:=Rf (.ref i1)) (d1.run (d1.keep 'p' c1 h1) λg2 m1 b2=>O8 ?_)
 have c2:=b2.extBut
 have o2:IsPair g2 TO a b:=c2 _ _ D.h (c1 _ _ D.b hTO)
 refine O6 (Rj o2 rfl (O6 (Vu o2 λg3 (o3:IsPair g3 TO x b) b3=>O6 (RN (O8 ?_)))))
 have c3:=b3.extBut
 refine O6 (O6 (UK ?_))
 refine O6 (m:=Rf (.ref i2)) (d2.run (d2.keep 'p' c3 (d2.keep 'p' c2 (d2.keep 'p' c1 h2))) λg4 m2 b4=>O8 ?_)
 have c4:=b4.extBut
 have o4:IsPair g4 TO x b:=c4 _ _ D.i o3
 refine O6 (Rj o4 rfl (O6 (Vu o4 λg5 (o5:IsPair g5 TO x y) b5=>O6 (RN (O8 (O8 ?_))))))
 have c5:=b5.extBut
 refine O6 (Rj o5 rfl (O6 (wpAny_newTuple ?_)))
 have sz:g5.objs.size=s.heap.objs.size:=by rw [b5.1,b4.1,b3.1,b2.1,b1.1]
 have k5:IsZip g5 z TI TO .ellipsis:=c5 _ _ D.b.symm (c4 _ _ D.d.symm (c3 _ _ D.b.symm (c2 _ _ D.c.symm k1)))
 have all:∀ c o,c≠z->c≠TO->c≠i1->c≠i2->s.heap.get? c=some o->g5.get? c=some o:=λc o n1 n2 n3 n4 e=>c5 _ _ n2 (c4 _ _ n4 (c3 _ _ n2 (c2 _ _ n3 (c1 _ _ n1 e))))
 have m1':N1' g5:=d1.keep' 'p' c5 (d1.keep' 'p' c4 (d1.keep' 'p' c3 m1))
 have m2':N2' g5:=d2.keep' 'p' c5 m2
 refine O6 (m:=V3 (.ref z) (.ref g5.objs.size)) ?_
 unfold V3
 have k6:IsZip (g5.push { cls:=.type "tuple",data:=.seq #[x,y] }) z TI TO .ellipsis:=Pe _ k5
 refine O6 (QL k6 'p' λg7 (k7:IsZip g7 z TI TO (rawInt g5.objs.size)) b7=>QL k7 'p' λg8 (k8:IsZip g8 z TI TO (rawInt g5.objs.size)) b8=>?_)
 have up:∀ c o,c≠z->g5.get? c=some o->g8.get? c=some o:=λc o n e=>b8.extBut _ _ n (b7.extBut _ _ n (Pe _ e))
 have nz:g5.objs.size≠z:=Si (Pf k5)
 have p8:IsPair g8 g5.objs.size x y:=b8.extBut _ _ nz (b7.extBut _ _ nz (Pq _ rfl))
 refine O8 ⟨_,rfl,?_⟩
 show Q (.ref g5.objs.size) _
 rw [sz] at k8 p8 |-
 exact q g8 k8 (up _ _ D.b o5) (up1 up m1') (up2 up m2') p8 λc o n1 n2 n3 n4 e=>up c o n1 (all c o n1 n2 n3 n4 e)
theorem FG (hh:A.handled=none) (D:MB z TI TO i1 i2) (hz:IsZip s.heap z TI TO .none) (hTI:IsPair s.heap TI (.ref i1) (.ref i2)) (hTO:IsPair s.heap TO a b)
 (d:Ot prog w [z] i1 N1\/∃ x N1',Nc prog w [z] i1 N1 N1' x/\Ot prog w [z,TO,i1] i2 N2) (h1:N1 s.heap) (h2:N2 s.heap)
 (q:∀ h' e,(∀ c o,c≠z->c≠TO->c≠i1->c≠i2->s.heap.get? c=some o->h'.get? c=some o)->(∃ o,h'.get? e=some o/\o.cls=.type "StopIteration")->E (.ref e) { s with heap:=h' }) :
 wpAny (model prog w) A (Builtin.«zip.__next__» ⟨[.ref z],[]⟩) Q E s:=by
 refine O6 (m:=field (.ref z) 2) (Qs hz rfl (x:=.bool false) rfl ?_)
 refine O6 (m:=field (.ref z) 3) (Qs hz rfl (x:=.ref TI) rfl (O6 (Rj hTI rfl ?_)))
 refine O6 (m:=T7 (.ref z)) ?_
 unfold T7
 refine O6 (Qs hz rfl (x:=.none) rfl (O8 ?_))
 simp only [if_true]
 refine O6 (Qy (O6 (Qs hz rfl (x:=.ref TO) rfl (O6 (QL hz 'p' λg1 (k1:IsZip g1 z TI TO .ellipsis) b1=>?_)))))
 have c1:=b1.extBut
 refine O6 ?_
 simp only [VX,List.zipIdx_nil,Sf,List.forIn_nil]
 refine O6 (O6 (UK ?_))
 refine O6 (m:=Rf (.ref i1)) ?_
 rcases d with d | ⟨x,N1',d1,d2⟩
 ·refine d.run hh (d.keep 'p' c1 h1) λg2 e b2 ⟨oe,e1,e2⟩=>?_
  have k2:IsZip g2 z TI TO .ellipsis:=b2 _ _ D.c.symm k1
  have ne:e≠z:=λu=>by subst u; rw [k2] at e1; cases e1; simp at e2
  exact QL k2 'p' λg3 _ b3=>q g3 e (λc o n1 _ n3 _ u=>b3.extBut _ _ n1 (b2 _ _ n3 (c1 _ _ n1 u))) ⟨oe,b3.extBut _ _ ne e1,e2⟩
 ·refine d1.run (d1.keep 'p' c1 h1) λg2 m1 b2=>O8 ?_
  have c2:=b2.extBut
  have o2:IsPair g2 TO a b:=c2 _ _ D.h (c1 _ _ D.b hTO)
  refine O6 (Rj o2 rfl (O6 (Vu o2 λg3 (o3:IsPair g3 TO x b) b3=>O6 (RN (O8 ?_)))))
  have c3:=b3.extBut
  refine O6 (O6 (UK ?_))
  refine O6 (m:=Rf (.ref i2)) (d2.run hh (d2.keep 'p' c3 (d2.keep 'p' c2 (d2.keep 'p' c1 h2))) λg4 e b4 ⟨oe,e1,e2⟩=>?_)
  have k4:IsZip g4 z TI TO .ellipsis:=b4 _ _ D.d.symm (c3 _ _ D.b.symm (c2 _ _ D.c.symm k1))
  have ne:e≠z:=λu=>by subst u; rw [k4] at e1; cases e1; simp at e2
  exact QL k4 'p' λg5 _ b5=>q g5 e (λc o n1 n2 n3 n4 u=>b5.extBut _ _ n1 (b4 _ _ n4 (c3 _ _ n2 (c2 _ _ n3 (c1 _ _ n1 u))))) ⟨oe,b5.extBut _ _ ne e1,e2⟩
end
structure ZS (K:O7) where
 sq:Hp->Addr->List V->Prop
 it:Heap->Addr->Addr->Nat->Prop
 us:Heap->Addr->Array Value->Prop
 dm:List D->D
 cl:String
 rep:∀ {H:Hp} {ds:List D} {v:V},Rep K H (dm ds) v↔∃ a xs,v=.ref a/\sq H a xs/\ak K H ds xs
 same:∀ {H H':Hp} {a:Addr} {xs:List V},aL H H'->sq H a xs->sq H' a xs
 ini:∀ {h:Heap} {i l:Addr},h.get? i=some { cls:=.type cl,data:=.fields #[.ref l,.int 0 0] }->it h i l 0
 get:∀ {X:Cx} {aa:List (Addr×Obj)} {Z:L2.St} {H:Hp} {s:Shared} {l:Addr} {xs:List V},X.K=K->Inv X aa Z H s->sq H l xs->∃ its,Vals xs its/\us s.heap l its.toArray
 inj:∀ {X:Cx} {aa:List (Addr×Obj)} {Z:L2.St} {H:Hp} {s:Shared} {l:Addr} {xs ys:List V},X.K=K->Inv X aa Z H s->sq H l xs->sq H l ys->xs=ys
 ito:∀ {h:Heap} {i l:Addr} {k:Nat},it h i l k->∃ o,h.get? i=some o/\∀ v,o.data≠.cell v
 itk:∀ {h h':Heap} {i l:Addr} {k:Nat},(∀ o,h.get? i=some o->h'.get? i=some o)->it h i l k->it h' i l k
 usk:∀ {h h':Heap} {l:Addr} {a:Array Value},(∀ o,h.get? l=some o->h'.get? l=some o)->us h l a->us h' l a
 uso:∀ {h:Heap} {l:Addr} {a:Array Value},us h l a->∃ o,h.get? l=some o
 run:∀ {prog:Program} {w:World} {i l:Addr} {a:Array Value} {k:Nat} {x:Value} {A:Around} {E Q:Value->Shared->Prop} {s:Shared},l≠i->a[k]?=some x->it s.heap i l k->us s.heap l a->(∀ h',it h' i l (k+1)->QW i s.heap h'->Q x { s with heap:=h' })->wpAny (model prog w) A (Rf (.ref i)) Q E s
 dry:∀ {prog:Program} {w:World} {i l:Addr} {a:Array Value} {k:Nat} {A:Around} {E Q:Value->Shared->Prop} {s:Shared},A.handled=none->a[k]?=none->it s.heap i l k->us s.heap l a->(∀ h' e,RQ i s.heap h'->(∃ o,h'.get? e=some o/\o.cls=.type "StopIteration")->E (.ref e) { s with heap:=h' })->wpAny (model prog w) A (Rf (.ref i)) Q E s
noncomputable def Ou (K:O7):ZS K where
 sq:=fZ K
 it:=λh i l k=>h.IsListIter i l k
 us:=λh l a=>h.IsList l a
 dm:=.lst
 cl:="list_iterator"
 rep:=bh
 same:=λe q=>e.seq q
 ini:=λe=>⟨_,e,rfl,rfl⟩
 get:=λh I q=>by subst h; obtain ⟨its,rv,p,_⟩:=I.list q; exact ⟨its,rv,p.isList⟩
 inj:=λh I q q'=>by subst h; exact I.kP q q'
 ito:=λ⟨o,e,_,d⟩=>⟨o,e,λv q=>by rw [d] at q; cases q⟩
 itk:=λk t=>t.at λo e=>k o e
 usk:=λk ⟨o,e,r⟩=>⟨o,k o e,r⟩
 uso:=λ⟨o,e,_⟩=>⟨o,e⟩
 run:=λ_ hx t u q=>wpAny_nextOf_list_item t u hx q
 dry:=λhh hx t u q=>wpAny_nextOf_list_end hh t u hx q
section
variable {prog:Program} {w:World} {E:Value->Shared->Prop} {s:Shared} {K:O7} {i l:Addr} {us:Array Value} {k:Nat} {L:List Addr}
def ZS.At (A:ZS K) (i l:Addr) (us:Array Value) (k:Nat) (h:Heap):Prop:=A.it h i l k/\A.us h l us
theorem ZS.At.keep {A:ZS K} (t:A.At i l us k h) (e:RQ b h h') (n1:i≠b) (n2:l≠b):A.At i l us k h':=⟨A.itk (λo=>e _ o n1) t.1,A.usk (λo=>e _ o n2) t.2⟩
theorem Ct {A:ZS K} {x:Value} (hL:∀ b∈L,i≠b/\l≠b) (hil:l≠i) (hx:us[k]?=some x):Nc prog w L i (A.At i l us k) (A.At i l us (k+1)) x where
 keep:=λhb e t=>t.keep e (hL _ hb).1 (hL _ hb).2
 keep':=λhb e t=>t.keep e (hL _ hb).1 (hL _ hb).2
 run:=λt q=>A.run hil hx t.1 t.2 λh' a b=>q h' ⟨a,A.usk (λo=>b.extBut _ o hil) t.2⟩ b
theorem Ho {A:ZS K} (hL:∀ b∈L,i≠b/\l≠b) (hx:us[k]?=none):Ot prog w L i (A.At i l us k) where
 keep:=λhb e t=>t.keep e (hL _ hb).1 (hL _ hb).2
 run:=λhh t q=>A.dry hh hx t.1 t.2 q
theorem O3 {z TI TO i1 i2 l1 l2:Addr} (D:ZipApart z TI TO i1 i2 l1 l2):∀ b∈[z,TO,i2],i1≠b/\l1≠b:=by
 intro b hb
 simp only [Pg,QI,or_false] at hb
 rcases hb with rfl | rfl | rfl
 ·exact ⟨D.i1z,D.l1z⟩
 ·exact ⟨D.TOi1.symm,D.l1TO⟩
 ·exact ⟨D.i12,D.l1i2⟩
theorem OL {z TI TO i1 i2 l1 l2:Addr} (D:ZipApart z TI TO i1 i2 l1 l2):∀ b∈[z,TO,i1],i2≠b/\l2≠b:=by
 intro b hb
 simp only [Pg,QI,or_false] at hb
 rcases hb with rfl | rfl | rfl
 ·exact ⟨D.i2z,D.l2z⟩
 ·exact ⟨D.TOi2.symm,D.l2TO⟩
 ·exact ⟨D.i12.symm,D.l2i1⟩
theorem OM {z TI TO i1 i2 l1 l2:Addr} (D:ZipApart z TI TO i1 i2 l1 l2):∀ b∈[z],i1≠b/\l1≠b:=by
 intro b hb
 cases Pk.mp hb
 exact ⟨D.i1z,D.l1z⟩
variable {B C:ZS K}
theorem zg {z TI TO i1 i2 l1 l2:Addr} (D:ZipApart z TI TO i1 i2 l1 l2)
 (hz:IsZip s.heap z TI TO .none) (hTI:IsPair s.heap TI (.ref i1) (.ref i2)) (hTO:IsPair s.heap TO a b) (h1:B.At i1 l1 xs k s.heap) (h2:C.At i2 l2 ys k s.heap) (hx:xs[k]?=some x) (hy:ys[k]?=some y)
 (q:∀ h',IsZip h' z TI TO (rawInt s.heap.objs.size)->IsPair h' TO x y->B.At i1 l1 xs (k+1) h'->C.At i2 l2 ys (k+1) h'->IsPair h' s.heap.objs.size x y ->
   (∀ c o,c≠z->c≠TO->c≠i1->c≠i2->s.heap.get? c=some o->h'.get? c=some o)->Q (some (.ref s.heap.objs.size)) { s with heap:=h' }):wpAny (model prog w) A (pyNext (.ref z)) Q E s:=by
 have hT:s.TypeIs (.ref z) "zip":=⟨_,hz,rfl⟩
 have up:∀ {B:ZS K} {i l:Addr} {us:Array Value} {k:Nat},i≠z->l≠z->∀ {h h':Heap},(∀ c o,c≠z->h.get? c=some o->h'.get? c=some o)->B.At i l us k h->B.At i l us k h':=λ{B} {_} {_} {_} {_} n1 n2 h h' e t=>⟨B.itk (λo=>e _ o n1) t.1,B.usk (λo=>e _ o n2) t.2⟩
 unfold pyNext
 exact O6 (Sg (RB (name:=O5 "__next__") hT UC
  (Q3 UC hT F.entry_zip_next
    (Cs ⟨D.TIz,D.TOz,D.i1z,D.i2z,D.TITO,D.TIi1,D.TIi2,D.TOi1,D.TOi2,D.i12⟩ hz hTI hTO
      (Ct (O3 D) D.l1i1 hx) (Ct (OL D) D.l2i2 hy) h1 h2
      (up D.i1z D.l1z) (up D.i2z D.l2z) λh' a1 a2 a3 a4 a5 a6=>O8 (q h' a1 a2 a3 a4 a5 a6)) (F.args_zip_next_1 _))))
theorem zh {z TI TO i1 i2 l1 l2:Addr} (hh:A.handled=none) (D:ZipApart z TI TO i1 i2 l1 l2)
 (hz:IsZip s.heap z TI TO .none) (hTI:IsPair s.heap TI (.ref i1) (.ref i2)) (hTO:IsPair s.heap TO a b) (h1:B.At i1 l1 xs k s.heap) (h2:C.At i2 l2 ys k s.heap) (hend:xs.size<=k\/ys.size<=k)
 (q:∀ h',(∀ c o,c≠z->c≠TO->c≠i1->c≠i2->s.heap.get? c=some o->h'.get? c=some o)->Q none { s with heap:=h' }):wpAny (model prog w) A (pyNext (.ref z)) Q E s:=by
 have hT:s.TypeIs (.ref z) "zip":=⟨_,hz,rfl⟩
 unfold pyNext
 refine O6 (Sg (RB (name:=O5 "__next__") hT UC
  (Q3 UC hT F.entry_zip_next (FG (N1:=B.At i1 l1 xs k) (N2:=C.At i2 l2 ys k) hh ⟨D.TIz,D.TOz,D.i1z,D.i2z,D.TITO,D.TIi1,D.TIi2,D.TOi1,D.TOi2,D.i12⟩ hz hTI hTO ?_ h1 h2 λh' e hk he=>?_) (F.args_zip_next_1 _))))
 ·by_cases z:k<xs.size
  ·exact .inr ⟨_,_,Ct (OM D) D.l1i1 (PV z),Ho (OL D) (Vq 'l')⟩
  ·exact .inl (Ho (OM D) (Vq 'l'))
 ·obtain ⟨o,ho,hc⟩:=he
  refine O6 (Uz (T:="StopIteration") (b:=true) ⟨o,ho,hc⟩ isSubtype_stop ?_)
  exact O8 (q _ hk)
end
noncomputable def JR {K:O7} (B C:ZS K) (l1 l2:Addr):It :=
 ⟨λi H=>∃ xs ys x y,B.sq H l1 xs/\C.sq H l2 ys/\xs[i]?=some x/\ys[i]?=some y,
  λi H v H'=>∃ p x y,v=.ref p/\H p=none/\H'=upd H p (.tup [x,y])/\(∀ xs,B.sq H l1 xs->xs[i]?=some x)/\∀ ys,C.sq H l2 ys->ys[i]?=some y,
  λi H=>∃ xs ys,B.sq H l1 xs/\C.sq H l2 ys/\(xs.length<=i\/ys.length<=i)⟩
theorem zj {P:Program} {w:World} {K:O7} {B C:ZS K} {elts:List Expr} {k:Nat} {pos:Pos} {z TI TO i1 i2 l1 l2:Addr} (D:ZipApart z TI TO i1 i2 l1 l2) :
 Turn P w K (.Tuple elts k pos) (JR B C l1 l2) [z,TI,TO,i1,i2] z (λi h=>IsZip h z TI TO .none/\IsPair h TI (.ref i1) (.ref i2)/\(∃ a b,IsPair h TO a b)/\B.it h i1 l1 i/\C.it h i2 l2 i) where
 mem:=by simp
 obj:=λi h ⟨hz,hTI,⟨a,b,hTO⟩,h1,h2⟩ b hb=>by
  simp only [Pg,QI,or_false] at hb
  rcases hb with rfl | rfl | rfl | rfl | rfl
  ·exact ⟨_,hz,λv q=>by have q':TY _=So v:=q; cases q'⟩
  ·exact ⟨_,hTI,λv q=>by have q':Data.seq _ _=So v:=q; cases q'⟩
  ·exact ⟨_,hTO,λv q=>by have q':Data.seq _ _=So v:=q; cases q'⟩
  ·exact B.ito h1
  ·exact C.ito h2
 keep:=λi h h' ⟨hz,hTI,⟨a,b,hTO⟩,h1,h2⟩ hk=>⟨hk z 'p' _ hz,hk TI 'p' _ hTI,⟨a,b,hk TO 'p' _ hTO⟩,B.itk (hk i1 'p') h1,C.itk (hk i2 'p') h2⟩
 item:=by
  intro X hP hw hK hc i aa s Z H E I hf st hg
  obtain ⟨hz,hTI,⟨a,b,hTO⟩,h1,h2⟩:=st
  obtain ⟨xs,ys,x,y,q1,q2,hx,hy⟩:=hg
  obtain ⟨MZ,Nm,p1⟩:=B.get hK I q1
  obtain ⟨its2,M0,p2⟩:=C.get hK I q2
  subst hP hw
  obtain ⟨u1,hu1,ru1⟩:=Nm.get hx
  obtain ⟨u2,hu2,ru2⟩:=M0.get hy
  refine zg D hz hTI hTO ⟨h1,p1⟩ ⟨h2,p2⟩ (x:=u1) (y:=u2) (by simpa using hu1) (by simpa using hu2) λh' a1 a2 a3 a4 a5 hk=>?_
  have Hp:H s.heap.objs.size=none:=I.hok.fresh (O9 _)
  have IA:Inv X aa Z (upd H s.heap.objs.size (.tup [x,y])) { s with heap:=s.heap.push { cls:=.type "tuple",data:=.seq #[u1,u2] },toks:=s.toks } :=
   I.laid (a:=s.heap.objs.size) (o:=.tup [x,y]) (λ_ _ q=>Pe _ q) (O9 _) ⟨by show 2<=sizeLine; decide,[u1,u2],.cons ru1 (.cons ru2 .nil),_,Pq _ rfl,rfl,0,rfl⟩
  have lt:∀ b∈[z,TI,TO,i1,i2],b<s.heap.objs.size:=λb hb=>by
   obtain ⟨o1,e1,_⟩:=B.ito h1
   obtain ⟨o2,e2,_⟩:=C.ito h2
   simp only [Pg,QI,or_false] at hb
   rcases hb with rfl | rfl | rfl | rfl | rfl
   ·exact Pf hz
   ·exact Pf hTI
   ·exact Pf hTO
   ·exact Pf e1
   ·exact Pf e2
  have gf:∀ b∈[z,TI,TO,i1,i2],dQ X aa (upd H s.heap.objs.size (.tup [x,y])) b:=λb hb=>⟨by rw [ai (PJ (lt b hb))]; exact (hf b hb).1,(hf b hb).2⟩
  have I1:Inv X aa Z (upd H s.heap.objs.size (.tup [x,y])) { s with heap:=h',toks:=s.toks }:=gO (s:={ s with heap:=s.heap.push { cls:=.type "tuple",data:=.seq #[u1,u2] },toks:=s.toks }) (t':=s.toks) (h':=h') (L:=[z,TI,TO,i1,i2]) IA (λb o hb q=>by
   simp only [Pg,QI,or_false,not_or] at hb
   by_cases e:b=s.heap.objs.size
   ·subst e
    rw [Pq _ rfl] at q; cases q; exact a5
   ·refine hk b o hb.1 hb.2.2.1 hb.2.2.2.1 hb.2.2.2.2 ?_
    rw [VT _ _ _ e] at q; exact q) gf
  have b1:IsPair h' TI (.ref i1) (.ref i2):=hk _ _ D.TIz D.TITO D.TIi1 D.TIi2 hTI
  refine ⟨_,rfl,wpAny_letOwnedTupleGo_zip (s:={ s with heap:=h' }) a1 λh2' hz' hs'=>?_⟩
  refine ⟨.ref s.heap.objs.size,_,gO (s:={ s with heap:=h',toks:=s.toks }) (t':=s.toks) (h':=h2') (L:=[z,TI,TO,i1,i2]) I1 (λb o hb q=>hs'.extBut b o (λe=>hb (by simp [e])) q) gf,rfl,
   ⟨_,x,y,rfl,Hp,rfl,λxs' h=>by rw [B.inj hK I h q1]; exact hx,λys' h=>by rw [C.inj hK I h q2]; exact hy⟩,
   ⟨hz',hs'.extBut _ _ D.TIz b1,⟨_,_,hs'.extBut _ _ D.TOz a2⟩,B.itk (λo=>hs'.extBut _ o D.i1z) a3.1,C.itk (λo=>hs'.extBut _ o D.i2z) a4.1⟩,λb hb=>(gf b hb).1⟩
 done:=by
  intro X hP hw hK hc i aa s Z H E I hf st hg
  obtain ⟨hz,hTI,⟨a,b,hTO⟩,h1,h2⟩:=st
  obtain ⟨xs,ys,q1,q2,hend⟩:=hg
  obtain ⟨MZ,Nm,p1⟩:=B.get hK I q1
  obtain ⟨its2,M0,p2⟩:=C.get hK I q2
  subst hP hw
  have l1:=Nm.length
  have l2:=M0.length
  refine zh (I.ok.hd hc) D hz hTI hTO ⟨h1,p1⟩ ⟨h2,p2⟩ (by simp; lia) λh' hk=>⟨rfl,gO (t':=s.toks) (L:=[z,TI,TO,i1,i2]) I (λb o hb q=>?_) hf⟩
  simp only [Pg,QI,or_false,not_or] at hb
  exact hk b o hb.1 hb.2.2.1 hb.2.2.2.1 hb.2.2.2.2 q
 self:=λA i s Q E st h=>wpAny_pyIter_zip st.1 h
theorem zk {K:O7} {B C:ZS K} {Hf:Hp} {ds es:List D} {xs ys:List V} {l1 l2:Addr} (h1:B.sq Hf l1 xs) (r1:ak K Hf ds xs) (h2:C.sq Hf l2 ys) (r2:ak K Hf es ys):jw K (JR B C l1 l2) (qb ds es) Hf where
 go:=λi d H aP s1 s2 e=>by
  unfold qb at e
  rw [List.getElem?_zipWith_eq_some] at e
  obtain ⟨x,y,ex,ey,rfl⟩:=e
  obtain ⟨v1,f1,g1⟩:=r1.get ex
  obtain ⟨v2,f2,g2⟩:=r2.get ey
  have q1:=B.same (s1.trans s2) h1
  have q2:=C.same (s1.trans s2) h2
  refine ⟨⟨xs,ys,v1,v2,q1,q2,f1,f2⟩,λv H' ⟨p,x',y',e1,e2,e3,e4,e5⟩=>?_⟩
  have z1:=e4 xs q1
  have z2:=e5 ys q2
  rw [f1] at z1; cases z1
  rw [f2] at z2; cases z2
  subst e1 e3
  have g:=bz.new s2 e2 (o:=.tup [v1,v2])
  exact ⟨upd aP p (.tup [v1,v2]),g,aI.mpr ⟨p,_,rfl,.inl (.inl ah),.cons (Rep.mono (s1.trans g.f) _ g1) (.cons (Rep.mono (s1.trans g.f) _ g2) (aA.mpr rfl))⟩⟩
 stop:=λi H aP s1 s2 e=>⟨xs,ys,B.same (s1.trans s2) h1,C.same (s1.trans s2) h2,by
  rw [<- r1.length,<- r2.length]
  unfold qb at e
  rw [List.length_zipWith] at e
  lia⟩
noncomputable abbrev ON (c:String) (h:Heap) (l:Addr):Heap:=h.push { cls:=.type c,data:=.fields #[.ref l,.int 0 0] }
noncomputable abbrev OO (h:Heap) (a b:Value):Heap:=h.push { cls:=.type "tuple",data:=.seq #[a,b] }
section
variable (c d:String)
noncomputable abbrev Nd (h:Heap) (l1 _l2:Addr):Heap:=ON c h l1
noncomputable abbrev MC (h:Heap) (l1 l2:Addr):Heap:=ON d (Nd c h l1 l2) l2
noncomputable abbrev Ng (h:Heap) (l1 l2:Addr):Heap:=OO (MC c d h l1 l2) (.ref h.objs.size) (.ref (Nd c h l1 l2).objs.size)
noncomputable abbrev Nh (h:Heap) (l1 l2:Addr):Heap:=OO (Ng c d h l1 l2) .none .none
noncomputable abbrev Hq (h:Heap) (l1 l2:Addr):Heap:=(Nh c d h l1 l2).push { cls:=.type "zip",data:=.fields #[.none,.bool false,.bool false,.ref (MC c d h l1 l2).objs.size,.ref (Ng c d h l1 l2).objs.size] }
end
abbrev FH {K:O7} (B C:ZS K):Prop:=∀ (l1 l2:Addr) (xs ys:Array Value),Meets (Builtin.«zip.__new__» ⟨[.type "zip",.ref l1,.ref l2],[]⟩) (λ_ R s=>B.us s.heap l1 xs/\C.us s.heap l2 ys/\R (.ok (.ret (.ref (Nh B.cl C.cl s.heap l1 l2).objs.size))) { s with heap:=Hq B.cl C.cl s.heap l1 l2 })
theorem Cu (K):FH (Ou K) (Ou K):=λl1 l2 xs ys =>
 .of_wp λprog w A R s h=>by
  obtain ⟨hp,g,d,tk,os⟩:=s
  obtain ⟨e1,e2,h⟩:=h
  have hsub:=PySem.sub_zip
  have t1:Heap.IsList (Shared.heap ⟨hp,g,d,tk,os⟩) l1 xs:=e1
  have t2:Heap.IsList (Shared.heap ⟨hp.push { cls:=.type "list_iterator",data:=.fields #[.ref l1,.int 0 0] },g,d,tk,os⟩) l2 ys:=(Ou K).usk (λo e=>Pe _ e) e2
  wp_walk using R6 t1,R6 t2
  exact ⟨_,rfl,h⟩
section
variable {K:O7}
theorem zl (M:FH B C) (e1:B.us s.heap l1 xs) (e2:C.us s.heap l2 ys)
 (h:∀ h',IsZip h' (s.heap.objs.size+4) (s.heap.objs.size+2) (s.heap.objs.size+3) .none->IsPair h' (s.heap.objs.size+2) (.ref s.heap.objs.size) (.ref (s.heap.objs.size+1)) ->
   IsPair h' (s.heap.objs.size+3) .none .none->B.it h' s.heap.objs.size l1 0->C.it h' (s.heap.objs.size+1) l2 0 ->
   (∀ c o,s.heap.get? c=some o->h'.get? c=some o)->Q (.ref (s.heap.objs.size+4)) { s with heap:=h' }):wpAny (model prog w) A (call (.type "zip") [.ref l1,.ref l2]) Q E s:=by
 refine callType_new F.called_zip 'd' (F.typeCall_zip_2 _ _) (F.newCall_zip_2 _ _) (λobj=>F.args_object_init_3 obj _ _) F.entry_zip_new (M l1 l2 xs ys) ⟨e1,e2,?_⟩
 have z1:(Nd B.cl s.heap l1 l2).objs.size=s.heap.objs.size+1:=Q7 ..
 have z2:(MC B.cl C.cl s.heap l1 l2).objs.size=s.heap.objs.size+2:=by rw [Q7,z1]
 have z3:(Ng B.cl C.cl s.heap l1 l2).objs.size=s.heap.objs.size+3:=by rw [Q7,z2]
 have z4:(Nh B.cl C.cl s.heap l1 l2).objs.size=s.heap.objs.size+4:=by rw [Q7,z3]
 have g5:(Hq B.cl C.cl s.heap l1 l2).get? (Nh B.cl C.cl s.heap l1 l2).objs.size=some _:=Pq _ rfl
 have g4:(Hq B.cl C.cl s.heap l1 l2).get? (Ng B.cl C.cl s.heap l1 l2).objs.size=some _:=Pe _ (Pq _ rfl)
 have g3:(Hq B.cl C.cl s.heap l1 l2).get? (MC B.cl C.cl s.heap l1 l2).objs.size=some _:=Pe _ (Pe _ (Pq _ rfl))
 have g2:(Hq B.cl C.cl s.heap l1 l2).get? (Nd B.cl s.heap l1 l2).objs.size=some _:=Pe _ (Pe _ (Pe _ (Pq _ rfl)))
 have g1:(Hq B.cl C.cl s.heap l1 l2).get? s.heap.objs.size=some _:=Pe _ (Pe _ (Pe _ (Pe _ (Pq _ rfl))))
 have q:=h (Hq B.cl C.cl s.heap l1 l2)
 rw [<- z2,<- z3,<- z4] at q
 have pr:IsPair (Hq B.cl C.cl s.heap l1 l2) (MC B.cl C.cl s.heap l1 l2).objs.size (.ref s.heap.objs.size) (.ref (s.heap.objs.size+1)):=by rw [<- z1]; exact g3
 refine ⟨⟨_,g5,rfl⟩,q g5 pr g4 (B.ini g1) (C.ini (by rw [<- z1]; exact g2)) λc o x=>Pe _ (Pe _ (Pe _ (Pe _ (Pe _ x))))⟩
end
theorem apart_new {n l1 l2:Nat} (h1:l1<n) (h2:l2<n):ZipApart (n+4) (n+2) (n+3) n (n+1) l1 l2:=by
 constructor <;> first | exact PJ 'l' | exact Si 'l'
noncomputable def MD {K:O7} (B C:ZS K) (ta:TA):TI:=λZ H R=>ta Z H λvs H1=>∃ l1 l2 xs ys,vs=[.ref l1,.ref l2]/\B.sq H1 l1 xs/\C.sq H1 l2 ys/\R (JR B C l1 l2) H1
theorem FI {B C:ZS X.K} (M:FH B C) (hg:Gl X "zip") (hm:X.mg "zip"=none) (ha:PA X [a,b] ta) (hs:starEach [a,b] X.env=[(false,eval a X.env),(false,eval b X.env)]) (hs2:starEach [b] X.env=[(false,eval b X.env)]) :
 PI X (.Tuple elts kt tpos) (.Call (.Name "zip" p) [a,b] [] pos) (MD B C ta):=by
 intro aa s Z H R I h
 refine Call_ (cX I hg hm EV.boot_zip (Tg (bL (ha pos aa s Z H _ I h) λus s1 ⟨vs,H1,I1,r1,q1⟩=>?_) (by rw [hs,hs2]) (by rw [hs2]; rfl)))
 obtain ⟨l1,l2,xs,ys,e,q1,q2,q⟩:=q1
 subst e
 cases r1 with
 | cons r rr =>
  cases rr with
  | cons r' rr =>
   cases rr
   cases r
   cases r'
   obtain ⟨MZ,Nm,p1⟩:=B.get rfl I1 q1
   obtain ⟨its2,M0,p2⟩:=C.get rfl I1 q2
   have b1:l1<s1.heap.objs.size:=by obtain ⟨_,e⟩:=B.uso p1; exact Pf e
   have b2:l2<s1.heap.objs.size:=by obtain ⟨_,e⟩:=C.uso p2; exact Pf e
   refine zl M p1 p2 λh' a1 a2 a3 a4 a5 hk=>wpAny_pyIter_zip a1 ?_
   refine ⟨s1.heap.objs.size+4,[s1.heap.objs.size+4,s1.heap.objs.size+2,s1.heap.objs.size+3,s1.heap.objs.size,s1.heap.objs.size+1],_,_,H1,rfl,I1.kept (t':=s1.toks) hk,zj (apart_new b1 b2),⟨a1,a2,⟨_,_,a3⟩,a4,a5⟩,λb hb=>?_,q⟩
   have hb':s1.heap.objs.size<=b:=by
    simp only [Pg,QI,or_false] at hb
    rcases hb with rfl | rfl | rfl | rfl | rfl
    ·exact RI _ _
    ·exact RI _ _
    ·exact RI _ _
    ·exact O9 _
    ·exact RI _ _
   exact I1.jr hb' (I1.hok.fresh hb')
section
variable {K:O7} {c:Ctx P w K mg base k N sc bk}
theorem JS {B C:ZS c.X.K} (M:FH B C) (hm:mg "zip"=none) (h:aB c a Y λx=>aB c b Y λy=>∃ ds es,x=B.dm ds/\y=C.dm es/\R (qb ds es)) (hg:sc.names.lookup (O5 "zip")=some .globalImplicit:=by rfl')
 (hs:∀ env,starEach [a,b] env=(false,eval a env)::starEach [b] env:=by symm) (hs2:∀ env,starEach [b] env=(false,eval b env)::starEach [] env:=by symm):zU c (.Tuple elts kt tpos) (.Call (.Name "zip" p) [a,b] [] pos) Y R:=λZ H Hf Q S q aa s I =>
 FI M (by unfold Gl P6; rw [c.esc]; exact hg) (by rw [c.emg]; exact hm) (bC cI (bC cI cM (hs2 _)) (hs _)) (by rw [hs,hs2]; rfl) (by rw [hs2]; rfl) aa s Z H Q I
  (h Z H Hf _ S λx v1 H1 aP h1 r1 g1=>h1 Z H1 aP _ (S.cD g1) λy v2 H2 cL ⟨ds,es,e1,e2,hR⟩ r2 g2=>by
    subst e1 e2
    rw [B.rep] at r1
    rw [C.rep] at r2
    obtain ⟨l1,xs,rfl,s1,t1⟩:=r1
    obtain ⟨l2,ys,rfl,s2,t2⟩:=r2
    have s1':=B.same g2.f s1
    exact ⟨l1,l2,xs,ys,rfl,B.same g2.b s1',C.same g2.b s2,q _ _ H2 cL hR (g1.trans g2) (zk s1' (t1.mono g2.f) s2 t2)⟩)
theorem Hr (hm:mg "zip"=none) (h:aB c a Y λx=>aB c b Y λy=>∃ ds es,x=.lst ds/\y=.lst es/\R (qb ds es)) (hg:sc.names.lookup (O5 "zip")=some .globalImplicit:=by rfl')
 (hs:∀ env,starEach [a,b] env=(false,eval a env)::starEach [b] env:=by symm) (hs2:∀ env,starEach [b] env=(false,eval b env)::starEach [] env:=by symm):zU c (.Tuple elts kt tpos) (.Call (.Name "zip" p) [a,b] [] pos) Y R:=JS (Cu _) hm h hg hs hs2
end
section
open PySem in
end
section
variable {X:Cx} {aa:List (Addr×Obj)} {Z:L2.St} {H Hf:Hp} {s:Shared} {E:Value->Shared->Prop} {α:Type} {enc:α->D} {lt:α->α->Bool} {U:SortKind}
structure ME (X:Cx) (enc:α->D) (lt:α->α->Bool) (U:SortKind) (L:List α):Prop where
 lin:SR.Jr lt L
 inj:∀ (aa:List (Addr×Obj)) (Z:L2.St) (H Hf:Hp) (s:Shared),Inv X aa Z H s->aL Hf H->∀ x y u,kG X.K Hf (enc x) u->kG X.K Hf (enc y) u->x=y
 kind:∀ (aa:List (Addr×Obj)) (Z:L2.St) (H Hf:Hp) (s:Shared) (A:Around) (E:Value->Shared->Prop),Inv X aa Z H s->aL Hf H->∀ us:List Value,Paired (λx u=>kG X.K Hf (enc x) u) L us->2<=us.length->∀ Q:SortKind->Shared->Prop,Q U s->wpAny (model X.prog X.w) A (keyKind' us.toArray) Q E s
 cmp:∀ (aa:List (Addr×Obj)) (Z:L2.St) (H Hf:Hp) (s:Shared) (A:Around) (E:Value->Shared->Prop),Inv X aa Z H s->aL Hf H->A.units+10<cLine->∀ (x y:α) (u v:Value),kG X.K Hf (enc x) u->kG X.K Hf (enc y) v->∀ Q:Bool->Shared->Prop,Q (lt x y) s->wpAny (model X.prog X.w) A (keyLt' U u v) Q E s
theorem zm {Q:Value->Shared->Prop} (hs:ME X enc lt U L) (I:Inv X aa Z H s) (sb:aL Hf H) (hA:A.units+20<cLine) (hr:ak X.K Hf (L.map enc) xs) (hv:Vals xs us) (hz:us.length<=sizeLine) (nd:L.Nodup)
 (hkw:∀ l,Builtin.«list.sort» ⟨[.ref l],kw⟩=Builtin.«list.sort» ⟨[.ref l],[(O5 "reverse",.bool b)]⟩) (hka:∀ l,argsOk "list.sort" ⟨[.ref l],kw⟩)
 (hQ:∀ (L':List α) (xs':List V) (s':Shared),L'.Perm L->gu lt b L'->ak X.K Hf (L'.map enc) xs'->xs'.length<=sizeLine->Inv X aa Z (upd H s.heap.objs.size (.lst xs')) s'->Q (.ref s.heap.objs.size) s') :
 wpAny (model X.prog X.w) A (newList us >>= λl=>(holding [l] (call (.builtin "list.sort") [l] kw) >>= λ_=>ret l)) (λfin s'=>∃ v,fin=.done (.ret v)/\Q v s') E s:=by
 refine O6 (UL ?_ hz)
 have ha:(s.heap.push (seqObj "list" us.toArray 0)).get? s.heap.objs.size=some (seqObj "list" us.toArray 0):=Pq _ rfl
 have I1:Inv X aa Z H { s with heap:=s.heap.push (seqObj "list" us.toArray 0),toks:=s.toks }:=I.kept λb o e=>Pe _ e
 have Ha:H s.heap.objs.size=none:=I.hok.fresh (O9 _)
 obtain ⟨f0,f1,f2,f3,f4,f5⟩:=I.jr (H':=H) (O9 _) Ha
 have pL:=l5 hr hv
 refine O6 (Qw (wpAny_call_entry_kw slot_list_sort ⟨_,ha,rfl⟩ entry_list_sort (by
  rw [hkw]
  refine SR.oh (U:=U) (rk:=SR.yQ (λx u=>kG X.K Hf (enc x) u) lt L) (b:=b) ha ?_ hz λout hp ho=>⟨_,rfl,?_⟩
  ·intro h' k
   have I2:=I1.turned (h':=h') (t':=s.toks) (it:=s.heap.objs.size) (λb o hb e=>k b o hb e) f0 f1 f3 f4 f5
   refine ⟨λQ E h2 hQ=>hs.kind _ _ _ _ _ _ _ I2 sb _ pL h2 _ hQ,SR.BQ (λx y u h1 h2=>hs.inj _ _ _ _ _ I2 sb x y u h1 h2) hs.lin pL λx _ y _ u v hx hy E Q hQ=>hs.cmp _ _ _ _ _ _ _ I2 sb ?_ _ _ _ _ hx hy _ hQ⟩
   show A.units+1+10<cLine
   lia
  ·obtain ⟨L',p1,p2,p3⟩:=SR.sG (S:=λx u=>kG X.K Hf (enc x) u) (λx y u h1 h2=>hs.inj _ _ _ _ _ I sb x y u h1 h2) hs.lin nd pL hp ho
   obtain ⟨xs',r',v'⟩:=l7 p3
   obtain ⟨e,he⟩:=sortedHeap_at (vs:=us) (out:=out) ha
   have hl:out.toList.length=us.length:=hp.length_eq
   refine O8 ⟨_,rfl,hQ L' xs' _ p1 p2 r' ?_ ?_⟩
   ·have:=v'.length; lia
   ·refine I.laid (t':=s.toks) (λb o q=>?_) (O9 _) ⟨by have:=v'.length; lia,out.toList,e,v',by simpa using he⟩
    have lt:=Pf q
    rw [sortedHeap_old (PJ lt) (by rw [size_push']; exact Us lt)]
    exact Pe _ q) (hka _)))
end
theorem nq:argsOk "sorted" ⟨[a],[]⟩:=by unfold argsOk; kernel_rfl
theorem args_list_sort_1:argsOk "list.sort" ⟨[a],[]⟩:=by unfold argsOk; kernel_rfl
section
variable {K:O7}
end
section
variable {K:O7}
end
section
variable {K:O7}
theorem xA {st:List Stmt} (i) (hi:At Y i r) (hr:r=.va d0\/r.iT=some d0) (hs:SSet Y i (.va d0) Y') (h:aU c st Y' nx p):aU c st Y nx p:=by
 rcases hr with rfl | hr
 ·have e:Y'=Y:=by
   rw [hs.eq]
   refine Tq λj=>?_
   rw [List.getElem?_set]
   split
   ·rename_i e
    subst e
    have g:=hi.get
    rw [g,if_pos (Po.mp g).1]
   ·rfl
  rw [<- e]; exact h
 ·exact cB i hi hr hs h
end
theorem FJ
 (hx:s.heap.get? a=some o) (hc:o.cls=.type "list") (hdat:o.data=.seq xs k) (hd:o.dict=none) (hA:A.handled=none)
 (h:∀ h' tk,(∀ b ob,s.heap.get? b=some ob->h'.get? b=some ob)->Q none { s with heap:=h',toks:=tk }):wpAny (model prog w) A (getAttr? (.ref a) "keys") Q E s:=by
 obtain ⟨c,dct,dat,sl⟩:=o
 simp only at hc hdat hd
 subst hc hdat hd
 obtain ⟨hp,g,d,tk,os⟩:=s
 have hT:∀ tk',(⟨hp,g,d,tk',os⟩:Shared).TypeIs (.ref a) "list":=λ_=>⟨_,hx,rfl⟩
 have hmiss:typeLookup (.type "list") "keys"=pure none:=am_miss_of_fast (by decide +kernel)
 have f1:=sub_AttributeError
 have f3:=Ve.lookup
 have f4:=Ve.bind (.ref a)
 have f5:=am_list_getattr_none
 unfold getAttr? getAttrBy? getAttrBy
 repeat (any_goals (first | assumption | exact hT _ | ((with_reducible show wpAny _ _ (call (Value.builtin "list.__getattribute__") _ _) _ _ _); refine Sm Ve (hT _) am_entry_list_getattribute (F.args_list_getattribute_2 _ _) (meets_getattribute_miss_list a xs k sl "keys" _ hmiss 'd' 'd') ⟨hx,hA,λh' tk' e hx'=>?_⟩) | wp_step))
 obtain ⟨t',u',he⟩:=hx'.there
 show wpAny _ _ (getattributeRaised _ _ _ _ _ _ _) _ _ _
 unfold getattributeRaised
 repeat (any_goals (first | assumption | wp_step))
 exact h h' tk' hx'.of.keeps
theorem gD:entryFor table "dict.update.loop"=some Builtin.«dict.update.loop» :=entryFor_of_tree (by kernel_rfl)
theorem cV:plainId "dict.update.loop"=true:=by decide +kernel
theorem mG (kvs ps) (k) (v):cF kvs (ps++[(k,v)])=putK (cF kvs ps) k v:=by unfold cF; rw [Uv]; rfl
section
variable {X:Cx}
noncomputable def xB (K:O7) (H:Hp):List V->List (Key×V)->Prop:=Paired λy kv=>∃ t,y=.ref t/\c9 K H t [kV kv.1,kv.2]
theorem pair_items (h:s.heap.IsTuple t #[u,v]) (hQ:Q [u,v] s):wpAny (model X.prog X.w) A (Builtin.Dict.pairItems (.ref t)) Q E s:=by
 obtain ⟨⟨c,dct,dat,sl⟩,ho,hc,n,hd⟩:=h
 simp only at hc hd
 subst hc hd
 obtain ⟨hp,g,dd,tk,os⟩:=s
 have hT:(⟨hp,g,dd,tk,os⟩:Shared).TypeIs (.ref t) "tuple":=⟨_,ho,rfl⟩
 unfold Builtin.Dict.pairItems
 repeat (any_goals (first | assumption | wp_step))
theorem zo (hc:X.calm=true) (okX:X.Ok) (h1:X.A.in1.handled=none) (hl:fZ X.K H l ys) (hp:xB X.K H ys ps) (hd:H d=none) (hid:it≠d) (hz:ps.length<=sizeLine)
 (fin:∀ s',Inv X aa Z (upd H d (.dK (cF [] ps))) s'->R (.ok (.ret .none)) s') :
 ∀ (k i:Nat) (s:Shared) (tok:Tok),ps.length - i=k->i<=ps.length->Inv X aa Z (upd H d (.dK (cF [] (ps.take i)))) s->s.heap.IsListIter it l i->dQ X aa H it ->
  codeAny (model X.prog X.w) X.A (.builtin "dict.update.loop" ⟨[.ref d,.ref it,.int i tok,.none],[]⟩) R s:=by
 have sd:∀ o:HO,aL H (upd H d o):=λo b q e=>by rw [ai (aq e hd)]; exact e
 have elen:=QD hp
 intro k
 induction k with
 | zero =>
  intro i s tok hk hi I st hf
  have e:i=ps.length:=by omega
  subst e
  rw [QH] at I
  obtain ⟨its,rv,p,_⟩:=I.list ((sd _).seq hl)
  have hlen:=rv.length
  obtain ⟨f0,f1,f2,f3,f4,f5⟩:=hf
  have f0':upd H d (.dK (cF [] ps)) it=none:=by rw [ai hid]; exact f0
  refine Rt gD ?_
  rw [RG cV _]
  show wpAny _ X.A.in1 (pyNext (.ref it) >>= _) _ _ s
  refine O6 (wpAny_pyNext_list_end h1 st p.isList (by simp; omega) λh' eb=>?_)
  exact O6 (O8 (O8 (fin _ (I.turned (t':=s.toks) (λb o hb e=>eb b o hb e) f0' f1 f3 f4 f5))))
 | succ k ih =>
  intro i s tok hk hi I st hf
  have lt:i<ps.length:=by omega
  obtain ⟨its,rv,p,_⟩:=I.list ((sd _).seq hl)
  have hlen:=rv.length
  have f':=hf
  obtain ⟨f0,f1,f2,f3,f4,f5⟩:=hf
  have f0':upd H d (.dK (cF [] (ps.take i))) it=none:=by rw [ai hid]; exact f0
  have hiy:i<ys.length:=by omega
  obtain ⟨kv,ekv,t,ey,ht⟩:=dY hp (PX hiy)
  obtain ⟨u,hu,ru⟩:=rv.get (PX hiy)
  rw [ey] at ru
  cases ru
  refine Rt gD ?_
  rw [RG cV _]
  show wpAny _ X.A.in1 (pyNext (.ref it) >>= _) _ _ s
  refine O6 (wpAny_pyNext_list_item st p.isList (x:=.ref t) (by simpa using hu) λh' st' sb=>?_)
  have I1:Inv X aa Z (upd H d (.dK (cF [] (ps.take i)))) { s with heap:=h' }:=I.turned (t':=s.toks) (λb o hb e=>(sb.2 b hb).trans e) f0' f1 f3 f4 f5
  obtain ⟨us,r2,t2,_⟩:=I1.tuple (az (sd _) ht)
  cases r2 with
  | cons rk r2 =>
   obtain ⟨uv,rfl,rvv⟩:=Vals.one r2
   rename_i uk _
   dsimp only
   refine O6 (Qw (O6 (UE (pair_items t2 ?_))))
   dsimp only
   refine Qw ?_
   have ed:upd H d (.dK (cF [] (ps.take i))) d=some (.dK (cF [] (ps.take i))):=ah
   obtain ⟨z,hdm,vs,rel,dd⟩:=Ax I1.hok ed
   have hzv:vs.length<=sizeLine:=by rw [<- rel.length]; exact z
   have hl2:=gY (ps.take i++[(kv.1,kv.2)]) []
   rw [mG,PY,Qf,RD,Q5] at hl2
   refine wpAny_dictSet_pairs (lg rk) dd (λh2 dd2 hs=>?_) hzv
   have he:∃ q,h2.get? d=some q:=let ⟨q,_,_,hq,_⟩:=dd2; ⟨q,hq⟩
   have I2:=pD (t':=s.toks+1) I1 (by rw [ed]; exact Rb) hs he (Ay 'o' hdm (rel.put kv.1 rvv) dd2)
   rw [oV,<- mG] at I2
   have ekv':ps.take (i+1)=ps.take i++[(kv.1,kv.2)]:=by
    obtain ⟨hk1,e1⟩:=Po.mp ekv
    rw [QZ hk1,e1]
   rw [<- ekv'] at I2
   refine O8 ⟨TH cV _,ih (i+1) _ _ 'o' lt I2 ?_ f'⟩
   exact st'.at λo e=>(hs.2 it hid).trans e
theorem uX (hc:X.calm=true):fy X (.type "dict") (λxs H Q=>∃ (l:Addr) (ys:List V) (ps:List (Key×V)),xs=[.ref l]/\fZ X.K H l ys/\xB X.K H ys ps/\ps.length<=sizeLine/\∀ d,H d=none->Q (.ref d) (upd H d (.dK (cF [] ps)))):=by
 intro aa s Z H xs us Q I r ⟨l,ys,ps,e,hl,hp,hz,q⟩
 subst e
 obtain ⟨u,rfl,rx⟩:=vals1 r
 cases rx
 have hd:H s.heap.objs.size=none:=I.hok.fresh (O9 _)
 have h1:X.A.in1.handled=none:=I.ok.hd hc
 refine callType_codes (Q₁:=λobj s₁=>obj=.ref s.heap.objs.size/\s₁={ s with heap:=s.heap.push { cls:=.type "dict",data:=.dict #[] } }) F.kt_called_dict (F.kt_typeCall_dict_1 _) F.entry_dict_init (kt_code_dict_new _ ⟨rfl,rfl⟩) ?_
 rintro obj s₁ ⟨rfl,rfl⟩
 have hnew:(s.heap.push { cls:=.type "dict",data:=.dict #[] }).DictOf (bZ X.prog X.w) s.heap.objs.size []:=Heap.DictOf.new s.heap
 refine ⟨hnew.typeIs,F.args_dict_init_2 _ _,?_⟩
 have I1:=I.laid (a:=s.heap.objs.size) (o:=.dK []) (h':=s.heap.push { cls:=.type "dict",data:=.dict #[] }) (t':=s.toks) (λ_ _ q=>Pe _ q) (O9 _) (q8 s.heap I.big)
 clear hnew
 generalize s.heap.objs.size=d at *
 generalize ({ s with heap:=s.heap.push { cls:=.type "dict",data:=.dict #[] } }:Shared)=s1 at *
 obtain ⟨_,hdm,vs,rel,dd⟩:=Ax I1.hok ah
 have sd:aL H (upd H d (.dK [])):=λb q e=>by rw [ai (aq e hd)]; exact e
 obtain ⟨its,rv,p,_⟩:=I1.list (sd.seq hl)
 obtain ⟨o,n,p1,p2,p3,p4⟩:=id p
 unfold Builtin.«dict.__init__»
 refine O6 ?_
 unfold Builtin.Dict.selfAndRest
 refine O6 (wpAny_notOrdered_dict dd.typeIs ?_)
 show wpAny _ _ (pure (d,[Px l])) _ _ _
 refine O8 ?_
 show wpAny _ _ (Builtin.Dict.updateFrom "dict.__init__" d (.ref l) [] .none) _ _ _
 unfold Builtin.Dict.updateFrom
 refine O6 (Rw (T:="list") ⟨o,p1,p2⟩ ?_)
 rw [if_pos 'd']
 refine O6 (FJ p1 p2 p4 p3 h1 λh' tk keep=>?_)
 have I2:Inv X aa Z (upd H d (.dK [])) { s1 with heap:=h',toks:=tk }:=I1.kept (t':=tk) keep
 obtain ⟨its2,M0,pp2,_⟩:=I2.list (sd.seq hl)
 rw [if_pos (by rfl)]
 refine O6 (Qy ?_)
 refine O6 (R6 pp2.isList ?_)
 have h2:X.A.in1.frames=some X.stack:=I.ok.frames
 have I3:Inv X aa Z (upd H d (.dK [])) { s1 with heap:=h'.push { cls:=.type "list_iterator",data:=.fields #[.ref l,.int 0 0] },toks:=tk }:=I2.kept (t':=tk) λb o e=>Pe _ e
 have hn:(upd H d (.dK [])) h'.objs.size=none:=I2.hok.fresh (O9 _)
 have hid:h'.objs.size≠d:=λe=>by rw [e,ah] at hn; cases hn
 have hn':H h'.objs.size=none:=by rw [ai hid] at hn; exact hn
 have ff:dQ X aa H h'.objs.size:=I2.jr (O9 _) hn'
 refine O8 ⟨TH cV _,?_⟩
 exact zo (X:=E9 X X.A.in1) hc (G7 I.ok (λ_=>h1) h2) h1 hl hp hd hid hz (λs' I'=>⟨rfl,.ref d,_,fJ I.ok I',rfl,q d hd⟩) ps.length 0 _ _ 'p' (P7 _) (jC I3 (λ_=>h1) h2) ⟨_,Pq _ rfl,rfl,rfl⟩ ff
end
noncomputable def Ni (kv:Key×D):D:=.tup [rQ kv.1,kv.2]
noncomputable def jH (kvs ps:List (Key×D)):List (Key×D):=ps.foldl (λacc kv=>putD acc kv.1 kv.2) kvs
section
variable {K:O7} {c:Ctx P w K mg base k N sc bk}
theorem FL (h:Rep K Hf (rQ kk) v):v=kV kk:=by
 cases kk with
 | inl i=>exact au.mp h
 | inr s=>exact c8.mp h
theorem Cv (sb:aL Hf H):∀ {ps:List (Key×D)} {ys:List V},ak K Hf (ps.map Ni) ys->∃ qs:List (Key×V),xB K H ys qs/\ir K Hf ps qs
 | [],_,h=>by
  rw [Q8,aA] at h; subst h
  exact ⟨[],.nil,.nil⟩
 | p::ps,_,h=>by
  rw [Pn,aF] at h
  obtain ⟨x,r,rfl,h1,h2⟩:=h
  obtain ⟨qs,a1,a2⟩:=Cv sb h2
  obtain ⟨t,zs,rfl,h3,h4⟩:=aI.mp h1
  obtain ⟨v,v',rfl,h5,h6⟩:=LV h4
  rw [FL h5] at h3
  exact ⟨(p.1,v')::qs,.cons ⟨t,rfl,az sb h3⟩ a1,.cons ⟨rfl,h6⟩ a2⟩
theorem zp:∀ {ps:List (Key×D)} {qs:List (Key×V)} {kvs:List (Key×D)} {xs:List (Key×V)},ir K Hf ps qs->ir K Hf kvs xs->ir K Hf (jH kvs ps) (cF xs qs):=by
 intro ps qs kvs xs r
 unfold ir at r
 induction r generalizing kvs xs with
 | nil=>intro q; exact q
 | @cons p q ps qs h t ih =>
  intro r0
  have e:ir K Hf (putD kvs p.1 p.2) (putK xs q.1 q.2):=by rw [<- h.1]; exact r0.put p.1 h.2
  exact ih e
theorem uY:LU K (λxs H Q=>∃ (l:Addr) (ys:List V) (ps:List (Key×V)),xs=[.ref l]/\fZ K H l ys/\xB K H ys ps/\ps.length<=sizeLine/\∀ d,H d=none->Q (.ref d) (upd H d (.dK (cF [] ps)))) (λds R=>∃ kps:List (Key×D),ds=[.lst (kps.map Ni)]/\Sd (kps.length<=sizeLine) (R (.oK (jH [] kps)))):=by
 rintro ds vs H Hf Q R s rs ⟨kps,rfl,⟨hz,hR⟩⟩ q
 obtain ⟨v,rfl,rv⟩:=lF rs
 obtain ⟨l,ys,rfl,h1,h2⟩:=bh.mp rv
 obtain ⟨qs,a1,a2⟩:=Cv s h2
 refine ⟨l,ys,qs,rfl,s.seq h1,a1,by rw [<- QD a2]; exact hz,λd hd=>?_⟩
 have g2:=bz.f7 s hd (o:=.dK (cF [] qs))
 exact q _ _ _ _ hR ⟨d,_,rfl,hd,ah,s.free hd,zp a2 .nil⟩ g2
theorem FN (hm:mg "dict"=none) (h:aB c e Y λd=>∃ kps:List (Key×D),d=.lst (kps.map Ni)/\Sd (kps.length<=sizeLine) (R (.oK (jH [] kps)))) (hg:sc.names.lookup (O5 "dict")=some .globalImplicit:=by rfl')
 (he:∀ env,starEach [e] env=(false,eval e env)::starEach [] env:=by symm):dU c (.Call (.Name "dict" np) [e] [] pos) Y R :=
 GU (uX c.calm) uY hm (by decide +kernel) (c6 (h.imp λd ⟨kps,e,hd⟩=>iN ⟨kps,by rw [e],hd⟩) he) hg 'd' 'd' he (by symm)
theorem JT (hN:At N i y) (hi:At Y i r) (hr:r.getL=some (ds++[d])) (hNz:At N m z) (h:Nx Y i (λY1=>Nx Y1 m nx (.va d)) (r.putL ds))
 (hs:∀ env,swapsWith (.Call (.Attribute (.Name y px) "pop" ap) [] [] cp) (some (.Name z pos2)) pos.line env=pure false:=by symm) (hd:Ndb y:=by decide) (hcd:Ncd y:=by decide)
 (hbase:∀ env,attributeBase (.Name y px) "pop" env (eval (.Name y px) env)=eval (.Name y px) env:=by symm)
 (hline:(ap.endLine == cp.line)=true:=by rfl') (hf:bk=false\/sc.names.lookup z=some .local:=by first | exact .inl rfl | exact .inr (by rfl')) :
 fm c (.Assign [.Name z pos2] (.Call (.Attribute (.Name y px) "pop" ap) [] [] cp) pos) Y nx p:=λZ H Hf D S o=>by
 obtain ⟨q,eq,rq⟩:=S.own hi.get (bH hr)
 obtain ⟨xs,h1,h2,h3⟩:=yE hr rq
 obtain ⟨Y1,hs1,Y2,hs2,hn⟩:=h
 have hl:=h3.length
 rw [PY,RD] at hl
 obtain ⟨v,hv,rv⟩:=h3.get (i:=ds.length) (d:=d) (by rw [RA (O9 _),Nat.sub_self]; rfl)
 refine cO (Ad (X:=c.X) (i:=m) (by rw [c.eN]; exact c.nd) (by rw [c.eN]; exact hNz.get) (by rw [c.esc]; exact c.vis z hNz.mem) (uw Uh PySem.F.slot_list_pop PySem.F.type_list_pop Av (c.iQ hN hd hcd) (hbase _) hline) (hs _) (c.fn z hf)) ⟨_,eq,.inl ⟨rfl,xs,.inl (.inl h1)⟩,?_⟩
 refine ⟨q,xs,v,rfl,rfl,h1,by rw [show xs.length - 1=ds.length by omega]; exact hv,?_⟩
 have h4:=h3.dropLast
 rw [List.dropLast_concat] at h4
 have S1:=S.upd hi.get (bH hr) eq (eT S.sb h2) (fF hr rq ah h2 h4) (c7 hr)
 rw [<- hs1.eq] at S1
 refine o.nx _ _ Hf Y2 ?_ hn
 rw [hs2.eq]
 exact S1.set (.refl S1.sb) (r:=.va d) rv
noncomputable def JU:V->List V->Hp->VK->Prop:=λx vs H Q=>∃ l xs y,∃ k:Nat,x=.ref l/\vs=[.int k,y]/\H l=some (.lst xs)/\k<=xs.length/\xs.length<sizeLine/\Q .non (upd H l (.lst (xs.take k++y::xs.drop k)))
theorem Vals.Hs (h:Vals xs us) (k):Vals (xs.take k) (us.take k)/\Vals (xs.drop k) (us.drop k):=by
 induction h generalizing k with
 | nil=>simp only [List.take_nil,List.drop_nil]; exact ⟨.nil,.nil⟩
 | cons r t ih =>
  cases k with
  | zero=>exact ⟨.nil,.cons r t⟩
  | succ k=>exact ⟨.cons r (ih k).1,(ih k).2⟩
theorem Cw {i:Int} (h:0<=i) (g:i<2 ^ 62):U8 i=true:=by
 unfold U8
 rw [decide_eq_true 'l',decide_eq_true 'l']; rfl
theorem Cy:NY X "list.insert" JU:=by
 intro aa s Z H x vs v us Q I rx rv h
 obtain ⟨l,xs,y,k,rfl,rfl,hH,hk,hz,q⟩:=h
 cases rx
 cases rv with
 | cons r0 rv =>
  obtain ⟨t,rfl⟩:=r0
  obtain ⟨u,rfl,ru⟩:=Vals.one rv
  obtain ⟨w,its,n,r,hl,e⟩:=I.pA hH
  have hlen:=r.length
  have hfit:¬ (!Builtin.List.listFitsIndex (k:Int))=true:=by
   have hk2:(k:Int)<16777217:=by
    rw [RO] at hz
    lia
   have h1:U8 (k:Int)=true:=Cw (VJ _) (Int.lt_trans hk2 'd')
   rw [h1]; decide
  have hsz:its.toArray.size<=sizeLine:=by rw [PN,<- hlen]; exact Rx hz
  generalize hK:(k:Int)=K at hfit |-
  refine Sm F.slot_list_insert ⟨_,e,rfl⟩ F.entry_list_insert (F.args_list_insert_3 _ _ _) (PySem.AutoSeq1.list_insert_list_int_val_1 l its.toArray n K t u hfit hsz) ⟨e,?_⟩
  subst hK
  refine ⟨.non,_,I.uA (its':=its.take k++u::its.drop k) hH e ?_ ((Vals.Hs r k).1.append (.cons ru (Vals.Hs r k).2)) ?_,rfl,q⟩
  ·have hki:((k:Int).toNat)=k:=Qc k
   have hm:min k its.length=k:=Se 'o'
   simp only [show ¬ ((k:Int)<0) by omega,if_false,hki,PN,hm]
   simp
   exact RZ (by rw [SQ]; omega)
  ·rw [PY,P4,Qf,SQ]
   have:min k xs.length+(xs.length - k+1)=xs.length+1:=by omega
   rw [this]; exact hz
theorem JV (hN:At N i y) (hi:At Y i r) (hr:r.getL=some ds) (h:aB c a Y λd1=>aB c b Y λd2=>∃ k:Nat,d1=.int k/\k<=ds.length/\Sd (ds.length<sizeLine) (Nx Y i nx (r.putL (ds.take k++d2::ds.drop k))))
 (hs:∀ env,swapsWith (.Call (.Attribute (.Name y px) "insert" ap) [a,b] [] cp) none pos.line env=pure false:=by symm) (hd:Ndb y:=by decide) (hcd:Ncd y:=by decide)
 (hbase:∀ env,attributeBase (.Name y px) "insert" env (eval (.Name y px) env)=eval (.Name y px) env:=by symm)
 (hfew:∀ env,((backTo cp (starEach [a,b] env)).all (λx=> !x.1) && (backToKw cp (keywordEach [] env)).all (λx=>x.1.isSome)
   && decide (([a,b]:List Expr).length+([]:List Keyword).length+(if ([]:List Keyword).isEmpty then 0 else 1)<30))=true:=by symm)
 (hline:(ap.endLine == cp.line)=true:=by rfl') (he0:∀ env,starEach [a,b] env=(false,eval a env)::starEach [b] env:=by symm) (he:∀ env,starEach [b] env=(false,eval b env)::starEach [] env:=by symm) (hpl:∀ env,(backTo cp (starEach [b] env)).any (·.1)=false:=by symm) :
 fm c (.Expr (.Call (.Attribute (.Name y px) "insert" ap) [a,b] [] cp) pos) Y nx p:=λZ H Hf D S o=>by
 obtain ⟨q,eq,rq⟩:=S.own hi.get (bH hr)
 obtain ⟨xs,h1,h2,h3⟩:=yE hr rq
 refine cO (iK (GK Uh PySem.F.slot_list_insert PySem.F.type_list_insert Cy (c.iQ hN hd hcd) (bC cI (bC cI cM (he _)) (he0 _)) (hbase _) (hfew _) hline (he0 _) (hpl _)) (hs _)) ⟨_,eq,.inl ⟨rfl,xs,.inl (.inl h1)⟩,?_⟩
 refine h Z H Hf _ S λd1 v1 H1 aP hb rd1 g1=>hb Z H1 aP _ (S.cD g1) λd v H' aj ⟨k,e1,hk,hz,Y',hs',hn⟩ rd g2=>?_
 subst e1
 rw [au] at rd1
 subst rd1
 have g:=g1.trans g2
 have S':=S.cD g
 have e1:H' q=some (.lst xs):=g.s _ _ h1
 have e2:aj q=none:=g.n q h2 (by rw [h1]; simp) (by intro ys; rw [h1]; simp)
 refine ⟨q,xs,v,k,rfl,rfl,e1,by rw [<- h3.length]; exact hk,by rw [<- h3.length]; exact hz,?_⟩
 refine o.nx _ _ aj Y' ?_ hn
 rw [hs'.eq]
 have rq':=rq.cD g
 have h3':=h3.mono g.f
 exact S'.upd hi.get (bH hr) eq (eT g.b e2) (fF hr rq' ah e2 ((h3'.take k).append (.cons rd (h3'.drop k)))) (c7 hr)
theorem Cz (L):ME X D.int ltI oneType' L :=
 ⟨(ja (X:=X)).lin L,λa b c d e I sb x y u h1 h2=>ja.inj a b c d e I sb x y u h1 h2,λa b c d e f g I sb us p h2 Q hQ=>ja.kind a b c d e f g I sb L us p h2 Q hQ,λa b c d e f g I sb hA x y u v hx hy Q hQ=>ja.cmp a b c d e f g I sb hA x y u v hx hy Q hQ⟩
theorem qg (hc:X.calm=true) (I:Inv X aa Z H s) (sb:aL Hf H) (hA:X.A.units+60<cLine) (hH:Hf d=some (.frz o (.dK ys))) (hk:ys.map (·.1)=ns.map PK) (nd:ns.Nodup)
 (hQ:∀ (L':List Int) (xs':List V) (s':Shared) (H' aj:Hp) (a:Addr),L'.Perm ns->gu ltI false L'->ak X.K aj (L'.map D.int) xs'->bz H Hf H' aj->H' a=none->Inv X aa Z (upd H' a (.lst xs')) s'->Q (.ref a) s') :
 wpAny (model X.prog X.w) X.A (call (.builtin "sorted") [.ref d]) Q E s:=by
 refine call_function_entry UX UN UP nq ?_
 unfold Builtin.«sorted»
 refine O6 (m:=checkCount "sorted" 1 1 _) (O8 ?_)
 have h1:X.A.in1.handled=none:=I.ok.hd hc
 have h2:X.A.in1.frames=some X.stack:=I.ok.frames
 obtain ⟨vs,es,ep,e1,kv,da,hs,hz⟩:=kH I (sb _ _ hH)
 have hl:ys.length=vs.length:=QD kv
 have hn:(ns.map D.int).length=ys.length:=by have:=congrArg S0 hk; simp only [Pc] at this |-; lia
 refine O6 (iC (X:=E9 X X.A.in1) (H:=H) (Hf:=Hf) (ds:=ns.map D.int) (T:="dict") hc h1 h2 (jC I (λ_=>h1) h2) sb da.lt_size 'l' 'd' (λs' k=>(da.keep k).dictOf.typeIs) (λA s' Q E q h=>oF q h) (λA s1 H1 E I1 sb1 k1=>?_) λus s' H' aj xs I' rv rr g hz'=>?_)
 ·refine wpAny_pyIter_dict hs (da.keep k1) ?_
  refine ⟨_,_,_,rfl,O9 _,I1.kept (t':=s1.toks) λb o e=>Pe _ e,oB e1,⟨_,Pq _ rfl,rfl,?_⟩,λb hb=>?_,λb o e=>Pe _ e,oE hH hk⟩
  ·rw [hl]; rfl
  ·obtain rfl:b=s1.heap.objs.size:=Pk.mp hb
   exact I1.jr (O9 _) (I1.hok.fresh (O9 _))
 ·have I2:=fJ I.ok I'
  have el:=rr.length
  have el2:=rv.length
  refine zm (b:=false) (Cz ns) I2 g.b ?_ rr rv 'l' nd (λ_=>rfl) (λ_=>args_list_sort_1) λL' xs' s2 p1 p2 p3 p4 I3=>hQ L' xs' s2 H' aj _ p1 p2 p3 g (I2.hok.fresh (O9 _)) I3
  show X.A.units+1+20<cLine
  lia
theorem CA (hm:mg "sorted"=none) (h:aB c e Y λd=>∃ (ns:List Int) (ds:List D),d=.fdK (ns.map PK) ds/\Sd ns.Nodup (∀ L':List Int,L'.Perm ns->gu ltI false L'->R (.ow (L'.map D.int))))
 (hg:sc.names.lookup (O5 "sorted")=some .globalImplicit:=by rfl')
 (he:∀ env,starEach [e] env=(false,eval e env)::starEach [] env:=by symm)
 (hpl:∀ env,(backTo pos (starEach [] env)).any (·.1)=false:=by symm) :
 dU c (.Call (.Name "sorted" np) [e] [] pos) Y R:=λZ H Hf Q S q aa s I=>by
 have hgl:Gl c.X "sorted":=by unfold Gl P6; rw [c.esc]; exact hg
 refine Q0 (cX I hgl (by rw [c.emg]; exact hm) (show bootBuiltins "sorted"=some (.builtin "sorted") by decide +kernel) ?_ 'd' 'd')
 have hpa:=bC (X:=c.X) (e:=e) (es:=[]) cI cM (he _)
 refine U4 (bL (hpa pos aa s Z H (λvs H1=>∃ x,vs=[x]/\∃ (ns:List Int) (ds:List D) (aP:Hp),Rep c.X.K aP (.fdK (ns.map PK) ds) x/\ns.Nodup/\bz H Hf H1 aP/\∀ L':List Int,L'.Perm ns->gu ltI false L'->R (.ow (L'.map D.int))) I ?_) λus s1 hh=>z2 hh λvs H1 hh=>w3 hh λI1 r1 hh=>hh.elim λx hh=>w2 hh λex hh=>z3 hh λns ds aP hh=>w4 hh λe1 e7 e8 e9=>?_) (he _) (hpl _)
 ·exact h Z H Hf _ S λd v H1 aP ⟨ns,ds,hp,⟨hn,hR⟩⟩ rv g=>⟨_,rfl,ns,ds,aP,by rw [<- hp]; exact rv,hn,g,hR⟩
 ·subst ex
  obtain ⟨a0,ys,o,rfl,hs,hk,hr⟩:=fO.mp e1
  have eu:us=[.ref a0]:=by
   cases r1 with
   | cons q1 q2=>cases q2; cases q1; rfl
  subst eu
  refine qg c.calm I1 e8.b ?_ hs hk e7 λL' xs' s' H' aj a p1 p2 p3 g na I3=>?_
  ·have:=c.room.un
   lia
  ·have gg:=e8.trans g
   exact ⟨.ref a,_,I3,rfl,q (.ow (L'.map D.int)) _ _ aj (e9 L' p1 p2) ⟨a,xs',rfl,gg.s.free na,ah,g.b.free na,p3⟩ (gg.trans (bz.f7 g.b na))⟩
end
noncomputable abbrev JW:=List (Key×D)->List D->List D->(List (Key×D)->List D->Prop)->Prop
noncomputable def zu (K:O7) (F:JW):Sp:=λvs H Q _=>∃ Hf p q kvs xs ls ys us ds B,vs=.ref p::.ref q::us/\aL Hf H/\(H p=some (.dK xs)/\Hf p=none/\ir K Hf kvs xs)/\(H q=some (.lst ys)/\Hf q=none/\ak K Hf ls ys)/\ak K Hf ds us/\F kvs ls ds B /\
 ∀ kvs' ls' H' aj xs' ys',B kvs' ls'->bz (del (del H p) q) Hf H' aj->(H' p=some (.dK xs')/\aj p=none/\ir K aj kvs' xs')->(H' q=some (.lst ys')/\aj q=none/\ak K aj ls' ys')->Q .non H'
structure CB (P:Program) (w:World) (K:O7) (mg:Str->Option Value) (base:Heap) (k:Nat) (x:Str) (F:JW):Prop where
 ex:∃ f fd ps,mg x=some (.ref f)/\Rk K (.ref f)=true/\Binds K fd ps []/\bw P w K mg base (cN P w) k f fd ps (zu K F)
noncomputable def eZ (p:Addr) (kvs:List (Key×D)) (q:Addr) (ls:List D) (N:List Str) (ds:List D):List Sl:=.aK p kvs::.aw q ls::(ds.map .va++Pu (N.length - (ds.length+2)) .un)
theorem uZ {K:O7} (r:ak K Hf ds us) (sb:aL Hf H) (h1:H p=some (.dK xs)) (h2:Hf p=none) (h3:ir K Hf kvs xs) (k1:H q=some (.lst ys)) (k2:Hf q=none) (k3:ak K Hf ls ys) :
 dN K (del (del H p) q) Hf (L2.start N (.ref p::.ref q::us)) H Hf (eZ p kvs q ls N ds):=by
 have hl:=r.length
 have hpq:p≠q:=λe=>by rw [e,k1] at h1; cases h1
 have rest:∀ (i:Nat) (r':Sl),(eZ p kvs q ls N ds)[i+2]?=some r'->r'≠.un->∃ d,ds[i]?=some d/\r'=.va d:=λi r' h hu=>by
  have h':(ds.map Sl.va++Pu (N.length - (ds.length+2)) Sl.un)[i]?=some r':=by simpa [eZ] using h
  by_cases w:i<ds.length
  ·rw [Rc (by simpa using w),Pr,PX w] at h'
   cases h'
   exact ⟨_,by simp,rfl⟩
  ·rw [RA (by simp; lia)] at h'
   exact absurd (Ud (Rg h')) hu
 refine ⟨⟨λb o e=>(dW (dW e).2).2,.refl _,sb,λ_ h _ _=>h⟩,by simp [L2.start,eZ,hl],λi r' h hu=>?_,λi j r1 r2 p' hne e1 e2 o1 o2=>?_⟩
 ·match i,h with
  | 0,h =>
   have:r'=.aK p kvs:=by simpa [eZ] using h.symm
   subst this
   exact ⟨.ref p,by simp [L2.start],p,xs,rfl,⟨by show del (del H p) q p=none; rw [bQ hpq,fE],rfl⟩,h1,h2,h3⟩
  | 1,h =>
   have:r'=.aw q ls:=by simpa [eZ] using h.symm
   subst this
   exact ⟨.ref q,by simp [L2.start],q,ys,rfl,⟨fE,rfl⟩,k1,k2,k3⟩
  | i+2,h =>
   obtain ⟨d,hd,rfl⟩:=rest i r' h hu
   obtain ⟨x,e2,rx⟩:=r.get hd
   refine ⟨x,?_,rx⟩
   have hi:i<us.length:=(Po.mp e2).1
   unfold L2.start
   rw [Rc (by simp; lia)]
   simp [e2]
 ·have own:∀ {i:Nat} {r:Sl},(eZ p kvs q ls N ds)[i]?=some r->r.owned=true->i=0\/i=1:=λ{i r} h ho=>by
   match i,h with
   | 0,_=>exact .inl rfl
   | 1,_=>exact .inr rfl
   | i+2,h =>
    obtain ⟨d,_,rfl⟩:=rest i r h (by rintro rfl; cases ho)
    cases ho
  have g0:(L2.start N (.ref p::.ref q::us))[0]?=some (some (.ref p)):=by simp [L2.start]
  have g1:(L2.start N (.ref p::.ref q::us))[1]?=some (some (.ref q)):=by simp [L2.start]
  intro s1 s2
  rcases own e1 o1 with rfl | rfl <;> rcases own e2 o2 with rfl | rfl
  ·exact hne rfl
  ·rw [g0] at s1; rw [g1] at s2; cases s1; cases s2; exact hpq rfl
  ·rw [g1] at s1; rw [g0] at s2; cases s1; cases s2; exact hpq rfl
  ·exact hne rfl
theorem FO (g:bz (del (del H p) q) Hf H' aj) (hq:H q=some o) (hpq:p≠q) (h2:aj q=none):bz (del H p) Hf (upd H' q o) aj:=by
 refine ⟨λb u e=>?_,g.f,λb u e=>?_,λb e1 e2 e3=>?_⟩
 ·by_cases w:b=q
  ·subst w
   rw [bQ (Py hpq),hq] at e
   rw [ah]; exact e
  ·rw [ai w]; exact g.s b u (by rw [bQ w]; exact e)
 ·rw [ai (λw=>by rw [w,h2] at e; cases e)]; exact g.b b u e
 ·by_cases w:b=q
  ·rw [w]; exact h2
  ·exact g.n b e1 (by rw [bQ w]; exact e2) λxs=>by rw [bQ w]; exact e3 xs
theorem FP (sb:aL aj H'):bz (del (upd H' q o) q) aj H' aj:=by
 refine ⟨λb u e=>?_,.refl _,sb,λb h _ _=>h⟩
 obtain ⟨w,e⟩:=dW e
 rw [ai w] at e; exact e
section
variable {K:O7} {c:Ctx P w K mg base k N sc bk}
theorem MF {st:Stmt} (Fu:d9 K x qual st f fd) (SV:FS N ps st) (ar:∀ kvs ls ds B,F kvs ls ds B->ds.length+2=ps.length)
 (body:∀ (c:Ctx P w K mg base k N (aH st) false),c.X.xe=(λ_ _=>False)->∀ p kvs q ls ds B,F kvs ls ds B->aU c (ay st) (eZ p kvs q ls N ds) (λY=>∃ kvs' ls' r,B kvs' ls'/\Y=.aK p kvs'::.aw q ls'::r) { rt:=λ_=>False }) :
 bw P w K mg base (cN P w) (k+1) f fd ps (zu K F):=by
 obtain ⟨Sc,Vi⟩:=vS SV
 obtain ⟨oc,od,kV,doc,pm,an,cdv,ct,osl,rfl,lk,hcd⟩:=Fu.ex
 refine vH lk hcd Sc (λvs H Q E hh=>?_) λA outer s H vs Q E hr hh=>?_
 ·refine Classical.byContradiction λhG=>?_
  obtain ⟨Hf,p,q,kvs,xs,ls,ys,us,ds,B,e,_,_,_,rs,hF,_⟩:=hh
  exact hG (by rw [e,P4,P4,<- rs.length]; exact ar _ _ _ _ hF)
 refine Classical.byContradiction λhG=>?_
 obtain ⟨Hf,p,q,kvs,xs,ls,ys,us,ds,B,e,sb,⟨h1,h2,h3⟩,⟨k1,k2,k3⟩,rs,hF,hq⟩:=hh
 refine hG ?_
 subst e
 let X:Cx:=(o7 (cN P w) P w K mg base N qual (aH st) f cdv A outer s H E).yf
 let c:Ctx P w K mg base k N (aH st) false :=
  { X:=X,eP:=rfl,ew:=rfl,eK:=rfl,emg:=rfl,eb:=rfl,eN:=rfl,esc:=rfl,calm:=rfl,top:=λ_=>⟨rfl,rfl,rfl⟩,cb:=λ_ _ _ _ _ I x c h=>I.ok.cab x c rfl h,fn:=λ_ _=>.inl rfl,B:=del (del H p) q,room:=hr,nd:=Sc.nd,vis:=Vi,Hf:=Hf,RX:=λ_ _=>False,
    exc:=λ_ _ _ _ _ _ _ _ _ _ _ _ h _ _=>h.elim,RM:=λ_ _=>False,mde:=λ_ _ _ _ _ _ _ _ _ _ _ _ h _=>h.elim }
 refine ⟨_,qQ.yf (t:=GO X (ay st)) (lB (X:=X)),?_⟩
 refine body c rfl p kvs q ls ds B hF (L2.start N (.ref p::.ref q::us)) H Hf _ (uZ rs sb h1 h2 h3 k1 k2 k3) ⟨λZ H' aj Y S ⟨kvs',ls',r,hB,e⟩=>?_,λr v H' aj g rv e=>e.elim,λ_ _ _ _ _ h=>h.elim,λ_ _ _ _ _ h=>h.elim⟩
 subst e
 obtain ⟨v,_,q',xs',_,⟨_,rfl⟩,a1,a2,a3⟩:=S.at_ 0 _ rfl 'p'
 obtain ⟨v2,_,q2,ys',_,⟨_,rfl⟩,b1,b2,b3⟩:=S.at_ 1 _ rfl 'p'
 exact hq kvs' ls' H' aj xs' ys' hB S.bas ⟨a1,a2,a3⟩ ⟨b1,b2,b3⟩
theorem CC (h:CB P w K mg base j x F) (hj:j<=k) (hN:At N i y) (hi:At Y i r) (hr:r.rL=some kvs) (hNz:At N m z) (hm:At Y m r2) (hr2:r2.getL=some ls) (him:i≠m)
 (ha:rj c es Y λds=>∃ B,F kvs ls ds B/\∀ kvs' ls',B kvs' ls'->nx ((Y.set i (r.jT kvs')).set m (r2.putL ls')))
 (hg:sc.names.lookup x=some .globalImplicit:=by rfl') (hdb:Ndb x:=by decide) (hd:Ndb y:=by decide) (hcd:Ncd y:=by decide) (hdz:Ndb z:=by decide) (hcdz:Ncd z:=by decide)
 (he:∀ env,starEach (.Name y py::.Name z pz::es) env=(false,eval (.Name y py) env)::starEach (.Name z pz::es) env:=by symm)
 (he2:∀ env,starEach (.Name z pz::es) env=(false,eval (.Name z pz) env)::starEach es env:=by symm)
 (hpl:∀ env,(backTo cp (starEach (.Name z pz::es) env)).any (·.1)=false:=by symm)
 (hs:∀ env,swapsWith (.Call (.Name x px) (.Name y py::.Name z pz::es) [] cp) none pos.line env=pure false:=by symm):fm c (.Expr (.Call (.Name x px) (.Name y py::.Name z pz::es) [] cp) pos) Y nx p:=λZ H Hf D S o=>by
 obtain ⟨q,eq,rq⟩:=S.own hi.get (fQ hr)
 obtain ⟨q2,eq2,rq2⟩:=S.own hm.get (bH hr2)
 refine cO (iK cI (hs _)) (show bE c.X _ Z H (λ_ H'=>D.nx Z H') from λaa s I=>?_)
 obtain ⟨f,fd,ps,hmm,hk,hb,hF⟩:=h.ex
 refine Q0 (gG I (by unfold Gl P6; rw [c.esc]; exact hg) (by rw [c.emg]; exact hmm) ?_ hdb)
 have hA:bA c.X (.Name y py::.Name z pz::es) Z H (λvs H1=>∃ us aP ds B,vs=.ref q::.ref q2::us/\F kvs ls ds B/\(∀ kvs' ls',B kvs' ls'->nx ((Y.set i (r.jT kvs')).set m (r2.putL ls')))/\ak c.X.K aP ds us/\bz H Hf H1 aP) :=
  ri (bC (c.iQ hN hd hcd) (bC (c.iQ hNz hdz hcdz) GN (he2 _)) (he _)) ⟨_,eq,_,eq2,ha Z H Hf _ S λds vs H1 aP ⟨B,hF,hn⟩ rs g=>⟨vs,aP,ds,B,rfl,hF,hn,rs,g⟩⟩
 refine VH (h₀:=c.X.base) I.ok.mod.kin (by rw [c.eK]; exact hk) (bL (hA cp aa s I) λus s1 ⟨vs,H1,I1,rv,us',aP,ds,B,ev,hF',hn,rs,g⟩=>⟨I1.qK,?_⟩) (he _) (hpl _)
 subst ev
 have S1:=S.cD g
 have rq1:=rq.cD g
 have rq3:=rq2.cD g
 obtain ⟨xs1,a1,a2,a3⟩:=uD hr rq1
 obtain ⟨ys1,b1,b2,b3⟩:=yE hr2 rq3
 have hpq:q≠q2:=λe=>by rw [e,b1] at a1; cases a1
 have hF2:bw c.X.prog c.X.w c.X.K c.X.mg c.X.base (cN c.X.prog c.X.w) k f fd ps (zu c.X.K F):=by rw [c.eP,c.ew,c.eK,c.emg,c.eb]; exact hF.mono hj
 have vz:zu c.X.K F (.ref q::.ref q2::us') H1 (λ_ H'=>D.nx Z H') (λ_ _ _=>False):=by
  refine ⟨aP,q,q2,kvs,xs1,ls,ys1,us',ds,B,rfl,g.b,⟨a1,a2,a3⟩,⟨b1,b2,b3⟩,rs,hF',λkvs' ls' H' aj xs' ys' hB g2 ⟨c1,c2,c3⟩ ⟨d1,d2,d3⟩=>?_⟩
  refine o.nx Z H' aj _ ?_ (hn kvs' ls' hB)
  have T1:=S1.upd hi.get (fQ hr) eq (FO g2 b1 hpq d2) (lI hr rq1 (by rw [ai hpq]; exact c1) c2 c3) (iy hr)
  have hm':(Y.set i (r.jT kvs'))[m]?=some r2:=by rw [Ql him]; exact hm.get
  obtain ⟨q2',eq2',rq4⟩:=T1.own hm' (bH hr2)
  rw [eq2] at eq2'
  cases eq2'
  exact T1.upd hm' (bH hr2) eq2 (FP g2.b) (fF hr2 rq4 d1 d2 d3) (c7 hr2)
 have hl:us.length=ps.length:=by rw [<- rv.length]; exact hF2.len _ _ _ _ vz
 have hb':Binds c.X.K fd ps []:=by rw [c.eK]; exact hb
 have hb2:=hb' s1 us I1.qK (by simpa using hl)
 rw [Qv] at hb2
 refine S6 (TM (hF2.run c.X.A c.X.stack s1 H1 ⟨us,[]⟩ us _ _ _ c.room I1.Ii hb2 rv vz) λr' s' hq=>?_)
 cases r' with
 | error e =>
  obtain ⟨a,C,H',rfl,hE,h⟩:=hq
  exact h.elim
 | ok fl =>
  cases fl with
  | ret u=>exact I1.after hq
  | next=>exact QA hq
  | brk=>exact QA hq
  | cont=>exact QA hq
end
section
variable {K:O7}
theorem CD (P) (w) (base) {st:Stmt} (D:aD K mg x st) (ok:∀ {f:Addr} {fd:FuncData},d9 K x x st f fd->bw P w K mg base (cN P w) k f fd ps (zu K F))
 (hb:∀ (kV doc pm:Value) (an:Option Addr) (cdv ct:Value) (us:List Value),us.length=ps.length->bindArgs (Rn x x (eG st) (ay st) (aH st) .none kV doc pm an cdv ct) ⟨us,[]⟩=pure (ps.zip us):=by intro _ _ _ _ _ _ us hl; (obtain ⟨a,b,c,d,e,rfl⟩:=Ji us hl; rfl)):CB P w K mg base k x F :=
 let ⟨f,fd,m,Fu⟩:=D; ⟨f,fd,ps,m,Fu.kp,Fu.binds hb,ok Fu⟩
end
end EV
namespace EV
open PySem PySem.Spec PyProof.Rows L2
section
variable {K:O7}
theorem CF (h:aB c a Y λx=>aB c b Y λy=>I2 (λi j=>Sd (j≠0) (R (.int (i.fmod j)))) x y):aB c (.BinOp a .Mod b pos) Y R :=
 gh (lC DQ jP (h.imp λx hx=>hx.imp λy ⟨i,j,e1,e2,⟨hc,r⟩⟩=>⟨i,j,e1,e2,hc,_,rfl,r⟩))
end
end EV
namespace EV
open PySem PySem.Spec PySem.Calls PyProof.Rows L2
section
variable {St:Nat->Heap->Prop}
noncomputable abbrev lp (I S:Addr) (kw:List (Str×Value)):Args:={ pos:=[.ref I,.none,.ref S],kw:=kw }
theorem CG (W:Walks prog w A.in1 I fp wr n P St) (bt) (hcmp:CmpOf prog w A.in1 CmpOp.Lt P bt) (S) (hSf:S∉fp):∀ (k j:Nat) (s:Shared) (xs:Array Value) (c:Nat),n - j=k->j<=n->St j s.heap->(j=0/\xs= #[]\/0<j/\∃ v,P (argBest bt (j - 1)) v/\xs= #[v,v]) ->
 s.heap.get? S=some { cls:=.type "list",data:=.seq xs c } ->
 (∀ (v:Value) (h':Heap) (tk:Nat),(n=0/\v=d)\/(0<n/\P (argBest bt (n - 1)) v)->(∀ (b:Addr) (o:Obj),b∉wr->b≠S->s.heap.get? b=some o->h'.get? b=some o)->R (.ok (.ret v)) { heap:=h',gens:=s.gens,drawn:=s.drawn,toks:=tk,os:=s.os }) ->
 codeAny (model prog w) A (.builtin "min.loop" (lp I S [(x,d)])) R s:=by
 have hSw:S∉wr:=λh=>hSf (W.sub S h)
 intro k
 induction k with
 | zero =>
  intro j s xs c hk hj hst hxs hS hR
  have hin:j=n:=by omega
  subst hin
  refine Rt F.entry_min_loop ?_
  rw [RG F.plain_min_loop]
  refine O6 (Rj hS rfl (O6 (UE (W.done s _ _ hst λh' tk hk'=>?_))))
  rcases hxs with ⟨h0,rfl⟩ | ⟨h0,v,hv,rfl⟩
  ·exact O6 (Qy (O8 (hR _ h' tk (.inl ⟨h0,rfl⟩) λb o hb _ e=>hk' b o hb e)))
  ·refine O6 (wpAny_updateSeq (hk' S _ hSw hS) rfl (O6 (RN (O8 ?_))))
   exact hR v _ tk (.inr ⟨h0,hv⟩) λb o hb hn e=>(SI _ _ _ _ hn).trans (hk' b o hb e)
 | succ k ih =>
  intro j s xs c hk hj hst hxs hS hR
  have hlt:j<n:=by omega
  refine Rt F.entry_min_loop ?_
  rw [RG F.plain_min_loop]
  refine O6 (Rj hS rfl (O6 (UE (W.item j s _ _ hlt hst λv h' tk hPv hst' hk'=>?_))))
  have hS':=hk' S _ hSw hS
  refine O6 (O8 ?_)
  have fr:∀ (f:Obj->Obj) (b:Addr) (o:Obj),b∈fp->h'.get? b=some o->(h'.update S f).get? b=some o:=λf b o hb e=>(SI _ _ _ _ λz=>hSf (by rw [<- z]; exact hb)).trans e
  have en:∀ j,j+1 - 1=j:=λ_=>rfl
  rcases hxs with ⟨rfl,rfl⟩ | ⟨h0,vb,hPb,rfl⟩
  ·refine O6 (wpAny_updateSeq hS' rfl ?_)
   refine O8 ⟨rfl,ih 1 _ #[v,v] _ 'o' hlt (W.frame _ _ _ hst' λb hb o e=>fr _ b o hb e) (.inr ⟨Nat.one_pos,v,hPv,rfl⟩) (Vt _ hS' rfl) λv' h2 tk2 hv hk2=>hR v' h2 tk2 hv λb o hb1 hb2 e=>hk2 b o hb1 hb2 ((SI _ _ _ _ hb2).trans (hk' b o hb1 e))⟩
  ·refine O6 (UE (Qw (O6 (hcmp j (argBest bt (j - 1)) v vb _ _ _ hPv hPb ?_))))
   refine O6 (Qw (R5 (O6 (RN (O8 ?_)))))
   obtain ⟨i,rfl⟩:∃ i,j=i+1:=⟨j - 1,by omega⟩
   cases hb:bt (i+1) (argBest bt i)
   ·have est:argBest bt (i+1)=argBest bt i:=by rw [argBest,hb]; rfl
    rw [en,hb]
    refine O6 (RN ?_)
    exact O8 ⟨rfl,ih (i+1+1) _ _ c 'o' hlt hst' (.inr ⟨Nat.succ_pos _,vb,by rw [en,est]; exact hPb,rfl⟩) hS' λv' h2 tk2 hv hk2=>hR v' h2 tk2 hv λb o hb1 hb2 e=>hk2 b o hb1 hb2 (hk' b o hb1 e)⟩
   ·have est:argBest bt (i+1)=i+1:=by rw [argBest,hb]; rfl
    rw [en,hb]
    refine O6 (wpAny_updateSeq hS' rfl (O6 (RN ?_)))
    exact O8 ⟨rfl,ih (i+1+1) _ #[v,v] _ 'o' hlt (W.frame _ _ _ hst' λb hb o e=>fr _ b o hb e) (.inr ⟨Nat.succ_pos _,v,by rw [en,est]; exact hPv,rfl⟩) (Vt _ hS' rfl) λv' h2 tk2 hv hk2=>hR v' h2 tk2 hv λb o hb1 hb2 e=>hk2 b o hb1 hb2 ((SI _ _ _ _ hb2).trans (hk' b o hb1 e))⟩
theorem qh (a d):argsOk "min" ⟨[a],[(O5 "default",d)]⟩:=by rfl'
theorem zw (a d):checkBuiltinCall "min" ⟨[a],[(O5 "default",d)]⟩=(pure ():Sem Unit):=by
 unfold checkBuiltinCall
 rw [show builtinKind "min"=none from F.kind_min]
 exact qh a d
theorem zz
 (h:wpAny (model prog w) A.in1 (pyIter x) (λit s₂=>∃ I fp wr n P St bt,it=.ref I/\Walks prog w A.in1 I fp wr n P St/\St 0 s₂.heap/\(∀ b:Addr,b∈fp->b<s₂.heap.objs.size)/\CmpOf prog w A.in1 CmpOp.Lt P bt /\
   (∀ (v:Value) (h':Heap) (tk:Nat),(n=0/\v=d)\/(0<n/\P (argBest bt (n - 1)) v)->(∀ (b:Addr) (o:Obj),b∉wr->s₂.heap.get? b=some o->h'.get? b=some o)->Q v { heap:=h',gens:=s₂.gens,drawn:=s₂.drawn,toks:=tk,os:=s₂.os })) E s) :
 wpAny (model prog w) A (call (.builtin "min") [x] [(O5 "default",d)]) Q E s:=by
 refine S6 (Vw F.plain_min F.entry_min ?_)
 rw [zw]
 refine O8 ?_
 refine O6 (m:=Builtin.Builtins.bindParams "min" ["key","default"] 0 { kw:=[(O5 "default",d)] }) ?_
 have e:Builtin.Builtins.bindParams "min" ["key","default"] 0 { kw:=[(O5 "default",d)] }=(pure [none,some d]:Sem _):=by rfl'
 rw [e]
 refine O8 (O6 (O8 (O6 (Qd h (λit s₂ hh=>?_) λ_ _ h=>h))))
 ·refine Classical.byContradiction λhG=>?_
  obtain ⟨I,fp,wr,n,P,St0,bt,e1,W,hst,hfp,hcmp,hQ⟩:=hh
  refine hG ?_
  subst e1
  refine O6 (UL ?_)
  have hSf:s₂.heap.objs.size∉fp:=λhm=>QJ _ (hfp _ hm)
  have hS:(s₂.heap.push { cls:=.type "list",data:=.seq #[] }).get? s₂.heap.objs.size=some { cls:=.type "list",data:=.seq #[] }:=Pq _ rfl
  have hst2:St0 0 (s₂.heap.push { cls:=.type "list",data:=.seq #[] }):=W.frame _ _ _ hst λb _ o e=>Pe _ e
  refine O8 ⟨rfl,?_⟩
  exact CG W bt hcmp _ hSf n 0 _ #[] _ rfl (P7 _) hst2 (.inl ⟨rfl,rfl⟩) hS λv h' tk hP hk'=>hQ v h' tk hP λb o hb e=>hk' b o hb (PJ (Pf e)) (Pe _ e)
end
theorem zA (hc:X.calm=true) (I:Inv X aa Z H s) (hq:fZ X.K H p (ns.map V.int))
 (hQ:∀ (m:Int) (t:Tok) (s':Shared),Inv X aa Z H s'->(ns=[]/\m=d)\/(m∈ns/\∀ n∈ns,m<=n)->Q (.int m t) s') :
 wpAny (model X.prog X.w) X.A (call (.builtin "min") [.ref p] [(O5 "default",.int d td)]) Q E s:=by
 obtain ⟨its,rv,pl,hlt⟩:=mj I hq
 have hn:its.toArray.size=ns.length:=by have l:=rv.length; rw [Pc] at l; simp [l]
 refine zz (R6 pl ?_)
 have hh:X.A.in1.handled=none:=I.ok.hd hc
 refine ⟨_,_,_,_,_,_,_,rfl,Walks.list hh s.heap.objs.size p (PJ hlt) its.toArray,⟨⟨_,Pq _ rfl,rfl,rfl⟩,pl.at λo e=>Pe _ e⟩,?_,CmpOf.ints_lt (λi=>ns.getD i 0) (eX rv),?_⟩
 ·intro b hb
  show b<(s.heap.push _).objs.size
  rw [Q7]
  simp only [Pg,QI,or_false] at hb
  rcases hb with rfl | rfl
  ·exact SO _
  ·exact Us hlt
 ·intro v h' tk hP hk
  have J:=oA (s:=s) (tk:=tk) I hk
  rw [hn] at hP
  rcases hP with ⟨h0,rfl⟩ | ⟨h0,hP⟩
  ·exact hQ d td _ J (.inl ⟨U5 h0,rfl⟩)
  ·obtain ⟨t,rfl⟩:=eX rv _ _ hP
   obtain ⟨b1,b2⟩:=argBest_lt (λi=>ns.getD i 0) (ns.length - 1)
   refine hQ _ t _ J (.inr ⟨?_,λn hm=>?_⟩)
   ·rw [Qn,PX 'o']
    exact P0 _
   ·obtain ⟨j,hj,rfl⟩:=VE hm
    have:=b2 j 'o'
    rw [show ns.getD j 0=ns[j] by simp [Qn,hj]] at this
    exact this
section
variable {K:O7} {c:Ctx P w K mg base k N sc bk}
theorem JX (hm:mg "min"=none) (h:aB c e Y λd=>∃ ns:List Int,d=.lst (ns.map D.int)/\∀ m,(ns=[]/\m=dv)\/(m∈ns/\∀ n∈ns,m<=n)->R (.int m))
 (hg:sc.names.lookup (O5 "min")=some .globalImplicit:=by rfl')
 (he:∀ env,starEach [e] env=(false,eval e env)::starEach [] env:=by symm)
 (hpl:∀ env,(backTo pos (starEach [e] env)).any (·.1)=false:=by symm) :
 aB c (.Call (.Name "min" np) [e] [⟨some "default",.Constant (.int dv) j kp1,kp⟩] pos) Y R:=λZ H Hf Q S q aa s I=>by
 have hgl:Gl c.X "min":=by unfold Gl P6; rw [c.esc]; exact hg
 refine Q0 (cX I hgl (by rw [c.emg]; exact hm) (show bootBuiltins "min"=some (.builtin "min") by decide +kernel) ?_ 'd' 'd')
 refine UY ?_ (by rw [he]; rfl) (hpl _)
 have hpa:=bC (X:=c.X) (e:=e) (es:=[]) cI cM (he _)
 refine bL (hpa pos aa s Z H (λvs H1=>∃ x,vs=[x]/\∃ (ns:List Int) (aP:Hp),Rep c.X.K aP (.lst (ns.map D.int)) x/\bz H Hf H1 aP/\∀ m,(ns=[]/\m=dv)\/(m∈ns/\∀ n∈ns,m<=n)->R (.int m)) I ?_) λus s1 hh=>z2 hh λvs H1 hh=>w3 hh λI1 r1 hh=>hh.elim λx hh=>w2 hh λex hh=>z2 hh λns aP hh=>w3 hh λe1 e8 e9=>?_
 ·exact h Z H Hf _ S λd v H1 aP ⟨ns,hp,hR⟩ rv g=>⟨_,rfl,ns,aP,by rw [<- hp]; exact rv,g,hR⟩
 ·subst ex
  obtain ⟨a0,ys,rfl,hs,hr⟩:=bh.mp e1
  rw [iD hr] at hs
  have eu:us=[.ref a0]:=by
   cases r1 with
   | cons q1 q2=>cases q2; cases q1; rfl
  subst eu
  refine kws_cons (bL (zY (X:=c.X) (i:=dv) (j:=j) (pos:=kp1) aa s1 Z _ (λx H2=>x=.int dv/\H2=H1) I1 ⟨rfl,rfl⟩) λkv s2 ⟨x,H2,I2,rx,e10,e11⟩=>kws_nil ?_)
  subst e10 e11
  obtain ⟨td,rfl⟩:∃ td,kv=.int dv td:=rx
  exact zA c.calm I2 (e8.b.seq hs) λm t s' I3 hm=>⟨.int m,_,I3,⟨t,rfl⟩,q (.int m) _ _ aP (e9 m hm) (au.mpr rfl) e8⟩
end
section
variable {K:O7} {c:Ctx P w K mg base k N sc bk}
theorem FQ (hNi:At N i x) (hNj:At N j y) (h:dU c e Y λr=>∃ ds d,r=.fo (.t [.l ds,.v d])/\Nx Y i (λY'=>Nx Y' j nx (.va d)) (.ow ds))
 (hs:∀ env,swapsWithSole [.Tuple [.Name x px,.Name y py] kt pt] e pos.line env=pure false:=by symm) (hw:∀ env,swappedStores [.Tuple [.Name x px,.Name y py] kt pt] e env=pure none:=by symm) (h1:∀ env,(assignEach [.Tuple [.Name x px,.Name y py] kt pt] env).map (·.2)=[assign (.Tuple [.Name x px,.Name y py] kt pt) env]:=by symm)
 (hfi:bk=false\/sc.names.lookup x=some .local:=by first | exact .inl rfl | exact .inr (by rfl')) (hfj:bk=false\/sc.names.lookup y=some .local:=by first | exact .inl rfl | exact .inr (by rfl'))
 (hn:∀ env,(assignEach [.Name x px,.Name y py] env).length=2:=by symm) (hst:∀ env,(assignEach [.Name x px,.Name y py] env).findIdx? (·.1)=none:=by symm)
 (ha1:∀ env,(assignEach [.Name x px,.Name y py] env).map (·.2)=assign (.Name x px) env::(assignEach [.Name y py] env).map (·.2):=by symm) (ha2:∀ env,(assignEach [.Name y py] env).map (·.2)=assign (.Name y py) env::(assignEach [] env).map (·.2):=by symm) :
 fm c (.Assign [.Tuple [.Name x px,.Name y py] kt pt] e pos) Y nx p:=λZ H Hf D S o =>
 cO (uc cI N8 (hs _) (hw _) (h1 _)) (h Z H Hf _ S λr v H' aj ⟨ds,d,er,Y1,hs1,Y2,hs2,hnx⟩ rs g=>by
  subst er
  obtain ⟨fp,rf,nd,fr⟩:=rs
  simp only [cZ,aZ] at rf
  obtain ⟨a,xs,rfl,hsq,x1,r1,f1,f2,rfl,⟨q,ys,rfl,q1,q2,q3,rfl⟩,⟨x2,r2,f3,f4,rfl,⟨rd,rfl⟩,⟨rfl,rfl⟩,rfl⟩,rfl⟩:=rf
  intro aa s u I rv
  have fq:H q=none:=fr (q,ys) 'p'
  have g2:=ku (o:=.lst ys) g fq q2
  have S1:=S.set (i:=i) g2 (r:=.ow ds) (v:=.ref q) ⟨q,ys,rfl,fq,ah,q2,q3⟩
  have S2:=S1.set (i:=j) (.refl g2.b) (r:=.va d) (v:=x2) rd
  rw [<- hs1.eq,<- hs2.eq] at S2
  refine vM (Ac (X:=c.X) (k:=kt) (n:=2) c.calm (kQ (iL (X:=c.X) (i:=i) (by rw [c.eN]; exact c.nd) (by rw [c.eN]; exact hNi.get) (by rw [c.esc]; exact c.vis x hNi.mem) (c.fn x hfi)) (kQ (iL (X:=c.X) (i:=j) (by rw [c.eN]; exact c.nd) (by rw [c.eN]; exact hNj.get) (by rw [c.esc]; exact c.vis y hNj.mem) (c.fn y hfj)) vD (ha2 _)) (ha1 _)) (hn _) (hst _)) ⟨a,_,rfl,az g2.b hsq,rfl,_,_,rfl,_,_,rfl,rfl,?_⟩ aa s u (JM I q1) rv
  exact o.nx _ _ aj Y2 S2 hnx)
theorem JY (hNi:At N i x) (hi:At Y i (.ow ds)) (hNj:At N j y) (hj:At Y j (.va d)) (h:p.rt (.fo (.t [.l ds,.v d])))
 (hdx:Ndb x:=by decide) (hcx:Ncd x:=by decide) (hdy:Ndb y:=by decide) (hcy:Ncd y:=by decide)
 (hs1:∀ env,starEach [.Name x px,.Name y py] env=(false,eval (.Name x px) env)::starEach [.Name y py] env:=by symm) (hs2:∀ env,starEach [.Name y py] env=(false,eval (.Name y py) env)::starEach [] env:=by symm) :
 fm c (.Return (some (.Tuple [.Name x px,.Name y py] kt pt)) pos) Y nx p:=λZ H Hf D S o aa s I=>by
 obtain ⟨v1,e1,q,xs,rfl,fq,q1,q2,q3⟩:=S.at_ i _ hi.get (by intro z; cases z)
 obtain ⟨v2,e2,rd⟩:=S.va hj.get
 have G:=ku (o:=pl q xs) S.bas fq q2
 refine cO (t8 (Ak (bC (kO (X:=c.X) (i:=i) (by rw [c.eN]; exact hNi.get) (by rw [c.esc]; rcases c.vis x hNi.mem with h | h; exact .inl h; exact .inr (.inl h)) hdx hcx) (bC (kO (X:=c.X) (i:=j) (by rw [c.eN]; exact hNj.get) (by rw [c.esc]; rcases c.vis y hNj.mem with h | h; exact .inl h; exact .inr (.inl h)) hdy hcy) cM (hs2 _)) (hs1 _)))) ⟨_,e1,_,e2,Vs rfl,λa ha=>?_⟩ aa s (JL I q1)
 have g2:=bz.new G.b ha (o:=.tup [.ref q,v2])
 have hqa:q≠a:=λz=>by subst z; rw [ah] at ha; cases ha
 refine o.rt (.fo (.t [.l ds,.v d])) _ _ _ (G.trans g2) ⟨[(q,xs)],?_,by simp,λb hb=>by obtain rfl:=Pk.mp hb; exact fq⟩ h
 simp only [cZ,aZ]
 exact ⟨a,_,rfl,.inl (.inl ah),_,_,[_],_,rfl,⟨q,xs,rfl,by rw [ai hqa]; exact ah,by rw [ai hqa]; exact q2,q3.mono g2.f,rfl⟩,⟨_,_,_,_,rfl,⟨rd.mono g2.f,rfl⟩,⟨rfl,rfl⟩,rfl⟩,rfl⟩
end
end EV
namespace My
open PySem PySem.Spec PyProof.Rows L2 EV
noncomputable abbrev top (i:Nat):Stmt:=PySem.Challenge.pw_everydraw_k08_polynomials_divided.main.body.getD i (.Pass ⟨0,0,0,0⟩)
theorem u0:FS ["powers","end"] ["powers"] (top 20):=by decide +kernel
theorem tF:FS ["powers","k"] ["powers","k"] (top 21):=by decide +kernel
theorem u5:FS ["terms","total","powers","number","bare"] ["terms"] (top 22):=by decide +kernel
theorem tG:FS ["one","other"] ["one","other"] (top 23):=by decide +kernel
theorem iF:FS ["some","greatest","powers","number","k","power"] ["some"] (top 24):=by decide +kernel
theorem qi:FS ["one","other","most"] ["one","other"] (top 25):=by decide +kernel
theorem zB:FS ["powers","width","key","power"] ["powers","width"] (top 26):=by decide +kernel
theorem qj:FS ["key","width","mask"] ["key","width"] (top 27):=by decide +kernel
theorem zC:FS ["some","width"] ["some","width"] (top 28):=by decide +kernel
theorem tH:FS ["total","width"] ["total","width"] (top 29):=by decide +kernel
theorem j4:FS ["total","left","right","key","number","shift","part","whole"] ["total","left","right"] (top 30):=by decide +kernel
theorem nv:FS ["one","other","width","total"] ["one","other"] (top 31):=by decide +kernel
theorem tK:FS ["one","other"] ["one","other"] (top 32):=by decide +kernel
theorem u6:FS ["powers","number","lead","room","rest","k","power"] ["powers","number","lead","room"] (top 33):=by decide +kernel
theorem mH:FS ["waiting","key","low","high","middle"] ["waiting","key"] (top 34):=by decide +kernel
theorem qk:FS ["left","waiting","factor","shift","number","key","part","whole"] ["left","waiting","factor","shift","number"] (top 35):=by decide +kernel
theorem nA:FS ["one","other","width","room","lead","behind","left","waiting","quotient","key","term"] ["one","other"] (top 36):=by decide +kernel
theorem u7:FS ["_law_found"] ["_law_found"] (top 38):=by decide +kernel
theorem u9:FS ["_law_caught","_law_flags_here"] ["_law_caught"] (top 39):=by decide +kernel
theorem zD:FS ["_law_caught","_law_name","_law_names"] ["_law_caught","_law_name"] (top 40):=by decide +kernel
theorem zE:FS ["_law_script","_law_k"] ["_law_script","_law_k"] (top 41):=by decide +kernel
theorem vc:FS ["_law_cell_here","_law_k","_law_many","_law_number"] ["_law_cell_here","_law_k","_law_many"] (top 42):=by decide +kernel
theorem zF:FS ["_law_cell_here","_law_size","_law_most","_law_rest","_law_powers","_law_k"] ["_law_cell_here","_law_size","_law_most"] (top 43):=by decide +kernel
theorem ql:FS ["_law_powers","_law_found"] ["_law_powers"] (top 44):=by decide +kernel
theorem CH:FS ["_law_terms","_law_counts","_law_powers","_law_number","_law_short"] ["_law_terms"] (top 45):=by decide +kernel
theorem qm:FS ["_law_one","_law_other","_law_terms","_law_left","_law_first","_law_right","_law_second","_law_wide","_law_powers"] ["_law_one","_law_other"] (top 46):=by decide +kernel
theorem zG:FS ["_law_found","_law_due","_law_one","_law_other"] ["_law_found","_law_due"] (top 47):=by decide +kernel
theorem vd:FS ["_law_one","_law_other","_law_found","_law_caught","e"] ["_law_one","_law_other"] (top 48):=by decide +kernel
theorem nB:FS ["_law_term_here","_law_other","_law_wide","_law_left","_law_right","_law_powers"] ["_law_term_here","_law_other"] (top 49):=by decide +kernel
theorem zH:FS ["_law_one","_law_other","_law_due","_law_handed","_law_found","_law_caught"] ["_law_one","_law_other","_law_due"] (top 50):=by decide +kernel
theorem jc:FS ["_law_some"] ["_law_some"] (top 51):=by decide +kernel
theorem JZ:FS ["_law_script","_law_cell_here","_law_part","_law_one","_law_other","_law_both","_law_term_here","_law_more","_law_due"] ["_law_script"] (top 52):=by decide +kernel
local macro_rules | `(tactic| walk_at "side")=> `(tactic| first | lia | assumption | exact pO | exact rB (Vs rfl) | exact AR 'd' (by decide +kernel) | (show Ai _ _; exact ⟨by decide,by decide,by decide +kernel⟩))
local macro_rules | `(tactic| walk_at "at")=> `(tactic| with_reducible (repeat (first | exact At.z | apply At.s)))
local macro_rules | `(tactic| walk_at "sset")=> `(tactic| with_reducible (repeat (first | exact SSet.z | apply SSet.s)))
local macro_rules | `(tactic| walk_at "atI")=> `(tactic| first | assumption | rfl)
local macro_rules | `(tactic| walk_at "own")=> `(tactic| walk_at "u")
local macro_rules | `(tactic| walk_at "evSs")=> `(tactic| first
 | with_reducible refine aJ ?_
 | with_reducible refine dF ?_)
local macro_rules | `(tactic| walk_at "evS")=> `(tactic| first
 | ((with_reducible show fm _ (UZ [Pw _ _] _ _) _ _ _); with_reducible refine iO 'a' ?_)
 | ((with_reducible show fm _ (Stmt.If _ _ _ _) _ _ _); walk_at "evIf")
 | ((with_reducible show fm _ (Stmt.Expr _ _) _ _ _); walk_at "evXp")
 | ((with_reducible show fm _ (Stmt.Return (some (Pw _ _)) _) _ _ _); with_reducible refine rA 'a' 'a' rfl ?_)
 | ((with_reducible show fm _ (Stmt.Return (some _) _) _ _ _); with_reducible refine jR ?_)
 | ((with_reducible show fm _ (Stmt.Return none _) _ _ _); with_reducible refine s_retN ?_)
 | ((with_reducible show fm _ (UG (Pw _ _) US _ _) _ _ _); with_reducible refine s_addq 'a' 'a' ?_)
 | ((with_reducible show fm _ (UG (Pw _ _) Operator.Sub _ _) _ _ _); with_reducible refine IG 'a' 'a' ?_)
 | ((with_reducible show fm _ (UG (QX (Pw _ _) _ _) US _ _) _ _ _); with_reducible refine wc 'a' 'a' ?_)
 | ((with_reducible show fm _ (UZ [T5 [Pw _ _,Pw _ _] _ _] (T5 [_,_] _ _) _) _ _ _); with_reducible refine s_par 'a' 'a' 'd' ?_)
 | ((with_reducible show fm _ (UZ [T5 _ _ _] _ _) _ _ _); with_reducible refine LQ ?_)
 | ((with_reducible show fm _ (UZ [QX (Pw _ _) _ _] _ _) _ _ _); walk_at "evPut")
 | with_reducible refine s_break ?_
 | with_reducible refine s_continue ?_
 | with_reducible refine s_pass ?_)
local macro_rules | `(tactic| walk_at "evIf")=> `(tactic| with_reducible refine Er ?_)
local macro_rules | `(tactic| walk_at "evXp")=> `(tactic| with_reducible refine IX 'a' 'a' 'w' ?_)
local macro_rules | `(tactic| walk_at "evPut")=> `(tactic| with_reducible refine Bl 'a' 'a' ?_ (ho:=by walk_at "own"))
local macro_rules | `(tactic| walk_at "evK")=> `(tactic| first
 | with_reducible refine Lw ?_
 | with_reducible refine N9 ?_
 | with_reducible refine Lx ?_
 | with_reducible refine Ly ?_)
local macro_rules | `(tactic| walk_at "evCm")=> `(tactic| first
 | with_reducible refine LZ ?_
 | with_reducible refine e_notN ?_
 | with_reducible refine e_lt ?_
 | with_reducible refine Og ?_
 | with_reducible refine e_ne ?_)
local macro_rules | `(tactic| walk_at "evIx")=> `(tactic| first
 | ((with_reducible show aB _ (QX _ (Expr.Slice _ _ _ _) _) _ _); with_reducible refine Ba ?_)
 | ((with_reducible show aB _ (QX (Pw _ _) _ _) _ _); with_reducible refine Mf 'a' 'a' 'w' 's' ?_ 'a')
 | ((with_reducible show aB _ (QX (Pw _ _) _ _) _ _); with_reducible refine v9 'a' 'a' ?_)
 | with_reducible refine v8 ?_)
local macro_rules | `(tactic| walk_at "evBo")=> `(tactic| first
 | with_reducible refine IU ?_
 | with_reducible refine GP ?_
 | with_reducible refine LC ?_
 | with_reducible refine LD ?_
 | with_reducible refine IE ?_
 | with_reducible refine LF ?_)
local macro_rules | `(tactic| walk_at "evCa")=> `(tactic| first
 | ((with_reducible show aB _ (Qk (Expr.Attribute _ _ _) _ _ _) _ _); walk_at "evMt")
 | ((with_reducible show aB _ (Qk (Pw "isinstance" _) _ _ _) _ _); first
  | with_reducible refine iu (Txt.isin 'm') (Txt.Mg 'm') ?_
  | with_reducible refine iu (Txt.isin 'm') (Txt.EL 'm') ?_
  | with_reducible refine iu (Txt.isin 'm') (Txt.Jd 'm') ?_
  | with_reducible refine iu (Txt.isin 'm') (Txt.Jc 'm') ?_)
 | ((with_reducible show aB _ (Qk (Pw "len" _) _ _ _) _ _); first
  | ((with_reducible show aB _ (Qk _ [Pw _ _] _ _) _ _); with_reducible refine Ja (Txt.len 'm') 'a' 'a' 'w' 's' ?_)
  | with_reducible refine e_len (Txt.len 'm') ?_)
 | ((with_reducible show aB _ (Qk (Pw "tuple" _) _ _ _) _ _); first
  | ((with_reducible show aB _ (Qk _ [Pw _ _] _ _) _ _); with_reducible refine Bq (Txt.tuple 'm') 'a' 'a' 'w' 's' ?_)
  | with_reducible refine vZ (Txt.tuple 'm') ?_)
 | ((with_reducible show aB _ (Qk (Pw "abs" _) _ _ _) _ _); with_reducible refine e_abs (Txt.abs 'm') ?_)
 | ((with_reducible show aB _ (Qk (Pw "int" _) _ _ _) _ _); with_reducible refine e_intB (Txt.int 'm') ?_))
local macro_rules | `(tactic| walk_at "evMt")=> `(tactic| with_reducible refine IY 'a' 'a' ?_ (ho:=by walk_at "own"))
local macro_rules | `(tactic| walk_at "evE")=> `(tactic| first
 | ((with_reducible show aB _ (Pw _ _) _ _); with_reducible refine rm 'a' 'a' ?_)
 | ((with_reducible show aB _ (Expr.Constant _ _ _) _ _); walk_at "evK")
 | ((with_reducible show aB _ (Qk _ _ _ _) _ _); walk_at "evCa")
 | ((with_reducible show aB _ (QX _ _ _) _ _); walk_at "evIx")
 | ((with_reducible show aB _ (Rz _ _ _ _) _ _); walk_at "evBo")
 | ((with_reducible show aB _ (Expr.Compare _ _ _ _) _ _); walk_at "evCm")
 | with_reducible refine LP ?_
 | with_reducible refine IV ?_
 | with_reducible refine LG ?_
 | with_reducible refine LN ?_
 | with_reducible refine LM ?_
 | with_reducible refine e_or ?_
 | with_reducible refine LL ?_
 | with_reducible refine Ep ?_)
local macro_rules | `(tactic| walk_at "evX")=> `(tactic| first
 | ((with_reducible show dU _ (Expr.List _ _) _ _); with_reducible refine GS ?_)
 | ((with_reducible show dU _ (Qk _ _ _ _) _ _); walk_at "evXC")
 | ((with_reducible show dU _ (Rz _ US _ _) _ _); with_reducible refine GZ ?_)
 | ((with_reducible show dU _ (QX _ (Expr.Slice _ _ _ _) _) _ _); with_reducible refine v5 ?_)
 | with_reducible refine M7 ?_)
local macro_rules | `(tactic| walk_at "evXC")=> `(tactic| first
 | ((with_reducible show dU _ (Qk (Pw "list" _) _ _ _) _ _); first
  | ((with_reducible show dU _ (Qk _ [Pw _ _] _ _) _ _); with_reducible refine x_listO (Txt.list 'm') 'a' 'a' 'w' 's' ?_)
  | with_reducible refine uB (Txt.list 'm') ?_)
 | with_reducible refine M7 ?_)
local macro_rules | `(tactic| walk_at "evT")=> `(tactic| first
 | ((with_reducible show gZ _ (Expr.Compare _ _ _ _) _ _); first
  | with_reducible refine L5 ?_
  | with_reducible refine IL ?_
  | with_reducible refine Of ?_
  | with_reducible refine Oe ?_
  | with_reducible refine Oa ?_
  | with_reducible refine t_le ?_
  | with_reducible refine Ob ?_
  | with_reducible refine t_ge ?_
  | with_reducible refine G2 'a' 'a' ?_
  | with_reducible refine rM 'a' 'a' ?_)
 | with_reducible refine LK ?_
 | with_reducible refine OH (w_and ?_)
 | with_reducible refine OH (w_or ?_)
 | with_reducible refine LO ?_)
local macro_rules | `(tactic| walk_at "evW")=> `(tactic| first
 | with_reducible refine w_and ?_
 | with_reducible refine w_or ?_
 | with_reducible refine IF ?_
 | with_reducible refine LJ ?_)
local macro_rules | `(tactic| walk_at "evG")=> `(tactic| first
 | ((with_reducible show nh _ (Pw _ _) _ _ _); with_reducible refine fj 'a' ?_)
 | with_reducible refine AQ rfl (by rfl') ?_)
local macro_rules | `(tactic| walk_at "evGs")=> `(tactic| first
 | with_reducible refine AO ?_
 | ((with_reducible show yv _ (_::_) _ _ _); with_reducible refine pG 'a' ?_))
local macro_rules | `(tactic| walk_at "evL")=> `(tactic| first
 | ((with_reducible show Nx _ _ _ _); with_reducible refine j0 's' ?_)
 | ((with_reducible show Sd _ _); first | with_reducible refine Sd.mk (by walk_at "side") ?_ | with_reducible refine Sd.mk ?_ ?_)
 | ((with_reducible show g6 _ _ _); first
  | with_reducible refine LA ?_
  | with_reducible refine LB ?_
  | with_reducible refine Ej ?_
  | with_reducible refine Ei (λh=>?_) (λh=>?_)
  | with_reducible refine if2 (λh=>?_) (λh=>?_))
 | with_reducible refine i2 ?_
 | with_reducible refine i1 ?_
 | with_reducible refine b1 ?_
 | ((with_reducible show vN _ _ _); first
  | with_reducible refine Ek ?_
  | with_reducible refine eqp_bl ?_
  | with_reducible refine El ?_)
 | ((with_reducible show lG _ _ _); first
  | with_reducible refine Bb ?_
  | with_reducible refine Bc ?_
  | with_reducible refine Be ?_)
 | ((with_reducible show IC _ _); first
  | with_reducible refine v7 ?_
  | with_reducible refine gm ?_)
 | ((with_reducible show GX _ _); first
  | with_reducible refine LY ?_
  | with_reducible refine vX (by intro q; cases q) ?_)
 | ((with_reducible show KY _ _ _); first
  | refine nQ (by rfl) ?_
  | refine nP (by rfl) ?_)
 | ((with_reducible show IS _ _ _ _); first
  | with_reducible refine EV.IS.lst ?_
  | with_reducible refine EV.IS.tup ?_)
 | ((with_reducible show ∃ ys,D.row _=some ys/\_); refine IW (by rfl) ?_)
 | ((with_reducible show ∃ t b,yy _ _ t/\_); first
  | with_reducible refine DE .int Je ?_
  | with_reducible refine DE .int (Txt.ib 'm') ?_
  | with_reducible refine DE .bl kit_bb ?_
  | with_reducible refine DE .lst Jg ?_
  | with_reducible refine DE .tup Jf ?_)
 | ((with_reducible show ∃ j d,D.int _=D.int j/\_); refine ⟨_,_,rfl,(by walk_at "atI"),?_⟩)
 | ((with_reducible show ∃ r,_/\KW _ _ _ r); walk_at "evR"))
local macro_rules | `(tactic| walk_at "ev1")=> `(tactic| first
 | ((with_reducible show aB _ _ _ _); walk_at "evE")
 | ((with_reducible show dU _ _ _ _); walk_at "evX")
 | ((with_reducible show gZ _ _ _ _); walk_at "evT")
 | ((with_reducible show aU _ _ _ _ _); walk_at "evSs")
 | ((with_reducible show fm _ _ _ _ _); walk_at "evS")
 | ((with_reducible show rj _ _ _ _); first | with_reducible refine c6 ?_ | with_reducible refine iN ?_)
 | ((with_reducible show GR _ _ _ _); walk_at "evW")
 | ((with_reducible show nh _ _ _ _ _); walk_at "evG")
 | ((with_reducible show yv _ _ _ _ _); walk_at "evGs")
 | ((with_reducible show IM _ _ _ _); first | with_reducible refine IP ?_ | with_reducible refine IQ ?_)
 | walk_at "evL")
local macro_rules | `(tactic| walk_at "ev")=> `(tactic| repeat' (walk_at "ev1"))
local macro_rules | `(tactic| walk_at "nx")=> `(tactic| (refine aJ ?_; generalize hG:(λY'=>aU _ _ Y' _ _)=G; rw?))
local macro_rules | `(tactic| walk_at "sb")=> `(tactic| (cases ‹(_:List Sl->Prop)=_›))
section
variable {K:O7}
theorem fW (h:n<=1000000):n<sizeLine:=R4 h 'd'
theorem mY (h:n<=1000000):n<=sizeLine:=Rx (fW h)
noncomputable def ie:Fn:=λds r=>∃ l:List Int,l.length<=64/\ds=[.tup (l.map .int)]/\r=.ok (.va (.tup ((trim l).map .int)))
theorem ve (h:l.length<=64):ie [.tup (l.map .int)] (.ok (.va (.tup ((trim l).map .int)))):=⟨l,h,rfl,rfl⟩
theorem tL {cl:List Int} {j:Int} (h0:0<=j) (h1:j<cl.length) (h:R (.int (cl.getD j.toNat 0))):KY (.tup (cl.map D.int)) (.int j) R:=by
 refine nQ ?_ h
 rw [gJ h0 (by simpa using h1)]
 have hj:j.toNat<cl.length:=by lia
 simp [Pr,hj]
theorem FT (Fu:d9 K "trimmed" "trimmed" (top 20) f fd) (T:Txt K mg):bw P w K mg base (cN P w) 1 f fd ["powers"] (eE K ie):=by
 refine cP Fu u0 (by rintro ds r ⟨a,_,rfl,_⟩; rfl) (by rintro ds r ⟨a,_,_,rfl⟩; exact ⟨_,rfl⟩) λc hq ds sl hF=>?_
 obtain ⟨l,hl,rfl,e⟩:=hF
 injection e with e
 subst e
 show aU c _ [.va (.tup (l.map .int)),.un] _ _
 conv in (ay _)=>whnf
 rw?
 with_reducible refine kj hq (λm Y'=>m<=l.length/\trim (l.take m)=trim l/\Y'=[.va (.tup (l.map .int)),.va (.int (m:Int))]) (m₀:=l.length) ?_ ?_
 ·refine ⟨O9 _,by rw [QH],?_⟩
  rw [Pc]
 ·rintro m Y' ⟨hm,ht,rfl⟩
  rw?
  ·refine tL 'l' 'l' ?_
   have hk:((m:Int) - 1).toNat=m - 1:=by lia
   rw [hk]
   have hm1:m - 1+1=m:=by lia
   rw?
   ·exact ⟨m - 1,by lia,by lia,oj 'l' 'm' (by rw [hm1]; exact ht),by rw [show ((m - 1:Nat):Int)=(m:Int) - 1 by lia]⟩
   ·show Sl.va _=Sl.va _
    rw [gn,BX _ hm]
    have:=om (l:=l) (m:=m - 1) 'l' 'm' (by rw [hm1]; exact ht)
    rw [hm1] at this
    rw [this]
  ·show Sl.va _=Sl.va _
   have:m=0:=by lia
   subst this
   rw [gn,BX _ hm,<- ht]
   rfl
noncomputable def thing (a k m:Int):Int :=
 ((a % 2147483647 * 48271+69621 * k * k+7 * k) % 2147483629 * ((a % 2147483647 * 48271+69621 * k * k+7 * k) % 2147483629) % 2147483587) * ((a % 2147483647 * 48271+69621 * k * k+7 * k) % 2147483629 * ((a % 2147483647 * 48271+69621 * k * k+7 * k) % 2147483629) % 2147483587+48271) % 2147483563 % m
theorem jd (a k) (h:0<m):0<=thing a k m/\thing a k m<m:=⟨Int.emod_nonneg _ 'l',Int.emod_lt_of_pos _ h⟩
noncomputable def qo:Fn:=λds r=>∃ a k m:Int,0<m/\m.natAbs<2 ^ 63/\k.natAbs<2 ^ 40/\ds=[.int a,.int k,.int m]/\r=.ok (.va (.int (thing a k m)))
theorem FU (hm:0<m) (h2:m.natAbs<2 ^ 63) (hk:k.natAbs<2 ^ 40):qo [.int a,.int k,.int m] (.ok (.va (.int (thing a k m)))):=⟨a,k,m,hm,h2,hk,rfl,rfl⟩
theorem CI (Fu:d9 K "_law_thing" "_law_thing" (top 42) f fd) (T:Txt K mg):bw P w K mg base (cN P w) 1 f fd ["_law_cell_here","_law_k","_law_many"] (eE K qo):=by
 refine cP Fu vc (by rintro ds r ⟨a,k,m,_,_,_,rfl,_⟩; rfl) (by rintro ds r ⟨a,k,m,_,_,_,_,rfl⟩; exact ⟨_,rfl⟩) λc hq ds sl hF=>?_
 obtain ⟨a,k,m,hm,hm2,hk,rfl,e⟩:=hF
 injection e with e
 subst e
 show aU c _ [.va (.int a),.va (.int k),.va (.int m),.un] _ _
 conv in (ay _)=>whnf
 rw?
 all_goals first
  | exact jV 'l'
  | exact dv_few hm hm2
  | rfl
  | trace_state
noncomputable def qp:Fn:=λds r=>∃ n:Int,ds=[.int n]/\r=.ok (.va (.bl true))
theorem FW (n):qp [.int n] (.ok (.va (.bl true))):=⟨n,rfl,rfl⟩
theorem CJ (Fu:d9 K "_law_whole" "_law_whole" (top 38) f fd) (T:Txt K mg):bw P w K mg base (cN P w) 1 f fd ["_law_found"] (eE K qp):=by
 refine cP Fu u7 (by rintro ds r ⟨a,rfl,_⟩; rfl) (by rintro ds r ⟨a,_,rfl⟩; exact ⟨_,rfl⟩) λc hq ds sl hF=>?_
 obtain ⟨a,rfl,e⟩:=hF
 injection e with e
 subst e
 show aU c _ [.va (.int a)] _ _
 conv in (ay _)=>whnf
 rw?
 rfl
theorem je {α β γ :Type} {f:α->β} {g:α-> γ} {L:List α} {i:Nat} {d:β} {o: γ} (hd:(L.map f)[i]?=some d) (ho:(L.map g)[i]?=some o):∃ x,L[i]?=some x/\d=f x/\o=g x:=by
 simp only [Pr,PD] at hd ho
 obtain ⟨x,hx,rfl⟩:=hd
 obtain ⟨x',hx',rfl⟩:=ho
 rw [hx] at hx'; cases hx'
 exact ⟨x,hx,rfl,rfl⟩
theorem qu (x):(af x).nl:=uG (by unfold D.uF; exact ⟨uG (kB _),fR (f:=D.int) (l:=[x.2]) λ_ _=>pO⟩)
noncomputable def tX (t:aG):Option D:=if t.2≠0 then some (af t) else none
theorem jf:∀ L:List aG,(L.map tX).filterMap id=(nz L).map af
 | []=>rfl
 | t::L=>by
  unfold nz
  by_cases h:t.2=0
  ·simp only [Pn,tX,h,ne_eq,not_true,if_false,SH,id,VZ,bne_self_eq_false,Qp]
   exact jf L
  ·have hb:(t.2 != 0)=true:=by simpa using h
   rw [VZ,if_pos hb,Pn,Pn,SH]
   simp only [tX,ne_eq,h,not_false_eq_true,if_true,id]
   rw [jf L]; rfl
noncomputable def j5:Fn:=λds r=>∃ ts:List aG,ts.length<=400000/\(∀ t∈ts,t.1.length<=64)/\ds=[.lst (ts.map af)]/\r=.ok (.ow ((gX (nz (aY ts))).map af))
theorem iG (h:ts.length<=400000) (h2:∀ t∈ts,t.1.length<=64):j5 [.lst (ts.map af)] (.ok (.ow ((gX (nz (aY ts))).map af))):=⟨ts,h,h2,rfl,rfl⟩
section
local macro_rules | `(tactic| walk_at "evX")=> `(tactic| first | ((with_reducible show dU _ (Expr.Dict _ _ _) _ _); with_reducible refine EG ?_))
local macro_rules | `(tactic| walk_at "evCa")=> `(tactic| first | with_reducible refine aX (F:=ie) 'm' 'd' ?_)
local macro_rules | `(tactic| walk_at "evR")=> `(tactic| first | with_reducible refine aO (ve ?_) ?_)
theorem FY (Fu:d9 K "poly_of" "poly_of" (top 22) f fd) (T:Txt K mg) (h1:fk P w K mg base 1 "trimmed" ie):bw P w K mg base (cN P w) 2 f fd ["terms"] (eE K j5):=by
 refine cP Fu u5 (by rintro ds r ⟨n,_,_,rfl,_⟩; rfl) (by rintro ds r ⟨n,_,_,_,rfl⟩; exact ⟨_,rfl⟩) λc hq ds sl hF=>?_
 obtain ⟨ts,hl,hlen,rfl,e⟩:=hF
 injection e with e
 subst e
 show aU c _ [.va (.lst (ts.map af)),.un,.un,.un,.un] _ _
 conv in (ay _)=>whnf
 rw?
 with_reducible refine eS hq (dh ?_)
 rw?
 refine ⟨λi Y'=>∃ s2 s3 s4:Sl,Y'=[.va (.lst (ts.map af)),.oT (encA (aY (ts.take i))),s2,s3,s4],⟨_,_,_,rfl⟩,?_,?_⟩
 ·rintro c' x9 DK DL i d Y' hd ⟨s2,s3,s4,rfl⟩
  simp only [Pr,PD] at hd
  obtain ⟨t,ht,rfl⟩:=hd
  obtain ⟨hi,rfl⟩:=Po.mp ht
  have h6:=hlen _ (P0 hi)
  have hsz:(aY (ts.take i)).length<sizeLine:=fW (by have:=fU (ts.take i); rw [Qf] at this; lia)
  show nh c' _ (D.tup [.tup (ts[i].1.map .int),.int ts[i].2]) _ _
  rw?
  ·exact h6
  rw?
  refine ⟨_,B0 (A:=aY (ts.take i)) rfl _,?_⟩
  rw [sN]
  rw?
  refine ⟨_,B3 hsz,?_⟩
  rw?
  have e:aY (ts.take (i+1))=putD (aY (ts.take i)) (trim ts[i].1) ((aM (aY (ts.take i)) (trim ts[i].1)).getD 0+ts[i].2):=by
   rw [QZ hi,l9]; rfl
  show ∃ s2 s3 s4:Sl,_=[_,Sl.oT (encA (aY (ts.take (i+1)))),s2,s3,s4]
  rw [e]
  exact ⟨_,_,_,rfl⟩
 ·rintro Y' ⟨s2,s3,s4,rfl⟩
  rw [Pc,QH]
  have hn:=keys_nodup (gv ts)
  with_reducible refine aJ ?_
  with_reducible refine jR ?_
  refine dX hq (N':=["term"]) (Y0:=λ_=>[.un]) (λt=>.un .nil) ?_
  refine dh (e_x (pU 1 'a' (encK _) 's' (sJ (Txt.sorted T) ?_)))
  rw?
  refine ⟨_,oq _,hn,λL' hp hs=>?_⟩
  have eL:=uN hn hp hs
  subst eL
  refine ⟨fR λx _=>qu x,gm (IW rfl ⟨?_,(gX (aY ts)).map tX,by simp,?_,?_⟩)⟩
  ·exact mY (by rw [Pc]; have:=(ck (aY ts)).length_eq; have:=fU ts; lia)
  ·intro c' hc t i d o hd ho
   obtain ⟨x,hx,rfl,rfl⟩:=je hd ho
   refine fj 'a' (j0 's' ⟨.un .nil,?_⟩)
   show kr c' _ [.va (.tup [.tup (x.1.map .int),.int x.2])] _
   simp only [kr]
   rw?
   all_goals first
    | (show tX x=some (af x); unfold tX; rw [if_pos 'm'])
    | (show tX x=none; unfold tX; rw [if_neg λh=>h 'm'])
  ·rw [jf,BZ hn]
theorem FZ (Fu:d9 K "_law_sum" "_law_sum" (top 45) f fd) (T:Txt K mg) (h1:fk P w K mg base 1 "_law_trimmed" ie):bw P w K mg base (cN P w) 2 f fd ["_law_terms"] (eE K j5):=by
 refine cP Fu CH (by rintro ds r ⟨n,_,_,rfl,_⟩; rfl) (by rintro ds r ⟨n,_,_,_,rfl⟩; exact ⟨_,rfl⟩) λc hq ds sl hF=>?_
 obtain ⟨ts,hl,hlen,rfl,e⟩:=hF
 injection e with e
 subst e
 show aU c _ [.va (.lst (ts.map af)),.un,.un,.un,.un] _ _
 conv in (ay _)=>whnf
 rw?
 with_reducible refine eS hq (dh ?_)
 rw?
 refine ⟨λi Y'=>∃ s2 s3 s4:Sl,Y'=[.va (.lst (ts.map af)),.oT (encA (aY (ts.take i))),s2,s3,s4],⟨_,_,_,rfl⟩,?_,?_⟩
 ·rintro c' x9 DK DL i d Y' hd ⟨s2,s3,s4,rfl⟩
  simp only [Pr,PD] at hd
  obtain ⟨t,ht,rfl⟩:=hd
  obtain ⟨hi,rfl⟩:=Po.mp ht
  have h6:=hlen _ (P0 hi)
  have hsz:(aY (ts.take i)).length<sizeLine:=fW (by have:=fU (ts.take i); rw [Qf] at this; lia)
  show nh c' _ (D.tup [.tup (ts[i].1.map .int),.int ts[i].2]) _ _
  rw?
  ·exact h6
  rw?
  refine ⟨_,B0 (A:=aY (ts.take i)) rfl _,?_⟩
  rw [sN]
  rw?
  refine ⟨_,B3 hsz,?_⟩
  rw?
  have e:aY (ts.take (i+1))=putD (aY (ts.take i)) (trim ts[i].1) ((aM (aY (ts.take i)) (trim ts[i].1)).getD 0+ts[i].2):=by
   rw [QZ hi,l9]; rfl
  show ∃ s2 s3 s4:Sl,_=[_,Sl.oT (encA (aY (ts.take (i+1)))),s2,s3,s4]
  rw [e]
  exact ⟨_,_,_,rfl⟩
 ·rintro Y' ⟨s2,s3,s4,rfl⟩
  rw [Pc,QH]
  have hn:=keys_nodup (gv ts)
  with_reducible refine aJ ?_
  with_reducible refine jR ?_
  refine uM (Txt.sorted T) (e_x (pU 1 'a' (encK _) 's' (dX hq (N':=["_law_powers","_law_number"]) (Y0:=λ_=>[.un,.un]) (λt=>.un (.un .nil)) (ET ?_))))
  rw?
  refine Jm (oq _) ⟨?_,(aY ts).map tX,by simp,?_,?_⟩
  ·exact mY (by rw [Pc]; have:=fU ts; lia)
  ·intro c' hc t i d o hd ho
   obtain ⟨x,hx,rfl,rfl⟩:=je hd ho
   show nh c' _ (.tup [.tup (x.1.map .int),.int x.2]) _ _
   rw?
   refine ⟨.un (.un .nil),?_⟩
   simp only [kr]
   rw?
   all_goals first
    | (show tX x=some (af x); unfold tX; rw [if_pos 'm'])
    | (show tX x=none; unfold tX; rw [if_neg λh=>h 'm'])
  ·rw [jf]
   refine ⟨fR λx _=>qu x,gm ⟨_,rfl,Vx _ hn,λL' hp hs=>?_⟩⟩
   have eL:=uN (Vx _ hn) hp hs
   rw [eL]
   rfl
end
noncomputable def xD:Fn:=λds r=>∃ A B:List aG,A.length+B.length<=400000/\(∀ t∈A++B,t.1.length<=64)/\ds=[.lst (A.map af),.lst (B.map af)]/\r=.ok (.ow ((aR (A++B)).map af))
theorem CK (h:A.length+B.length<=400000) (h2:∀ t∈A++B,t.1.length<=64):xD [.lst (A.map af),.lst (B.map af)] (.ok (.ow ((aR (A++B)).map af))):=⟨A,B,h,h2,rfl,rfl⟩
section
local macro_rules | `(tactic| walk_at "evXC")=> `(tactic| first | with_reducible refine x_call (F:=j5) 'm' 'd' ?_)
local macro_rules | `(tactic| walk_at "evR")=> `(tactic| first | with_reducible refine aO (iG ?_ ?_) ?_)
theorem F0 (Fu:d9 K "poly_sum" "poly_sum" (top 23) f fd) (T:Txt K mg) (h1:fk P w K mg base 2 "poly_of" j5):bw P w K mg base (cN P w) 3 f fd ["one","other"] (eE K xD):=by
 refine cP Fu tG (by rintro ds r ⟨A,B,_,_,rfl,_⟩; rfl) (by rintro ds r ⟨A,B,_,_,_,rfl⟩; exact ⟨_,rfl⟩) λc hq ds sl hF=>?_
 obtain ⟨A,B,hl,hp,rfl,e⟩:=hF
 injection e with e
 subst e
 show aU c _ [.va (.lst (A.map af)),.va (.lst (B.map af))] _ _
 conv in (ay _)=>whnf
 rw?
 ·rw [Pc,Pc]; exact mY 'l'
 rw?
 rw [<- Qh]
 exact aO (iG (by rw [PY]; lia) hp) rfl
end
end
section
variable {K:O7}
theorem CL (x y:aG):lE [.tup (x.1.map .int),.int x.2] [.tup (y.1.map .int),.int y.2]:=λi d e h1 h2=>by
 rcases i with _ | _ | i
 ·simp at h1 h2; subst h1 h2
  exact .tup λj d e h1 h2=>by
   simp only [Pr,PD] at h1 h2
   obtain ⟨a,_,rfl⟩:=h1
   obtain ⟨b,_,rfl⟩:=h2
   exact .sc rfl
 ·simp at h1 h2; subst h1 h2
  exact .sc rfl
 ·simp at h1
theorem F1 (h:T (decide (af x=af y))):vN (.tup [.tup (x.1.map .int),.int x.2]) (.tup [.tup (y.1.map .int),.int y.2]) T:=by
 refine Em ⟨CL x y,?_⟩
 have e:decide ([D.tup (x.1.map .int),.int x.2]=[D.tup (y.1.map .int),.int y.2])=decide (af x=af y):=by
  unfold af; simp
 rw [e]; exact h
noncomputable def xE:Fn:=λds r=>∃ L:List aG,L.length<=20000/\(∀ t∈L,t.1.length<=64)/\ds=[.lst (L.map af),.lst (L.map af)]/\r=.ok (.va (.bl true))
theorem CM {L:List aG} (h:L.length<=20000) (h2:∀ t∈L,t.1.length<=64):xE [.lst (L.map af),.lst (L.map af)] (.ok (.va (.bl true))):=⟨L,h,h2,rfl,rfl⟩
section
local macro_rules | `(tactic| walk_at "evCa")=> `(tactic| first | with_reducible refine aX (F:=qp) 'm' 'd' ?_)
local macro_rules | `(tactic| walk_at "evR")=> `(tactic| first | with_reducible refine aO (FW _) ?_)
theorem F2 (Fu:d9 K "_law_same" "_law_same" (top 47) f fd) (T:Txt K mg) (h1:fk P w K mg base 1 "_law_whole" qp):bw P w K mg base (cN P w) 2 f fd ["_law_found","_law_due"] (eE K xE):=by
 refine cP Fu zG (by rintro ds r ⟨n,_,_,rfl,_⟩; rfl) (by rintro ds r ⟨n,_,_,_,rfl⟩; exact ⟨_,rfl⟩) λc hq ds sl hF=>?_
 obtain ⟨L,hl,hlen,rfl,e⟩:=hF
 injection e with e
 subst e
 show aU c _ [.va (.lst (L.map af)),.va (.lst (L.map af)),.un,.un] _ _
 conv in (ay _)=>whnf
 rw?
 ·with_reducible refine eS hq (Hr (Txt.zip T) ?_)
  rw?
  refine ⟨_,_,rfl,rfl,?_⟩
  have ez:qb (L.map af) (L.map af)=L.map λt=>D.tup [af t,af t]:=by
   unfold qb
   rw [VW,VR]
  rw [ez]
  refine ⟨λi Y'=>∃ s2 s3:Sl,Y'=[.va (.lst (L.map af)),.va (.lst (L.map af)),s2,s3],⟨_,_,rfl⟩,?_,?_⟩
  ·rintro c' x9 DK DL i d Y' hd ⟨s2,s3,rfl⟩
   simp only [Pr,PD] at hd
   obtain ⟨t,ht,rfl⟩:=hd
   have hlt:=hlen t (Rg ht)
   show nh c' _ (.tup [.tup [.tup (t.1.map .int),.int t.2],.tup [.tup (t.1.map .int),.int t.2]]) _ _
   rw?
   ·refine Ms (Txt.all T) (e_x (dX (show c'.X.xe=iJ by rw [x9]; exact hq) (N':=["_law_power"]) (Y0:=λ_=>[.un]) (λt=>.un .nil) (dh ?_)))
    rw?
    ·exact mY (by rw [Pc]; lia)
    refine ⟨t.1.map λ_=>some (.bl true),by simp,?_,gm ⟨t.1.map λ_=>true,?_,?_⟩⟩
    ·intro c2 hc2 tg j d o hd ho
     simp only [Pr,PD] at hd ho
     obtain ⟨x,hx,rfl⟩:=hd
     obtain ⟨x',hx',rfl⟩:=ho
     refine fj 'a' (j0 's' ⟨.un .nil,?_⟩)
     simp only [kr]
     refine ⟨λ_=>?_,λh=>by cases h⟩
     rw?
     rfl
    ·congr 1
     induction t.1 with
     | nil=>rfl
     | cons a l ih=>simpa using ih
    ·have e:((t.1.map λ_=>true).all id)=true:=by simp
     rw [e]
     rw?
     refine F1 ?_
     rw [decide_eq_true rfl]
     rw?
     exact ⟨_,_,rfl⟩
   ·exact absurd (show (([D.tup (t.1.map .int),.int t.2].length:Nat):Int)=2 from rfl) 'm'
  ·rintro Y' ⟨s2,s3,rfl⟩
   rw?
   rfl
 ·exact absurd rfl 'm'
end
end
section
variable {K:O7}
theorem CN {l:List Int} (h:m<l.length):j9 ((l.take (m+1)).map D.int) (-1)=some (.int (l.getD m 0)):=by
 have hl:(l.take (m+1)).length=m+1:=by simp; lia
 rw [EM 'd' (by simp only [Pc,hl]; lia),Pc,hl]
 have e:(-1+((m+1:Nat):Int)).toNat=m:=by lia
 rw [e,Pr,List.getElem?_take]
 simp [Qn,h]
noncomputable def Ov:Fn:=λds r=>∃ l:List Int,l.length<=64/\(ds=[.tup (l.map .int)]\/ds=[.lst (l.map .int)])/\r=.ok (.va (.tup ((trim l).map .int)))
noncomputable def qv:Fn:=λds r=>∃ l:List Int,l.length<=64/\ds=[.lst (l.map .int)]/\r=.ok (.va (.tup ((trim l).map .int)))
theorem F3 (h:l.length<=64):qv [.lst (l.map .int)] (.ok (.va (.tup ((trim l).map .int)))):=⟨l,h,rfl,rfl⟩
section
local macro_rules | `(tactic| walk_at "side")=> `(tactic| exact kB _)
local macro_rules | `(tactic| walk_at "evXp")=> `(tactic| ((with_reducible show fm _ (Stmt.Expr (Qk _ [] _ _) _) _ _ _); with_reducible refine s_pop 'a' 'a' 'w' ?_))
theorem CO (Fu:d9 K "_law_trimmed" "_law_trimmed" (top 44) f fd) (T:Txt K mg):bw P w K mg base (cN P w) 1 f fd ["_law_powers"] (eE K Ov):=by
 refine cP Fu ql (by rintro ds r ⟨a,_,rfl | rfl,_⟩ <;> rfl) (by rintro ds r ⟨a,_,_,rfl⟩; exact ⟨_,rfl⟩) λc hq ds sl hF=>?_
 obtain ⟨l,hl,hds,e⟩:=hF
 injection e with e
 subst e
 obtain ⟨d,rfl,hrow⟩:∃ d:D,ds=[d]/\d.row=some (l.map .int):=by
  rcases hds with rfl | rfl
  ·exact ⟨_,rfl,rfl⟩
  ·exact ⟨_,rfl,rfl⟩
 show aU c _ [.va d,.un] _ _
 conv in (ay _)=>whnf
 refine aJ (iO 'a' (uB (Txt.list T) (rm 'a' 'a' ⟨_,hrow,j0 's' ?_⟩)))
 refine aJ ?_
 with_reducible refine kj hq (λm Y'=>m<=l.length/\trim (l.take m)=trim l/\Y'=[.va d,.ow ((l.take m).map .int)]) (m₀:=l.length) ?_ ?_
 ·exact ⟨O9 _,by rw [QH],by rw [QH]⟩
 ·rintro m Y' ⟨hm,ht,rfl⟩
  have hL:((l.take m).map D.int).length=m:=by simp; lia
  rw?
  ·rw [hL] at *
   obtain ⟨n,rfl⟩:∃ n,m=n+1:=⟨m - 1,by lia⟩
   refine ⟨_,_,rfl,CN 'l',?_⟩
   rw?
   ·intro z; have z':=congrArg S0 z; rw [Pc,Qf,Q5] at z'; lia
   ·refine ⟨n,by lia,by lia,oj 'l' 'm' ht,?_⟩
    show [_,Sl.ow _]=_
    rw [jD 'l',Qh,VI,List.dropLast_concat]
   ·show Sl.va _=Sl.va _
    rw [om 'l' 'm' ht]
  ·show Sl.va _=Sl.va _
   have:m=0:=by rw [hL] at *; lia
   subst this
   rw [<- ht]
   rfl
end
theorem CP (h:∀ ds r,G ds r->F ds r) (g:eE K G vs H Q E):eE K F vs H Q E:=by
 obtain ⟨Hf,ds,r,a,b,c,d⟩:=g
 exact ⟨Hf,ds,r,a,b,h ds r c,d⟩
theorem CQ (Fu:d9 K "_law_trimmed" "_law_trimmed" (top 44) f fd) (T:Txt K mg):bw P w K mg base (cN P w) 1 f fd ["_law_powers"] (eE K ie) :=
 (CO Fu T).imp λ_ _ _ _=>CP λ_ _ ⟨l,h,e,er⟩=>⟨l,h,.inl e,er⟩
theorem zI (Fu:d9 K "_law_trimmed" "_law_trimmed" (top 44) f fd) (T:Txt K mg):bw P w K mg base (cN P w) 1 f fd ["_law_powers"] (eE K qv) :=
 (CO Fu T).imp λ_ _ _ _=>CP λ_ _ ⟨l,h,e,er⟩=>⟨l,h,.inr e,er⟩
end
section
variable {K:O7}
noncomputable def DI (p:List Int) (g:Nat->Int) (k:Nat):Int:=if aN p k>g k then aN p k else g k
noncomputable def gk (L:List aG) (k:Nat):Int:=L.foldl (λa t=>if aN t.1 k>a then aN t.1 k else a) 0
noncomputable def aS (L:List aG):List Int:=(PM 6).map (gk L)
noncomputable def iH (p:List Int) (g:Nat->Int) (j k:Nat):Int:=if k<j then DI p g k else g k
theorem qw (L:List aG) (k):∀ a:Int,a<=L.foldl (λa t=>if aN t.1 k>a then aN t.1 k else a) a:=by
 induction L with
 | nil=>exact λa=>Qj _
 | cons t L ih =>
  intro a
  rw [RJ]
  refine P1 ?_ (ih _)
  split <;> lia
theorem xF (L) (k):0<=gk L k:=qw L k 0
theorem xG (L) (t):gk (L++[t])=DI t.1 (gk L):=by
 funext k
 unfold gk DI
 rw [Uv]; rfl
theorem F4:iH p (gk L) p.length=DI p (gk L):=by
 funext k
 unfold iH
 split
 ·rfl
 ·unfold DI
  rw [bR 'l']
  have:=xF L k
  rw [if_neg 'l']
theorem CS (p) (g):iH p g 0=g:=by funext k; unfold iH; rw [if_neg 'l']
noncomputable def cC (g:Nat->Int):List D:=((PM 6).map g).map D.int
theorem CT (p) (g) (h:j<6) (q:DI p g j=aN p j):(cC (iH p g j)).set j (.int (aN p j))=cC (iH p g (j+1)):=by
 refine V0 (by simp [cC]) λi h1 h2=>?_
 have hi:i<6:=by simpa [cC] using h2
 rw [List.getElem_set]
 simp only [cC,UB,Uq]
 unfold iH
 by_cases e:j=i
 ·subst e
  rw [if_pos rfl,if_pos 'l',q]
 ·rw [if_neg e]
  by_cases z:i<j
  ·rw [if_pos z,if_pos 'l']
  ·rw [if_neg z,if_neg 'l']
theorem zJ (p) (g) (q:DI p g j=g j):cC (iH p g j)=cC (iH p g (j+1)):=by
 unfold cC
 congr 1
 refine Rq λi _=>?_
 unfold iH
 by_cases z:i<j
 ·rw [if_pos z,if_pos 'l']
 ·by_cases e:i=j
  ·subst e; rw [if_neg z,if_pos 'l',q]
  ·rw [if_neg z,if_neg 'l']
theorem xH (g) {j:Nat} (h:j<6):j9 (cC g) (j:Int)=some (.int (g j)):=by
 rw [gJ 'l' (by simp [cC]; lia),Qc]
 simp [cC,h]
noncomputable def jI:Fn:=λds r=>∃ L:List aG,(∀ t∈L,t.1.length<=6)/\ds=[.lst (L.map af)]/\r=.ok (.ow (cC (gk L)))
theorem qx (h:∀ t∈L,t.1.length<=6):jI [.lst (L.map af)] (.ok (.ow (cC (gk L)))):=⟨L,h,rfl,rfl⟩
section
local macro_rules | `(tactic| walk_at "evPut")=> `(tactic| with_reducible refine Jy 'a' 'a' 'w' ?_)
local macro_rules | `(tactic| walk_at "evX")=> `(tactic| first | ((with_reducible show dU _ (Rz _ Operator.Mult _ _) _ _); with_reducible refine Mu ?_))
local macro_rules | `(tactic| walk_at "evE")=> `(tactic| first | ((with_reducible show aB _ (Pw "PLACES" _) _ _); with_reducible refine pF 'm' ?_))
theorem CU (Fu:d9 K "greatest_powers" "greatest_powers" (top 24) f fd) (T:Txt K mg) (PL:∃ tk:Tok,mg "PLACES"=some (.int 6 tk)):bw P w K mg base (cN P w) 1 f fd ["some"] (eE K jI):=by
 obtain ⟨tk,hPL⟩:=PL
 refine cP Fu iF (by rintro ds r ⟨L,_,rfl,_⟩; rfl) (by rintro ds r ⟨L,_,_,rfl⟩; exact ⟨_,rfl⟩) λc hq ds sl hF=>?_
 obtain ⟨L,hl,rfl,e⟩:=hF
 injection e with e
 subst e
 show aU c _ [.va (.lst (L.map af)),.un,.un,.un,.un,.un] _ _
 conv in (ay _)=>whnf
 rw?
 refine ⟨_,rfl,?_⟩
 rw?
 ·exact ⟨⟨by decide,by decide⟩,by decide⟩
 rw?
 show fm c _ [.va (.lst (L.map af)),.ow (cC (gk [])),.un,.un,.un,.un] _ _
 with_reducible refine eS hq (dh ?_)
 rw?
 refine ⟨λi Y'=>∃ s2 s3 s4 s5:Sl,Y'=[.va (.lst (L.map af)),.ow (cC (gk (L.take i))),s2,s3,s4,s5],⟨_,_,_,_,rfl⟩,?_,?_⟩
 ·rintro c' x9 DK DL i d Y' hd ⟨s2,s3,s4,s5,rfl⟩
  simp only [Pr,PD] at hd
  obtain ⟨t,ht,rfl⟩:=hd
  obtain ⟨hi,rfl⟩:=Po.mp ht
  have h6:=hl _ (P0 hi)
  have hq':c'.X.xe=λ_ _=>False:=by rw [x9]; exact hq
  show nh c' _ (D.tup [.tup (L[i].1.map .int),.int L[i].2]) _ _
  rw?
  have eg:gk (L.take (i+1))=iH L[i].1 (gk (L.take i)) L[i].1.length:=by rw [QZ hi,xG,F4]
  generalize L[i]=t at h6 eg |-
  generalize gk (L.take i)=g at eg |-
  with_reducible refine eS hq' (JB (Txt.enum 'm') ?_)
  rw?
  refine ⟨_,rfl,?_⟩
  refine ⟨λj Y'=>∃ s4 s5:Sl,Y'=[.va (.lst (L.map af)),.ow (cC (iH t.1 g j)),.va (.tup (t.1.map .int)),.va (.int t.2),s4,s5],⟨s4,s5,by rw [CS]⟩,?_,?_⟩
  ·rintro c2 hcX2 hcR2 hcM2 j d Y' hd ⟨s4,s5,rfl⟩
   unfold mq at hd
   simp only [Pr,PD,List.getElem?_zipIdx] at hd
   obtain ⟨⟨x,m⟩,⟨y,⟨z,hz,rfl⟩,e⟩,rfl⟩:=hd
   obtain ⟨rfl,rfl⟩:D.int z=x/\0+j=m:=by simpa using e
   obtain ⟨hj,rfl⟩:=Po.mp hz
   have hj6:j<6:=by lia
   have ha:j9 (cC (iH t.1 g j)) (((0+j:Nat):Int))=some (.int (g j)):=by
    rw [RL,xH _ hj6]; unfold iH; rw [if_neg 'l']
   have ep:aN t.1 j=t.1[j]:=cu hj
   have hj0:0+j=j:=RL j
   rw [hj0] at ha |-
   show nh c2 _ (D.tup [.int (j:Nat),.int t.1[j]]) _ _
   rw?
   ·refine ⟨j,rfl,⟨by simp [cC]; lia,?_⟩⟩
    rw?
    refine ⟨.va (.int (j:Nat)),.va (.int t.1[j]),?_⟩
    show [_,Sl.ow ((cC (iH t.1 g j)).set j (.int t.1[j])),_,_,_,_]=_
    rw [<- ep,CT t.1 g hj6 (by unfold DI; rw [ep,if_pos 'm'])]
   ·refine ⟨.va (.int (j:Nat)),.va (.int t.1[j]),?_⟩
    rw [zJ t.1 g (by unfold DI; rw [ep,if_neg 'm'])]
  ·rintro Y' ⟨s4,s5,rfl⟩
   rw [show (mq (t.1.map D.int)).length=t.1.length by simp [mq]]
   rw?
   exact ⟨_,_,_,_,by rw [eg]⟩
 ·rintro Y' ⟨s2,s3,s4,s5,rfl⟩
  rw [Pc,QH]
  rw?
  rfl
end
noncomputable def jg (ns:List Int):Int:=ns.foldr max 0
theorem tM:∀ {ns:List Int} {n:Int},n∈ns->n<=jg ns
 | x::ns,n,h=>by
  show n<=max x (jg ns)
  rcases Pg.mp h with rfl | h
  ·lia
  ·have:=tM h; lia
theorem mJ:∀ (ns:List Int),0<=jg ns
 | []=>Qj _
 | x::ns=>by show 0<=max x (jg ns); have:=mJ ns; lia
theorem vf:∀ {ns:List Int} {m:Int},0<=m->(∀ n∈ns,n<=m)->jg ns<=m
 | [],_,h,_=>h
 | x::ns,m,h0,h=>by
  show max x (jg ns)<=m
  have:=vf h0 λn hn=>h n (Ph _ hn)
  have:=h x Pd
  lia
theorem tN (h:m∈aS L) (h2:∀ n∈aS L,n<=m):m=jg (aS L):=by
 have h0:0<=m:=by
  unfold aS at h
  obtain ⟨k,_,rfl⟩:=Pz.mp h
  exact xF L k
 exact Int.le_antisymm (tM h) (vf h0 h2)
noncomputable def mZ (A B:List aG):Nat:=QB (jg (aS A)+jg (aS B))
noncomputable def zK:Fn:=λds r=>∃ A B:List aG,(∀ t∈A++B,t.1.length<=6)/\ds=[.lst (A.map af),.lst (B.map af)]/\r=.ok (.va (.int (mZ A B:Nat)))
theorem Ht (h:∀ t∈A++B,t.1.length<=6):zK [.lst (A.map af),.lst (B.map af)] (.ok (.va (.int (mZ A B:Nat)))):=⟨A,B,h,rfl,rfl⟩
section
local macro_rules | `(tactic| walk_at "evMt")=> `(tactic| with_reducible refine Jx ?_)
local macro_rules | `(tactic| walk_at "evCa")=> `(tactic| first
 | ((with_reducible show aB _ (Qk (Pw "max" _) [_] _ _) _ _); with_reducible refine Jz (Txt.max 'm') ?_)
 | with_reducible refine aX (F:=jI) 'm' 'd' ?_)
theorem J0 (Fu:d9 K "width_for" "width_for" (top 25) f fd) (T:Txt K mg) (h1:fk P w K mg base 1 "greatest_powers" jI):bw P w K mg base (cN P w) 2 f fd ["one","other"] (eE K zK):=by
 refine cP Fu qi (by rintro ds r ⟨A,B,_,rfl,_⟩; rfl) (by rintro ds r ⟨A,B,_,_,rfl⟩; exact ⟨_,rfl⟩) λc hq ds sl hF=>?_
 obtain ⟨A,B,hp,rfl,e⟩:=hF
 injection e with e
 subst e
 show aU c _ [.va (.lst (A.map af)),.va (.lst (B.map af)),.un] _ _
 conv in (ay _)=>whnf
 rw?
 refine aO (qx λt ht=>hp t (QF _ ht)) (gm ⟨aS A,by simp [aS],rfl,λm ⟨m1,m2⟩=>?_⟩)
 rw [tN m1 m2]
 rw?
 refine aO (qx λt ht=>hp t (QE _ ht)) (gm ⟨aS B,by simp [aS],rfl,λm ⟨m1,m2⟩=>?_⟩)
 rw [tN m1 m2]
 rw?
 rfl
end
end
section
variable {K:O7}
noncomputable def zL:Fn:=λds r=>∃ (p:List Int) (W:Nat),W<=10/\Bd (2 ^ W) p/\ds=[.tup (p.map .int),.int (W:Nat)]/\r=.ok (.va (.int (pk (2 ^ W) p)))
theorem Hu (h:W<=10) (h2:Bd (2 ^ W) p):zL [.tup (p.map .int),.int (W:Nat)] (.ok (.va (.int (pk (2 ^ W) p)))):=⟨p,W,h,h2,rfl,rfl⟩
section
local macro_rules | `(tactic| walk_at "evE")=> `(tactic| first | ((with_reducible show aB _ (Pw "PLACES" _) _ _); with_reducible refine pF 'm' ?_))
local macro_rules | `(tactic| walk_at "evBo")=> `(tactic| first | with_reducible refine G9 ?_ | with_reducible refine Hg ?_ | with_reducible refine B5 ?_)
theorem J3 (Fu:d9 K "key_of" "key_of" (top 26) f fd) (T:Txt K mg) (PL:∃ tk:Tok,mg "PLACES"=some (.int 6 tk)):bw P w K mg base (cN P w) 1 f fd ["powers","width"] (eE K zL):=by
 obtain ⟨tk,hPL⟩:=PL
 refine cP Fu zB (by rintro ds r ⟨p,W,_,_,rfl,_⟩; rfl) (by rintro ds r ⟨p,W,_,_,_,rfl⟩; exact ⟨_,rfl⟩) λc hq ds sl hF=>?_
 obtain ⟨p,W,hW,hp,rfl,e⟩:=hF
 injection e with e
 subst e
 have h6:=hp.1
 show aU c _ [.va (.tup (p.map .int)),.va (.int (W:Nat)),.un,.un] _ _
 conv in (ay _)=>whnf
 rw?
 with_reducible refine eS hq (dh ?_)
 rw?
 refine ⟨λi Y'=>∃ s3:Sl,Y'=[.va (.tup (p.map .int)),.va (.int (W:Nat)),.va (.int (Fy (2 ^ W) (p.take i))),s3],⟨_,rfl⟩,?_,?_⟩
 ·rintro c' x9 DK DL i d Y' hd ⟨s3,rfl⟩
  simp only [Pr,PD] at hd
  obtain ⟨x,hx,rfl⟩:=hd
  obtain ⟨hi,rfl⟩:=Po.mp hx
  have bd:=Cg (two_pos W) (p:=p.take i) λx hx=>hp.2 x (RE hx)
  have hl:(p.take i).length<=6:=by rw [Qf]; lia
  rw?
  ·exact ⟨by lia,by lia,xu hW hl bd.1 bd.2⟩
  ·refine ⟨.va (.int p[i]),?_⟩
   rw [QZ hi,Cf,Qc]
 ·rintro Y' ⟨s3,rfl⟩
  rw [Pc,QH]
  have bd:=Cg (two_pos W) hp.2
  have ew:(W:Int) * (6 - ((p.map D.int).length:Nat))=((W * (6 - p.length):Nat):Int):=by
   rw [Pc,Int.natCast_mul,Int.ofNat_sub h6]; rfl
  have ew2:W * (6 - p.length)<=60:=Pj (UJ hW (Nat.sub_le 6 _)) 'd'
  rw?
  ·exact jV 'l'
  ·rw [ew]; exact ⟨by lia,by lia,xu hW h6 bd.1 bd.2⟩
  ·show Sl.va _=Sl.va _
   rw [ew,Qc,Int.pow_mul,JH h6]
end
theorem dD {α:Type} (f:α->D):∀ L:List α,(L.map λt=>some (f t)).filterMap id=L.map f
 | []=>rfl
 | x::L=>by
  rw [Pn,Pn,SH]
  exact congrArg (f x:: ·) (dD f L)
noncomputable def oN:Fn:=λds r=>∃ (x:Int) (W:Nat),W<=10/\0<=x/\ds=[.int x,.int (W:Nat)]/\r=.ok (.va (.tup ((uS (2 ^ W) x).map .int)))
theorem CV (h:W<=10) (h2:0<=x):oN [.int x,.int (W:Nat)] (.ok (.va (.tup ((uS (2 ^ W) x).map .int)))):=⟨x,W,h,h2,rfl,rfl⟩
section
local macro_rules | `(tactic| walk_at "evE")=> `(tactic| first | ((with_reducible show aB _ (Pw "PLACES" _) _ _); with_reducible refine pF 'm' ?_))
local macro_rules | `(tactic| walk_at "evBo")=> `(tactic| first | with_reducible refine G9 ?_ | with_reducible refine Hg ?_ | with_reducible refine B5 ?_)
local macro_rules | `(tactic| walk_at "evXC")=> `(tactic| first | with_reducible refine x_call (F:=ie) 'm' 'd' ?_)
theorem F5 (Fu:d9 K "powers_of" "powers_of" (top 27) f fd) (T:Txt K mg) (PL:∃ tk:Tok,mg "PLACES"=some (.int 6 tk)) (h1:fk P w K mg base 1 "trimmed" ie):bw P w K mg base (cN P w) 2 f fd ["key","width"] (eE K oN):=by
 obtain ⟨tk,hPL⟩:=PL
 refine cP Fu qj (by rintro ds r ⟨x,W,_,_,rfl,_⟩; rfl) (by rintro ds r ⟨x,W,_,_,_,rfl⟩; exact ⟨_,rfl⟩) λc hq ds sl hF=>?_
 obtain ⟨x,W,hW,hx,rfl,e⟩:=hF
 injection e with e
 subst e
 show aU c _ [.va (.int x),.va (.int (W:Nat)),.un] _ _
 conv in (ay _)=>whnf
 rw?
 ·exact ⟨by lia,by lia,by decide⟩
 rw?
 rw [Qc]
 refine e_x (dX hq (N':=["k","key","mask","width"]) (Y0:=λ_=>[.un,.va (.int x),.va (.int (1 * 2 ^ W - 1)),.va (.int (W:Nat))]) (λt=>.un (.fr 'a' 'a' 'd' rfl (.fr 'a' 'a' 'd' rfl (.fr 'a' 'a' 'd' rfl .nil)))) (JD (Txt.range T) ?_))
 rw?
 refine ⟨rfl,⟨⟨by decide,by decide⟩,⟨⟨by decide,by decide⟩,⟨by decide,?_⟩⟩⟩⟩
 refine ⟨(PM 6).map λ(i:Nat)=>some (.int (x / (2 ^ W) ^ (5 - i) % 2 ^ W)),rfl,?_,gm ?_⟩
 ·intro c' hc t i d o hd ho
  unfold B9 at hd
  simp only [Pr,PD] at hd ho
  obtain ⟨a,ha,rfl⟩:=hd
  obtain ⟨a',ha',rfl⟩:=ho
  have hi:i<6:=by simpa using (Po.mp ha').1
  rw [SG hi] at ha'; cases ha'
  rw [show (6 - 1 - -1:Int).toNat=6 by decide,SG hi] at ha; cases ha
  refine fj 'a' (j0 's' ⟨.un (.same (.same (.same .nil))),?_⟩)
  simp only [kr]
  refine ⟨λ_=>?_,λh=>by cases h⟩
  have e5:((W:Int) * (6 - 1 - (i:Int))).toNat=W * (5 - i):=by
   rw [show ((6:Int) - 1 - (i:Int))=((5 - i:Nat):Int) by lia,<- Int.natCast_mul,Qc]
  have e6:(0:Int)<=(W:Int) * (6 - 1 - (i:Int)):=Int.mul_nonneg 'l' 'l'
  have hp:(0:Int)<(2 ^ W) ^ (5 - i):=Ry (two_pos W)
  rw?
  ·exact jV 'l'
  ·show some _=some (D.int _)
   rw [e5,Int.pow_mul,zc W (Int.ediv_nonneg hx 'l')]
 ·refine ⟨_,rfl,?_⟩
  rw [dD (λ(i:Nat)=>D.int (x / (2 ^ W) ^ (5 - i) % 2 ^ W)) (PM 6),show ((PM 6).map λ(i:Nat)=>D.int (x / (2 ^ W) ^ (5 - i) % 2 ^ W))=((PM 6).map λ(i:Nat)=>x / (2 ^ W) ^ (5 - i) % 2 ^ W).map D.int by rw [PZ]; rfl]
  rw?
  exact aO (ve 'p') rfl
end
noncomputable def tO (b:Int) (t:aG):D:=.tup [.int (pk b t.1),.int t.2]
noncomputable def oO:Fn:=λds r=>∃ (L:List aG) (W:Nat),W<=10/\L.length<=400000/\(∀ t∈L,Bd (2 ^ W) t.1)/\ds=[.lst (L.map af),.int (W:Nat)]/\r=.ok (.ow (L.map (tO (2 ^ W))))
theorem qy {L:List aG} (h:W<=10) (h1:L.length<=400000) (h2:∀ t∈L,Bd (2 ^ W) t.1):oO [.lst (L.map af),.int (W:Nat)] (.ok (.ow (L.map (tO (2 ^ W))))):=⟨L,W,h,h1,h2,rfl,rfl⟩
section
local macro_rules | `(tactic| walk_at "evCa")=> `(tactic| first | with_reducible refine aX (F:=zL) 'm' 'd' ?_)
theorem F6 (Fu:d9 K "packed" "packed" (top 28) f fd) (T:Txt K mg) (h1:fk P w K mg base 1 "key_of" zL):bw P w K mg base (cN P w) 2 f fd ["some","width"] (eE K oO):=by
 refine cP Fu zC (by rintro ds r ⟨L,W,_,_,_,rfl,_⟩; rfl) (by rintro ds r ⟨L,W,_,_,_,_,rfl⟩; exact ⟨_,rfl⟩) λc hq ds sl hF=>?_
 obtain ⟨L,W,hW,hL,hb,rfl,e⟩:=hF
 injection e with e
 subst e
 show aU c _ [.va (.lst (L.map af)),.va (.int (W:Nat))] _ _
 conv in (ay _)=>whnf
 refine aJ (jR (dX hq (N':=["powers","number","width"]) (Y0:=λ_=>[.un,.un,.va (.int (W:Nat))]) (λt=>.un (.un (.fr 'a' 'a' 'd' rfl .nil))) (dh ?_)))
 rw?
 ·exact mY (by rw [Pc]; lia)
 refine ⟨L.map λt=>some (tO (2 ^ W) t),by simp,?_,by show Sl.ow _=Sl.ow _; rw [dD]⟩
 intro c' hc t i d o hd ho
 simp only [Pr,PD] at hd ho
 obtain ⟨x,hx,rfl⟩:=hd
 obtain ⟨x',hx',rfl⟩:=ho
 rw [hx] at hx'; cases hx'
 have hbx:=hb x (Rg hx)
 show nh c' _ (.tup [.tup (x.1.map .int),.int x.2]) _ _
 rw?
 refine ⟨.un (.un (.same .nil)),?_⟩
 simp only [kr]
 refine ⟨λ_=>?_,λh=>by cases h⟩
 rw?
 refine aO (Hu hW hbx) ?_
 rw?
 rfl
end
end
section
variable {P:Program} {w:World} {K:O7} {mg:Str->Option Value} {base:Heap}
noncomputable def J4:Ol:=λkvs ds Zzz=>∃ (ts A B:List aG) (W:Nat),W<=10/\ts.length+A.length * B.length<=400000/\A.length<=400000/\B.length<=400000/\(∀ t∈ts,Bd (2 ^ W) t.1)/\(∀ l∈A,∀ r∈B,Bd (2 ^ W) (bX l.1 r.1)/\EV.MulOk l.2 r.2) /\
 kvs=bD ((aY ts).map (fM (2 ^ W)))/\ds=[.lst (A.map (tO (2 ^ W))),.lst (B.map (tO (2 ^ W)))]/\Zzz=λkvs'=>kvs'=bD ((aY (ts++av A B)).map (fM (2 ^ W)))
section
local macro_rules | `(tactic| walk_at "evS")=> `(tactic| first | ((with_reducible show fm _ (UG (QX (Pw _ _) _ _) US _ _) _ _ _); with_reducible refine wc 'a' 'a' ?_ (ho:=by walk_at "own")))
theorem Ka (Fu:d9 K "add_products" "add_products" (top 30) f fd) (T:Txt K mg):bw P w K mg base (cN P w) 1 f fd ["total","left","right"] (KZ K J4):=by
 refine Om Fu j4 (by rintro kvs ds Zzz ⟨t0,A,B,W,_,_,_,_,_,_,_,rfl,_⟩; rfl) λc hq q kvs ds Zzz hF=>?_
 obtain ⟨t0,A,B,W,hW,hl,hA,hB,hb0,hp,rfl,rfl,rfl⟩:=hF
 have e00:t0=t0++av (A.take 0) B:=by show t0=t0++[]; rw [Qv]
 rw [show bD ((aY t0).map (fM (2 ^ W)))=bD ((aY (t0++av (A.take 0) B)).map (fM (2 ^ W))) by rw [<- e00]]
 show aU c _ [.aK q (bD ((aY (t0++av (A.take 0) B)).map (fM (2 ^ W)))),.va (.lst (A.map (tO (2 ^ W)))),.va (.lst (B.map (tO (2 ^ W)))),.un,.un,.un,.un,.un] _ _
 conv in (ay _)=>whnf
 rw?
 with_reducible refine eS hq (dh ?_)
 rw?
 refine ⟨λi Y'=>∃ s3 s4 s5 s6 s7:Sl,Y'=[.aK q (bD ((aY (t0++av (A.take i) B)).map (fM (2 ^ W)))),.va (.lst (A.map (tO (2 ^ W)))),.va (.lst (B.map (tO (2 ^ W)))),s3,s4,s5,s6,s7],⟨_,_,_,_,_,rfl⟩,?_,?_⟩
 ·rintro c' x9 DK DL i d Y' hd ⟨s3,s4,s5,s6,s7,rfl⟩
  simp only [Pr,PD] at hd
  obtain ⟨l,hlx,rfl⟩:=hd
  obtain ⟨hi,rfl⟩:=Po.mp hlx
  have hq':c'.X.xe=λ_ _=>False:=by rw [x9]; exact hq
  show nh c' _ (.tup [.int (pk (2 ^ W) A[i].1),.int A[i].2]) _ _
  rw?
  with_reducible refine eS hq' (dh ?_)
  rw?
  have hpi:=hp A[i] (P0 hi)
  have e0:t0++av (A.take (i+1)) B=(t0++av (A.take i) B)++B.map (dG A[i]):=by
   rw [QZ hi,oH,PU]
  have hprev:∀ t∈t0++av (A.take i) B,Bd (2 ^ W) t.1:=λt ht=>by
   rcases PF.mp ht with z | z
   ·exact hb0 t z
   ·obtain ⟨l,hl,r,hr,rfl⟩:=fL z
    exact (hp l (RE hl) r hr).1
  have hlen:(t0++av (A.take i) B).length+B.length<=400000:=by
   rw [PY,gz,Qf,Se 'l',Nat.add_assoc,<- TN]
   exact Pj (Nat.add_le_add_left (Nat.mul_le_mul_right _ 'l') _) hl
  generalize A[i]=l at hpi e0 |-
  generalize t0++av (A.take i) B=ts at e0 hprev hlen |-
  refine ⟨λj Y'=>∃ s5 s6 s7:Sl,Y'=[.aK q (bD ((aY (ts++(B.take j).map (dG l))).map (fM (2 ^ W)))),.va (.lst (A.map (tO (2 ^ W)))),.va (.lst (B.map (tO (2 ^ W)))),.va (.int (pk (2 ^ W) l.1)),.va (.int l.2),s5,s6,s7],⟨s5,s6,s7,by simp⟩,?_,?_⟩
  ·rintro c2 hcX2 hcR2 hcM2 j d Y' hd ⟨s5,s6,s7,rfl⟩
   simp only [Pr,PD] at hd
   obtain ⟨r,hrx,rfl⟩:=hd
   obtain ⟨hj,rfl⟩:=Po.mp hrx
   obtain ⟨hb,hm⟩:=hpi B[j] (P0 hj)
   have e1:ts++(B.take (j+1)).map (dG l)=(ts++(B.take j).map (dG l))++[dG l B[j]]:=by
    rw [QZ hj,Qh,PU]; rfl
   have hprev2:∀ t∈ts++(B.take j).map (dG l),Bd (2 ^ W) t.1:=λt ht=>by
    rcases PF.mp ht with z | z
    ·exact hprev t z
    ·obtain ⟨r,hr,rfl⟩:=Pz.mp z
     exact (hpi r (RE hr)).1
   have hlen2:(ts++(B.take j).map (dG l)).length<400000:=by
    rw [PY,Pc,Qf]; lia
   have key:=JG (two_pos W) hprev2 (t:=dG l B[j]) hb
   rw [<- e1] at key
   generalize ts++(B.take j).map (dG l)=us at key hlen2 |-
   generalize B[j]=r at key hb hm |-
   show nh c2 _ (.tup [.int (pk (2 ^ W) r.1),.int r.2]) _ _
   have ek:pk (2 ^ W) (dG l r).1=pk (2 ^ W) l.1+pk (2 ^ W) r.1:=eY _ _ _
   rw [ek] at key
   have hC:(bD ((aY us).map (fM (2 ^ W)))).length<sizeLine:=fW (by
    have:=fU us
    simp only [bD,Pc]; lia)
   generalize (aY us).map (fM (2 ^ W))=C at key hC |-
   rw?
   refine G2 'a' 'a' ?_
   rw?
   refine ⟨_,.k rfl rfl,?_⟩
   rw [d7]
   cases hv:aM C (pk (2 ^ W) l.1+pk (2 ^ W) r.1) with
   | some m =>
    rw [hv] at key
    show g6 _ _ true
    rw?
    refine ⟨m,by rw [<- show aM (bD C) (.inl (pk (2 ^ W) l.1+pk (2 ^ W) r.1))=some (D.int m) by rw [d7,hv]; rfl]; exact .k rfl rfl,?_⟩
    rw?
    refine ⟨_,.k rfl rfl hC,?_⟩
    rw?
    refine ⟨.va (.int (pk (2 ^ W) r.1)),.va (.int r.2),.va (.int (pk (2 ^ W) l.1+pk (2 ^ W) r.1)),?_⟩
    show [Sl.aK q (putD (bD C) (.inl (pk (2 ^ W) l.1+pk (2 ^ W) r.1)) (.int (m+l.2 * r.2))),_,_,_,_,_,_,_]=_
    rw [gy,show putD C (pk (2 ^ W) l.1+pk (2 ^ W) r.1) (m+l.2 * r.2)=_ from key]
   | none =>
    rw [hv] at key
    show g6 _ _ false
    rw?
    refine ⟨_,.k rfl rfl hC,?_⟩
    rw?
    refine ⟨.va (.int (pk (2 ^ W) r.1)),.va (.int r.2),.va (.int (pk (2 ^ W) l.1+pk (2 ^ W) r.1)),?_⟩
    show [Sl.aK q (putD (bD C) (.inl (pk (2 ^ W) l.1+pk (2 ^ W) r.1)) (.int (l.2 * r.2))),_,_,_,_,_,_,_]=_
    rw [gy,<- UU (l.2 * r.2),show putD C (pk (2 ^ W) l.1+pk (2 ^ W) r.1) (0+l.2 * r.2)=_ from key]
  ·rintro Y' ⟨s5,s6,s7,rfl⟩
   rw [Pc,QH,<- e0]
   rw?
   exact ⟨_,_,_,_,_,rfl⟩
 ·rintro Y' ⟨s3,s4,s5,s6,s7,rfl⟩
  rw [Pc,QH]
  rw?
  exact ⟨_,_,rfl,rfl⟩
end
noncomputable def Nj (C:List (Int×Int)):D:=.fdK ((bD C).map (·.1)) ((bD C).map (·.2))
theorem tP (C):(bD C).map (·.1)=(C.map (·.1)).map PK:=by unfold bD; rw [PZ,PZ]; rfl
noncomputable def F7:Fn:=λds r=>∃ (ts:List aG) (W:Nat),W<=10/\ts.length<=400000/\(∀ t∈ts,Bd (2 ^ W) t.1)/\ds=[Nj ((aY ts).map (fM (2 ^ W))),.int (W:Nat)]/\r=.ok (.ow ((aR ts).map af))
theorem MG (h:W<=10) (h1:ts.length<=400000) (h2:∀ t∈ts,Bd (2 ^ W) t.1):F7 [Nj ((aY ts).map (fM (2 ^ W))),.int (W:Nat)] (.ok (.ow ((aR ts).map af))):=⟨ts,W,h,h1,h2,rfl,rfl⟩
theorem vg (h:gu ltI true L):L.Pairwise λx y=>y<x:=by
 unfold gu at h
 exact h.imp λ{x y} q=>by simpa using q
section
local macro_rules | `(tactic| walk_at "evIx")=> `(tactic| with_reducible refine JI ?_)
local macro_rules | `(tactic| walk_at "evCa")=> `(tactic| first | with_reducible refine aX (F:=oN) 'm' 'd' ?_)
theorem Kc (Fu:d9 K "unpacked" "unpacked" (top 29) f fd) (T:Txt K mg) (h1:fk P w K mg base 2 "powers_of" oN):bw P w K mg base (cN P w) 3 f fd ["total","width"] (eE K F7):=by
 refine cP Fu tH (by rintro ds r ⟨ts,W,_,_,_,rfl,_⟩; rfl) (by rintro ds r ⟨ts,W,_,_,_,_,rfl⟩; exact ⟨_,rfl⟩) λc hq ds sl hF=>?_
 obtain ⟨ts,W,hW,hl,hb,rfl,e⟩:=hF
 injection e with e
 subst e
 show aU c _ [.va (Nj ((aY ts).map (fM (2 ^ W)))),.va (.int (W:Nat))] _ _
 conv in (ay _)=>whnf
 refine aJ (jR (dX hq (N':=["key","total","width"]) (Y0:=λ_=>[.un,.va (Nj ((aY ts).map (fM (2 ^ W)))),.va (.int (W:Nat))]) (λt=>.un (.fr 'a' 'a' 'd' rfl (.fr 'a' 'a' 'd' rfl .nil))) (dh (e_x (uP (Txt.sorted T) ?_)))))
 rw?
 have hk:=gv ts
 have hg:=mF hb
 have nd:(((aY ts).map (fM (2 ^ W))).map (·.1)).Nodup:=by
  rw [PZ]
  unfold Td at hk |-
  rw [SM] at hk |-
  exact Vd (λ{x y} hx hy q z=>q (mE (two_pos W) (hg x hx).1 (hg y hy).1 (hg x hx).2 (hg y hy).2 z)) hk
 refine ⟨((aY ts).map (fM (2 ^ W))).map (·.1),_,by rw [<- tP]; rfl,nd,λL' hp hs=>?_⟩
 have eL:=Ce (two_pos W) hb hp (vg hs)
 subst eL
 have hle:=fU ts
 have hpl:=(ck (aY ts)).length_eq
 refine gm (IW rfl ⟨mY (by simp only [Pc]; lia),(gX (aY ts)).map tX,by simp,?_,?_⟩)
 ·intro c' hc t i d o hd ho
  simp only [Pr,PD] at hd ho
  obtain ⟨n,⟨x,hx,rfl⟩,rfl⟩:=hd
  obtain ⟨x',hx',rfl⟩:=ho
  rw [hx] at hx'; cases hx'
  have hm:x∈aY ts:=(ck (aY ts)).subset (Rg hx)
  have hv:aM (bD ((aY ts).map (fM (2 ^ W)))) (.inl (pk (2 ^ W) x.1))=some (.int x.2):=by
   rw [d7,qe (two_pos W) hg (hg x hm).1 (hg x hm).2,xo hk hm]; rfl
  refine fj 'a' (j0 's' ⟨.un (.same (.same .nil)),?_⟩)
  simp only [kr]
  have h0:=(xr (two_pos W) (hg x hm).1).1
  rw?
  refine ⟨_,_,_,rfl,rfl,hv,?_⟩
  rw?
  ·unfold tX; rw [if_neg λh=>h 'm']
  refine aO (CV hW h0) ?_
  rw [uT (two_pos W) (hg x hm).1,(hg x hm).2]
  rw?
  refine ⟨_,_,_,rfl,rfl,hv,?_⟩
  rw?
  unfold tX
  rw [if_pos 'm']
 ·show Sl.ow _=Sl.ow _
  rw [jf,BZ (keys_nodup hk)]
  rfl
end
structure oQ (A B:List aG):Prop where
 la:A.length<=400000
 lb:B.length<=400000
 lp:A.length * B.length<=400000
 pa:∀ t∈A,t.1.length<=6/\∀ x∈t.1,0<=x/\x<=500
 pb:∀ t∈B,t.1.length<=6/\∀ x∈t.1,0<=x/\x<=500
 mu:∀ l∈A,∀ r∈B,EV.MulOk l.2 r.2
theorem xJ:∀ {L:List aG} (a:Int),a<=m->(∀ t∈L,aN t.1 k<=m)->L.foldl (λa t=>if aN t.1 k>a then aN t.1 k else a) a<=m
 | [],_,h,_=>h
 | t::L,a,h,q=>by
  rw [RJ]
  have:=q t Pd
  exact xJ _ (by split <;> lia) λu hu=>q u (Ph _ hu)
theorem jh (h0:0<=m) (h:∀ t∈L,∀ x∈t.1,x<=m):jg (aS L)<=m:=by
 refine vf h0 λn hn=>?_
 unfold aS at hn
 obtain ⟨k,_,rfl⟩:=Pz.mp hn
 refine xJ 0 h0 λt ht=>?_
 by_cases z:k<t.1.length
 ·rw [cu z]; exact h t ht _ (P0 _)
 ·rw [bR 'l']; exact h0
theorem ji (ht:t∈L) (hl:t.1.length<=6) (hx:x∈t.1):x<=jg (aS L):=by
 obtain ⟨k,hk,rfl⟩:=VE hx
 refine P1 ?_ (tM (show gk L k∈aS L from Pz.mpr ⟨k,by simp; lia,rfl⟩))
 unfold gk
 rw [<- cu hk]
 suffices H:∀ a:Int,aN t.1 k<=L.foldl (λa t=>if aN t.1 k>a then aN t.1 k else a) a from H 0
 induction L with
 | nil=>cases ht
 | cons u L ih =>
  intro a
  rw [RJ]
  rcases Pg.mp ht with rfl | ht
  ·refine P1 ?_ (qw L k _)
   split <;> lia
  ·exact ih ht _
theorem qz (h:0<=x):x<2 ^ QB x:=by
 unfold QB
 by_cases z:x=0
 ·subst z; decide
 ·have e:(x == 0)=false:=by simpa using z
  rw [e,if_neg Pp,gP]
  have:=Nat.lt_log2_self (n:=x.natAbs)
  lia
theorem bits_le (h:x.natAbs<1024):QB x<=10:=by
 unfold QB
 by_cases z:x=0
 ·subst z; decide
 ·have e:(x == 0)=false:=by simpa using z
  rw [e,if_neg Pp]
  have:=(U1 (n:=x.natAbs) (k:=10) 'l').mpr h
  lia
theorem Kd (h:oQ A B):mZ A B<=10/\(∀ t∈A,Bd (2 ^ mZ A B) t.1)/\(∀ t∈B,Bd (2 ^ mZ A B) t.1)/\∀ l∈A,∀ r∈B,Bd (2 ^ mZ A B) (bX l.1 r.1):=by
 have a0:=mJ (aS A)
 have b0:=mJ (aS B)
 have a1:=jh (L:=A) (m:=500) 'd' λt ht x hx=>((h.pa t ht).2 x hx).2
 have b1:=jh (L:=B) (m:=500) 'd' λt ht x hx=>((h.pb t ht).2 x hx).2
 have lt:=qz (x:=jg (aS A)+jg (aS B)) 'l'
 have le:=bits_le (x:=jg (aS A)+jg (aS B)) 'l'
 unfold mZ
 refine ⟨le,λt ht=>⟨(h.pa t ht).1,λx hx=>⟨((h.pa t ht).2 x hx).1,?_⟩⟩,λt ht=>⟨(h.pb t ht).1,λx hx=>⟨((h.pb t ht).2 x hx).1,?_⟩⟩,λl hl r hr=>⟨?_,λx hx=>?_⟩⟩
 ·have:=ji ht (h.pa t ht).1 hx; lia
 ·have:=ji ht (h.pb t ht).1 hx; lia
 ·rw [fK]; have:=(h.pa l hl).1; have:=(h.pb r hr).1; lia
 ·unfold bX at hx
  obtain ⟨k,_,rfl⟩:=Pz.mp hx
  have ga:0<=aN l.1 k/\aN l.1 k<=jg (aS A):=by
   by_cases z:k<l.1.length
   ·rw [cu z]; exact ⟨((h.pa l hl).2 _ (P0 _)).1,ji hl (h.pa l hl).1 (P0 _)⟩
   ·rw [bR 'l']; lia
  have gb:0<=aN r.1 k/\aN r.1 k<=jg (aS B):=by
   by_cases z:k<r.1.length
   ·rw [cu z]; exact ⟨((h.pb r hr).2 _ (P0 _)).1,ji hr (h.pb r hr).1 (P0 _)⟩
   ·rw [bR 'l']; lia
  lia
noncomputable def CW:Fn:=λds r=>∃ A B:List aG,oQ A B/\ds=[.lst (A.map af),.lst (B.map af)]/\r=.ok (.ow ((aR (av A B)).map af))
theorem MH (h:oQ A B):CW [.lst (A.map af),.lst (B.map af)] (.ok (.ow ((aR (av A B)).map af))):=⟨A,B,h,rfl,rfl⟩
section
local macro_rules | `(tactic| walk_at "evX")=> `(tactic| first | ((with_reducible show dU _ (Expr.Dict _ _ _) _ _); with_reducible refine EF ?_))
local macro_rules | `(tactic| walk_at "evCa")=> `(tactic| first | with_reducible refine aX (F:=zK) 'm' 'd' ?_ | with_reducible refine aX (F:=oO) 'm' 'd' ?_)
local macro_rules | `(tactic| walk_at "evXp")=> `(tactic| with_reducible refine Fl (F:=J4) 'm' 'd' 'a' 'a' 'w' ?_)
local macro_rules | `(tactic| walk_at "evXC")=> `(tactic| first | ((with_reducible show dU _ (Qk (Pw "unpacked" _) _ _ _) _ _); refine pU 3 'a' rfl 's' (x_call (F:=F7) 'm' 'd' ?_)))
theorem Ke (Fu:d9 K "poly_times" "poly_times" (top 31) f fd) (T:Txt K mg) (h1:fk P w K mg base 2 "width_for" zK) (h2:fk P w K mg base 2 "packed" oO)
 (h3:Jw P w K mg base 1 "add_products" J4) (h4:fk P w K mg base 3 "unpacked" F7):bw P w K mg base (cN P w) 4 f fd ["one","other"] (eE K CW):=by
 refine cP Fu nv (by rintro ds r ⟨A,B,_,rfl,_⟩; rfl) (by rintro ds r ⟨A,B,_,_,rfl⟩; exact ⟨_,rfl⟩) λc hq ds sl hF=>?_
 obtain ⟨A,B,h,rfl,e⟩:=hF
 injection e with e
 subst e
 show aU c _ [.va (.lst (A.map af)),.va (.lst (B.map af)),.un,.un] _ _
 conv in (ay _)=>whnf
 obtain ⟨w1,w2,w3,w4⟩:=Kd h
 rw?
 refine aO (Ht λt ht=>?_) ?_
 ·rcases PF.mp ht with z | z
  ·exact (h.pa t z).1
  ·exact (h.pb t z).1
 rw?
 refine aO (qy w1 h.la w2) ?_
 rw?
 refine aO (qy w1 h.lb w3) ?_
 rw?
 refine ⟨_,⟨[],A,B,mZ A B,w1,by simpa using h.lp,h.la,h.lb,(λt ht=>by cases ht),λl hl r hr=>⟨w4 l hl r hr,h.mu l hl r hr⟩,rfl,rfl,rfl⟩,?_⟩
 rintro kvs' rfl
 rw [Tt]
 rw?
 refine aO (MG (ts:=av A B) w1 (by rw [gz]; exact h.lp) λt ht=>?_) ⟨fR λx _=>qu x,rfl⟩
 obtain ⟨l,hl,r,hr,rfl⟩:=fL ht
 exact w4 l hl r hr
end
end
section
variable {K:O7}
theorem kJ (n):(nj 0 n).length=n:=by simp [nj]
theorem zM (L) (t):L.map af++[af t]=(L++[t]).map af:=by rw [Qh]; rfl
noncomputable def qA:Fn:=λds r=>∃ A B:List aG,oQ A B/\ds=[.lst (A.map af),.lst (B.map af)]/\r=.ok (.ow ((aR (av A B)).map af))
theorem F8 (h:oQ A B):qA [.lst (A.map af),.lst (B.map af)] (.ok (.ow ((aR (av A B)).map af))):=⟨A,B,h,rfl,rfl⟩
theorem zN (n):(Pu n [D.int 0]).flatten=(Pu n (0:Int)).map D.int:=by
 induction n with
 | zero=>rfl
 | succ n ih=>rw [Rh,R8,ih,Rh]; rfl
theorem qB (h:k<n) (hp:p.length<=n):j9 (p.map D.int++(Pu n [D.int 0]).flatten) (k:Int)=some (.int (aN p k)):=by
 rw [zN,<- Qh,gJ 'l' (by simp; lia),Qc,Pr]
 by_cases z:k<p.length
 ·rw [Rc z,PX z,cu z]; rfl
 ·rw [RA 'l',Vj,if_pos 'l',bR 'l']; rfl
section
local macro_rules | `(tactic| walk_at "evBo")=> `(tactic| first | ((with_reducible show aB _ (Rz (T5 _ _ _) Operator.Mult _ _) _ _); with_reducible refine Cc ?_))
local macro_rules | `(tactic| walk_at "evCa")=> `(tactic| first
 | ((with_reducible show aB _ (Qk (Pw "max" _) [_,_] _ _) _ _); with_reducible refine B4 (Txt.max 'm') ?_))
theorem CY (Fu:d9 K "_law_product" "_law_product" (top 46) f fd) (T:Txt K mg) (h1:fk P w K mg base 2 "_law_sum" j5):bw P w K mg base (cN P w) 3 f fd ["_law_one","_law_other"] (eE K qA):=by
 refine cP Fu qm (by rintro ds r ⟨A,B,_,rfl,_⟩; rfl) (by rintro ds r ⟨A,B,_,_,rfl⟩; exact ⟨_,rfl⟩) λc hq ds sl hF=>?_
 obtain ⟨A,B,h,rfl,e⟩:=hF
 injection e with e
 subst e
 show aU c _ [.va (.lst (A.map af)),.va (.lst (B.map af)),.un,.un,.un,.un,.un,.un,.un] _ _
 conv in (ay _)=>whnf
 rw?
 show fm c _ [.va (.lst (A.map af)),.va (.lst (B.map af)),.ow ((av (A.take 0) B).map af),.un,.un,.un,.un,.un,.un] _ _
 with_reducible refine eS hq (dh ?_)
 rw?
 refine ⟨λi Y'=>∃ s3 s4 s5 s6 s7 s8:Sl,Y'=[.va (.lst (A.map af)),.va (.lst (B.map af)),.ow ((av (A.take i) B).map af),s3,s4,s5,s6,s7,s8],⟨_,_,_,_,_,_,rfl⟩,?_,?_⟩
 ·rintro c' x9 DK DL i d Y' hd ⟨s3,s4,s5,s6,s7,s8,rfl⟩
  simp only [Pr,PD] at hd
  obtain ⟨l,hlx,rfl⟩:=hd
  obtain ⟨hi,rfl⟩:=Po.mp hlx
  have hq':c'.X.xe=λ_ _=>False:=by rw [x9]; exact hq
  show nh c' _ (.tup [.tup (A[i].1.map .int),.int A[i].2]) _ _
  rw?
  with_reducible refine eS hq' (dh ?_)
  rw?
  have hm:=h.mu A[i] (P0 hi)
  have h6:=(h.pa A[i] (P0 hi)).1
  have e0:av (A.take (i+1)) B=av (A.take i) B++B.map (dG A[i]):=by
   rw [QZ hi,oH]
  have hlen:(av (A.take i) B).length+B.length<=400000:=by
   rw [gz,Qf,Se 'l',<- TN]
   exact Pj (Nat.mul_le_mul_right _ 'l') h.lp
  generalize A[i]=l at hm h6 e0 |-
  generalize av (A.take i) B=ts at e0 hlen |-
  refine ⟨λj Y'=>∃ s5 s6 s7 s8:Sl,Y'=[.va (.lst (A.map af)),.va (.lst (B.map af)),.ow ((ts++(B.take j).map (dG l)).map af),.va (.tup (l.1.map .int)),.va (.int l.2),s5,s6,s7,s8],⟨s5,s6,s7,s8,by simp⟩,?_,?_⟩
  ·rintro c2 hcX2 hcR2 hcM2 j d Y' hd ⟨s5,s6,s7,s8,rfl⟩
   simp only [Pr,PD] at hd
   obtain ⟨r,hrx,rfl⟩:=hd
   obtain ⟨hj,rfl⟩:=Po.mp hrx
   have hmr:=hm B[j] (P0 hj)
   have h6r:=(h.pb B[j] (P0 hj)).1
   have hq2:c2.X.xe=λ_ _=>False:=by rw [hcX2]; exact hq'
   have e1:ts++(B.take (j+1)).map (dG l)=(ts++(B.take j).map (dG l))++[dG l B[j]]:=by
    rw [QZ hj,Qh,PU]; rfl
   have hlen2:((ts++(B.take j).map (dG l)).map af).length<sizeLine:=fW (by
    rw [Pc,PY,Pc,Qf]; lia)
   generalize ts++(B.take j).map (dG l)=us at e1 hlen2 |-
   generalize B[j]=r at hmr h6r e1 |-
   show nh c2 _ (.tup [.tup (r.1.map .int),.int r.2]) _ _
   rw?
   have ew:(if ((r.1.map D.int).length:Int)>((l.1.map D.int).length:Int) then ((r.1.map D.int).length:Int) else ((l.1.map D.int).length:Int))=((max l.1.length r.1.length:Nat):Int):=by simp only [Pc]; split <;> lia
   rw [ew]
   have hw6:max l.1.length r.1.length<=6:=by lia
   refine Bp 'a' hq2 (N':=["_law_k","_law_left","_law_right","_law_wide"]) (Y0:=λ_=>[.un,.va (.tup (l.1.map .int)),.va (.tup (r.1.map .int)),.va (.int ((max l.1.length r.1.length:Nat):Int))]) (λt=>.un (.fr 'a' 'a' 'd' rfl (.fr 'a' 'a' 'd' rfl (.fr 'a' 'a' 'd' rfl .nil)))) (gj (Txt.range T) ?_)
   rw?
   ·exact ⟨by lia,by lia⟩
   ·rw [kJ]; exact mY 'l'
   refine ⟨(PM (max l.1.length r.1.length)).map λk=>some (.int (aN l.1 k+aN r.1 k)),by simp [kJ],?_,?_⟩
   ·intro c3 hc3 t k d o hd ho
    rw [Qc] at hd
    obtain ⟨hk,rfl⟩:=iW hd
    rw [Pr,SG hk] at ho
    cases ho
    refine fj 'a' (j0 's' ⟨.un (.same (.same (.same .nil))),?_⟩)
    simp only [kr]
    refine ⟨λ_=>?_,λh=>by cases h⟩
    rw?
    refine ⟨_,_,rfl,rfl,⟨⟨by simp,by lia,by lia,?_⟩,?_⟩⟩
    ·exact mY (by simp; lia)
    rw [Qc]
    rw?
    ·exact mY (by simp; lia)
    refine nQ (qB (p:=l.1) hk 'l') ?_
    rw?
    refine ⟨_,_,rfl,rfl,⟨⟨by simp,by lia,by lia,?_⟩,?_⟩⟩
    ·exact mY (by simp; lia)
    rw [Qc]
    rw?
    ·exact mY (by simp; lia)
    refine nQ (qB (p:=r.1) hk 'l') ?_
    rw?
    rfl
   ·rw [dD (λk=>D.int (aN l.1 k+aN r.1 k)),show (PM (max l.1.length r.1.length)).map (λk=>D.int (aN l.1 k+aN r.1 k))=(bX l.1 r.1).map D.int by unfold bX; rw [PZ]; rfl]
    rw?
    ·exact kB _
    refine ⟨.va (.tup (r.1.map .int)),.va (.int r.2),.va (.int ((max l.1.length r.1.length:Nat):Int)),.ow ((bX l.1 r.1).map .int),?_⟩
    show [_,_,Sl.ow _,_,_,_,_,_,_]=_
    rw [e1,<- zM]
    rfl
  ·rintro Y' ⟨s5,s6,s7,s8,rfl⟩
   rw [Pc,QH,<- e0]
   rw?
   exact ⟨_,_,_,_,_,_,rfl⟩
 ·rintro Y' ⟨s3,s4,s5,s6,s7,s8,rfl⟩
  rw [Pc,QH]
  refine aJ (jR (Mc 2 'a' rfl 's' (x_call (F:=j5) 'm' 'd' ?_)))
  rw?
  refine aO (iG (by rw [gz]; exact h.lp) λt ht=>?_) ⟨fR λx _=>qu x,rfl⟩
  obtain ⟨l,hl,r,hr,rfl⟩:=fL ht
  show (bX l.1 r.1).length<=64
  have:=(h.pa l hl).1
  have:=(h.pb r hr).1
  rw [fK]; lia
end
end
section
variable {P:Program} {w:World} {K:O7} {mg:Str->Option Value} {base:Heap}
def Ex (m:Int) (L:List aG):Prop:=∀ t∈L,t.1.length<=6/\∀ x∈t.1,0<=x/\x<=m
def Bn (m:Nat) (L:List aG):Prop:=∀ t∈L,t.2.natAbs<2 ^ m
theorem Ex.bd (h:Ex m L) (hm:m<2 ^ W):∀ t∈L,Bd (2 ^ W) t.1:=λt ht=>⟨(h t ht).1,λx hx=>⟨((h t ht).2 x hx).1,SK ((h t ht).2 x hx).2 hm⟩⟩
theorem mK (h0:0<=m) (h:∀ x∈p,0<=x/\x<=m) (k):0<=aN p k/\aN p k<=m:=by
 by_cases z:k<p.length
 ·rw [cu z]; exact h _ (P0 _)
 ·rw [bR 'l']; lia
theorem xK (h0:0<=m) (g0:0<=n) (hp:p.length<=6/\∀ x∈p,0<=x/\x<=m) (hq:q.length<=6/\∀ x∈q,0<=x/\x<=n):(bX p q).length<=6/\∀ x∈bX p q,0<=x/\x<=m+n:=by
 refine ⟨by rw [fK]; lia,λx hx=>?_⟩
 unfold bX at hx
 obtain ⟨k,_,rfl⟩:=Pz.mp hx
 have:=mK h0 hp.2 k
 have:=mK g0 hq.2 k
 lia
theorem Ex.prod (h0:0<=m) (g0:0<=n) (h:Ex m A) (g:Ex n B):Ex (m+n) (av A B):=λt ht=>by
 obtain ⟨l,hl,r,hr,rfl⟩:=fL ht
 exact xK h0 g0 (h l hl) (g r hr)
theorem Ex.sum (h:Ex m L):Ex m (aY L):=by
 unfold aY
 suffices H:∀ (ts A:List aG),Ex m A->Ex m ts->Ex m (ts.foldl gW A) from H L [] (λt ht=>by cases ht) h
 intro ts
 induction ts with
 | nil=>exact λA hA _=>hA
 | cons u ts ih =>
  refine λA hA hts=>ih _ (λt ht=>?_) λt ht=>hts t (Ph _ ht)
  rcases sY ht with rfl | q
  ·have:=hts u Pd
   exact ⟨Pj (dz _) this.1,λx hx=>this.2 x (mD hx)⟩
  ·exact hA t q
theorem Ex.mono (h:Ex m L) (hn:m<=n):Ex n L:=λt ht=>⟨(h t ht).1,λx hx=>⟨((h t ht).2 x hx).1,P1 ((h t ht).2 x hx).2 hn⟩⟩
theorem Ex.app (h:Ex m A) (g:Ex m B):Ex m (A++B):=λt ht=>(PF.mp ht).elim (h t) (g t)
theorem Bn.mono (h:Bn m L) (hn:m<=n):Bn n L:=λt ht=>P9 (h t ht) (Ul 'd' hn)
theorem Bn.prod (h:Bn m A) (g:Bn n B):Bn (m+n) (av A B):=λt ht=>by
 obtain ⟨l,hl,r,hr,rfl⟩:=fL ht
 show (l.2 * r.2).natAbs<_
 rw [Int.natAbs_mul,Nat.pow_add]
 exact Nat.mul_lt_mul'' (h l hl) (g r hr)
theorem Bn.sum (h:Bn m L) (hl:L.length<2 ^ 20):Bn (m+20) (aY L):=λt ht=>by
 have:=JK (m:=2 ^ m) (λt ht=>Rx (h t ht)) t ht
 refine R4 this ?_
 rw [Nat.pow_add,UT]
 exact Nat.mul_lt_mul_of_pos_left hl (Nat.two_pow_pos m)
theorem xM (h:a.natAbs<2 ^ m):QB a<=m+1:=by
 unfold QB
 by_cases z:a=0
 ·subst z; simp
 ·have e:(a == 0)=false:=by simpa using z
  rw [e,if_neg Pp]
  have:=(U1 (n:=a.natAbs) (k:=m) 'l').mpr h
  lia
theorem Kf (h:a.natAbs<2 ^ m) (g:b.natAbs<2 ^ n) (hm:m+n<=1000000):EV.MulOk a b:=by
 have h1:=xM h
 have h2:=xM g
 unfold EV.MulOk IntMulOk Builtin.Int.intTooBig bitsLine
 have e:decide (((QB a+QB b:Nat):Int)>((2 ^ 27:Nat):Int))=false:=by
  apply decide_eq_false
  rw [show (2:Nat) ^ 27=134217728 by decide]
  lia
 simp only [SS]
 rintro ⟨_,z⟩
 have z':=of_decide_eq_true z
 rw [show (2:Nat) ^ 27=134217728 by decide] at z'
 lia
theorem Ex.jj (h:Ex m L):Ex m (aR L):=λt ht=>Ex.sum h t (gw ht).1
theorem Bn.jj (h:Bn m L) (hl:L.length<2 ^ 20):Bn (m+20) (aR L):=λt ht=>Bn.sum h hl t (gw ht).1
structure Lm (l:Nat) (e:Int) (b:Nat) (A:List aG):Prop where
 l:A.length<=l
 e:Ex e A
 b:Bn b A
section
variable {ba bb:Nat}
theorem Lm.jj (h:Lm la ea ba A) (hl:la<2 ^ 20:=by decide):Lm la ea (ba+20) (aR A):=⟨Pj (i9 _) h.l,h.e.jj,h.b.jj (R4 h.l hl)⟩
theorem Lm.mono (h:Lm la ea ba A) (h1:la<=lb:=by decide) (h2:ea<=eb:=by decide) (h3:ba<=bb:=by decide):Lm lb eb bb A:=⟨Pj h.l h1,h.e.mono h2,h.b.mono h3⟩
theorem Lm.prod (h:Lm la ea ba A) (g:Lm lb eb bb B) (h0:0<=ea:=by decide) (g0:0<=eb:=by decide):Lm (la * lb) (ea+eb) (ba+bb) (av A B):=⟨by rw [gz]; exact UJ h.l g.l,h.e.prod h0 g0 g.e,h.b.prod g.b⟩
theorem Lm.con (hn:n.natAbs<2 ^ ba):Lm 1 0 ba (cT n):=⟨O9 _,(λt ht=>by cases Pk.mp ht; exact ⟨P7 _,λx hx=>by cases hx⟩),λt ht=>by cases Pk.mp ht; exact hn⟩
end
end
section
variable {P:Program} {w:World} {K:O7} {mg:Str->Option Value} {base:Heap}
noncomputable def Nk:Fn:=λds r=>∃ (l:List Int) (k:Nat),ds=[.tup (l.map .int),.int (k:Int)]/\r=.ok (.va (.int (aN l k)))
theorem Ow (l) (k:Nat):Nk [.tup (l.map .int),.int (k:Int)] (.ok (.va (.int (aN l k)))):=⟨l,k,rfl,rfl⟩
theorem MI (Fu:d9 K "power_at" "power_at" (top 21) f fd) (T:Txt K mg):bw P w K mg base (cN P w) 1 f fd ["powers","k"] (eE K Nk):=by
 refine cP Fu tF (by rintro ds r ⟨l,k,rfl,_⟩; rfl) (by rintro ds r ⟨l,k,_,rfl⟩; exact ⟨_,rfl⟩) λc hq ds sl hF=>?_
 obtain ⟨l,k,rfl,e⟩:=hF
 injection e with e
 subst e
 show aU c _ [.va (.tup (l.map .int)),.va (.int (k:Int))] _ _
 conv in (ay _)=>whnf
 rw?
 ·rename_i h
  rw [Pc] at h
  refine tL 'l' 'l' ?_
  show Sl.va _=Sl.va _
  rw [Qc,cu 'l',Qn,PX 'l']
  rfl
 ·rename_i h
  rw [Pc] at h
  show Sl.va _=Sl.va _
  rw [bR 'l']
theorem mP:∀ {L:List aG} (a:Int),a<=m->(∀ t∈L,aN t.1 k<=m)->L.foldl (λa t=>if aN t.1 k>a then aN t.1 k else a) a<=m
 | [],a,h,_=>h
 | t::L,a,h,h2=>by
  refine mP (L:=L) _ ?_ λu hu=>h2 u (Ph _ hu)
  have:=h2 t Pd
  show (if aN t.1 k>a then aN t.1 k else a)<=m
  split <;> lia
theorem cK:∀ {L:List aG} (a:Int) {t:aG},t∈L->aN t.1 k<=L.foldl (λa t=>if aN t.1 k>a then aN t.1 k else a) a
 | u::L,a,t,h=>by
  rcases Pg.mp h with rfl | h
  ·refine P1 ?_ (qw L k _)
   show aN t.1 k<=if aN t.1 k>a then aN t.1 k else a
   split <;> lia
  ·exact cK (L:=L) _ h
theorem mQ (n):(nj 0 n).length=n:=by simp [nj]
structure iI (K:List Int->Int):Prop where
 tr:∀ p,K (trim p)=K p
 ad:∀ p q,K (bX p q)=K p+K q
noncomputable def kc (K:List Int->Int) (U:Int) (A:List aG):Int:=ev (λq=>if K q=U then 1 else 0) A
section
variable {K:List Int->Int}
theorem dJ (h:iI K) (U) (t) (A):kc K U (t::A)=(if K t.1=U then t.2 else 0)+kc K U A:=by
 unfold kc
 rw [aW,h.tr]
 by_cases e:K t.1=U <;> simp [e]
theorem vh (U) (A B):kc K U (A++B)=kc K U A+kc K U B:=cy _ B A
theorem jJ (h:mp A=mp B) (U):kc K U A=kc K U B:=d8.mp h _
theorem cW (h:iI K):∀ {A:List aG},(∀ t∈A,K t.1≠U)->kc K U A=0
 | [],_=>rfl
 | t::A,g=>by
  rw [dJ h,if_neg (g t Pd),cW h λu hu=>g u (Ph _ hu)]
  rfl
theorem vj (h:iI K):∀ {A:List aG} {t:aG},t∈A->(∀ u∈A,u≠t->K u.1≠K t.1)->A.Nodup->kc K (K t.1) A=t.2
 | u::A,t,ht,g,nd=>by
  rw [QM] at nd
  rw [dJ h]
  rcases Pg.mp ht with rfl | ht
  ·rw [if_pos rfl,cW h λv hv=>g v (Ph _ hv) λe=>nd.1 (e ▸ hv)]
   lia
  ·rw [if_neg (g u Pd λe=>nd.1 (e ▸ ht)),vj h ht (λv hv=>g v (Ph _ hv)) nd.2]
   lia
theorem CZ (h:iI K) (U) (t):∀ B:List aG,kc K U (B.map (dG t))=t.2 * kc K (U - K t.1) B
 | []=>by show (0:Int)=_ * 0; lia
 | u::B=>by
  rw [Pn,dJ h,dJ h,CZ h U t B]
  show (if K (bX t.1 u.1)=U then t.2 * u.2 else 0)+_=_
  rw [h.ad,RP]
  by_cases e:K t.1+K u.1=U
  ·rw [if_pos e,if_pos 'l']
  ·rw [if_neg e,if_neg 'l']
   lia
theorem prod_cons (t) (A B):av (t::A) B=B.map (dG t)++av A B:=rfl
theorem tQ (A A' B):av (A++A') B=av A B++av A' B:=by unfold av; rw [List.flatMap_append]
theorem jk (h:iI K) (U) (t) (A B):kc K U (av (t::A) B)=t.2 * kc K (U - K t.1) B+kc K U (av A B):=by rw [prod_cons,vh,CZ h]
theorem F9 (h:iI K) (U) (t) (A B):kc K U (av (A++[t]) B)=kc K U (av A B)+t.2 * kc K (U - K t.1) B:=by
 rw [tQ,vh,jk h]
 show _+(_+0)=_
 lia
theorem mR (h:iI K) (hB:∀ u∈B,K u.1<=n) (hk:m+n<U):∀ {A:List aG},(∀ t∈A,K t.1<=m)->kc K U (av A B)=0
 | [],_=>rfl
 | t::A,hA=>by
  rw [jk h,mR h hB hk λu hu=>hA u (Ph _ hu),cW h λu hu e=>?_]
  ·lia
  ·have:=hB u hu
   have:=hA t Pd
   lia
theorem vm (h:iI K) (hu:u∈B) (hB:∀ v∈B,K v.1<=K u.1) (eB:kc K (K u.1) B=u.2):∀ {A:List aG} {t:aG},t∈A->(∀ v∈A,v≠t->K v.1<K t.1)->A.Nodup->kc K (K t.1+K u.1) (av A B)=t.2 * u.2
 | v::A,t,ht,g,nd=>by
  rw [QM] at nd
  rw [jk h]
  rcases Pg.mp ht with rfl | ht
  ·rw [show K t.1+K u.1 - K t.1=K u.1 by lia,eB,mR h (m:=K t.1 - 1) hB 'l' λw hw=>?_]
   ·lia
   ·have:=g w (Ph _ hw) λe=>nd.1 (e ▸ hw)
    lia
  ·have hv:=g v Pd λe=>nd.1 (e ▸ ht)
   rw [cW h λw hw e=>?_,vm h hu hB eB ht (λw hw=>g w (Ph _ hw)) nd.2]
   ·lia
   ·have:=hB w hw
    lia
theorem mS (K:List Int->Int):∀ {A:List aG},A≠[]->∃ t∈A,∀ u∈A,K u.1<=K t.1
 | [t],_=>⟨t,Pd,λu hu=>by cases Pk.mp hu; exact Qj _⟩
 | t::u::A,_=>by
  obtain ⟨v,hv,g⟩:=mS K (A:=u::A) 'p'
  by_cases e:K v.1<=K t.1
  ·exact ⟨t,Pd,λw hw=>by
    rcases Pg.mp hw with rfl | hw
    ·exact Qj _
    ·exact P1 (g w hw) e⟩
  ·exact ⟨v,Ph _ hv,λw hw=>by
    rcases Pg.mp hw with rfl | hw
    ·lia
    ·exact g w hw⟩
end
theorem dM (b):iI (pk b):=⟨fV b,eY b⟩
structure Nf (b:Int) (A:List aG):Prop where
 g:Gd b A
 s:A.Pairwise λx y=>pk b y.1<pk b x.1
 z:∀ t∈A,t.2≠0
theorem pw_nodup {α:Type} {f:α->Int}:∀ {A:List α},(A.Pairwise λx y=>f y<f x)->A.Nodup/\∀ x∈A,∀ y∈A,x≠y->f x≠f y
 | [],_=>⟨List.nodup_nil,λx hx=>by cases hx⟩
 | a::A,h=>by
  rw [Ri] at h
  obtain ⟨n1,n2⟩:=pw_nodup h.2
  refine ⟨QM.mpr ⟨λm=>by have:=h.1 a m; lia,n1⟩,λx hx y hy e=>?_⟩
  rcases Pg.mp hx with hx' | hx' <;> rcases Pg.mp hy with hy' | hy'
  ·exact absurd (hx'.trans hy'.symm) e
  ·rw [hx']; have:=h.1 y hy'; lia
  ·rw [hy']; have:=h.1 x hx'; lia
  ·exact n2 x hx' y hy' e
theorem Nf.nd (h:Nf b A):A.Nodup:=(pw_nodup h.s).1
theorem Nf.at (h:Nf b A) (ht:t∈A):kc (pk b) (pk b t.1) A=t.2:=vj (dM b) ht (λu hu e=>(pw_nodup h.s).2 u hu t ht e) h.nd
theorem Nf.tail (h:Nf b (t::A)):Nf b A/\∀ u∈A,pk b u.1<pk b t.1:=by
 have h2:=Ri.mp h.s
 exact ⟨⟨λu hu=>h.g u (Ph _ hu),h2.2,λu hu=>h.z u (Ph _ hu)⟩,h2.1⟩
theorem Nf.drop (h:Nf b A) (i):Nf b (A.drop i):=⟨λt ht=>h.g t (List.mem_of_mem_drop ht),h.s.sublist (Uw _ _),λt ht=>h.z t (List.mem_of_mem_drop ht)⟩
theorem xN (hA:Nf b (t::A)) (hB:Nf b (u::B)):kc (pk b) (pk b t.1+pk b u.1) (av (t::A) (u::B))=t.2 * u.2/\∀ U,pk b t.1+pk b u.1<U->kc (pk b) U (av (t::A) (u::B))=0:=by
 have le:∀ {x:aG} {L:List aG},Nf b (x::L)->∀ v∈x::L,pk b v.1<=pk b x.1:=λ{x L} h v hv=>by
  rcases Pg.mp hv with rfl | hv
  ·exact Qj _
  ·exact QO (h.tail.2 v hv)
 refine ⟨vm (dM b) Pd (le hB) (hB.at Pd) Pd (λv hv e=>?_) hA.nd,λU hk=>mR (dM b) (le hB) hk (le hA)⟩
 rcases Pg.mp hv with rfl | hv
 ·exact absurd rfl e
 ·exact hA.tail.2 v hv
theorem vn (k):∀ {A:List aG},A≠[]->(∀ t∈A,0<=aN t.1 k)->∃ t∈A,aN t.1 k=gk A k:=by
 have key:∀ A:List aG,(∀ t∈A.reverse,0<=aN t.1 k)->gk A.reverse k=0\/∃ t∈A.reverse,aN t.1 k=gk A.reverse k:=by
  intro A
  induction A with
  | nil=>intro _; exact .inl rfl
  | cons t A ih =>
   intro h
   rw [List.reverse_cons] at h |-
   rw [xG]
   unfold DI
   by_cases e:aN t.1 k>gk A.reverse k
   ·rw [if_pos e]
    exact .inr ⟨t,by simp,rfl⟩
   ·rw [if_neg e]
    rcases ih λu hu=>h u (QF _ hu) with z | ⟨u,hu,z⟩
    ·exact .inl z
    ·exact .inr ⟨u,QF _ hu,z⟩
 intro A hA h0
 have:=key A.reverse (by rw [Uo]; exact h0)
 rw [Uo] at this
 rcases this with z | z
 ·obtain ⟨t,ht⟩:=List.exists_mem_of_ne_nil A hA
  have h1:aN t.1 k<=gk A k:=cK 0 ht
  have:=h0 t ht
  exact ⟨t,ht,by lia⟩
 ·exact z
noncomputable def j6 (k:Nat) (b:Int) (q:List Int):Int:=aN q k * (2 * b ^ 6)+pk b q
theorem mT (k) (b):iI (j6 k b):=⟨λp=>by unfold j6; rw [bV,fV],λp q=>by unfold j6; rw [bF,eY,Q9]; lia⟩
theorem Ga (hb:0<b) (hA:Nf b A) (hB:Nf b B) (hO:∀ t∈O,Bd b t.1) (a0:A≠[]) (b0:B≠[]) (e:mp O=mp (av A B)) (k):gk A k+gk B k<=gk O k:=by
 have bd:∀ {L:List aG},(∀ t∈L,Bd b t.1)->∀ t∈L,0<=aN t.1 k/\0<=pk b t.1/\pk b t.1<b ^ 6:=λ{L} h t ht=>⟨(oG hb (h t ht) k).1,(xr hb (h t ht)).1,(xr hb (h t ht)).2⟩
 have gA:∀ t∈A,Bd b t.1:=λt ht=>(hA.g t ht).1
 have gB:∀ t∈B,Bd b t.1:=λt ht=>(hB.g t ht).1
 have hp:0<b ^ 6:=Ry hb
 have lexi:∀ {x y:Int} {p q:Int},0<=p->p<b ^ 6->0<=q->q<b ^ 6->x * (2 * b ^ 6)+p<=y * (2 * b ^ 6)+q->x<=y:=λ{x y p q} h1 h2 h3 h4 h5=>by
  refine Te.mp λh=>?_
  have:(y+1) * (2 * b ^ 6)<=x * (2 * b ^ 6):=Tf 'l' 'l'
  rw [Q9,S3] at this
  lia
 have uniq:∀ {L:List aG},Nf b L->∀ x∈L,∀ y∈L,x≠y->j6 k b x.1≠j6 k b y.1:=λ{L} hL x hx y hy ne e=>by
  have gL:∀ t∈L,Bd b t.1:=λt ht=>(hL.g t ht).1
  have h1:=bd gL x hx
  have h2:=bd gL y hy
  unfold j6 at e
  have l1:=lexi h1.2.1 h1.2.2 h2.2.1 h2.2.2 (Int.le_of_eq e)
  have l2:=lexi h2.2.1 h2.2.2 h1.2.1 h1.2.2 (Int.le_of_eq e.symm)
  have l3:aN x.1 k=aN y.1 k:=by lia
  rw [l3] at e
  exact (pw_nodup hL.s).2 x hx y hy ne 'l'
 obtain ⟨t,ht,mt⟩:=mS (j6 k b) a0
 obtain ⟨u,hu,mu⟩:=mS (j6 k b) b0
 have eB:=vj (mT k b) hu (λv hv e=>uniq hB v hv u hu e) hB.nd
 have top:=vm (mT k b) hu mu eB ht (λv hv e=>by have:=mt v hv; have:=uniq hA v hv t ht e; lia) hA.nd
 rw [<- jJ e] at top
 have ne:t.2 * u.2≠0:=Tu (hA.z t ht) (hB.z u hu)
 obtain ⟨o,ho,eo⟩:∃ o∈O,j6 k b o.1=j6 k b t.1+j6 k b u.1:=by
  refine Qt λhG=>ne (top.symm.trans (cW (mT k b) λv hv e=>hG ⟨v,hv,e⟩))
 obtain ⟨t2,ht2,et2⟩:=vn k a0 λv hv=>(bd gA v hv).1
 obtain ⟨u2,hu2,eu2⟩:=vn k b0 λv hv=>(bd gB v hv).1
 have m1:=mt t2 ht2
 have m2:=mu u2 hu2
 have b1:=bd gA t ht
 have b2:=bd gA t2 ht2
 have b3:=bd gB u hu
 have b4:=bd gB u2 hu2
 have b5:=bd hO o ho
 have l1:aN t2.1 k<=aN t.1 k:=lexi b2.2.1 b2.2.2 b1.2.1 b1.2.2 m1
 have l2:aN u2.1 k<=aN u.1 k:=lexi b4.2.1 b4.2.2 b3.2.1 b3.2.2 m2
 have l3:aN t.1 k+aN u.1 k<=aN o.1 k:=by
  refine Te.mp λh=>?_
  have:(aN o.1 k+1) * (2 * b ^ 6)<=(aN t.1 k+aN u.1 k) * (2 * b ^ 6):=Tf 'l' 'l'
  unfold j6 at eo
  rw [Q9,Q9,S3] at this
  lia
 have l4:aN o.1 k<=gk O k:=cK 0 ho
 lia
end
section
variable {P:Program} {w:World} {K:O7} {mg:Str->Option Value} {base:Heap}
abbrev gQ (C:List (Int×Int)) (U:Int):Prop:=(aM C U).isSome=true
theorem mU (C:List (Int×Int)) (p n q:Int):aM (putD C p n) q=if p=q then some n else aM C q:=by
 have ne:∀ {C:List (Int×Int)},aM C p=none->aM (C++[(p,n)]) q=if p=q then some n else aM C q:=by
  intro C h
  induction C with
  | nil =>
   by_cases e:p=q
   ·rw [if_pos e]; exact bg e
   ·rw [if_neg e]; exact aQ e
  | cons x C ih =>
   have hx:¬ x.1=p:=λe=>by rw [bg e] at h; cases h
   rw [aQ hx] at h
   rw [R9]
   by_cases e:x.1=q
   ·rw [bg e,bg e,if_neg λz=>hx (e.trans z.symm)]
   ·rw [aQ e,aQ e,ih h]
 have mp:∀ {C:List (Int×Int)},gQ C p->aM (C.map λkv=>if kv.1=p then (kv.1,n) else kv) q=if p=q then some n else aM C q:=by
  intro C h
  induction C with
  | nil=>cases h
  | cons x C ih =>
   rw [Pn]
   by_cases z:x.1=p
   ·rw [if_pos z]
    by_cases e:p=q
    ·rw [if_pos e]; exact bg (q:=(x.1,n)) (z.trans e)
    ·have zq:¬ x.1=q:=λw=>e (z.symm.trans w)
     rw [if_neg e,aQ zq,aQ (q:=(x.1,n)) zq]
     clear ih h
     induction C with
     | nil=>rfl
     | cons y C ih =>
      rw [Pn]
      by_cases yp:y.1=p
      ·have yq:¬ y.1=q:=λw=>e (yp.symm.trans w)
       rw [if_pos yp,aQ yq,aQ (q:=(y.1,n)) yq,ih]
      ·rw [if_neg yp]
       by_cases yq:y.1=q
       ·rw [bg yq,bg yq]
       ·rw [aQ yq,aQ yq,ih]
   ·rw [if_neg z]
    unfold gQ at h
    rw [aQ z] at h
    by_cases e:x.1=q
    ·rw [bg e,bg e,if_neg λw=>z (e.trans w.symm)]
    ·rw [aQ e,aQ e,ih h]
 unfold putD
 by_cases h:(aM C p).isSome=true
 ·rw [if_pos h]; exact mp h
 ·rw [if_neg h]
  exact ne (by cases e:aM C p with | none=>rfl | some v=>rw [e] at h; exact absurd rfl h)
theorem fX:gQ C U↔U∈C.map (·.1):=by
 unfold gQ
 induction C with
 | nil=>simp [aM]
 | cons x C ih =>
  by_cases e:x.1=U
  ·rw [bg e]; simp [e]
  ·rw [aQ e,ih,Pn,Pg]
   exact ⟨.inr,λh=>h.elim (λz=>absurd z.symm e) id⟩
theorem C0 (h:(C.map (·.1)).Nodup) (p n:Int):((putD C p n).map (·.1)).Nodup:=by
 unfold putD
 by_cases z:(aM C p).isSome=true
 ·rw [if_pos z,PZ]
  have:(C.map ((·.1)∘λkv=>if kv.1=p then (kv.1,n) else kv))=C.map (·.1):=Rq λx _=>by
   show (if x.1=p then (x.1,n) else x).1=x.1
   split <;> rfl
  rw [this]; exact h
 ·rw [if_neg z,Qh,Uu]
  refine ⟨h,by simp,λa ha b hb e=>z (fX.mpr ?_)⟩
  obtain rfl:b=p:=by simpa using hb
  exact e ▸ ha
theorem gR:∀ (N:Nat) {L:List Int},L.Nodup->(∀ x∈L,0<=x/\x<(N:Int))->L.length<=N
 | 0,L,_,h=>by
  cases L with
  | nil=>exact O9 _
  | cons x L=>have:=h x Pd; lia
 | N+1,L,nd,h=>by
  by_cases m:(N:Int)∈L
  ·have:=gR N (nd.erase (N:Int)) λx hx=>by
    have h1:=h x (List.mem_of_mem_erase hx)
    have h2:x≠(N:Int):=λe=>by rw [e] at hx; exact absurd hx (Td.not_mem_erase nd)
    lia
   rw [List.length_erase_of_mem m] at this
   lia
  ·have:=gR N nd λx hx=>by
    have h1:=h x hx
    have h2:x≠(N:Int):=λe=>m (e ▸ hx)
    lia
   lia
noncomputable def cntK (W:List Int) (w:Int):Nat:=(W.filter λx=>decide (x<w)).length
noncomputable def mV (W:List Int) (w:Int):List Int:=W.take (cntK W w)++w::W.drop (cntK W w)
abbrev C1 (W:List Int):Prop:=W.Pairwise (· < ·)
theorem qC (w):∀ {W:List Int},C1 W->W.take (cntK W w)=W.filter (λx=>decide (x<w))/\W.drop (cntK W w)=W.filter (λx=> !decide (x<w))
 | [],_=>⟨rfl,rfl⟩
 | a::W,h=>by
  have h:=Ri.mp h
  obtain ⟨h1,h2⟩:=qC w h.2
  unfold cntK at *
  by_cases e:a<w
  ·have d:decide (a<w)=true:=decide_eq_true e
   simp only [VZ,d,if_true,P4,List.take_succ_cons,List.drop_succ_cons,RK]
   exact ⟨by rw [h1],by rw [h2]; rfl⟩
  ·have no:W.filter (λx=>decide (x<w))=[]:=List.filter_eq_nil_iff.mpr λx hx=>by
    have:=h.1 x hx
    simp; lia
   have d:decide (a<w)=false:=decide_eq_false e
   have e1:(a::W).filter (λx=>decide (x<w))=[]:=by rw [Sx (by simpa using e),no]
   have e2:W.filter (λx=> !decide (x<w))=W:=List.filter_eq_self.mpr λx hx=>by have:=h.1 x hx; simp only [Bool.not_eq_true',decide_eq_false_iff_not]; lia
   have e3:(a::W).filter (λx=> !decide (x<w))=a::W:=by rw [RC (by simpa using e),e2]
   rw [e1,e3]
   exact ⟨rfl,rfl⟩
theorem vo (W) (w):cntK W w<=W.length:=List.length_filter_le _ _
theorem Gb {w U:Int}:U∈mV W w↔U=w\/U∈W:=by
 unfold mV
 rw [PF,Pg]
 have:U∈W↔U∈W.take (cntK W w)\/U∈W.drop (cntK W w):=by rw [<- PF,Rp]
 rw [this]
 constructor
 ·rintro (h | h | h)
  ·exact .inr (.inl h)
  ·exact .inl h
  ·exact .inr (.inr h)
 ·rintro (h | h | h)
  ·exact .inr (.inl h)
  ·exact .inl h
  ·exact .inr (.inr h)
theorem Ge {w:Int} (h:C1 W) (hw:w∉W):C1 (mV W w):=by
 obtain ⟨h1,h2⟩:=qC w h
 unfold mV
 rw [h1,h2]
 refine SA.mpr ⟨h.filter _,Ri.mpr ⟨λx hx=>?_,h.filter _⟩,λx hx y hy=>?_⟩
 ·obtain ⟨m,d⟩:=Q4.mp hx
  have:x≠w:=λe=>hw (e ▸ m)
  simp at d; lia
 ·obtain ⟨m,d⟩:=Q4.mp hx
  have d':x<w:=by simpa using d
  rcases Pg.mp hy with rfl | hy
  ·exact d'
  ·obtain ⟨m2,d2⟩:=Q4.mp hy
   simp at d2; lia
noncomputable abbrev LS:=List (Int×Int)×List Int
noncomputable def m5 (w:Int) (C:List (Int×Int)):List (Int×Int):=if (aM C w).isSome then C else putD C w 0
noncomputable def Kg (w δ :Int) (st:LS):LS:=(putD (m5 w st.1) w ((aM (m5 w st.1) w).getD 0 - δ),if (aM st.1 w).isSome then st.2 else mV st.2 w)
noncomputable def tY (b s q:Int) (L:List aG) (st:LS):LS:=L.foldl (λst u=>Kg (pk b u.1+s) (u.2 * q) st) st
structure Wk (st:LS):Prop where
 n:(st.1.map (·.1)).Nodup
 a:C1 st.2
 m:∀ U∈st.2,gQ st.1 U
theorem kK (w) (C) (U):(aM (m5 w C) U).getD 0=(aM C U).getD 0/\(gQ (m5 w C) U↔gQ C U\/w=U):=by
 unfold m5 gQ
 by_cases h:(aM C w).isSome=true
 ·rw [if_pos h]
  exact ⟨rfl,.inl,λz=>z.elim id λe=>e ▸ h⟩
 ·rw [if_neg h,mU]
  by_cases e:w=U
  ·rw [if_pos e]
   subst e
   refine ⟨?_,by simp⟩
   cases z:aM C w with
   | none=>rfl
   | some v=>rw [z] at h; exact absurd rfl h
  ·rw [if_neg e]
   exact ⟨rfl,.inl,λz=>z.elim id λq=>absurd q e⟩
theorem Gf (w δ) (st:LS) (U):(aM (Kg w δ st).1 U).getD 0=(aM st.1 U).getD 0 - (if w=U then δ else 0):=by
 show (aM (putD (m5 w st.1) w _) U).getD 0=_
 rw [mU,(kK w st.1 w).1]
 by_cases e:w=U
 ·subst e; rw [if_pos rfl,if_pos rfl]; rfl
 ·rw [if_neg e,if_neg e,(kK w st.1 U).1]; lia
theorem qD (w δ) (st:LS) (U):gQ (Kg w δ st).1 U↔gQ st.1 U\/w=U:=by
 show (aM (putD (m5 w st.1) w _) U).isSome=true↔_
 rw [mU]
 by_cases e:w=U
 ·rw [if_pos e]; simp [e]
 ·rw [if_neg e]; exact (kK w st.1 U).2
theorem tR (w δ) (st:LS) (U):U∈(Kg w δ st).2↔U∈st.2\/(¬ gQ st.1 U/\w=U):=by
 show U∈(if (aM st.1 w).isSome then st.2 else mV st.2 w)↔_
 by_cases h:(aM st.1 w).isSome=true
 ·rw [if_pos h]
  exact ⟨.inl,λz=>z.elim id λ⟨a,b⟩=>absurd (b ▸ h) a⟩
 ·rw [if_neg h,Gb]
  constructor
  ·rintro (rfl | z)
   ·exact .inr ⟨h,rfl⟩
   ·exact .inl z
  ·rintro (z | ⟨_,rfl⟩)
   ·exact .inr z
   ·exact .inl rfl
theorem Kh {w δ :Int} {st:LS} (h:Wk st):Wk (Kg w δ st):=by
 refine ⟨C0 ?_ _ _,?_,λU hk=>?_⟩
 ·unfold m5
  split
  ·exact h.n
  ·exact C0 h.n _ _
 ·show C1 (if (aM st.1 w).isSome then st.2 else mV st.2 w)
  by_cases z:(aM st.1 w).isSome=true
  ·rw [if_pos z]; exact h.a
  ·rw [if_neg z]; exact Ge h.a λm=>z (h.m w m)
 ·rw [qD]
  rcases (tR w δ st U).mp hk with z | ⟨_,z⟩
  ·exact .inl (h.m U z)
  ·exact .inr z
structure Tk (b s q:Int) (L:List aG) (st st':LS):Prop where
 v:∀ U,(aM st'.1 U).getD 0=(aM st.1 U).getD 0 - q * kc (pk b) (U - s) L
 h:∀ U,gQ st'.1 U↔gQ st.1 U\/∃ u∈L,pk b u.1+s=U
 w:∀ U,U∈st'.2↔U∈st.2\/(¬ gQ st.1 U/\∃ u∈L,pk b u.1+s=U)
 k:Wk st'
theorem C2 (b s q):∀ (L:List aG) {st:LS},Wk st->Tk b s q L st (tY b s q L st)
 | [],st,h=>⟨λU=>by show (aM st.1 U).getD 0=_ - q * 0; lia,λU=>⟨.inl,λz=>z.elim id λ⟨u,hu,_⟩=>by cases hu⟩,λU=>⟨.inl,λz=>z.elim id λ⟨_,u,hu,_⟩=>by cases hu⟩,h⟩
 | u::L,st,h=>by
  have T:=C2 b s q L (Kh (w:=pk b u.1+s) (δ :=u.2 * q) h)
  refine ⟨λU=>?_,λU=>?_,λU=>?_,T.k⟩
  ·refine (T.v U).trans ?_
   rw [Gf,dJ (dM b),RP]
   by_cases e:pk b u.1+s=U
   ·rw [if_pos e,if_pos 'l',TR u.2 q]; lia
   ·rw [if_neg e,if_neg 'l']; lia
  ·refine (T.h U).trans ?_
   rw [qD]
   constructor
   ·rintro ((z | z) | ⟨v,hv,e⟩)
    ·exact .inl z
    ·exact .inr ⟨u,Pd,z⟩
    ·exact .inr ⟨v,Ph _ hv,e⟩
   ·rintro (z | ⟨v,hv,e⟩)
    ·exact .inl (.inl z)
    ·rcases Pg.mp hv with rfl | hv
     ·exact .inl (.inr e)
     ·exact .inr ⟨v,hv,e⟩
  ·refine (T.w U).trans ?_
   rw [tR,qD]
   constructor
   ·rintro ((z | ⟨z,e⟩) | ⟨z,v,hv,e⟩)
    ·exact .inl z
    ·exact .inr ⟨z,u,Pd,e⟩
    ·exact .inr ⟨λq=>z (.inl q),v,Ph _ hv,e⟩
   ·rintro (z | ⟨z,v,hv,e⟩)
    ·exact .inl (.inl z)
    ·by_cases eu:pk b u.1+s=U
     ·exact .inl (.inr ⟨z,eu⟩)
     ·rcases Pg.mp hv with rfl | hv
      ·exact absurd e eu
      ·exact .inr ⟨λq=>q.elim z eu,v,hv,e⟩
noncomputable def oR (O B:List aG) (k:Nat):Int:=gk O k - gk B k
structure QT (O B:List aG) (t:aG):Prop where
 l:t.1.length<=6
 tr:trim t.1=t.1
 m:∀ k,0<=aN t.1 k/\aN t.1 k<=oR O B k
structure jo (O:List aG) (lb:aG) (Br:List aG):Prop where
 o:Nf (2 ^ mZ O (lb::Br)) O
 b:Nf (2 ^ mZ O (lb::Br)) (lb::Br)
 w:mZ O (lb::Br)<=4
 s:∀ u∈lb::Br,u.2.natAbs<2 ^ 63
 l:O.length<=20000
 m:Br.length<=20000
 e:gk O 0<=14
section
variable {O Br Q A:List aG} {lb:aG} {C:List (Int×Int)} {W:List Int} {U:Int} {st:LS}
noncomputable abbrev bb (O:List aG) (lb:aG) (Br:List aG):Int:=2 ^ mZ O (lb::Br)
theorem jo.pos (_:jo O lb Br):0<bb O lb Br:=two_pos _
theorem jK (h:p.length<=6) (hk:¬ k<6):aN p k=0:=bR 'o'
theorem jo.gb (_:jo O lb Br) (hk:k<6):gk O k<bb O lb Br:=by
 have h1:gk O k<=jg (aS O):=tM (Pz.mpr ⟨k,TF.mpr hk,rfl⟩)
 have h2:=mJ (aS O)
 have h3:=mJ (aS (lb::Br))
 have:=qz (x:=jg (aS O)+jg (aS (lb::Br))) 'l'
 unfold bb mZ
 lia
theorem jo.box (h:jo O lb Br) (ht:QT O (lb::Br) t) (hu:u∈lb::Br):Bd (bb O lb Br) (bX u.1 t.1):=by
 have bu:=(h.b.g u hu).1
 refine ⟨by rw [fK]; have:=bu.1; have:=ht.l; omega,λx hx=>?_⟩
 unfold bX at hx
 obtain ⟨k,hk,rfl⟩:=Pz.mp hx
 have k6:k<6:=by have:=TF.mp hk; have:=bu.1; have:=ht.l; omega
 have h1:=oG h.pos bu k
 have h2:=ht.m k
 have h3:aN u.1 k<=gk (lb::Br) k:=cK 0 hu
 have h4:=h.gb k6
 unfold oR at h2
 lia
theorem jo.MJ (h:jo O lb Br) (ht:QT O (lb::Br) t) (hu:u∈lb::Br):aN (bX u.1 t.1) 0<=14:=by
 rw [bF]
 have h2:=ht.m 0
 have h3:aN u.1 0<=gk (lb::Br) 0:=cK 0 hu
 have h4:=h.e
 unfold oR at h2
 lia
theorem jo.rg (h:jo O lb Br) (hv:Bd (bb O lb Br) v) (h0:aN v 0<=14):0<=pk (bb O lb Br) v/\pk (bb O lb Br) v<15728640:=by
 have hb5:(bb O lb Br) ^ 5<=1048576:=by
  have w:=h.w
  unfold bb
  generalize mZ O (lb::Br)=n at w
  have:n=0\/n=1\/n=2\/n=3\/n=4:=by omega
  rcases this with rfl | rfl | rfl | rfl | rfl <;> decide
 have hp:0<(bb O lb Br) ^ 5:=Ry h.pos
 refine ⟨(xr h.pos hv).1,?_⟩
 show aN v 0 * (bb O lb Br) ^ 5+dig (bb O lb Br) 5 (λi=>aN v (i+1))<_
 have d:=(gx h.pos 5 (λi=>aN v (i+1)) λi _=>oG h.pos hv (i+1)).2
 have m:aN v 0 * (bb O lb Br) ^ 5<=14 * (bb O lb Br) ^ 5:=Tf h0 (QO hp)
 lia
theorem jo.Ox (h:jo O lb Br) (ht:QT O (lb::Br) t):Bd (bb O lb Br) t.1:=by
 refine ⟨ht.l,λx hx=>?_⟩
 obtain ⟨k,hk,rfl⟩:=List.mem_iff_getElem.mp hx
 have h2:=ht.m k
 have h4:=h.gb (k:=k) (by have:=ht.l; omega)
 have h5:=xF (lb::Br) k
 rw [cu hk] at h2
 unfold oR at h2
 lia
noncomputable def rem (O:List aG) (lb:aG) (Br Q:List aG) (U:Int):Int:=kc (pk (bb O lb Br)) U O - kc (pk (bb O lb Br)) U (av Q (lb::Br))
structure Dv (O:List aG) (lb:aG) (Br Q:List aG) (st:LS):Prop where
 k:Wk st
 q:∀ t∈Q,QT O (lb::Br) t
 r:∀ U,gQ st.1 U->∃ v,Bd (bb O lb Br) v/\aN v 0<=14/\U=pk (bb O lb Br) v
 a:∀ U∈st.2,(aM st.1 U).getD 0=rem O lb Br Q U
 n:∀ U,¬ gQ st.1 U->rem O lb Br Q U=0
 p:∀ U,gQ st.1 U->U∉st.2->rem O lb Br Q U=0/\∀ U'∈st.2,U'<U
structure XA (O:List aG) (lb:aG) (Br A:List aG):Prop where
 n:Nf (bb O lb Br) A
 e:∀ U,kc (pk (bb O lb Br)) U O=kc (pk (bb O lb Br)) U (av A (lb::Br))
 m:∀ t∈A,∀ k,aN t.1 k<=oR O (lb::Br) k
theorem jl (h:C1 (W++[U])) (hx:x∈W):x<U:=(SA.mp h).2.2 x hx U (Pk.mpr rfl)
theorem Dv.Oz (h:Dv O lb Br Q (C,W++[U])) (z:(aM C U).getD 0=0):Dv O lb Br Q (C,W):=by
 have hk:U∈W++[U]:=by simp
 refine ⟨⟨h.k.n,(SA.mp h.k.a).1,λx hx=>h.k.m x (QF _ hx)⟩,h.q,h.r,λx hx=>h.a x (QF _ hx),h.n,λx hx hn=>?_⟩
 by_cases e:x=U
 ·subst e
  exact ⟨(h.a x hk).symm.trans z,λy hy=>jl h.k.a hy⟩
 ·have:=h.p x hx λm=>by
   rcases PF.mp m with m | m
   ·exact hn m
   ·exact e (Pk.mp m)
  exact ⟨this.1,λy hy=>this.2 y (QF _ hy)⟩
theorem Dv.step (d:jo O lb Br) (h:Dv O lb Br Q (C,W++[U])) (ht:QT O (lb::Br) t) (hk:pk (bb O lb Br) t.1+pk (bb O lb Br) lb.1=U) (hv:t.2 * lb.2=(aM C U).getD 0) :
 Dv O lb Br (Q++[t]) (tY (bb O lb Br) (pk (bb O lb Br) t.1) t.2 Br (C,W))/\∀ x∈(tY (bb O lb Br) (pk (bb O lb Br) t.1) t.2 Br (C,W)).2,x<U:=by
 have hm:U∈W++[U]:=by simp
 have hkC:gQ C U:=h.k.m U hm
 have ka:=dM (bb O lb Br)
 have T:=C2 (bb O lb Br) (pk (bb O lb Br) t.1) t.2 Br (st:=(C,W)) ⟨h.k.n,(SA.mp h.k.a).1,λx hx=>h.k.m x (QF _ hx)⟩
 have lt:∀ u∈Br,pk (bb O lb Br) u.1+pk (bb O lb Br) t.1<U:=λu hu=>by have:=d.b.tail.2 u hu; lia
 have zero:∀ x,U<=x->kc (pk (bb O lb Br)) (x - pk (bb O lb Br) t.1) Br=0:=λx hx=>cW ka λu hu e=>by have:=lt u hu; lia
 have rr:∀ x,rem O lb Br (Q++[t]) x=rem O lb Br Q x - (if x=U then t.2 * lb.2 else 0) - t.2 * kc (pk (bb O lb Br)) (x - pk (bb O lb Br) t.1) Br:=λx=>by
  unfold rem
  rw [F9 ka,dJ ka,RP]
  by_cases e:x=U
  ·rw [if_pos e,if_pos 'l']; lia
  ·rw [if_neg e,if_neg 'l']; lia
 have r0:rem O lb Br (Q++[t]) U=0:=by
  rw [rr,if_pos rfl,zero U (Qj _),<- h.a U hm,hv]; lia
 have wlt:∀ x∈(tY (bb O lb Br) (pk (bb O lb Br) t.1) t.2 Br (C,W)).2,x<U:=λx hx=>by
  rcases (T.w x).mp hx with z | ⟨_,u,hu,e⟩
  ·exact jl h.k.a z
  ·rw [<- e]; exact lt u hu
 refine ⟨⟨T.k,λu hu=>?_,λx hx=>?_,λx hx=>?_,λx hx=>?_,λx hx hn=>?_⟩,wlt⟩
 ·rcases PF.mp hu with hu | hu
  ·exact h.q u hu
  ·rw [Pk.mp hu]; exact ht
 ·rcases (T.h x).mp hx with z | ⟨u,hu,e⟩
  ·exact h.r x z
  ·exact ⟨_,d.box ht (Ph _ hu),d.MJ ht (Ph _ hu),by rw [eY]; exact e.symm⟩
 ·have ne:x≠U:=λe=>by have:=wlt x hx; lia
  rw [T.v,rr,if_neg ne]
  rcases (T.w x).mp hx with z | ⟨z,_⟩
  ·rw [h.a x (QF _ z)]; lia
  ·rw [h.n x z]
   have:(aM C x).getD 0=0:=by cases e:aM C x with | none=>rfl | some v=>exact absurd (show gQ C x by unfold gQ; rw [e]; rfl) z
   rw [this]; lia
 ·have z:=λq=>hx ((T.h x).mpr q)
  have ne:x≠U:=λe=>z (.inl (e ▸ hkC))
  rw [rr,if_neg ne,h.n x λq=>z (.inl q),cW ka λu hu e=>z (.inr ⟨u,hu,by lia⟩)]
  lia
 ·have z:¬ (x∈W\/(¬ gQ C x/\∃ u∈Br,pk (bb O lb Br) u.1+pk (bb O lb Br) t.1=x)):=λq=>hn ((T.w x).mpr q)
  have hC:gQ C x:=by
   refine Qt λq=>?_
   rcases (T.h x).mp hx with g | g
   ·exact q g
   ·exact z (.inr ⟨q,g⟩)
  by_cases e:x=U
  ·rw [e]; exact ⟨r0,wlt⟩
  ·have:=h.p x hC λm=>by
    rcases PF.mp m with m | m
    ·exact z (.inl m)
    ·exact e (Pk.mp m)
   have gt:U<x:=this.2 U hm
   refine ⟨?_,λy hy=>Int.lt_trans (wlt y hy) gt⟩
   rw [rr,if_neg e,zero x (QO gt),this.1]
   lia
theorem XA.rest (X:XA O lb Br A) (i) (U):rem O lb Br (A.take i) U=kc (pk (bb O lb Br)) U (av (A.drop i) (lb::Br)):=by
 unfold rem
 rw [X.e U]
 have:=vh (K:=pk (bb O lb Br)) U (av (A.take i) (lb::Br)) (av (A.drop i) (lb::Br))
 rw [<- tQ,Rp] at this
 lia
theorem Dv.exact (d:jo O lb Br) (h:Dv O lb Br (A.take i) (C,W++[U])) (X:XA O lb Br A) (nz:(aM C U).getD 0≠0):∃ a,A[i]?=some a/\U=pk (bb O lb Br) a.1+pk (bb O lb Br) lb.1/\(aM C U).getD 0=a.2 * lb.2:=by
 have hm:U∈W++[U]:=by simp
 have rk:=h.a U hm
 rw [X.rest] at rk
 cases e:A.drop i with
 | nil=>rw [e] at rk; exact absurd rk nz
 | cons a R =>
  have hA:Nf (bb O lb Br) (a::R):=e ▸ X.n.drop i
  obtain ⟨l1,l2⟩:=xN hA d.b
  have ea:A[i]?=some a:=by rw [<- List.head?_drop,e]; rfl
  have ne:a.2 * lb.2≠0:=Tu (hA.z a Pd) (d.b.z lb Pd)
  have rS:rem O lb Br (A.take i) (pk (bb O lb Br) a.1+pk (bb O lb Br) lb.1)=a.2 * lb.2:=by rw [X.rest,e]; exact l1
  have c1:gQ C (pk (bb O lb Br) a.1+pk (bb O lb Br) lb.1):=Qt λq=>ne (rS.symm.trans (h.n _ q))
  have c2:pk (bb O lb Br) a.1+pk (bb O lb Br) lb.1∈W++[U]:=Qt λq=>ne (rS.symm.trans (h.p _ c1 q).1)
  have c3:pk (bb O lb Br) a.1+pk (bb O lb Br) lb.1<=U:=by
   rcases PF.mp c2 with m | m
   ·exact QO (jl h.k.a m)
   ·exact Int.le_of_eq (Pk.mp m)
  have c4:¬ pk (bb O lb Br) a.1+pk (bb O lb Br) lb.1<U:=λq=>nz (rk.trans (by rw [e]; exact l2 U q))
  have c5:U=pk (bb O lb Br) a.1+pk (bb O lb Br) lb.1:=by lia
  exact ⟨a,ea,c5,by rw [h.a U hm,c5]; exact rS⟩
theorem Dv.done (h:Dv O lb Br Q (C,[])) (U):rem O lb Br Q U=0:=by
 by_cases z:gQ C U
 ·exact (h.p U z (by intro m; cases m)).1
 ·exact h.n U z
theorem Dv.all (d:jo O lb Br) (h:Dv O lb Br (A.take i) (C,[])) (X:XA O lb Br A):A.take i=A:=by
 cases e:A.drop i with
 | nil =>
  have:=Rp i A
  rw [e,Qv] at this; exact this
 | cons a R =>
  have hA:Nf (bb O lb Br) (a::R):=e ▸ X.n.drop i
  have l1:=(xN hA d.b).1
  have ne:a.2 * lb.2≠0:=Tu (hA.z a Pd) (d.b.z lb Pd)
  have:=h.done (pk (bb O lb Br) a.1+pk (bb O lb Br) lb.1)
  rw [X.rest,e] at this
  exact absurd (l1.symm.trans this) ne
theorem Dv.start (d:jo O lb Br) (hp:W.Perm ((O.map (fM (bb O lb Br))).map (·.1))) (ha:C1 W):Dv O lb Br [] (O.map (fM (bb O lb Br)),W):=by
 have em:(O.map (fM (bb O lb Br))).map (·.1)=O.map λt=>pk (bb O lb Br) t.1:=by rw [PZ]; rfl
 have hasE:∀ U,gQ (O.map (fM (bb O lb Br))) U↔∃ t∈O,pk (bb O lb Br) t.1=U:=λU=>by rw [fX,em,Pz]
 have nd:((O.map (fM (bb O lb Br))).map (·.1)).Nodup:=by
  rw [em]
  exact Ux _ (λa b h e=>by lia) d.o.s
 have ka:=dM (bb O lb Br)
 have val:∀ t∈O,aM (O.map (fM (bb O lb Br))) (pk (bb O lb Br) t.1)=some t.2:=λt ht=>by
  rw [qe d.pos d.o.g (d.o.g t ht).1 (d.o.g t ht).2]
  exact xo (Ux _ (λa b h e=>by rw [e] at h; exact absurd h (Int.lt_irrefl _)) d.o.s) ht
 have r0:∀ U,rem O lb Br [] U=kc (pk (bb O lb Br)) U O:=λU=>by show _ - 0=_; lia
 have inW:∀ U,gQ (O.map (fM (bb O lb Br))) U->U∈W:=λU h=>hp.mem_iff.mpr (fX.mp h)
 refine ⟨⟨nd,ha,λU hk=>fX.mpr (hp.mem_iff.mp hk)⟩,(λt ht=>by cases ht),λU hk=>?_,λU hk=>?_,λU hk=>?_,λU h hn=>absurd (inW U h) hn⟩
 ·obtain ⟨t,ht,rfl⟩:=(hasE U).mp hk
  exact ⟨t.1,(d.o.g t ht).1,P1 (cK 0 ht) d.e,rfl⟩
 ·obtain ⟨t,ht,rfl⟩:=(hasE U).mp (fX.mpr (hp.mem_iff.mp hk))
  show (aM (O.map (fM (bb O lb Br))) _).getD 0=_
  rw [r0,val t ht,d.o.at ht]; rfl
 ·rw [r0]
  exact cW ka λt ht e=>hk ((hasE U).mpr ⟨t,ht,e⟩)
theorem Dv.few (d:jo O lb Br) (h:Dv O lb Br Q st):∀ U,gQ st.1 U->0<=U/\U<15728640:=λU hk=>by
 obtain ⟨v,hv,h0,rfl⟩:=h.r U hk
 exact d.rg hv h0
end
theorem Wk.few {st:LS} (k:Wk st) (h:∀ U,gQ st.1 U->0<=U/\U<15728640):st.1.length<=15728640/\st.2.length<=15728640:=by
 refine ⟨?_,?_⟩
 ·have:=gR 15728640 k.n λx hx=>h x (fX.mpr hx)
  rwa [Pc] at this
 ·exact gR 15728640 (k.a.imp λh e=>by lia) λx hx=>h x (k.m x hx)
end
section
variable {K:O7}
noncomputable def xO:Fn:=λds r=>∃ A B:List aG,(∀ t∈A,t.1.length<=6)/\(∀ t∈B,t.1.length<=6)/\ds=[.lst (A.map af),.lst (B.map af)]/\r=.ok (.ow (cC (oR A B)))
theorem Kl (h:∀ t∈A,t.1.length<=6) (g:∀ t∈B,t.1.length<=6):xO [.lst (A.map af),.lst (B.map af)] (.ok (.ow (cC (oR A B)))):=⟨A,B,h,g,rfl,rfl⟩
theorem OA (f g):qb (cC f) (cC g)=(PM 6).map λk=>D.tup [.int (f k),.int (g k)]:=by
 unfold qb cC
 rw [PZ,PZ,VW,VR]
 rfl
theorem MK (f):((PM 6).map λk=>some (D.int (f k))).filterMap id=cC f:=by
 unfold cC
 rw [PZ]
 exact dD (λk=>D.int (f k)) (PM 6)
section
local macro_rules | `(tactic| walk_at "evCa")=> `(tactic| first | with_reducible refine aX (F:=jI) 'm' 'd' ?_)
local macro_rules | `(tactic| walk_at "evR")=> `(tactic| first | with_reducible refine aO (qx 'm') ?_)
theorem Gg (Fu:d9 K "room_for" "room_for" (top 32) f fd) (T:Txt K mg) (h1:fk P w K mg base 1 "greatest_powers" jI):bw P w K mg base (cN P w) 2 f fd ["one","other"] (eE K xO):=by
 refine cP Fu tK (by rintro ds r ⟨A,B,_,_,rfl,_⟩; rfl) (by rintro ds r ⟨A,B,_,_,_,rfl⟩; exact ⟨_,rfl⟩) λc hq ds sl hF=>?_
 obtain ⟨A,B,hA,hB,rfl,e⟩:=hF
 injection e with e
 subst e
 show aU c _ [.va (.lst (A.map af)),.va (.lst (B.map af))] _ _
 conv in (ay _)=>whnf
 walk_at "evSs"
 refine jR (dX hq (N':=["whole","part"]) (Y0:=λ_=>[.un,.un]) (λt=>.un (.un .nil)) (Hr (Txt.zip T) ?_))
 rw?
 refine ⟨cC (gk A),cC (gk B),rfl,rfl,?_⟩
 rw [OA]
 refine Sd.mk (rB (Vs rfl)) ⟨(PM 6).map λk=>some (D.int (oR A B k)),by simp,?_,?_⟩
 ·intro c' hc t i d o hd ho
  obtain ⟨x,hx,rfl,rfl⟩:=je hd ho
  refine AQ rfl (by rfl') ?_
  rw?
  refine ⟨.un (.un .nil),?_⟩
  simp only [kr]
  refine ⟨λ_=>?_,λh=>by cases h⟩
  rw?
  rfl
 ·rw [MK]
end
def Km (v:List Int) (l:aG) (g:Nat->Int) (k:Nat):Prop:=0<=aN v k - aN l.1 k/\aN v k - aN l.1 k<=g k
noncomputable def oS (v:List Int) (l:aG) (n:Nat):List Int:=(PM n).map λk=>aN v k - aN l.1 k
noncomputable def tZ (v:List Int) (n:Int) (l:aG) (g:Nat->Int):D:=open Classical in if n.fmod l.2≠0 then .non else if ∀ k,k<6->Km v l g k then af (trim (oS v l 6),n.fdiv l.2) else .non
theorem C3 (v) (l) (n):oS v l (n+1)=oS v l n++[aN v n - aN l.1 n]:=by unfold oS; rw [List.range_succ,Qh]; rfl
noncomputable def Nl:Fn:=λds r=>∃ (v:List Int) (n:Int) (l:aG) (g:Nat->Int),l.2≠0/\l.2.natAbs<2 ^ 63/\ds=[.tup (v.map .int),.int n,af l,.lst (cC g)]/\r=.ok (.va (tZ v n l g))
theorem OB (h:l.2≠0) (h2:l.2.natAbs<2 ^ 63):Nl [.tup (v.map .int),.int n,af l,.lst (cC g)] (.ok (.va (tZ v n l g))):=⟨v,n,l,g,h,h2,rfl,rfl⟩
theorem C4 {j:Int} (h0:j≠0) (h:j.natAbs<2 ^ 63):j≠0/\j.natAbs.log2<9000:=⟨h0,Nat.lt_trans ((U1 'l').mpr h) 'd'⟩
section
local macro_rules | `(tactic| walk_at "evBo")=> `(tactic| first
 | ((with_reducible show aB _ (Rz _ Operator.Mod _ _) _ _); with_reducible refine CF ?_)
 | ((with_reducible show aB _ (Rz _ Operator.FloorDiv _ _) _ _); with_reducible refine vO ?_))
local macro_rules | `(tactic| walk_at "evCa")=> `(tactic| first
 | with_reducible refine aX (F:=Nk) 'm' 'd' ?_
 | with_reducible refine aX (F:=ie) 'm' 'd' ?_)
local macro_rules | `(tactic| walk_at "evR")=> `(tactic| first | with_reducible refine aO (Ow _ _) ?_)
local macro_rules | `(tactic| walk_at "evIx")=> `(tactic| first
 | ((with_reducible show aB _ (QX (Pw _ _) (Expr.Constant _ _ _) _) _ _); with_reducible refine v8 ?_)
 | ((with_reducible show aB _ (QX (Pw _ _) (Pw _ _) _) _ _); with_reducible refine v8 ?_))
local macro_rules | `(tactic| walk_at "evE")=> `(tactic| first | ((with_reducible show aB _ (Pw "PLACES" _) _ _); with_reducible refine pF 'm' ?_))
local macro_rules | `(tactic| walk_at "side")=> `(tactic| first | assumption | exact C4 'm' 'm')
theorem ML (Fu:d9 K "term_by" "term_by" (top 33) f fd) (T:Txt K mg) (PL:∃ tk:Tok,mg "PLACES"=some (.int 6 tk)) (h1:fk P w K mg base 1 "power_at" Nk) (h2:fk P w K mg base 1 "trimmed" ie):bw P w K mg base (cN P w) 2 f fd ["powers","number","lead","room"] (eE K Nl):=by
 obtain ⟨tk,hPL⟩:=PL
 refine cP Fu u6 (by rintro ds r ⟨v,n,l,g,_,_,rfl,_⟩; rfl) (by rintro ds r ⟨v,n,l,g,_,_,_,rfl⟩; exact ⟨_,rfl⟩) λc hq ds sl hF=>?_
 obtain ⟨v,n,l,g,hl0,hl,rfl,e⟩:=hF
 injection e with e
 subst e
 show aU c _ [.va (.tup (v.map .int)),.va (.int n),.va (.tup [.tup (l.1.map .int),.int l.2]),.va (.lst (cC g)),.un,.un,.un] _ _
 conv in (ay _)=>whnf
 simp?
 rotate_left
 ·rename_i hm
  show Sl.va D.non=Sl.va _
  unfold tZ
  rw [if_pos hm]
 rename_i hm
 ac_nf
 rw?
 with_reducible refine eS hq (gj (Txt.range 'm') ?_)
 rw?
 ·exact ⟨by decide,by decide⟩
 refine ⟨λk Y'=>∃ s5 s6:Sl,(∀ j,j<k->Km v l g j)/\Y'=[.va (.tup (v.map .int)),.va (.int n),.va (.tup [.tup (l.1.map .int),.int l.2]),.va (.lst (cC g)),.ow ((oS v l k).map .int),s5,s6],⟨_,_,(λj hj=>absurd hj (Nat.not_lt_zero _)),rfl⟩,?_,?_⟩
 ·rintro c' x9 DK DL k d Y' hd ⟨s5,s6,hok,rfl⟩
  obtain ⟨hk,rfl⟩:=iW hd
  have hk:k<6:=hk
  have hlen:(oS v l k).length=k:=by unfold oS; rw [Pc,R7]
  have bad:¬ Km v l g k->tZ v n l g=.non:=λq=>by
   unfold tZ
   rw [if_neg (λz=>z hm),if_neg λz=>q (z k hk)]
  have est:=C3 v l k
  generalize hdk:oS v l k=L at hlen est |-
  refine fj 'a' (j0 's' ?_)
  simp?
  ac_nf
  have hat:j9 (cC g) (k:Int)=some (.int (g k)):=xH g hk
  rw?
  ·rename_i h0
   show Sl.va D.non=Sl.va _
   rw [bad λq=>by have:=q.1; lia]
  rename_i h0
  refine nP hat ?_
  rw?
  ·rename_i h1
   show Sl.va D.non=Sl.va _
   rw [bad λq=>by have:=q.2; lia]
  rename_i h1
  ·rw [Pc]; exact fW 'l'
  have okk:∀ j,j<k+1->Km v l g j:=λj hj=>by
   by_cases e:j=k
   ·rw [e]; exact ⟨by lia,by lia⟩
   ·exact hok j 'l'
  exact ⟨.va (.int (k:Int)),.va (.int (aN v k - aN l.1 k)),okk,by rw [est,Qh]; rfl⟩
 ·rintro Y' ⟨s5,s6,hok,rfl⟩
  rw [mQ]
  refine cB 4 'a' rfl 's' ?_
  rw?
  refine aO (ve (by unfold oS; rw [Pc,R7]; decide)) ?_
  rw?
  show Sl.va _=Sl.va _
  unfold tZ
  rw [if_neg (λz=>z hm),if_pos (show ∀ k,k<6->Km v l g k from hok)]
  rfl
end
theorem Gh (h:C1 W) (w) (hm:m<W.length):(W[m]<w↔m<cntK W w):=by
 obtain ⟨h1,h2⟩:=qC w h
 have hc:=vo W w
 constructor
 ·intro lt
  refine Nat.not_le.mp λle=>?_
  have:W[m]∈W.drop (cntK W w):=by
   have e:W[m]=(W.drop (cntK W w))[m - cntK W w]'(by rw [SQ]; omega):=by
    rw [List.getElem_drop]; congr 1; omega
   rw [e]; exact P0 _
  rw [h2] at this
  have:=(Q4.mp this).2
  simp at this; lia
 ·intro lt
  have:W[m]∈W.take (cntK W w):=by
   have e:W[m]=(W.take (cntK W w))[m]'(by rw [Qf]; omega):=by rw [List.getElem_take]
   rw [e]; exact P0 _
  rw [h1] at this
  have:=(Q4.mp this).2
  simpa using this
noncomputable def Gi:Fn:=λds r=>∃ (W:List Int) (w:Int),C1 W/\W.length<=15728640/\ds=[.lst (W.map .int),.int w]/\r=.ok (.va (.int (cntK W w:Nat)))
theorem MM {w:Int} (h:C1 W) (hl:W.length<=15728640):Gi [.lst (W.map .int),.int w] (.ok (.va (.int (cntK W w:Nat)))):=⟨W,w,h,hl,rfl,rfl⟩
theorem OC {W:List Int} (hm:m<W.length):j9 (W.map D.int) (m:Int)=some (.int W[m]):=by
 rw [gJ 'l' (by rw [Pc]; lia),Qc,Pr,PX hm]; rfl
section
local macro_rules | `(tactic| walk_at "evIx")=> `(tactic| first
 | ((with_reducible show aB _ (QX (Pw _ _) (Pw _ _) _) _ _); with_reducible refine v8 ?_))
theorem Kn (Fu:d9 K "place_among" "place_among" (top 34) f fd) (T:Txt K mg):bw P w K mg base (cN P w) 1 f fd ["waiting","key"] (eE K Gi):=by
 refine cP Fu mH (by rintro ds r ⟨W,w,_,_,rfl,_⟩; rfl) (by rintro ds r ⟨W,w,_,_,_,rfl⟩; exact ⟨_,rfl⟩) λc hq ds sl hF=>?_
 obtain ⟨W,w,hW,hl,rfl,e⟩:=hF
 injection e with e
 subst e
 show aU c _ [.va (.lst (W.map .int)),.va (.int w),.un,.un,.un] _ _
 conv in (ay _)=>whnf
 have hc:=vo W w
 simp?
 ac_nf
 simp?
 ac_nf
 refine aJ (kj hq (λm Y'=>∃ (lo hi:Nat) (s4:Sl),lo<=cntK W w/\cntK W w<=hi/\hi<=W.length/\m=hi - lo/\Y'=[.va (.lst (W.map .int)),.va (.int w),.va (.int (lo:Int)),.va (.int (hi:Int)),s4]) (m₀:=W.length) ⟨0,W.length,_,P7 _,hc,O9 _,rfl,by rw [Pc]; rfl⟩ ?_)
 rintro m Y' ⟨lo,hi,s4,h1,h2,h3,rfl,rfl⟩
 rw?
 ·rename_i hlt
  have e1:((lo:Int)+(hi:Int)) / 2=(((lo+hi) / 2:Nat):Int):=by lia
  have hm:(lo+hi) / 2<W.length:=by lia
  have ac:=Gh hW w hm
  rw [e1]
  generalize hmid:(lo+hi) / 2=mid at hm ac |-
  rw?
  refine nP (OC hm) ?_
  rw?
  ·rename_i hlt2
   have hl2:=ac.mp hlt2
   exact ⟨hi - (mid+1),by lia,mid+1,hi,.va (.int (mid:Int)),by lia,h2,h3,rfl,rfl⟩
  ·rename_i hlt2
   have hl2:¬ mid<cntK W w:=λq=>hlt2 (ac.mpr q)
   exact ⟨mid - lo,by lia,lo,mid,.va (.int (mid:Int)),h1,by lia,by lia,rfl,rfl⟩
 ·rename_i hlt
  have e:lo=cntK W w:=by lia
  rw [e]
end
end
section
variable {K:O7}
theorem xP {L:List aG} {st:LS} (h:Wk st) (rg:∀ U,gQ st.1 U->0<=U/\U<15728640) (rl:∀ u∈L,0<=pk b u.1+s/\pk b u.1+s<15728640) (i) :
 Wk (tY b s q (L.take i) st)/\(tY b s q (L.take i) st).1.length<=15728640/\(tY b s q (L.take i) st).2.length<=15728640:=by
 have T:=C2 b s q (L.take i) h
 have:=T.k.few λU hk=>by
  rcases (T.h U).mp hk with z | ⟨u,hu,e⟩
  ·exact rg U z
  ·rw [<- e]; exact rl u (RE hu)
 exact ⟨T.k,this.1,this.2⟩
theorem xQ (w) (C):aM (m5 w C) w=some ((aM (m5 w C) w).getD 0):=by
 have h:gQ (m5 w C) w:=(kK w C w).2.mpr (.inr rfl)
 unfold gQ at h
 cases e:aM (m5 w C) w with
 | none=>rw [e] at h; cases h
 | some v=>rfl
theorem Gj (w δ) (st:LS):(Kg w δ st).1.length=(m5 w st.1).length:=by
 show (putD (m5 w st.1) w _).length=_
 unfold putD
 rw [if_pos (by rw [xQ]; rfl),Pc]
noncomputable def C5:JW:=λkvs ls ds B=>∃ (b s q:Int) (L:List aG) (st:LS),Wk st/\(∀ U,gQ st.1 U->0<=U/\U<15728640)/\(∀ u∈L,0<=pk b u.1+s/\pk b u.1+s<15728640)/\(∀ u∈L,u.2.natAbs<2 ^ 63) /\
 kvs=bD st.1/\ls=st.2.map .int/\ds=[.lst (L.map (tO b)),.int s,.int q]/\B=λkvs' ls'=>kvs'=bD (tY b s q L st).1/\ls'=(tY b s q L st).2.map .int
theorem jm (C):(bD C).length=C.length:=by unfold bD; rw [Pc]
theorem ins_map (W) (w):(W.map D.int).take (cntK W w)++.int w::(W.map D.int).drop (cntK W w)=(mV W w).map D.int:=by
 unfold mV
 rw [Qh,Pn,List.map_take,List.map_drop]
theorem Gk (Fu:d9 K "take_away" "take_away" (top 35) f fd) (T:Txt K mg) (h1:fk P w K mg base 1 "place_among" Gi):bw P w K mg base (cN P w) 2 f fd ["left","waiting","factor","shift","number"] (zu K C5):=by
 refine MF Fu qk (by rintro kvs ls ds B ⟨b,s,q,L,st,_,_,_,_,_,_,rfl,_⟩; rfl) λc hq p kvs q2 ls ds B hF=>?_
 obtain ⟨b,s,q,L,st,hk,rg,rl,hs,rfl,rfl,rfl,rfl⟩:=hF
 show aU c _ [.aK p (bD st.1),.aw q2 (st.2.map .int),.va (.lst (L.map (tO b))),.va (.int s),.va (.int q),.un,.un,.un] _ _
 conv in (ay _)=>whnf
 refine aJ ?_
 with_reducible refine eS hq (dh ?_)
 rw?
 refine ⟨λi Y'=>∃ s5 s6 s7:Sl,Y'=[.aK p (bD (tY b s q (L.take i) st).1),.aw q2 ((tY b s q (L.take i) st).2.map .int),.va (.lst (L.map (tO b))),.va (.int s),.va (.int q),s5,s6,s7],⟨_,_,_,rfl⟩,?_,?_⟩
 ·rintro c' x9 DK DL i d Y' hd ⟨s5,s6,s7,rfl⟩
  simp only [Pr,PD] at hd
  obtain ⟨u,hu,rfl⟩:=hd
  obtain ⟨hi,rfl⟩:=Po.mp hu
  obtain ⟨k0,z1,z2⟩:=xP (q:=q) hk rg rl i
  obtain ⟨_,z3,z4⟩:=xP (q:=q) hk rg rl (i+1)
  have hsm:=hs L[i] (P0 hi)
  have est:tY b s q (L.take (i+1)) st=Kg (pk b L[i].1+s) (L[i].2 * q) (tY b s q (L.take i) st):=by
   unfold tY
   rw [QZ hi,Uv]; rfl
  rw [est] at z3 z4
  generalize tY b s q (L.take i) st=S at k0 z1 z2 z3 z4 est |-
  generalize hW:pk b L[i].1+s=U at est z3 z4
  generalize L[i]=u at hsm hW est z3 z4 |-
  show nh c' _ (.tup [.int (pk b u.1),.int u.2]) _ _
  refine AQ rfl (by rfl') ?_
  refine pG 'a' (j0 's' (pG 'a' (j0 's' (AO ?_))))
  simp?
  rw [hW]
  ac_nf
  refine aJ (wA (λY'=>Y'=[.aK p (bD (m5 U S.1)),.aw q2 ((if (aM S.1 U).isSome then S.2 else mV S.2 U).map .int),.va (.lst (L.map (tO b))),.va (.int s),.va (.int q),.va (.int (pk b u.1)),.va (.int u.2),.va (.int U)]) ?_ ?_)
  ·refine rM 'a' 'a' ?_
   rw?
   refine ⟨_,.k rfl rfl,?_⟩
   rw [d7]
   cases hv:aM S.1 U with
   | some v =>
    show g6 _ _ false
    rw?
    unfold m5
    rw [hv]; rfl
   | none =>
    show g6 _ _ true
    refine if2 (λ_=>?_) (λh=>by cases h)
    simp?
    refine ⟨_,.k rfl rfl (by rw [jm,RO]; lia),?_⟩
    rw?
    ac_nf
    refine aJ (JV 'a' 'a' rfl (wz 1 'a' rfl 's' ?_))
    refine aX (F:=Gi) h1 'd' ?_
    rw?
    refine aO (MM k0.a z2) (v7 (Sd.mk trivial ?_))
    rw?
    refine ⟨cntK S.2 U,rfl,by rw [Pc]; exact vo _ _,Sd.mk (by rw [Pc,RO]; lia) ?_⟩
    rw [ins_map]
    refine j0 's' (dF ?_)
    show [Sl.aK p (putD (bD S.1) (.inl U) (.int 0)),Sl.aw q2 ((mV S.2 U).map .int),_,_,_,_,_,_]=_
    unfold m5
    rw [hv,gy,if_neg 'p',if_neg 'p']
  rintro Y' rfl
  have hl:=xQ U S.1
  have hz:(m5 U S.1).length<=15728640:=by rw [<- Gj U (u.2 * q) S]; exact z3
  have hm:EV.MulOk u.2 q:=jV hsm
  refine aJ (Bl 'a' 'a' (GP (v9 'a' 'a' ?_)))
  generalize hG:(λY'=>aU c' _ Y' _ _)=G
  rw?
  refine ⟨.int ((aM (m5 U S.1) U).getD 0),?_,?_⟩
  ·have:=zV.k (r:=.aK p (bD (m5 U S.1))) (d:=.int U) rfl rfl
   rw [d7,hl] at this
   exact this
  rw?
  refine ⟨_,.k rfl rfl (by rw [jm,RO]; lia),?_⟩
  rw?
  ac_nf
  refine dF ⟨.va (.int (pk b u.1)),.va (.int u.2),.va (.int U),?_⟩
  rw [est]
  show [Sl.aK p (putD (bD (m5 U S.1)) (.inl U) (.int _)),_,_,_,_,_,_,_]=[Sl.aK p (bD (putD (m5 U S.1) U _)),_,_,_,_,_,_,_]
  rw [gy]
  rfl
 ·rintro Y' ⟨s5,s6,s7,rfl⟩
  rw [Pc,QH]
  refine dF ⟨_,_,_,⟨rfl,rfl⟩,rfl⟩
end
section
variable {P:Program} {w:World} {K:O7} {mg:Str->Option Value} {base:Heap}
theorem zO (h:(C.map (·.1)).Nodup):jH [] (bD C)=bD C:=by
 have key:∀ (C A:List (Int×Int)),((A++C).map (·.1)).Nodup->jH (bD A) (bD C)=bD (A++C):=by
  intro C
  induction C with
  | nil=>intro A _; rw [Qv]; rfl
  | cons x C ih =>
   intro A nd
   have hx:¬ gQ A x.1:=λz=>by
    rw [fX] at z
    rw [Qh,Pn,Uu] at nd
    exact nd.2.2 x.1 z x.1 Pd rfl
   show jH (putD (bD A) (.inl x.1) (.int x.2)) (bD C)=_
   rw [gy,show putD A x.1 x.2=A++[x] from if_neg hx,ih (A++[x]) (by rw [PU]; exact nd),PU]
   rfl
 exact key C [] h
theorem Gm (b) (O:List aG):(bD (O.map (fM b))).map Ni=O.map (tO b):=by
 unfold bD
 rw [PZ,PZ]; rfl
theorem C6 (C):(Sl.oK (bD C)).pR=some (.fdK ((C.map (·.1)).map PK) ((bD C).map (·.2))):=by
 show some (D.fdK ((bD C).map (·.1)) ((bD C).map (·.2)))=_
 rw [tP]
theorem C7 (x:α) (xs):EV.cutD (x::xs) (some 1) none=xs:=by
 unfold EV.cutD HT.cA; simp
theorem MN (d:D) (ds:List D):j9 (d::ds) 0=some d:=by rw [gJ 'd' (by rw [P4]; lia)]; rfl
def NA (O:List aG) (lb:aG) (Br:List aG):Prop:=∀ Q:List aG,(∀ t∈Q,QT O (lb::Br) t)->∃ U,rem O lb Br Q U≠0
noncomputable def qE (C:Addr):Fn:=λds r=>(∃ O:List aG,ds=[.lst (O.map af),.lst []]/\r=.ex C)\/∃ (O:List aG) (lb:aG) (Br:List aG),jo O lb Br/\ds=[.lst (O.map af),.lst ((lb::Br).map af)]/\((∃ A,XA O lb Br A/\r=.ok (.ow (A.map af)))\/(NA O lb Br/\r=.ok (.va .non)))
theorem Ko (C) (O:List aG):qE C [.lst (O.map af),.lst []] (.ex C):=.inl ⟨O,rfl,rfl⟩
theorem Hw (h:jo O lb Br) (x:XA O lb Br A):qE C [.lst (O.map af),.lst ((lb::Br).map af)] (.ok (.ow (A.map af))):=.inr ⟨O,lb,Br,h,rfl,.inl ⟨A,x,rfl⟩⟩
theorem Kp (h:jo O lb Br) (x:NA O lb Br):qE C [.lst (O.map af),.lst ((lb::Br).map af)] (.ok (.va .non)):=.inr ⟨O,lb,Br,h,rfl,.inr ⟨x,rfl⟩⟩
theorem C8 (h:∀ t∈L,t.1.length<=6) (hk:¬ k<6):gk L k=0:=by
 cases L with
 | nil=>rfl
 | cons t L =>
  obtain ⟨u,hu,e⟩:=vn k (A:=t::L) 'p' λv hv=>by rw [jK (h v hv) hk]; exact Qj _
  rw [<- e,jK (h u hu) hk]
theorem C9 (hv:v.length<=6) (hl:l.1.length<=6) (k):aN (oS v l 6) k=aN v k - aN l.1 k:=by
 have len:(oS v l 6).length=6:=by unfold oS; rw [Pc,R7]
 by_cases h:k<6
 ·rw [cu (by rw [len]; exact h)]
  unfold oS
  rw [UB,Uq]
 ·rw [bR (by rw [len]; omega),jK hv h,jK hl h]; rfl
theorem MO (d:jo O lb Br) (ht:QT O (lb::Br) t) (hk:U=pk (bb O lb Br) t.1+pk (bb O lb Br) lb.1) (hn:n=t.2 * lb.2):tZ (uS (bb O lb Br) U) n lb (oR O (lb::Br))=af t:=by
 have z:lb.2≠0:=d.b.z lb Pd
 have e:uS (bb O lb Br) U=trim (bX lb.1 t.1):=by
  rw [hk,TU,<- eY]
  exact uT d.pos (d.box ht Pd)
 have ev:∀ k,aN (uS (bb O lb Br) U) k - aN lb.1 k=aN t.1 k:=λk=>by rw [e,bV,bF]; lia
 have l6:(uS (bb O lb Br) U).length<=6:=by rw [e]; exact Pj (dz _) (d.box ht Pd).1
 unfold tZ
 rw [if_neg (by rw [hn,Int.mul_fmod_left]; exact λq=>q rfl),if_pos λk _=>by unfold Km; rw [ev]; exact ht.m k]
 have e2:trim (oS (uS (bb O lb Br) U) lb 6)=t.1:=by
  rw [<- ht.tr]
  exact dB λk=>by rw [C9 l6 (d.b.g lb Pd).1.1,ev]
 rw [e2,hn,Int.mul_fdiv_cancel _ z]
theorem Dc (d:jo O lb Br) (hv:Bd (bb O lb Br) v) (hk:U=pk (bb O lb Br) v):tZ (uS (bb O lb Br) U) n lb (oR O (lb::Br))=.non\/∃ t,QT O (lb::Br) t/\pk (bb O lb Br) t.1+pk (bb O lb Br) lb.1=U/\t.2 * lb.2=n/\tZ (uS (bb O lb Br) U) n lb (oR O (lb::Br))=af t:=by
 have z:lb.2≠0:=d.b.z lb Pd
 have l6:lb.1.length<=6:=(d.b.g lb Pd).1.1
 have e:uS (bb O lb Br) U=trim v:=by rw [hk]; exact uT d.pos hv
 have v6:(trim v).length<=6:=Pj (dz _) hv.1
 rw [e]
 by_cases h1:n.fmod lb.2≠0
 ·left; unfold tZ; rw [if_pos h1]
 by_cases h2:∀ k,k<6->Km (trim v) lb (oR O (lb::Br)) k
 ·right
  have ev:∀ k,aN (trim (oS (trim v) lb 6)) k=aN (trim v) k - aN lb.1 k:=λk=>by rw [bV,C9 v6 l6]
  refine ⟨(trim (oS (trim v) lb 6),n.fdiv lb.2),⟨?_,cj _,λk=>?_⟩,?_,?_,?_⟩
  ·exact Pj (dz _) (by unfold oS; rw [Pc,R7]; exact O9 6)
  ·show 0<=aN (trim (oS (trim v) lb 6)) k/\aN (trim (oS (trim v) lb 6)) k<=_
   rw [ev]
   by_cases h:k<6
   ·exact h2 k h
   ·rw [jK v6 h,jK l6 h]
    unfold oR
    rw [C8 (λt ht=>(d.o.g t ht).1.1) h,C8 (λt ht=>(d.b.g t ht).1.1) h]
    exact ⟨Qj _,Qj _⟩
  ·show pk (bb O lb Br) (trim (oS (trim v) lb 6))+_=_
   rw [hk,<- eY,<- fV (bb O lb Br) (bX _ _),<- fV (bb O lb Br) v]
   exact congrArg _ (dB λk=>by rw [bF,ev,bV]; lia)
  ·show n.fdiv lb.2 * lb.2=n
   have:=Int.mul_fdiv_add_fmod n lb.2
   have h0:n.fmod lb.2=0:=Qt h1
   rw [h0,UW] at this
   rw [TR]; exact this
  ·unfold tZ
   rw [if_neg h1,if_pos h2]
 ·left; unfold tZ; rw [if_neg h1,if_neg h2]
theorem XA.qt (X:XA O lb Br A) (d:jo O lb Br) (ha:a∈A):QT O (lb::Br) a:=⟨(X.n.g a ha).1.1,(X.n.g a ha).2,λk=>⟨(oG d.pos (X.n.g a ha).1 k).1,X.m a ha k⟩⟩
structure Lp (O:List aG) (lb:aG) (Br:List aG) (r:Sl) (m:Nat) (Q:List aG) (C:List (Int×Int)) (W:List Int):Prop where
 d:Dv O lb Br Q (C,W)
 x:(∃ A i,XA O lb Br A/\Q=A.take i/\r=.ow (A.map af))\/(NA O lb Br/\r=.va .non)
 u:∀ U∈W,U.toNat<m
 l:Q.length+m<=15728640
section
local macro_rules | `(tactic| walk_at "evIx")=> `(tactic| first
 | ((with_reducible show aB _ (QX (Pw _ _) (Pw _ _) _) _ _); refine v9 'a' 'a' ?_))
local macro_rules | `(tactic| walk_at "evCa")=> `(tactic| first
 | with_reducible refine aX (F:=zK) 'm' 'd' ?_
 | with_reducible refine aX (F:=xO) 'm' 'd' ?_
 | with_reducible refine aX (F:=oO) 'm' 'd' ?_
 | with_reducible refine aX (F:=oN) 'm' 'd' ?_
 | with_reducible refine aX (F:=Nl) 'm' 'd' ?_
 | with_reducible refine aX (F:=zL) 'm' 'd' ?_)
theorem Kq (Fu:d9 K "divided_by" "divided_by" (top 36) f fd) (T:Txt K mg) (hC:mg "NoBottom"=some (.ref C)) (hX:SY K C yw "ValueError.__new__"=true) (h1:fk P w K mg base 2 "width_for" zK) (h2:fk P w K mg base 2 "room_for" xO) (h3:fk P w K mg base 2 "packed" oO)
 (h4:fk P w K mg base 2 "powers_of" oN) (h5:fk P w K mg base 2 "term_by" Nl) (h6:fk P w K mg base 1 "key_of" zL) (h7:CB P w K mg base 2 "take_away" C5):bw P w K mg base (cN P w) 3 f fd ["one","other"] (eE K (qE C)):=by
 refine Od Fu nA (by rintro ds r (⟨O,rfl,_⟩ | ⟨O,lb,Br,_,rfl,_⟩) <;> rfl) λc ds r hF hRX hRM=>?_
 rcases hF with ⟨O,rfl,e⟩ | ⟨O,lb,Br,d,rfl,hx⟩
 ·show aU c _ [.va (.lst (O.map af)),.va (.lst []),.un,.un,.un,.un,.un,.un,.un,.un,.un] _ _
  conv in (ay _)=>whnf
  simp?
  ·refine Eu hC hX ?_
   rw?
   exact hRM _ _ e
  ·rename_i z
   exact absurd rfl z
 refine II λc hq=>?_
 obtain ⟨sl,rfl,hy⟩:∃ sl,r=.ok sl/\((∃ A,XA O lb Br A/\sl=.ow (A.map af))\/(NA O lb Br/\sl=.va .non)):=by
  rcases hx with ⟨A,x,e⟩ | ⟨x,e⟩
  ·exact ⟨_,e,.inl ⟨A,x,rfl⟩⟩
  ·exact ⟨_,e,.inr ⟨x,rfl⟩⟩
 clear hRX hRM hx
 have hx:=hy
 show aU c _ [.va (.lst (O.map af)),.va (.lst (af lb::Br.map af)),.un,.un,.un,.un,.un,.un,.un,.un,.un] _ _
 conv in (ay _)=>whnf
 have w10:mZ O (lb::Br)<=10:=Pj d.w 'd'
 have o6:∀ t∈O,t.1.length<=6:=λt ht=>(d.o.g t ht).1.1
 have b6:∀ t∈lb::Br,t.1.length<=6:=λt ht=>(d.b.g t ht).1.1
 simp?
 ·rename_i z
  rw [P4] at z
  lia
 ac_nf
 simp?
 refine aO (Ht (A:=O) (B:=lb::Br) λt ht=>(PF.mp ht).elim (o6 t) (b6 t)) ?_
 rw?
 ac_nf
 simp?
 refine aO (Kl (A:=O) (B:=lb::Br) o6 b6) ?_
 rw?
 ac_nf
 simp?
 refine nP (MN _ _) ?_
 rw?
 ac_nf
 simp?
 rw [C7]
 refine aO (qy w10 (Pj d.m 'd') λt ht=>(d.b.tail.1.g t ht).1) ?_
 rw?
 ac_nf
 have nd:((O.map (fM (bb O lb Br))).map (·.1)).Nodup:=by
  rw [PZ]
  exact Ux _ (λa b h e=>by have:pk (bb O lb Br) a.1=pk (bb O lb Br) b.1:=e; lia) d.o.s
 refine aJ (iO 'a' (FN (Txt.dict T) ?_))
 generalize hG:(λY'=>aU c _ Y' _ _)=G
 rw?
 refine aO (qy w10 (Pj d.l 'd') λt ht=>(d.o.g t ht).1) (gm ?_)
 refine ⟨bD (O.map (fM (bb O lb Br))),by rw [Gm],Sd.mk (by rw [jm,Pc,RO]; have:=d.l; lia) ?_⟩
 rw [zO nd]
 refine j0 's' ?_
 ac_nf
 refine aJ (iO 'a' (pU 6 'a' (C6 _) 's' (CA (Txt.sorted T) ?_)))
 generalize hG:(λY'=>aU c _ Y' _ _)=G
 rw?
 refine ⟨_,_,rfl,Sd.mk nd λW hp hs=>⟨fR λx _=>trivial,j0 's' ?_⟩⟩
 have hA:C1 W:=hs.imp λ{x y} h=>by simpa using h
 have D0:=Dv.start d hp hA
 ac_nf
 simp?
 ac_nf
 refine aJ (kj hq (λm Y'=>∃ (Q:List aG) (C:List (Int×Int)) (W:List Int) (s9 s10:Sl),Lp O lb Br sl m Q C W/\Y'=[.va (.lst (O.map af)),.va (.lst (af lb::Br.map af)),.va (.int (mZ O (lb::Br):Nat)),.va (.lst (cC (oR O (lb::Br)))),.va (af lb),.va (.lst (Br.map (tO (2 ^ mZ O (lb::Br))))),.oK (bD C),.ow (W.map .int),.ow (Q.map af),s9,s10]) (m₀:=15728640) ⟨[],_,W,.un,.un,⟨D0,?_,λU hk=>?_,by simp⟩,rfl⟩ ?_)
 ·exact hx.elim (λ⟨A,x,e⟩=>.inl ⟨A,0,x,rfl,e⟩) .inr
 ·have:=D0.few d U (D0.k.m U hk)
  lia
 rintro m Y' ⟨Q,C,W,s9,s10,L,rfl⟩
 have fw:=L.d.k.few (L.d.few d)
 refine (show ∀ B1 B2:Prop,(0<W.length->B1)->(W.length=0->B2)->gZ c _ _ (g6 B1 B2) from λB1 B2 b1 b2=>?_) _ _ ?_ ?_
 ·rw?
  rw?
  ·rename_i hlt
   rw [Pc] at hlt
   exact b1 'l'
  ·rename_i hlt
   rw [Pc] at hlt
   exact b2 'l'
 ·intro hW
  obtain ⟨W0,U,rfl⟩:∃ W0 U,W=W0++[U]:=⟨_,_,(List.dropLast_concat_getLast (by intro e; rw [e] at hW; cases hW)).symm⟩
  have hm:U∈W0++[U]:=by simp
  have um:U.toNat<m:=L.u U hm
  obtain ⟨k0,k1⟩:=L.d.few d U (L.d.k.m U hm)
  obtain ⟨v,hv,_,hkv⟩:=L.d.r U (L.d.k.m U hm)
  have hz:(bD C).length<=15728640:=by rw [jm]; exact fw.1
  have hC:aM (bD C) (.inl U)=some (.int ((aM C U).getD 0)):=by
   rw [d7]
   have:=L.d.k.m U hm
   unfold gQ at this
   cases e:aM C U with
   | none=>rw [e] at this; cases this
   | some v=>rfl
  generalize hn:(aM C U).getD 0=n at hC
  refine aJ (JT (ds:=W0.map .int) (d:=.int U) 'a' 'a' (by rw [<- VI (f:=D.int),<- Qh]; rfl) 'a' (j0 's' (j0 's' ?_)))
  show aU c _ [_,_,_,_,_,_,.oK (bD C),.ow (W0.map .int),.ow (Q.map af),.va (.int U),s10] _ _
  have lk:=zV.k (r:=.oK (bD C)) (d:=.int U) rfl rfl
  rw [hC] at lk
  refine aJ (Er ?_)
  refine (show ∀ B1 B2:Prop,(n≠0->B1)->(n=0->B2)->gZ c _ _ (g6 B1 B2) from λB1 B2 b1 b2=>?_) _ _ ?_ ?_
  ·walk_at "evT"
   refine v9 'a' 'a' ?_
   rw?
   refine ⟨_,lk,?_⟩
   rw?
   ·rename_i h
    exact b2 h
   ·rename_i h
    exact b1 h
  ·intro nz
   refine aJ (iO 'a' ?_)
   generalize hG:(λY'=>aU c _ Y' _ _)=G
   rw?
   refine aO (CV w10 k0) ?_
   rw?
   refine ⟨_,lk,?_⟩
   rw?
   refine aO (OB (d.b.z lb Pd) (d.s lb Pd)) ?_
   rw?
   ac_nf
   have cs:(tZ (uS (bb O lb Br) U) n lb (oR O (lb::Br))=.non/\sl=.va .non)\/∃ t,QT O (lb::Br) t/\pk (bb O lb Br) t.1+pk (bb O lb Br) lb.1=U/\t.2 * lb.2=n/\tZ (uS (bb O lb Br) U) n lb (oR O (lb::Br))=af t/\((∃ A i,XA O lb Br A/\Q++[t]=A.take i/\sl=.ow (A.map af))\/(NA O lb Br/\sl=.va .non)):=by
    rcases L.x with ⟨A,i,X,rfl,er⟩ | ⟨na,er⟩
    ·obtain ⟨a,ea,ek,en⟩:=L.d.exact d X (by rw [hn]; exact nz)
     rw [hn] at en
     have ha:a∈A:=Rg ea
     refine .inr ⟨a,X.qt d ha,ek.symm,en.symm,MO d (X.qt d ha) ek en,.inl ⟨A,i+1,X,?_,er⟩⟩
     rw [Ut,ea]; rfl
    ·rcases Dc (n:=n) d hv hkv with z | ⟨t,h1,h2,h3,h4⟩
     ·exact .inl ⟨z,er⟩
     ·exact .inr ⟨t,h1,h2,h3,h4,.inr ⟨na,er⟩⟩
   show aU c _ [_,_,_,_,_,_,.oK (bD C),.ow (W0.map .int),.ow (Q.map af),.va (.int U),.va (tZ (uS (bb O lb Br) U) n lb (oR O (lb::Br)))] _ _
   rcases cs with ⟨et,er⟩ | ⟨t,ht,hkt,hnt,et,hx2⟩
   ·rw [et]
    simp?
    exact congrArg _ er
   ·rw [et]
    simp?
    refine vX (show D.tup _≠.non from λh=>by cases h) ?_
    rw?
    ac_nf
    simp?
    ·rw [Pc,RO]
     have:=L.l; lia
    ac_nf
    rw [<- VI (f:=af),<- Qh]
    show aU c _ [_,_,_,_,_,_,.oK (bD C),.ow (W0.map .int),.ow ((Q++[t]).map af),.va (.int U),.va (.tup [.tup (t.1.map .int),.int t.2])] _ _
    have few:=L.d.few d
    have stp:=L.d.step d ht hkt (hnt.trans hn.symm)
    have Wk0:Wk (C,W0):=⟨L.d.k.n,(SA.mp L.d.k.a).1,λx hx=>L.d.k.m x (QF _ hx)⟩
    refine aJ (CC (F:=C5) h7 'd' 'a' 'a' rfl 'a' 'a' rfl 'd' ?_)
    rw?
    refine aO (Hu w10 (d.Ox ht)) ?_
    rw?
    refine ⟨_,⟨bb O lb Br,pk (bb O lb Br) t.1,t.2,Br,(C,W0),Wk0,few,λu hu=>?_,λu hu=>d.s u (Ph _ hu),rfl,rfl,rfl,rfl⟩,?_⟩
    ·rw [<- eY]
     exact d.rg (d.box ht (Ph _ hu)) (d.MJ ht (Ph _ hu))
    rintro kvs' ls' ⟨rfl,rfl⟩
    generalize hst:tY (bb O lb Br) (pk (bb O lb Br) t.1) t.2 Br (C,W0)=st at stp
    obtain ⟨C',W'⟩:=st
    refine dF (dF ⟨U.toNat,um,Q++[t],C',W',_,_,⟨stp.1,hx2,λx hx=>?_,?_⟩,rfl⟩)
    ·have h1:=stp.2 x hx
     have h2:=stp.1.few d x (stp.1.k.m x hx)
     lia
    ·rw [PY,RD]
     have:=L.l; lia
  ·intro z
   refine dF (dF ⟨U.toNat,um,Q,C,W0,_,_,⟨L.d.Oz (hn.trans z),L.x,λx hx=>?_,by have:=L.l; lia⟩,rfl⟩)
   have h1:=jl L.d.k.a hx
   have h2:=L.d.few d x (L.d.k.m x (QF _ hx))
   lia
 ·intro hW
  obtain rfl:=U5 hW
  obtain ⟨A,i,X,rfl,rfl⟩ | ⟨na,rfl⟩:=L.x
  ·rw [L.d.all d X]
   exact aJ (rA 'a' 'a' rfl rfl)
  ·obtain ⟨U,h⟩:=na Q L.d.q
   exact absurd (L.d.done U) h
end
end
noncomputable def rt (K:List Int->Int) (c:Int->Int) (U:Int):List aG->Int
 | []=>0
 | u::B=>u.2 * c (U - K u.1)+rt K c U B
section
variable {K:List Int->Int}
theorem Dd (c1 c2) (U):∀ B,rt K (λx=>c1 x+c2 x) U B=rt K c1 U B+rt K c2 U B
 | []=>rfl
 | u::B=>by
  show u.2 * (c1 _+c2 _)+rt K _ U B=(u.2 * c1 _+rt K c1 U B)+(u.2 * c2 _+rt K c2 U B)
  rw [Dd c1 c2 U B,RP]; lia
theorem xR (U):∀ B,rt K (λ_=>0) U B=0
 | []=>rfl
 | u::B=>by
  show u.2 * 0+rt K _ U B=0
  rw [xR U B]; lia
theorem De (h:iI K) (t:aG) (U):∀ B,rt K (λx=>if K t.1=x then t.2 else 0) U B=t.2 * kc K (U - K t.1) B
 | []=>by show (0:Int)=_ * 0; lia
 | u::B=>by
  show u.2 * (if K t.1=U - K u.1 then t.2 else 0)+rt K _ U B=_
  rw [De h t U B,dJ h,RP]
  by_cases e:K t.1=U - K u.1
  ·rw [if_pos e,if_pos 'l',TR]
  ·rw [if_neg e,if_neg 'l']; lia
theorem Df (h:iI K) (U) (B):∀ D:List aG,kc K U (av D B)=rt K (λx=>kc K x D) U B
 | []=>by
  show (0:Int)=rt K (λ_=>0) U B
  rw [xR]
 | t::D=>by
  rw [jk h,Df h U B D,<- De h t U B,<- Dd]
  congr 1
  funext x
  rw [dJ h]
theorem qF:∀ {B:List aG},(∀ v∈B,c (U - K v.1)=0)->rt K c U B=0
 | [],_=>rfl
 | u::B,g=>by
  show u.2 * c _+rt K c U B=0
  rw [g u Pd,qF λv hv=>g v (Ph _ hv)]; lia
theorem Dg (hc:∀ x,U<x->c x=0):∀ {B:List aG},u∈B->(∀ v∈B,v≠u->K v.1<K u.1)->B.Nodup->rt K c (U+K u.1) B=u.2 * c U
 | v::B,hu,g,nd=>by
  rw [QM] at nd
  show v.2 * c (U+K u.1 - K v.1)+rt K c _ B=_
  rcases Pg.mp hu with rfl | hu
  ·rw [qF λw hw=>hc _ (by have:=g w (Ph _ hw) λe=>nd.1 (e ▸ hw); lia),show U+K u.1 - K u.1=U by lia]
   lia
  ·have:=g v Pd λe=>nd.1 (e ▸ hu)
   rw [hc _ 'l',Dg hc hu (λw hw=>g w (Ph _ hw)) nd.2]
   lia
theorem xS (h:iI K) {D B:List aG} (hu:u∈B) (g:∀ v∈B,v≠u->K v.1<K u.1) (nd:B.Nodup) (hD:∃ U,kc K U D≠0):∃ U,kc K U D≠0/\(∀ x,kc K x D≠0->x<=U)/\kc K (U+K u.1) (av D B)=u.2 * kc K U D:=by
 have ex:∀ U,kc K U D≠0->∃ t∈D,K t.1=U:=λU hk=>Qt λq=>hk (cW h λt ht e=>q ⟨t,ht,e⟩)
 have ne:(D.filter λt=>decide (kc K (K t.1) D≠0))≠[]:=by
  obtain ⟨U,hk⟩:=hD
  obtain ⟨t,ht,rfl⟩:=ex U hk
  exact List.ne_nil_of_mem (Q4.mpr ⟨ht,decide_eq_true hk⟩)
 obtain ⟨t,ht,mt⟩:=mS K ne
 obtain ⟨ht,hk⟩:=Q4.mp ht
 have le:∀ x,kc K x D≠0->x<=K t.1:=λx hx=>by
  obtain ⟨s,hs,rfl⟩:=ex x hx
  exact mt s (Q4.mpr ⟨hs,decide_eq_true hx⟩)
 refine ⟨K t.1,of_decide_eq_true hk,le,?_⟩
 rw [Df h]
 exact Dg (λx hx=>Qt λq=>by have:=le x q; lia) hu g nd
theorem Dh (h:iI K):iI λp=> - K p:=⟨λp=>by rw [h.tr],λp q=>by rw [h.ad]; lia⟩
theorem qG (U) (L):kc (λp=> - K p) U L=kc K (-U) L:=by
 unfold kc
 congr 1
 funext q
 by_cases e:K q= -U
 ·rw [if_pos e,if_pos 'l']
 ·rw [if_neg e,if_neg 'l']
end
theorem Di {D B:List aG} {t u:aG} (hB:Nf b (u::B)) (ht:t.2≠0) (e:∀ U,kc (pk b) U (av D (u::B))=if pk b t.1=U then t.2 else 0):B=[]/\∃ U,kc (pk b) U D≠0/\U+pk b u.1=pk b t.1/\u.2 * kc (pk b) U D=t.2:=by
 have ka:=dM b
 have one:∀ U,kc (pk b) U (av D (u::B))≠0->U=pk b t.1:=λU h=>Qt λq=>h (by rw [e,if_neg λz=>q z.symm])
 have hD:∃ U,kc (pk b) U D≠0:=Qt λq=>ht (by
  have h1:=e (pk b t.1)
  rw [if_pos rfl,Df ka,qF λv _=>Qt λz=>q ⟨_,z⟩] at h1
  exact h1.symm)
 obtain ⟨U,h1,h2,h3⟩:=xS ka (u:=u) (B:=u::B) Pd (λv hv ne=>by
  rcases Pg.mp hv with rfl | hv
  ·exact absurd rfl ne
  ·exact hB.tail.2 v hv) hB.nd hD
 have e1:=one _ (by rw [h3]; exact Tu (hB.z u Pd) h1)
 have h4:=e (pk b t.1)
 rw [if_pos rfl,<- e1,h3] at h4
 refine ⟨?_,U,h1,e1,h4⟩
 refine Qt λhn=>?_
 obtain ⟨v,hv⟩:=List.exists_mem_of_ne_nil B hn
 obtain ⟨w,hw,mw⟩:=mS (λp=> - pk b p) (A:=u::B) 'p'
 obtain ⟨U_2,g1,g2,g3⟩:=xS (Dh ka) (u:=w) (B:=u::B) (D:=D) hw (λx hx ne=>by
  have a1:=mw x hx
  have a2:=(pw_nodup hB.s).2 x hx w hw ne
  have a1: - pk b x.1<= - pk b w.1:=a1
  show - pk b x.1< - pk b w.1
  lia) hB.nd (by
  obtain ⟨x,hx⟩:=hD
  exact ⟨-x,by rw [qG,Int.neg_neg]; exact hx⟩)
 rw [qG,qG] at g3
 rw [qG] at g1
 have e2:=one _ (by rw [g3]; exact Tu (hB.z w hw) g1)
 have a1: - pk b v.1<= - pk b w.1:=mw v (Ph _ hv)
 have a2:=hB.tail.2 v hv
 have a3:=h2 _ g1
 lia
theorem fY (hb:0<b) (h:∀ t∈ts,Bd b t.1):Nf b (aR ts):=by
 have hg:Gd b (aR ts):=λt ht=>mF h t (gw ht).1
 refine ⟨hg,?_,λt ht=>(gw ht).2⟩
 have hk:=Fj (gv ts)
 have hs2:=i8 (keys_nodup hk)
 have hk2:(gX (nz (aY ts))).Pairwise λx y=>x.1≠y.1:=by
  have:=((ck (nz (aY ts))).map (·.1)).nodup_iff.mpr hk
  unfold Td at this
  rwa [SM] at this
 unfold f9 gu at hs2
 refine Vd (R:=λx y=>(if true then cE y x=true else cE x y=true)/\x.1≠y.1) (λ{x y} hx hy q=>?_) (hs2.and hk2)
 obtain ⟨q1,q2⟩:=q
 rw [if_pos rfl] at q1
 unfold cE at q1
 rw [if_neg (Py q2)] at q1
 exact xm hb (hg _ hy).1 (hg _ hx).1 (hg _ hy).2 (hg _ hx).2 q1
theorem Kr (h:Ex m L) (h0:0<=m):∀ k,gk L k<=m:=λk=>mP 0 h0 λt ht=>(mK h0 (h t ht).2 k).2
theorem Dj (ht:t∈L) (k):aN t.1 k<=gk L k:=cK 0 ht
theorem Hx (L) (hk:k<6):gk L k<=jg (aS L):=tM (Pz.mpr ⟨k,TF.mpr hk,rfl⟩)
theorem Dk (h:Ex m L) (h2:∀ t∈L,∀ k,k<6->aN t.1 k<b):∀ t∈L,Bd b t.1:=λt ht=>⟨(h t ht).1,λx hx=>by
 obtain ⟨k,hk,rfl⟩:=List.mem_iff_getElem.mp hx
 have:=h2 t ht k (by have:=(h t ht).1; lia)
 rw [cu hk] at this
 exact ⟨((h t ht).2 _ hx).1,this⟩⟩
theorem xT (hb:0<b) (hX:Nf b X) (hY:Nf b Yzz) (e:∀ U,kc (pk b) U X=kc (pk b) U Yzz):X=Yzz:=by
 have mem:∀ {X Yzz:List aG},Nf b X->Nf b Yzz->(∀ U,kc (pk b) U X=kc (pk b) U Yzz)->∀ t∈X,t∈Yzz:=λ{X Yzz} hX hY e t ht=>by
  have h1:=e (pk b t.1)
  rw [hX.at ht] at h1
  obtain ⟨s,hs,es⟩:∃ s∈Yzz,pk b s.1=pk b t.1:=Qt λq=>hX.z t ht (h1.trans (cW (dM b) λs hs z=>q ⟨s,hs,z⟩))
  have h2:=hY.at hs
  rw [es,<- h1] at h2
  have h3:=mE hb (hY.g s hs).1 (hX.g t ht).1 (hY.g s hs).2 (hX.g t ht).2 es
  have:s=t:=Prod.ext h3 h2.symm
  exact this ▸ hs
 have key:∀ {X Yzz:List aG},Nf b X->Nf b Yzz->(∀ t,t∈X↔t∈Yzz)->X=Yzz:=by
  intro X
  induction X with
  | nil =>
   intro Yzz _ _ h
   cases Yzz with
   | nil=>rfl
   | cons y Yzz=>exact absurd ((h y).mpr Pd) 'p'
  | cons x X ih =>
   intro Yzz hX hY h
   cases Yzz with
   | nil=>exact absurd ((h x).mp Pd) 'p'
   | cons y Yzz =>
    have nx:=hX.nd
    have ny:=hY.nd
    rw [QM] at nx ny
    have exy:x=y:=Qt λne=>by
     have a1:=hY.tail.2 x ((Pg.mp ((h x).mp Pd)).resolve_left ne)
     have a2:=hX.tail.2 y ((Pg.mp ((h y).mpr Pd)).resolve_left λz=>ne z.symm)
     lia
    subst exy
    rw [ih hX.tail.1 hY.tail.1 λt=>⟨λm=>(Pg.mp ((h t).mp (Ph _ m))).resolve_left λz=>nx.1 (z ▸ m),λm=>(Pg.mp ((h t).mpr (Ph _ m))).resolve_left λz=>ny.1 (z ▸ m)⟩]
 exact key hX hY λt=>⟨mem hX hY e t,mem hY hX (λU=>(e U).symm) t⟩
theorem Gn (hb:0<b) (hX:∀ t∈X,Bd b t.1) (hY:∀ t∈Yzz,Bd b t.1) (h:∀ U,kc (pk b) U X=kc (pk b) U Yzz):mp X=mp Yzz:=by
 rw [<- cU X,<- cU Yzz,xT hb (fY hb hX) (fY hb hY) λU=>by rw [jJ (cU X),jJ (cU Yzz)]; exact h U]
theorem Ks (hb:0<b) (hX:Nf b X):aR X=X:=xT hb (fY hb λt ht=>(hX.g t ht).1) hX λU=>jJ (cU X) U
abbrev vp (A:List aG):Prop:=Nf 16 A
theorem gE (h:Ex e L) (he:e<16):vp (aR L):=fY 'd' (h.bd (W:=4) (by rw [show (2:Int) ^ 4=16 by decide]; exact he))
theorem vp.fix (h:vp L):aR L=L:=Ks 'd' h
theorem vp.ng (h:vp L):vp (L.map eF):=⟨λt ht=>by
 obtain ⟨u,hu,rfl⟩:=Pz.mp ht
 exact h.g u hu,Ux _ (λa b q=>q) h.s,λt ht=>by
 obtain ⟨u,hu,rfl⟩:=Pz.mp ht
 have:=h.z u hu
 show -u.2≠0
 lia⟩
theorem vp.take (h:vp L) (n):vp (L.take n):=⟨λt ht=>h.g t (RE ht),h.s.sublist (To _ _),λt ht=>h.z t (RE ht)⟩
structure Dn (O:List aG) (lb:aG) (Br:List aG):Prop where
 o:vp O
 oe:Ex 7 O
 ol:O.length<=20000
 b:vp (lb::Br)
 bl:Lm 8 3 60 (lb::Br)
theorem Dn.wd (h:Dn O lb Br):mZ O (lb::Br)<=4/\(∀ k,k<6->gk O k<bb O lb Br)/\(∀ k,k<6->gk (lb::Br) k<bb O lb Br):=by
 have mO:jg (aS O)<=7:=jh 'd' λt ht x hx=>((h.oe t ht).2 x hx).2
 have mB:jg (aS (lb::Br))<=3:=jh 'd' λt ht x hx=>((h.bl.e t ht).2 x hx).2
 have o0:=mJ (aS O)
 have b0:=mJ (aS (lb::Br))
 have lt:=qz (x:=jg (aS O)+jg (aS (lb::Br))) 'l'
 refine ⟨?_,λk hk=>?_,λk hk=>?_⟩
 ·unfold mZ
  obtain ⟨n,hn,en⟩:∃ n:Nat,n<16/\jg (aS O)+jg (aS (lb::Br))=n:=⟨(jg (aS O)+jg (aS (lb::Br))).toNat,by lia,by lia⟩
  rw [en]
  exact (show ∀ n:Nat,n<16->QB (n:Int)<=4 by decide) n hn
 ·have:=Hx O hk
  unfold bb mZ
  lia
 ·have:=Hx (lb::Br) hk
  unfold bb mZ
  lia
theorem Dn.ok (h:Dn O lb Br):jo O lb Br:=by
 obtain ⟨hw,ltO,ltB⟩:=h.wd
 have hb:0<bb O lb Br:=two_pos _
 have bO:=Dk h.oe λt ht k hk=>SK (Dj ht k) (ltO k hk)
 have bB:=Dk h.bl.e λt ht k hk=>SK (Dj ht k) (ltB k hk)
 refine ⟨?_,?_,hw,λu hu=>P9 (h.bl.b u hu) (Ul 'd' 'd'),h.ol,?_,P1 (Kr h.oe 'd' 0) 'd'⟩
 ·have:=fY hb bO
  rwa [h.o.fix] at this
 ·have:=fY hb bB
  rwa [h.b.fix] at this
 ·have:=h.bl.l
  rw [P4] at this
  lia
theorem Dn.xa (h:Dn O lb Br) (hA:vp A) (eA:Ex e A) (eO:mp O=mp (av A (lb::Br))):XA O lb Br A:=by
 obtain ⟨_,ltO,_⟩:=h.wd
 have hb:0<bb O lb Br:=two_pos _
 have gA:∀ t∈A,∀ k,aN t.1 k<=oR O (lb::Br) k:=λt ht k=>by
  have:=Ga 'd' hA h.b (h.oe.bd (W:=4) 'd') (by intro e; rw [e] at ht; cases ht) 'p' eO k
  have:=Dj ht k
  unfold oR; lia
 have bA:=Dk (b:=bb O lb Br) eA λt ht k hk=>by
  have h1:=gA t ht k
  have h2:=xF (lb::Br) k
  have h3:=ltO k hk
  unfold oR at h1; lia
 refine ⟨?_,jJ eO,gA⟩
 have:=fY hb bA
 rwa [hA.fix] at this
def j7 (t u:aG):Prop:=u.2 ∣ t.2/\∀ k,aN u.1 k<=aN t.1 k
theorem xU (h:∀ x∈p,0<=x) (k):0<=aN p k:=by
 by_cases z:k<p.length
 ·rw [cu z]; exact h _ (P0 _)
 ·rw [bR 'o']; exact Qj _
theorem MQ (h:trim p=trim q) (k):aN p k=aN q k:=by rw [<- bV p,h,bV]
theorem MR (h:Dn O lb Br) (eA:Ex 4 A) (et:t.1.length<=6/\∀ x∈t.1,0<=x/\x<=3) (zt:t.2≠0) (eO:mp O=mp (av A (lb::Br)++[t])) (nd:¬ (Br=[]/\j7 t lb)):NA O lb Br:=by
 intro Q hQ
 refine Qt λhz=>nd ?_
 have d:=h.ok
 have ka:=dM 16
 have hb:0<bb O lb Br:=two_pos _
 have r0:∀ U,rem O lb Br Q U=0:=λU=>Qt λq=>hz ⟨U,q⟩
 have e1:mp O=mp (av Q (lb::Br)):=Gn hb (λt ht=>(d.o.g t ht).1) (λt ht=>by
  obtain ⟨l,hl,r,hr,rfl⟩:=fL ht
  have:=d.box (hQ l hl) hr
  rw [oM] at this
  exact this) λU=>by have:=r0 U; unfold rem at this; lia
 have e2:mp (av (Q++A.map eF) (lb::Br))=mp [t]:=by
  have h1:mp (av Q (lb::Br))=mp (av A (lb::Br))+mp [t]:=e1.symm.trans eO
  rw [iE,JO]
  rw [iE,iE] at h1
  grind
 have e3:∀ U,kc (pk 16) U (av (Q++A.map eF) (lb::Br))=if pk 16 t.1=U then t.2 else 0:=λU=>by
  rw [jJ e2,dJ ka]
  show _+0=_
  lia
 obtain ⟨hBr,U,h1,h2,h3⟩:=Di h.b zt e3
 refine ⟨hBr,⟨_,h3.symm⟩,λk=>?_⟩
 obtain ⟨s,hs,es⟩:∃ s∈Q++A.map eF,pk 16 s.1=U:=Qt λq=>h1 (cW ka λs hs z=>q ⟨s,hs,z⟩)
 have hlb:=h.bl.e lb Pd
 have ht:Bd 16 t.1:=⟨et.1,λx hx=>⟨(et.2 x hx).1,SK (et.2 x hx).2 'd'⟩⟩
 have hsn:∀ k,0<=aN s.1 k:=λk=>by
  rcases PF.mp hs with hs | hs
  ·exact ((hQ s hs).m k).1
  ·obtain ⟨u,hu,rfl⟩:=Pz.mp hs
   exact xU (λx hx=>((eA u hu).2 x hx).1) k
 have hsb:Bd 16 (bX lb.1 s.1):=by
  rcases PF.mp hs with hs | hs
  ·have b1:=d.box (hQ s hs) Pd
   refine ⟨b1.1,λx hx=>⟨(b1.2 x hx).1,Int.lt_of_lt_of_le (b1.2 x hx).2 ?_⟩⟩
   have w4:=d.w
   unfold bb
   generalize mZ O (lb::Br)=n at w4
   have:n=0\/n=1\/n=2\/n=3\/n=4:=by omega
   rcases this with rfl | rfl | rfl | rfl | rfl <;> decide
  ·obtain ⟨u,hu,rfl⟩:=Pz.mp hs
   have:=xK 'd' 'd' hlb (eA u hu)
   exact ⟨this.1,λx hx=>⟨(this.2 x hx).1,SK (this.2 x hx).2 'd'⟩⟩
 have ek:pk 16 (bX lb.1 s.1)=pk 16 t.1:=by rw [eY,es]; lia
 have et2:trim (bX lb.1 s.1)=trim t.1:=mE 'd' (jb hsb) (jb ht) (cj _) (cj _) (by rw [fV,fV]; exact ek)
 have:=MQ et2 k
 rw [bF] at this
 have:=hsn k
 lia
section
variable {K:O7}
noncomputable def oU (ns:List Int) (k:Nat):Int:=if k<ns.length then ns.getD k 0 % 2147483647 else 0
noncomputable def tS:Fn:=λds r=>∃ (ns:List Int) (k:Nat),ds=[.lst (ns.map .int),.int (k:Int)]/\r=.ok (.va (.int (oU ns k)))
theorem Ku (ns) (k:Nat):tS [.lst (ns.map .int),.int (k:Int)] (.ok (.va (.int (oU ns k)))):=⟨ns,k,rfl,rfl⟩
theorem Dl {ns:List Int} (h:k<ns.length):j9 (ns.map D.int) (k:Int)=some (D.int (ns.getD k 0)):=by
 rw [gJ 'l' (by simp; lia),Qc,Pr,PX h,Qn,PX h]
 rfl
theorem Gp (ns):tS [.lst (ns.map .int),.int 0] (.ok (.va (.int (oU ns 0)))):=Ku ns 0
theorem Gq (Fu:d9 K "_law_cell" "_law_cell" (top 41) f fd) (T:Txt K mg):bw P w K mg base (cN P w) 1 f fd ["_law_script","_law_k"] (eE K tS):=by
 refine cP Fu zE (by rintro ds r ⟨ns,k,rfl,_⟩; rfl) (by rintro ds r ⟨ns,k,_,rfl⟩; exact ⟨_,rfl⟩) λc hq ds sl hF=>?_
 obtain ⟨ns,k,rfl,e⟩:=hF
 injection e with e
 subst e
 show aU c _ [.va (.lst (ns.map .int)),.va (.int (k:Int))] _ _
 conv in (ay _)=>whnf
 rw?
 ·have hk:k<ns.length:=by simp only [Pc] at *; lia
  refine nP (Dl hk) ?_
  rw?
  show Sl.va _=Sl.va _
  unfold oU
  rw [if_pos hk]
 ·have hk:¬ k<ns.length:=by simp only [Pc] at *; lia
  show Sl.va _=Sl.va _
  unfold oU
  rw [if_neg hk]
theorem Dm (xs:List α) (a b:Nat):(EV.cutD xs (some (a:Int)) (some (b:Int))).length<=b - a:=by
 unfold EV.cutD HT.cA
 simp only [show ¬ ((a:Int)<0) by lia,show ¬ ((b:Int)<0) by lia,if_false,Qf,SQ,Qc]
 lia
theorem Dp (xs:List α) (k:Nat):EV.cutD xs none (some (k:Int))=xs.take k:=by
 unfold EV.cutD
 rw [HT.Ao,HT.DX,List.drop_zero,Nat.sub_zero]
 rcases Nat.le_total k xs.length with h | h
 ·rw [Se h]
 ·rw [Nat.min_eq_right h,RZ (O9 _),RZ h]
noncomputable def qN (m:Int):Nat->Int->List Int×Int
 | 0,r=>([],r)
 | i+1,r=>((qN m i r).1++[(qN m i r).2 / 7 % (m+1)],(qN m i r).2 / (m+1))
noncomputable def bJ (m n:Int):aG :=
 if n % 2=1 then ((qN m (n / 2 % 7).toNat (n / 2)).1,(qN m (n / 2 % 7).toNat (n / 2)).2 / 7 % (2 * (10 ^ Ro 12)+1) - (10 ^ Ro 12))
 else ((PM (thing (n / 2) 0 4).toNat).map λ(i:Nat)=>thing (n / 2) (1+(i:Int)) 3,thing (n / 2) 9 19 - 9)
theorem xV (m) (i) (r):(qN m i r).1.length=i:=by
 induction i with
 | zero=>rfl
 | succ i ih=>simp [qN,ih]
theorem dP (m n):(bJ m n).1.length<=6:=by
 unfold bJ
 split
 ·rw [xV]; lia
 ·have:=jd (n / 2) 0 (m:=4) 'd'
  simp; lia
noncomputable def xW:Fn:=λds r=>∃ m n:Int,(0<m+1/\(m+1).natAbs.log2<9000)/\ds=[.int n,.int (10 ^ Ro 12),.int m]/\r=.ok (.va (af (bJ m n)))
theorem Dq (h:0<m+1/\(m+1).natAbs.log2<9000) (n):xW [.int n,.int (10 ^ Ro 12),.int m] (.ok (.va (af (bJ m n)))):=⟨m,n,h,rfl,rfl⟩
section
local macro_rules | `(tactic| walk_at "side")=> `(tactic| exact kB _)
local macro_rules | `(tactic| walk_at "evCa")=> `(tactic| with_reducible refine aX (F:=qo) 'm' 'd' ?_)
local macro_rules | `(tactic| walk_at "evR")=> `(tactic| first | with_reducible refine aO (FU ?_ ?_ ?_) ?_)
theorem Gr (Fu:d9 K "_law_term" "_law_term" (top 43) f fd) (T:Txt K mg) (h1:fk P w K mg base 1 "_law_thing" qo):bw P w K mg base (cN P w) 2 f fd ["_law_cell_here","_law_size","_law_most"] (eE K xW):=by
 refine cP Fu zF (by rintro ds r ⟨m,n,_,rfl,_⟩; rfl) (by rintro ds r ⟨m,n,_,_,rfl⟩; exact ⟨_,rfl⟩) λc hq ds sl hF=>?_
 obtain ⟨m,n,⟨hm,hm2⟩,rfl,e⟩:=hF
 injection e with e
 subst e
 show aU c _ [.va (.int n),.va (.int (10 ^ Ro 12)),.va (.int m),.un,.un,.un] _ _
 conv in (ay _)=>whnf
 rw?
 ·with_reducible refine eS hq (gj (Txt.range 'm') ?_)
  rw?
  ·exact ⟨by lia,by lia⟩
  refine ⟨λi Y'=>∃ s4:Sl,Y'=[.va (.int n),.va (.int (10 ^ Ro 12)),.va (.int m),.va (.int (qN m i (n / 2)).2),.ow ((qN m i (n / 2)).1.map .int),s4],⟨.un,rfl⟩,?_,?_⟩
  ·rintro c' x9 DK DL i d Y' hd ⟨s4,rfl⟩
   obtain ⟨hi,rfl⟩:=iW hd
   have hlen:((qN m i (n / 2)).1.map D.int).length=i:=by rw [Pc,xV]
   rw?
   ·exact fW 'l'
   ·exact ⟨by lia,hm2⟩
   ·refine ⟨.va (.int (i:Int)),?_⟩
    show [_,_,_,_,Sl.ow _,_]=_
    simp only [qN,Qh,Pn,Q8]
  ·rintro Y' ⟨s4,rfl⟩
   rw [kJ]
   rw?
   ·exact jV 'd'
   ·show Sl.va _=Sl.va _
    unfold bJ
    rw [if_pos 'm']
 ·have t4:=jd (n / 2) 0 (m:=4) 'd'
  with_reducible refine eS hq (gj (Txt.range 'm') ?_)
  rw?
  ·decide
  ·decide
  ·decide
  rw?
  ·exact ⟨by lia,by lia⟩
  refine ⟨λi Y'=>∃ s4:Sl,Y'=[.va (.int n),.va (.int (10 ^ Ro 12)),.va (.int m),.va (.int (n / 2)),.ow (((PM i).map λ(i:Nat)=>thing (n / 2) (1+(i:Int)) 3).map .int),s4],⟨.un,rfl⟩,?_,?_⟩
  ·rintro c' x9 DK DL i d Y' hd ⟨s4,rfl⟩
   obtain ⟨hi,rfl⟩:=iW hd
   have hlen:(((PM i).map λ(i:Nat)=>thing (n / 2) (1+(i:Int)) 3).map D.int).length=i:=by simp
   rw?
   ·decide
   ·decide
   ·lia
   rw?
   ·exact fW 'l'
   ·refine ⟨.va (.int (i:Int)),?_⟩
    show [_,_,_,_,Sl.ow _,_]=_
    simp only [List.range_succ,Qh,Pn,Q8]
  ·rintro Y' ⟨s4,rfl⟩
   rw [kJ]
   rw?
   ·decide
   ·decide
   ·decide
   rw?
   show Sl.va _=Sl.va _
   unfold bJ
   rw [if_neg 'm']
end
end
section
variable {P:Program} {w:World} {K:O7} {mg:Str->Option Value} {base:Heap}
def Kv (K:O7) (mg:Str->Option Value) (C:Addr) (x:Str):Prop:=∃ E,mg x=some (.ref E)/\Qq K (.ref C) (.ref E)=some false
noncomputable abbrev nb:Str:=O5 "NoBottom"
noncomputable def others:List Str:=["BadPlace","BadSaying","TooMany","BadChain","NoName","BadName","NoLine","NoStep","BadStep","BadThing","TooFree","TooDeep","BadKnown","CantMake","NoText"].map O5
structure Dr (K:O7) (mg:Str->Option Value) (C E:Addr):Prop where
 isin:mg "isinstance"=none
 verr:mg "ValueError"=none
 ev:Qq K (.ref C) (.type "ValueError")=some true
 ex:LX K C
 self:mg nb=some (.ref C)
 it:Qq K (.ref C) (.ref C)=some true
 xc:SY K C yw "ValueError.__new__"=true
 e:mg "DrawError"=some (.ref E)
 em:Tz K (.ref C) (.ref E)=some true
 o:∀ x∈others,Kv K mg C x
theorem Dr.Kw (T:Dr K mg C E):gI mg "ValueError" (.type "ValueError"):=.inr ⟨_,rfl,T.verr,by decide +kernel,by decide +kernel⟩
section
variable {c:Ctx P w K mg base k N sc bk}
theorem Gs (T:Dr K mg C E) (o:x∈others) (h:aB c e Y λd=>d=.exc C/\R (.bl false))
 (hgi:sc.names.lookup (O5 "isinstance")=some .globalImplicit:=by rfl') (hgx:sc.names.lookup x=some .globalImplicit:=by rfl') (hdx:Ndb x:=by decide)
 (he:∀ env,starEach [e,.Name x cp] env=(false,eval e env)::starEach [.Name x cp] env:=by symm) (he2:∀ env,starEach [.Name x cp] env=[(false,eval (.Name x cp) env)]:=by symm)
 (hpl:∀ env,(backTo pos (starEach [.Name x cp] env)).any (·.1)=false:=by symm):aB c (.Call (.Name "isinstance" np) [e,.Name x cp] [] pos) Y R:=by
 obtain ⟨E,hm,hk⟩:=T.o x o
 exact iu T.isin (.inl ⟨E,rfl,hm⟩) (h.imp λd ⟨e1,hR⟩=>by subst e1; exact DE (.exc T.ex) hk hR) hgi hgx hdx he he2 hpl
theorem e_self (T:Dr K mg C E) (h:aB c e Y λd=>d=.exc C/\R (.bl true))
 (hgi:sc.names.lookup (O5 "isinstance")=some .globalImplicit:=by rfl') (hgx:sc.names.lookup nb=some .globalImplicit:=by rfl') (hdx:Ndb nb:=by decide)
 (he:∀ env,starEach [e,.Name nb cp] env=(false,eval e env)::starEach [.Name nb cp] env:=by symm) (he2:∀ env,starEach [.Name nb cp] env=[(false,eval (.Name nb cp) env)]:=by symm)
 (hpl:∀ env,(backTo pos (starEach [.Name nb cp] env)).any (·.1)=false:=by symm):aB c (.Call (.Name "isinstance" np) [e,.Name nb cp] [] pos) Y R :=
 iu T.isin (.inl ⟨C,rfl,T.self⟩) (h.imp λd ⟨e1,hR⟩=>by subst e1; exact DE (.exc T.ex) T.it hR) hgi hgx hdx he he2 hpl
theorem Kx {R:Prop} (h:R):(EV.D.exc C=EV.D.exc C/\R):=⟨rfl,h⟩
end
section
local macro_rules | `(tactic| walk_at "evCa")=> `(tactic| first
 | with_reducible refine e_self 'm' ?_
 | with_reducible refine Gs 'm' (by decide +kernel) ?_)
local macro_rules | `(tactic| walk_at "evL")=> `(tactic| with_reducible refine Kx ?_)
noncomputable def qH:List Bool:=[true,false,false,false,false,false,false,false,false,false,false,false,false,false,false,false]
noncomputable def qI (C:Addr):Fn:=λds r=>ds=[.exc C]/\r=.ok (.ow (qH.map D.bl))
theorem Gu (C):qI C [.exc C] (.ok (.ow (qH.map D.bl))):=⟨rfl,rfl⟩
theorem Ds (Fu:d9 K "_law_flags" "_law_flags" (top 39) f fd) (T:Dr K mg C E):bw P w K mg base (cN P w) 1 f fd ["_law_caught"] (eE K (qI C)):=by
 refine cP Fu u9 (by rintro ds r ⟨rfl,_⟩; rfl) (by rintro ds r ⟨_,rfl⟩; exact ⟨_,rfl⟩) λc hq ds sl hF=>?_
 obtain ⟨rfl,e⟩:=hF
 injection e with e
 subst e
 show aU c _ [.va (.exc C),.un] _ _
 conv in (ay _)=>whnf
 simp?
 ac_nf
 refine cB 1 'a' rfl 's' ?_
 simp?
 ac_nf
 refine cB 1 'a' rfl 's' ?_
 simp?
 ac_nf
 refine cB 1 'a' rfl 's' ?_
 simp?
 ac_nf
 refine cB 1 'a' rfl 's' ?_
 simp?
 ac_nf
 refine cB 1 'a' rfl 's' ?_
 simp?
 rfl
end
theorem Ky (xs ys:List Bool):lE (xs.map D.bl) (ys.map D.bl):=by
 intro i d e h1 h2
 simp only [Pr,PD] at h1 h2
 obtain ⟨x,_,rfl⟩:=h1
 obtain ⟨y,_,rfl⟩:=h2
 exact .sc rfl
noncomputable def tT (C:Addr):Fn:=λds r=>ds=[.exc C,.str nb]/\r=.ok (.va (.bl true))
theorem Kz (C):tT C [.exc C,.str nb] (.ok (.va (.bl true))):=⟨rfl,rfl⟩
section
local macro_rules | `(tactic| walk_at "evE")=> `(tactic| first
 | with_reducible refine aX (F:=qI _) 'm' 'd' ?_
 | with_reducible refine iu (Dr.isin 'm') (Dr.Kw 'm') ?_)
local macro_rules | `(tactic| walk_at "evR")=> `(tactic| with_reducible refine aO (Gu _) ?_)
theorem Gv (Fu:d9 K "_law_only" "_law_only" (top 40) f fd) (T:Dr K mg C E) (hfl:fk P w K mg base 1 "_law_flags" (qI C)):bw P w K mg base (cN P w) 2 f fd ["_law_caught","_law_name"] (eE K (tT C)):=by
 refine cP Fu zD (by rintro ds r ⟨rfl,_⟩; rfl) (by rintro ds r ⟨_,rfl⟩; exact ⟨_,rfl⟩) λc hq ds sl hF=>?_
 obtain ⟨rfl,e⟩:=hF
 injection e with e
 subst e
 show aU c _ [.va (.exc C),.va (.str nb),.un] _ _
 conv in (ay _)=>whnf
 simp?
 ac_nf
 refine cB 2 'a' rfl 's' ?_
 simp?
 ac_nf
 refine cB 2 'a' rfl 's' ?_
 simp?
 refine DE (.exc T.ex) T.ev ?_
 rw?
 refine e_x (dX hq (N':=["_law_other","_law_name"]) (Y0:=λ_=>[.un,.va (.str nb)]) (λt=>.un (.fr 'a' 'a' 'd' rfl .nil)) (dh ?_))
 rw?
 refine ⟨(nb::others).map λz=>some (.bl (decide (z=nb))),rfl,?_,gm ?_⟩
 ·intro c3 hc3 t k d o hd ho
  obtain ⟨z,hz,rfl⟩:∃ z,(nb::others)[k]?=some z/\d=.str z:=PD.mp (by rw [<- Pr]; exact hd) |>.imp λz h=>⟨h.1,h.2.symm⟩
  rw [Pr,hz] at ho
  cases ho
  refine fj 'a' (j0 's' ⟨.un (.same .nil),?_⟩)
  simp only [kr]
  refine ⟨λ_=>?_,λh=>by cases h⟩
  rw?
  rfl
 rw [show ((nb::others).map λz=>some (D.bl (decide (z=nb)))).filterMap id=qH.map D.bl by rw [<- show (nb::others).map (λz=>decide (z=nb))=qH by decide +kernel]; rfl]
 refine fP ⟨Ky _ _,?_⟩
 show Sl.va _=Sl.va _
 rw [decide_eq_true rfl]
end
end
section
variable {K:O7}
noncomputable def vq (C:Addr):Fn:=λds r=>(∃ O:List aG,ds=[.lst (O.map af),.lst []]/\r=.ok (.va (.tup [.non,.exc C])))\/∃ (O:List aG) (lb:aG) (Br:List aG),jo O lb Br/\ds=[.lst (O.map af),.lst ((lb::Br).map af)]/\((∃ A,XA O lb Br A/\r=.ok (.fo (.t [.l (A.map af),.v .non])))\/(NA O lb Br/\r=.ok (.va (.tup [.non,.non]))))
theorem KA (C) (O:List aG):vq C [.lst (O.map af),.lst []] (.ok (.va (.tup [.non,.exc C]))):=.inl ⟨O,rfl,rfl⟩
theorem MS (h:jo O lb Br) (x:XA O lb Br A):vq C [.lst (O.map af),.lst ((lb::Br).map af)] (.ok (.fo (.t [.l (A.map af),.v .non]))):=.inr ⟨O,lb,Br,h,rfl,.inl ⟨A,x,rfl⟩⟩
theorem KC (h:jo O lb Br) (x:NA O lb Br):vq C [.lst (O.map af),.lst ((lb::Br).map af)] (.ok (.va (.tup [.non,.non]))):=.inr ⟨O,lb,Br,h,rfl,.inr ⟨x,rfl⟩⟩
theorem KD (Fu:d9 K "_law_asked" "_law_asked" (top 48) f fd) (hE:mg "DrawError"=some (.ref E)) (hx:Tz K (.ref C) (.ref E)=some true) (h1:fk P w K mg base 3 "divided_by" (qE C)):bw P w K mg base (cN P w) 4 f fd ["_law_one","_law_other"] (eE K (vq C)):=by
 refine cP Fu vd (by rintro ds r (⟨O,rfl,_⟩ | ⟨O,lb,Br,_,rfl,_⟩) <;> rfl) (by rintro ds r (⟨O,_,rfl⟩ | ⟨O,lb,Br,_,_,⟨A,_,rfl⟩ | ⟨_,rfl⟩⟩) <;> exact ⟨_,rfl⟩) λc hq ds sl hF=>?_
 rcases hF with ⟨O,rfl,e⟩ | ⟨O,lb,Br,d,rfl,hF⟩
 ·injection e with e
  subst e
  show aU c _ [.va (.lst (O.map af)),.va (.lst []),.un,.un,.un] _ _
  conv in (ay _)=>whnf
  simp?
  ac_nf
  simp?
  ac_nf
  refine aJ ?_
  generalize hG:(λY'=>aU c _ Y' _ _)=G
  with_reducible refine A9 (i:=4) (j:=3) hE 'a' 'a' 'd' λc' hR=>?_
  refine aJ (iO 'a' (x_call (F:=qE C) h1 'd' ?_))
  rw?
  refine Ma (Ko C O) (hR _ _ ⟨hx,?_⟩)
  refine ⟨_,_,'s','s',?_⟩
  ac_nf
  rw?
  rfl
 ·show aU c _ [.va (.lst (O.map af)),.va (.lst ((lb::Br).map af)),.un,.un,.un] _ _
  conv in (ay _)=>whnf
  simp?
  ac_nf
  simp?
  ac_nf
  refine aJ ?_
  generalize hG:(λY'=>aU c _ Y' _ _)=G
  with_reducible refine A9 (i:=4) (j:=3) hE 'a' 'a' 'd' λc' hR=>?_
  refine aJ (iO 'a' (x_call (F:=qE C) h1 'd' ?_))
  rw?
  rcases hF with ⟨A,x,e⟩ | ⟨x,e⟩
  ·injection e with e
   subst e
   refine aO (Hw d x) ?_
   refine j0 's' (dF ?_)
   ac_nf
   exact aJ (JY 'a' 'a' 'a' 'a' rfl)
  ·injection e with e
   subst e
   refine aO (Kp d x) ?_
   refine j0 's' (dF ?_)
   ac_nf
   rw?
   rfl
end
section
variable {K:O7}
noncomputable def t6 (t u:aG):List Int:=(PM (max t.1.length u.1.length)).map λk=>aN t.1 k - aN u.1 k
noncomputable def qT (t u:aG):aG:=(trim (t6 t u),t.2.fdiv u.2)
theorem Dt (t u) (k):aN (t6 t u) k=aN t.1 k - aN u.1 k:=by
 have len:(t6 t u).length=max t.1.length u.1.length:=by unfold t6; rw [Pc,R7]
 by_cases h:k<max t.1.length u.1.length
 ·rw [cu (by rw [len]; exact h)]
  unfold t6
  rw [UB,Uq]
 ·rw [bR (by rw [len]; omega),bR (p:=t.1) 'o',bR (p:=u.1) 'o']; rfl
theorem Du (t u):(∀ n∈t6 t u,0<=n)↔∀ k,aN u.1 k<=aN t.1 k:=by
 constructor
 ·intro h k
  have:=xU h k
  rw [Dt] at this; lia
 ·intro h n hn
  unfold t6 at hn
  obtain ⟨k,_,rfl⟩:=Pz.mp hn
  have:=h k
  lia
noncomputable def zP:Fn:=λds r=>∃ (t:aG) (B:List aG),t.1.length<=6/\(∀ u∈B,u.1.length<=6/\u.2≠0/\u.2.natAbs<2 ^ 63)/\B.length<=1000/\ds=[af t,.lst (B.map af)] /\
 ((∃ u,B=[u]/\j7 t u/\r=.ok (.ow [af (qT t u)]))\/(¬ (∃ u,B=[u]/\j7 t u)/\r=.ok (.va .non)))
theorem tU {a b:Int}:a.fmod b=0↔b ∣ a:=by rw [Int.dvd_iff_fmod_eq_zero]
section
local macro_rules | `(tactic| walk_at "evBo")=> `(tactic| first
 | ((with_reducible show aB _ (Rz (T5 _ _ _) Operator.Mult _ _) _ _); with_reducible refine Cc ?_)
 | ((with_reducible show aB _ (Rz _ Operator.Mod _ _) _ _); with_reducible refine CF ?_)
 | ((with_reducible show aB _ (Rz _ Operator.FloorDiv _ _) _ _); with_reducible refine vO ?_))
local macro_rules | `(tactic| walk_at "evCa")=> `(tactic| first
 | ((with_reducible show aB _ (Qk (Pw "max" _) [_,_] _ _) _ _); with_reducible refine B4 (Txt.max 'm') ?_)
 | ((with_reducible show aB _ (Qk (Pw "min" _) [_] _ _) _ _); with_reducible refine JX (Txt.min 'm') ?_)
 | with_reducible refine aX (F:=qv) 'm' 'd' ?_)
theorem KG (Fu:d9 K "_law_quotient" "_law_quotient" (top 49) f fd) (T:Txt K mg) (h1:fk P w K mg base 1 "_law_trimmed" qv):bw P w K mg base (cN P w) 2 f fd ["_law_term_here","_law_other"] (eE K zP):=by
 refine cP Fu nB (by rintro ds r ⟨t,B,_,_,_,rfl,_⟩; rfl) (by rintro ds r ⟨t,B,_,_,_,_,⟨u,_,_,rfl⟩ | ⟨_,rfl⟩⟩ <;> exact ⟨_,rfl⟩) λc hq ds sl hF=>?_
 obtain ⟨t,B,ht,hB,hl,rfl,hr⟩:=hF
 replace hr:(∃ u,B=[u]/\j7 t u/\sl=.ow [af (qT t u)])\/(¬ (∃ u,B=[u]/\j7 t u)/\sl=.va .non):=by
  rcases hr with ⟨u,a,b,e⟩ | ⟨a,e⟩
  ·injection e with e; exact .inl ⟨u,a,b,e⟩
  ·injection e with e; exact .inr ⟨a,e⟩
 have no:¬ (∃ u,B=[u]/\j7 t u)->sl=.va .non:=λh=>by
  rcases hr with ⟨u,a,b,_⟩ | ⟨_,e⟩
  ·exact absurd ⟨u,a,b⟩ h
  ·exact e
 show aU c _ [.va (.tup [.tup (t.1.map .int),.int t.2]),.va (.lst (B.map af)),.un,.un,.un,.un] _ _
 conv in (ay _)=>whnf
 by_cases h1B:B.length=1
 ·obtain ⟨u,rfl⟩:∃ u,B=[u]:=List.length_eq_one_iff.mp h1B
  obtain ⟨hu,hz,hz2⟩:=hB u Pd
  show aU c _ [.va (.tup [.tup (t.1.map .int),.int t.2]),.va (.lst [.tup [.tup (u.1.map .int),.int u.2]]),.un,.un,.un,.un] _ _
  simp?
  rotate_left
  ·rename_i _ h
   exact (no λ⟨v,ev,dv⟩=>by
    obtain rfl:u=v:=by simpa using ev
    exact h (tU.mpr dv.1)).symm
  ·rename_i h
   exact absurd rfl h
  rename_i hm
  ac_nf
  simp?
  have ew:(if ((u.1.map D.int).length:Int)>((t.1.map D.int).length:Int) then ((u.1.map D.int).length:Int) else ((t.1.map D.int).length:Int))=((max t.1.length u.1.length:Nat):Int):=by simp only [Pc]; split <;> lia
  rw [ew]
  have hw6:max t.1.length u.1.length<=6:=by lia
  have et:t.1.length<=max t.1.length u.1.length:=Nat.le_max_left _ _
  have eu:u.1.length<=max t.1.length u.1.length:=Nat.le_max_right _ _
  have edif:t6 t u=(PM (max t.1.length u.1.length)).map λk=>aN t.1 k - aN u.1 k:=rfl
  have hdn:=Du t u
  have hdl:(t6 t u).length<=6:=by rw [edif,Pc,R7]; exact hw6
  generalize max t.1.length u.1.length=n at hw6 et eu edif |-
  ac_nf
  simp?
  refine ⟨_,_,rfl,rfl,⟨⟨by simp,by lia,by lia,mY (by simp; lia)⟩,?_⟩⟩
  rw [Qc]
  rw?
  ·exact mY (by simp; lia)
  ac_nf
  simp?
  refine ⟨_,_,rfl,rfl,⟨⟨by simp,by lia,by lia,mY (by simp; lia)⟩,?_⟩⟩
  rw [Qc]
  rw?
  ·exact mY (by simp; lia)
  ac_nf
  refine aJ (Bp 'a' hq (N':=["_law_k","_law_left","_law_right"]) (Y0:=λ_=>[.un,.va (.tup (t.1.map D.int++(Pu n [D.int 0]).flatten)),.va (.tup (u.1.map D.int++(Pu n [D.int 0]).flatten))]) (λt=>.un (.fr 'a' 'a' 'd' rfl (.fr 'a' 'a' 'd' rfl .nil))) (gj (Txt.range T) ?_))
  generalize hG:(λY'=>aU c _ Y' _ _)=G
  rw?
  ·exact ⟨by lia,by lia⟩
  ·rw [mQ]; exact mY 'l'
  refine ⟨(PM n).map λk=>some (.int (aN t.1 k - aN u.1 k)),by simp [mQ],?_,?_⟩
  ·intro c3 hc3 tg k d o hd ho
   rw [Qc] at hd
   obtain ⟨hk,rfl⟩:=iW hd
   rw [Pr,SG hk] at ho
   cases ho
   refine fj 'a' (j0 's' ⟨.un (.same (.same .nil)),?_⟩)
   simp only [kr]
   refine ⟨λ_=>?_,λh=>by cases h⟩
   rw?
   refine nQ (qB (p:=t.1) hk 'l') ?_
   rw?
   refine nQ (qB (p:=u.1) hk 'l') ?_
   rw?
   rfl
  rw [dD (λk=>D.int (aN t.1 k - aN u.1 k)),show (PM n).map (λk=>D.int (aN t.1 k - aN u.1 k))=(t6 t u).map D.int by rw [edif,PZ]; rfl]
  refine j0 's' ?_
  ac_nf
  generalize hL:t6 t u=L at hdn hdl
  refine cB 5 'a' rfl 's' ?_
  simp?
  refine ⟨L,rfl,λm hmn=>?_⟩
  rw?
  ·rename_i hneg
   exact (no λ⟨v,ev,dv⟩=>by
    obtain rfl:u=v:=by simpa using ev
    rcases hmn with ⟨_,rfl⟩ | ⟨hm1,_⟩
    ·lia
    ·have:=hdn.mpr dv.2 m hm1
     lia).symm
  rename_i hneg
  have dv:j7 t u:=⟨tU.mp hm,hdn.mp λn hn=>by
   rcases hmn with ⟨rfl,_⟩ | ⟨_,h2⟩
   ·cases hn
   ·have:=h2 n hn; lia⟩
  have esl:sl=.ow [af (qT t u)]:=by
   rcases hr with ⟨v,ev,_,e⟩ | ⟨h,_⟩
   ·obtain rfl:u=v:=by simpa using ev
    exact e
   ·exact absurd ⟨u,rfl,dv⟩ h
  subst esl
  ac_nf
  simp?
  refine aO (F3 'l') ?_
  rw?
  ·exact C4 hz hz2
  show Sl.ow [D.tup [D.tup ((trim L).map D.int),.int (t.2.fdiv u.2)]]=Sl.ow [af (qT t u)]
  unfold qT
  rw [hL]
 ·simp?
  ·rename_i h
   rw [Pc] at h
   exact absurd (by lia:B.length=1) h1B
  ·exact (no λ⟨v,ev,_⟩=>h1B (by rw [ev]; rfl)).symm
end
end
section
variable {K:O7}
def G8 (O B:List aG) (due:D):Prop:=B=[]\/∃ (lb:aG) (Br:List aG),B=lb::Br/\jo O lb Br/\((∃ A,XA O lb Br A/\(A.length<=20000/\∀ t∈A,t.1.length<=64)/\due=.lst (A.map af))\/(NA O lb Br/\due=.non))
noncomputable def xX:Fn:=λds r=>∃ (O B:List aG) (due:D),G8 O B due/\ds=[.lst (O.map af),.lst (B.map af),due]/\r=.ok (.va (.bl true))
theorem jL (h:G8 O B due):xX [.lst (O.map af),.lst (B.map af),due] (.ok (.va (.bl true))):=⟨O,B,due,h,rfl,rfl⟩
theorem jn (L:List aG) (h:T true):vN (.lst (L.map af)) (.lst (L.map af)) T:=tD (dO _ _) h
theorem Gw (C):tT C [.exc C,.str "NoBottom"] (.ok (.va (.bl true))):=Kz C
theorem kL (O B:List aG) (h:T true):vN (.lst [.lst (O.map af),.lst (B.map af)]) (.lst [.lst (O.map af),.lst (B.map af)]) T:=tD (oJ (tw _ _) (oJ (tw _ _) (Ck _))) h
section
local macro_rules | `(tactic| walk_at "evCa")=> `(tactic| first
 | ((with_reducible show aB _ (Qk (Pw "list" _) _ _ _) _ _); with_reducible refine e_x (uB (Txt.list 'm') ?_))
 | with_reducible refine aX (F:=vq _) 'm' 'd' ?_
 | with_reducible refine aX (F:=qE _) 'm' 'd' ?_
 | with_reducible refine aX (F:=xE) 'm' 'd' ?_
 | with_reducible refine aX (F:=tT _) 'm' 'd' ?_)
theorem Gx (Fu:d9 K "_law_good" "_law_good" (top 50) f fd) (T:Txt K mg) (h1:fk P w K mg base 4 "_law_asked" (vq C)) (h2:fk P w K mg base 2 "_law_only" (tT C)) (h3:fk P w K mg base 2 "_law_same" xE) (h4:fk P w K mg base 3 "divided_by" (qE C)):bw P w K mg base (cN P w) 5 f fd ["_law_one","_law_other","_law_due"] (eE K xX):=by
 refine cP Fu zH (by rintro ds r ⟨O,B,due,_,rfl,_⟩; rfl) (by rintro ds r ⟨O,B,due,_,_,rfl⟩; exact ⟨_,rfl⟩) λc hq ds sl hF=>?_
 obtain ⟨O,B,due,hg,rfl,e⟩:=hF
 injection e with e
 subst e
 show aU c _ [.va (.lst (O.map af)),.va (.lst (B.map af)),.va due,.un,.un,.un] _ _
 conv in (ay _)=>whnf
 simp?
 ac_nf
 refine cB 3 'a' rfl 's' ?_
 rcases hg with rfl | ⟨lb,Br,rfl,d,⟨A,x,hA,rfl⟩ | ⟨x,rfl⟩⟩
 ·simp?
  refine aO (KA C O) ?_
  rw?
  ac_nf
  simp?
  refine kL O [] ?_
  rw?
  ac_nf
  simp?
  refine jn [] ?_
  rw?
  refine aO (Gw C) ?_
  rw?
  rfl
 ·refine aJ (FQ 'a' 'a' (x_call (F:=vq C) h1 'd' ?_))
  generalize hG:(λY'=>aU c _ Y' _ _)=G
  rw?
  refine aO (MS d x) ⟨_,_,rfl,j0 's' (j0 's' ?_)⟩
  ac_nf
  simp?
  refine kL O (lb::Br) ?_
  rw?
  ac_nf
  simp?
  refine fP (Sd.mk (dO (lb::Br) []) ?_)
  show g6 _ _ _
  rw?
  ·rename_i z
   cases z
  ac_nf
  simp?
  refine vX (λh=>by cases h) ?_
  rw?
  ac_nf
  refine aJ (Er ?_)
  refine Me 4 'a' rfl 's' ?_
  generalize hG:(λY'=>aU c _ Y' _ _)=G
  rw?
  refine aO (CM hA.1 hA.2) ?_
  rw?
  ac_nf
  simp?
  ·rw [Pc]; exact fW (Pj hA.1 'd')
  ac_nf
  simp?
  refine kL O (lb::Br) ?_
  rw?
  refine aO (Hw d x) ?_
  rw?
  refine aO (CM hA.1 hA.2) ?_
  rw?
  rfl
 ·simp?
  refine aO (KC d x) ?_
  rw?
  ac_nf
  simp?
  refine kL O (lb::Br) ?_
  rw?
  ac_nf
  simp?
  refine fP (Sd.mk (dO (lb::Br) []) ?_)
  show g6 _ _ _
  rw?
  ·rename_i z
   cases z
  ac_nf
  simp?
  rfl
end
end
theorem Dw (m) (hm:0<=m) (r):∀ (i:Nat),∀ x∈(qN m i r).1,0<=x/\x<=m
 | 0,x,h=>by simp [qN] at h
 | i+1,x,h=>by
  simp only [qN,PF,Pk] at h
  rcases h with h | rfl
  ·exact Dw m hm r i x h
  ·have:=Int.emod_nonneg ((qN m i r).2 / 7) (b:=m+1) 'l'
   have:=Int.emod_lt_of_pos ((qN m i r).2 / 7) (b:=m+1) 'l'
   lia
theorem gF (m) (hm:2<=m) (n):(∀ x∈(bJ m n).1,0<=x/\x<=m)/\(bJ m n).2.natAbs<2 ^ 40:=by
 refine ⟨?_,?_⟩
 ·unfold bJ
  split
  ·exact Dw m 'l' _ _
  ·intro x hx
   obtain ⟨i,_,rfl⟩:=Pz.mp hx
   have:=jd (n / 2) (1+(i:Int)) (m:=3) 'd'
   lia
 ·unfold bJ
  split
  ·show ((qN m (n / 2 % 7).toNat (n / 2)).2 / 7 % (2 * (10 ^ Ro 12)+1) - (10 ^ Ro 12)).natAbs<2 ^ 40
   generalize (qN m (n / 2 % 7).toNat (n / 2)).2 / 7=y
   rw [show (10:Int) ^ Ro 12=1000000000000 by decide,show (2:Nat) ^ 40=1099511627776 by decide]
   lia
  ·show (thing (n / 2) 9 19 - 9).natAbs<2 ^ 40
   have:=jd (n / 2) 9 (m:=19) 'd'
   rw [show (2:Nat) ^ 40=1099511627776 by decide]
   lia
theorem tV (hm:2<=m) (hl2:l<2 ^ 20) {cs:List Int} (h:cs.length<=l):Lm l m 60 (aR (cs.map (bJ m))):=by
 have h1:Lm l m 40 (cs.map (bJ m)):=⟨by rw [Pc]; exact h,λt ht=>by
  obtain ⟨n,_,rfl⟩:=Pz.mp ht
  exact ⟨dP m n,(gF m hm n).1⟩,λt ht=>by
  obtain ⟨n,_,rfl⟩:=Pz.mp ht
  exact (gF m hm n).2⟩
 exact h1.jj hl2
section
variable {la lb:Nat} {ea eb:Int} {ba bb:Nat} {A B:List aG}
theorem Lm.O4 (h:Lm la ea ba A) (g:Lm lb eb bb B) (h1:la<=400000:=by decide) (h2:lb<=400000:=by decide) (h3:la * lb<=400000:=by decide) (h4:ea<=500:=by decide) (h5:eb<=500:=by decide) (h6:ba+bb<=1000000:=by decide):oQ A B where
 la:=Pj h.l h1
 lb:=Pj g.l h2
 lp:=Pj (UJ h.l g.l) h3
 pa:=h.e.mono h4
 pb:=g.e.mono h5
 mu:=λl hl r hr=>Kf (h.b l hl) (g.b r hr) h6
theorem Lm.take (h:Lm la ea ba A) (n):Lm la ea ba (A.take n):=⟨Pj (by rw [Qf]; exact Nat.min_le_right _ _) h.l,λt ht=>h.e t (RE ht),λt ht=>h.b t (RE ht)⟩
theorem Lm.same (h:Lm la ea ba A) (h1:la<=20000:=by decide):A.length<=20000/\∀ t∈A,t.1.length<=64:=⟨Pj h.l h1,λt ht=>Pj (h.e t ht).1 'd'⟩
end
structure PA (A:List aG):Prop where
 l:Lm 14 4 60 A
 n:vp A
structure PB (B:List aG):Prop where
 l:Lm 8 3 60 B
 n:vp B
theorem Dy {cs:List Int} (h:cs.length<=14):PA (aR (cs.map (bJ 4))):=⟨tV 'd' 'd' h,by
 have:Ex 4 (cs.map (bJ 4)):=λt ht=>by
  obtain ⟨n,_,rfl⟩:=Pz.mp ht
  exact ⟨dP 4 n,(gF 4 'd' n).1⟩
 exact gE this 'd'⟩
theorem Dz {cs:List Int} (h:cs.length<=8):PB (aR (cs.map (bJ 3))):=⟨tV 'd' 'd' h,by
 have:Ex 3 (cs.map (bJ 3)):=λt ht=>by
  obtain ⟨n,_,rfl⟩:=Pz.mp ht
  exact ⟨dP 3 n,(gF 3 'd' n).1⟩
 exact gE this 'd'⟩
theorem vt:PB []:=⟨⟨by decide,(λt ht=>by cases ht),λt ht=>by cases ht⟩,⟨(λt ht=>by cases ht),SN,λt ht=>by cases ht⟩⟩
theorem PB.tk (h:PB B):PB (B.take 1):=⟨h.l.take 1,h.n.take 1⟩
theorem xZ (hA:PA A) (hB:PB (lb::Br)):Dn (aR (av A (lb::Br))) lb Br:=by
 have p:=hA.l.prod hB.l
 exact ⟨gE p.e 'd',(p.jj).e,Pj (p.jj).l 'd',hB.n,hB.l⟩
theorem Gy (hA:PA A) (hB:PB B):G8 (aR (av A B)) B (.lst (A.map af)):=by
 cases B with
 | nil=>exact .inl rfl
 | cons lb Br=>exact .inr ⟨lb,Br,rfl,(xZ hA hB).ok,.inl ⟨A,(xZ hA hB).xa hA.n hA.l.e (cU _),hA.l.same,rfl⟩⟩
theorem KH (hB:PB B):G8 [] B (.lst []):=by
 cases B with
 | nil=>exact .inl rfl
 | cons lb Br =>
  have dn:Dn [] lb Br:=⟨vt.n,(λt ht=>by cases ht),P7 _,hB.n,hB.l⟩
  exact .inr ⟨lb,Br,rfl,dn.ok,.inl ⟨[],dn.xa vt.n (e:=4) (λt ht=>by cases ht) rfl,⟨P7 _,λt ht=>by cases ht⟩,rfl⟩⟩
theorem Gz (hn:n≠0):vp [([],n)]:=⟨λt ht=>by cases Pk.mp ht; exact ⟨⟨P7 _,λx hx=>by cases hx⟩,rfl⟩,RY _ _,λt ht=>by cases Pk.mp ht; exact hn⟩
theorem qJ (hA:PA A) (hn:n≠0) (h2:n.natAbs<2 ^ 60):Dn A ([],n) []:=⟨hA.n,hA.l.e.mono 'd',Pj hA.l.l 'd',Gz hn,(Lm.con (ba:=60) h2).mono⟩
theorem MT:mp [([],1)]=1:=rfl
theorem MU:mp [([],-1)]= -1:=by
 have:mp ([(([]:List Int),(1:Int))].map eF)= - mp [([],1)]:=Cp _
 rw [MT] at this
 exact this
theorem KI (hA:PA A):G8 A [([],1)] (.lst (A.map af)):=.inr ⟨([],1),[],rfl,(qJ hA 'd' 'd').ok,.inl ⟨A,(qJ hA 'd' 'd').xa hA.n hA.l.e (by rw [iE,MT]; grind),hA.l.same,rfl⟩⟩
theorem GA (hA:PA A):G8 A [([],-1)] (.lst ((A.map eF).map af)):=.inr ⟨([],-1),[],rfl,(qJ hA 'd' 'd').ok,.inl ⟨A.map eF,(qJ hA 'd' 'd').xa hA.n.ng (e:=4) (λt ht=>by
 obtain ⟨u,hu,rfl⟩:=Pz.mp ht
 exact hA.l.e u hu) (by rw [iE,Cp,MU]; grind),⟨by rw [Pc]; exact hA.l.same.1,λt ht=>by
 obtain ⟨u,hu,rfl⟩:=Pz.mp ht
 exact hA.l.same.2 u hu⟩,rfl⟩⟩
structure PT (t:aG):Prop where
 e:t.1.length<=6/\∀ x∈t.1,0<=x/\x<=3
 z:t.2≠0
theorem GB (n):aR [bJ 3 n]=[]\/∃ t,PT t/\aR [bJ 3 n]=[t]:=by
 have hl:=i9 [bJ 3 n]
 have he:Ex 3 (aR [bJ 3 n]):=Ex.jj λt ht=>by
  cases Pk.mp ht
  exact ⟨dP 3 n,(gF 3 'd' n).1⟩
 have hz:∀ t∈aR [bJ 3 n],t.2≠0:=λt ht=>(gw ht).2
 match h:aR [bJ 3 n],hl with
 | [],_=>exact .inl rfl
 | [t],_ =>
  rw [h] at he hz
  exact .inr ⟨t,⟨he t Pd,hz t Pd⟩,rfl⟩
 | _::_::_,hl=>simp at hl
theorem KJ (h:trim x.1=trim y.1) (e:x.2=y.2):mp [x]=mp [y]:=d8.mpr λg=>by rw [aW,aW,h,e]
theorem x6 (hA:PA A) (hB:PB (lb::Br)) (ht:PT t):Dn (aR (aR (av A (lb::Br))++[t])) lb Br:=by
 have p:=hA.l.prod hB.l
 have e7:Ex 7 (aR (av A (lb::Br))++[t]):=(p.jj).e.app λu hu=>by
  cases Pk.mp hu
  exact ⟨ht.e.1,λx hx=>⟨(ht.e.2 x hx).1,P1 (ht.e.2 x hx).2 'd'⟩⟩
 refine ⟨gE e7 'd',e7.jj,Pj (i9 _) ?_,hB.n,hB.l⟩
 rw [PY,RD]
 have:(aR (av A (lb::Br))).length<=14 * 8:=(p.jj).l
 lia
theorem MV (hA:PA A) (hB:PB (lb::Br)) (ht:PT t) (nd:¬ ∃ u,lb::Br=[u]/\j7 t u):G8 (aR (aR (av A (lb::Br))++[t])) (lb::Br) .non:=by
 have dn:=x6 hA hB ht
 refine .inr ⟨lb,Br,rfl,dn.ok,.inr ⟨MR dn hA.l.e ht.e ht.z ?_ λ⟨e,dv⟩=>nd ⟨lb,by rw [e],dv⟩,rfl⟩⟩
 rw [cU,qf,qf,cU]
theorem Hy (ht:PT t) (hu:u.1.length<=6/\∀ x∈u.1,0<=x/\x<=3) (dv:j7 t u):(qT t u).1.length<=6/\∀ x∈(qT t u).1,0<=x/\x<=4:=by
 have len:(t6 t u).length<=6:=by unfold t6; rw [Pc,R7]; have:=ht.e.1; have:=hu.1; omega
 refine ⟨Pj (dz _) len,λx hx=>?_⟩
 have hx:x∈t6 t u:=mD hx
 have h0:=(Du t u).mpr dv.2 x hx
 unfold t6 at hx
 obtain ⟨k,_,rfl⟩:=Pz.mp hx
 have a1:=mK 'd' ht.e.2 k
 have a2:=mK 'd' hu.2 k
 lia
theorem MW (hu:u.2≠0) (dv:j7 t u):mp [qT t u] * mp [u]=mp [t]:=by
 show mp [dG (qT t u) u]=mp [t]
 refine KJ (dB λk=>?_) ?_
 ·show aN (bX (trim (t6 t u)) u.1) k=_
  rw [bF,bV,Dt]; lia
 ·exact Int.fdiv_mul_cancel dv.1
theorem MX (hA:PA A) (hB:PB [u]) (ht:PT t) (dv:j7 t u):G8 (aR (aR (av A [u])++[t])) [u] (.lst ((aR (A++[qT t u])).map af)):=by
 have dn:=x6 hA hB ht
 have hu:=hB.l.e u Pd
 have e4:Ex 4 (A++[qT t u]):=hA.l.e.app λv hv=>by
  cases Pk.mp hv
  exact Hy ht hu dv
 refine .inr ⟨u,[],rfl,dn.ok,.inl ⟨_,dn.xa (gE e4 'd') e4.jj ?_,⟨Pj (i9 _) ?_,λv hv=>Pj (e4.jj v hv).1 'd'⟩,rfl⟩⟩
 ·have h:=MW (hB.n.z u Pd) dv
  rw [cU,qf,cU,iE,iE,cU,qf,<- h]
  grind
 ·rw [PY,RD]
  have:A.length<=14:=hA.l.l
  lia
section
variable {K:O7}
noncomputable def x8:Fn:=λds r=>∃ A:List aG,A.length<=20000/\ds=[.lst (A.map af)]/\r=.ok (.ow ((A.map eF).map af))
theorem KL {A:List aG} (h:A.length<=20000):x8 [.lst (A.map af)] (.ok (.ow ((A.map eF).map af))):=⟨A,h,rfl,rfl⟩
theorem GC (Fu:d9 K "_law_turned_about" "_law_turned_about" (top 51) f fd):bw P w K mg base (cN P w) 1 f fd ["_law_some"] (eE K x8):=by
 refine cP Fu jc (by rintro ds r ⟨A,_,rfl,_⟩; rfl) (by rintro ds r ⟨A,_,_,rfl⟩; exact ⟨_,rfl⟩) λc hq ds sl hF=>?_
 obtain ⟨A,hl,rfl,e⟩:=hF
 injection e with e
 subst e
 show aU c _ [.va (.lst (A.map af))] _ _
 conv in (ay _)=>whnf
 refine aJ (jR (dX hq (N':=["_law_powers","_law_number"]) (Y0:=λ_=>[.un,.un]) (λt=>.un (.un .nil)) (dh ?_)))
 rw?
 ·exact mY (by rw [Pc]; lia)
 refine ⟨A.map λt=>some (af (eF t)),by simp,?_,?_⟩
 ·intro c' hc t i d o hd ho
  obtain ⟨x,hx,rfl,rfl⟩:=je hd ho
  show nh c' _ (.tup [.tup (x.1.map .int),.int x.2]) _ _
  rw?
  refine ⟨.un (.un .nil),?_⟩
  simp only [kr]
  refine ⟨λ_=>?_,λh=>by cases h⟩
  rw?
  show some (af (eF x))=some (D.tup [.tup (x.1.map .int),.int (0 - x.2)])
  rw [Int.zero_sub]; rfl
 ·rw [show (A.map λt=>some (af (eF t))).filterMap id=(A.map eF).map af by rw [PZ]; exact dD (λt=>af (eF t)) A]
theorem mW (xs:List α) (a b h:Nat) (e:b=a+h):(EV.cutD xs (some (a:Int)) (some (b:Int))).length<=h:=by
 have:=Dm xs a b
 lia
abbrev OP (ns:List Int) (ch h:Int) (A:List aG) (Y':List Sl):Prop:=∃ (B:List aG) (r:Sl),PB B/\(r=.va (.lst (B.map af))\/r.iT=some (.lst (B.map af)))/\Y'=[.va (.lst (ns.map D.int)),.va (.int ch),.va (.int h),.va (.lst (A.map af)),r,.un,.un,.un,.un]
section
local macro_rules | `(tactic| walk_at "evCa")=> `(tactic| first
 | with_reducible refine aX (F:=tS) 'm' 'd' ?_
 | with_reducible refine aX (F:=xW) 'm' 'd' ?_
 | with_reducible refine aX (F:=xX) 'm' 'd' ?_
 | with_reducible refine aX (F:=qA) 'm' 'd' ?_
 | with_reducible refine aX (F:=CW) 'm' 'd' ?_
 | with_reducible refine aX (F:=xD) 'm' 'd' ?_
 | with_reducible refine aX (F:=x8) 'm' 'd' ?_
 | with_reducible refine aX (F:=zP) 'm' 'd' ?_
 | ((with_reducible show aB _ (Qk (Pw "min" _) [_,_] _ _) _ _); with_reducible refine Jv (Txt.min 'm') ?_))
local macro_rules | `(tactic| walk_at "evXC")=> `(tactic| first
 | with_reducible refine x_call (F:=CW) 'm' 'd' ?_
 | with_reducible refine x_call (F:=j5) 'm' 'd' ?_
 | with_reducible refine x_call (F:=zP) 'm' 'd' ?_)
local macro_rules | `(tactic| walk_at "evR")=> `(tactic| first
 | with_reducible refine aO (Gp _) ?_)
local macro_rules | `(tactic| walk_at "hh")=> `(tactic| (intro c3 hc3 t k d o hd ho; obtain ⟨x,hx,e1,e2⟩:=je hd ho; subst e1 e2; refine fj 'a' (j0 's' ⟨.un .nil,?_⟩); simp only [kr]; refine ⟨λ_=>?_,λh=>by cases h⟩; rw?; exact ⟨by decide,by decide,by decide⟩; refine aO (Dq ⟨by decide,by decide +kernel⟩ x) (v7 ?_); rfl))
theorem KN (Fu:d9 K "law" "law" (top 52) f fd) (T:Txt K mg) (h1:fk P w K mg base 1 "_law_cell" tS) (h2:fk P w K mg base 2 "_law_term" xW) (h3:fk P w K mg base 2 "_law_sum" j5) (h4:fk P w K mg base 4 "poly_times" CW) (h5:fk P w K mg base 3 "_law_product" qA)
 (h6:fk P w K mg base 5 "_law_good" xX) (h7:fk P w K mg base 2 "_law_quotient" zP) (h8:fk P w K mg base 3 "poly_sum" xD) (h9:fk P w K mg base 1 "_law_turned_about" x8):bw P w K mg base (cN P w) 6 f fd ["_law_script"] (eE K Bu):=by
 refine cP Fu JZ (by rintro ds r ⟨ns,_,rfl,_⟩; rfl) (by rintro ds r ⟨ns,_,_,rfl⟩; exact ⟨_,rfl⟩) λc hq ds sl hF=>?_
 obtain ⟨ns,hl,rfl,e⟩:=hF
 injection e with e
 subst e
 show aU c _ [.va (.lst (ns.map D.int)),.un,.un,.un,.un,.un,.un,.un,.un] _ _
 conv in (ay _)=>whnf
 simp?
 ac_nf
 generalize oU ns 0=ch
 simp?
 obtain ⟨h,hh,eh⟩:∃ h:Nat,h<=7/\(if ((EV.cutD (ns.map D.int) (some 2) none).length:Int) / 3<7 then ((EV.cutD (ns.map D.int) (some 2) none).length:Int) / 3 else 7)=(h:Int):=by
  generalize (EV.cutD (ns.map D.int) (some 2) none).length=n
  refine ⟨min (n / 3) 7,by lia,?_⟩
  split <;> lia
 rw [eh]
 clear eh
 ac_nf
 have cells:∀ (m:Int) (l:List Int),(l.map λn=>some (af (bJ m n))).filterMap id=(l.map (bJ m)).map af:=λm l=>by
  rw [PZ]; exact dD (λn=>af (bJ m n)) l
 have cells64:∀ (m:Int) (l:List Int),∀ t∈l.map (bJ m),t.1.length<=64:=λm l t ht=>by
  obtain ⟨n,_,rfl⟩:=Pz.mp ht
  exact Pj (dP m n) 'd'
 refine aJ (iO 'a' (x_call (F:=j5) h3 'd' (c6 (e_x (dX hq (N':=["_law_some"]) (Y0:=λ_=>[.un]) (λt=>.un .nil) (dh ?_))))))
 generalize hG:(λY'=>aU c _ Y' _ _)=G
 rw?
 ·exact jV 'd'
 ·have hc:(EV.cutD ns (some (2:Int)) (some (2+2 * (h:Int)))).length<=2 * h:=mW ns 2 (2+2 * h) (2 * h) rfl
  rw [show EV.cutD (ns.map D.int) (some 2) (some (2+2 * (h:Int)))=_ from gn _ _ _ _,Pc]
  exact mY 'l'
 rw [show EV.cutD (ns.map D.int) (some 2) (some (2+2 * (h:Int)))=_ from gn _ _ _ _]
 have hl1:(EV.cutD ns (some (2:Int)) (some (2+2 * (h:Int)))).length<=14:=Pj (mW ns 2 (2+2 * h) (2 * h) rfl) 'l'
 generalize EV.cutD ns (some (2:Int)) (some (2+2 * (h:Int)))=l1 at hl1 |-
 refine ⟨l1.map λn=>some (af (bJ 4 n)),by simp,?_,?_⟩
 ·walk_at "hh"
 rw [cells]
 rw?
 refine aO (iG (by rw [Pc]; lia) (cells64 4 l1)) ?_
 rw?
 ac_nf
 have hA:=Dy hl1
 show aU c _ [_,_,_,.ow ((aR (l1.map (bJ 4))).map af),_,_,_,_,_] _ _
 generalize aR (l1.map (bJ 4))=A at hA |-
 refine cB 3 'a' rfl 's' ?_
 refine aJ (iO 'a' (x_call (F:=j5) h3 'd' (c6 (e_x (dX hq (N':=["_law_some"]) (Y0:=λ_=>[.un]) (λt=>.un .nil) (dh ?_))))))
 generalize hG:(λY'=>aU c _ Y' _ _)=G
 have hcm:EV.cutD (ns.map D.int) (some (2+2 * (h:Int))) (some (2+3 * (h:Int)))=(EV.cutD ns (some (2+2 * (h:Int))) (some (2+3 * (h:Int)))).map D.int:=gn _ _ _ _
 have hcl:(EV.cutD ns (some (2+2 * (h:Int))) (some (2+3 * (h:Int)))).length<=7:=Pj (mW ns (2+2 * h) (2+3 * h) h 'l') hh
 rw?
 ·exact jV 'd'
 ·exact jV 'd'
 ·rw [hcm,Pc]
  exact mY (by show _+1<=_; lia)
 ·rw [hcm,PY,Pc]
  exact mY (by show _+1<=_; lia)
 have hl2:(EV.cutD ns (some (2+2 * (h:Int))) (some (2+3 * (h:Int)))++[9]).length<=8:=by rw [PY,RD]; lia
 rw [hcm,show (EV.cutD ns (some (2+2 * (h:Int))) (some (2+3 * (h:Int)))).map D.int++[D.int 9]=(EV.cutD ns (some (2+2 * (h:Int))) (some (2+3 * (h:Int)))++[9]).map D.int by rw [Qh]; rfl]
 clear hcm hcl
 generalize EV.cutD ns (some (2+2 * (h:Int))) (some (2+3 * (h:Int)))++[9]=l2 at hl2 |-
 refine ⟨l2.map λn=>some (af (bJ 3 n)),by simp,?_,?_⟩
 ·walk_at "hh"
 rw [cells]
 rw?
 refine aO (iG (by rw [Pc]; lia) (cells64 3 l2)) ?_
 rw?
 ac_nf
 have hB:=Dz hl2
 show aU c _ [_,_,_,_,.ow ((aR (l2.map (bJ 3))).map af),_,_,_,_] _ _
 generalize aR (l2.map (bJ 3))=B at hB |-
 refine cB 4 'a' rfl 's' ?_
 refine aJ (wA (OP ns ch h A) ?_ ?_)
 ·rw?
  ·refine ⟨B.take 1,_,hB.tk,.inr ?_,rfl⟩
   show some (D.lst (EV.cutD (B.map af) none (some 1)))=_
   rw [show EV.cutD (B.map af) none (some 1)=_ from Dp _ 1,List.map_take]
  ·exact ⟨B,_,hB,.inl rfl,rfl⟩
 clear hB B hl2 l2 hl1 l1 cells cells64
 rintro Y' ⟨B,r,hB,hr,rfl⟩
 refine xA 4 'a' hr 's' ?_
 refine aJ (wA (OP ns ch h A) ?_ ?_)
 ·rw?
  ·exact ⟨[],_,vt,.inr rfl,rfl⟩
  ·exact ⟨B,_,hB,.inl rfl,rfl⟩
 clear hr r hB B
 rintro Y' ⟨B,r,hB,hr,rfl⟩
 refine xA 4 'a' hr 's' ?_
 clear hr r
 have tm:=hA.l.O4 hB.l
 simp?
 refine aO (MH tm) ?_
 rw?
 ac_nf
 refine cB 5 'a' rfl 's' ?_
 simp?
 refine aO (F8 tm) ?_
 rw?
 refine jn _ ?_
 rw?
 refine aO (jL (Gy hA hB)) ?_
 rw?
 ac_nf
 simp?
 refine aO (jL (O:=[]) (KH hB)) ?_
 rw?
 ac_nf
 have hns:ns.map D.int++[.int 8,.int 8]=(ns++[8,8]).map D.int:=by rw [Qh]; rfl
 have hn2:2<=(ns++[8,8]).length:=by rw [PY]; show 2<=ns.length+2; lia
 have at1:j9 ((ns++[8,8]).map D.int) 1=some (.int ((ns++[8,8]).getD 1 0)):=Dl (k:=1) 'l'
 have hnl:(ns.map D.int).length+[D.int 8,D.int 8].length<=sizeLine:=mY (by rw [Pc]; show ns.length+2<=1000000; lia)
 generalize ns++[8,8]=ms at hns hn2 at1
 simp?
 rw [hns]
 refine nP at1 ?_
 rw?
 ·exact ⟨by decide,by decide,by decide⟩
 refine aO (Dq ⟨by decide,by decide +kernel⟩ _) (v7 ?_)
 rw?
 generalize ms.getD 1 0=cn
 refine aO (iG (ts:=[bJ 3 cn]) (show 1<=400000 by decide) λt ht=>?_) ?_
 ·cases Pk.mp ht
  exact Pj (dP 3 cn) 'd'
 rw?
 ac_nf
 show aU c _ [_,_,_,_,_,_,.ow ((aR [bJ 3 cn]).map af),_,_] _ _
 have hT:=GB cn
 generalize aR [bJ 3 cn]=Tp at hT |-
 refine cB 6 'a' rfl 's' ?_
 refine aJ (wA (λY'=>∃ r7 r8:Sl,Y'=[.va (.lst (ns.map D.int)),.va (.int ch),.va (.int (h:Int)),.va (.lst (A.map af)),.va (.lst (B.map af)),.va (.lst ((aR (av A B)).map af)),.va (.lst (Tp.map af)),r7,r8]) ?_ ?_)
 rotate_left
 ·rintro Y' ⟨r7,r8,rfl⟩
  simp?
  refine aO (jL (KI hA)) ?_
  rw?
  refine aO (KL hA.l.same.1) ?_
  rw?
  refine aO (jL (GA hA)) ?_
  rw?
  rfl
 rcases hT with rfl | ⟨t,ht,rfl⟩
 ·rw?
  refine jn [] ?_
  rw?
  exact ⟨_,_,rfl⟩
 cases B with
 | nil =>
  rw?
  refine fP (Sd.mk (dO [t] []) ?_)
  show g6 _ _ _
  rw?
  ·exact ⟨_,_,rfl⟩
  refine jn [] ?_
  rw?
  exact ⟨_,_,rfl⟩
 | cons lb Br =>
  have two1:∀ v:aG,v.1.length<=6->A.length+[v].length<=400000/\∀ t∈A++[v],t.1.length<=64:=λv hv=>⟨by have:=hA.l.l; show A.length+1<=_; lia,λt ht=>(PF.mp ht).elim (hA.l.same.2 t) λq=>by cases Pk.mp q; exact Pj hv 'd'⟩
  have two2:(aR (av A (lb::Br))).length+[t].length<=400000/\∀ u∈aR (av A (lb::Br))++[t],u.1.length<=64:=by
   have p:=(hA.l.prod hB.l).jj
   have hp:(aR (av A (lb::Br))).length<=14 * 8:=p.l
   exact ⟨by show _+1<=_; lia,λu hu=>(PF.mp hu).elim (λq=>Pj (p.e u q).1 'd') λq=>by cases Pk.mp q; exact Pj ht.e.1 'd'⟩
  have hBq:∀ u∈lb::Br,u.1.length<=6/\u.2≠0/\u.2.natAbs<2 ^ 63:=λu hu=>⟨(hB.l.e u hu).1,hB.n.z u hu,P9 (hB.l.b u hu) (Ul 'd' 'd')⟩
  have hBl:(lb::Br).length<=1000:=Pj hB.l.l 'd'
  rw?
  refine fP (Sd.mk (dO [t] []) ?_)
  show g6 _ _ _
  rw?
  ·exact ⟨_,_,rfl⟩
  refine fP (Sd.mk (dO (lb::Br) []) ?_)
  show g6 _ _ _
  rw?
  ·exact ⟨_,_,rfl⟩
  by_cases hd:∃ u,lb::Br=[u]/\j7 t u
  ·obtain ⟨u,eu,dv⟩:=hd
   obtain ⟨rfl,rfl⟩:lb=u/\Br=[]:=by simpa using eu
   refine aO (show zP [af t,.lst ([lb].map af)] _ from ⟨t,[lb],ht.e.1,hBq,hBl,rfl,.inl ⟨lb,rfl,dv,rfl⟩⟩) (j0 's' ?_)
   refine cB 7 'a' rfl 's' ?_
   simp?
   ac_nf
   simp?
   refine vX (λh=>by cases h) ?_
   have hq6:(qT t lb).1.length<=6:=(Hy ht (hB.l.e lb Pd) dv).1
   rw?
   ·rw [Pc]
    exact mY (by have:=hA.l.l; show _+1<=_; lia)
   refine aO (show j5 [.lst (A.map af++[af (qT t lb)])] _ by
    have:=iG (ts:=A++[qT t lb]) (by rw [PY]; exact (two1 _ hq6).1) (two1 _ hq6).2
    rw [Qh] at this
    exact this) ?_
   rw?
   ac_nf
   show aU c _ [_,_,_,_,_,_,_,_,.ow ((aR (A++[qT t lb])).map af)] _ _
   refine cB 8 'a' rfl 's' ?_
   simp?
   refine aO (CK two2.1 two2.2) ?_
   rw?
   refine aO (jL (MX hA hB ht dv)) ?_
   rw?
   ac_nf
   exact dF ⟨_,_,rfl⟩
  ·refine aO (show zP [af t,.lst ((lb::Br).map af)] _ from ⟨t,lb::Br,ht.e.1,hBq,hBl,rfl,.inr ⟨hd,rfl⟩⟩) (j0 's' ?_)
   simp?
   ac_nf
   simp?
   ac_nf
   simp?
   refine aO (CK two2.1 two2.2) ?_
   rw?
   refine aO (jL (MV hA hB ht hd)) ?_
   rw?
   ac_nf
   exact dF ⟨_,_,rfl⟩
end
end
section
variable {K:O7}
theorem KO (e:(Px C == Px E)=false) (c:Rm K E=some cd) (t:Tw K (.ref E)=some (.type "type")) (s:Rl K (.ref C) (.ref E)=some false):Qq K (.ref C) (.ref E)=some false:=by
 unfold Qq PySem.W.kitCls
 simp [e,c,t,s]
theorem GD (b:Rl K (.ref E) (.type "BaseException")=some true) (c:Rm K E=some cd) (t:Tw K (.ref E)=some (.type "type")) (s:Rl K (.ref C) (.ref E)=some true):Tz K (.ref C) (.ref E)=some true:=by
 unfold Tz PySem.W.kitCls
 simp [b,c,t,s]
def Oc (K:O7) (C:Addr) (x:Str):Prop:=∃ (c:Addr) (d:ClassData),P5 K mainGlobals x=some (some (.ref c))/\Rm K c=some d/\Tw K (.ref c)=some (.type "type")/\Rl K (.ref C) (.ref c)=some false/\(Px C == Px c)=false
theorem MY (a:P5 K mainGlobals x=some (some (.ref c))) (e:Rm K c=some d) (t:Tw K (.ref c)=some (.type "type")) (s:Rl K (.ref C) (.ref c)=some false) (n:(Px C == Px c)=false):Oc K C x:=⟨c,d,a,e,t,s,n⟩
theorem KP (KX:K.In h) (G:h.Ns mainGlobals mg)
 (aC:P5 K mainGlobals "NoBottom"=some (some (.ref C)))
 (aE:P5 K mainGlobals "DrawError"=some (some (.ref E)))
 (xC:SY K C yw "ValueError.__new__"=true)
 (bE:Rl K (.ref E) (.type "BaseException")=some true)
 (dE:Rm K E=some dd0)
 (tE:Tw K (.ref E)=some (.type "type"))
 (sE:Rl K (.ref C) (.ref E)=some true)
 (zIs:P5 K mainGlobals "isinstance"=some none)
 (zVerr:P5 K mainGlobals "ValueError"=some none)
 (sCV:Rl K (.ref C) (.type "ValueError")=some true)
 (ga:Q6 K (.ref C) "__getattribute__"=some (some (.builtin "BaseException.__getattribute__")))
 (hk:Q6 K (.ref C) "__getattr__"=some none)
 (ca:Q6 K (.ref C) "__class__"=some (some (.builtin "object.__class__")))
 (gt:Ur K (.builtin "object.__class__") "__get__"=some (some (.builtin "getset_descriptor.__get__")))
 (tk:PySem.W.takesIn K (.builtin "object.__class__")=some true)
 (mo:SX K C (.type "object")=some true)
 (mb:SX K C (.type "BaseException")=some true)
 (oc:∀ x∈others,Oc K C x):∃ C E,Dr K mg C E :=
 ⟨C,E,Qm KX G zIs,Qm KX G zVerr,Bt rfl 'd' sCV,⟨ga,hk,ca,gt,tk,mo,mb⟩,TJ KX G aC,iV 'p',xC,TJ KX G aE,GD bE dE tE sE,λx hx=>by
   obtain ⟨c,d,a,e,t,s,n⟩:=oc x hx
   exact ⟨_,TJ KX G a,KO n e t s⟩⟩
theorem GF (zW:mg "law"=some (.ref fa)) (T:Txt K mg) (xY:∃ C E,Dr K mg C E) (xPLACES:∃ tk:Tok,mg "PLACES"=some (.int 6 tk))
 (D20:aD K mg "trimmed" (top 20))
 (D21:aD K mg "power_at" (top 21))
 (D22:aD K mg "poly_of" (top 22))
 (D23:aD K mg "poly_sum" (top 23))
 (D24:aD K mg "greatest_powers" (top 24))
 (D25:aD K mg "width_for" (top 25))
 (D26:aD K mg "key_of" (top 26))
 (D27:aD K mg "powers_of" (top 27))
 (D28:aD K mg "packed" (top 28))
 (D29:aD K mg "unpacked" (top 29))
 (D30:aD K mg "add_products" (top 30))
 (D31:aD K mg "poly_times" (top 31))
 (D32:aD K mg "room_for" (top 32))
 (D33:aD K mg "term_by" (top 33))
 (D34:aD K mg "place_among" (top 34))
 (D35:aD K mg "take_away" (top 35))
 (D36:aD K mg "divided_by" (top 36))
 (D38:aD K mg "_law_whole" (top 38))
 (D39:aD K mg "_law_flags" (top 39))
 (D40:aD K mg "_law_only" (top 40))
 (D41:aD K mg "_law_cell" (top 41))
 (D42:aD K mg "_law_thing" (top 42))
 (D43:aD K mg "_law_term" (top 43))
 (D44:aD K mg "_law_trimmed" (top 44))
 (D45:aD K mg "_law_sum" (top 45))
 (D46:aD K mg "_law_product" (top 46))
 (D47:aD K mg "_law_same" (top 47))
 (D48:aD K mg "_law_asked" (top 48))
 (D49:aD K mg "_law_quotient" (top 49))
 (D50:aD K mg "_law_good" (top 50))
 (D51:aD K mg "_law_turned_about" (top 51))
 (D52:aD K mg "law" (top 52))
 : ∃ fd:FuncData,(∀ (s:Shared) (u:Value),BindsTo s fd ⟨[u],[]⟩ [("_law_script",u)])/\∀ base:Heap,K.In base->base.Ns mainGlobals mg->bw P w K mg base (cN P w) 20 fa fd ["_law_script"] (eE K Bu):=by
 refine Qt λhG=>?_
 obtain ⟨C,E,Yzz⟩:=xY
 obtain ⟨f52,fd52,m52,Fu52⟩:=D52
 have e:=zW.symm.trans m52
 cases e
 refine hG ⟨fd52,?_,λbase _ _=>?_⟩
 ·obtain ⟨oc,od,kV,doc,pm,an,cdv,ct,osl,rfl,lk,hcd⟩:=Fu52.ex
  exact λs u=>.of_eq rfl
 have C20:=br P w base D20 λu=>FT u T
 have C21:=br P w base D21 λu=>MI u T
 have C22:=br P w base D22 λu=>FY u T C20
 have C23:=br P w base D23 λu=>F0 u T C22
 have C24:=br P w base D24 λu=>CU u T xPLACES
 have C25:=br P w base D25 λu=>J0 u T C24
 have C26:=br P w base D26 λu=>J3 u T xPLACES
 have C27:=br P w base D27 λu=>F5 u T xPLACES C20
 have C28:=br P w base D28 λu=>F6 u T C26
 have C29:=br P w base D29 λu=>Kc u T C27
 have C30:=Fz P w base D30 λu=>Ka u T
 have C31:=br P w base D31 λu=>Ke u T C25 C28 C30 C29
 have C32:=br P w base D32 λu=>Gg u T C24
 have C33:=br P w base D33 λu=>ML u T xPLACES C21 C20
 have C34:=br P w base D34 λu=>Kn u T
 have C35:=CD P w base D35 λu=>Gk u T C34
 have C36:=br P w base D36 λu=>Kq u T Yzz.self Yzz.xc C25 C32 C28 C27 C33 C26 C35
 have C38:=br P w base D38 λu=>CJ u T
 have C39:=br P w base D39 λu=>Ds u Yzz
 have C40:=br P w base D40 λu=>Gv u Yzz C39
 have C41:=br P w base D41 λu=>Gq u T
 have C42:=br P w base D42 λu=>CI u T
 have C43:=br P w base D43 λu=>Gr u T C42
 have C44:=br P w base D44 λu=>CQ u T
 have C44b:=br P w base D44 λu=>zI u T
 have C45:=br P w base D45 λu=>FZ u T C44
 have C46:=br P w base D46 λu=>CY u T C45
 have C47:=br P w base D47 λu=>F2 u T C38
 have C48:=br P w base D48 λu=>KD u Yzz.e Yzz.em C36
 have C49:=br P w base D49 λu=>KG u T C44b
 have C50:=br P w base D50 λu=>Gx u T C48 C40 C47 C36
 have C51:=br P w base D51 λu=>GC u
 exact (KN Fu52 T C41 C43 C45 C31 C46 C50 C49 C23 C51).mono 'd'
end
end My
open PySem PySem.W PyProof.Rows
local macro_rules | `(tactic| walk_at "dm")=> `(tactic| (dsimp only [L2.f6]; refine' EV.Jb 'm' 'm' ?a ?l ?c ?k; (case a=>k_is); (case l=>k_is); (case c=>k_is); (case k=>k_is)))
local macro_rules | `(tactic| walk_at "oc")=> `(tactic| (refine' My.MY ?a ?d ?t ?s ?n; (case a=>k_is); (case d=>k_is); (case t=>k_is); (case s=>k_is); (case n=>rfl)))
set_option maxRecDepth 100000 in
set_option maxHeartbeats 0 in
theorem PySem.Challenge.cw_everydraw_k08_polynomials_divided_holds : PySem.Challenge.rw_everydraw_k08_polynomials_divided.Holds := by
 w_on; o_law; k_head; (case hw=>w_witness2)
 k_fill
 refine EV.walk (k:=20) (l:=PySem.Challenge.rw_everydraw_k08_polynomials_divided) 'd' rfl rfl (λw h Yzz=>PySem.W.kIn_of Yzz) ?F
 case F =>
  intro w mg fa h KX G hmg
  have D20:EV.aD (L2.f6 KX) mg (Str.ofString "trimmed") (My.top 20):=by walk_at "dm"
  have D21:EV.aD (L2.f6 KX) mg (Str.ofString "power_at") (My.top 21):=by walk_at "dm"
  have D22:EV.aD (L2.f6 KX) mg (Str.ofString "poly_of") (My.top 22):=by walk_at "dm"
  have D23:EV.aD (L2.f6 KX) mg (Str.ofString "poly_sum") (My.top 23):=by walk_at "dm"
  have D24:EV.aD (L2.f6 KX) mg (Str.ofString "greatest_powers") (My.top 24):=by walk_at "dm"
  have D25:EV.aD (L2.f6 KX) mg (Str.ofString "width_for") (My.top 25):=by walk_at "dm"
  have D26:EV.aD (L2.f6 KX) mg (Str.ofString "key_of") (My.top 26):=by walk_at "dm"
  have D27:EV.aD (L2.f6 KX) mg (Str.ofString "powers_of") (My.top 27):=by walk_at "dm"
  have D28:EV.aD (L2.f6 KX) mg (Str.ofString "packed") (My.top 28):=by walk_at "dm"
  have D29:EV.aD (L2.f6 KX) mg (Str.ofString "unpacked") (My.top 29):=by walk_at "dm"
  have D30:EV.aD (L2.f6 KX) mg (Str.ofString "add_products") (My.top 30):=by walk_at "dm"
  have D31:EV.aD (L2.f6 KX) mg (Str.ofString "poly_times") (My.top 31):=by walk_at "dm"
  have D32:EV.aD (L2.f6 KX) mg (Str.ofString "room_for") (My.top 32):=by walk_at "dm"
  have D33:EV.aD (L2.f6 KX) mg (Str.ofString "term_by") (My.top 33):=by walk_at "dm"
  have D34:EV.aD (L2.f6 KX) mg (Str.ofString "place_among") (My.top 34):=by walk_at "dm"
  have D35:EV.aD (L2.f6 KX) mg (Str.ofString "take_away") (My.top 35):=by walk_at "dm"
  have D36:EV.aD (L2.f6 KX) mg (Str.ofString "divided_by") (My.top 36):=by walk_at "dm"
  have D38:EV.aD (L2.f6 KX) mg (Str.ofString "_law_whole") (My.top 38):=by walk_at "dm"
  have D39:EV.aD (L2.f6 KX) mg (Str.ofString "_law_flags") (My.top 39):=by walk_at "dm"
  have D40:EV.aD (L2.f6 KX) mg (Str.ofString "_law_only") (My.top 40):=by walk_at "dm"
  have D41:EV.aD (L2.f6 KX) mg (Str.ofString "_law_cell") (My.top 41):=by walk_at "dm"
  have D42:EV.aD (L2.f6 KX) mg (Str.ofString "_law_thing") (My.top 42):=by walk_at "dm"
  have D43:EV.aD (L2.f6 KX) mg (Str.ofString "_law_term") (My.top 43):=by walk_at "dm"
  have D44:EV.aD (L2.f6 KX) mg (Str.ofString "_law_trimmed") (My.top 44):=by walk_at "dm"
  have D45:EV.aD (L2.f6 KX) mg (Str.ofString "_law_sum") (My.top 45):=by walk_at "dm"
  have D46:EV.aD (L2.f6 KX) mg (Str.ofString "_law_product") (My.top 46):=by walk_at "dm"
  have D47:EV.aD (L2.f6 KX) mg (Str.ofString "_law_same") (My.top 47):=by walk_at "dm"
  have D48:EV.aD (L2.f6 KX) mg (Str.ofString "_law_asked") (My.top 48):=by walk_at "dm"
  have D49:EV.aD (L2.f6 KX) mg (Str.ofString "_law_quotient") (My.top 49):=by walk_at "dm"
  have D50:EV.aD (L2.f6 KX) mg (Str.ofString "_law_good") (My.top 50):=by walk_at "dm"
  have D51:EV.aD (L2.f6 KX) mg (Str.ofString "_law_turned_about") (My.top 51):=by walk_at "dm"
  have D52:EV.aD (L2.f6 KX) mg (Str.ofString "law") (My.top 52):=by walk_at "dm"
  have T:EV.Txt (L2.f6 KX) mg:=by
   dsimp only [L2.f6]
   refine' EV.Jh KX G ?z1 ?z2 ?z3 ?z4 ?z5 ?z6 ?z7 ?z8 ?z9 ?z10 ?z11 ?z12 ?z13 ?z14 ?z15 ?z16 ?z17 ?sib
   (case z1=>k_is)
   (case z2=>k_is)
   (case z3=>k_is)
   (case z4=>k_is)
   (case z5=>k_is)
   (case z6=>k_is)
   (case z7=>k_is)
   (case z8=>k_is)
   (case z9=>k_is)
   (case z10=>k_is)
   (case z11=>k_is)
   (case z12=>k_is)
   (case z13=>k_is)
   (case z14=>k_is)
   (case z15=>k_is)
   (case z16=>k_is)
   (case z17=>k_is)
   (case sib=>k_is)
  have xY:∃ C E,My.Dr (L2.f6 KX) mg C E:=by
   dsimp only [L2.f6]
   refine' My.KP KX G ?aC ?aE ?xC ?bE ?dE ?tE ?sE ?zIs ?zVerr ?sCV ?ga ?hk ?ca ?gt ?tk ?mo ?mb ?oc
   (case aC=>k_is)
   (case aE=>k_is)
   (case xC=>k_exc)
   (case bE=>k_is)
   (case dE=>k_is)
   (case tE=>k_is)
   (case sE=>k_is)
   (case zIs=>k_is)
   (case zVerr=>k_is)
   (case sCV=>k_is)
   (case ga=>k_is)
   (case hk=>k_is)
   (case ca=>k_is)
   (case gt=>k_is)
   (case tk=>k_is)
   (case mo=>k_is)
   (case mb=>k_is)
   (case oc=>intro x hx; simp only [My.others,List.map_cons,List.map_nil,List.mem_cons,List.not_mem_nil,or_false] at hx; rcases hx with rfl | rfl | rfl | rfl | rfl | rfl | rfl | rfl | rfl | rfl | rfl | rfl | rfl | rfl | rfl <;> walk_at "oc")
  have xPLACES:∃ tk:Tok,mg (Str.ofString "PLACES")=some (.int 6 tk):=by
   refine' EV.int_mk KX G ?a
   (case a=>k_is)
  exact My.GF hmg T xY xPLACES D20 D21 D22 D23 D24 D25 D26 D27 D28 D29 D30 D31 D32 D33 D34 D35 D36 D38 D39 D40 D41 D42 D43 D44 D45 D46 D47 D48 D49 D50 D51 D52
