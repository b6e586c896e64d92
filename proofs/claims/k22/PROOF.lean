import PyProof.Rows.All
import Wide.All
import OpenK.AllK
import Wide.FinOn
import PySem.Challenge.RW_everydraw_k22_whole_circles_hold
namespace EV
theorem z2 {α β} {P:α->β->Prop} {G:Prop} (h:∃ a b,P a b) (k:∀ a b,P a b->G):G:=h.elim λa h=>h.elim (k a)
theorem z3 {α β γ} {P:α->β-> γ ->Prop} {G:Prop} (h:∃ a b c,P a b c) (k:∀ a b c,P a b c->G):G:=h.elim λa h=>z2 h (k a)
theorem z4 {α β γ δ} {P:α->β-> γ -> δ ->Prop} {G:Prop} (h:∃ a b c d,P a b c d) (k:∀ a b c d,P a b c d->G):G:=h.elim λa h=>z3 h (k a)
theorem z5 {α β γ δ ε} {P:α->β-> γ -> δ -> ε ->Prop} {G:Prop} (h:∃ a b c d e,P a b c d e) (k:∀ a b c d e,P a b c d e->G):G:=h.elim λa h=>z4 h (k a)
theorem w2 {a b G:Prop} (h:a/\b) (k:a->b->G):G:=k h.1 h.2
theorem w3 {a b c G:Prop} (h:a/\b/\c) (k:a->b->c->G):G:=w2 h.2 (k h.1)
theorem w4 {a b c d G:Prop} (h:a/\b/\c/\d) (k:a->b->c->d->G):G:=w3 h.2 (k h.1)
theorem w5 {a b c d e G:Prop} (h:a/\b/\c/\d/\e) (k:a->b->c->d->e->G):G:=w4 h.2 (k h.1)
theorem w6 {a b c d e f G:Prop} (h:a/\b/\c/\d/\e/\f) (k:a->b->c->d->e->f->G):G:=w5 h.2 (k h.1)
theorem w7 {a b c d e f g G:Prop} (h:a/\b/\c/\d/\e/\f/\g) (k:a->b->c->d->e->f->g->G):G:=w6 h.2 (k h.1)
theorem w8 {a b c d e f g i G:Prop} (h:a/\b/\c/\d/\e/\f/\g/\i) (k:a->b->c->d->e->f->g->i->G):G:=w7 h.2 (k h.1)
end EV
set_option genSizeOf false
set_option Elab.async false
set_option linter.all false
set_option maxRecDepth 100000
open PySem.Str renaming ofString->MY
open PySem renaming wpAny_bind->MZ,wpAny_pure->M3,Spec->NO,wpAny_mono->NQ,wpAny_newObj_type->N5,wpAny_holding->Oi,wpAny_rule->Ol,wpAny_call_entry->OA,wpAny_field->OM,wpAny_Call_Name_kw->OO,Builtin->OS,wpAny_callSpecial?_slot->OZ,wpAny_typeOf->O7,wpAny_setField_rec->Pj,wpAny_passesOwn->Pq,wpAny_dictEntries->P6,wpAny_dictEpoch->P9,wpAny_attempt->Qa,typeIs_int->Qf,call_meets->Qg,mem_of_lookup->Qo,wpAny_setField->Qw,wpAny_newList->Qx,codeAny_mono->QD,wpAny_typeNameOfWhole_itemiter->QI,wpAny_typeNameOfWhole_keyiter->QJ,wpAny_typeNameOf_itemiter->QL,wpAny_typeNameOf_keyiter->QO,tupleKind_room_in1->Q7,wpAny_isInstance->Rh,codeAny_builtin->Rn,wpAny_fieldsOf->Rt,concat_meets->RD,wpAny_letGo->RL,wpAny_isOneOf_itemiter->R4,wpAny_pyIter_tuple->Sj,wpAny_truthy_bool->Sq,wpAny_sequenceKey->Ss,wpAny_pyIter_slot->Su,wpAny_pyIter_list->Sv,slot_list_getitem->Sw,noFill_tuple_add->SG
open PySem.W renaming Frag->M0,nsIn->NZ,mg_none_of->N4,keepIn->OL,fnOf->OV,findIn->O4,codeIn->Rx,callWith_K->Sk,specialIn->Sx,methodObj->Sy
open Nat renaming le_refl->M4,le_trans->Nb,ne_of_lt->NB,zero_le->ND,lt_of_lt_of_le->NU,lt_irrefl->OC,lt_of_le_of_lt->OP,mul_le_mul->O5,zero_add->O8,le_of_lt->O9,le_of_ble_eq_true->Pg,lt_succ_self->Po,min_eq_left->Pr,le_add_right->P8,succ_mul->Qc,ne_of_gt->Qd,le_sub_one_of_lt->Q0,lt_succ_of_lt->Rb,succ_le_succ->Ri,mul_assoc->RA,mul_comm->RH,one_le_iff_ne_zero->R6,pow_le_pow_right->Sa,add_sub_cancel'->Sf
open PyProof.Rows renaming wpS_bind->M5,wpS_pure->M6,wpS_mono->NI,wpS_forRange->N8,listUpdate_at->Ox,wpS_get->Oz,wpS_modify->OI,wpS_lift->Pc,slot_tuple_getitem->PJ,seqEpoch_at->Qe,callWith_type1->Qk,listItems_at->QC,mirror_perm->QF,get?_update_seq->Rm,wpAny_call_entry_kw->Se,callWith_builtin1->SY
open List renaming map_cons->M7,length_map->M8,getElem?_map->Nd,getElem?_eq_some_iff->Nf,mem_cons_self->Ng,replicate->Nh,mem_cons_of_mem->Ni,mem_singleton->Nj,mem_cons->Nm,size_toArray->Nq,getElem?_eq_getElem->Nr,map_map->Nt,append_assoc->Nz,mem_append->NF,length_append->NJ,getElem_mem->NL,length_cons->NN,range->NP,take_length->NW,mem_map->N1,length_take->N2,take_succ_eq_append_getElem->N3,append_nil->N7,getD_eq_getElem?_getD->Oa,map_append->Ob,mem_of_getElem?->Og,getElem?_set_self->Om,mem_append_right->Oo,getElem?_set_ne->Oq,filterMap_cons->Ot,foldl_cons->Ou,find?_cons->OB,take_append_drop->OD,getElem?_eq_none->OE,length_nil->OH,replicate_succ->OJ,map_congr_left->ON,pairwise_map->OQ,not_mem_nil->OR,sum_cons->OU,map_nil->OW,getElem?_append_left->OY,take_of_length_le->O1,nodup_cons->O3,filter_cons_of_pos->Pe,perm_append_comm->Ph,flatten_cons->Pn,cons_append->Pp,sum_append->Pu,length->Py,getElem?_append_right->PN,pairwise_singleton->PV,mem_of_mem_take->PY,getElem?_of_mem->PZ,getElem?_range->P1,pairwise_cons->P4,getElem?_drop->P5,flatMap_cons->P7,foldl->Qi,filter_cons_of_neg->Ql,getElem?_append->Qn,mem_filter->Qt,foldr_cons->Qu,Nodup->QG,getElem?_take_of_lt->QS,length_singleton->QY,mem_append_left->Q5,zip_cons_cons->Q9,take_sublist->Rc,reverse_perm->Rf,ext_getElem?->Rg,mem_flatMap->Rj,length_drop->Rk,ext_getElem->Rl,of_mem_zip->Ro,nil_append->Rp,forIn_cons->Rq,mem_range->Ry,drop_zero->Rz,map_take->RB,zipWith->RI,Pairwise->RT,pairwise_iff_getElem->RV,eq_of_mem_replicate->RZ,getElem?_replicate->R3,reverse_append->Sg,length_reverse->Si,getElem_range->Sm,filterMap_map->Sn,take_add_one->Sz,foldl_append->SA,drop_sublist->SD,lookup_cons->SH,getElem_map->SI,flatMap_nil->SJ,drop_append_of_le_length->S9
open PySem.Heap renaming get?_push_of_some->M9,lt_size->Na,get?_push_size->Nl,SameBut->OF,get?_update_ne->O2,size_push->O6,get?_update_other->QW,size_update->SK
open Bool renaming false_ne_true->Nc,false_eq_true->NV,and_eq_true->Qs,eq_iff_iff->Qv,not_true->QB
open Option renaming map_eq_some_iff->Nk,isSome_map->Pk
open PySem.Expr renaming Name->Nn,Call->NR,Subscript->Ow,Constant->QA
open Sum renaming inl->Np,inr->Pd
open PySem.SeqAt renaming EqAt->Nu,RcAt->PF,RcNeAt->RE
open Ne renaming symm->Nv
open Array renaming getElem?_eq_getElem->Ny,toList_push->NK,getElem?_toList->NS,length_toList->NT,toList_append->Od,ext'->Pb,perm_iff_toList_perm->PR,getElem?_eq_some_iff->PU,toList_reverse->P0,getElem?_extract->QX,mem_toList_iff->Sb,getElem_mem->SE,toList_map->SN,toList_eraseIdxIfInBounds->SX
open PySem.Value renaming ref->NC,none->N9,type->Of
open Int renaming le_trans->NG,toNat_natCast->N6,le_refl->Oe,le_of_lt->OX,zero_mul->Px,pow_pos->Pz,add_mul->PD,mul_assoc->Qz,zero_add->QE,toNat->QH,lt_of_le_of_lt->Ra,add_zero->RJ,add_comm->RK,one_mul->RP,mul_le_mul_of_nonneg_right->S0
open PySem.Obj renaming mapSeq->NH,data_mapFields->Q8
open ForInStep renaming yield->NX,done->Ov
open PySem.Env renaming kindOf->NY
open False renaming elim->Oc
open PySem.Builtin.Int renaming intBits->Oh
open PySem.Paired renaming length->Oj,snoc->RO
open Option.some renaming inj->OG
open PySem.NameKind renaming free->OT,cell->Qy
open PySem.Builtin.List renaming listUpdate->O0,listLengthHint->PM,listItems->Qm,listExtendWith->QK,listTooLong->R0
open PyProof.Rows.SortSt renaming mk'->Pa
open Lean renaming mkPrivateNameCore->Pf,mkIdent->Pw
open PySem.F renaming slot_dict_itemiterator_next->PK,slot_dict_keyiterator_next->Qj,plain_extend_loop->QM,slot_int_rmul->Rr,args_tuple_add_2->RY,entry_tuple_add->R1,slot_tuple_add->R5,slot_tuple_lt->R8,slot_dict_get->R9,slot_tuple_mul->SM,args_dict_itemiterator_next_1->SW,entry_dict_itemiterator_next->S3,args_dict_keyiterator_next_1->S6,slot_dict_itemiterator_iter->Tc,entry_dict_keyiterator_next->Td
open List.Perm renaming append_left->PX
open True renaming intro->Qh
open PySem.Heap.SameBut renaming update->Qp
open List.Pairwise renaming nil->Qq
open PySem.Builtin.Slice renaming slicePlaces->QN,sliceAdjust->RW
open PySem.Builtin.Tuple renaming tupleExact->QT
open PySem.AutoSeq1 renaming wpAny_loadPart'->QU
open PySem.Builtin.Range renaming rangeSize->QV
open PySem.Builtin.Dict renaming showsAll->QZ
open PySem.Around renaming under_plainId->Q6
open PySem.Stmt renaming AugAssign->Ru,Assign->RN
open Quotient renaming sound->Rv
open Function renaming comp->RC
open PySem.Operator renaming Add->RG
open PySem.Data renaming fields->RQ
open PySem.Builtin.Dict_items renaming pairFromOwner->RS,ownsTuple->RU,ownedTupleIsFree->SQ,ownedTupleFields->SS
open PySem.Calls renaming callWith_builtin->R7,spliced_cons->So
open PySem.Challenge renaming rw_everydraw_k22_whole_circles_hold->SO
namespace PySem.W.Fast
theorem tw138418930762512241:True:=⟨⟩
theorem tw8605090825174964345:True:=⟨⟩
theorem tw12685359104416747461:True:=⟨⟩
theorem tw14415188822251874100:True:=⟨⟩
theorem tw16697813553035520414:True:=⟨⟩
theorem tw10829055381023645208:True:=⟨⟩
theorem tw2569182053764995326:True:=⟨⟩
theorem tw16729678451729782142:True:=⟨⟩
theorem tw13544857826274908560:True:=⟨⟩
theorem tw17750044959591685357:True:=⟨⟩
theorem tw4807246015639054375:True:=⟨⟩
theorem tw15107079236882845253:True:=⟨⟩
theorem tw9278940475045368208:True:=⟨⟩
theorem tw12323431568782415727:True:=⟨⟩
theorem tw15312572532331062892:True:=⟨⟩
theorem tw2290550146799620847:True:=⟨⟩
theorem tw3540946970188591526:True:=⟨⟩
theorem tw9639758503932370970:True:=⟨⟩
theorem tw3295688681368400739:True:=⟨⟩
theorem tw17360453897583998226:True:=⟨⟩
theorem tw288759914972238519:True:=⟨⟩
theorem tw10644345413910763076:True:=⟨⟩
theorem tw13694211609973349245:True:=⟨⟩
theorem tw10155824318652570709:True:=⟨⟩
theorem tw6732248239820382778:True:=⟨⟩
theorem tw8359753644296589238:True:=⟨⟩
theorem tw11062073296534085398:True:=⟨⟩
theorem tw10179095900283790022:True:=⟨⟩
theorem tw18047974455406011023:True:=⟨⟩
theorem tw4749790395299028925:True:=⟨⟩
theorem tw380421777338643626:True:=⟨⟩
theorem tw10258980487753152029:True:=⟨⟩
theorem tw2153898524940213824:True:=⟨⟩
theorem tw16114065174184079565:True:=⟨⟩
theorem tw16569838477056693216:True:=⟨⟩
theorem tw4941726910130861770:True:=⟨⟩
theorem tw2836992566796078725:True:=⟨⟩
theorem tw13811316885666106524:True:=⟨⟩
theorem tw12381292275832427038:True:=⟨⟩
theorem tw6000869507012932740:True:=⟨⟩
theorem tw16302364980330822584:True:=⟨⟩
theorem tw6500008768329700501:True:=⟨⟩
theorem tw14730409061651914980:True:=⟨⟩
theorem tw769555356069151568:True:=⟨⟩
theorem tw2211347434516331909:True:=⟨⟩
theorem tw13799457945968234038:True:=⟨⟩
theorem tw1906731040000411747:True:=⟨⟩
theorem tw1355953977707518284:True:=⟨⟩
theorem tw17065360852001385117:True:=⟨⟩
theorem tw6797226662050456077:True:=⟨⟩
theorem tw17819078473109538088:True:=⟨⟩
theorem tw4140789900977645925:True:=⟨⟩
theorem tw6145569735853581135:True:=⟨⟩
theorem tw14736083529197913515:True:=⟨⟩
theorem tw13715705480830969697:True:=⟨⟩
theorem tw18192279265486519895:True:=⟨⟩
theorem tw13680348414856861672:True:=⟨⟩
theorem tw4653596011466193692:True:=⟨⟩
theorem tw6416887265423798077:True:=⟨⟩
theorem tw7524000731405664680:True:=⟨⟩
theorem tw3676219216072488850:True:=⟨⟩
theorem tw13961396913316339483:True:=⟨⟩
theorem tw17541740808981176836:True:=⟨⟩
theorem tw3105228552974457642:True:=⟨⟩
theorem tw3194215136572544996:True:=⟨⟩
theorem tw6207466412762406724:True:=⟨⟩
theorem tw18332175340952956024:True:=⟨⟩
theorem tw8661491861202791527:True:=⟨⟩
theorem tw11209973699906352915:True:=⟨⟩
theorem tw6652066328534660442:True:=⟨⟩
theorem tw5682360561592732134:True:=⟨⟩
theorem tw15822287054435761772:True:=⟨⟩
theorem tw4587165198943223047:True:=⟨⟩
theorem tw5810867361048871218:True:=⟨⟩
theorem tw12351128270764752079:True:=⟨⟩
theorem tw17066714508185245709:True:=⟨⟩
theorem tw13899086202603731329:True:=⟨⟩
theorem tw18438276128595680081:True:=⟨⟩
theorem tw12628953784282053755:True:=⟨⟩
theorem tw13199915443643975751:True:=⟨⟩
theorem tw2503984078051917362:True:=⟨⟩
theorem tw2606257100292489289:True:=⟨⟩
theorem tw3736895989017791465:True:=⟨⟩
theorem tw18282870506689183612:True:=⟨⟩
theorem tw5016603097801903247:True:=⟨⟩
theorem tw6679616972344098048:True:=⟨⟩
theorem tw5683754466939252708:True:=⟨⟩
theorem tw11085487734843643440:True:=⟨⟩
theorem tw11905613567645743398:True:=⟨⟩
theorem tw8837205613986355726:True:=⟨⟩
theorem tw9771649279992547486:True:=⟨⟩
theorem tw2677487163024806142:True:=⟨⟩
theorem tw17559296026322860118:True:=⟨⟩
theorem tw15192190812845333729:True:=⟨⟩
theorem tw338693868239428:True:=⟨⟩
theorem tw1350751986365358648:True:=⟨⟩
theorem tw12584669619384316138:True:=⟨⟩
theorem tw14437275939401979780:True:=⟨⟩
theorem tw14731121562125846097:True:=⟨⟩
theorem tw9148440150512358967:True:=⟨⟩
end PySem.W.Fast
local macro_rules | `(tactic| walk_at "u") => `(tactic| with_unfolding_all rfl)
namespace L2
open PySem PySem.Spec PyProof.Rows
noncomputable abbrev Key:=Sum Int Str
noncomputable def j9:Key->Value->Bool
 | .inl k,v=>Value.isInt k v
 | .inr x,v=>Value.isStrOf x v
noncomputable def K6 (w:World):Key->Int
 | .inl k=>hashInt k
 | .inr x=>hashStr w x
theorem bF:∀ {k:Key} {v:Value},j9 k v=true->(∃ i t,k=Np i/\v=Value.int i t)\/(∃ x t,k=Pd x/\v=Value.str x t)
 | .inl i,v,h=>by
  obtain ⟨t,e⟩:=Value.isInt_shape (k:=i) (v:=v) h
  exact .inl ⟨i,t,rfl,e⟩
 | .inr x,v,h=>by
  obtain ⟨t,e⟩:=Value.isStrOf_shape (x:=x) (v:=v) h
  exact .inr ⟨x,t,rfl,e⟩
theorem v5 (i) (t:Tok):j9 (.inl i) (.int i t)=true:=by simp [j9,Value.isInt]
theorem v7 (x) (t:Tok):j9 (.inr x) (.str x t)=true:=by simp [j9,Value.isStrOf]
theorem Fg (a b):decide ((Np a:Key)=Np b)=(a == b):=by
 by_cases e:a=b
 ·subst e; simp
 ·have h:¬ (Np a:Key)=Np b:=λq=>e (Np.inj q)
  rw [decide_eq_false h]
  exact (beq_eq_false_iff_ne.mpr e).symm
theorem Fi (a b):decide ((Pd a:Key)=Pd b)=decide (a=b):=by
 by_cases e:a=b
 ·subst e; simp
 ·have h:¬ (Pd a:Key)=Pd b:=λq=>e (Pd.inj q)
  rw [decide_eq_false h,decide_eq_false e]
theorem Fj (a) (b):decide ((Np a:Key)=Pd b)=false:=decide_eq_false (λq=>nomatch q)
theorem Fl (a) (b):decide ((Pd a:Key)=Np b)=false:=decide_eq_false (λq=>nomatch q)
noncomputable def bV (prog:Program) (w:World):PySem.KeyKind prog w Key where
 is:=j9
 hash:=K6 w
 inj:=λv a b ha hb=>by
  rcases bF ha with ⟨i,t,rfl,rfl⟩ | ⟨x,t,rfl,rfl⟩
  ·rcases bF hb with ⟨j,u,rfl,e⟩ | ⟨y,u,rfl,e⟩
   ·injection e with e1 _; rw [e1]
   ·exact nomatch e
  ·rcases bF hb with ⟨j,u,rfl,e⟩ | ⟨y,u,rfl,e⟩
   ·exact nomatch e
   ·injection e with e1 _; rw [e1]
 byValue:=λk v h=>by
  rcases bF h with ⟨i,t,rfl,rfl⟩ | ⟨x,t,rfl,rfl⟩ <;> rfl
 pyHash:=λhv h=>by
  rcases bF hv with ⟨i,t,rfl,rfl⟩ | ⟨x,t,rfl,rfl⟩
  ·exact wpAny_pyHash_int h
  ·exact wpAny_pyHash_str h
 eqBool:=λhu hv h=>by
  rcases bF hu with ⟨i,t,rfl,rfl⟩ | ⟨x,t,rfl,rfl⟩
  ·rcases bF hv with ⟨j,u,rfl,rfl⟩ | ⟨y,u,rfl,rfl⟩
   ·rw [Fg] at h; exact wpAny_eqBool_int h
   ·rw [Fj] at h; exact Nu.int_str i t y u _ _ _ _ h
  ·rcases bF hv with ⟨j,u,rfl,rfl⟩ | ⟨y,u,rfl,rfl⟩
   ·rw [Fl] at h; exact Nu.str_int x t j u _ _ _ _ h
   ·rw [Fi] at h; exact wpAny_eqBool_str h
 «strs» :=λk x t v h=>by
  rcases bF h with ⟨i,u,rfl,e⟩ | ⟨y,u,rfl,e⟩
  ·exact nomatch e
  ·injection e with e1 _
   subst e1
   cases v <;> rfl
theorem pD (prog) (w) (i) (t:Tok):(bV prog w).is (.inl i) (.int i t)=true:=v5 i t
theorem pF (prog) (w) (x) (t:Tok):(bV prog w).is (.inr x) (.str x t)=true:=v7 x t
inductive V where
 | non | bl (b:Bool) | int (i:Int) | str (x:Str) | byt (b:Array UInt8) | flt (b:UInt64) | ref (a:Addr) | ty (n:String)
 deriving DecidableEq
noncomputable def RelV:V->Value->Prop
 | .non,u=>u=N9
 | .bl b,u=>u=Value.bool b
 | .int i,u=>∃ t,u=Value.int i t
 | .str x,u=>∃ t,u=Value.str x t
 | .byt b,u=>∃ t,u=Value.bytes b t
 | .flt b,u=>∃ t,u=Value.float b t
 | .ref a,u=>u=NC a
 | .ty n,u=>u=Of n
noncomputable abbrev Vals:List V->List Value->Prop:=Paired RelV
theorem Vals.length (r:Vals xs us):xs.length=us.length:=Oj r
theorem Vals.get:∀ {xs:List V} {us:List Value} {i:Nat} {x:V},Vals xs us->xs[i]?=some x->∃ u,us[i]?=some u/\RelV x u
 | _,_,_,_,.nil,e=>by simp at e
 | _,_,0,_,.cons r _,e=>by simp at e; subst e; exact ⟨_,rfl,r⟩
 | _,_,i+1,x,.cons _ t,e=>by
  obtain ⟨u,h1,h2⟩:=Vals.get (i:=i) (x:=x) t (by simpa using e)
  exact ⟨u,by simpa using h1,h2⟩
theorem Vals.set (r:RelV x u):∀ {xs:List V} {us:List Value} (i:Nat),Vals xs us->Vals (xs.set i x) (us.set i u)
 | _,_,_,.nil=>.nil
 | _,_,0,.cons _ t=>.cons r t
 | _,_,i+1,.cons q t=>.cons q (Vals.set r i t)
theorem Vals.append:∀ {xs ys:List V} {us ws:List Value},Vals xs us->Vals ys ws->Vals (xs++ys) (us++ws)
 | _,_,_,_,.nil,s=>s
 | _,_,_,_,.cons r t,s=>.cons r (Vals.append t s)
theorem Vals.take:∀ {xs:List V} {us:List Value} (n:Nat),Vals xs us->Vals (xs.take n) (us.take n)
 | _,_,0,_=>.nil
 | _,_,_+1,.nil=>.nil
 | _,_,n+1,.cons r t=>.cons r (Vals.take n t)
theorem Vals.drop:∀ {xs:List V} {us:List Value} (n:Nat),Vals xs us->Vals (xs.drop n) (us.drop n)
 | _,_,0,r=>r
 | _,_,_+1,.nil=>.nil
 | _,_,n+1,.cons _ t=>Vals.drop n t
noncomputable def jL:Option V->Option Value->Prop
 | some v,some u=>RelV v u
 | none,none=>True
 | _,_=>False
noncomputable def KV {κ:Type}:List (κ×V)->List (κ×Value)->Prop:=Paired λ(p:κ×V) (q:κ×Value)=>p.1=q.1/\RelV p.2 q.2
noncomputable def kV:Key->V
 | .inl i=>.int i
 | .inr x=>.str x
inductive HO where
 | lst (xs:List V)
 | tup (xs:List V)
 | dK (kvs:List (Key×V)) | dT (kvs:List (List Key×Addr×V))
 | set (S:Int->Bool) (n:Nat)
 | ins (C dx:Addr) (fs:List (Str×V))
 | own (x:Addr)
 | xd (fs:List (Str×V))
 | met (f x:Addr)
 | rng (lo hi:Int)
 | frz (o:Obj) (u:HO)
 | tbl (ps:Array Value)
 | ext (φ :Heap->Prop)
noncomputable abbrev Hp:=Addr->Option HO
noncomputable def upd (H:Hp) (a:Addr) (o:HO):Hp:=λb=>if b=a then some o else H b
theorem ai:upd H a o a=some o:=by unfold upd; rw [if_pos rfl]
theorem aq (h:b≠a):upd H a o b=H b:=by unfold upd; rw [if_neg h]
theorem ny:upd (upd H a o) a u=upd H a u:=by
 funext b; unfold upd; split <;> rfl
theorem aE {H:Hp} (h:H a=some o) (h':H b=none):a≠b:=by
 intro e; subst e; rw [h] at h'; cases h'
section
variable (P:Program) (w:World)
noncomputable def bq (H:Hp) (h:Heap) (a:Addr):HO->Prop
 | .lst xs=>xs.length<=sizeLine/\∃ (its:List Value) (n:Nat),Vals xs its/\h.get? a=some { cls:=.type "list",data:=.seq its.toArray n }
 | .tup xs=>xs.length<=sizeLine/\∃ its:List Value,Vals xs its/\IsTup h a its.toArray
 | .dK kvs=>kvs.length<=sizeLine/\(a == sysModules)=false/\∃ vs,KV kvs vs/\h.DictOf (bV P w) a vs
 | .dT kvs=>kvs.length<=sizeLine/\(a == sysModules)=false/\∃ xs:List (List Key×Addr×Value),
  Paired (λ(p:List Key×Addr×V) (q:List Key×Addr×Value)=>p.1=q.1/\p.2.1=q.2.1/\RelV p.2.2 q.2.2) kvs xs /\
  ∃ o es ep,h.get? a=some o/\o.ExactDict/\o.data=.dict es ep/\es.toList=xs.map (entryOfKey (tupleKind (bV P w)))/\(xs.map (·.1)).Nodup
 | .set S n=>h.SetOf (intKind P w) a S n
 | .ins C dx fs=>H dx=some (.own a)/\fs.length<=1000/\dx≠a/\h.get? a=some (PySem.W.instObj C dx) /\
  ∃ mA,h.Ns1 dx mA/\(∀ f,jL (fs.lookup f) (mA f))/\PySem.Within mA (fs.map (·.1))
 | .own _=>∃ o,h.get? a=some o
 | .xd fs=>∃ mA,h.Ns1 a mA/\∀ f,jL (fs.lookup f) (mA f)
 | .rng lo hi=>∃ t u v,h.get? a=some { cls:=.type "range",data:=.fields #[.int lo t,.int hi u,.int 1 v] }
 | .frz o u=>h.get? a=some o/\bq H h a u
 | .tbl ps=>h.get? a=some { cls:=.none,data:=.fields ps }
 | .met f x=>h.get? a=some (Sy (.ref f) (.ref x))
 | .ext φ => φ h/\(∃ o,h.get? a=some o)/\∀ h1 h2:Heap,φ h1->(∀ o,h1.get? a=some o->h2.get? a=some o)-> φ h2
def jb (H:Hp) (h:Heap):Prop:=∀ a o,H a=some o->bq P w H h a o
end
theorem bq.lt (x:bq P w H h a o):a<h.objs.size:=by
 cases o with
 | lst xs=>obtain ⟨_,_,_,_,e⟩:=x; exact Na e
 | tup xs=>obtain ⟨_,_,_,p⟩:=x; exact p.lt
 | dK kvs=>obtain ⟨_,_,_,_,o,_,_,e,_⟩:=x; exact Na e
 | dT kvs=>obtain ⟨_,_,_,_,o,_,_,e,_⟩:=x; exact Na e
 | set S n=>obtain ⟨o,_,_,_,e,_⟩:=x; exact Na e
 | ins C dx fs=>obtain ⟨_,_,_,e,_⟩:=x; exact Na e
 | own y=>obtain ⟨_,e⟩:=x; exact Na e
 | xd fs=>obtain ⟨_,⟨_,_,_,e,_⟩,_⟩:=x; exact Na e
 | rng lo hi=>obtain ⟨_,_,_,e⟩:=x; exact Na e
 | frz ob u=>obtain ⟨e,_⟩:=x; exact Na e
 | tbl ps=>exact Na (show h.get? a=some _ from x)
 | met f y=>exact Na (show h.get? a=some _ from x)
 | ext φ =>obtain ⟨_,⟨_,e⟩,_⟩:=x; exact Na e
theorem Paired.Fo:∀ {l₁:List α} {l₂:List β},Paired F l₁ l₂->(∀ a b,F a b->G a b)->Paired G l₁ l₂
 | _,_,.nil,_=>.nil
 | _,_,.cons r t,f=>.cons (f _ _ r) (Paired.Fo t f)
theorem bq.stay (x:bq P w H h a o) (k:∀ b u,(b=a\/H b=some (.own a))->h.get? b=some u->h'.get? b=some u)
 (ho:∀ b,H b=some (.own a)->H' b=some (.own a)) (ht:∀ b xs,H b=some (.tup xs)->H' b=some (.tup xs)):bq P w H' h' a o:=by
 induction o with
 | lst xs=>obtain ⟨z,its,n,r,e⟩:=x; exact ⟨z,its,n,r,k _ _ (.inl rfl) e⟩
 | tup xs=>obtain ⟨z,its,r,ob,e,c⟩:=x; exact ⟨z,its,r,ob,k _ _ (.inl rfl) e,c⟩
 | dK kvs=>obtain ⟨z,y,vs,r,ob,es,ep,e,c⟩:=x; exact ⟨z,y,vs,r,ob,es,ep,k _ _ (.inl rfl) e,c⟩
 | dT kvs =>
  obtain ⟨z,y,xs,r,ob,es,ep,e,c⟩:=x
  exact ⟨z,y,xs,r,ob,es,ep,k _ _ (.inl rfl) e,c⟩
 | set S n=>obtain ⟨ob,es,ep,t,e,c⟩:=x; exact ⟨ob,es,ep,t,k _ _ (.inl rfl) e,c⟩
 | ins C dx fs =>
  obtain ⟨d,z,ne,e,mA,⟨od,es,ep,e2,c⟩,r⟩:=x
  exact ⟨ho _ d,z,ne,k _ _ (.inl rfl) e,mA,⟨od,es,ep,k _ _ (.inr d) e2,c⟩,r⟩
 | own y=>obtain ⟨ob,e⟩:=x; exact ⟨ob,k _ _ (.inl rfl) e⟩
 | xd fs=>obtain ⟨mA,⟨od,es,ep,e,c⟩,r⟩:=x; exact ⟨mA,⟨od,es,ep,k _ _ (.inl rfl) e,c⟩,r⟩
 | rng lo hi=>obtain ⟨t,u,v,e⟩:=x; exact ⟨t,u,v,k _ _ (.inl rfl) e⟩
 | frz ob u ih=>obtain ⟨e,q⟩:=x; exact ⟨k _ _ (.inl rfl) e,ih q⟩
 | tbl ps =>
  have e:h.get? a=some { cls:=.none,data:=.fields ps }:=x
  show h'.get? a=some { cls:=.none,data:=.fields ps }
  exact k a _ (.inl rfl) e
 | met f y =>
  have e:h.get? a=some (Sy (.ref f) (.ref y)):=x
  show h'.get? a=some (Sy (.ref f) (.ref y))
  exact k a _ (.inl rfl) e
 | ext φ =>obtain ⟨p,⟨o,e⟩,st⟩:=x; exact ⟨st _ _ p λo q=>k _ _ (.inl rfl) q,⟨o,k _ _ (.inl rfl) e⟩,st⟩
theorem jb.lt (x:jb P w H h) (e:H a=some o):a<h.objs.size:=(x a o e).lt
theorem jb.fresh (x:jb P w H h) (e:h.objs.size<=a):H a=none:=by
 cases q:H a with
 | none=>rfl
 | some u=>exact absurd (NU (x.lt q) e) (OC _)
theorem jb.kept (x:jb P w H h) (k:∀ b u,h.get? b=some u->h'.get? b=some u):jb P w H h':=λa o e =>
 (x a o e).stay (λb u _ q=>k b u q) (λ_ q=>q) λ_ _ q=>q
theorem jb.laid (x:jb P w H h) (k:∀ b u,h.get? b=some u->h'.get? b=some u) (hp:h.objs.size<=a) (new:bq P w (upd H a o) h' a o):jb P w (upd H a o) h':=λb u e=>by
 have hn:=x.fresh hp
 by_cases hb:b=a
 ·subst hb; rw [ai] at e; cases e; exact new
 ·rw [aq hb] at e
  exact (x b u e).stay (λc v _ q=>k c v q) (λc q=>by rw [aq (aE q hn)]; exact q) λc xs q=>by rw [aq (aE q hn)]; exact q
def Rd (H:Hp) (a:Addr) (u:HO):Prop:=H a=some u\/∃ o,H a=some (.frz o u)
theorem Rd.ok (r:Rd H a u) (x:jb P w H h):bq P w H h a u:=by
 rcases r with r | ⟨o,r⟩
 ·exact x a u r
 ·obtain ⟨_,q⟩:=x a _ r
  exact q
noncomputable def IG:Option HO->Prop
 | some (.lst _)=>True
 | some (.dK _)=>True
 | some (.dT _)=>True
 | some (.set _ _)=>True
 | some (.ins _ _ _)=>True
 | some (.ext _)=>True
 | _=>False
theorem jb.write (ok:jb P w H h) (mu:IG (H x)) (he:e=x\/H e=some (.own x)) (k:∀ b u,b≠e->h.get? b=some u->h'.get? b=some u) (heo:∃ u,h'.get? e=some u)
 (new:bq P w (upd H x o') h' x o'):jb P w (upd H x o') h':=λb u q=>by
 have nown:∀ c y,H c=some (.own y)->c≠x:=λc y r z=>by subst z; rw [r] at mu; exact mu
 have ntup:∀ c xs,H c=some (.tup xs)->c≠x:=λc xs r z=>by subst z; rw [r] at mu; exact mu
 by_cases hb:b=x
 ·subst hb; rw [ai] at q; cases q; exact new
 ·rw [aq hb] at q
  by_cases hbe:b=e
  ·have q':H b=some (.own x):=by
    rcases he with z | z
    ·exact absurd (hbe.trans z) hb
    ·rw [hbe]; exact z
   rw [q] at q'; cases q'
   obtain ⟨v,hv⟩:=heo
   exact ⟨v,by rw [hbe]; exact hv⟩
  ·refine (ok b u q).stay (λc v hc r=>k c v ?_ r) (λc r=>by rw [aq (nown c b r)]; exact r) λc xs r=>by rw [aq (ntup c xs r)]; exact r
   rcases hc with rfl | hc
   ·exact hbe
   ·rintro rfl
    rcases he with z | z
    ·exact nown c b hc z
    ·rw [hc] at z; cases z; exact hb rfl
structure Un (fs ex:List Addr) (H H':Hp) (h h':Heap):Prop where
 keep:∀ b o,h.get? b=some o->H b=none->b∉fs->b∉ex->h'.get? b=some o
 slot:∀ b o,h.get? b=some o->H b=none->b∈fs->b∉ex->∃ sl,h'.get? b=some { o with slots:=sl }
 free:∀ b o,h.get? b=some o->H b=none->b∉ex->H' b=none
 there:∀ b o,h.get? b=some o->b∉ex->∃ o',h'.get? b=some o'
 tups:∀ b xs,H b=some (.tup xs)->H' b=some (.tup xs)
 frzs:∀ b o u,H b=some (.frz o u)->H' b=some (.frz o u)
 tbls:∀ b ps,H b=some (.tbl ps)->∃ more,H' b=some (.tbl (ps++more))
section
variable {fs fs' ex ex':List Addr} {H H1 H2:Hp} {h h1 h2 h':Heap} {a x e:Addr} {o:HO}
theorem Un.any (u:Un fs ex H H1 h h1) (q:h.get? b=some ob) (n:H b=none) (hx:b∉ex):∃ sl,h1.get? b=some { ob with slots:=sl }:=by
 by_cases hb:b∈fs
 ·exact u.slot b ob q n hb hx
 ·exact ⟨ob.slots,u.keep b ob q n hb hx⟩
theorem Un.kept (k:∀ b u,h.get? b=some u->h'.get? b=some u):Un fs ex H H h h' :=
 ⟨λb ob q _ _ _=>k b ob q,λb ob q _ _ _=>⟨ob.slots,k b ob q⟩,λ_ _ _ n _=>n,λb ob q _=>⟨ob,k b ob q⟩,λ_ _ q=>q,λ_ _ _ q=>q,λ_ ps q=>⟨#[],by rw [q]; simp⟩⟩
theorem Un.refl:Un fs ex H H h h:=Un.kept λ_ _ q=>q
theorem Un.laid (k:∀ b u,h.get? b=some u->h'.get? b=some u) (hp:h.objs.size<=a) (hn:H a=none):Un fs ex H (upd H a o) h h' where
 keep:=λb u q _ _ _=>k b u q
 slot:=λb u q _ _ _=>⟨u.slots,k b u q⟩
 free:=λb u q n _=>by rw [aq (NB (NU (Na q) hp))]; exact n
 there:=λb u q _=>⟨u,k b u q⟩
 tups:=λb xs q=>by rw [aq (aE q hn)]; exact q
 frzs:=λb u xs q=>by rw [aq (aE q hn)]; exact q
 tbls:=λb ps q=>⟨#[],by rw [aq (aE q hn),q]; simp⟩
theorem Un.write (mu:IG (H x)) (he:e=x\/H e=some (.own x)) (k:∀ b u,b≠e->h.get? b=some u->h'.get? b=some u) (heo:∃ u,h'.get? e=some u):Un fs ex H (upd H x o) h h':=by
 have hx:∀ b,H b=none->b≠x:=λb n z=>by subst z; rw [n] at mu; exact mu
 have hb:∀ b,H b=none->b≠e:=λb n z=>by
  subst z
  rcases he with r | r
  ·exact hx b n r
  ·rw [n] at r; cases r
 have hm:∀ b u,H b=some u->¬ IG (some u)->b≠x:=λb u q nm z=>by subst z; rw [q] at mu; exact nm mu
 refine ⟨λb u q n _ _=>k b u (hb b n) q,λb u q n _ _=>⟨u.slots,k b u (hb b n) q⟩,λb u q n _=>by rw [aq (hx b n)]; exact n,λb u q _=>?_,
  λb xs q=>by rw [aq (hm b _ q λz=>z)]; exact q,λb u xs q=>by rw [aq (hm b _ q λz=>z)]; exact q,λb ps q=>⟨#[],by rw [aq (hm b _ q λz=>z),q]; simp⟩⟩
 by_cases hbe:b=e
 ·subst hbe; exact heo
 ·exact ⟨u,k b u hbe q⟩
end
noncomputable def KN (h:Heap) (H:Hp):List Addr:=(NP h.objs.size).filter λa=>(H a).isSome
noncomputable def nC (h:Heap) (H:Hp):Heap:=PySem.W.hideAll h (KN h H)
theorem v8 (h) (H):(nC h H).objs.size=h.objs.size:=PySem.W.hideAll_size _ _
theorem ya (e:h.get? b=some o) (n:H b=none):(nC h H).get? b=some o :=
 PySem.W.hideAll_get _ e λhm=>by
  have q:(H b).isSome=true:=(Qt.mp hm).2
  rw [n] at q; simp at q
theorem BY (e:(nC h H).get? b=some o):h.get? b=some o/\H b=none:=by
 have e':h.get? b=some o:=PySem.W.of_hideAll (KN h H) e
 refine ⟨e',?_⟩
 cases q:H b with
 | none=>rfl
 | some x =>
  have hm:b∈KN h H:=Qt.mpr ⟨Ry.mpr (Na e'),by simp [q]⟩
  have z:(nC h H).get? b=none:=PySem.W.hideAll_none (KN h H) hm
  rw [z] at e; cases e
structure Mod (K:M0) (mg:Str->Option Value) (base:Heap):Prop where
 kin:K.In base
 glob:base.Ns mainGlobals mg
 blt:∃ mb,base.Ns builtinsNs mb/\∀ x:Str,x≠"__name__"->mb x=bootBuiltins x
 nolimit:base.NoLimit
structure Cx where
 prog:Program
 w:World
 K:M0
 mg:Str->Option Value
 base:Heap
 A:Around
 N:List Str
 s₀:Shared
 H₀:Hp
 env:Env
 outer:List Env
 stack:List Env
 ex:List Addr
 fn:Str->Bool
 calm:Bool
 pn:List (Addr×Obj)
 xe:Value->Shared->Prop
noncomputable def frs (l:List Env):List Addr:=l.filterMap (·.frame)
noncomputable abbrev Cx.fs (X:Cx):List Addr:=frs X.outer
def K7 (sc:Scope) (x:Str):Prop:=sc.names.lookup x=some .local\/sc.names.lookup x=some .cell\/sc.names.lookup x=some .free
def Loc (sc:Scope) (x:Str):Prop:=sc.names.lookup x=some .local\/sc.names.lookup x=some .cell
def Look (env:Env) (h:Heap) (m:Str->Option Value) (x:Str) (u:Value):Prop :=
 (env.kindOf x=some .local/\m x=some u)\/((env.kindOf x=some .cell\/env.kindOf x=some .free)/\∃ c,env.cells.lookup x=some c/\h.IsCell c (some u))
structure Cx.Ok (X:Cx):Prop where
 mod:Mod X.K X.mg X.base
 kind:X.env.scope.kind=.function
 glob:X.env.globals=mainGlobals
 blt:X.env.builtins=builtinsNs
 above:X.s₀.heap.objs.size<=X.env.locals
 inj:∀ x y c,X.env.cells.lookup x=some c->X.env.cells.lookup y=some c->x=y
 has:∀ x,(X.env.kindOf x=some .cell\/X.env.kindOf x=some .free)->∃ c,X.env.cells.lookup x=some c
 cab:∀ x c,X.fn x=true->X.env.cells.lookup x=some c->X.s₀.heap.objs.size<=c
 hd:X.calm=true->X.A.handled=none
 frames:X.A.frames=some X.stack
 stk:X.stack=X.outer\/(X.stack=X.env::X.outer/\X.env.frame=some X.env.locals)
 exf:∀ b∈X.ex,b≠X.env.locals/\∀ x c,X.env.cells.lookup x=some c->c≠b
 bs:∀ b o,X.base.get? b=some o->X.s₀.heap.get? b=some o/\X.H₀ b=none
 bsz:X.base.objs.size<=X.s₀.heap.objs.size
 noex:∀ b o,X.base.get? b=some o->b∉X.ex
 exfs:∀ b∈X.ex,b∉X.fs
 jc:X.s₀.heap.FunFrames X.base X.outer
 frf:∀ b∈X.fs,X.H₀ b=none
structure Inv (X:Cx) (aa:List (Addr×Obj)) (σ:List (Option V)) (H:Hp) (s:Shared):Prop where
 ok:X.Ok
 os:s.os=X.s₀.os
 bare:AllBare s.gens
 base:Un X.fs X.ex X.H₀ H X.s₀.heap s.heap
 loc:∃ m,s.heap.Ns X.env.locals m/\∀ (i:Nat) (x:Str) (v:V),X.N[i]?=some x->σ[i]?=some (some v)->K7 X.env.scope x->∃ u,RelV v u/\Look X.env s.heap m x u
 cell:∀ x c,X.env.cells.lookup x=some c->∃ v,s.heap.IsCell c v
 free:H X.env.locals=none
 freeC:∀ x c,X.env.cells.lookup x=some c->H c=none
 pin:∀ p∈X.pn++aa,s.heap.get? p.1=some p.2/\H p.1=none/\p.1≠X.env.locals/\p.1∉X.fs/\∀ v,p.2.data≠.cell v
 hok:jb X.prog X.w H s.heap
 len:σ.length=X.N.length
section
variable {X:Cx}
theorem Cx.Ok.K8 (ok:X.Ok) (e:X.base.get? b=some o):b∉X.fs:=λhb=>by
 have:=(ok.jc.mem hb).1
 rw [e] at this; cases this
theorem Inv.bs (I:Inv X aa σ H s):∀ b o,X.base.get? b=some o->s.heap.get? b=some o/\H b=none:=λb o e =>
 ⟨I.base.keep b o (I.ok.bs b o e).1 (I.ok.bs b o e).2 (I.ok.K8 e) (I.ok.noex b o e),I.base.free b o (I.ok.bs b o e).1 (I.ok.bs b o e).2 (I.ok.noex b o e)⟩
theorem Inv.bk (I:Inv X aa σ H s):∀ b o,X.base.get? b=some o->s.heap.get? b=some o:=λb o e=>(I.bs b o e).1
theorem Inv.mod (I:Inv X aa σ H s):Mod X.K X.mg X.base:=I.ok.mod
theorem Inv.BI (I:Inv X aa σ H s):X.K.In s.heap:=I.ok.mod.kin.keeps I.bk
theorem Inv.lt (I:Inv X aa σ H s):X.env.locals<s.heap.objs.size:=let ⟨_,hn,_⟩:=I.loc; hn.lt
theorem Inv.sz (I:Inv X aa σ H s):X.s₀.heap.objs.size<=s.heap.objs.size:=Nb I.ok.above (O9 I.lt)
theorem Inv.II (I:Inv X aa σ H s) (h:s.heap.objs.size<=a):a∉X.fs:=λhb=>by
 obtain ⟨_,o,ho,_⟩:=I.ok.jc.mem hb
 exact absurd (NU (Na ho) (Nb I.sz h)) (OC _)
theorem Inv.Fq (I:Inv X aa σ H s):∀ x c,X.env.cells.lookup x=some c->c≠X.env.locals:=λx c e z=>by
 obtain ⟨v,o,ho,hd⟩:=I.cell x c e
 obtain ⟨m,⟨o',es,ep,ho',hd',_⟩,_⟩:=I.loc
 rw [z,ho'] at ho; cases ho; rw [hd'] at hd; cases hd
theorem Inv.jc (I:Inv X aa σ H s):s.heap.FunFrames X.base X.outer:=by
 have all:∀ (l:List Env),(∀ b∈frs l,b∈X.fs)->X.s₀.heap.FunFrames X.base l->s.heap.FunFrames X.base l:=by
  intro l
  induction l with
  | nil=>intro _ _; trivial
  | cons env r ih =>
   intro hs hl
   obtain ⟨hk,⟨L,o,hf,hn,ho,hd⟩,hr⟩:=hl
   have hL:L∈X.fs:=hs L (by unfold frs; rw [Ot,hf]; exact Ng)
   obtain ⟨sl,e⟩:=I.base.slot L o ho (I.ok.frf L hL) hL λz=>I.ok.exfs L z hL
   exact ⟨hk,⟨L,_,hf,hn,e,hd⟩,ih (λb hb=>hs b (by unfold frs; rw [Ot,hf]; exact Ni _ hb)) hr⟩
 exact all X.outer (λ_ hb=>hb) I.ok.jc
theorem Inv.stack (I:Inv X aa σ H s):s.heap.FunFrames X.base X.stack:=by
 rcases I.ok.stk with e | ⟨e,hf⟩
 ·rw [e]; exact I.jc
 ·rw [e]
  obtain ⟨m,hn,_⟩:=I.loc
  refine .cons (by rw [I.ok.kind]; decide) hf hn ?_ I.jc
  exact Heap.get?_none_of_le (Nb I.ok.bsz I.ok.above)
theorem Inv.rT (I:Inv X aa σ H s):∀ b∈frs X.stack,b∈X.env.locals::X.fs:=λb hb=>by
 rcases I.ok.stk with e | ⟨e,hf⟩
 ·rw [e] at hb; exact Ni _ hb
 ·rw [e] at hb
  unfold frs at hb
  rw [Ot,hf] at hb
  exact hb
theorem Inv.t6 (I:Inv X aa σ H s):∀ b∈frs X.stack,H b=none:=λb hb=>by
 rcases Nm.mp (I.rT b hb) with e | hb
 ·rw [e]; exact I.free
 ·obtain ⟨_,o,ho,_⟩:=I.ok.jc.mem hb
  exact I.base.free b o ho (I.ok.frf b hb) λz=>I.ok.exfs b z hb
theorem Inv.step {ch:List Addr} (I:Inv X aa σ H s)
 (hch:∀ b∈ch,(b∈X.ex\/X.s₀.heap.objs.size<=b)/\b≠X.env.locals/\(∀ x c,X.env.cells.lookup x=some c->c≠b)/\∀ p∈X.pn++aa,p.1≠b)
 (keep:∀ b o,b≠X.env.locals->b∉X.fs->b∉ch->s.heap.get? b=some o->H b=none->h'.get? b=some o)
 (slot:∀ b o,b≠X.env.locals->b∈X.fs->b∉ch->s.heap.get? b=some o->H b=none->∃ sl,h'.get? b=some { o with slots:=sl }) (free:∀ b o,b∉ch->s.heap.get? b=some o->H b=none->H' b=none)
 (there:∀ b o,b∉ch->s.heap.get? b=some o->∃ o',h'.get? b=some o')
 (tups:∀ b xs,H b=some (.tup xs)->H' b=some (.tup xs)) (frzs:∀ b o u,H b=some (.frz o u)->H' b=some (.frz o u)) (tbls:∀ b ps,H b=some (.tbl ps)->∃ more,H' b=some (.tbl (ps++more)))
 (ns:∀ m,s.heap.Ns X.env.locals m->h'.Ns X.env.locals m) (hok:jb X.prog X.w H' h') (hg:AllBare g') :
 Inv X aa σ H' { s with heap:=h',gens:=g',drawn:=d',toks:=t' }:=by
 have neL:∀ b o,X.s₀.heap.get? b=some o->b≠X.env.locals:=λb o e=>NB (NU (Na e) I.ok.above)
 have neC:∀ b o,X.s₀.heap.get? b=some o->b∉X.ex->b∉ch:=λb o e hx hb=>by
  rcases (hch b hb).1 with z | z
  ·exact hx z
  ·exact absurd (NU (Na e) z) (OC _)
 have cellK:∀ x c,X.env.cells.lookup x=some c->∀ v,s.heap.IsCell c v->h'.IsCell c v:=λx c e v ⟨o,ho,hd⟩=>by
  have nch:c∉ch:=λz=>(hch c z).2.2.1 x c e rfl
  by_cases hc:c∈X.fs
  ·obtain ⟨sl,q⟩:=slot c o (I.Fq x c e) hc nch ho (I.freeC x c e)
   exact ⟨_,q,hd⟩
  ·exact ⟨o,keep c o (I.Fq x c e) hc nch ho (I.freeC x c e),hd⟩
 refine ⟨I.ok,I.os,hg,⟨λb o e n hb hx=>?_,λb o e n hb hx=>?_,λb o e n hx=>?_,λb o e hx=>?_,λb xs e=>tups b xs (I.base.tups b xs e),λb o xs e=>frzs b o xs (I.base.frzs b o xs e),λb ps e=>?_⟩,?_,λx c e=>?_,?_,λx c e=>?_,λp hp=>?_,hok,I.len⟩
 ·exact keep b o (neL b o e) hb (neC b o e hx) (I.base.keep b o e n hb hx) (I.base.free b o e n hx)
 ·obtain ⟨sl,e1⟩:=I.base.slot b o e n hb hx
  obtain ⟨sl',e2⟩:=slot b _ (neL b o e) hb (neC b o e hx) e1 (I.base.free b o e n hx)
  exact ⟨sl',e2⟩
 ·obtain ⟨o',e1⟩:=I.base.there b o e hx
  exact free b o' (neC b o e hx) e1 (I.base.free b o e n hx)
 ·obtain ⟨o',e1⟩:=I.base.there b o e hx
  exact there b o' (neC b o e hx) e1
 ·obtain ⟨m1,e1⟩:=I.base.tbls b ps e
  obtain ⟨m2,e2⟩:=tbls b _ e1
  exact ⟨m1++m2,by rw [e2,Array.append_assoc]⟩
 ·obtain ⟨m,hn,hl⟩:=I.loc
  refine ⟨m,ns m hn,λi x v e1 e2 e3=>?_⟩
  obtain ⟨u,r,l⟩:=hl i x v e1 e2 e3
  refine ⟨u,r,?_⟩
  rcases l with l | ⟨k,c,e,z⟩
  ·exact .inl l
  ·exact .inr ⟨k,c,e,cellK x c e _ z⟩
 ·obtain ⟨v,z⟩:=I.cell x c e
  exact ⟨v,cellK x c e v z⟩
 ·obtain ⟨m,⟨o,_,_,ho,_⟩,_⟩:=I.loc
  exact free _ o (λz=>(hch _ z).2.1 rfl) ho I.free
 ·obtain ⟨v,o,ho,hd⟩:=I.cell x c e
  exact free c o (λz=>(hch c z).2.2.1 x c e rfl) ho (I.freeC x c e)
 ·obtain ⟨e,n,ne,nf,d⟩:=I.pin p hp
  have nch:p.1∉ch:=λz=>(hch p.1 z).2.2.2 p hp rfl
  exact ⟨keep p.1 p.2 ne nf nch e n,free p.1 p.2 nch e n,ne,nf,d⟩
theorem Inv.un (I:Inv X aa σ H s) (u:Un X.fs [] H H' s.heap h') (hok:jb X.prog X.w H' h'):Inv X aa σ H' { s with heap:=h',toks:=t' }:=by
 obtain ⟨m,⟨o,es,ep,ho,r⟩,_⟩:=id I.loc
 obtain ⟨sl,hL⟩:=u.any ho I.free (by simp)
 exact I.step (g':=s.gens) (d':=s.drawn) (ch:=[]) (λ_ z=>nomatch z) (λb o _ hb _ e n=>u.keep b o e n hb (by simp)) (λb o _ hb _ e n=>u.slot b o e n hb (by simp)) (λb o _ e n=>u.free b o e n (by simp)) (λb o _ e=>u.there b o e (by simp)) u.tups u.frzs u.tbls (λm' hm=>by
  obtain ⟨o',es',ep',ho',r'⟩:=hm
  rw [ho] at ho'; cases ho'
  exact ⟨_,es',ep',hL,r'⟩) hok I.bare
theorem Inv.call (I:Inv X aa σ H s) (u:Un (frs X.stack) ch H H' s.heap h') (hok:jb X.prog X.w H' h') (hg:AllBare g')
 (hch:∀ b∈ch,(b∈X.ex\/X.s₀.heap.objs.size<=b)/\b≠X.env.locals/\(∀ x c,X.env.cells.lookup x=some c->c≠b)/\∀ p∈X.pn++aa,p.1≠b) :
 Inv X aa σ H' { s with heap:=h',gens:=g',drawn:=d',toks:=t' }:=by
 obtain ⟨m,⟨o,es,ep,ho,r⟩,_⟩:=id I.loc
 obtain ⟨sl,hL⟩:=u.any ho I.free λz=>(hch _ z).2.1 rfl
 exact I.step (ch:=ch) hch (λb o hL hb hc e n=>u.keep b o e n (λz=>(Nm.mp (I.rT b z)).elim hL hb) hc) (λb o _ _ hc e n=>u.any e n hc) (λb o hc e n=>u.free b o e n hc) (λb o hc e=>u.there b o e hc) u.tups u.frzs u.tbls (λm' hm=>by
  obtain ⟨o',es',ep',ho',r'⟩:=hm
  rw [ho] at ho'; cases ho'
  exact ⟨_,es',ep',hL,r'⟩) hok hg
theorem Inv.turned (I:Inv X aa σ H s) (k:∀ b o,b≠it->s.heap.get? b=some o->h'.get? b=some o) (hn:H it=none) (hL:it≠X.env.locals)
 (h1:it∈X.ex\/X.s₀.heap.objs.size<=it) (h2:∀ x c,X.env.cells.lookup x=some c->c≠it) (h3:∀ p∈X.pn++aa,p.1≠it):Inv X aa σ H { s with heap:=h',toks:=t' }:=by
 have nit:∀ b u,H b=some u->b≠it:=λb u e z=>by rw [z,hn] at e; cases e
 refine I.step (g':=s.gens) (d':=s.drawn) (ch:=[it]) (λb hb=>?_) (λb o _ _ hc e _=>k b o (λz=>hc (by simp [z])) e) (λb o _ _ hc e _=>⟨o.slots,k b o (λz=>hc (by simp [z])) e⟩) (λ_ _ _ _ n=>n)
  (λb o hc e=>⟨o,k b o (λz=>hc (by simp [z])) e⟩) (λ_ _ e=>e) (λ_ _ _ e=>e) (λb ps e=>⟨#[],by rw [e]; simp⟩) (λm hm=>?_) (λb u e=>?_) I.bare
 ·have e:b=it:=by simpa using hb
  subst e
  exact ⟨h1,hL,h2,h3⟩
 ·obtain ⟨o,es,ep,ho,r⟩:=hm
  exact ⟨o,es,ep,k _ o (Nv hL) ho,r⟩
 ·refine (I.hok b u e).stay (λc v hc q=>k c v ?_ q) (λ_ q=>q) λ_ _ q=>q
  rcases hc with z | z
  ·rw [z]; exact nit b u e
  ·exact nit c _ z
theorem Inv.tok (I:Inv X aa σ H s) (t):Inv X aa σ H { s with toks:=t }:=I.un (h':=s.heap) (t':=t) Un.refl I.hok
theorem Inv.kept (I:Inv X aa σ H s) (k:∀ b u,s.heap.get? b=some u->h'.get? b=some u):Inv X aa σ H { s with heap:=h',toks:=t' }:=I.un (Un.kept k) (I.hok.kept k)
theorem Inv.laid (I:Inv X aa σ H s) (k:∀ b u,s.heap.get? b=some u->h'.get? b=some u) (hp:s.heap.objs.size<=a) (new:bq X.prog X.w (upd H a o) h' a o) :
 Inv X aa σ (upd H a o) { s with heap:=h',toks:=t' }:=I.un (Un.laid k hp (I.hok.fresh hp)) (I.hok.laid k hp new)
theorem Inv.write (I:Inv X aa σ H s) (mu:IG (H x)) (he:e=x\/H e=some (.own x)) (k:∀ b u,b≠e->s.heap.get? b=some u->h'.get? b=some u) (heo:∃ u,h'.get? e=some u)
 (new:bq X.prog X.w (upd H x o) h' x o):Inv X aa σ (upd H x o) { s with heap:=h',toks:=t' }:=I.un (Un.write mu he k heo) (I.hok.write mu he k heo new)
theorem Inv.t8 (I:Inv X aa σ H s) (h:∀ p∈pins',s.heap.get? p.1=some p.2/\H p.1=none/\p.1≠X.env.locals/\p.1∉X.fs/\∀ v,p.2.data≠.cell v):Inv X pins' σ H s :=
 ⟨I.ok,I.os,I.bare,I.base,I.loc,I.cell,I.free,I.freeC,λp hp=>(NF.mp hp).elim (λz=>I.pin p (Q5 _ z)) (h p),I.hok,I.len⟩
theorem pG {N:List Str} (hN:N.Nodup) {i j:Nat} (a:N[i]?=some x) (b:N[j]?=some x):i=j:=by
 obtain ⟨h1,e1⟩:=Nf.mp a
 obtain ⟨h2,e2⟩:=Nf.mp b
 exact (List.getElem_inj hN).mp (e1.trans e2.symm)
theorem v9 (I:Inv X aa σ H s) (hN:X.N.Nodup) (hi:X.N[i]?=some x) (hx:Loc X.env.scope x) (r:RelV v u)
 (h:∀ s',Inv X aa (σ.set i (some v)) H s'->(∃ a,OF a s.heap s'.heap/\(a=X.env.locals\/X.env.cells.lookup x=some a))->Q () s') (hf:X.fn x=true\/X.env.scope.names.lookup x=some .local:=by first | exact .inl rfl | exact .inr rfl | assumption):wpAny M A (storeName X.env x u) Q E s:=by
 obtain ⟨m,hn,hl⟩:=id I.loc
 have hcls:(X.env.scope.kind == .class || (X.env.scope.kind == .module && X.env.locals != X.env.globals))=false:=by rw [I.ok.kind]; rfl
 have hiσ:i<σ.length:=by rw [I.len]; exact (Nf.mp hi).1
 have Fq:=I.Fq
 have tracked:∀ {a:Addr} {h':Heap},(∃ o,s.heap.get? a=some o/\H a=none)->OF a s.heap h'->jb X.prog X.w H h':=λ{a h'} ha hs b ob e=>by
  obtain ⟨_,_,hfree⟩:=ha
  refine (I.hok b ob e).stay (λc w' hc q=>(hs.2 c ?_).trans q) (λ_ q=>q) λ_ _ q=>q
  rintro rfl
  rcases hc with rfl | hc
  ·rw [hfree] at e; cases e
  ·rw [hfree] at hc; cases hc
 rcases hx with hk | hk
 ·refine wpAny_storeName_local hk hn (λh' hn' hs=>?_) hcls
  obtain ⟨oL,_,_,hoL,_⟩:=id hn
  refine h _ ⟨I.ok,I.os,I.bare,⟨λb o e n hb hx=>?_,λb o e n hb hx=>?_,I.base.free,λb o e hx=>?_,I.base.tups,I.base.frzs,I.base.tbls⟩,⟨_,hn',λj y v' e1 e2 e3=>?_⟩,λy c e=>?_,I.free,I.freeC,λp hp=>?_,tracked ⟨oL,hoL,I.free⟩ hs,by simpa using I.len⟩ ⟨_,hs,.inl rfl⟩
  ·exact (hs.2 b (NB (NU (Na e) I.ok.above))).trans (I.base.keep b o e n hb hx)
  ·obtain ⟨sl,e1⟩:=I.base.slot b o e n hb hx
   exact ⟨sl,(hs.2 b (NB (NU (Na e) I.ok.above))).trans e1⟩
  ·obtain ⟨o',e1⟩:=I.base.there b o e hx
   exact ⟨o',(hs.2 b (NB (NU (Na e) I.ok.above))).trans e1⟩
  ·by_cases hj:j=i
   ·subst hj
    rw [hi] at e1; cases e1
    rw [Om hiσ] at e2
    cases e2
    exact ⟨u,r,.inl ⟨hk,by simp⟩⟩
   ·rw [Oq (Nv hj)] at e2
    obtain ⟨u',r',q⟩:=hl j y v' e1 e2 e3
    refine ⟨u',r',?_⟩
    rcases q with ⟨k,e⟩ | ⟨k,c,e,z⟩
    ·refine .inl ⟨k,?_⟩
     have:y≠x:=λe=>hj (pG hN e1 (e ▸ hi))
     simp [this,e]
    ·exact .inr ⟨k,c,e,z.sameBut hs (Fq y c e)⟩
  ·obtain ⟨w',z⟩:=I.cell y c e
   exact ⟨w',z.sameBut hs (Fq y c e)⟩
  ·obtain ⟨e,n,ne,nf,d⟩:=I.pin p hp
   exact ⟨(hs.2 p.1 ne).trans e,n,ne,nf,d⟩
 ·have hfn:X.fn x=true:=by
   rcases hf with z | z
   ·exact z
   ·rw [z] at hk; cases hk
  obtain ⟨c,hc⟩:=I.ok.has x (.inl hk)
  obtain ⟨w',z⟩:=I.cell x c hc
  refine wpAny_storeName_cell I.ok.kind hk hc z (λh' hc' hs=>?_)
  obtain ⟨oc,hoc,hocd⟩:=id z
  refine h { s with heap:=h' } ⟨I.ok,I.os,I.bare,⟨λb o e n hb hx=>?_,λb o e n hb hx=>?_,I.base.free,λb o e hx=>?_,I.base.tups,I.base.frzs,I.base.tbls⟩,⟨m,hn.sameBut hs (Nv (Fq x c hc)),λj y v' e1 e2 e3=>?_⟩,λy c' e=>?_,I.free,I.freeC,λp hp=>?_,tracked ⟨oc,hoc,I.freeC x c hc⟩ hs,by simpa using I.len⟩ ⟨c,hs,.inr hc⟩
  ·exact (hs.2 b (NB (NU (Na e) (I.ok.cab x c hfn hc)))).trans (I.base.keep b o e n hb hx)
  ·obtain ⟨sl,e1⟩:=I.base.slot b o e n hb hx
   exact ⟨sl,(hs.2 b (NB (NU (Na e) (I.ok.cab x c hfn hc)))).trans e1⟩
  ·obtain ⟨o',e1⟩:=I.base.there b o e hx
   exact ⟨o',(hs.2 b (NB (NU (Na e) (I.ok.cab x c hfn hc)))).trans e1⟩
  ·by_cases hj:j=i
   ·subst hj
    rw [hi] at e1; cases e1
    rw [Om hiσ] at e2
    cases e2
    exact ⟨u,r,.inr ⟨.inl hk,c,hc,hc'⟩⟩
   ·rw [Oq (Nv hj)] at e2
    obtain ⟨u',r',q⟩:=hl j y v' e1 e2 e3
    refine ⟨u',r',?_⟩
    rcases q with q | ⟨k,c',e,z'⟩
    ·exact .inl q
    ·refine .inr ⟨k,c',e,z'.sameBut hs ?_⟩
     rintro rfl
     exact hj (pG hN e1 (I.ok.inj _ _ _ e hc ▸ hi))
  ·by_cases hcc:c'=c
   ·subst hcc; exact ⟨_,hc'⟩
   ·obtain ⟨w2,z2⟩:=I.cell y c' e
    exact ⟨w2,z2.sameBut hs hcc⟩
  ·obtain ⟨e,n,ne,nf,d⟩:=I.pin p hp
   refine ⟨(hs.2 p.1 ?_).trans e,n,ne,nf,d⟩
   intro q
   rw [q,hoc] at e
   have q':oc=p.2:=OG e
   exact d w' (by rw [<- q']; exact hocd)
theorem kc (I:Inv X aa σ H s) (hN:X.N.Nodup) (hi:X.N[i]?=some x) (hx:Loc X.env.scope x) (r:RelV v u)
 (h:∀ s',Inv X aa (σ.set i (some v)) H s'->Q () s') (hf:X.fn x=true\/X.env.scope.names.lookup x=some .local:=by first | exact .inl rfl | exact .inr rfl | assumption):wpAny M A (storeName X.env x u) Q E s :=
 v9 I hN hi hx r (λs' I' _=>h s' I') hf
theorem Inv.Ez (I:Inv X aa σ H s) (ho:s'.os=s.os) (u:Un (frs X.stack) ch H H' s.heap s'.heap) (hok:jb X.prog X.w H' s'.heap) (hg:AllBare s'.gens)
 (hch:∀ b∈ch,(b∈X.ex\/X.s₀.heap.objs.size<=b)/\b≠X.env.locals/\(∀ x c,X.env.cells.lookup x=some c->c≠b)/\∀ p∈X.pn++aa,p.1≠b):Inv X aa σ H' s':=by
 obtain ⟨h',g',d',t',o'⟩:=s'
 have e:o'=s.os:=ho
 subst e
 exact I.call (g':=g') (t':=t') (d':=d') u hok hg hch
end
noncomputable abbrev XK:=Value->Option Addr->Hp->Prop
noncomputable abbrev St:=List (Option V)
noncomputable abbrev VK:=V->Hp->Prop
noncomputable abbrev TE:=St->Hp->VK->Prop
noncomputable abbrev TT:=St->Hp->(Bool->Hp->Prop)->Prop
noncomputable abbrev TA:=St->Hp->(List V->Hp->Prop)->Prop
structure Ends where
 nx:St->Hp->Prop
 rt:VK
 bk:St->Hp->Prop:=λ_ _=>False
 ct:St->Hp->Prop:=λ_ _=>False
noncomputable abbrev TS:=Ends->St->Hp->Prop
def EP (X:Cx) (aa:List (Addr×Obj)) (σ:St) (Q:VK) (u:Value) (s':Shared):Prop:=∃ v H',Inv X aa σ H' s'/\RelV v u/\Q v H'
def TP (X:Cx) (aa:List (Addr×Obj)) (σ:St) (Q:Bool->Hp->Prop) (b:Bool) (s':Shared):Prop:=∃ H',Inv X aa σ H' s'/\Q b H'
def AP (X:Cx) (aa:List (Addr×Obj)) (σ:St) (Q:List V->Hp->Prop) (us:List Value) (s':Shared):Prop:=∃ vs H',Inv X aa σ H' s'/\Vals vs us/\Q vs H'
def SP (X:Cx) (aa:List (Addr×Obj)) (D:Ends) (f:Flow) (s':Shared):Prop :=
 match f with
 | .next=>∃ σ' H',Inv X aa σ' H' s'/\D.nx σ' H'
 | .brk=>∃ σ' H',Inv X aa σ' H' s'/\D.bk σ' H'
 | .cont=>∃ σ' H',Inv X aa σ' H' s'/\D.ct σ' H'
 | .ret u=>∃ v σ' H',Inv X aa σ' H' s'/\RelV v u/\D.rt v H'
def PE (X:Cx) (e:Expr) (t:TE):Prop :=
 ∀ (aa:List (Addr×Obj)) (s:Shared) (σ:St) (H:Hp) (Q:VK),Inv X aa σ H s->t σ H Q->wpAny (model X.prog X.w) X.A (eval e X.env) (EP X aa σ Q) X.xe s
def PT (X:Cx) (e:Expr) (t:TT):Prop :=
 ∀ (aa:List (Addr×Obj)) (s:Shared) (σ:St) (H:Hp) (Q:Bool->Hp->Prop),Inv X aa σ H s->t σ H Q->wpAny (model X.prog X.w) X.A (isTrue e X.env (eval e X.env)) (TP X aa σ Q) X.xe s
def PW (X:Cx) (e:Expr) (t:TT):Prop :=
 ∀ (whole:Sem Value) (aa:List (Addr×Obj)) (s:Shared) (σ:St) (H:Hp) (Q:Bool->Hp->Prop),Inv X aa σ H s->t σ H Q->wpAny (model X.prog X.w) X.A (isTrue e X.env whole) (TP X aa σ Q) X.xe s
def PA (X:Cx) (es:List Expr) (t:TA):Prop :=
 ∀ (pos:Pos) (aa:List (Addr×Obj)) (s:Shared) (σ:St) (H:Hp) (Q:List V->Hp->Prop),Inv X aa σ H s->t σ H Q->wpAny (model X.prog X.w) X.A (spliced (backTo pos (starEach es X.env))) (AP X aa σ Q) X.xe s
def PS (X:Cx) (st:Stmt) (t:TS):Prop :=
 ∀ (aa:List (Addr×Obj)) (s:Shared) (σ:St) (H:Hp) (D:Ends),Inv X aa σ H s->t D σ H->wpAny (model X.prog X.w) X.A (exec st X.env) (SP X aa D) X.xe s
def rV (X:Cx) (st:List Stmt) (t:TS):Prop :=
 ∀ (aa:List (Addr×Obj)) (s:Shared) (σ:St) (H:Hp) (D:Ends),Inv X aa σ H s->t D σ H->wpAny (model X.prog X.w) X.A (execs st X.env) (SP X aa D) X.xe s
theorem bJ (h:wpAny M A t Q E s) (hQ:∀ a s,Q a s->Q' a s):wpAny M A t Q' E s:=NQ h hQ λ_ _ x=>x
section
noncomputable def IJ (i:Nat):TE:=λσ H Q=>∃ v,σ[i]?=some (some v)/\Q v H
noncomputable def tC (v:V):TE:=λ_ H Q=>Q v H
theorem rX (hN:X.N[i]?=some x) (hv:K7 X.env.scope x) (hd:(x == ("__debug__":Str))=false:=by decide) (hcd:(x == ("__classdict__":Str))=false:=by decide):PE X (.Name x pos) (IJ i):=by
 intro aa s σ H Q I h
 obtain ⟨v,e,h⟩:=h
 obtain ⟨m,hn,hl⟩:=I.loc
 obtain ⟨u,r,l⟩:=hl i x v hN e hv
 have fin:EP X aa σ Q u s:=⟨v,H,I,r,h⟩
 rcases l with ⟨hk,hm⟩ | ⟨hk,c,hc,hcell⟩
 ·exact wpAny_Name (wpAny_loadName_local I.ok.kind hk hn hm fin) hd
 ·rcases hk with hk | hk
  ·exact wpAny_Name (wpAny_loadName_cell I.ok.kind hk hc hcell fin) hd
  ·exact wpAny_Name (wpAny_loadName_free I.ok.kind hk hc hcell fin hcd) hd
theorem yb {i j pos}:PE X (.Constant (.int i) j pos) (tC (.int i)):=λ_ _ _ H _ I h=>wpAny_Constant_int ⟨.int i,H,I.tok _,⟨_,rfl⟩,h⟩
theorem EA {b j pos}:PE X (.Constant (.bool b) j pos) (tC (.bl b)):=λ_ _ _ H _ I h=>Constant_bool ⟨.bl b,H,I,rfl,h⟩
def Gl (X:Cx) (x:Str):Prop:=X.env.kindOf x=some .globalImplicit
theorem nD (I:Inv X aa σ H s) (hg:Gl X x) (hm:X.mg x=some u) (h:Q u s)
 (hd:(x == ("__debug__":Str))=false:=by decide):wpAny (model X.prog X.w) X.A (eval (.Name x pos) X.env) Q E s :=
 Calls.Name_function_global I.ok.kind hg (Calls.loadGlobal_global (by rw [I.ok.glob]; exact I.mod.glob.keeps I.bk) hm h) hd
theorem eY (I:Inv X aa σ H s) (hg:Gl X x) (hm:X.mg x=none) (hv:bootBuiltins x=some u) (h:Q u s)
 (hn:x≠"__name__":=by decide) (hd:(x == ("__debug__":Str))=false:=by decide):wpAny (model X.prog X.w) X.A (eval (.Name x pos) X.env) Q E s:=by
 obtain ⟨mb,h1,h2⟩:=I.mod.blt
 exact Calls.Name_function_global I.ok.kind hg (Calls.loadGlobal_builtin (by rw [I.ok.glob]; exact I.mod.glob.keeps I.bk) hm (by rw [I.ok.blt]; exact h1.keeps I.bk) ((h2 x hn).trans hv) h) hd
theorem uc (hg:Gl X x) (hm:X.mg x=some u) (r:RelV v u) (hd:(x == ("__debug__":Str))=false:=by decide):PE X (.Name x pos) (tC v) :=
 λ_ _ _ H _ I h=>nD I hg hm ⟨v,H,I,r,h⟩ hd
def PC (X:Cx) (op:CmpOp) (a b:Expr) (t:TE):Prop :=
 ∀ (aa:List (Addr×Obj)) (s:Shared) (σ:St) (H:Hp) (Q:VK),Inv X aa σ H s->t σ H Q ->
  wpAny (model X.prog X.w) X.A (eval a X.env) (λv s₁=>wpAny (model X.prog X.w) X.A (eval b X.env) (λu s₂=>wpAny (model X.prog X.w) X.A (compareOp op v u) (EP X aa σ Q) X.xe s₂) X.xe s₁) X.xe s
noncomputable def tB (t:TE):TT:=λσ H Q=>t σ H λx H1=>∃ c,x=.bl c/\Q c H1
theorem Ft (h:PC X op a b t) (h1:behindInMarks op b=false:=by first | exact nobehind _ (by decide) (by decide) | rfl):PT X (.Compare a [op] [b] pos) (tB t):=by
 intro aa s σ H Q I hw
 refine wpAny_isTrue_Compare1 (bJ (h aa s σ H _ I hw) λv s1 h1=>bJ h1 λu s2 h2=>bJ h2 λc s3 ⟨x,H1,I1,r1,q1⟩=>?_) h1
 obtain ⟨d,rfl,q⟩:=q1
 cases r1
 exact Sq ⟨H1,I1,q⟩
variable {rest:List Expr}
noncomputable def K9 (t u:TT):TT:=λσ H Q=>t σ H λc H1=>if c=true then u σ H1 Q else Q false H1
theorem pw_and1 (ha:PT X a tA):PW X (.BoolOp .And [a] pos) tA:=by
 intro wh aa s σ H Q I h
 refine isTrue_and (bJ (ha aa s σ H Q I h) λc s1 e=>?_)
 cases c with
 | true=>exact isTrue_and_nil e
 | false=>exact e
theorem pw_and (ha:PT X a tA) (hb:PW X (.BoolOp .And (b::rest) pos) tB'):PW X (.BoolOp .And (a::b::rest) pos) (K9 tA tB'):=by
 intro wh aa s σ H Q I h
 refine isTrue_and (bJ (ha aa s σ H _ I h) λc s1 ⟨H1,I1,q1⟩=>?_)
 cases c with
 | true=>exact hb wh aa s1 σ H1 Q I1 q1
 | false=>exact ⟨H1,I1,q1⟩
noncomputable def MJ (t:TT) (ta tb:TE):TE:=λσ H Q=>t σ H λc H1=>if c=true then ta σ H1 Q else tb σ H1 Q
theorem yc (hc:PT X c tA) (ha:PE X a ta) (hb:PE X b tb):PE X (.IfExp c a b pos) (MJ tA ta tb):=by
 intro aa s σ H Q I h
 refine wpAny_IfExp (bJ (hc aa s σ H _ I h) λd s1 ⟨H1,I1,q1⟩=>?_)
 cases d with
 | true=>exact ha aa s1 σ H1 Q I1 q1
 | false=>exact hb aa s1 σ H1 Q I1 q1
end
def gF (K:M0) (H:Hp) (a:Addr) (xs:List V):Prop :=
 Rd H a (.lst xs) \/
  ∃ (o:Obj) (its:Array Value) (n:Nat),K.lookup a=some o/\o.cls=.type "list"/\o.dict=none/\o.data=.seq its n/\its.size<=sizeLine/\Vals xs its.toList
def dh (K:M0) (H:Hp) (a:Addr) (xs:List V):Prop :=
 Rd H a (.tup xs) \/
  ∃ (o:Obj) (its:Array Value) (n:Nat),K.lookup a=some o/\o.cls=.type "tuple"/\o.data=.seq its n/\its.size<=sizeLine/\Vals xs its.toList
noncomputable def La:Value->Option V
 | .none=>some .non
 | .bool b=>some (.bl b)
 | .int i _=>some (.int i)
 | .str x _=>some (.str x)
 | .bytes b _=>some (.byt b)
 | .float b _=>some (.flt b)
 | .ref a=>some (.ref a)
 | .type n=>some (.ty n)
 | _=>none
theorem RelV.abs (r:RelV x u):La u=some x:=by
 cases x with
 | non=>cases r; rfl
 | bl _=>cases r; rfl
 | int _=>obtain ⟨t,rfl⟩:=r; rfl
 | str _=>obtain ⟨t,rfl⟩:=r; rfl
 | byt _=>obtain ⟨t,rfl⟩:=r; rfl
 | flt _=>obtain ⟨t,rfl⟩:=r; rfl
 | ref _=>cases r; rfl
 | ty _=>cases r; rfl
theorem RelV.inj (r:RelV x u) (q:RelV y u):x=y:=OG (r.abs.symm.trans q.abs)
theorem Vals.inj:∀ {xs ys:List V} {us:List Value},Vals xs us->Vals ys us->xs=ys
 | _,_,_,.nil,.nil=>rfl
 | _,_,_,.cons r t,.cons r' t'=>by rw [r.inj r',Vals.inj t t']
theorem Inv.list (I:Inv X aa σ H s) (h:gF X.K H a xs):∃ its:List Value,Vals xs its/\PlainL s.heap a its.toArray/\xs.length<=sizeLine:=by
 rcases h with h | ⟨o,its,n,hk,hc,hd,hs,hz,r⟩
 ·obtain ⟨z,its,n,r,e⟩:=h.ok I.hok
  exact ⟨its,r,⟨_,n,e,rfl,rfl,rfl⟩,z⟩
 ·refine ⟨its.toList,r,⟨o,n,I.BI a o hk,hc,hd,by simpa using hs⟩,?_⟩
  have e:=r.length
  simp only [NT] at e
  lia
theorem Inv.tuple (I:Inv X aa σ H s) (h:dh X.K H a xs):∃ its:List Value,Vals xs its/\IsTup s.heap a its.toArray/\xs.length<=sizeLine:=by
 rcases h with h | ⟨o,its,n,hk,hc,hs,hz,r⟩
 ·obtain ⟨z,its,r,p⟩:=h.ok I.hok
  exact ⟨its,r,p,z⟩
 ·refine ⟨its.toList,r,⟨o,I.BI a o hk,hc,n,by simpa using hs⟩,?_⟩
  have e:=r.length
  simp only [NT] at e
  lia
theorem Inv.pH (I:Inv X aa σ H s) (h:gF X.K H a xs) (h':gF X.K H a ys):xs=ys:=by
 obtain ⟨its,r,⟨o,n,e,_,_,d⟩,_⟩:=I.list h
 obtain ⟨its',r',⟨o',n',e',_,_,d'⟩,_⟩:=I.list h'
 rw [e] at e'; cases e'
 rw [d] at d'
 injection d' with d1 _
 have:its=its':=by simpa using congrArg Array.toList d1
 subst this
 exact r.inj r'
theorem Inv.jd (I:Inv X aa σ H s) (h:dh X.K H a xs) (h':dh X.K H a ys):xs=ys:=by
 obtain ⟨its,r,⟨o,e,_,n,d⟩,_⟩:=I.tuple h
 obtain ⟨its',r',⟨o',e',_,n',d'⟩,_⟩:=I.tuple h'
 rw [e] at e'; cases e'
 rw [d] at d'
 injection d' with d1 _
 have:its=its':=by simpa using congrArg Array.toList d1
 subst this
 exact r.inj r'
noncomputable abbrev Cx.lM (X:Cx) (E:Value->Shared->Prop):Cx:={ X with xe:=E }
noncomputable abbrev Cx.Ir (X:Cx):Cx:=X.lM λ_ _=>False
theorem Cx.Ok.lM {X:Cx} (ok:X.Ok) (E):(X.lM E).Ok :=
 ⟨ok.mod,ok.kind,ok.glob,ok.blt,ok.above,ok.inj,ok.has,ok.cab,ok.hd,ok.frames,ok.stk,ok.exf,ok.bs,ok.bsz,ok.noex,ok.exfs,ok.jc,ok.frf⟩
theorem Cx.Ok.fX {X:Cx} (ok:(X.lM E).Ok):X.Ok :=
 ⟨ok.mod,ok.kind,ok.glob,ok.blt,ok.above,ok.inj,ok.has,ok.cab,ok.hd,ok.frames,ok.stk,ok.exf,ok.bs,ok.bsz,ok.noex,ok.exfs,ok.jc,ok.frf⟩
theorem Inv.lM (I:Inv X aa σ H s) (E):Inv (X.lM E) aa σ H s:=⟨I.ok.lM E,I.os,I.bare,I.base,I.loc,I.cell,I.free,I.freeC,I.pin,I.hok,I.len⟩
theorem Inv.fX (I:Inv (X.lM E) aa σ H s):Inv X aa σ H s:=⟨I.ok.fX,I.os,I.bare,I.base,I.loc,I.cell,I.free,I.freeC,I.pin,I.hok,I.len⟩
theorem SP.fX (h:SP (X.lM E) aa D f s'):SP X aa D f s':=by
 cases f with
 | next=>obtain ⟨σ',H',I,q⟩:=h; exact ⟨σ',H',I.fX,q⟩
 | brk=>obtain ⟨σ',H',I,q⟩:=h; exact ⟨σ',H',I.fX,q⟩
 | cont=>obtain ⟨σ',H',I,q⟩:=h; exact ⟨σ',H',I.fX,q⟩
 | ret u=>obtain ⟨v,σ',H',I,r,q⟩:=h; exact ⟨v,σ',H',I.fX,r,q⟩
theorem rV.Ir {st:List Stmt} (h:rV X.Ir st t):rV X st t:=λaa s σ H D I hw =>
 NQ (h aa s σ H D (I.lM _) hw) (λ_ _ q=>q.fX) λ_ _ z=>Oc z
section
variable {st:Stmt} {rest:List Stmt}
noncomputable def IK:TS:=λD σ H=>D.nx σ H
noncomputable def Lb (t u:TS):TS:=λD σ H=>t { D with nx:=u D } σ H
theorem BZ:rV X [] IK:=λ_ _ σ H _ I h=>wpAny_execs_nil ⟨σ,H,I,h⟩
theorem yd (h1:PS X st t) (h2:rV X rest u):rV X (st::rest) (Lb t u):=by
 intro aa s σ H D I h
 refine wpAny_execs_cons (bJ (h1 aa s σ H { D with nx:=u D } I h) λf s1 q=>?_)
 cases f with
 | next =>
  obtain ⟨σ',H',I',q⟩:=q
  exact h2 aa s1 σ' H' D I' q
 | ret v=>exact q
 | brk=>exact q
 | cont=>exact q
theorem Inv.quiet (I:Inv X aa σ H s):interactive X.env=false:=by simp [interactive,I.ok.kind]
noncomputable def IL (te:TE):TS:=λD σ H=>te σ H λ_ H1=>D.nx σ H1
theorem nE (he:PE X e te) (hs:swapsWith e none pos.line X.env=pure false:=by rfl):PS X (.Expr e pos) (IL te):=by
 intro aa s σ H D I h
 exact wpAny_Expr_any (bJ (he aa s σ H _ I h) λv s1 ⟨x,H1,I1,r1,q1⟩=>⟨σ,H1,I1,q1⟩) I.quiet hs
noncomputable def Lc (te:TE):TS:=λD σ H=>te σ H D.rt
theorem ye (he:PE X e te):PS X (.Return (some e) pos) (Lc te):=by
 intro aa s σ H D I h
 exact wpAny_Return_some (bJ (he aa s σ H _ I h) λv s1 ⟨x,H1,I1,r1,q1⟩=>⟨x,σ,H1,I1,r1,q1⟩)
noncomputable def Ld (c:TT) (t u:TS):TS:=λD σ H=>c σ H λb H1=>if b=true then t D σ H1 else u D σ H1
theorem IM (hc:PT X c tc) (ha:rV X a t) (hb:rV X b u):PS X (.If c a b pos) (Ld tc t u):=by
 intro aa s σ H D I h
 refine wpAny_If (bJ (hc aa s σ H _ I h) λd s1 ⟨H1,I1,q1⟩=>?_)
 cases d with
 | true=>exact ha aa s1 σ H1 D I1 q1
 | false=>exact hb aa s1 σ H1 D I1 q1
end
noncomputable abbrev TG:=V->St->Hp->(St->Hp->Prop)->Prop
noncomputable abbrev IP:=List V->St->Hp->(St->Hp->Prop)->Prop
def PG (X:Cx) (target:Expr) (t:TG):Prop :=
 ∀ (aa:List (Addr×Obj)) (s:Shared) (σ:St) (H:Hp) (v:V) (u:Value) (Q:St->Hp->Prop),Inv X aa σ H s->RelV v u->t v σ H Q ->
  wpAny (model X.prog X.w) X.A (assign target X.env u) (λ_ s'=>∃ σ' H',Inv X aa σ' H' s'/\Q σ' H') X.xe s
def Iu (X:Cx) (ts:List Expr) (t:IP):Prop :=
 ∀ (aa:List (Addr×Obj)) (s:Shared) (σ:St) (H:Hp) (vs:List V) (us:List Value) (Q:St->Hp->Prop),Inv X aa σ H s->Vals vs us->t vs σ H Q ->
  wpAny (model X.prog X.w) X.A (assignInOrder ((assignEach ts X.env).map (·.2)) us) (λ_ s'=>∃ σ' H',Inv X aa σ' H' s'/\Q σ' H') X.xe s
noncomputable abbrev Fv:=V->V->V->Hp->(Hp->Prop)->Prop
def IQ (X:Cx) (t:Fv):Prop :=
 ∀ (aa:List (Addr×Obj)) (s:Shared) (σ:St) (H:Hp) (o i v:V) (ov iv u:Value) (Q:Hp->Prop),Inv X aa σ H s->RelV o ov->RelV i iv->RelV v u->t o i v H Q ->
  wpAny (model X.prog X.w) X.A (setItem ov iv u) (λ_ s'=>∃ H',Inv X aa σ H' s'/\Q H') X.xe s
noncomputable abbrev Mw:=V->V->Hp->VK->Prop
def Mx (X:Cx) (op:Operator) (t:Mw):Prop :=
 ∀ (aa:List (Addr×Obj)) (s:Shared) (σ:St) (H:Hp) (x y:V) (v u:Value) (Q:VK),Inv X aa σ H s->RelV x v->RelV y u->t x y H Q ->
  wpAny (model X.prog X.w) X.A (inplaceOp op v u) (EP X aa σ Q) X.xe s
noncomputable def EB (i:Nat):TG:=λv σ H Q=>Q (σ.set i (some v)) H
theorem nF (hN:X.N.Nodup) (hi:X.N[i]?=some x) (hx:Loc X.env.scope x) (hf:X.fn x=true\/X.env.scope.names.lookup x=some .local:=by first | exact .inl rfl | exact .inr rfl | assumption):PG X (.Name x pos) (EB i):=by
 intro aa s σ H v u Q I r h
 exact wpAny_assign_Name (kc I hN hi hx r (λs' I'=>⟨_,H,I',h⟩) hf)
noncomputable def Le:IP:=λvs σ H Q=>vs=[]/\Q σ H
noncomputable def IS (t:TG) (u:IP):IP:=λvs σ H Q=>∃ v r,vs=v::r/\t v σ H λσ' H'=>u r σ' H' Q
theorem B0:Iu X [] Le:=by
 intro aa s σ H vs us Q I r h
 obtain ⟨e,h⟩:=h
 subst e
 cases r
 exact assignInOrder_nil ⟨σ,H,I,h⟩
theorem yf (h1:PG X e t) (h2:Iu X es u)
 (hs:(assignEach (e::es) X.env).map (·.2)=assign e X.env::(assignEach es X.env).map (·.2):=by rfl):Iu X (e::es) (IS t u):=by
 intro aa s σ H vs us Q I r h
 obtain ⟨v,vr,e1,h⟩:=h
 subst e1
 cases r with
 | cons r rr =>
  rw [hs]
  refine assignInOrder_cons (bJ (h1 aa s σ H _ _ _ I r h) λ_ s1 ⟨σ1,H1,I1,q1⟩=>?_)
  exact h2 aa s1 σ1 H1 _ _ Q I1 rr q1
noncomputable def Lf (K:M0) (n:Nat) (t:IP):TG:=λv σ H Q=>∃ a xs,v=.ref a/\dh K H a xs/\xs.length=n/\t xs σ H Q
theorem Fx (hc:X.calm=true) (h:Iu X es t)
 (hn:(assignEach es X.env).length=n:=by rfl) (hst:(assignEach es X.env).findIdx? (·.1)=none:=by rfl):PG X (.Tuple es k pos) (Lf X.K n t):=by
 intro aa s σ H v u Q I r hw
 obtain ⟨a,xs,e1,hq,hl,hw⟩:=hw
 subst e1
 cases r
 obtain ⟨its,rv,ht,hz⟩:=I.tuple hq
 refine assign_Tuple_tuple (I.ok.hd hc) ht (by simp [hn,<- hl,rv.length]) hst λh' hx=>?_
 have I1:Inv X aa σ H { s with heap:=h' }:=I.kept (t':=s.toks) λb o e=>hx b o (NB (Na e)) e
 exact h aa _ σ H xs _ Q I1 (by simpa using rv) hw
noncomputable def Lg (to ti:TE) (t:Fv):TG:=λv σ H Q=>to σ H λo H1=>ti σ H1 λi H2=>t o i v H2 λH3=>Q σ H3
theorem Fy (ho:PE X o to) (hi:PE X i ti) (hs:IQ X t)
 (ha:∀ v,assign (.Subscript o i pos) X.env v=(do
   let ov <- holding [v] (eval o X.env)
   let iv <- holding [v,ov] (eval i X.env)
   standAt pos
   holding [v,ov,iv] (setItem ov iv v)
   release [v,ov,iv] []):=by intro _; rfl):PG X (.Subscript o i pos) (Lg to ti t):=by
 intro aa s σ H v u Q I r h
 rw [ha]
 refine MZ (Oi (bJ (ho aa s σ H _ I h) λov s1 ⟨x,H1,I1,r1,q1⟩=>?_))
 refine MZ (Oi (bJ (hi aa s1 σ H1 _ I1 q1) λiv s2 ⟨y,H2,I2,r2,q2⟩=>?_))
 refine MZ (wpAny_standAt (MZ (Oi (bJ (hs aa s2 σ H2 x y v ov iv u _ I2 r1 r2 r q2) λ_ s3 ⟨H3,I3,q3⟩=>?_))))
 exact wpAny_release ⟨σ,H3,I3,q3⟩
noncomputable def IT (te:TE) (g:TG):TS:=λD σ H=>te σ H λx H1=>g x σ H1 D.nx
theorem yg (he:PE X e te) (hg:PG X tg g) (hs:swapsWithSole [tg] e pos.line X.env=pure false:=by rfl) (hw:swappedStores [tg] e X.env=pure none:=by rfl)
 (h1:(assignEach [tg] X.env).map (·.2)=[assign tg X.env]:=by rfl):PS X (.Assign [tg] e pos) (IT te g):=by
 intro aa s σ H D I h
 refine wpAny_Assign_stores (bJ (he aa s σ H _ I h) λv s1 ⟨x,H1,I1,r1,q1⟩=>?_) hs hw
 rw [h1]
 exact bJ (hg aa s1 σ H1 x v _ I1 r1 q1) λ_ s2 q=>q
theorem yh (hN:X.N.Nodup) (hi:X.N[i]?=some x) (hx:Loc X.env.scope x) (he:PE X e te) (hs:swapsWith e (some (.Name x pos')) pos.line X.env=pure false:=by rfl) (hf:X.fn x=true\/X.env.scope.names.lookup x=some .local:=by first | exact .inl rfl | exact .inr rfl | assumption) :
 PS X (.Assign [.Name x pos'] e pos) (IT te (EB i)):=by
 intro aa s σ H D I h
 refine wpAny_Assign_Name (bJ (he aa s σ H _ I h) λv s1 ⟨y,H1,I1,r1,q1⟩=>?_) hs
 exact kc I1 hN hi hx r1 (λs2 I2=>⟨_,H1,I2,q1⟩) hf
noncomputable def Lh (i:Nat) (te:TE) (ti:Mw):TS:=λD σ H=>∃ x,σ[i]?=some (some x)/\te σ H λy H1=>ti x y H1 λz H2=>D.nx (σ.set i (some z)) H2
theorem Fz (hN:X.N.Nodup) (hi:X.N[i]?=some x) (hx:Loc X.env.scope x) (he:PE X e te) (ho:Mx X op ti) (hf:X.fn x=true\/X.env.scope.names.lookup x=some .local:=by first | exact .inl rfl | exact .inr rfl | assumption) :
 PS X (.AugAssign (.Name x pos') op e pos) (Lh i te ti):=by
 intro aa s σ H D I h
 obtain ⟨v,e1,h⟩:=h
 obtain ⟨m,hn,hl⟩:=I.loc
 have vis:K7 X.env.scope x:=by rcases hx with k | k; exact .inl k; exact .inr (.inl k)
 obtain ⟨u,r,l⟩:=hl i x v hi e1 vis
 refine wpAny_AugAssign_Name ?_
 have go:wpAny (model X.prog X.w) X.A (eval e X.env) (λw s₂=>wpAny (model X.prog X.w) X.A (inplaceOp op u w) (λr s₃=>wpAny (model X.prog X.w) X.A (storeName X.env x r) (λ_=>SP X aa D .next) X.xe s₃) X.xe s₂) X.xe s:=by
  refine bJ (he aa s σ H _ I h) λw s1 ⟨y,H1,I1,r1,q1⟩=>?_
  refine bJ (ho aa s1 σ H1 v y u w _ I1 r r1 q1) λz s2 ⟨zv,H2,I2,r2,q2⟩=>?_
  exact kc I2 hN hi hx r2 (λs3 I3=>⟨_,H2,I3,q2⟩) hf
 rcases l with ⟨hk,hm⟩ | ⟨hk,c,hc,hcell⟩
 ·exact wpAny_loadName_local I.ok.kind hk hn hm go
 ·rcases hk with hk | hk
  ·exact wpAny_loadName_cell I.ok.kind hk hc hcell go
  ·rcases hx with k | k
   ·have:X.env.scope.names.lookup x=some .free:=hk
    rw [k] at this; cases this
   ·have:X.env.scope.names.lookup x=some .free:=hk
    rw [k] at this; cases this
noncomputable def FA (c:TT) (tb:TS):TS:=λD σ H=>∃ W:Nat->St->Hp->Prop,(∃ m,W m σ H)/\∀ m σ H,W m σ H ->
 c σ H λb H1=>if b=true then ∃ N:St->Hp->Prop,(∀ σ' H',N σ' H'->∃ m',m'<m/\W m' σ' H')/\tb { D with nx:=N,ct:=N,bk:=D.nx } σ H1 else D.nx σ H1
theorem yi (hp:PassesOwn (model X.prog X.w) X.A X.env X.xe) (hc:PT X c tc) (hb:rV X body tb):PS X (.While c body [] pos) (FA tc tb):=by
 intro aa s σ H D I h
 obtain ⟨W,⟨m0,w0⟩,turn⟩:=h
 refine wpAny_While (codeAny_whileLoop (λn s'=>∃ σ' H',Inv X aa σ' H' s'/\W n σ' H') ?_ m0 ⟨σ,H,I,w0⟩)
 rintro n s1 ⟨σ1,H1,I1,w1⟩
 refine Pq hp (bJ (hc aa s1 σ1 H1 _ I1 (turn n σ1 H1 w1)) λb s2 ⟨H2,I2,q2⟩=>?_)
 cases b with
 | true =>
  obtain ⟨N,hN,q2⟩:=q2
  rw [if_pos rfl]
  refine Pq hp (bJ (hb aa s2 σ1 H2 _ I2 q2) λf s3 q3=>?_)
  cases f with
  | next =>
   obtain ⟨σ3,H3,I3,n3⟩:=q3
   obtain ⟨m',hm,w3⟩:=hN σ3 H3 n3
   exact ⟨m',hm,σ3,H3,I3,w3⟩
  | cont =>
   obtain ⟨σ3,H3,I3,n3⟩:=q3
   obtain ⟨m',hm,w3⟩:=hN σ3 H3 n3
   exact ⟨m',hm,σ3,H3,I3,w3⟩
  | brk=>exact q3
  | ret v=>exact q3
 | false =>
  rw [if_neg Nc]
  exact wpAny_execs_nil ⟨σ1,H2,I2,q2⟩
structure It where
 go:Nat->Hp->Prop
 yld:Nat->Hp->V->Hp->Prop
 stop:Nat->Hp->Prop
def fk (X:Cx) (aa:List (Addr×Obj)) (H:Hp) (b:Addr):Prop :=
 H b=none/\b≠X.env.locals/\b∉X.fs/\(b∈X.ex\/X.s₀.heap.objs.size<=b)/\(∀ x c,X.env.cells.lookup x=some c->c≠b)/\∀ p∈X.pn++aa,p.1≠b
theorem Inv.lN (I:Inv X aa σ H s) (hb:s.heap.objs.size<=b) (hn:H' b=none):fk X aa H' b:=by
 refine ⟨hn,Qd (NU I.lt hb),I.II hb,.inr (Nb I.sz hb),λx c e z=>?_,λp hp z=>?_⟩
 ·obtain ⟨v,q⟩:=I.cell x c e
  exact absurd (NU q.lt (by rw [z]; exact hb)) (OC _)
 ·exact absurd (NU (Na (I.pin p hp).1) (by rw [z]; exact hb)) (OC _)
structure Turn (P:Program) (w:World) (K:M0) (tg:Expr) (J:It) (fp:List Addr) (it:Addr) (tn:Nat->Heap->Prop):Prop where
 mem:it∈fp
 obj:∀ i h,tn i h->∀ b∈fp,∃ o,h.get? b=some o/\∀ v,o.data≠.cell v
 keep:∀ i h h',tn i h->(∀ b∈fp,∀ o,h.get? b=some o->h'.get? b=some o)->tn i h'
 item:∀ (X:Cx),X.prog=P->X.w=w->X.K=K->X.calm=true->∀ (i:Nat) (aa:List (Addr×Obj)) (s:Shared) (σ:St) (H:Hp) (E:Value->Shared->Prop),Inv X aa σ H s->(∀ b∈fp,fk X aa H b)->tn i s.heap->J.go i H ->
  wpAny (model P w) X.A (pyNext (.ref it)) (λr s1=>∃ u,r=some u /\
   wpAny (model P w) X.A (letOwnedTupleGo tg (.ref it) u) (λ_ s2=>∃ x H',Inv X aa σ H' s2/\RelV x u/\J.yld i H x H'/\tn (i+1) s2.heap/\∀ b∈fp,H' b=none) E s1) E s
 done:∀ (X:Cx),X.prog=P->X.w=w->X.K=K->X.calm=true->∀ (i:Nat) (aa:List (Addr×Obj)) (s:Shared) (σ:St) (H:Hp) (E:Value->Shared->Prop),Inv X aa σ H s->(∀ b∈fp,fk X aa H b)->tn i s.heap->J.stop i H ->
  wpAny (model P w) X.A (pyNext (.ref it)) (λr s1=>r=none/\Inv X aa σ H s1) E s
 self:∀ (A:Around) (i:Nat) (s:Shared) (Q:Value->Shared->Prop) (E:Value->Shared->Prop),tn i s.heap->Q (.ref it) s->wpAny (model P w) A (pyIter (.ref it)) Q E s
noncomputable abbrev TI:=St->Hp->(It->Hp->Prop)->Prop
def Li (X:Cx) (aa:List (Addr×Obj)) (σ:St) (tg:Expr) (R:It->Hp->Prop) (itv:Value) (s2:Shared):Prop :=
 ∃ (it:Addr) (fp:List Addr) (tn:Nat->Heap->Prop) (J:It) (H':Hp),itv=.ref it/\Inv X aa σ H' s2/\Turn X.prog X.w X.K tg J fp it tn/\tn 0 s2.heap/\(∀ b∈fp,fk X aa H' b)/\R J H'
def PI (X:Cx) (tg iter:Expr) (wi:TI):Prop :=
 ∀ (aa:List (Addr×Obj)) (s:Shared) (σ:St) (H:Hp) (R:It->Hp->Prop),Inv X aa σ H s->wi σ H R ->
  wpAny (model X.prog X.w) X.A (eval iter X.env) (λv s1=>wpAny (model X.prog X.w) X.A (pyIter v) (Li X aa σ tg R) X.xe s1) X.xe s
theorem l6 (ho:s.heap.get? it=some o) (hc:o.cls=.type n) (hd:o.data=.fields vs)
 (hn:["enumerate","zip","dict_itemiterator","dict_reverseitemiterator","odict_iterator","itertools.zip_longest","itertools.pairwise"].contains n=false) (hQ:Q () s):wpAny M A (letOwnedTupleGo tg (.ref it) u) Q E s:=by
 unfold letOwnedTupleGo
 cases tg <;> first
  | exact M3 hQ
  | (cases u <;> first
      | exact M3 hQ
      | (refine MZ (wpAny_load ho ?_)
         rw [hc,hd]
         show wpAny M A (if (["enumerate","zip","dict_itemiterator","dict_reverseitemiterator","odict_iterator","itertools.zip_longest","itertools.pairwise"].contains n && vs[0]? == some (rawInt _))=true then _ else _) Q E s
         rw [if_neg (by intro h; rw [hn,Bool.false_and] at h; cases h)]
         exact M3 hQ))
noncomputable def Lj (K:M0) (a:Addr):It :=
 ⟨λi H=>∃ xs x,gF K H a xs/\xs[i]?=some x,λi H x H'=>H'=H/\∀ xs,gF K H a xs->xs[i]?=some x,λi H=>∃ xs,gF K H a xs/\xs.length<=i⟩
noncomputable def Lk (K:M0) (a:Addr):It :=
 ⟨λi H=>∃ xs x,dh K H a xs/\xs[i]?=some x,λi H x H'=>H'=H/\∀ xs,dh K H a xs->xs[i]?=some x,λi H=>∃ xs,dh K H a xs/\xs.length<=i⟩
noncomputable def KO (lo:Int) (n:Nat):It:=⟨λi _=>i<n,λi H x H'=>H'=H/\x=.int (lo+i),λi _=>n<=i⟩
theorem wc {P:Program} {w:World} {K:M0} {tg:Expr} (a it:Addr):Turn P w K tg (Lj K a) [it] it (λi h=>h.IsListIter it a i) where
 mem:=by simp
 obj:=λi h st b hb=>by
  have e:b=it:=by simpa using hb
  subst e
  obtain ⟨o,e,c,d⟩:=st
  exact ⟨o,e,λv z=>by rw [d] at z; cases z⟩
 keep:=λi h h' st k=>st.at λo e=>k it (by simp) o e
 item:=by
  intro X hP hw hK hc i aa s σ H E I hf st hg
  subst hP hw hK
  obtain ⟨xs,x,hq,hx⟩:=hg
  obtain ⟨its,rv,p,hz⟩:=I.list hq
  obtain ⟨u,hu,ru⟩:=rv.get hx
  obtain ⟨f0,f1,f2,f3,f4,f5⟩:=hf it (by simp)
  refine wpAny_pyNext_list_item st p.isList (x:=u) (by simpa using hu) λh' st' sb=>?_
  have I1:Inv X aa σ H { s with heap:=h' }:=I.turned (t':=s.toks) (λb o hb e=>(sb.2 b hb).trans e) f0 f1 f3 f4 f5
  obtain ⟨o,e,c,d⟩:=id st'
  exact ⟨u,rfl,l6 (s:={ s with heap:=h' }) e c d (by decide) ⟨x,H,I1,ru,⟨rfl,λys hy=>by rw [I.pH hy hq]; exact hx⟩,st',λb hb=>(hf b hb).1⟩⟩
 done:=by
  intro X hP hw hK hc i aa s σ H E I hf st hg
  subst hP hw hK
  obtain ⟨xs,hq,hx⟩:=hg
  obtain ⟨its,rv,p,hz⟩:=I.list hq
  obtain ⟨f0,f1,f2,f3,f4,f5⟩:=hf it (by simp)
  have hl:=rv.length
  exact wpAny_pyNext_list_end (I.ok.hd hc) st p.isList (by simp; lia) λh' eb=>⟨rfl,I.turned (t':=s.toks) (λb o hb e=>eb b o hb e) f0 f1 f3 f4 f5⟩
 self:=λ_ _ _ _ _ st h=>wpAny_pyIter_listiter st h
theorem rY {P:Program} {w:World} {K:M0} {tg:Expr} (a it:Addr):Turn P w K tg (Lk K a) [it] it (λi h=>h.IsTupleIter it a i) where
 mem:=by simp
 obj:=λi h st b hb=>by
  have e:b=it:=by simpa using hb
  subst e
  obtain ⟨o,e,c,d⟩:=st
  exact ⟨o,e,λv z=>by rw [d] at z; cases z⟩
 keep:=λi h h' st k=>st.at λo e=>k it (by simp) o e
 item:=by
  intro X hP hw hK hc i aa s σ H E I hf st hg
  subst hP hw hK
  obtain ⟨xs,x,hq,hx⟩:=hg
  obtain ⟨its,rv,p,hz⟩:=I.tuple hq
  obtain ⟨u,hu,ru⟩:=rv.get hx
  obtain ⟨f0,f1,f2,f3,f4,f5⟩:=hf it (by simp)
  refine wpAny_pyNext_tuple_item st (show s.heap.IsTuple a its.toArray from p) (x:=u) (by simpa using hu) λh' st' sb=>?_
  have I1:Inv X aa σ H { s with heap:=h' }:=I.turned (t':=s.toks) (λb o hb e=>(sb.2 b hb).trans e) f0 f1 f3 f4 f5
  obtain ⟨o,e,c,d⟩:=id st'
  exact ⟨u,rfl,l6 (s:={ s with heap:=h' }) e c d (by decide) ⟨x,H,I1,ru,⟨rfl,λys hy=>by rw [I.jd hy hq]; exact hx⟩,st',λb hb=>(hf b hb).1⟩⟩
 done:=by
  intro X hP hw hK hc i aa s σ H E I hf st hg
  subst hP hw hK
  obtain ⟨xs,hq,hx⟩:=hg
  obtain ⟨its,rv,p,hz⟩:=I.tuple hq
  obtain ⟨f0,f1,f2,f3,f4,f5⟩:=hf it (by simp)
  have hl:=rv.length
  exact wpAny_pyNext_tuple_end (I.ok.hd hc) st (show s.heap.IsTuple a its.toArray from p) (by simp; lia) λh' eb=>⟨rfl,I.turned (t':=s.toks) (λb o hb e=>eb b o hb e) f0 f1 f3 f4 f5⟩
 self:=λ_ _ _ _ _ st h=>wpAny_pyIter_tupleiter st h
theorem rZ {P:Program} {w:World} {K:M0} {tg:Expr} (it:Addr) (lo:Int) (n:Nat):Turn P w K tg (KO lo n) [it] it (λi h=>IsRangeIter h it (lo+(i:Nat) * 1) ((n:Int) - (i:Nat)) 1) where
 mem:=by simp
 obj:=λi h st b hb=>by
  have e:b=it:=by simpa using hb
  subst e
  exact ⟨_,st,λv z=>by
   have z':RQ _=Data.cell v:=z
   cases z'⟩
 keep:=λi h h' st k=>k it (by simp) _ st
 item:=by
  intro X hP hw hK hc i aa s σ H E I hf st hg
  subst hP hw hK
  obtain ⟨f0,f1,f2,f3,f4,f5⟩:=hf it (by simp)
  have W:=Walks.range (prog:=X.prog) (w:=X.w) (I.ok.hd hc) it lo 1 n
  refine W.item i s _ _ hg st λv h' tk hv st' kk=>?_
  obtain ⟨t,rfl⟩:=hv
  have I1:Inv X aa σ H { s with heap:=h',toks:=tk }:=I.turned (λb o hb e=>kk b o (by simpa using hb) e) f0 f1 f3 f4 f5
  refine ⟨_,rfl,l6 (s:={ s with heap:=h',toks:=tk }) (n:="range_iterator") st' rfl rfl (by decide) ⟨.int (lo+i),H,I1,⟨t,?_⟩,⟨rfl,rfl⟩,st',λb hb=>(hf b hb).1⟩⟩
  rw [Int.mul_one]
 done:=by
  intro X hP hw hK hc i aa s σ H E I hf st hg
  subst hP hw hK
  obtain ⟨f0,f1,f2,f3,f4,f5⟩:=hf it (by simp)
  exact wpAny_pyNext_range_end (I.ok.hd hc) st (by have:n<=i:=hg; lia) λh' eb=>⟨rfl,I.turned (t':=s.toks) (λb o hb e=>eb b o hb e) f0 f1 f3 f4 f5⟩
 self:=λ_ _ _ _ _ st h=>wpAny_pyIter_rangeiter st h
theorem yj {lo hi:Int} (I:Inv X aa σ H s) (h1: -(2 ^ 62)<=lo) (h2:lo<2 ^ 62) (h3: -(2 ^ 62)<=hi) (h4:hi<2 ^ 62)
 (q:R (KO lo (hi - lo).toNat) H):wpAny (model X.prog X.w) X.A (pyIter (.ref s.heap.objs.size)) (Li X aa σ tg R) E { s with heap:=s.heap.push { cls:=.type "range",data:=.fields #[.int lo t,.int hi u,.int 1 v] },toks:=tk }:=by
 refine wpAny_pyIter_range (IsRange.new ..) (small_one h1 h2 h3 h4) ?_
 have I1:Inv X aa σ H { s with heap:=s.heap.push { cls:=.type "range",data:=.fields #[.int lo t,.int hi u,.int 1 v] },toks:=tk }:=I.kept λb o e=>M9 _ e
 refine ⟨(s.heap.push { cls:=.type "range",data:=.fields #[.int lo t,.int hi u,.int 1 v] }).objs.size,[(s.heap.push { cls:=.type "range",data:=.fields #[.int lo t,.int hi u,.int 1 v] }).objs.size],_,_,H,rfl,
  I1.kept (t':=tk) λb o e=>M9 _ e,rZ _ lo (hi - lo).toNat,?_,λb hb=>?_,q⟩
 ·have e1:lo+((0:Nat):Int) * 1=lo:=by simp
  have e2:(((hi - lo).toNat:Nat):Int) - ((0:Nat):Int)=QV lo hi 1:=by rw [rangeSize_one]; split <;> lia
  show IsRangeIter _ _ (lo+((0:Nat):Int) * 1) ((((hi - lo).toNat:Nat):Int) - ((0:Nat):Int)) 1
  rw [e1,e2]
  exact Nl _ rfl
 ·have e:b=(s.heap.push { cls:=.type "range",data:=.fields #[.int lo t,.int hi u,.int 1 v] }).objs.size:=by simpa using hb
  subst e
  exact I1.lN (M4 _) (I1.hok.fresh (M4 _))
noncomputable def IU (ta:TA):TI:=λσ H R=>ta σ H λvs H1=>∃ j:Int,vs=[.int j]/\ -(2 ^ 62)<=j/\j<2 ^ 62/\R (KO 0 j.toNat) H1
theorem we (hg:Gl X "range") (hm:X.mg "range"=none) (ha:PA X [a] ta) (hs:starEach [a] X.env=[(false,eval a X.env)]:=by rfl):PI X tg (.Call (.Name "range" p) [a] [] pos) (IU ta):=by
 intro aa s σ H R I h
 refine Call_ (eY I hg hm boot_range (Qk (bJ (ha pos aa s σ H _ I h) λus s1 ⟨vs,H1,I1,r1,q1⟩=>?_) hs rfl))
 obtain ⟨j,e,q1,q2,q⟩:=q1
 subst e
 cases r1 with
 | cons r rr =>
  cases rr
  obtain ⟨t,rfl⟩:=r
  exact call_range_1 (yj I1 (by lia) (by lia) q1 q2 (by simpa using q))
noncomputable def Ll (wi:TI) (g:TG) (tb:TS):TS:=λD σ H=>wi σ H λJ H1=>∃ W:Nat->Nat->St->Hp->Prop,(∃ m,W 0 m σ H1)/\∀ i m σ H,W i m σ H ->
 (J.stop i H/\D.nx σ H)\/(J.go i H/\∃ N:St->Hp->Prop,(∀ σ' H',N σ' H'->∃ m',m'<m/\W (i+1) m' σ' H')/\∀ x H',J.yld i H x H'->g x σ H' λσ2 H2=>tb { D with nx:=N,ct:=N,bk:=D.nx } σ2 H2)
noncomputable def je (fp:List Addr) (h:Heap):List (Addr×Obj):=fp.filterMap λb=>(h.get? b).map λo=>(b,o)
theorem dY (hb:b∈fp) (e:h.get? b=some o):(b,o)∈je fp h:=List.mem_filterMap.mpr ⟨b,hb,by rw [e]; rfl⟩
theorem wg (hp:p∈je fp h):p.1∈fp/\h.get? p.1=some p.2:=by
 obtain ⟨b,hb,e⟩:=List.mem_filterMap.mp hp
 cases q:h.get? b with
 | none=>rw [q] at e; cases e
 | some o =>
  rw [q] at e
  have e':(b,o)=p:=OG e
  subst e'
  exact ⟨hb,q⟩
theorem Inv.pinned (I:Inv X aa σ H s) (hf:∀ b∈fp,fk X aa H b) (ho:∀ b∈fp,∃ o,s.heap.get? b=some o/\∀ v,o.data≠.cell v):Inv X (aa++je fp s.heap) σ H s :=
 I.t8 λp hp=>(NF.mp hp).elim (λz=>I.pin p (Oo _ z)) λz=>by
  obtain ⟨hb,e⟩:=wg z
  obtain ⟨f0,f1,f2,_⟩:=hf p.1 hb
  obtain ⟨o,e',d⟩:=ho p.1 hb
  rw [e] at e'; cases e'
  exact ⟨e,f0,f1,f2,d⟩
theorem Inv.fm (I:Inv X (aa++pl) σ H s):Inv X aa σ H s:=I.t8 λp hp=>I.pin p (Oo _ (Q5 _ hp))
theorem FD (hp:PassesOwn (model X.prog X.w) X.A X.env X.xe) (hc:X.calm=true) (hi:PI X tg iter wi) (hg:PG X tg g) (hb:rV X body tb)
 (hs:∀ x,foldedSetIterable iter X.env x=pure x:=by intro _; rfl):PS X (.For tg iter body [] pos) (Ll wi g tb):=by
 intro aa s σ H D I h
 refine wpAny_For (bJ (hi aa s σ H _ I h) λv s1 h1=>bJ h1 λitv s2 h2=>?_) hs
 obtain ⟨it,fp,tn,J,H2,e,I2,T,st2,f2,W,⟨m0,w0⟩,turn⟩:=h2
 subst e
 have stat:∀ {H':Hp},(∀ b∈fp,H' b=none)->∀ b∈fp,fk X aa H' b:=λhn b hb=>⟨hn b hb,(f2 b hb).2⟩
 refine codeAny_forLoop_any (λn s'=>∃ i σ' H',Inv X aa σ' H' s'/\tn i s'.heap/\(∀ b∈fp,H' b=none)/\W i n σ' H') ?_ m0 ⟨0,σ,H2,I2,st2,λb hb=>(f2 b hb).1,w0⟩
 rintro n s3 ⟨i,σ3,H3,I3,st3,fr3,w3⟩
 rcases turn i n σ3 H3 w3 with ⟨stop,qn⟩ | ⟨go,N,hN,step⟩
 ·refine Pq hp (bJ (T.done X rfl rfl rfl hc i aa s3 σ3 H3 X.xe I3 (stat fr3) st3 stop) λr s4 ⟨hr,I4⟩=>?_)
  subst hr
  exact wpAny_execs_nil ⟨σ3,H3,I4,qn⟩
 ·refine Pq hp (bJ (T.item X rfl rfl rfl hc i aa s3 σ3 H3 X.xe I3 (stat fr3) st3 go) λr s4 ⟨u,hr,h4⟩=>?_)
  subst hr
  refine Pq hp (bJ h4 λ_ s5 ⟨x,H5,I5,r5,y5,st5,fr5⟩=>?_)
  have I5':=I5.pinned (stat fr5) (T.obj _ _ st5)
  refine Pq hp (bJ (hg _ s5 σ3 H5 x u _ I5' r5 (step x H5 y5)) λ_ s6 ⟨σ6,H6,I6,q6⟩=>?_)
  refine Pq hp (bJ (hb _ s6 σ6 H6 _ I6 q6) λf s7 q7=>?_)
  have again:∀ {σ7:St} {H7:Hp},Inv X (aa++je fp s5.heap) σ7 H7 s7->N σ7 H7->∃ m,m<n/\∃ i σ' H',Inv X aa σ' H' s7/\tn i s7.heap/\(∀ b∈fp,H' b=none)/\W i m σ' H':=λ{σ7 H7} I7 n7=>by
   obtain ⟨m',hm,w7⟩:=hN σ7 H7 n7
   refine ⟨m',hm,i+1,σ7,H7,I7.fm,T.keep _ _ _ st5 λb hb o e=>(I7.pin (b,o) (Oo _ (Oo _ (dY hb e)))).1,λb hb=>?_,w7⟩
   obtain ⟨o,e,d⟩:=T.obj _ _ st5 b hb
   exact (I7.pin (b,o) (Oo _ (Oo _ (dY hb e)))).2.1
  cases f with
  | next=>obtain ⟨σ7,H7,I7,n7⟩:=q7; exact again I7 n7
  | cont=>obtain ⟨σ7,H7,I7,n7⟩:=q7; exact again I7 n7
  | brk=>obtain ⟨σ7,H7,I7,q7⟩:=q7; exact ⟨σ7,H7,I7.fm,q7⟩
  | ret v=>obtain ⟨x7,σ7,H7,I7,r7,q7⟩:=q7; exact ⟨x7,σ7,H7,I7.fm,r7,q7⟩
noncomputable abbrev R2:=V->V->Hp->VK->Prop
def fH (X:Cx) (f:Value->Value->Sem Value) (r:R2):Prop :=
 ∀ (aa:List (Addr×Obj)) (s:Shared) (σ:St) (H:Hp) (x y:V) (v u:Value) (Q:VK),Inv X aa σ H s->RelV x v->RelV y u->r x y H Q ->
  wpAny (model X.prog X.w) X.A (f v u) (EP X aa σ Q) X.xe s
def Ln (X:Cx) (f:Value->Sem Value) (r:V->Hp->VK->Prop):Prop :=
 ∀ (aa:List (Addr×Obj)) (s:Shared) (σ:St) (H:Hp) (x:V) (v:Value) (Q:VK),Inv X aa σ H s->RelV x v->r x H Q ->
  wpAny (model X.prog X.w) X.A (f v) (EP X aa σ Q) X.xe s
def fY (X:Cx) (f:Value) (r:List V->Hp->VK->Prop):Prop :=
 ∀ (aa:List (Addr×Obj)) (s:Shared) (σ:St) (H:Hp) (xs:List V) (us:List Value) (Q:VK),Inv X aa σ H s->Vals xs us->r xs H Q ->
  wpAny (model X.prog X.w) X.A (call f us) (EP X aa σ Q) X.xe s
noncomputable def KP (r:R2) (ta tb:TE):TE:=λσ H Q=>ta σ H λx H1=>tb σ H1 λy H2=>r x y H2 Q
noncomputable def MK (r:V->Hp->VK->Prop) (ta:TE):TE:=λσ H Q=>ta σ H λx H1=>r x H1 Q
noncomputable def rI (C:Int->Int->Prop) (g:Int->Int->V):R2:=λx y H Q=>∃ i j,x=.int i/\y=.int j/\C i j/\Q (g i j) H
noncomputable def ud (g:Int->Int->V):R2:=λx y H Q=>∃ i j,x=.int i/\y=.int j/\Q (g i j) H
noncomputable def rU (g:Int->V):V->Hp->VK->Prop:=λx H Q=>∃ i,x=.int i/\Q (g i) H
theorem FE (ha:PE X a ta) (hb:PE X b tb) {R:V->V->Hp->Prop} (I:Inv X aa σ H s)
 (h:ta σ H λx H1=>tb σ H1 λy H2=>R x y H2) {f:Value->Value->Sem Value}
 (hf:∀ v u s2 x y H2,Inv X aa σ H2 s2->RelV x v->RelV y u->R x y H2->wpAny (model X.prog X.w) X.A (f v u) Q X.xe s2) :
 wpAny (model X.prog X.w) X.A (eval a X.env) (λv s₁=>wpAny (model X.prog X.w) X.A (eval b X.env) (λu s₂=>wpAny (model X.prog X.w) X.A (f v u) Q X.xe s₂) X.xe s₁) X.xe s:=by
 refine bJ (ha aa s σ H _ I h) λv s1 ⟨x,H1,I1,r1,q1⟩=>?_
 refine bJ (hb aa s1 σ H1 _ I1 q1) λu s2 ⟨y,H2,I2,r2,q2⟩=>?_
 exact hf v u s2 x y H2 I2 r1 r2 q2
theorem yk (ho:fH X (binaryOp op) r) (ha:PE X a ta) (hb:PE X b tb):PE X (.BinOp a op b pos) (KP r ta tb):=by
 intro aa s σ H Q I h
 exact wpAny_BinOp (FE ha hb I h λv u s2 x y H2 I2 rx ry q=>ho aa s2 σ H2 x y v u Q I2 rx ry q)
theorem IV (ho:Ln X (unaryOp op) r) (ha:PE X a ta):PE X (.UnaryOp op a pos) (MK r ta):=by
 intro aa s σ H Q I h
 exact UnaryOp_ (bJ (ha aa s σ H _ I h) λv s1 ⟨x,H1,I1,r1,q1⟩=>ho aa s1 σ H1 x v Q I1 r1 q1)
theorem Iv {g:Int->Int->Int}
 (rule:∀ (i j:Int) (t u:Tok) (s:Shared) (Q:Value->Shared->Prop) (E:Value->Shared->Prop),C i j->Q (.int (g i j) s.toks) { s with toks:=s.toks+1 }->wpAny (model X.prog X.w) X.A (f (.int i t) (.int j u)) Q E s) :
 fH X f (rI C λi j=>.int (g i j)):=by
 intro aa s σ H x y v u Q I rx ry h
 obtain ⟨i,j,rfl,rfl,hc,q⟩:=h
 obtain ⟨t,rfl⟩:=rx
 obtain ⟨t',rfl⟩:=ry
 exact rule i j t t' s _ _ hc ⟨.int (g i j),H,I.tok _,⟨_,rfl⟩,q⟩
theorem yl {g:Int->Int->Int}
 (rule:∀ (i j:Int) (t u:Tok) (s:Shared) (Q:Value->Shared->Prop) (E:Value->Shared->Prop),Q (.int (g i j) s.toks) { s with toks:=s.toks+1 }->wpAny (model X.prog X.w) X.A (f (.int i t) (.int j u)) Q E s) :
 fH X f (ud λi j=>.int (g i j)):=by
 intro aa s σ H x y v u Q I rx ry h
 obtain ⟨i,j,rfl,rfl,q⟩:=h
 obtain ⟨t,rfl⟩:=rx
 obtain ⟨t',rfl⟩:=ry
 exact rule i j t t' s _ _ ⟨.int (g i j),H,I.tok _,⟨_,rfl⟩,q⟩
theorem FF {g:Int->Int->Bool}
 (rule:∀ (i j:Int) (t u:Tok) (s:Shared) (Q:Value->Shared->Prop) (E:Value->Shared->Prop),Q (.bool (g i j)) s->wpAny (model X.prog X.w) X.A (f (.int i t) (.int j u)) Q E s) :
 fH X f (ud λi j=>.bl (g i j)):=by
 intro aa s σ H x y v u Q I rx ry h
 obtain ⟨i,j,rfl,rfl,q⟩:=h
 obtain ⟨t,rfl⟩:=rx
 obtain ⟨t',rfl⟩:=ry
 exact rule i j t t' s _ _ ⟨.bl (g i j),H,I,rfl,q⟩
def r6 (i j:Int):Prop:=0<=j/\j<=1000000/\i.natAbs<2 ^ 64
theorem r8 (k):(0:Int)<=2 ^ k:=by
 rw [two_pow_cast]
 exact Int.natCast_nonneg _
theorem FG:fH X (binaryOp .Add) (ud λi j=>.int (i+j)):=yl λ_ _ _ _ _ _ _ q=>add_int q
theorem FH:fH X (binaryOp .Sub) (ud λi j=>.int (i - j)):=yl λ_ _ _ _ _ _ _ q=>sub_int q
theorem FI:fH X (binaryOp .Mod) (rI (λ_ j=>0<j) λi j=>.int (i % j)):=Iv λi j _ _ _ _ _ hc q=>by
 have h1:(0:Int)<j:=hc
 exact mod_int' (by lia) (by rw [Int.fmod_eq_emod_of_nonneg i (by lia)]; exact q)
theorem FJ:fH X (binaryOp .Pow) (rI r6 λi j=>.int (i ^ j.toNat)):=Iv λ_ _ _ _ _ _ _ hc q=>pow_int_small hc.1 hc.2.1 hc.2.2 q
theorem FL:fH X (binaryOp .LShift) (rI r6 λi j=>.int (i * 2 ^ j.toNat)):=Iv λ_ _ _ _ _ _ _ hc q=>lshift_int_small hc.1 hc.2.1 hc.2.2 q
theorem FN:fH X (binaryOp .RShift) (rI (λ_ j=>0<=j) λi j=>.int (i / 2 ^ j.toNat)):=Iv λi j _ _ _ _ _ hc q =>
 rshift_int hc (by rw [Int.fdiv_eq_ediv_of_nonneg i (r8 _)]; exact q)
theorem FO:fH X (binaryOp .BitAnd) (ud λi j=>.int (Builtin.bitAnd i j)):=yl λ_ _ _ _ _ _ _ q=>and_int q
theorem B3:fH X (inplaceOp .Add) (ud λi j=>.int (i+j)):=yl λ_ _ _ _ _ _ _ q=>iadd_int q
theorem B4:fH X (inplaceOp .Sub) (ud λi j=>.int (i - j)):=yl λ_ _ _ _ _ _ _ q=>isub_int q
theorem ML {g:Int->Int}
 (rule:∀ (i:Int) (t:Tok) (s:Shared) (Q:Value->Shared->Prop) (E:Value->Shared->Prop),Q (.int (g i) s.toks) { s with toks:=s.toks+1 }->wpAny (model X.prog X.w) X.A (f (.int i t)) Q E s) :
 Ln X f (rU λi=>.int (g i)):=by
 intro aa s σ H x v Q I rx h
 obtain ⟨i,rfl,q⟩:=h
 obtain ⟨t,rfl⟩:=rx
 exact rule i t s _ _ ⟨.int (g i),H,I.tok _,⟨_,rfl⟩,q⟩
theorem FP:Ln X (unaryOp .USub) (rU λi=>.int (-i)):=ML λ_ _ _ _ _ q=>neg_int q
noncomputable def B5:V->V->Bool
 | .non,.non=>true | .non,.int _=>true | .int _,.non=>true | .non,.bl _=>true | .bl _,.non=>true | .non,.str _=>true | .str _,.non=>true
 | .int _,.int _=>true | .bl _,.bl _=>true | .str _,.str _=>true | .byt _,.byt _=>true
 | .int _,.str _=>true | .str _,.int _=>true | .bl _,.str _=>true | .str _,.bl _=>true
 | _,_=>false
noncomputable def MM:R2:=λx y H Q=>B5 x y=true/\Q (.bl (decide (x=y))) H
noncomputable def MN:R2:=λx y H Q=>B5 x y=true/\Q (.bl (!decide (x=y))) H
theorem ue:decide (V.int i=V.int j)=(i == j):=by
 rw [Qv]
 simp
theorem ym:decide (V.bl i=V.bl j)=(i == j):=by
 rw [Qv]
 simp
theorem uf:decide (V.str i=V.str j)=(i == j):=by
 rw [Qv]
 simp
theorem ug:decide (V.byt i=V.byt j)=(i.toList == j.toList):=by
 rw [Qv]
 cases i
 cases j
 simp
theorem aX (I:Inv X aa σ H s) (q:Q (.bl k) H) (e:k=k'):EP X aa σ Q (.bool k') s:=by
 subst e
 exact ⟨.bl k,H,I,rfl,q⟩
theorem IW:fH X (compareOp .Eq) MM:=by
 intro aa s σ H x y v u Q I rx ry h
 obtain ⟨hs,q⟩:=h
 cases x with
 | non =>
  cases rx
  cases y with
  | non=>cases ry; exact PySem.EqNone.eq_none_none (aX I q (by simp))
  | bl j=>cases ry; exact PySem.EqNone.eq_none_bool (aX I q (by simp))
  | int j=>obtain ⟨t',rfl⟩:=ry; exact PySem.EqNone.eq_none_int (aX I q (by simp))
  | str j=>obtain ⟨t',rfl⟩:=ry; exact PySem.EqNone.eq_none_str (aX I q (by simp))
  | _=>exact absurd (show false=true from hs) Nc
 | bl i =>
  cases rx
  cases y with
  | non=>cases ry; exact PySem.EqNone.eq_bool_none (aX I q (by simp))
  | bl j=>cases ry; exact eq_bool (aX I q ym)
  | str j=>obtain ⟨t',rfl⟩:=ry; exact PySem.EqMixed.eq_bool_str (aX I q (by simp))
  | _=>exact absurd (show false=true from hs) Nc
 | int i =>
  obtain ⟨t,rfl⟩:=rx
  cases y with
  | non=>cases ry; exact PySem.EqNone.eq_int_none (aX I q (by simp))
  | int j=>obtain ⟨t',rfl⟩:=ry; exact eq_int (aX I q ue)
  | str j=>obtain ⟨t',rfl⟩:=ry; exact PySem.EqMixed.eq_int_str (aX I q (by simp))
  | _=>exact absurd (show false=true from hs) Nc
 | str i =>
  obtain ⟨t,rfl⟩:=rx
  cases y with
  | non=>cases ry; exact PySem.EqNone.eq_str_none (aX I q (by simp))
  | bl j=>cases ry; exact PySem.EqMixed.eq_str_bool (aX I q (by simp))
  | int j=>obtain ⟨t',rfl⟩:=ry; exact PySem.EqMixed.eq_str_int (aX I q (by simp))
  | str j=>obtain ⟨t',rfl⟩:=ry; exact eq_str (aX I q uf)
  | _=>exact absurd (show false=true from hs) Nc
 | byt i =>
  obtain ⟨t,rfl⟩:=rx
  cases y with
  | byt j=>obtain ⟨t',rfl⟩:=ry; exact PySem.W.eq_bytes (aX I q ug)
  | _=>exact absurd (show false=true from hs) Nc
 | _=>cases y <;> exact absurd (show false=true from hs) Nc
theorem IX:fH X (compareOp .NotEq) MN:=by
 intro aa s σ H x y v u Q I rx ry h
 obtain ⟨hs,q⟩:=h
 cases x with
 | non =>
  cases rx
  cases y with
  | non=>cases ry; exact PySem.EqNone.ne_none_none (aX I q (by simp))
  | bl j=>cases ry; exact PySem.EqNone.ne_none_bool (aX I q (by simp))
  | int j=>obtain ⟨t',rfl⟩:=ry; exact PySem.EqNone.ne_none_int (aX I q (by simp))
  | str j=>obtain ⟨t',rfl⟩:=ry; exact PySem.EqNone.ne_none_str (aX I q (by simp))
  | _=>exact absurd (show false=true from hs) Nc
 | bl i =>
  cases rx
  cases y with
  | non=>cases ry; exact PySem.EqNone.ne_bool_none (aX I q (by simp))
  | bl j=>cases ry; exact ne_bool (aX I q (congrArg not ym))
  | str j=>obtain ⟨t',rfl⟩:=ry; exact PySem.EqMixed.ne_bool_str (aX I q (by simp))
  | _=>exact absurd (show false=true from hs) Nc
 | int i =>
  obtain ⟨t,rfl⟩:=rx
  cases y with
  | non=>cases ry; exact PySem.EqNone.ne_int_none (aX I q (by simp))
  | int j=>obtain ⟨t',rfl⟩:=ry; exact ne_int (aX I q (congrArg not ue))
  | str j=>obtain ⟨t',rfl⟩:=ry; exact PySem.EqMixed.ne_int_str (aX I q (by simp))
  | _=>exact absurd (show false=true from hs) Nc
 | str i =>
  obtain ⟨t,rfl⟩:=rx
  cases y with
  | non=>cases ry; exact PySem.EqNone.ne_str_none (aX I q (by simp))
  | bl j=>cases ry; exact PySem.EqMixed.ne_str_bool (aX I q (by simp))
  | int j=>obtain ⟨t',rfl⟩:=ry; exact PySem.EqMixed.ne_str_int (aX I q (by simp))
  | str j=>obtain ⟨t',rfl⟩:=ry; exact ne_str (aX I q (congrArg not uf))
  | _=>exact absurd (show false=true from hs) Nc
 | byt i =>
  obtain ⟨t,rfl⟩:=rx
  cases y with
  | byt j=>obtain ⟨t',rfl⟩:=ry; exact PySem.W.ne_bytes (aX I q (congrArg not ug))
  | _=>exact absurd (show false=true from hs) Nc
 | _=>cases y <;> exact absurd (show false=true from hs) Nc
theorem IY:fH X (compareOp .Lt) (ud λi j=>.bl (decide (i<j))):=FF λ_ _ _ _ _ _ _ q=>lt_int q
theorem IZ:fH X (compareOp .Gt) (ud λi j=>.bl (decide (j<i))):=FF λ_ _ _ _ _ _ _ q=>gt_int q
theorem I0:fH X (compareOp .GtE) (ud λi j=>.bl (decide (j<=i))):=FF λ_ _ _ _ _ _ _ q=>ge_int q
theorem fH.or (h:fH X f r) (h':fH X f r'):fH X f (λx y H Q=>r x y H Q\/r' x y H Q):=by
 intro aa s σ H x y v u Q I rx ry q
 rcases q with q | q
 ·exact h aa s σ H x y v u Q I rx ry q
 ·exact h' aa s σ H x y v u Q I rx ry q
theorem jf (b) (h:op≠.In:=by decide) (h2:op≠.NotIn:=by decide):behindInMarks op b=false:=by
 have e1:(op == CmpOp.In)=false:=by cases op <;> first | rfl | exact absurd rfl h
 have e2:(op == CmpOp.NotIn)=false:=by cases op <;> first | rfl | exact absurd rfl h2
 cases b <;> simp [behindInMarks,e1,e2]
theorem B6 (ho:fH X (compareOp op) r) (ha:PE X a ta) (hb:PE X b tb) (hm:behindInMarks op b=false):PE X (.Compare a [op] [b] pos) (KP r ta tb):=by
 intro aa s σ H Q I h
 exact wpAny_Compare1 (FE ha hb I h λv u s2 x y H2 I2 rx ry q=>ho aa s2 σ H2 x y v u Q I2 rx ry q) hm
noncomputable def Ja (t:TE):TT:=λσ H Q=>t σ H λx H'=>∃ k,x=.bl k/\Q k H'
theorem B7 (ho:fH X (compareOp op) r) (ha:PE X a ta) (hb:PE X b tb) (hm:behindInMarks op b=false):PT X (.Compare a [op] [b] pos) (Ja (KP r ta tb)):=by
 intro aa s σ H Q I h
 refine wpAny_isTrue_Compare1 (bJ (ha aa s σ H _ I h) λv s1 ⟨x,H1,I1,r1,q1⟩=>bJ (hb aa s1 σ H1 _ I1 q1) λu s2 ⟨y,H2,I2,r2,q2⟩ =>
  bJ (ho aa s2 σ H2 x y v u _ I2 r1 r2 q2) λc s3 ⟨z,H3,I3,r3,k,e,q3⟩=>?_) hm
 subst e
 cases r3
 exact Sq ⟨H3,I3,q3⟩
theorem nG:(sizeLine:Nat)<2 ^ 63:=by rw [sizeLine_eq]; decide
theorem r9:fH X (binaryOp .Add) (λx y H Q=>∃ i j,x=.str i/\y=.str j/\i.length+j.length<=sizeLine/\Q (.str (i++j)) H):=by
 intro aa s σ H x y v u Q I rx ry h
 obtain ⟨i,j,rfl,rfl,hz,q⟩:=h
 obtain ⟨t,rfl⟩:=rx
 obtain ⟨t',rfl⟩:=ry
 exact add_str (λt' tk=>⟨.str (i++j),H,I.tok _,⟨_,rfl⟩,q⟩) hz
theorem vals1 (r:Vals [x] us):∃ u,us=[u]/\RelV x u:=by
 cases r with
 | cons r1 r2=>cases r2; exact ⟨_,rfl,r1⟩
theorem vals2 (r:Vals [x,y] us):∃ u w',us=[u,w']/\RelV x u/\RelV y w':=by
 cases r with
 | cons r1 r2 =>
  cases r2 with
  | cons r3 r4=>cases r4; exact ⟨_,_,rfl,r1,r3⟩
theorem wj (hc:X.calm=true):fY X (.builtin "max") (λxs H Q=>∃ i j,xs=[.int i,.int j]/\Q (.int (if j>i then j else i)) H):=by
 intro aa s σ H xs us Q I r h
 obtain ⟨i,j,rfl,q⟩:=h
 obtain ⟨u,w',rfl,⟨t,rfl⟩,⟨t',rfl⟩⟩:=vals2 r
 refine max_two_ints (I.ok.hd hc) λh' tk k=>⟨_,H,I.kept k,?_,q⟩
 by_cases hj:j>i
 ·rw [if_pos hj,if_pos hj]; exact ⟨_,rfl⟩
 ·rw [if_neg hj,if_neg hj]; exact ⟨_,rfl⟩
structure MO (h:Heap) (x dx C:Addr) (mA:Str->Option Value):Prop where
 obj:h.get? x=some (PySem.W.instObj C dx)
 ns:h.Ns1 dx mA
 ne:dx≠x
theorem jL.some_of (r:jL (some v) o):∃ u,o=some u/\RelV v u:=by
 cases o with
 | none=>exact (show False from r).elim
 | some u=>exact ⟨u,rfl,r⟩
structure MQ (K:M0) (C:Addr):Prop where
 pg:PySem.W.plainGet K C Str.empty=true
 hd:PySem.W.hasDictIn K C=true
 po:PySem.W.plainOver K C=true
 sa:O4 K (.ref C) "__setattr__"=some (some (.builtin "object.__setattr__"))
structure Con (K:M0) (C:Addr) (f:Str) (v:V) (u:Value):Prop where
 at_:O4 K (.ref C) f=some (some u)
 rel:RelV v u
 get:Sx K u "__get__"=some none
 cp:PySem.W.copiedNames.contains f=false
structure Meth (K:M0) (C:Addr) (m:Str) (f:Addr):Prop where
 at_:O4 K (.ref C) m=some (some (.ref f))
 fn:PySem.W.isFn K (.ref f)=true
 kp:OL K (.ref f)=true
def Jb (X:Cx) (op:Operator) (rd:V->V->Hp->VK->Prop):Prop :=
 ∀ (aa:List (Addr×Obj)) (s:Shared) (σ:St) (H:Hp) (x y:V) (u v:Value) (Q:VK),Inv X aa σ H s->RelV x u->RelV y v->rd x y H Q->wpAny (model X.prog X.w) X.A (inplaceOp op u v) (EP X aa σ Q) X.xe s
section
variable {X:Cx} {aa:List (Addr×Obj)} {σ:St} {H:Hp} {s:Shared} {A:Around} {E:Value->Shared->Prop} {Q:Value->Shared->Prop} {c:Value} {b:Bool}
inductive kg (K:M0) (H:Hp):V->Value->Prop where
 | non:kg K H .non (.type "NoneType")
 | bl (x:Bool):kg K H (.bl x) (.type "bool")
 | int (i:Int):kg K H (.int i) (.type "int")
 | str (x:Str):kg K H (.str x) (.type "str")
 | flt (x:UInt64):kg K H (.flt x) (.type "float")
 | lst {a:Addr} {xs:List V} (e:H a=some (.lst xs)):kg K H (.ref a) (.type "list")
 | frz {a:Addr} {o:Obj} {xs:List V} (e:H a=some (.frz o (.lst xs))):kg K H (.ref a) (.type "list")
 | tup {a:Addr} {xs:List V} (e:H a=some (.tup xs)):kg K H (.ref a) (.type "tuple")
 | dK {a:Addr} {kvs:List (Key×V)} (e:H a=some (.dK kvs)):kg K H (.ref a) (.type "dict")
 | dT {a:Addr} {kvs:List (List Key×Addr×V)} (e:H a=some (.dT kvs)):kg K H (.ref a) (.type "dict")
 | ins {a C dx:Addr} {fs:List (Str×V)} (e:H a=some (.ins C dx fs)) (cl:MQ K C) (ha:O4 K (.ref C) "__class__"=some (some (.builtin "object.__class__")))
  (hn:Sx K (.builtin "object.__class__") "__get__"=some (some (.builtin "getset_descriptor.__get__"))) (htk:PySem.W.takesIn K (.builtin "object.__class__")=some true)
  (hm:PySem.W.mroIn K C (.type "object")=some true):kg K H (.ref a) (.ref C)
end
structure gR (k:Nat) (A:Around):Prop where
 hd:A.handled=none
 dp:A.depth+3 * k+5<recursionLimit
 un:A.units+16 * k+200<cLine
theorem gR.mono (r:gR k A) (h:j<=k):gR j A:=⟨r.hd,by have:=r.dp; lia,by have:=r.un; lia⟩
theorem gR.deeper (r:gR (k+1) A) (env:Env):gR k (A.deeper env) :=
 ⟨r.hd,by have:=r.dp; show A.depth+1+3 * k+5<_; lia,by have:=r.un; show A.units+3+16 * k+200<_; lia⟩
theorem gR.depth (r:gR k A):A.depth<recursionLimit:=by have:=r.dp; lia
theorem gR.units (r:gR k A):A.units+64<cLine:=by have:=r.un; lia
noncomputable def Lo:TA:=λ_ H Q=>Q [] H
noncomputable def Jc (ta:TE) (tr:TA):TA:=λσ H Q=>ta σ H λx H1=>tr σ H1 λxs H2=>Q (x::xs) H2
theorem eZ:PA X [] Lo:=λ_ _ _ _ H Q I h=>Calls.spliced_nil ⟨[],H,I,.nil,h⟩
theorem cj (ha:PE X e te) (hr:PA X es t) (hs:starEach (e::es) X.env=(false,eval e X.env)::starEach es X.env:=by rfl):PA X (e::es) (Jc te t):=by
 intro pos aa s σ H Q I h
 rw [hs]
 show wpAny _ _ (spliced ((false,eval e X.env)::backTo pos (starEach es X.env))) _ _ s
 refine So (bJ (ha aa s σ H _ I h) λu s1 ⟨x,H1,I1,r1,q1⟩=>?_)
 exact bJ (hr pos aa s1 σ H1 _ I1 q1) λus s2 ⟨xs,H2,I2,r2,q2⟩=>⟨x::xs,H2,I2,.cons r1 r2,q2⟩
noncomputable def Lp (t:TA):TE:=λσ H Q=>t σ H λxs H1=>xs.length<=sizeLine/\∀ p,H1 p=none->Q (.ref p) (upd H1 p (.tup xs))
noncomputable def Lq (t:TA):TE:=λσ H Q=>t σ H λxs H1=>xs.length<=sizeLine/\∀ p,H1 p=none->Q (.ref p) (upd H1 p (.lst xs))
theorem FQ {x1} (h:PA X es t):PE X (.Tuple es x1 pos) (Lp t):=by
 intro aa s σ H Q I hq
 refine wpAny_Tuple_spliced (bJ (h pos aa s σ H _ I hq) λus s1 ⟨xs,H1,I1,r,z,q⟩=>⟨by rw [<- r.length]; exact z,?_⟩)
 have hf:H1 s1.heap.objs.size=none:=I1.hok.fresh (M4 _)
 refine ⟨.ref s1.heap.objs.size,upd H1 s1.heap.objs.size (.tup xs),I1.laid (t':=s1.toks) (λb u e=>M9 _ e) (M4 _) ?_,rfl,q _ hf⟩
 exact ⟨z,us,r,⟨_,Nl _ rfl,rfl,_,rfl⟩⟩
theorem FT (h:PA X es t):PE X (.List es pos) (Lq t):=by
 intro aa s σ H Q I hq
 refine wpAny_List_spliced (bJ (h pos aa s σ H _ I hq) λus s1 ⟨xs,H1,I1,r,z,q⟩=>⟨by rw [<- r.length]; exact z,?_⟩)
 have hf:H1 s1.heap.objs.size=none:=I1.hok.fresh (M4 _)
 refine ⟨.ref s1.heap.objs.size,upd H1 s1.heap.objs.size (.lst xs),I1.laid (t':=s1.toks) (λb u e=>M9 _ e) (M4 _) ?_,rfl,q _ hf⟩
 exact ⟨z,us,0,r,Nl _ rfl⟩
noncomputable abbrev Sp:=List V->Hp->VK->XK->Prop
noncomputable abbrev FU:=List Env->Hp->Shared->XK->Value->Shared->Prop
structure B8 (P:Program) (w:World) (K:M0) (mg:Str->Option Value) (base:Heap) (A:Around) (outer:List Env) (s:Shared) (H:Hp):Prop where
 frames:A.frames=some outer
 mod:Mod K mg base
 bs:∀ b o,base.get? b=some o->s.heap.get? b=some o/\H b=none
 bsz:base.objs.size<=s.heap.objs.size
 jc:s.heap.FunFrames base outer
 frf:∀ b∈frs outer,H b=none
 hok:jb P w H s.heap
 bare:AllBare s.gens
def CE (outer:List Env) (P:Program) (w:World) (H:Hp) (s:Shared) (Q:VK) (u:Value) (s':Shared):Prop :=
 ∃ v H',s'.os=s.os/\AllBare s'.gens/\Un (frs outer) [] H H' s.heap s'.heap/\jb P w H' s'.heap/\RelV v u/\Q v H'
def CR (CX:FU) (outer:List Env) (P:Program) (w:World) (H:Hp) (s:Shared) (Q:VK) (E:XK) (r:Result) (s':Shared):Prop :=
 match r with
 | .ok (.ret u)=>CE outer P w H s Q u s'
 | .ok _=>False
 | .error e=>CX outer H s E e s'
structure aZ (P:Program) (w:World) (K:M0) (mg:Str->Option Value) (base:Heap) (CX:FU) (k:Nat) (f:Addr) (fd:FuncData) (ps:List Str) (sp:Sp):Prop where
 len:∀ vs H Q E,sp vs H Q E->vs.length=ps.length
 run:∀ (A:Around) (outer:List Env) (s:Shared) (H:Hp) (args:Args) (us:List Value) (vs:List V) (Q:VK) (E:XK),gR k A->B8 P w K mg base A outer s H->BindsTo s fd args (ps.zip us)->Vals vs us->sp vs H Q E ->
  codeAny (model P w) A (.call (.ref f) args) (CR CX outer P w H s Q E) s
theorem aZ.mono {K:M0} (F:aZ P w K mg base CX j f fd ps sp) (h:j<=k) :
 aZ P w K mg base CX k f fd ps sp:=⟨F.len,λA outer s H args us vs Q E hr=>F.run A outer s H args us vs Q E (hr.mono h)⟩
theorem Inv.FW (I:Inv X aa σ H s):B8 X.prog X.w X.K X.mg X.base X.A X.stack s H :=
 ⟨I.ok.frames,I.ok.mod,I.bs,Nb I.ok.bsz I.sz,I.stack,I.t6,I.hok,I.bare⟩
theorem Inv.after (I:Inv X aa σ H s) (h:CE X.stack X.prog X.w H s Q u s'):EP X aa σ Q u s':=by
 obtain ⟨v,H',os,bare,un,hok,r,q⟩:=h
 obtain ⟨hh,g,d,t,os'⟩:=s'
 obtain rfl:os'=s.os:=os
 exact ⟨v,H',I.call (h':=hh) (g':=g) (d':=d) (t':=t) (ch:=[]) un hok bare (λb z=>absurd z (by simp)),r,q⟩
def Binds (K:M0) (fd:FuncData) (ps:List Str) (ds:List Value):Prop :=
 ∀ (s:Shared) (us:List Value),K.In s.heap->(us++ds).length=ps.length->BindsTo s fd ⟨us,[]⟩ (ps.zip (us++ds))
theorem Binds.all {K:M0} (h:∀ us:List Value,us.length=ps.length->bindArgs fd ⟨us,[]⟩=pure (ps.zip us)):Binds K fd ps []:=λs us _ hl=>by
 rw [N7] at hl |-
 exact .of_eq (h us hl)
section
variable {X:Cx} {CX:FU} {k:Nat} {f C:Addr} {fd:FuncData} {ps:List Str} {sp:Sp} {dvs:List V} {ds:List Value} {E:XK} {x m:Str} {p pos apos:Pos} {e o:Expr} {es:List Expr} {ta:TE} {t:TA}
structure Mk (K:M0) (C f:Addr):Prop where
 makes:PySem.W.makesIn K C=true
 init:O4 K (.ref C) "__init__"=some (some (.ref f))
 fn:PySem.W.isFn K (.ref f)=true
 kp:OL K (.ref C)=true
end
section
variable {X:Cx} {CX:FU} {k:Nat} {f C:Addr} {fd:FuncData} {ps ks:List Str} {sp:Sp} {E:XK} {x m:Str} {p pos apos kpos:Pos} {e o:Expr} {es:List Expr} {kws:List Keyword} {te ta:TE} {t tk:TA} {nm:Option Str}
structure Lr (K:M0) (fd:FuncData) (ps ks:List Str) (g:List Value->List Value->List Value) (gV:List V->List V->List V):Prop where
 to:∀ (s:Shared) (us ws:List Value),K.In s.heap->(g us ws).length=ps.length->BindsTo s fd ⟨us,ks.zip ws⟩ (ps.zip (g us ws))
 rel:∀ {vs:List V} {us:List Value} {zs:List V} {ws:List Value},Vals vs us->Vals zs ws->Vals (gV vs zs) (g us ws)
end
structure nH (N P:List Str) (sc:Scope):Prop where
 kind:sc.kind=.function
 co:sc.isCoroutine=false
 gen:sc.isGenerator=false
 nd:N.Nodup
 pre:N.take P.length=P
 par:∀ x∈P,sc.names.lookup x=some .local\/sc.names.lookup x=some .cell
 nofree:∀ y∈sc.names,y.2≠.free
theorem l7 {kindOf:Str->Option NameKind}:∀ {binds:List (Str×Value)} {m:Str->Option Value},(∀ v,(x,v)∉binds)->bindL kindOf binds m x=m x
 | [],_,_=>rfl
 | (n,v)::r,m,h=>by
  unfold bindL
  rw [l7 λw hw=>h w (Ni _ hw)]
  split
  ·have:x≠n:=by rintro rfl; exact h v Ng
   simp [this]
  ·rfl
theorem l8 {kindOf:Str->Option NameKind}:∀ {binds:List (Str×Value)} {m:Str->Option Value},(∀ v,(x,v)∉binds)->bindC kindOf binds m x=m x
 | [],_,_=>rfl
 | (n,v)::r,m,h=>by
  unfold bindC
  rw [l8 λw hw=>h w (Ni _ hw)]
  split
  ·rfl
  ·have:x≠n:=by rintro rfl; exact h v Ng
   simp [this]
theorem l9 {kindOf:Str->Option NameKind}:∀ {P:List Str} {vs:List Value} {i:Nat} {m:Str->Option Value},P.Nodup->P[i]?=some x->vs[i]?=some v->kindOf x=some .local ->
 bindL kindOf (P.zip vs) m x=some v
 | [],_,_,_,_,h,_,_=>by simp at h
 | _::_,[],_,_,_,_,h,_=>by simp at h
 | p::P,w::vs,0,m,nd,h1,h2,hk=>by
  simp at h1 h2; subst h1; subst h2
  show bindL kindOf ((p,w)::P.zip vs) m p=_
  unfold bindL
  rw [l7 λv hv=>(O3.mp nd).1 (Ro hv).1,if_pos hk]
  simp
 | p::P,w::vs,i+1,m,nd,h1,h2,hk=>by
  show bindL kindOf ((p,w)::P.zip vs) m x=_
  unfold bindL
  exact l9 (i:=i) (O3.mp nd).2 (by simpa using h1) (by simpa using h2) hk
theorem mh {kindOf:Str->Option NameKind}:∀ {P:List Str} {vs:List Value} {i:Nat} {m:Str->Option Value},P.Nodup->P[i]?=some x->vs[i]?=some v->kindOf x≠some .local ->
 bindC kindOf (P.zip vs) m x=some v
 | [],_,_,_,_,h,_,_=>by simp at h
 | _::_,[],_,_,_,_,h,_=>by simp at h
 | p::P,w::vs,0,m,nd,h1,h2,hk=>by
  simp at h1 h2; subst h1; subst h2
  show bindC kindOf ((p,w)::P.zip vs) m p=_
  unfold bindC
  rw [l8 λv hv=>(O3.mp nd).1 (Ro hv).1,if_neg hk]
  simp
 | p::P,w::vs,i+1,m,nd,h1,h2,hk=>by
  show bindC kindOf ((p,w)::P.zip vs) m x=_
  unfold bindC
  exact mh (i:=i) (O3.mp nd).2 (by simpa using h1) (by simpa using h2) hk
noncomputable def start (N:List Str) (vs:List V):St:=vs.map some++Nh (N.length - vs.length) none
noncomputable def sd (CX:FU) (P:Program) (w:World) (K:M0) (mg:Str->Option Value) (base:Heap) (N:List Str) (qual:Str) (scope:Scope) (f:Addr) (cd:Value) (A:Around) (outer:List Env) (s:Shared) (H:Hp) (E:XK):Cx where
 prog:=P
 w:=w
 K:=K
 mg:=mg
 base:=base
 A:=A.deeper (envOfC qual scope s.heap.objs.size f cd)
 N:=N
 s₀:=s
 H₀:=H
 env:=envOfC qual scope s.heap.objs.size f cd
 outer:=outer
 stack:=envOfC qual scope s.heap.objs.size f cd::outer
 ex:=[]
 calm:=true
 fn:=λ_=>true
 pn:=[]
 xe:=λe s'=>wpAny (model P w) (A.deeper (envOfC qual scope s.heap.objs.size f cd)) (leaving (envOfC qual scope s.heap.objs.size f cd) e) (λ_ s''=>CX outer H s E e s'') (λe' s''=>CX outer H s E e' s'') s'
theorem pI {sc:Scope} (h:sc.names.lookup x=some .cell):∃ c,(cellsFrom n sc.names []).lookup x=some c:=by
 have q:=PySem.W.cellsFrom_some sc.names n [] (.inl h)
 exact Option.isSome_iff_exists.mp q
theorem wm {K:M0}
 (S:nH N ps scope) (hd:A.handled=none) (e0:B8 P w K mg base A outer s H) (hl:vs.length=ps.length) (r:Vals vs us)
 (x:InCallC s s.heap.objs.size (bindL (envOfC qual scope s.heap.objs.size f cd).kindOf (ps.zip us) λ_=>none) (cellsFrom (s.heap.objs.size+1) scope.names []) (bindC (envOfC qual scope s.heap.objs.size f cd).kindOf (ps.zip us) λ_=>none) s1) :
 Inv (sd CX P w K mg base N qual scope f cd A outer s H E) [] (start N vs) H s1:=by
 have hpl:ps.length<=N.length:=by have:=congrArg Py S.pre; rw [N2] at this; lia
 obtain ⟨h1,tk,rfl,hk⟩:=x.done
 have noA:∀ b:Addr,b∉(sd CX P w K mg base N qual scope f cd A outer s H E).ex:=λb z=>absurd (show b∈([]:List Addr) from z) (by simp)
 refine ⟨⟨e0.mod,S.kind,rfl,rfl,M4 _,λy z c h1 h2=>?_,λy hy=>?_,λy c _ h=>?_,λ_=>hd,Around.frames_deeper e0.frames,.inr ⟨rfl,rfl⟩,λb z=>absurd z (noA b),e0.bs,e0.bsz,λb _ _=>noA b,λb z=>absurd z (noA b),e0.jc,e0.frf⟩,
  rfl,e0.bare,Un.kept hk,⟨_,x.toInCall.ns,λi y v h1 h2 h3=>?_⟩,λy c h=>⟨_,x.cell y c h⟩,e0.hok.fresh (M4 _),λy c h=>?_,λp hp=>absurd (show p∈([]:List (Addr×Obj)) from hp) (by simp),e0.hok.kept hk,?_⟩
 ·exact name_of_addr x.apart (Qo h1) (Qo h2)
 ·have hy:scope.names.lookup y=some .cell\/scope.names.lookup y=some .free:=hy
  rcases hy with hy | hy
  ·exact pI hy
  ·exact absurd rfl (S.nofree _ (Qo hy))
 ·exact O9 (x.above y c (Qo h))
 ·have hi:i<vs.length:=by
   unfold start at h2
   by_cases hi:i<vs.length
   ·exact hi
   ·rw [PN (by simpa using hi)] at h2
    rw [R3] at h2
    split at h2 <;> cases h2
  have ha:vs[i]?=some v:=by
   unfold start at h2
   rw [OY (by simpa using hi),Nd] at h2
   cases e:vs[i]? with
   | none=>rw [e] at h2; cases h2
   | some a=>rw [e] at h2; cases h2; rfl
  obtain ⟨u,hu,rv⟩:=r.get ha
  have hp:ps[i]?=some y:=by
   rw [<- S.pre,QS (by lia)]; exact h1
  have ndP:ps.Nodup:=by rw [<- S.pre]; exact S.nd.sublist (Rc _ _)
  refine ⟨u,rv,?_⟩
  rcases S.par y (Og hp) with k | k
  ·exact .inl ⟨k,l9 ndP hp hu k⟩
  ·obtain ⟨c,e⟩:=pI (n:=s.heap.objs.size+1) k
   refine .inr ⟨.inl k,c,e,?_⟩
   have q:=x.cell y c e
   rw [mh ndP hp hu (by show scope.names.lookup y≠_; rw [k]; decide)] at q
   exact q
 ·exact e0.hok.fresh (O9 (x.above y c (Qo h)))
 ·unfold start
  show _=N.length
  rw [NJ,M8,List.length_replicate]
  lia
theorem EC {K:M0} {dV kV doc pm cdv ct oc:Value}
 (lk:K.lookup f=some ⟨oc,od,.func (OV name qual params body scope dV kV doc pm an cdv ct),osl⟩) (hcd:Rx K cdv qual=true) (S:nH N ps scope)
  (len:∀ vs H Q E,sp vs H Q E->vs.length=ps.length)
  (hbody:∀ (A:Around) (outer:List Env) (s:Shared) (H:Hp) (vs:List V) (Q:VK) (E:XK),gR k (A.deeper (envOfC qual scope s.heap.objs.size f cdv))->sp vs H Q E ->
    ∃ t,rV (sd CX P w K mg base N qual scope f cdv A outer s H E) body t/\t { nx:=λ_ H'=>Q .non H',rt:=Q } (start N vs) H) :
  aZ P w K mg base CX (k+1) f (OV name qual params body scope dV kV doc pm an cdv ct) ps sp:=by
  refine ⟨len,λA outer s H args us vs Q E hr e0 hb r tY=>?_⟩
  have hl:=len _ _ _ _ tY
  have KX:K.In s.heap:=e0.mod.kin.keeps λb o e=>(e0.bs b o e).1
  have lim:s.heap.NoLimit:=e0.mod.nolimit.keeps λb o e=>(e0.bs b o e).1
  have hkind:∀ y∈ps.zip us,scope.names.lookup y.1=some .local\/(scope.names.lookup y.1=some .cell/\((cellsFrom (s.heap.objs.size+1) scope.names []).lookup y.1).isSome=true):=λ⟨n,v⟩ hy=>by
   rcases S.par n (Ro hy).1 with q | q
   ·exact .inl q
   ·exact .inr ⟨q,PySem.W.cellsFrom_some _ _ _ (.inl q)⟩
  refine codeAny_call_function hr.depth (KX _ _ lk) rfl S.co S.gen rfl (PySem.W.codeRec_of KX hcd) (hb _ _ _ _ ?_)
  refine wpAny_newFunctionEnv_cells S.kind hkind λenv he s1 x=>?_
  subst he
  refine ⟨lim.keeps x.toInCall.keep,codeAny_func ?_⟩
  obtain ⟨t,ht,hq⟩:=hbody A outer s H vs Q E (hr.deeper _) tY
  have I:Inv (sd CX P w K mg base N qual scope f cdv A outer s H E) [] (start N vs) H s1:=wm S hr.hd e0 hl r x
  refine NQ (ht [] s1 (start N vs) H _ I hq) (λfl s' hs=>?_) λe s' hs=>hs
  have fin:∀ {σ':St} {H':Hp} {v:V} {u:Value},Inv (sd CX P w K mg base N qual scope f cdv A outer s H E) [] σ' H' s'->RelV v u->Q v H'->CE outer P w H s Q u s' :=
   λ{σ' H' v u} J rv q=>⟨v,H',J.os,J.bare,J.base,J.hok,rv,q⟩
  cases fl with
  | ret u =>
   obtain ⟨v,σ',H',J,rv,q⟩:=hs
   exact fin J rv q
  | next =>
   obtain ⟨σ',H',J,q⟩:=hs
   exact fin (v:=V.non) (u:=N9) J rfl q
  | brk =>
   obtain ⟨_,_,_,q⟩:=hs
   exact Oc q
  | cont =>
   obtain ⟨_,_,_,q⟩:=hs
   exact Oc q
section
variable {id T:String}
noncomputable def Mz (r:List V->Hp->VK->Prop) (t:TA):TE:=λσ H Q=>t σ H λvs H1=>r vs H1 Q
theorem yo (hc:fY X (.builtin id) r) (hg:Gl X x) (hm:X.mg x=none) (hv:bootBuiltins x=some (.builtin id)) (ha:PA X (e::es) t) (hn:x≠"__name__":=by decide) (hdb:(x == ("__debug__":Str))=false:=by decide)
 (he:starEach (e::es) X.env=(false,eval e X.env)::starEach es X.env:=by rfl) (hpl:(backTo pos (starEach es X.env)).any (·.1)=false:=by rfl):PE X (.Call (.Name x p) (e::es) [] pos) (Mz r t):=by
 intro aa s σ H Q I h
 refine OO (eY I hg hm hv ?_ hn hdb)
 exact SY (bJ (ha pos aa s σ H _ I h) λus s1 ⟨vs,H1,I1,r1,q1⟩=>hc aa s1 σ H1 vs us Q I1 r1 q1) he hpl
theorem mj (hc:fY X (.type T) r) (hg:Gl X x) (hm:X.mg x=none) (hv:bootBuiltins x=some (.type T)) (ha:PA X (e::es) t) (hn:x≠"__name__":=by decide) (hdb:(x == ("__debug__":Str))=false:=by decide)
 (he:starEach (e::es) X.env=(false,eval e X.env)::starEach es X.env:=by rfl) (hpl:(backTo pos (starEach es X.env)).any (·.1)=false:=by rfl):PE X (.Call (.Name x p) (e::es) [] pos) (Mz r t):=by
 intro aa s σ H Q I h
 refine OO (eY I hg hm hv ?_ hn hdb)
 exact Qk (bJ (ha pos aa s σ H _ I h) λus s1 ⟨vs,H1,I1,r1,q1⟩=>hc aa s1 σ H1 vs us Q I1 r1 q1) he hpl
end
end L2
namespace HT
open PySem PyProof.Rows
noncomputable def lexLt:List Int->List Int->Bool
 | [],[]=>false
 | [],_::_=>true
 | _::_,[]=>false
 | x::xs,y::ys=>if x=y then lexLt xs ys else decide (x<y)
theorem cG (x y) (xs ys):lexLt (x::xs) (y::ys)=if x=y then lexLt xs ys else decide (x<y):=rfl
theorem gT:lexLt [] []=false:=rfl
theorem fZ (y) (ys):lexLt [] (y::ys)=true:=rfl
theorem f6 (x) (xs):lexLt (x::xs) []=false:=rfl
theorem yp (A:Around) (s) (a) (t:Tok) (c) (u:Tok):∃ e,Nu A s (.int a t) (.int c u) e/\(e=true↔a=c) :=
 ⟨(a == c),Nu.int_int a t c u,by simp⟩
theorem yq (A:Around) (s) (a) (t:Tok) (c) (u:Tok) (prog) (w) (E) (Q) (h:Q (.bool (decide (a<c))) s) :
 wpAny (model prog w) A (richCompare .Lt (.int a t) (.int c u)) Q E s :=
 (PyProof.Rows.lt_int h:wpAny (model prog w) A (compareOp .Lt (.int a t) (.int c u)) Q E s)
section
open PySem.SeqAt
open PySem.AutoSeq1 (wpAny_loadPart')
open PySem.MeetsSeq PySem.MeetsSeq2 PySem.MeetsSeq3
theorem gU (l b) (items items2) (n n2) (dd dd2) (sl sl2) (ns ms) (hi:IntsAre items.toList ns) (hj:IntsAre items2.toList ms) :
 Meets (Builtin.«tuple.__lt__» ⟨[.ref l,.ref b],[]⟩)
  (λ_ R s=>s.heap.get? l=some { cls:=.type "tuple",dict:=dd,data:=.seq items n,slots:=sl }/\s.heap.get? b=some { cls:=.type "tuple",dict:=dd2,data:=.seq items2 n2,slots:=sl2 } /\
    R (.ok (.ret (.bool (lexLt ns ms)))) s) :=
 .of_wp λprog w A R s h=>by
  obtain ⟨hp,g,d,tk,os⟩:=s; obtain ⟨hl,hb,h⟩:=h
  have f2:=AutoSeq1.sub_tuple_tuple
  have z1:items.size=ns.length:=by rw [<- hi.length]; simp
  have z2:items2.size=ms.length:=by rw [<- hj.length]; simp
  wp_walk using wpAny_loadPart' hl,wpAny_loadPart' hb,wpAny_forIn_list _ (λrest b s'=>b.1=none/\s'=⟨hp,g,d,tk,os⟩/\∃ (vs ws:List Value) (ns' ms':List Int),rest=vs.zip ws /\
   IntsAre vs ns'/\IntsAre ws ms'/\ns'.length+items2.size=ms'.length+items.size/\R (.ok (.ret (.bool (lexLt ns' ms')))) ⟨hp,g,d,tk,os⟩) _
  case turn =>
   rintro ⟨y,x⟩ rest b s' ⟨hb',rfl,vs,ws,ns',ms',hz,hvi,hwi,hlen,hR⟩
   cases hvi with
   | nil=>rw [List.zip_nil_left] at hz; cases hz
   | cons a t hvi' =>
    cases hwi with
    | nil=>rw [List.zip_nil_right] at hz; cases hz
    | cons c u hwi' =>
     rw [Q9] at hz
     injection hz with hyx hrest
     injection hyx with hy hx
     subst hy hx
     rw [cG] at hR
     simp only [NN] at hlen
     obtain ⟨e,he,hiff⟩:=yp A.in1 ⟨hp,g,d,tk,os⟩ a t c u
     refine MZ (he prog w _ _ ?_)
     cases e with
     | true =>
      rw [if_pos (hiff.mp rfl)] at hR
      wp_walk
      exact ⟨rfl,rfl,_,_,_,_,hrest,hvi',hwi',by lia,hR⟩
     | false =>
      rw [if_neg (λq=>absurd (hiff.mpr q) Nc)] at hR
      have hri:=yq A.in1 ⟨hp,g,d,tk,os⟩ a t c u prog w
      wp_walk using hri
      exact ⟨_,rfl,by simpa using hR⟩
  case fin =>
   rintro ⟨b1,b2⟩ s' ⟨hb',rfl,vs,ws,ns',ms',hz,hvi,hwi,hlen,hR⟩
   simp only at hb'
   subst hb'
   have hv:lexLt ns' ms'=decide (items.size<items2.size):=by
    cases hvi with
    | nil =>
     cases hwi with
     | nil =>
      simp only [OH] at hlen
      rw [gT]
      exact (decide_eq_false (by lia)).symm
     | cons c u hw =>
      simp only [OH,NN] at hlen
      rw [fZ]
      exact (decide_eq_true (by lia)).symm
    | cons a t hv =>
     cases hwi with
     | nil =>
      simp only [OH,NN] at hlen
      rw [f6]
      exact (decide_eq_false (by lia)).symm
     | cons c u hw =>
      rw [Q9] at hz
      cases hz
   rw [hv] at hR
   wp_walk
   exact ⟨_,rfl,by simpa [Builtin.Tuple.tupleCompareSizes] using hR⟩
  case h =>
   exact ⟨rfl,rfl,items.toList,items2.toList,ns,ms,rfl,hi,hj,by lia,h⟩
end
theorem se (hl:IsTup s.heap l items) (hb:IsTup s.heap b items2) (hi:IntsAre items.toList ns) (hj:IntsAre items2.toList ms)
 (hu:A.units<cLine) (h:Q (.bool (lexLt ns ms)) s):wpAny (model prog w) A (compareOp .Lt (.ref l) (.ref b)) Q E s:=by
 obtain ⟨⟨cls,dd,data,sl⟩,ho,hc,n,hd⟩:=id hl
 obtain ⟨⟨cls2,dd2,data2,sl2⟩,ho2,hc2,n2,hd2⟩:=id hb
 simp only at hc hd hc2 hd2
 subst hc hd hc2 hd2
 exact richCompare_meets_room (op:=.Lt) ⟨_,ho,rfl⟩ ⟨_,ho2,rfl⟩ R8 PySem.F.entry_tuple_lt (PySem.F.args_tuple_lt_2 _ _) (gU l b items items2 n n2 dd dd2 sl sl2 ns ms hi hj)
  ⟨ho,ho2,show Value.bool (lexLt ns ms)≠Value.notImplemented/\Q (.bool (lexLt ns ms)) s from ⟨(λx=>nomatch x),h⟩⟩ hu
noncomputable def ck (n d:Nat):Option Int->Nat
 | none=>d
 | some v=>if v<0 then (v+(n:Int)).toNat else min v.toNat n
theorem pJ (n d):ck n d none=d:=rfl
theorem uh (n d k:Nat):ck n d (some (k:Int))=min k n:=by
 show (if (k:Int)<0 then ((k:Int)+(n:Int)).toNat else min (k:Int).toNat n)=min k n
 rw [if_neg (by lia),N6]
theorem FY (n d) (hd:d<=n) (o):ck n d o<=n:=by
 cases o with
 | none=>exact hd
 | some v =>
  show (if v<0 then (v+(n:Int)).toNat else min v.toNat n)<=n
  by_cases hv:v<0
  ·rw [if_pos hv]; lia
  ·rw [if_neg hv]; exact Nat.min_le_right _ _
theorem um (v) (n d:Nat):(if v<0 then max (v+(n:Int)) 0 else min v (n:Int))=((ck n d (some v):Nat):Int):=by
 show (if v<0 then max (v+(n:Int)) 0 else min v (n:Int))=(((if v<0 then (v+(n:Int)).toNat else min v.toNat n):Nat):Int)
 by_cases hv:v<0
 ·simp only [if_pos hv]; lia
 ·simp only [if_neg hv]; lia
theorem sj (lo hi) (n:Nat):RW lo hi 1 (n:Int)=(((ck n 0 lo:Nat):Int),((ck n n hi:Nat):Int)):=by
 have h1:¬ ((1:Int)<0):=by lia
 unfold RW
 simp only [h1,if_false]
 refine Prod.ext ?_ ?_
 ·cases lo with
  | none=>rfl
  | some v=>exact um v n 0
 ·cases hi with
  | none=>rfl
  | some v=>exact um v n n
theorem sq (i j:Nat):QN (i:Int) (j:Int) 1=j - i:=by
 unfold QN
 have h1:(1:Int)>0:=by lia
 simp only [h1,if_true,Int.ediv_one]
 split <;> lia
theorem kh (p:IsPart v o) (h:Q o s):wpAny (model prog w) A (Builtin.Slice.slicePartIndex v) Q E s:=by
 cases p with
 | none=>exact slicePart_none h
 | int i t=>exact slicePart_int h
theorem fu {sl:Addr} {vl vu:Value} {lo hi:Option Int} {n:Nat} {Q:Int×Int×Nat->Shared->Prop} (hs:s.heap.IsSliceOf sl vl vu .none) (pl:IsPart vl lo) (pu:IsPart vu hi)
 (h:Q (((ck n 0 lo:Nat):Int),1,ck n n hi - ck n 0 lo) s):wpAny (model prog w) A (Builtin.Slice.sliceApplied (.ref sl) (pure (n:Int))) Q E s:=by
 obtain ⟨os,hos,hcs,hds⟩:=id hs
 unfold Builtin.Slice.sliceApplied Builtin.Slice.sliceFields
 refine MZ (MZ (OM hos hds (x:=vl) rfl (MZ (OM hos hds (x:=vu) rfl (MZ (OM hos hds (x:=.none) rfl (M3 ?_)))))))
 refine MZ (slicePart_none ?_)
 show wpAny _ _ (if ((1:Int) == 0)=true then _ else _) _ _ s
 rw [if_neg (by decide)]
 refine MZ (kh pl (MZ (kh pu (MZ (M3 ?_)))))
 show wpAny _ _ (match RW lo hi 1 (n:Int) with | (lo,hi)=>pure (lo,(1:Int),QN lo hi 1)) _ _ s
 rw [sj lo hi n]
 show wpAny _ _ (pure (((ck n 0 lo:Nat):Int),(1:Int),QN ((ck n 0 lo:Nat):Int) ((ck n n hi:Nat):Int) 1)) _ _ s
 rw [sq]
 exact M3 h
theorem yr (xs:Array Value) (i k:Nat):((NP k).filterMap λ(m:Nat)=>xs[((i:Int)+(m:Int) * 1).toNat]?).toArray=((xs.toList.drop i).take k).toArray:=by
 have e:(λ(m:Nat)=>xs[((i:Int)+(m:Int) * 1).toNat]?)=λm=>xs[i+m]?:=by
  funext m
  have:((i:Int)+(m:Int) * 1).toNat=i+m:=by lia
  rw [this]
 rw [e]
 have:=pick_run xs i k
 rw [Sn] at this
 have e2:((λx=>xs[x]?)∘λx=>i+x)=λm=>xs[i+m]?:=rfl
 rw [e2] at this
 rw [this]
theorem iF {lo hi:Option Int} (ht:IsTup s.heap t items) (hs:s.heap.IsSliceOf sl vl vu .none) (pl:IsPart vl lo) (pu:IsPart vu hi)
 (hw:¬ (ck items.size 0 lo=0/\ck items.size items.size hi=items.size))
 (h:Q (.ref s.heap.objs.size) { s with heap:=s.heap.push { cls:=.type "tuple",data:=.seq ((items.toList.drop (ck items.size 0 lo)).take (ck items.size items.size hi - ck items.size 0 lo)).toArray } })
 (hsz:items.size<=sizeLine):wpAny (model prog w) A (getItem (.ref t) (.ref sl)) Q E s:=by
 have htake:sizeOk (.seq ((items.toList.drop (ck items.size 0 lo)).take (ck items.size items.size hi - ck items.size 0 lo)).toArray):=by
  show ((items.toList.drop (ck items.size 0 lo)).take (ck items.size items.size hi - ck items.size 0 lo)).toArray.size<=sizeLine
  rw [Nq,N2,Rk,NT]
  lia
 have hj:ck items.size items.size hi<=items.size:=FY _ _ (M4 _) hi
 obtain ⟨os,hos,hcs,hds⟩:=id hs
 have hTs:s.TypeIs (.ref sl) "slice":=⟨os,hos,hcs⟩
 unfold getItem
 try with_reducible refine Oi ?_
 first | refine MZ (M3 ?_) | skip
 refine MZ (Ss ht.typeIs (by decide) ?_)
 refine MZ (OZ (name:=MY "__getitem__") ht.typeIs PJ
  (OA PJ ht.typeIs entry_tuple_getitem ?_ (args_tuple_getitem _ _)))
 show wpAny _ _ (Builtin.Tuple.tupleItemsOf (.ref t) >>= _) _ _ s
 refine MZ (tupleItemsOf_ ht ?_)
 refine MZ (O7 hTs ?_)
 rw [if_pos (by decide)]
 refine MZ (fu hs pl pu ?_)
 have hno:¬ ((((ck items.size 0 lo:Nat):Int) == 0 && (1:Int) == 1 && (ck items.size items.size hi - ck items.size 0 lo) == items.size)=true):=by
  intro q
  rw [Qs,Qs] at q
  have q1:((ck items.size 0 lo:Nat):Int)=0:=eq_of_beq q.1.1
  have q2:ck items.size items.size hi - ck items.size 0 lo=items.size:=eq_of_beq q.2
  exact hw ⟨by lia,by lia⟩
 show wpAny _ _ (if (((ck items.size 0 lo:Nat):Int) == 0 && (1:Int) == 1 && (ck items.size items.size hi - ck items.size 0 lo) == items.size)=true then _ else _) _ _ s
 rw [if_neg hno,yr]
 first
  | exact MZ (m:=QT _) (N5 (M3 ⟨_,rfl,M3 h⟩) htake)
  | exact MZ (m:=QT _) (N5 (MZ (M3 (M3 ⟨_,rfl,M3 h⟩))) htake)
  | exact MZ (MZ (m:=QT _) (N5 (M3 (M3 ⟨_,rfl,M3 h⟩)) htake))
  | exact MZ (MZ (m:=QT _) (N5 (M3 ⟨_,rfl,M3 h⟩) htake))
end HT
namespace L2
open PySem PySem.Spec PyProof.Rows
noncomputable abbrev TO:=St->Hp->(Option Int->Hp->Prop)->Prop
def PO (X:Cx) (e:Option Expr) (t:TO):Prop :=
 ∀ (aa:List (Addr×Obj)) (s:Shared) (σ:St) (H:Hp) (Q:Option Int->Hp->Prop),Inv X aa σ H s->t σ H Q ->
  wpAny (model X.prog X.w) X.A (evalPart e X.env) (λu s'=>∃ o H',Inv X aa σ H' s'/\IsPart u o/\Q o H') X.xe s
noncomputable def B9:TO:=λ_ H Q=>Q none H
noncomputable def Jd (t:TE):TO:=λσ H Q=>t σ H λx H1=>∃ i,x=.int i/\Q (some i) H1
theorem intsAre_of:∀ {us:List Value},Vals (ns.map V.int) us->IntsAre us ns:=by
 induction ns with
 | nil=>intro us r; rw [OW] at r; cases r; exact .nil
 | cons n ns ih =>
  intro us r
  rw [M7] at r
  cases r with
  | cons r1 r2 =>
   obtain ⟨t,e⟩:=r1
   subst e
   exact .cons n t (ih r2)
section
variable {lo hi:Option Expr}
theorem Ca:PO X none B9:=by
 intro aa s σ H Q I h
 rw [evalPart_none]
 exact M3 ⟨none,H,I,.none,h⟩
theorem Cb (h:PE X e te):PO X (some e) (Jd te):=by
 intro aa s σ H Q I hw
 rw [evalPart_some]
 refine bJ (h aa s σ H _ I hw) λu s1 ⟨x,H1,I1,r1,q1⟩=>?_
 obtain ⟨i,rfl,q⟩:=q1
 obtain ⟨t,rfl⟩:=r1
 exact ⟨some i,H1,I1,.int i t,q⟩
def BJ (X:Cx) (r:V->Option Int->Option Int->Hp->VK->Prop):Prop :=
 ∀ (aa:List (Addr×Obj)) (s:Shared) (σ:St) (H:Hp) (x:V) (v vl vu:Value) (lo hi:Option Int) (sl:Addr) (Q:VK),Inv X aa σ H s->RelV x v->s.heap.IsSliceOf sl vl vu .none->IsPart vl lo->IsPart vu hi->r x lo hi H Q ->
  ∃ T id,typeLookup (.type T) "__getitem__"=pure (some (.builtin id))/\s.TypeIs v T/\wpAny (model X.prog X.w) X.A (getItem v (.ref sl)) (EP X aa σ Q) X.xe s
theorem BJ.or (h:BJ X r) (h':BJ X r'):BJ X (λx lo hi H Q=>r x lo hi H Q\/r' x lo hi H Q):=by
 intro aa s σ H x v vl vu lo hi sl Q I rx hs pl pu q
 rcases q with q | q
 ·exact h aa s σ H x v vl vu lo hi sl Q I rx hs pl pu q
 ·exact h' aa s σ H x v vl vu lo hi sl Q I rx hs pl pu q
noncomputable def MR (r:V->Option Int->Option Int->Hp->VK->Prop) (te:TE) (tl th:TO):TE:=λσ H Q=>te σ H λx H1=>tl σ H1 λl H2=>th σ H2 λu H3=>r x l u H3 Q
theorem yt (hr:BJ X r) (he:PE X e te) (hl:PO X lo tl) (hu:PO X hi th):PE X (.Subscript e (.Slice lo hi none p2) pos) (MR r te tl th):=by
 intro aa s σ H Q I h
 refine Subscript_ (bJ (he aa s σ H _ I h) λv s1 ⟨x,H1,I1,r1,q1⟩=>?_)
 refine wpAny_Slice (bJ (hl aa s1 σ H1 _ I1 q1) λvl s2 ⟨l,H2,I2,pl,q2⟩=>bJ (hu aa s2 σ H2 _ I2 q2) λvu s3 ⟨u,H3,I3,pu,q3⟩=>?_)
 rw [evalPart_none]
 refine M3 ?_
 have I4:Inv X aa σ H3 { s3 with heap:=s3.heap.push { cls:=.type "slice",data:=.fields #[vl,vu,.none] } }:=I3.kept (t':=s3.toks) λb ob q=>M9 _ q
 obtain ⟨T,id,hT,ht,hg⟩:=hr aa { s3 with heap:=s3.heap.push { cls:=.type "slice",data:=.fields #[vl,vu,.none] } } σ H3 x v vl vu l u s3.heap.objs.size Q I4 r1 (Heap.IsSliceOf.new ..) pl pu q3
 show wpAny (model X.prog X.w) X.A (subscriptTail e (.Slice lo hi none p2) v (.ref s3.heap.objs.size)) (EP X aa σ Q) X.xe { s3 with heap:=s3.heap.push { cls:=.type "slice",data:=.fields #[vl,vu,.none] } }
 exact tail_any (ops:=[.ref s3.heap.objs.size,v]) ht hT hg (by walk_at "u")
noncomputable def nI (xs:List V) (lo hi:Option Int):List V:=(xs.drop (HT.ck xs.length 0 lo)).take (HT.ck xs.length xs.length hi - HT.ck xs.length 0 lo)
theorem jG (xs) (lo hi):(nI xs lo hi).length<=xs.length:=by
 unfold nI
 rw [N2,Rk]
 lia
noncomputable def Lu (K:M0):V->Option Int->Option Int->Hp->VK->Prop:=λx lo hi H Q=>∃ a xs,x=.ref a/\dh K H a xs /\
 ¬ (HT.ck xs.length 0 lo=0/\HT.ck xs.length xs.length hi=xs.length)/\∀ p,H p=none->Q (.ref p) (upd H p (.tup (nI xs lo hi)))
theorem FZ:BJ X (Lu X.K):=by
 intro aa s σ H x v vl vu lo hi sl Q I rx hs pl pu h
 obtain ⟨a,xs,rfl,hx,hw,q⟩:=h
 cases rx
 obtain ⟨its,r,ht,hz⟩:=I.tuple hx
 have hlen:its.toArray.size=xs.length:=by rw [Nq]; exact r.length.symm
 refine ⟨"tuple",_,PJ.lookup,ht.typeIs,?_⟩
 refine HT.iF ht hs pl pu (by rw [hlen]; exact hw) ?_ (by rw [hlen]; exact hz)
 rw [hlen]
 refine ⟨.ref s.heap.objs.size,_,I.laid (t':=s.toks) (o:=.tup (nI xs lo hi)) (λb ob q=>M9 _ q) (M4 _) ?_,rfl,q _ (I.hok.fresh (M4 _))⟩
 exact ⟨Nb (jG xs lo hi) hz,_,(r.drop (HT.ck xs.length 0 lo)).take (HT.ck xs.length xs.length hi - HT.ck xs.length 0 lo),IsTup.new _ _⟩
theorem Vals.uo (r:Vals xs us):us=[]↔xs=[]:=by
 cases r with
 | nil=>simp
 | cons _ _=>simp
end
noncomputable def Iw (n:Nat) (i:Int):Option Nat:=if 0<=i then (if i<n then some i.toNat else none) else if -(n:Int)<=i then some (i+n).toNat else none
noncomputable def ki {α:Type} (xs:List α) (i:Int):Option α:=(Iw xs.length i).bind λj=>xs[j]?
theorem Cc (h:Iw n i=some j):seqIndex? i n=some j/\j<n/\ -(n:Int)<=i/\i<n:=by
 unfold Iw at h
 by_cases h0:0<=i
 ·rw [if_pos h0] at h
  by_cases h1:i<n
  ·rw [if_pos h1] at h
   have e:i.toNat=j:=OG h
   exact ⟨by rw [seqIndex_of h0 h1,e],by lia,by lia,h1⟩
  ·rw [if_neg h1] at h; cases h
 ·rw [if_neg h0] at h
  by_cases h1: -(n:Int)<=i
  ·rw [if_pos h1] at h
   have e:(i+n).toNat=j:=OG h
   exact ⟨by rw [seqIndex_neg (by lia) h1,e],by lia,h1,by lia⟩
  ·rw [if_neg h1] at h; cases h
theorem uq (h:ki xs i=some v):∃ j,seqIndex? i xs.length=some j/\xs[j]?=some v/\j<xs.length/\ -(xs.length:Int)<=i/\i<xs.length:=by
 unfold ki at h
 cases e:Iw xs.length i with
 | none=>rw [e] at h; cases h
 | some j =>
  rw [e] at h
  obtain ⟨h1,h2,h3,h4⟩:=Cc e
  exact ⟨j,h1,h,h2,h3,h4⟩
def jW (b:Expr):Prop:=∀ o i,subscripted b false o i=operate [o,i] (getItem o i)
def ED (X:Cx) (r:R2):Prop :=
 ∀ (value slice:Expr) (aa:List (Addr×Obj)) (s:Shared) (σ:St) (H:Hp) (x y:V) (v u:Value) (Q:VK),Inv X aa σ H s->RelV x v->RelV y u->r x y H Q ->
  subscripted slice false v u=operate [v,u] (getItem v u)->wpAny (model X.prog X.w) X.A (subscriptTail value slice v u) (EP X aa σ Q) X.xe s
def Lv (X:Cx) (id:String) (r:V->List V->Hp->VK->Prop):Prop :=
 ∀ (aa:List (Addr×Obj)) (s:Shared) (σ:St) (H:Hp) (x:V) (xs:List V) (v:Value) (us:List Value) (Q:VK),Inv X aa σ H s->RelV x v->Vals xs us->r x xs H Q ->
  wpAny (model X.prog X.w) X.A (call (.builtin id) (v::us)) (EP X aa σ Q) X.xe s
section
theorem ED.or (h:ED X r) (h':ED X r'):ED X (λx y H Q=>r x y H Q\/r' x y H Q):=by
 intro value slice aa s σ H x y v u Q I rx ry q hs
 rcases q with q | q
 ·exact h value slice aa s σ H x y v u Q I rx ry q hs
 ·exact h' value slice aa s σ H x y v u Q I rx ry q hs
theorem Je (hr:ED X r) (ha:PE X a ta) (hb:PE X b tb) (hs:jW b):PE X (.Subscript a b pos) (KP r ta tb):=by
 intro aa s σ H Q I h
 exact Subscript_ (FE ha hb I h λv u s2 x y H2 I2 rx ry q=>hr a b aa s2 σ H2 x y v u Q I2 rx ry q (hs _ _))
noncomputable def Lw (K:M0):R2:=λx y H Q=>∃ p xs i v,x=.ref p/\y=.int i/\gF K H p xs/\ki xs i=some v/\Q v H
noncomputable def Lx (K:M0):R2:=λx y H Q=>∃ p xs i v,x=.ref p/\y=.int i/\dh K H p xs/\ki xs i=some v/\Q v H
theorem Cd:ED X (Lw X.K):=by
 intro value slice aa s σ H x y v u Q I rx ry h hs
 obtain ⟨p,xs,i,z,rfl,rfl,hq,he,q⟩:=h
 cases rx
 obtain ⟨t,rfl⟩:=ry
 obtain ⟨its,r,pl,hz⟩:=I.list hq
 obtain ⟨j,h1,h2,h3,h4,h5⟩:=uq he
 obtain ⟨w,ew,rw'⟩:=r.get h2
 have hl:=r.length
 have hn:=nG
 have fin:EP X aa σ Q w s:=⟨z,H,I,rw',q⟩
 by_cases h0:0<=i
 ·have hj:i.toNat=j:=by
   rw [seqIndex_of h0 h5] at h1
   exact OG h1
  exact item_listR pl.isList h0 (by lia) (by rw [hj]; simpa using ew) fin hs
 ·have hj:(i+(its.toArray.size:Int)).toNat=j:=by
   rw [seqIndex_neg (by lia) h4] at h1
   rw [Nq,<- hl]
   exact OG h1
  exact subscriptTail_builtinR (x:=w) pl.isList.typeIs Sw.lookup
   (wpAny_getItem_list_neg (Q:=λr s'=>r=w/\EP X aa σ Q r s') pl.isList (by lia) (by rw [Nq] <;> lia) (by lia) (by rw [hj]; simpa using ew) ⟨rfl,fin⟩) hs
theorem F0:ED X (Lx X.K):=by
 intro value slice aa s σ H x y v u Q I rx ry h hs
 obtain ⟨p,xs,i,z,rfl,rfl,hq,he,q⟩:=h
 cases rx
 obtain ⟨t,rfl⟩:=ry
 obtain ⟨its,r,pl,hz⟩:=I.tuple hq
 obtain ⟨j,h1,h2,h3,h4,h5⟩:=uq he
 obtain ⟨w,ew,rw'⟩:=r.get h2
 have hl:=r.length
 have hn:=nG
 have fin:EP X aa σ Q w s:=⟨z,H,I,rw',q⟩
 exact subscriptTail_builtinR (x:=w) pl.typeIs slot_tuple_getitem.lookup
  (getItem_tuple (j:=j) (Q:=λr s'=>r=w/\EP X aa σ Q r s') pl (by lia) (by lia) (by rw [Nq,<- hl]; exact h1) (by simpa using ew) ⟨rfl,fin⟩) hs
theorem nJ (lo hi) (n):(sliceBounds lo hi none n).1=((HT.ck n 0 lo:Nat):Int)/\(sliceBounds lo hi none n).2.1=((HT.ck n n hi:Nat):Int)/\(sliceBounds lo hi none n).2.2=1:=by
 refine ⟨?_,?_,rfl⟩
 ·cases lo with
  | none=>simp [sliceBounds,HT.ck]
  | some i =>
   simp only [sliceBounds,HT.ck,Option.getD_none,show (1:Int)>0 by decide,if_true]
   by_cases h:i<0
   ·simp only [h,if_true] <;> lia
   ·simp only [h,if_false] <;> lia
 ·cases hi with
  | none=>simp [sliceBounds,HT.ck]
  | some i =>
   simp only [sliceBounds,HT.ck,Option.getD_none,show (1:Int)>0 by decide,if_true]
   by_cases h:i<0
   ·simp only [h,if_true] <;> lia
   ·simp only [h,if_false] <;> lia
theorem lO (its:List Value) (lo hi):slicePick its.toArray lo hi none=((its.drop (HT.ck its.length 0 lo)).take (HT.ck its.length its.length hi - HT.ck its.length 0 lo)).toArray:=by
 obtain ⟨h1,h2,h3⟩:=nJ lo hi its.toArray.size
 unfold slicePick
 rw [h1,h2,h3]
 simp only [sliceRange_one,pick_run,Nq] <;> rfl
noncomputable def Ly (K:M0):V->Option Int->Option Int->Hp->VK->Prop:=λx lo hi H Q=>∃ a xs,x=.ref a/\gF K H a xs/\∀ p,H p=none->Q (.ref p) (upd H p (.lst (nI xs lo hi)))
theorem Ce:BJ X (Ly X.K):=by
 intro aa s σ H x v vl vu lo hi sl Q I rx hs pl pu h
 obtain ⟨a,xs,rfl,hx,q⟩:=h
 cases rx
 obtain ⟨its,r,ht,hz⟩:=I.list hx
 have hlen:=r.length
 refine ⟨"list",_,Sw.lookup,ht.isList.typeIs,?_⟩
 refine wpAny_getItem_list_slice ht.isList hs pl pu .none (by simp) ?_ (by rw [Nq] <;> lia)
 rw [lO,<- hlen]
 refine ⟨.ref s.heap.objs.size,_,I.laid (t':=s.toks) (o:=.lst (nI xs lo hi)) (λb ob q=>M9 _ q) (M4 _) ?_,rfl,q _ (I.hok.fresh (M4 _))⟩
 exact ⟨Nb (jG xs lo hi) hz,_,0,(r.drop (HT.ck xs.length 0 lo)).take (HT.ck xs.length xs.length hi - HT.ck xs.length 0 lo),Nl _ rfl⟩
theorem nK:fY X (.builtin "len") (λxs H Q=>∃ p ys,xs=[.ref p]/\(gF X.K H p ys\/dh X.K H p ys)/\Q (.int ys.length) H):=by
 intro aa s σ H xs us Q I r h
 obtain ⟨p,ys,rfl,hq,q⟩:=h
 obtain ⟨u,rfl,rx⟩:=vals1 r
 cases rx
 have hn:=nG
 rcases hq with hq | hq
 ·obtain ⟨its,r',pl,hz⟩:=I.list hq
  have hlen:=r'.length
  exact Calls.call_len_list pl.isList (by simp only [Nq] <;> lia) ⟨.int ys.length,H,I.tok _,⟨s.toks+1,by rw [Nq,hlen]⟩,q⟩
 ·obtain ⟨its,r',pl,hz⟩:=I.tuple hq
  have hlen:=r'.length
  exact len_tuple pl (by simp only [Nq] <;> lia) ⟨.int ys.length,H,I.tok _,⟨s.toks+1,by rw [Nq,hlen]⟩,q⟩
theorem nL:fY X (.type "list") (λxs H Q=>∃ p ys,xs=[.ref p]/\(gF X.K H p ys\/dh X.K H p ys)/\∀ l,H l=none->Q (.ref l) (upd H l (.lst ys))):=by
 intro aa s σ H xs us Q I r h
 obtain ⟨p,ys,rfl,hq,q⟩:=h
 obtain ⟨u,rfl,rx⟩:=vals1 r
 cases rx
 have fin:∀ (its:List Value),Vals ys its->ys.length<=sizeLine->∀ (h':Heap) (c':Nat),(∀ b o',s.heap.get? b=some o'->h'.get? b=some o') ->
  h'.get? s.heap.objs.size=some { cls:=.type "list",dict:=none,data:=.seq its.toArray c',slots:= #[] }->EP X aa σ Q (.ref s.heap.objs.size) { s with heap:=h' }:=λits r' hz h' c' kp e =>
  ⟨.ref s.heap.objs.size,_,I.laid (t':=s.toks) kp (M4 _) (show bq X.prog X.w _ h' _ (.lst ys) from ⟨hz,its,c',r',e⟩),rfl,q _ (I.hok.fresh (M4 _))⟩
 rcases hq with hq | hq
 ·obtain ⟨its,r',pl,hz⟩:=I.list hq
  have hlen:=r'.length
  obtain ⟨o,ho,hc,n,hd⟩:=pl.isList
  exact call_list_seq p (.inl rfl) ho hc hd (λh' c' kp e=>fin its r' hz h' c' kp e) (by simp only [Nq] <;> lia)
 ·obtain ⟨its,r',pl,hz⟩:=I.tuple hq
  have hlen:=r'.length
  obtain ⟨o,ho,hc,n,hd⟩:=pl
  exact call_list_seq p (.inr rfl) ho hc hd (λh' c' kp e=>fin its r' hz h' c' kp e) (by simp only [Nq] <;> lia)
theorem lP:fY X (.type "tuple") (λxs H Q=>∃ p ys,xs=[.ref p]/\((gF X.K H p ys/\∀ l,H l=none->Q (.ref l) (upd H l (.tup ys)))\/(dh X.K H p ys/\Q (.ref p) H))):=by
 intro aa s σ H xs us Q I r h
 obtain ⟨p,ys,rfl,h⟩:=h
 obtain ⟨u,rfl,rx⟩:=vals1 r
 cases rx
 rcases h with ⟨hq,q⟩ | ⟨hq,q⟩
 ·obtain ⟨its,r',pl,hz⟩:=I.list hq
  have hlen:=r'.length
  refine call_tuple_list pl.isList (λh' kp=>?_) (by simp only [Nq] <;> lia)
  have I1:Inv X aa σ H { s with heap:=h' }:=I.kept (t':=s.toks) kp
  have I2:Inv X aa σ (upd H h'.objs.size (.tup ys)) { s with heap:=h'.push { cls:=.type "tuple",data:=.seq its.toArray } } :=
   I1.laid (t':=s.toks) (λb o e=>M9 _ e) (M4 _) (show bq X.prog X.w _ _ _ (.tup ys) from ⟨hz,its,r',IsTup.new _ _⟩)
  exact ⟨.ref h'.objs.size,_,I2,rfl,q _ (I1.hok.fresh (M4 _))⟩
 ·obtain ⟨its,r',pl,hz⟩:=I.tuple hq
  exact call_tuple_same pl ⟨.ref p,H,I,rfl,q⟩
def Lz (K:M0) (T:String) (x:V) (H:Hp):Prop:=match x with
 | .str _=>T="str"
 | .int _=>T="int"
 | .ref p=>(T="list"/\∃ xs,gF K H p xs)\/(T="tuple"/\∃ o,K.lookup p=some o/\o.cls=.type "tuple"/\o.dict=none) \/
  (T="dict"/\((∃ kvs,H p=some (.dK kvs))\/∃ kvs,H p=some (.dT kvs)))\/(T="set"/\∃ S n,H p=some (.set S n))
 | _=>False
theorem yu (I:Inv X aa σ H s) (r:RelV x v) (ty:Lz X.K T x H) :
 s.TypeIs v T/\∀ a,v=.ref a->∃ ob,s.heap.get? a=some ob/\ob.dict=none:=by
 cases x with
 | str z =>
  obtain ⟨t,rfl⟩:=r
  cases (show T="str" from ty)
  exact ⟨typeIs_str s z t,λ_ e=>nomatch e⟩
 | int i =>
  obtain ⟨t,rfl⟩:=r
  cases (show T="int" from ty)
  exact ⟨Qf s i t,λ_ e=>nomatch e⟩
 | ref p =>
  cases r
  rcases ty with ⟨rfl,xs,hq⟩ | ⟨rfl,o,hk,hc,hd⟩ | ⟨rfl,hk⟩ | ⟨rfl,S,n,hk⟩
  ·obtain ⟨its,_,pl,_⟩:=I.list hq
   refine ⟨pl.isList.typeIs,λa e=>?_⟩
   cases e
   obtain ⟨o,n,e,c,hd,_⟩:=pl
   exact ⟨o,e,hd⟩
  ·refine ⟨⟨o,I.BI p o hk,hc⟩,λa e=>?_⟩
   cases e
   exact ⟨o,I.BI _ o hk,hd⟩
  ·have z:∃ o,s.heap.get? p=some o/\o.ExactDict:=by
    rcases hk with ⟨kvs,hk⟩ | ⟨kvs,hk⟩
    ·obtain ⟨_,_,_,_,o,_,_,e,ex,_⟩:=I.hok p _ hk
     exact ⟨o,e,ex⟩
    ·obtain ⟨_,_,_,_,o,_,_,e,ex,_⟩:=I.hok p _ hk
     exact ⟨o,e,ex⟩
   obtain ⟨o,e,ex⟩:=z
   refine ⟨⟨o,e,ex.1⟩,λa e2=>?_⟩
   cases e2
   exact ⟨o,e,ex.2.1⟩
  ·obtain ⟨o,_,_,_,e,ex,_⟩:=I.hok p _ hk
   refine ⟨⟨o,e,ex.1⟩,λa e2=>?_⟩
   cases e2
   exact ⟨o,e,ex.2.1⟩
 | _=>exact Oc ty
noncomputable def LA (K:M0) (T:String) (r:V->List V->Hp->VK->Prop) (to:TE):TE:=λσ H Q=>to σ H λx H1=>Lz K T x H1/\r x [] H1 Q
noncomputable def MS (K:M0) (T:String) (r:V->List V->Hp->VK->Prop) (to:TE) (t:TA):TE:=λσ H Q=>to σ H λx H1=>Lz K T x H1/\t σ H1 λxs H2=>r x xs H2 Q
variable {T id:String}
theorem F1 (pa:PlainAttrs T) (slot:Slot T name id) (hty:typeOf (.builtin id)=pure (.type "method_descriptor")) (hm:Lv X id r) (ho:PE X o to)
 (hbase:attributeBase o name X.env (eval o X.env)=eval o X.env:=by rfl) (hline:(apos.endLine == cpos.line)=true:=by rfl):PE X (.Call (.Attribute o name apos) [] [] cpos) (LA X.K T r to):=by
 intro aa s σ H Q I h
 refine wpAny_Call_method0_late hbase hline (bJ (ho aa s σ H _ I h) λv s1 ⟨x,H1,I1,r1,ty,q1⟩=>?_)
 obtain ⟨h1,h2⟩:=yu I1 r1 ty
 exact ⟨T,id,pa,slot,hty,h1,h2,R7 rfl (PySem.evalArgs_none (hm aa s1 σ H1 x [] v [] Q I1 r1 .nil q1))⟩
theorem EE (pa:PlainAttrs T) (slot:Slot T name id) (hty:typeOf (.builtin id)=pure (.type "method_descriptor")) (hm:Lv X id r) (ho:PE X o to) (ha:PA X (e::es) t)
 (hbase:attributeBase o name X.env (eval o X.env)=eval o X.env:=by rfl)
 (hfew:((backTo cpos (starEach (e::es) X.env)).all (λx=> !x.1) && (backToKw cpos (keywordEach [] X.env)).all (λx=>x.1.isSome)
   && decide ((e::es).length+([]:List Keyword).length+(if ([]:List Keyword).isEmpty then 0 else 1)<30))=true:=by rfl)
 (hline:(apos.endLine == cpos.line)=true:=by rfl) (hs:starEach (e::es) X.env=(false,eval e X.env)::starEach es X.env:=by rfl) (hplain:(backTo cpos (starEach es X.env)).any (·.1)=false:=by rfl) :
 PE X (.Call (.Attribute o name apos) (e::es) [] cpos) (MS X.K T r to t):=by
 intro aa s σ H Q I h
 refine wpAny_Call_method_late hbase hfew hline rfl (bJ (ho aa s σ H _ I h) λv s1 ⟨x,H1,I1,r1,ty,q1⟩=>?_)
 obtain ⟨h1,h2⟩:=yu I1 r1 ty
 refine ⟨T,id,pa,slot,hty,h1,h2,?_⟩
 have hA:=ha cpos aa s1 σ H1 _ I1 q1
 rw [hs] at hA |-
 refine R7 (by show (false || (backTo cpos (starEach es X.env)).any (·.1))=false; rw [hplain] <;> rfl) (Calls.evalArgs_plain ?_)
 exact bJ hA λus s2 ⟨vs,H2,I2,r2,q2⟩=>hm aa s2 σ H2 x vs v us Q I2 r1 r2 q2
end
def MA (X:Cx) (id:String) (r:V->List V->Hp->VK->Prop):Prop :=
 ∀ (aa:List (Addr×Obj)) (s:Shared) (σ:St) (H:Hp) (x:V) (xs:List V) (v:Value) (us:List Value) (Q:VK),Inv X aa σ H s->RelV x v->Vals xs us->r x xs H Q ->
  wpAny (model X.prog X.w) X.A (call (.builtin id) (v::us)) (EP X aa σ Q) X.xe s
theorem Vals.one:∀ {x:V} {us:List Value},Vals [x] us->∃ u,us=[u]/\RelV x u
 | _,_,.cons r .nil=>⟨_,rfl,r⟩
theorem Vals.rep (h:Vals xs us):∀ k:Nat,Vals (Nh k xs).flatten (Nh k us).flatten
 | 0=>.nil
 | k+1=>by
  rw [OJ,OJ,Pn,Pn]
  exact Vals.append h (Vals.rep h k)
theorem foldl_rep (its):∀ (k:Nat) (acc:List Value),
 Qi (λx1 x2=>x1++x2) acc.toArray (Nh k its.toArray)=(acc++(Nh k its).flatten).toArray
 | 0,acc=>by simp
 | k+1,acc=>by
  have e:acc.toArray++its.toArray=(acc++its).toArray:=by simp
  have e2:(acc++its)++(Nh k its).flatten=acc++(Nh (k+1) its).flatten:=by
   rw [OJ,Pn,Nz]
  rw [<- e2,<- foldl_rep its k (acc++its),<- e,OJ,Ou]
theorem Inv.su {its its':List Value} (I:Inv X aa σ H s) (hH:H l=some (.lst xs))
 (e:s.heap.get? l=some { cls:=.type "list",data:=.seq its.toArray n }) (hf:f its.toArray=its'.toArray) (hv:Vals ys its') (hz:ys.length<=sizeLine) :
 Inv X aa σ (upd H l (.lst ys)) { s with heap:=s.heap.update l (NH f),toks:=t' }:=by
 have q:=PySem.IsL.update e f
 rw [hf] at q
 refine I.write (x:=l) (e:=l) (by rw [hH]; exact trivial) (.inl rfl) (λb' u hb hu=>(QW s.heap (NH f) (Nv hb)).trans hu) ⟨_,q⟩ ?_
 exact ⟨hz,its',_,hv,q⟩
theorem Inv.Cf (I:Inv X aa σ H s) (hv:Vals ys its) (hz:ys.length<=sizeLine) :
 Inv X aa σ (upd H s.heap.objs.size (.lst ys)) { s with heap:=s.heap.push { cls:=.type "list",data:=.seq its.toArray },toks:=t' } :=
 I.laid (λ_ _ q=>M9 _ q) (M4 _) ⟨hz,its,0,hv,Nl _ rfl⟩
theorem Inv.fresh (I:Inv X aa σ H s):H s.heap.objs.size=none:=I.hok.fresh (M4 _)
theorem Inv.pK (I:Inv X aa σ H s) (hH:H l=some (.lst xs)):xs.length<=sizeLine/\∃ (its:List Value) (n:Nat),Vals xs its/\xs.length=its.length/\s.heap.get? l=some { cls:=.type "list",data:=.seq its.toArray n }:=by
 obtain ⟨z,its,n,r,e⟩:=I.hok l _ hH
 exact ⟨z,its,n,r,r.length,e⟩
theorem yv (h:n<=sizeLine):R0 n=false:=by
 unfold R0
 exact decide_eq_false (by lia)
noncomputable def Cg:V->List V->Hp->VK->Prop:=λx vs H Q=>∃ l xs y,x=.ref l/\vs=[y]/\H l=some (.lst xs)/\xs.length<sizeLine/\Q .non (upd H l (.lst (xs++[y])))
theorem mq:MA X "list.append" Cg:=by
 intro aa s σ H x vs v us Q I rx rv h
 obtain ⟨l,xs,y,rfl,rfl,hH,hz,q⟩:=h
 cases rx
 obtain ⟨u,rfl,ru⟩:=rv.one
 obtain ⟨z,its,n,r,hl,e⟩:=I.pK hH
 refine Qg F.slot_list_append ⟨_,e,rfl⟩ F.entry_list_append (F.args_list_append_2 _ _) (PySem.list_append l its.toArray n u (by rw [Nq]; lia)) ⟨e,?_⟩
 refine ⟨.non,_,I.su (its':=its++[u]) hH e (by simp) (r.append (.cons ru .nil)) ?_,rfl,q⟩
 rw [NJ,QY]
 lia
noncomputable def LB:R2:=λx y H Q=>∃ l k xs,x=.ref l/\y=.int k/\H l=some (.lst xs)/\ -(2 ^ 63)<=k/\k<2 ^ 63/\xs.length * k.toNat<=sizeLine /\
 ∀ p,H p=none->Q (.ref p) (upd H p (.lst (Nh k.toNat xs).flatten))
theorem len_rep {α:Type} (xs:List α) (k):(Nh k xs).flatten.length=k * xs.length:=by
 induction k with
 | zero=>simp
 | succ k ih=>rw [OJ,Pn,NJ,ih,Qc,Nat.add_comm]
theorem F2:fH X (binaryOp .Mult) LB:=by
 intro aa s σ H x y v u Q I rx ry h
 obtain ⟨l,k,xs,rfl,rfl,hH,h1,h2,hz,q⟩:=h
 cases rx
 obtain ⟨t,rfl⟩:=ry
 obtain ⟨z,its,n,r,hl,e⟩:=I.pK hH
 have hlen:its.toArray.size * k.toNat<=sizeLine:=by rw [Nq,<- hl]; exact hz
 have hcap:¬ its.toArray.size * k.toNat>(2 ^ 63 - 1) / 8:=by
  have:(sizeLine:Nat)<=(2 ^ 63 - 1) / 8:=by decide
  lia
 have hfit:¬ (!Builtin.List.listFitsIndex k)=true:=by
  rw [fitsIndex_both h1 h2]
  exact Nc
 have hlong:¬ R0 (its.toArray.size * k.toNat)=true:=by
  rw [yv hlen]
  exact Nc
 have hnew:Qi (λx1 x2=>x1++x2) #[] (Nh (if its.toArray.isEmpty=true then 0 else k.toNat) its.toArray)=(Nh k.toNat its).flatten.toArray:=by
  have f0:∀ m:Nat,Qi (λx1 x2=>x1++x2) #[] (Nh m its.toArray)=(Nh m its).flatten.toArray:=λm=>by
   have:=foldl_rep its m []
   rw [Rp] at this
   exact this
  rw [f0]
  cases its with
  | nil=>simp
  | cons a r'=>rw [if_neg (by simp)]
 refine wpAny_binaryOp_repeat_ref (T:="list") (U:="int") (by decide) ⟨_,e,rfl⟩ (λs'=>Qf s' k t) noFill_list_mul F.fills_int_mul Rr repeat_list F.slot_int_index.lookup
  (Qg Rr (Qf s k t) F.entry_int_rmul (F.args_int_rmul_2 _ _) (int___rmul___int_list k t l its.toArray n)
    ⟨e,rfl,⟨_,e,rfl⟩,Qg F.slot_list_mul ⟨_,e,rfl⟩ F.entry_list_mul (F.args_list_mul_2 _ _) (AutoListH.list___mul___list_int_3 l its.toArray n k t hfit hcap hlong) ⟨e,?_⟩⟩)
 rw [hnew]
 exact ⟨.ref _,_,I.Cf (t':=s.toks) (r.rep k.toNat) (by rw [len_rep,RH]; exact hz),rfl,q _ I.fresh⟩
section
variable {κ:Type} [DecidableEq κ]
noncomputable def kj (kvs:List (κ×V)) (k:κ):Option V:=(kvs.find? λkv=>decide (kv.1=k)).map (·.2)
noncomputable def putK (kvs:List (κ×V)) (k:κ) (v:V):List (κ×V) :=
 if (kvs.any λkv=>decide (kv.1=k))=true then kvs.map (λkv=>if kv.1=k then (kv.1,v) else kv) else kvs++[(k,v)]
theorem ko {p:κ×V} {r:List (κ×V)} {k:κ} (e:p.1=k):kj (p::r) k=some p.2:=by simp [kj,OB,e]
theorem kq {p:κ×V} {r:List (κ×V)} {k:κ} (e:¬ p.1=k):kj (p::r) k=kj r k:=by simp [kj,OB,e]
theorem pM (k:κ):∀ kvs:List (κ×V),(kvs.any λkv=>decide (kv.1=k))=(kj kvs k).isSome
 | []=>rfl
 | p::r=>by
  rw [List.any_cons]
  by_cases e:p.1=k
  ·simp only [ko e,decide_eq_true e,Bool.true_or,Option.isSome_some]
  ·rw [kq e,decide_eq_false e,Bool.false_or]; exact pM k r
theorem pN (kvs) (k:κ) (v):(putK kvs k v).length<=kvs.length+1:=by
 unfold putK
 split
 ·rw [M8]; lia
 ·rw [NJ,NN,OH]; lia
theorem jL.jg (r:jL o u):o.isSome=u.isSome:=by
 cases o with
 | none=>cases u with
  | none=>rfl
  | some _=>exact (show False from r).elim
 | some _=>cases u with
  | none=>exact (show False from r).elim
  | some _=>rfl
theorem jL.getD (r:jL o u) (rd:RelV d d'):RelV (o.getD d) (u.getD d'):=by
 cases o with
 | none=>cases u with
  | none=>exact rd
  | some _=>exact (show False from r).elim
 | some _=>cases u with
  | none=>exact (show False from r).elim
  | some _=>exact r
theorem KV.val (r:KV kvs vs) (k:κ):jL (kj kvs k) (valueAt vs k):=by
 unfold KV at r
 induction r with
 | nil=>exact Qh
 | @cons p q ps qs h t ih =>
  obtain ⟨h1,h2⟩:=h
  by_cases e:p.1=k
  ·have e':q.1=k:=h1.symm.trans e
   have b:valueAt (q::qs) k=some q.2:=by simp [valueAt,OB,e']
   rw [ko e,b]; exact h2
  ·have e':¬ q.1=k:=λz=>e (h1.trans z)
   have b:valueAt (q::qs) k=valueAt qs k:=by simp [valueAt,OB,e']
   rw [kq e,b]; exact ih
theorem KV.any (r:KV kvs vs) (k:κ):(kvs.any λkv=>decide (kv.1=k))=vs.any λkv=>decide (kv.1=k):=by
 unfold KV at r
 induction r with
 | nil=>rfl
 | cons h t ih=>rw [List.any_cons,List.any_cons,ih,h.1]
theorem KV.repl (r:KV kvs vs) (k:κ) (ry:RelV y u) :
 KV (kvs.map λkv=>if kv.1=k then (kv.1,y) else kv) (vs.map λkv=>if kv.1=k then (kv.1,u) else kv):=by
 unfold KV at r |-
 induction r with
 | nil=>exact .nil
 | @cons p q ps qs h t ih =>
  rw [M7,M7]
  refine .cons ?_ ih
  obtain ⟨h1,h2⟩:=h
  by_cases e:p.1=k
  ·rw [if_pos e,if_pos (h1.symm.trans e)]; exact ⟨h1,ry⟩
  ·rw [if_neg e,if_neg (λz=>e (h1.trans z))]; exact ⟨h1,h2⟩
theorem KV.put (r:KV kvs vs) (k:κ) (ry:RelV y u):KV (putK kvs k y) (stored vs k u):=by
 unfold putK stored
 rw [r.any k]
 by_cases e:(vs.any λkv=>decide (kv.1=k))=true
 ·rw [if_pos e,if_pos e]; exact r.repl k ry
 ·rw [if_neg e,if_neg e]; exact RO r ⟨rfl,ry⟩
theorem KV.length {kvs:List (κ×V)} {vs:List (κ×Value)} (r:KV kvs vs):kvs.length=vs.length:=Oj r
end
theorem pO (r:RelV (kV k) u):(bV P w).is k u=true:=by
 cases k with
 | inl i=>obtain ⟨t,e⟩:=(show ∃ t,u=Value.int i t from r); subst e; exact pD P w i t
 | inr x=>obtain ⟨t,e⟩:=(show ∃ t,u=Value.str x t from r); subst e; exact pF P w x t
theorem mw:∀ {ks:List Key} {us:List Value},Vals (ks.map kV) us->ItemsAre (bV P w) ks us
 | [],_,r=>by rw [OW] at r; cases r; exact .nil
 | k::ks,_,r=>by
  rw [M7] at r
  cases r with
  | cons h t=>exact .cons (pO h) (mw t)
noncomputable abbrev KT:List (List Key×Addr×V)->List (List Key×Addr×Value)->Prop:=Paired λp q=>p.1=q.1/\p.2.1=q.2.1/\RelV p.2.2 q.2.2
noncomputable def atT (kvs:List (List Key×Addr×V)) (k:List Key):Option V:=(kvs.find? λkv=>decide (kv.1=k)).map (·.2.2)
noncomputable def nM (k:List Key) (v:V) (x:List Key×Addr×V):List Key×Addr×V:=if x.1=k then (x.1,x.2.1,v) else x
noncomputable def pP (kvs:List (List Key×Addr×V)) (k:List Key) (b:Addr) (v:V):List (List Key×Addr×V) :=
 if (atT kvs k).isSome=true then kvs.map (nM k v) else kvs++[(k,b,v)]
theorem pQ (kvs) (k) (b) (v):(pP kvs k b v).length<=kvs.length+1:=by
 unfold pP
 split
 ·rw [M8]; lia
 ·rw [NJ,NN,OH]; lia
theorem KT.val (r:KT kvs xs) (k):jL (atT kvs k) ((atKey xs k).map (·.2)):=by
 induction r with
 | nil=>exact Qh
 | @cons p q ps qs h t ih =>
  obtain ⟨h1,_,h2⟩:=h
  by_cases e:p.1=k
  ·have e':q.1=k:=h1.symm.trans e
   have b:atKey (q::qs) k=some q.2:=by simp [atKey,OB,e']
   have b2:atT (p::ps) k=some p.2.2:=by simp [atT,OB,e]
   rw [b2,b]; exact h2
  ·have e':¬ q.1=k:=λz=>e (h1.trans z)
   have b:atKey (q::qs) k=atKey qs k:=by simp [atKey,OB,e']
   have b2:atT (p::ps) k=atT ps k:=by simp [atT,OB,e]
   rw [b2,b]; exact ih
theorem KT.repl (r:KT kvs xs) (k) (ry:RelV y u) :
 KT (kvs.map (nM k y)) (xs.map (putAt k u)):=by
 induction r with
 | nil=>exact .nil
 | @cons p q ps qs h t ih =>
  rw [M7,M7]
  refine .cons ?_ ih
  obtain ⟨h1,h2,h3⟩:=h
  unfold putAt nM
  by_cases e:p.1=k
  ·rw [if_pos e,if_pos (h1.symm.trans e)]; exact ⟨h1,h2,ry⟩
  ·rw [if_neg e,if_neg (λz=>e (h1.trans z))]; exact ⟨h1,h2,h3⟩
theorem KT.put (r:KT kvs xs) (k) (ry:RelV y u) :
 KT (pP kvs k b y) (storedH xs k b u):=by
 have e:(atT kvs k).isSome=(atKey xs k).isSome:=by
  rw [(r.val k).jg,Pk]
 unfold pP storedH
 rw [e]
 by_cases q:(atKey xs k).isSome=true
 ·rw [if_pos q,if_pos q]; exact r.repl k ry
 ·rw [if_neg q,if_neg q]; exact RO r ⟨rfl,rfl,ry⟩
theorem yw (ok:jb P w H h) (e:Rd H a u):bq P w H h a u:=e.ok ok
theorem mz (ok:jb P w H h) (e:Rd H a (.dK kvs)):kvs.length<=sizeLine/\(a == sysModules)=false/\∃ vs,KV kvs vs/\h.DictOf (bV P w) a vs :=
 show bq P w H h a (.dK kvs) from yw ok e
theorem Jf (ok:jb P w H h) (e:H a=some (.dK kvs)):kvs.length<=sizeLine/\(a == sysModules)=false/\∃ vs,KV kvs vs/\h.DictOf (bV P w) a vs:=mz ok (.inl e)
theorem kr (I:Inv X aa σ H s) (e:dh X.K H a (ks.map kV)):(tupleKind (bV X.prog X.w)).is s.heap ks a:=by
 obtain ⟨its,r,⟨o,h1,h2,n,h3⟩,_⟩:=I.tuple e
 exact ⟨o,its.toArray,n,h1,h2,h3,by simpa using mw r⟩
theorem pR (I:Inv X aa σ H s) (e:Rd H a (.dT kvs)) (hk:∀ x∈kvs,dh X.K H x.2.1 (x.1.map kV)):kvs.length<=sizeLine/\(a == sysModules)=false /\
 ∃ xs,KT kvs xs/\s.heap.DictOfH (tupleKind (bV X.prog X.w)) a xs:=by
 obtain ⟨z,y,xs,r,o,es,ep,h1,h2,h3,h4,h5⟩:=(show bq X.prog X.w H s.heap a (.dT kvs) from yw I.hok e)
 refine ⟨z,y,xs,r,o,es,ep,h1,h2,h3,h4,?_,h5⟩
 have all:∀ {l:List (List Key×Addr×V)} {m:List (List Key×Addr×Value)},KT l m->(∀ x∈l,dh X.K H x.2.1 (x.1.map kV))->∀ x∈m,(tupleKind (bV X.prog X.w)).is s.heap x.1 x.2.1:=by
  intro l m q
  induction q with
  | nil=>intro _ x hx; exact nomatch hx
  | @cons p q ps qs hq t ih =>
   intro hl x hx
   rcases Nm.mp hx with e | hx
   ·subst e
    rw [<- hq.1,<- hq.2.1]
    exact kr I (hl p Ng)
   ·exact ih (λy hy=>hl y (Ni _ hy)) x hx
 exact all r hk
def nN (K:M0) (H:Hp) (a:Addr) (y:V) (r:Option V):Prop :=
 (∃ kvs k,Rd H a (.dK kvs)/\y=kV k/\r=kj kvs k)\/∃ kvs k b,Rd H a (.dT kvs)/\(∀ x∈kvs,dh K H x.2.1 (x.1.map kV))/\y=.ref b/\dh K H b (k.map kV)/\r=atT kvs k
def Ci (K:M0) (H:Hp) (a:Addr) (y v:V) (H':Hp):Prop :=
 (∃ kvs k,H a=some (.dK kvs)/\y=kV k/\kvs.length<sizeLine/\H'=upd H a (.dK (putK kvs k v))) \/
 ∃ kvs k b,H a=some (.dT kvs)/\(∀ x∈kvs,dh K H x.2.1 (x.1.map kV))/\y=.ref b/\dh K H b (k.map kV)/\kvs.length<sizeLine/\H'=upd H a (.dT (pP kvs k b v))
theorem Inv.big (I:Inv X aa σ H s):sysModules<s.heap.objs.size:=by
 have h:mainGlobals<s.heap.objs.size:=(I.mod.glob.keeps I.bk).lt
 exact Nat.lt_trans (by decide) h
theorem mC (hu:A.units+1<cLine) (I:Inv X aa σ H s) (g:nN X.K H a y (some v)) (ry:RelV y u) (h:∀ w' s',Inv X aa σ H s'->RelV v w'->Q w' s') :
 wpAny (model X.prog X.w) A (getItem (.ref a) u) Q E s:=by
 rcases g with ⟨kvs,k,e,ey,l⟩ | ⟨kvs,k,b,e,hk,ey,eb,l⟩
 ·subst ey
  obtain ⟨z,hd,vs,rel,dd⟩:=mz I.hok e
  obtain ⟨w',hw,rw'⟩:=jL.some_of (v:=v) (o:=valueAt vs k) (by rw [l]; exact rel.val k)
  exact wpAny_getItem_of (pO ry) dd.mapOf hw (h w' _ (I.tok _) rw')
 ·subst ey
  cases (show u=NC b from ry)
  obtain ⟨z,hd,xs,rel,dd⟩:=pR I e hk
  obtain ⟨w',hw,rw'⟩:=jL.some_of (v:=v) (o:=(atKey xs k).map (·.2)) (by rw [l]; exact rel.val k)
  obtain ⟨p,hp,hp2⟩:=Nk.mp hw
  refine wpAny_getItem_heap (Q7 hu) (kr I eb) dd hp ?_
  rw [hp2]
  exact h w' _ (I.tok _) rw'
theorem LC (hu:A.units+1<cLine) (I:Inv X aa σ H s) (g:nN X.K H a y o) (ry:RelV y u) (h:∀ s',Inv X aa σ H s'->Q (.bool o.isSome) s') :
 wpAny (model X.prog X.w) A (compareOp .In u (.ref a)) Q E s:=by
 rcases g with ⟨kvs,k,e,ey,l⟩ | ⟨kvs,k,b,e,hk,ey,eb,l⟩
 ·subst ey
  obtain ⟨z,hd,vs,rel,dd⟩:=mz I.hok e
  refine wpAny_in_of (pO ry) hd dd.mapOf ?_
  rw [<- (rel.val k).jg,<- l]
  exact h _ (I.tok _)
 ·subst ey
  cases (show u=NC b from ry)
  obtain ⟨z,hd,xs,rel,dd⟩:=pR I e hk
  refine wpAny_in_heap (Q7 hu) (kr I eb) hd dd ?_
  have q:=(rel.val k).jg
  rw [Pk] at q
  rw [<- q,<- l]
  exact h _ (I.tok _)
theorem uu (I:Inv X aa σ H s) (mu:IG (H a)) (hs:OF a s.heap h') (he:∃ q,h'.get? a=some q) (new:bq X.prog X.w (upd H a ob) h' a ob) :
 Inv X aa σ (upd H a ob) { s with heap:=h',toks:=t' } :=
 I.write (x:=a) (e:=a) mu (.inl rfl) (λb q hb z=>(hs.2 b hb).trans z) he new
theorem F3 (z:kvs.length<=sizeLine) (hd:(a == sysModules)=false) (rel:KV kvs vs) (dd:h'.DictOf (bV P w) a vs) :
 bq P w H' h' a (.dK kvs):=⟨z,hd,vs,rel,dd⟩
theorem mD (hu:A.units+1<cLine) (I:Inv X aa σ H s) (g:Ci X.K H a y v H') (ry:RelV y u) (rv:RelV v r) (h:∀ s',Inv X aa σ H' s'->Q () s') :
 wpAny (model X.prog X.w) A (setItem (.ref a) u r) Q E s:=by
 rcases g with ⟨kvs,k,e,ey,l,eH⟩ | ⟨kvs,k,b,e,hk,ey,eb,l,eH⟩
 ·subst ey eH
  obtain ⟨z,hd,vs,rel,dd⟩:=Jf I.hok e
  have hz:vs.length<=sizeLine:=by rw [<- rel.length]; exact z
  have hl:(putK kvs k v).length<=sizeLine:=by have:=pN kvs k v; lia
  refine wpAny_setItem_pairs (hsz:=hz) (pO ry) dd λh' dd' hs=>h _ ?_
  have he:∃ q,h'.get? a=some q:=let ⟨q,_,_,hq,_⟩:=dd'; ⟨q,hq⟩
  exact uu I (by rw [e]; exact Qh) hs he (F3 hl hd (rel.put k rv) dd')
 ·subst ey eH
  cases (show u=NC b from ry)
  obtain ⟨z,hd,xs,rel,dd⟩:=pR I (.inl e) hk
  have hz:xs.length<=sizeLine:=by rw [<- Oj rel]; exact z
  have hl:(pP kvs k b v).length<=sizeLine:=by have:=pQ kvs k b v; lia
  refine wpAny_setItem_heap (hsz:=hz) (Q7 hu) (kr I eb) dd λh' dd' hs=>h _ ?_
  obtain ⟨q,es,ep,hq,h2,h3,h4,_,h5⟩:=dd'
  exact uu I (by rw [e]; exact Qh) hs ⟨q,hq⟩ ⟨hl,hd,_,rel.put k rv,q,es,ep,hq,h2,h3,h4,h5⟩
def Cj (i:Expr):Prop:=∀ ov iv,subscripted i false ov iv=operate [ov,iv] (getItem ov iv)
theorem Ck {T id:String}
 (hl:typeLookup (.type T) "__getitem__"=pure (some (.builtin id))) (hs:Cj slice)
 (h:wpAny (model prog w) A (eval value env) (λo s₁=>wpAny (model prog w) A (eval slice env) (λi s₂=>s₂.TypeIs o T/\wpAny (model prog w) A (getItem o i) Q E s₂) E s₁) E s) :
 wpAny (model prog w) A (eval (.Subscript value slice pos) env) Q E s:=by
 refine Subscript_ (NQ h (λo s₁ h₁=>NQ h₁ (λi s₂ h₂=>?_) λ_ _ x=>x) λ_ _ x=>x)
 obtain ⟨hT,h₂⟩:=h₂
 unfold subscriptTail
 refine MZ ?_
 rw [getitemInPython_of_ne hT.not_modules]
 refine MZ (wpAny_specialOf hT hl ?_)
 have fin:wpAny (model prog w) A (subscripted slice false o i) (λr s₃=>wpAny (model prog w) A (letTemporaryGo value o r >>= λ_=>pure r) Q E s₃) E s₂:=by
  rw [hs o i]
  exact wpAny_operating (NQ h₂ (λr s₃ h₃=>MZ (wpAny_letTemporaryGo (M3 h₃))) λ_ _ x=>x)
 first
  | exact M3 (MZ fin)
  | exact MZ (M3 (MZ fin))
  | exact MZ fin
theorem pS (I:Inv X aa σ H s) (g:nN X.K H a y o):s.TypeIs (.ref a) "dict":=by
 rcases g with ⟨kvs,k,e,_,_⟩ | ⟨kvs,k,b,e,hk,_,_,_⟩
 ·obtain ⟨_,_,vs,_,dd⟩:=mz I.hok e
  exact dd.typeIs
 ·obtain ⟨_,_,xs,_,dd⟩:=pR I e hk
  exact dd.typeIs
noncomputable def Jg (X:Cx) (td ty:TE):TE:=λσ H Q=>td σ H λx H1=>ty σ H1 λy H2=>∃ a v,x=.ref a/\nN X.K H2 a y (some v)/\Q v H2
noncomputable def LD (X:Cx) (ty td:TE):TE:=λσ H Q=>ty σ H λy H1=>td σ H1 λx H2=>∃ a o,x=.ref a/\nN X.K H2 a y o/\Q (.bl o.isSome) H2
noncomputable def Jh (X:Cx) (td ty tv:TE):TS:=λD σ H=>tv σ H λv H1=>td σ H1 λx H2=>ty σ H2 λy H3=>∃ a H4,x=.ref a/\Ci X.K H3 a y v H4/\D.nx σ H4
noncomputable def Ji (X:Cx) (td ty tv:TE) (rd:V->V->Hp->VK->Prop):TS:=λD σ H=>td σ H λx H1=>ty σ H1 λy H2=>∃ a v,x=.ref a/\nN X.K H2 a y (some v) /\
 tv σ H2 λy2 H3=>rd v y2 H3 λz H4=>∃ H5,Ci X.K H4 a y z H5/\D.nx σ H5
theorem uv (hu:X.A.units+1<cLine) (ho:PE X o td) (hi:PE X i ty) (hs:Cj i):PE X (.Subscript o i pos) (Jg X td ty):=by
 intro aa s σ H Q I h
 refine Ck PySem.F.slot_dict_getitem.lookup hs (bJ (ho aa s σ H _ I h) λu s1 ⟨x,H1,I1,rx,q1⟩=>bJ (hi aa s1 σ H1 _ I1 q1) λiv s2 ⟨y,H2,I2,ry,a,v,ex,g,q2⟩=>?_)
 subst ex
 obtain rfl:u=NC a:=rx
 exact ⟨pS I2 g,mC hu I2 g ry λw' s3 I3 rw'=>⟨v,H2,I3,rw',q2⟩⟩
theorem F4 (hu:X.A.units+1<cLine) (hi:PE X i ty) (ho:PE X o td):PC X .In i o (LD X ty td):=by
 intro aa s σ H Q I h
 refine bJ (hi aa s σ H _ I h) λiv s1 ⟨y,H1,I1,ry,q1⟩=>bJ (ho aa s1 σ H1 _ I1 q1) λu s2 ⟨x,H2,I2,rx,a,ov,ex,g,q2⟩=>?_
 subst ex
 obtain rfl:u=NC a:=rx
 exact LC hu I2 g ry λs3 I3=>⟨.bl ov.isSome,H2,I3,rfl,q2⟩
theorem Cm (hu:X.A.units+1<cLine) (ho:PE X o td) (hi:PE X i ty) (hv:PE X value tv) (hs:swapsWith value (some (.Subscript o i pos')) pos.line X.env=pure false) :
 PS X (.Assign [.Subscript o i pos'] value pos) (Jh X td ty tv):=by
 intro aa s σ H D I h
 refine wpAny_Assign_Subscript (bJ (hv aa s σ H _ I h) λr s1 ⟨v,H1,I1,rv,q1⟩=>bJ (ho aa s1 σ H1 _ I1 q1) λu s2 ⟨x,H2,I2,rx,q2⟩=>bJ (hi aa s2 σ H2 _ I2 q2) λiv s3 ⟨y,H3,I3,ry,a,H4,ex,g,q3⟩=>?_) hs
 subst ex
 obtain rfl:u=NC a:=rx
 exact mD hu I3 g ry rv λs4 I4=>⟨σ,H4,I4,q3⟩
theorem Cn (hu:X.A.units+1<cLine) (ho:PE X o td) (hi:PE X i ty) (hv:PE X value tv) (hop:Jb X op rd)
 (ha:∀ ov iv new,augStore i ov iv new=(do holding [new,ov,iv] (setItem ov iv new); release [new,ov,iv] []; pure .next)):PS X (.AugAssign (.Subscript o i tpos) op value pos) (Ji X td ty tv rd):=by
 intro aa s σ H D I h
 refine wpAny_AugAssign_SubscriptAny (bJ (ho aa s σ H _ I h) λu s1 ⟨x,H1,I1,rx,q1⟩=>bJ (hi aa s1 σ H1 _ I1 q1) λiv s2 ⟨y,H2,I2,ry,a,v,ex,g,q2⟩=>?_) ha
 subst ex
 obtain rfl:u=NC a:=rx
 refine mC hu I2 g ry λw' s3 I3 rw'=>bJ (hv aa s3 σ H2 _ I3 q2) λw2 s4 ⟨y2,H3,I4,ry2,q3⟩=>bJ (hop aa s4 σ H3 v y2 w' w2 _ I4 rw' ry2 q3) λw3 s5 ⟨z,H4,I5,rz,H5,g5,q4⟩=>?_
 exact mD hu I5 g5 ry rz λs6 I6=>⟨σ,H5,I6,q4⟩
theorem yx (h:Heap) (hb:sysModules<h.objs.size):bq P w H (h.push { cls:=.type "dict",data:=.dict #[] }) h.objs.size (.dK []) :=
 ⟨ND _,beq_eq_false_iff_ne.mpr (Nv (NB hb)),[],.nil,Heap.DictOf.new h⟩
theorem yy (h:Heap) (hb:sysModules<h.objs.size):bq P w H (h.push { cls:=.type "dict",data:=.dict #[] }) h.objs.size (.dT []) :=
 ⟨ND _,beq_eq_false_iff_ne.mpr (Nv (NB hb)),[],.nil,_,#[],0,Nl _ rfl,⟨rfl,rfl,rfl⟩,rfl,rfl,List.nodup_nil⟩
noncomputable def F5:TE:=λ_ H Q=>∀ p,H p=none->Q (.ref p) (upd H p (.dK []))
noncomputable def F6:TE:=λ_ H Q=>∀ p,H p=none->Q (.ref p) (upd H p (.dT []))
theorem yz:PE X (.Dict [] [] pos) F5:=λaa s σ H Q I h =>
 wpAny_Dict_empty ⟨.ref s.heap.objs.size,_,I.laid (a:=s.heap.objs.size) (o:=.dK []) (t':=s.toks) (λ_ _ q=>M9 _ q) (M4 _) (yx s.heap I.big),rfl,h _ (I.hok.fresh (M4 _))⟩
theorem yC:PE X (.Dict [] [] pos) F6:=λaa s σ H Q I h =>
 wpAny_Dict_empty ⟨.ref s.heap.objs.size,_,I.laid (a:=s.heap.objs.size) (o:=.dT []) (t':=s.toks) (λ_ _ q=>M9 _ q) (M4 _) (yy s.heap I.big),rfl,h _ (I.hok.fresh (M4 _))⟩
structure M1 (X:Cx) (o:Expr) (m:Str) (apos:Pos) (e:Expr) (cpos:Pos):Prop where
 base:attributeBase o m X.env (eval o X.env)=eval o X.env
 few:((backTo cpos (starEach [e] X.env)).all (λx=> !x.1) && (backToKw cpos (keywordEach [] X.env)).all (λx=>x.1.isSome)
  && decide (([e]:List Expr).length+([]:List Keyword).length+(if ([]:List Keyword).isEmpty then 0 else 1)<30))=true
 line:(apos.endLine == cpos.line)=true
 trees:backTo cpos (starEach [e] X.env)=[(false,eval e X.env)]
structure M2 (X:Cx) (o:Expr) (m:Str) (apos:Pos) (e f:Expr) (cpos:Pos):Prop where
 base:attributeBase o m X.env (eval o X.env)=eval o X.env
 few:((backTo cpos (starEach [e,f] X.env)).all (λx=> !x.1) && (backToKw cpos (keywordEach [] X.env)).all (λx=>x.1.isSome)
  && decide (([e,f]:List Expr).length+([]:List Keyword).length+(if ([]:List Keyword).isEmpty then 0 else 1)<30))=true
 line:(apos.endLine == cpos.line)=true
 trees:backTo cpos (starEach [e,f] X.env)=[(false,eval e X.env),(false,eval f X.env)]
def LF (H:Hp) (a:Addr):Prop:=(∃ kvs,Rd H a (.dK kvs))\/∃ kvs,Rd H a (.dT kvs)
theorem F7 (I:Inv X aa σ H s) (d:LF H a) :
 s.TypeIs (.ref a) "dict"/\(∀ b,NC a=.ref b->∃ ob,s.heap.get? b=some ob/\ob.dict=none)/\(a == sysModules)=false:=by
 rcases d with ⟨kvs,e⟩ | ⟨kvs,e⟩
 ·obtain ⟨_,hd,vs,_,dd⟩:=mz I.hok e
  refine ⟨dd.typeIs,λb q=>?_,hd⟩
  cases q
  obtain ⟨ob,_,_,h1,h2,_⟩:=dd
  exact ⟨ob,h1,h2.2.1⟩
 ·obtain ⟨_,hd,xs,_,ob,es,ep,h1,h2,_⟩:=(show bq X.prog X.w H s.heap a (.dT kvs) from yw I.hok e)
  refine ⟨⟨ob,h1,h2.1⟩,λb q=>?_,hd⟩
  cases q
  exact ⟨ob,h1,h2.2.1⟩
theorem F8 (hu:A.units+1<cLine) (I:Inv X aa σ H s) (g:nN X.K H a y o) (ry:RelV y u) (rd:RelV d r) (h:∀ w' s',Inv X aa σ H s'->RelV (o.getD d) w'->Q w' s') :
 wpAny (model X.prog X.w) A (call (.builtin "dict.get") [.ref a,u,r]) Q E s:=by
 rcases g with ⟨kvs,k,e,ey,l⟩ | ⟨kvs,k,b,e,hk,ey,eb,l⟩
 ·subst ey
  obtain ⟨z,hd,vs,rel,dd⟩:=mz I.hok e
  refine call_meetsIn R9 dd.typeIs PySem.F.entry_dict_get (PySem.F.args_dict_get_3 _ _ _) (meets_dict_get_default (bV X.prog X.w) a (pO ry) hd r) ⟨_,dd.mapOf,h _ _ (I.tok _) ?_⟩
  rw [l]
  exact (rel.val k).getD rd
 ·subst ey
  cases (show u=NC b from ry)
  obtain ⟨z,hd,xs,rel,dd⟩:=pR I e hk
  refine call_meetsIn R9 dd.typeIs PySem.F.entry_dict_get (PySem.F.args_dict_get_3 _ _ _) (meetsH_dict_get_default (tupleKind (bV X.prog X.w)) a b hd r) ⟨Q7 hu,k,xs,kr I eb,dd,h _ _ (I.tok _) ?_⟩
  rw [l]
  exact (rel.val k).getD rd
noncomputable def F9 (X:Cx) (td ty tx:TE):TE:=λσ H Q=>td σ H λx H1=>∃ a,x=.ref a/\LF H1 a/\ty σ H1 λy H2=>tx σ H2 λz H3=>∃ o,nN X.K H3 a y o/\Q (o.getD z) H3
theorem yD (hu:X.A.units+1<cLine) (ho:PE X o td) (he:PE X e ty) (hf:PE X f tx) (m:M2 X o "get" apos e f cpos):PE X (.Call (.Attribute o "get" apos) [e,f] [] cpos) (F9 X td ty tx):=by
 intro aa s σ H Q I h
 refine wpAny_Call_method m.base m.few m.line PySem.F.plainAttrs_dict R9 PySem.F.type_dict_get (bJ (ho aa s σ H _ I h) λu s1 ⟨x,H1,I1,rx,a,ex,d,q1⟩=>?_)
 subst ex
 obtain rfl:u=NC a:=rx
 obtain ⟨t1,t2,_⟩:=F7 I1 d
 refine ⟨t1,t2,?_⟩
 rw [m.trees]
 refine R7 rfl (Calls.evalArgs_plain (So (bJ (he aa s1 σ H1 _ I1 q1) λiv s2 ⟨y,H2,I2,ry,q2⟩ =>
  So (bJ (hf aa s2 σ H2 _ I2 q2) λfv s3 ⟨z,H3,I3,rz,ov,g,q3⟩=>Calls.spliced_nil ?_))))
 exact F8 hu I3 g ry rz λw' s4 I4 rw'=>⟨_,H3,I4,rw',q3⟩
end L2
namespace Att
open PySem PySem.W PySem.Calls PyProof.Rows
theorem jM:∀ (ns:List Int) (vs:List Value),WellAll P h vs (ns.map WData.int)->IntsAre vs ns:=by
 intro ns
 induction ns with
 | nil =>
  intro vs w
  rw [OW] at w
  cases w
  exact .nil
 | cons n ns ih =>
  intro vs w
  rw [M7] at w
  cases w with
  | cons a b =>
   cases a
   exact .cons _ _ (ih _ b)
theorem wo {l:OpenLaw} (hn:l.most=some n)
 (hpre:l.row.toRowW.claim.pre args=true) (hwl:WellAll P h vals args) :
 ∃ a vs ns,vals=[NC a]/\args=[WData.list (ns.map WData.int)]/\h.get? a=some { cls:=.type "list",data:=.seq vs.toArray }/\IntsAre vs ns/\ns.length<=n:=by
 have hsh:WShape.hasAll [] args [.list .int]=true:=(pre_splitW hpre).1
 have hc:l.pre.holds [] { args:=args }=true:=(pre_splitW hpre).2
 obtain ⟨d,r,rfl,h1,h2⟩:=hasAllW_cons hsh
 obtain rfl:=hasAllW_nil h2
 obtain ⟨xs,rfl,h3⟩:=hasW_list h1
 obtain ⟨ns,rfl⟩:=items_int h3
 have hlen:ns.length<=n:=by
  unfold OpenLaw.pre at hc
  have h4:(WTm.not (.lt (.lit (.int (n:Int))) (.len (.arg 0)))).holds [] { args:=[.list (ns.map .int)] }=true:=by
   have h4:=(holds_andW hc).1
   rw [hn] at h4
   exact h4
  have h5:=condW_of h4 (w_not (w_lt w_lit (w_len_list (w_arg rfl))))
  rw [M8] at h5
  refine Nat.le_of_not_lt λq=>?_
  have q':(n:Int)<((ns.length:Nat):Int):=by lia
  first
   | (rw [decide_eq_true q'] at h5; exact absurd h5 (by decide))
   | (simp at h5; lia)
 cases hwl with
 | cons w1 w2 =>
  cases w2
  cases w1 with
  | list ho hall=>exact ⟨_,_,ns,rfl,rfl,ho,jM ns _ hall,hlen⟩
theorem wu (l:OpenLaw) (args):l.row.toRowW.claim.post args (.bool true) args=true :=
 postW_of (r:=l.row.toRowW) (X:=(true == true))
  (show WShape.has [] (.bool true) .bool=true by first | rfl | decide | simp [WShape.has,WShape.arms,WShape.armsAll])
  (show (WTm.eq .res (.lit (.bool true))).value [] { args:=args,res:=some (.bool true),after:=args }=some (.bool (true == true)) from w_eq_bool (w_res rfl) w_lit) rfl
theorem pU {l:OpenLaw}
 (hn:l.most=some n) (hdf:d.params.defaults=[])
 (call:∀ (w:World) (s₀ s₁:Shared) (mg mb:Str->Option Value) (fa:Addr) (o:Obj) (pm cd doc:Value) (a:Addr) (vs:List Value) (ns:List Int),
   Ground q loose [] XP w s₀ mg mb s₁.heap->YP w s₁.heap ->
   s₁.heap.get? fa=some o->o.data=.func (docDef d.name d.params d.body d.scope pm cd doc)->s₁.heap.CodeRec cd d.name->mg d.name=some (.ref fa) ->
   s₁.heap.get? a=some { cls:=.type "list",data:=.seq vs.toArray }->IntsAre vs ns->ns.length<=n->s₁.gens= #[] ->
   codeAny (model l.prog w) callerA (.call (.ref fa) ⟨[.ref a],[]⟩) (λr s'=>r=.ok (.ret (.bool true))/\OldK s₁.heap s'.heap/\s'.os=s₁.os/\AllBare s'.gens) s₁) :
 WalkO q loose XP YP l.row.toRowW d [] (λf vs=>PySem.call f vs):=by
 intro w s₀ s₁ mg mb G Y fa o pm cd doc dV kV ho hd hcd hD hmg hg args vals as hpre hlay hrd hwl hlo
 obtain rfl:dV=.none:=Dflts.none hD hdf
 obtain rfl:kV=.none:=Dflts.noKw hD
 obtain ⟨a,vs,ns,rfl,rfl,hobj,hints,hlen⟩:=wo hn hpre hwl
 refine enter_call (QD (call w s₀ s₁ mg mb fa o pm cd doc a vs ns G Y ho (fd_plain hd) hcd hmg hobj hints hlen hg) λr s' hq=>?_)
 obtain ⟨rfl,h2,h3,h4⟩:=hq
 exact ⟨.inl ⟨.bool true,.bool true,[],rfl,λ_=>rfl,.bool true,wu l _,λ_=>⟨Qq,λ_ hm=>(nomatch hm)⟩⟩,h2,h3,h4⟩
end Att
namespace L2
open PySem PySem.Spec PyProof.Rows
theorem mE:∀ {vs:List Value} {ns:List Int},IntsAre vs ns->Vals (ns.map V.int) vs
 | _,_,.nil=>.nil
 | _,_,.cons n t h=>.cons ⟨t,rfl⟩ (mE h)
def Ga (H:Hp):Prop:=∀ b,H b=none\/∃ o xs,H b=some (.frz o (.lst xs))
theorem yE {K:M0}
 (KX:K.In s₁.heap) (hns:s₁.heap.Ns mainGlobals mg) (hb:s₁.heap.Ns builtinsNs mb) (hbb:∀ x:Str,x≠"__name__"->mb x=bootBuiltins x) (hlim:s₁.heap.NoLimit) (hg:s₁.gens= #[])
 (ha:s₁.heap.get? a=some { cls:=.type "list",data:=.seq vs.toArray }) (hi:IntsAre vs ns) (hl:ns.length<=sizeLine) (hr:gR k callerA)
 (F:∀ base:Heap,K.In base->base.Ns mainGlobals mg->aZ P w K mg base CX k fa fd [x] sp) (hbind:∀ (s:Shared) (u:Value),BindsTo s fd ⟨[u],[]⟩ [(x,u)])
 (tY:∀ H:Hp,Ga H->gF K H a (ns.map V.int)->sp [.ref a] H (λv _=>v=.bl true) λ_ _ _=>False)
 (hCX:∀ H e s',CX [] H s₁ (λ_ _ _=>False) e s'->False) :
 codeAny (model P w) callerA (.call (.ref fa) ⟨[.ref a],[]⟩) (λr s'=>r=.ok (.ret (.bool true))/\OldK s₁.heap s'.heap/\s'.os=s₁.os/\AllBare s'.gens) s₁:=by
 have rv:=mE hi
 have lenV:=hi.length
 have core:∀ H:Hp,Ga H->gF K H a (ns.map V.int)->jb P w H s₁.heap->(∀ b,H b≠none->b=a)->(H a≠none->K.lookup a=none) ->
  codeAny (model P w) callerA (.call (.ref fa) ⟨[.ref a],[]⟩) (λr s'=>r=.ok (.ret (.bool true))/\OldK s₁.heap s'.heap/\s'.os=s₁.os/\AllBare s'.gens) s₁:=by
  intro H hO hS hok hA hK
  have base_of:∀ {b:Addr} {o:Obj},s₁.heap.get? b=some o->H b=none->(nC s₁.heap H).get? b=some o:=λe n=>ya e n
  have noA:∀ {b:Addr} {o:Obj} {es:Array DictEntry} {ep:Nat},s₁.heap.get? b=some o->o.data=.dict es ep->H b=none:=λ{b o es ep} e d=>by
   cases q:H b with
   | none=>rfl
   | some u =>
    have e':b=a:=hA b (by rw [q]; simp)
    subst e'
    rw [ha] at e; cases e
    have d':Data.seq vs.toArray _=Data.dict es ep:=d
    cases d'
  have nsK:∀ {b:Addr} {m:Str->Option Value},s₁.heap.Ns b m->(nC s₁.heap H).Ns b m:=λ{b m} ⟨o,es,ep,e,d,r⟩=>⟨o,es,ep,base_of e (noA e d),d,r⟩
  have hKb:K.In (nC s₁.heap H):=λb o e=>base_of (KX b o e) (by
   cases q:H b with
   | none=>rfl
   | some u =>
    have e':b=a:=hA b (by rw [q]; simp)
    subst e'
    rw [hK (by rw [q]; simp)] at e; cases e)
  have hM:Mod K mg (nC s₁.heap H):=⟨hKb,nsK hns,⟨mb,nsK hb,hbb⟩,let ⟨mc,h1,h2⟩:=hlim; ⟨mc,nsK h1,h2⟩⟩
  have e0:B8 P w K mg (nC s₁.heap H) callerA [] s₁ H:=⟨rfl,hM,λb o e=>BY e,Nat.le_of_eq (v8 _ _),trivial,λb hb=>absurd (show b∈([]:List Addr) from hb) (by simp),hok,.of_eq hg⟩
  refine QD ((F _ hKb (nsK hns)).run callerA [] s₁ H ⟨[.ref a],[]⟩ [.ref a] [.ref a] _ _ hr e0 (hbind s₁ (.ref a)) (.cons rfl .nil) (tY H hO hS)) λr s' h=>?_
  cases r with
  | error e=>exact (hCX H e s' h).elim
  | ok fl =>
   cases fl with
   | next=>exact Oc h
   | brk=>exact Oc h
   | cont=>exact Oc h
   | ret u =>
    obtain ⟨v,H',os,bare,un,hok',r',q⟩:=h
    have q':v=.bl true:=q
    subst q'
    obtain rfl:u=Value.bool true:=r'
    refine ⟨rfl,OldK.of_keep λb o e=>?_,os,bare⟩
    cases q:H b with
    | none=>exact un.keep b o e q (by intro z; exact absurd (show b∈([]:List Addr) from z) (by simp)) (by simp)
    | some u =>
     rcases hO b with z | ⟨ob,xs,z⟩
     ·rw [q] at z; cases z
     ·have z2:=un.frzs b ob _ z
      obtain ⟨e1,_⟩:=hok b _ z
      obtain ⟨e2,_⟩:=hok' b _ z2
      rw [e] at e1; cases e1
      exact e2
 cases hk:K.lookup a with
 | some o =>
  have e:=KX a o hk
  rw [ha] at e
  cases e
  refine core (λ_=>none) (λ_=>.inl rfl) (.inr ⟨_,vs.toArray,_,hk,rfl,rfl,rfl,by rw [Nq,lenV]; exact hl,by simpa using rv⟩) (λb u z=>by have z':(none:Option HO)=some u:=z; cases z') (λb z=>absurd rfl z) λz=>absurd rfl z
 | none =>
  refine core (λb=>if b=a then some (.frz { cls:=.type "list",data:=.seq vs.toArray } (.lst (ns.map V.int))) else none) (λb=>?_) (.inl (.inr ⟨{ cls:=.type "list",data:=.seq vs.toArray },if_pos rfl⟩)) (λb u z=>?_) (λb z=>?_) λ_=>hk
  ·by_cases hb:b=a
   ·exact .inr ⟨_,_,if_pos hb⟩
   ·exact .inl (if_neg hb)
  ·by_cases hb:b=a
   ·have z':=(if_pos hb).symm.trans z
    cases z'
    subst hb
    exact ⟨ha,by rw [M8]; exact hl,vs,_,rv,ha⟩
   ·have z':=(if_neg hb).symm.trans z
    cases z'
  ·by_cases hb:b=a
   ·exact hb
   ·exact absurd (if_neg hb) z
noncomputable abbrev fc {K:M0} {h:Heap} (_:K.In h):M0:=K
theorem Co {l:PySem.W.OpenLaw} {K:Params->M0} {CX:World->FU} {sp:World->Sp}
 (hn:l.most=some n) (hn2:n<=sizeLine) (hdf:d.params.defaults=[]) (hr:gR k callerA)
 (hY:∀ (w:World) (h:Heap),YP w h->(K w.params).In h)
 (F:∀ (w:World) (mg:Str->Option Value) (fa:Addr) (h:Heap),(K w.params).In h->h.Ns mainGlobals mg->mg d.name=some (.ref fa) ->
   ∃ fd:FuncData,(∀ (s:Shared) (u:Value),BindsTo s fd ⟨[u],[]⟩ [(x,u)]) /\
    ∀ base:Heap,(K w.params).In base->base.Ns mainGlobals mg->aZ l.prog w (K w.params) mg base (CX w) k fa fd [x] (sp w))
 (tY:∀ (w:World) (H:Hp) (a:Addr) (ns:List Int),ns.length<=n->Ga H->gF (K w.params) H a (ns.map V.int)->sp w [.ref a] H (λv _=>v=.bl true) λ_ _ _=>False)
 (hCX:∀ (w:World) (H:Hp) (s:Shared) (e:Value) (s':Shared),CX w [] H s (λ_ _ _=>False) e s'->False) :
 PySem.W.WalkO q loose XP YP l.row.toRowW d [] (λf vs=>PySem.call f vs):=by
 refine Att.pU hn hdf λw s₀ s₁ mg mb fa o pm cd doc a vs ns G Y ho hd hcd hmg hobj hints hlen hg=>?_
 have KX:=hY w _ Y
 obtain ⟨fd,hb,hF⟩:=F w mg fa _ KX G.T.g hmg
 exact yE KX G.T.g G.T.b G.T.builtins G.T.nolimit hg hobj hints (Nb hlen hn2) hr hF hb (λH hO hS=>tY w H a ns hlen hO hS) λH e s'=>hCX w H s₁ e s'
end L2
namespace L2
open PySem PySem.Spec PyProof.Rows
noncomputable def fJ (s:Stmt):Arguments:=match s with
 | .FunctionDef _ a _ _ _ _ _ _ _ _=>a
 | _=>{ posonlyargs:=[],args:=[],vararg:=none,kwonlyargs:=[],kw_defaults:=[],kwarg:=none,defaults:=[] }
noncomputable def au (s:Stmt):List Stmt:=match s with
 | .FunctionDef _ _ b _ _ _ _ _ _ _=>b
 | _=>[]
noncomputable def aQ (s:Stmt):Scope:=match s with
 | .FunctionDef _ _ _ _ _ _ sc _ _ _=>sc
 | _=>{ kind:=.function,names:=[],isGenerator:=false,isCoroutine:=false }
structure dQ (K:M0) (x qual:Str) (st:Stmt) (f:Addr) (fd:FuncData):Prop where
 ex:∃ (oc:Value) (od:Option Addr) (kV doc pm:Value) (an:Option Addr) (cdv ct:Value) (osl:Array (Option Value)),
  fd=OV x qual (fJ st) (au st) (aQ st) .none kV doc pm an cdv ct/\K.lookup f=some ⟨oc,od,.func fd,osl⟩/\Rx K cdv qual=true
 kp:OL K (.ref f)=true
section
variable {K:M0}
theorem dQ.binds {st:Stmt} (F:dQ K x qual st f fd)
 (h:∀ (kV doc pm:Value) (an:Option Addr) (cdv ct:Value) (us:List Value),us.length=ps.length->bindArgs (OV x qual (fJ st) (au st) (aQ st) .none kV doc pm an cdv ct) ⟨us,[]⟩=pure (ps.zip us)):Binds K fd ps []:=by
 obtain ⟨oc,od,kV,doc,pm,an,cdv,ct,osl,rfl,lk,hcd⟩:=F.ex
 exact .all (h kV doc pm an cdv ct)
theorem Gb {st:Stmt} {kV doc pm cdv ct:Value} (l:K.lookup f=some ⟨oc,od,.func (OV x qual (fJ st) (au st) (aQ st) .none kV doc pm an cdv ct),osl⟩)
 (c:Rx K cdv qual=true) (k:OL K (.ref f)=true):dQ K x qual st f (OV x qual (fJ st) (au st) (aQ st) .none kV doc pm an cdv ct):=⟨⟨oc,od,kV,doc,pm,an,cdv,ct,osl,rfl,l,c⟩,k⟩
end
theorem Jj (hr:gR k A):A.units+1<cLine:=OP (Nat.add_le_add_left (by decide:1<=64) _) hr.units
theorem wz (h:n<=1000):n<sizeLine:=OP h (by decide)
def aN (H H':Hp):Prop:=∀ b o,H b=some o->H' b=some o
theorem aN.refl (H):aN H H:=λ_ _ h=>h
theorem aN.trans (a:aN H H1) (b:aN H1 H2):aN H H2:=λc o h=>b c o (a c o h)
theorem aN.free (e:aN H H') (h:H' l=Option.none):H l=Option.none:=by
 cases q:H l with
 | none=>rfl
 | some o =>
  rw [e l o q] at h
  cases h
theorem aN.seq {K:M0} (e:aN H H') (h:gF K H a xs):gF K H' a xs:=by
 rcases h with (h | ⟨o,h⟩) | h
 ·exact .inl (.inl (e _ _ h))
 ·exact .inl (.inr ⟨o,e _ _ h⟩)
 ·exact .inr h
section
variable {κ:Type} [DecidableEq κ]
end
end L2
namespace EV
open PySem PySem.Spec PyProof.Rows L2
inductive D where
 | non | bl (b:Bool) | int (i:Int) | str (x:Str) | tup (ds:List D) | lst (ds:List D) | exc (C:Addr)
 | fdK (ks:List Key) (ds:List D) | fdT (ks:List (List Key)) (ds:List D) | adr (a:Addr)
noncomputable def LG (a C:Addr):Heap->Prop:=λh=>∃ o,h.get? a=some o/\o.cls=.ref C/\∃ vs,o.data=.fields vs
mutual
def Rep (K:M0) (H:Hp):D->V->Prop
 | .non,v=>v=.non
 | .bl b,v=>v=.bl b
 | .int i,v=>v=.int i
 | .str x,v=>v=.str x
 | .tup ds,v=>∃ a xs,v=.ref a/\dh K H a xs/\av K H ds xs
 | .lst ds,v=>∃ a xs,v=.ref a/\gF K H a xs/\av K H ds xs
 | .exc C,v=>∃ a,v=.ref a/\H a=some (.ext (LG a C))
 | .fdK ks ds,v=>∃ a ys o,v=.ref a/\H a=some (.frz o (.dK ys))/\ys.map (·.1)=ks/\av K H ds (ys.map (·.2))
 | .fdT ks ds,v=>∃ a ys o,v=.ref a/\H a=some (.frz o (.dT ys))/\ys.map (·.1)=ks/\(∀ y∈ys,dh K H y.2.1 (y.1.map kV))/\av K H ds (ys.map (·.2.2))
 | .adr a,v=>v=.ref a
def av (K:M0) (H:Hp):List D->List V->Prop
 | [],xs=>xs=[]
 | d::ds,xs=>∃ x r,xs=x::r/\Rep K H d x/\av K H ds r
end
theorem az {K:M0} (e:aN H H') (h:dh K H a xs):dh K H' a xs:=by
 rcases h with (h | ⟨o,h⟩) | h
 ·exact .inl (.inl (e _ _ h))
 ·exact .inl (.inr ⟨o,e _ _ h⟩)
 ·exact .inr h
mutual
theorem Rep.mono {K:M0} {H H':Hp} (e:aN H H'):∀ (d:D) {v:V},Rep K H d v->Rep K H' d v
 | .non,_,h=>by simpa [Rep] using h
 | .bl b,_,h=>by simpa [Rep] using h
 | .int i,_,h=>by simpa [Rep] using h
 | .str x,_,h=>by simpa [Rep] using h
 | .tup ds,_,h=>by
  simp only [Rep] at h |-
  obtain ⟨a,xs,e1,h1,h2⟩:=h
  exact ⟨a,xs,e1,az e h1,av.mono e ds h2⟩
 | .lst ds,_,h=>by
  simp only [Rep] at h |-
  obtain ⟨a,xs,e1,h1,h2⟩:=h
  exact ⟨a,xs,e1,e.seq h1,av.mono e ds h2⟩
 | .exc C,_,h=>by
  simp only [Rep] at h |-
  obtain ⟨a,e1,h1⟩:=h
  exact ⟨a,e1,e _ _ h1⟩
 | .fdK ks ds,_,h=>by
  simp only [Rep] at h |-
  obtain ⟨a,ys,o,e1,h1,h2,h3⟩:=h
  exact ⟨a,ys,o,e1,e _ _ h1,h2,av.mono e ds h3⟩
 | .fdT ks ds,_,h=>by
  simp only [Rep] at h |-
  obtain ⟨a,ys,o,e1,h1,h2,h3,h4⟩:=h
  exact ⟨a,ys,o,e1,e _ _ h1,h2,λy hy=>az e (h3 y hy),av.mono e ds h4⟩
 | .adr a,_,h=>by simpa [Rep] using h
theorem av.mono {K:M0} {H H':Hp} (e:aN H H'):∀ (ds:List D) {xs:List V},av K H ds xs->av K H' ds xs
 | [],_,h=>by simpa [av] using h
 | d::ds,_,h=>by
  simp only [av] at h |-
  obtain ⟨x,r,e1,h1,h2⟩:=h
  exact ⟨x,r,e1,Rep.mono e d h1,av.mono e ds h2⟩
end
section
variable {K:M0}
theorem aA:Rep K H (.int i) v↔v=.int i:=by simp only [Rep]
theorem ku:Rep K H (.bl i) v↔v=.bl i:=by simp only [Rep]
theorem bX:Rep K H .non v↔v=.non:=by simp only [Rep]
theorem gG:Rep K H (.str i) v↔v=.str i:=by simp only [Rep]
theorem aL:Rep K H (.tup ds) v↔∃ a xs,v=.ref a/\dh K H a xs/\av K H ds xs:=by simp only [Rep]
theorem br:Rep K H (.lst ds) v↔∃ a xs,v=.ref a/\gF K H a xs/\av K H ds xs:=by simp only [Rep]
theorem iG:Rep K H (.fdK ks ds) v↔∃ a ys o,v=.ref a/\H a=some (.frz o (.dK ys))/\ys.map (·.1)=ks/\av K H ds (ys.map (·.2)):=by simp only [Rep]
theorem iH:Rep K H (.fdT ks ds) v↔∃ a ys o,v=.ref a/\H a=some (.frz o (.dT ys))/\ys.map (·.1)=ks/\(∀ y∈ys,dh K H y.2.1 (y.1.map kV))/\av K H ds (ys.map (·.2.2)):=by simp only [Rep]
theorem pV:Rep K H (.adr a) v↔v=.ref a:=by simp only [Rep]
theorem aC:av K H [] xs↔xs=[]:=by simp only [av]
theorem aF:av K H (d::ds) xs↔∃ x r,xs=x::r/\Rep K H d x/\av K H ds r:=by simp only [av]
theorem av.length:∀ {ds:List D} {xs:List V},av K H ds xs->ds.length=xs.length
 | [],_,h=>by rw [aC] at h; subst h; rfl
 | d::ds,_,h=>by
  rw [aF] at h
  obtain ⟨x,r,rfl,_,h2⟩:=h
  simp [av.length h2]
theorem av.get:∀ {ds:List D} {xs:List V} {i:Nat} {d:D},av K H ds xs->ds[i]?=some d->∃ x,xs[i]?=some x/\Rep K H d x
 | [],_,_,_,_,e=>by simp at e
 | d::ds,_,i,d',h,e=>by
  rw [aF] at h
  obtain ⟨x,r,rfl,h1,h2⟩:=h
  cases i with
  | zero=>simp at e; subst e; exact ⟨x,by simp,h1⟩
  | succ i =>
   obtain ⟨y,e2,h3⟩:=av.get (i:=i) (d:=d') h2 (by simpa using e)
   exact ⟨y,by simpa using e2,h3⟩
theorem av.get':∀ {ds:List D} {xs:List V} {i:Nat} {x:V},av K H ds xs->xs[i]?=some x->∃ d,ds[i]?=some d/\Rep K H d x:=λ{ds xs i x} h e=>by
 have hl:=h.length
 have hi:i<xs.length:=(Nf.mp e).1
 obtain ⟨y,e2,h2⟩:=h.get (i:=i) (d:=ds[i]'(by lia)) (by simp)
 rw [e] at e2; cases e2
 exact ⟨_,by simp,h2⟩
theorem av.append:∀ {ds es:List D} {xs ys:List V},av K H ds xs->av K H es ys->av K H (ds++es) (xs++ys)
 | [],_,_,_,h,g=>by rw [aC] at h; subst h; exact g
 | d::ds,_,_,_,h,g=>by
  rw [aF] at h
  obtain ⟨x,r,rfl,h1,h2⟩:=h
  exact aF.mpr ⟨x,r++_,rfl,h1,av.append h2 g⟩
theorem av.drop:∀ (n:Nat) {ds:List D} {xs:List V},av K H ds xs->av K H (ds.drop n) (xs.drop n)
 | 0,_,_,h=>h
 | n+1,[],_,h=>by rw [aC] at h; subst h; exact aC.mpr rfl
 | n+1,d::ds,_,h=>by
  rw [aF] at h
  obtain ⟨x,r,rfl,h1,h2⟩:=h
  exact av.drop n h2
theorem av.take:∀ (n:Nat) {ds:List D} {xs:List V},av K H ds xs->av K H (ds.take n) (xs.take n)
 | 0,_,_,h=>aC.mpr rfl
 | n+1,[],_,h=>by rw [aC] at h; subst h; exact aC.mpr rfl
 | n+1,d::ds,_,h=>by
  rw [aF] at h
  obtain ⟨x,r,rfl,h1,h2⟩:=h
  exact aF.mpr ⟨x,r.take n,rfl,h1,av.take n h2⟩
theorem av.one (h:Rep K H d v):av K H [d] [v]:=aF.mpr ⟨v,[],rfl,h,aC.mpr rfl⟩
theorem av.cons (h:Rep K H d v) (t:av K H ds xs):av K H (d::ds) (v::xs):=aF.mpr ⟨v,xs,rfl,h,t⟩
theorem jh:∀ (ns:List Int),av K H (ns.map D.int) (ns.map V.int)
 | []=>aC.mpr rfl
 | n::ns=>.cons (aA.mpr rfl) (jh ns)
end
inductive Sh where
 | v (d:D) | l (ds:List D) | la (a:Addr) (ds:List D) | t (ss:List Sh) | ls (ss:List Sh)
noncomputable def pl (p:Addr) (xs:List V):HO:=.ext λh=>xs.length<=sizeLine/\∃ (its:List Value) (n:Nat),Vals xs its/\h.get? p=some { cls:=.type "list",data:=.seq its.toArray n }
mutual
def dH (K:M0) (H Hf:Hp):Sh->V->List (Addr×List V)->Prop
 | .v d,v,fp=>Rep K Hf d v/\fp=[]
 | .l ds,v,fp=>∃ p xs,v=.ref p/\H p=some (pl p xs)/\Hf p=none/\av K Hf ds xs/\fp=[(p,xs)]
 | .la p ds,v,fp=>∃ xs,v=.ref p/\H p=some (pl p xs)/\Hf p=none/\av K Hf ds xs/\fp=[(p,xs)]
 | .t ss,v,fp=>∃ a xs,v=.ref a/\dh K Hf a xs/\aY K H Hf ss xs fp
 | .ls ss,v,fp=>∃ p xs fq,v=.ref p/\H p=some (pl p xs)/\Hf p=none/\aY K H Hf ss xs fq/\fp=(p,xs)::fq
def aY (K:M0) (H Hf:Hp):List Sh->List V->List (Addr×List V)->Prop
 | [],xs,fp=>xs=[]/\fp=[]
 | s::ss,xs,fp=>∃ x r f1 f2,xs=x::r/\dH K H Hf s x f1/\aY K H Hf ss r f2/\fp=f1++f2
end
def yF (H:Hp) (q:Addr):Prop:=∃ xs,H q=some (pl q xs)
mutual
theorem dH.mv {K:M0} {H Hf H' ak:Hp} (sf:aN Hf ak):∀ (s:Sh) {v:V} {fp:List (Addr×List V)},(∀ q∈fp,H q.1=some (pl q.1 q.2)->Hf q.1=none->H' q.1=some (pl q.1 q.2)/\ak q.1=none)->dH K H Hf s v fp->dH K H' ak s v fp
 | .v d,_,_,_,h=>by simp only [dH] at h |-; exact ⟨h.1.mono sf d,h.2⟩
 | .l ds,_,_,hk,h=>by
  simp only [dH] at h |-
  obtain ⟨p,xs,e,h1,h2,h3,rfl⟩:=h
  obtain ⟨q1,q2⟩:=hk _ Ng h1 h2
  exact ⟨p,xs,e,q1,q2,h3.mono sf ds,rfl⟩
 | .la p ds,_,_,hk,h=>by
  simp only [dH] at h |-
  obtain ⟨xs,e,h1,h2,h3,rfl⟩:=h
  obtain ⟨q1,q2⟩:=hk _ Ng h1 h2
  exact ⟨xs,e,q1,q2,h3.mono sf ds,rfl⟩
 | .t ss,_,_,hk,h=>by
  simp only [dH] at h |-
  obtain ⟨a,xs,e,h1,h2⟩:=h
  exact ⟨a,xs,e,az sf h1,aY.mv sf ss hk h2⟩
 | .ls ss,_,_,hk,h=>by
  simp only [dH] at h |-
  obtain ⟨p,xs,fq,e,h1,h2,h3,rfl⟩:=h
  obtain ⟨q1,q2⟩:=hk _ Ng h1 h2
  exact ⟨p,xs,fq,e,q1,q2,aY.mv sf ss (λq hq=>hk q (Ni _ hq)) h3,rfl⟩
theorem aY.mv {K:M0} {H Hf H' ak:Hp} (sf:aN Hf ak):∀ (ss:List Sh) {xs:List V} {fp:List (Addr×List V)},(∀ q∈fp,H q.1=some (pl q.1 q.2)->Hf q.1=none->H' q.1=some (pl q.1 q.2)/\ak q.1=none)->aY K H Hf ss xs fp->aY K H' ak ss xs fp
 | [],_,_,_,h=>by simpa only [aY] using h
 | s::ss,_,_,hk,h=>by
  simp only [aY] at h |-
  obtain ⟨x,r,f1,f2,e,h1,h2,rfl⟩:=h
  exact ⟨x,r,f1,f2,e,dH.mv sf s (λq hq=>hk q (Q5 _ hq)) h1,aY.mv sf ss (λq hq=>hk q (Oo _ hq)) h2,rfl⟩
end
inductive Sl where
 | un
 | va (d:D)
 | ow (ds:List D)
 | oT (kvs:List (List Key×D))
 | oK (kvs:List (Key×D))
 | aw (a:Addr) (ds:List D)
 | aT (a:Addr) (kvs:List (List Key×D))
 | aK (a:Addr) (kvs:List (Key×D))
 | fo (s:Sh)
noncomputable def lH (K:M0) (H:Hp) {κ:Type}:List (κ×D)->List (κ×V)->Prop:=Paired λa b=>a.1=b.1/\Rep K H a.2 b.2
theorem lH.mono {K:M0} (e:aN H H') (h:lH K H ks xs):lH K H' ks xs :=
 Paired.Fo h λa b z=>⟨z.1,Rep.mono e _ z.2⟩
noncomputable def kB (K:M0) (H:Hp):List (List Key×D)->List (List Key×Addr×V)->Prop:=Paired λa b=>a.1=b.1/\dh K H b.2.1 (a.1.map kV)/\Rep K H a.2 b.2.2
theorem kB.mono {K:M0} (e:aN H H') (h:kB K H ks xs):kB K H' ks xs :=
 Paired.Fo h λa b z=>⟨z.1,az e z.2.1,Rep.mono e _ z.2.2⟩
noncomputable def bh (K:M0) (fr:Addr->Prop) (H Hf:Hp):Sl->V->Prop
 | .un,_=>False
 | .va d,v=>Rep K Hf d v
 | .ow ds,v=>∃ p xs,v=.ref p/\fr p/\H p=some (.lst xs)/\Hf p=none/\av K Hf ds xs
 | .oT kvs,v=>∃ p xs,v=.ref p/\fr p/\H p=some (.dT xs)/\Hf p=none/\kB K Hf kvs xs
 | .oK kvs,v=>∃ p xs,v=.ref p/\fr p/\H p=some (.dK xs)/\Hf p=none/\lH K Hf kvs xs
 | .aw a ds,v=>∃ p xs,v=.ref p/\(fr p/\p=a)/\H p=some (.lst xs)/\Hf p=none/\av K Hf ds xs
 | .aT a kvs,v=>∃ p xs,v=.ref p/\(fr p/\p=a)/\H p=some (.dT xs)/\Hf p=none/\kB K Hf kvs xs
 | .aK a kvs,v=>∃ p xs,v=.ref p/\(fr p/\p=a)/\H p=some (.dK xs)/\Hf p=none/\lH K Hf kvs xs
 | .fo s,v=>∃ fp,dH K H Hf s v fp/\(fp.map (·.1)).Nodup/\∀ a∈fp,fr a.1
noncomputable def Sl.owned:Sl->Bool
 | .ow _=>true | .oT _=>true | .oK _=>true | .aw _ _=>true | .aT _ _=>true | .aK _ _=>true | _=>false
structure bw (H Hf H' ak:Hp):Prop where
 s:aN H H'
 f:aN Hf ak
 b:aN ak H'
 n:∀ b,Hf b=none->H b≠none->(∀ xs,H b≠some (.tup xs))->ak b=none
theorem bw.refl (b:aN Hf H):bw H Hf H Hf:=⟨.refl _,.refl _,b,λ_ h _ _=>h⟩
theorem bw.trans (a:bw H Hf H1 aU) (b:bw H1 aU H2 c6):bw H Hf H2 c6 :=
 ⟨a.s.trans b.s,a.f.trans b.f,b.b,λc h1 h2 h3=>by
   cases q:H c with
   | none=>exact absurd q h2
   | some o =>
    have e:=a.s c o q
    exact b.n c (a.n c h1 h2 h3) (by rw [e]; simp) (by intro xs; rw [e,<- q]; exact h3 xs)⟩
theorem bw.new (b:aN Hf H) (hp:H p=none):bw H Hf (upd H p o) (upd Hf p o):=by
 have hf:Hf p=none:=b.free hp
 refine ⟨λc u h=>?_,λc u h=>?_,λc u h=>?_,λc h1 h2 _=>?_⟩
 ·rw [aq (aE h hp)]; exact h
 ·rw [aq (aE h hf)]; exact h
 ·by_cases e:c=p
  ·subst e; rw [ai] at h |-; exact h
  ·rw [aq e] at h |-; exact b c u h
 ·by_cases e:c=p
  ·subst e; exact absurd hp h2
  ·rw [aq e]; exact h1
theorem bw.f7 (b:aN Hf H) (hp:H p=none):bw H Hf (upd H p o) Hf :=
 ⟨(bw.new b hp (o:=o)).s,.refl _,λc u h=>(bw.new b hp (o:=o)).s c u (b c u h),λ_ h _ _=>h⟩
inductive At {α:Type}:List α->Nat->α->Prop where
 | z {x:α} {l:List α}:At (x::l) 0 x
 | s {x y:α} {l:List α} {i:Nat}:At l i x->At (y::l) (i+1) x
theorem At.get (h:At l i x):l[i]?=some x:=by
 induction h with
 | z=>rfl
 | s _ ih=>simpa using ih
theorem At.mem (h:At l i x):x∈l:=Og h.get
inductive SSet {α:Type}:List α->Nat->α->List α->Prop where
 | z {x r:α} {l:List α}:SSet (x::l) 0 r (r::l)
 | s {r y:α} {l l':List α} {i:Nat}:SSet l i r l'->SSet (y::l) (i+1) r (y::l')
theorem SSet.eq (h:SSet l i r l'):l'=l.set i r:=by
 induction h with
 | z=>rfl
 | s _ ih=>simp [ih]
structure fh (K:M0) (H₀ fj:Hp) (σ:L2.St) (H Hf:Hp) (ρ:List Sl):Prop where
 bas:bw H₀ fj H Hf
 len:σ.length=ρ.length
 at_:∀ (i:Nat) (r:Sl),ρ[i]?=some r->r≠.un->∃ v,σ[i]?=some (some v)/\bh K (λp=>H₀ p=none) H Hf r v
 sep:∀ (i j:Nat) (r r':Sl) (p:Addr),i≠j->ρ[i]?=some r->ρ[j]?=some r'->r.owned=true->r'.owned=true->σ[i]?=some (some (.ref p))->σ[j]?≠some (some (.ref p))
structure Jk (P:Program) (w:World) (outer:List Env) (H:Hp) (s:Shared) (a C:Addr) (H':Hp) (s':Shared):Prop where
 os:s'.os=s.os
 bare:AllBare s'.gens
 un:Un (frs outer) [] H H' s.heap s'.heap
 hok:jb P w H' s'.heap
 new:s.heap.get? a=none
 free:H' a=none
 fly:∃ (t:Addr) (B:Heap),Heap.FlyingW B outer a (.ref C) (.ref t) s'.heap/\(∀ b o,s.heap.get? b=some o->b∉frs outer->∃ o',s'.heap.get? b=some o'/\B.get? b=some o') /\
  ∀ b o,H' b≠none->s'.heap.get? b=some o->B.get? b=some o
noncomputable def c9 (P:Program) (w:World):FU:=λouter H s E e s'=>∃ a C H',e=.ref a/\Jk P w outer H s a C H' s'/\E (.ref C) (some a) H'
set_option genInjectivity false in
structure Ctx (P:Program) (w:World) (K:M0) (mg:Str->Option Value) (base:Heap) (k:Nat) (N:List Str) (sc:Scope) (bk:Bool) where
 X:Cx
 eP:X.prog=P
 ew:X.w=w
 eK:X.K=K
 emg:X.mg=mg
 eb:X.base=base
 eN:X.N=N
 esc:X.env.scope=sc
 calm:X.calm=true
 top:bk=false->X.stack=X.env::X.outer/\X.env.frame=some X.env.locals/\X.ex=[]
 cb:bk=false->∀ (aa:List (Addr×Obj)) (σ:L2.St) (H:Hp) (s:Shared),Inv X aa σ H s->∀ (x:Str) (c:Addr),X.env.cells.lookup x=some c->X.s₀.heap.objs.size<=c
 fn:∀ x,bk=false\/sc.names.lookup x=some .local->X.fn x=true\/X.env.scope.names.lookup x=some .local
 room:gR k X.A
 nd:N.Nodup
 vis:∀ x∈N,Loc sc x
 Hf:Hp
 B:Hp
 RX:Addr->List Sl->Prop
 exc:∀ (C a:Addr) (aa:List (Addr×Obj)) (σ:L2.St) (H ak:Hp) (ρ:List Sl) (s:Shared) (H':Hp) (s':Shared),Inv X aa σ H s->fh X.K B Hf σ H ak ρ->RX C ρ->Jk X.prog X.w X.stack H s a C H' s'->aN H H'->X.xe (.ref a) s'
 RM:Addr->List Sl->Prop
 mde:∀ (C a:Addr) (aa:List (Addr×Obj)) (σ:L2.St) (H ak:Hp) (ρ:List Sl) (s:Shared) (h':Heap) (us:List Value),Inv X aa σ H s->fh X.K B Hf σ H ak ρ->RM C ρ->Heap.MadeExcOf s.heap h' a (.ref C) us->X.xe (.ref a) { s with heap:=h' }
noncomputable def Sl.LH:Sl->Bool | .fo _=>true | _=>false
abbrev pe {α:Type} (fr:Addr->Prop) (H Hf:Hp) (o:α->HO) (R:α->Prop) (v:V):Prop:=∃ (p:Addr) (xs:α),v=.ref p/\fr p/\H p=some (o xs)/\Hf p=none/\R xs
theorem pe.Iz (h:pe fr H Hf o R v) (hk:∀ p,v=.ref p->∀ u,(∀ ys,u≠.tup ys)->H p=some u->Hf p=none->H' p=some u/\ak p=none) (ho:∀ xs ys,o xs≠.tup ys) (hR:∀ xs,R xs->R' xs):pe fr H' ak o R' v:=by
 obtain ⟨p,xs,e,f,h1,h2,h3⟩:=h
 exact ⟨p,xs,e,f,(hk p e _ (ho xs) h1 h2).1,(hk p e _ (ho xs) h1 h2).2,hR xs h3⟩
theorem pe.IB (h:pe fr H Hf o R v) (hf:∀ p,fr p->fr' p):pe fr' H Hf o R v :=
 let ⟨p,xs,e,f,h⟩:=h; ⟨p,xs,e,hf p f,h⟩
theorem bh.mv {K:M0} {B:Addr->Prop} (sf:aN Hf ak) (hk:∀ q o,¬ B q->H q=some o->(∀ xs,o≠.tup xs)->Hf q=none->H' q=some o/\ak q=none):∀ {r:Sl} {v:V},
 (r.LH=true->∀ q,B q->¬ yF H q)->(r.owned=true->∀ q,v=.ref q->¬ B q)->bh K fr H Hf r v->bh K fr H' ak r v
 | .un,_,_,_,h=>h
 | .va d,_,_,_,h=>Rep.mono sf d h
 | .ow ds,_,_,hv,h=>pe.Iz h (λp e o z ho hf=>hk p o (hv rfl p e) ho z hf) (λ_ _ z=>by cases z) λ_ h=>h.mono sf
 | .oT kvs,_,_,hv,h=>pe.Iz h (λp e o z ho hf=>hk p o (hv rfl p e) ho z hf) (λ_ _ z=>by cases z) λ_ h=>h.mono sf
 | .oK kvs,_,_,hv,h=>pe.Iz h (λp e o z ho hf=>hk p o (hv rfl p e) ho z hf) (λ_ _ z=>by cases z) λ_ h=>h.mono sf
 | .aw a ds,_,_,hv,h=>pe.Iz h (λp e o z ho hf=>hk p o (hv rfl p e) ho z hf) (λ_ _ z=>by cases z) λ_ h=>h.mono sf
 | .aT a kvs,_,_,hv,h=>pe.Iz h (λp e o z ho hf=>hk p o (hv rfl p e) ho z hf) (λ_ _ z=>by cases z) λ_ h=>h.mono sf
 | .aK a kvs,_,_,hv,h=>pe.Iz h (λp e o z ho hf=>hk p o (hv rfl p e) ho z hf) (λ_ _ z=>by cases z) λ_ h=>h.mono sf
 | .fo s,_,hB,_,⟨fp,h1,h2,h3⟩=>⟨fp,dH.mv sf s (λq _ e1 e2=>hk q.1 _ (λb=>hB rfl q.1 b ⟨q.2,e1⟩) e1 (by intro ys z; cases z) e2) h1,h2,h3⟩
theorem bh.cH {K:M0} (g:bw H Hf H' ak) (h:bh K fr H Hf r v):bh K fr H' ak r v :=
 bh.mv (B:=λ_=>False) g.f (λq o _ e1 e2 e3=>⟨g.s _ _ e1,g.n q e3 (by rw [e1]; simp) λxs z=>e2 xs (by rw [e1] at z; exact OG z)⟩) (λ_ _ z=>z.elim) (λ_ _ _ z=>z) h
theorem bh.weak {K:M0} (hf:∀ p,fr p->fr' p):∀ {r:Sl} {v:V},bh K fr H Hf r v->bh K fr' H Hf r v
 | .un,_,h=>h
 | .va d,_,h=>h
 | .ow ds,_,h=>pe.IB h hf
 | .oT ds,_,h=>pe.IB h hf
 | .oK ds,_,h=>pe.IB h hf
 | .aw a ds,_,h=>pe.IB h λp f=>⟨hf p f.1,f.2⟩
 | .aT a ds,_,h=>pe.IB h λp f=>⟨hf p f.1,f.2⟩
 | .aK a ds,_,h=>pe.IB h λp f=>⟨hf p f.1,f.2⟩
 | .fo s,_,⟨fp,h1,h2,h3⟩=>⟨fp,h1,h2,λa ha=>hf _ (h3 a ha)⟩
section
variable {K:M0}
def Ctx.fr (c:Ctx P w K mg base k N sc bk) (p:Addr):Prop:=c.B p=none
abbrev bu (c:Ctx P w K mg base k N sc bk) (σ:L2.St) (H Hf:Hp) (ρ:List Sl):Prop:=fh c.X.K c.B c.Hf σ H Hf ρ
theorem fh.cH (S:fh K H₀ fj σ H Hf ρ) (g:bw H Hf H' ak):fh K H₀ fj σ H' ak ρ :=
 ⟨S.bas.trans g,S.len,λi r h hr=>let ⟨v,e,q⟩:=S.at_ i r h hr; ⟨v,e,q.cH g⟩,S.sep⟩
theorem fh.sb (S:fh K H₀ fj σ H Hf ρ):aN Hf H:=S.bas.b
theorem fh.va (S:fh K H₀ fj σ H Hf ρ) {i:Nat} (h:ρ[i]?=some (.va d)):∃ v,σ[i]?=some (some v)/\Rep K Hf d v:=S.at_ i _ h (by simp)
theorem fh.set (S:fh K H₀ fj σ H Hf ρ) (g:bw H Hf H1 aU) (hr:bh K (λp=>H p=none) H1 aU r v) :
 fh K H₀ fj (σ.set i (some v)) H1 aU (ρ.set i r):=by
 have S1:=S.cH g
 have fr0:∀ p,H p=none->H₀ p=none:=λp h=>S.bas.s.free h
 have fresh:∀ p,r.owned=true->v=.ref p->H p=none:=λp ho e=>by
  subst e
  cases r with
  | un=>cases ho
  | va d=>cases ho
  | ow ds=>obtain ⟨p',xs,e,h,_⟩:=hr; cases e; exact h
  | oT ds=>obtain ⟨p',xs,e,h,_⟩:=hr; cases e; exact h
  | oK ds=>obtain ⟨p',xs,e,h,_⟩:=hr; cases e; exact h
  | aw a ds=>obtain ⟨p',xs,e,h,_⟩:=hr; cases e; exact h.1
  | aT a ds=>obtain ⟨p',xs,e,h,_⟩:=hr; cases e; exact h.1
  | aK a ds=>obtain ⟨p',xs,e,h,_⟩:=hr; cases e; exact h.1
  | fo s=>cases ho
 have old:∀ (j:Nat) (r':Sl) (p:Addr),ρ[j]?=some r'->r'.owned=true->σ[j]?=some (some (.ref p))->H p≠none:=λj r' p h ho hs=>by
  obtain ⟨v',e,q⟩:=S.at_ j r' h (by rintro rfl; cases ho)
  rw [hs] at e; cases e
  cases r' with
  | un=>cases ho
  | va d=>cases ho
  | ow ds=>obtain ⟨p',xs,e,_,h,_⟩:=q; cases e; rw [h]; simp
  | oT ds=>obtain ⟨p',xs,e,_,h,_⟩:=q; cases e; rw [h]; simp
  | oK ds=>obtain ⟨p',xs,e,_,h,_⟩:=q; cases e; rw [h]; simp
  | aw a ds=>obtain ⟨p',xs,e,_,h,_⟩:=q; cases e; rw [h]; simp
  | aT a ds=>obtain ⟨p',xs,e,_,h,_⟩:=q; cases e; rw [h]; simp
  | aK a ds=>obtain ⟨p',xs,e,_,h,_⟩:=q; cases e; rw [h]; simp
  | fo s=>cases ho
 refine ⟨S1.bas,by simp [S.len],λj r' hj hu=>?_,λj j' r1 r2 p hne h1 h2 o1 o2 e1 e2=>?_⟩
 ·by_cases q:j=i
  ·subst q
   have hi:j<ρ.length:=by
    have:=(Nf.mp hj).1
    simpa using this
   rw [Om hi] at hj; cases hj
   exact ⟨v,Om (by rw [S.len]; exact hi),hr.weak fr0⟩
  ·rw [Oq (Nv q)] at hj |-
   exact S1.at_ j r' hj hu
 ·have hlt:∀ {j:Nat} {r:Sl},(ρ.set i r)[j]?=some r->j<ρ.length:=λ{j r} h=>by
   have:=(Nf.mp h).1
   simpa using this
  by_cases q1:j=i
  ·subst q1
   have hi:j<ρ.length:=by have:=(Nf.mp h1).1; simpa using this
   rw [Om hi] at h1; cases h1
   rw [Om (by rw [S.len]; exact hi)] at e1
   rw [Oq hne] at h2 e2
   exact old j' r2 p h2 o2 e2 (fresh p o1 (by simpa using e1))
  ·by_cases q2:j'=i
   ·subst q2
    have hi:j'<ρ.length:=by have:=(Nf.mp h2).1; simpa using this
    rw [Om hi] at h2; cases h2
    rw [Om (by rw [S.len]; exact hi)] at e2
    rw [Oq (Nv hne)] at h1 e1
    exact old j r1 p h1 o1 e1 (fresh p o2 (by simpa using e2))
   ·rw [Oq (Nv q1)] at h1 e1
    rw [Oq (Nv q2)] at h2 e2
    exact S.sep j j' r1 r2 p hne h1 h2 o1 o2 e1 e2
theorem fh.weak (S:fh K H₀ fj σ H Hf ρ) (hl:ρ'.length=ρ.length) (h:∀ (i:Nat) (r:Sl),ρ'[i]?=some r->r≠.un->ρ[i]?=some r):fh K H₀ fj σ H Hf ρ' :=
 ⟨S.bas,by rw [S.len,hl],λi r e hu=>S.at_ i r (h i r e hu) hu,λi j r r' p hne h1 h2 o1 o2=>S.sep i j r r' p hne (h i r h1 (by rintro rfl; cases o1)) (h j r' h2 (by rintro rfl; cases o2)) o1 o2⟩
end
section
variable {P:Program} {w:World} {K:M0} {mg:Str->Option Value} {base:Heap} {k:Nat} {N:List Str} {sc:Scope} {bk:Bool}
noncomputable def bE (X:Cx) (e:Expr):TE:=λσ H Q=>∀ aa s,Inv X aa σ H s->wpAny (model X.prog X.w) X.A (eval e X.env) (EP X aa σ Q) X.xe s
theorem dI:PE X e (bE X e):=λaa s σ H Q I h=>h aa s I
theorem bZ (h:PE X e t) (q:t σ H Q):bE X e σ H Q:=λaa s I=>h aa s σ H Q I q
noncomputable def bT (X:Cx) (e:Expr):TT:=λσ H Q=>∀ aa s,Inv X aa σ H s->wpAny (model X.prog X.w) X.A (isTrue e X.env (eval e X.env)) (TP X aa σ Q) X.xe s
theorem Jl:PT X e (bT X e):=λaa s σ H Q I h=>h aa s I
theorem EF (h:PT X e t) (q:t σ H Q):bT X e σ H Q:=λaa s I=>h aa s σ H Q I q
noncomputable def bA (X:Cx) (es:List Expr):TA:=λσ H Q=>∀ pos aa s,Inv X aa σ H s->wpAny (model X.prog X.w) X.A (spliced (backTo pos (starEach es X.env))) (AP X aa σ Q) X.xe s
theorem Ge:PA X es (bA X es):=λpos aa s σ H Q I h=>h pos aa s I
theorem yG (h:PA X es t) (q:t σ H Q):bA X es σ H Q:=λpos aa s I=>h pos aa s σ H Q I q
noncomputable def bS (X:Cx) (st:Stmt):TS:=λD σ H=>∀ aa s,Inv X aa σ H s->wpAny (model X.prog X.w) X.A (exec st X.env) (SP X aa D) X.xe s
theorem MT {st:Stmt}:PS X st (bS X st):=λaa s σ H D I h=>h aa s I
theorem dZ {st:Stmt} (h:PS X st t) {D:Ends} (q:t D σ H):bS X st D σ H:=λaa s I=>h aa s σ H D I q
noncomputable def IC (X:Cx) (st:List Stmt):TS:=λD σ H=>∀ aa s,Inv X aa σ H s->wpAny (model X.prog X.w) X.A (execs st X.env) (SP X aa D) X.xe s
theorem sA {st:List Stmt}:rV X st (IC X st):=λaa s σ H D I h=>h aa s I
theorem yH {st:List Stmt} (h:rV X st t) {D:Ends} (q:t D σ H):IC X st D σ H:=λaa s I=>h aa s σ H D I q
noncomputable def bG (X:Cx) (tg:Expr):TG:=λv σ H Q=>∀ aa s u,Inv X aa σ H s->RelV v u->wpAny (model X.prog X.w) X.A (assign tg X.env u) (λ_ s'=>∃ σ' H',Inv X aa σ' H' s'/\Q σ' H') X.xe s
theorem MB:PG X tg (bG X tg):=λaa s σ H v u Q I r h=>h aa s u I r
theorem yI (h:PG X tg t) (q:t v σ H Q):bG X tg v σ H Q:=λaa s u I r=>h aa s σ H v u Q I r q
variable (c:Ctx P w K mg base k N sc bk)
def dJ (e:Expr) (ρ:List Sl) (R:Sl->Prop):Prop :=
 ∀ (σ:L2.St) (H Hf:Hp) (Q:VK),bu c σ H Hf ρ->(∀ r v H' ak,R r->bh c.X.K (λp=>H p=none) H' ak r v->bw H Hf H' ak->Q v H')->bE c.X e σ H Q
def aI (e:Expr) (ρ:List Sl) (R:D->Prop):Prop :=
 ∀ (σ:L2.St) (H Hf:Hp) (Q:VK),bu c σ H Hf ρ->(∀ d v H' ak,R d->Rep c.X.K ak d v->bw H Hf H' ak->Q v H')->bE c.X e σ H Q
def lI (e:Expr) (ρ:List Sl) (R:Bool->Prop):Prop :=
 ∀ (σ:L2.St) (H Hf:Hp) (Q:Bool->Hp->Prop),bu c σ H Hf ρ->(∀ b H' ak,R b->bw H Hf H' ak->Q b H')->bT c.X e σ H Q
def pW (es:List Expr) (ρ:List Sl) (R:List D->Prop):Prop :=
 ∀ (σ:L2.St) (H Hf:Hp) (Q:List V->Hp->Prop),bu c σ H Hf ρ->(∀ ds vs H' ak,R ds->av c.X.K ak ds vs->bw H Hf H' ak->Q vs H')->bA c.X es σ H Q
structure Pt where
 rt:Sl->Prop
 bk:List Sl->Prop:=λ_=>False
 ct:List Sl->Prop:=λ_=>False
structure yJ (nx:List Sl->Prop) (p:Pt) (D:Ends):Prop where
 nx:∀ σ H Hf ρ,bu c σ H Hf ρ->nx ρ->D.nx σ H
 rt:∀ r v H Hf,bw c.B c.Hf H Hf->bh c.X.K c.fr H Hf r v->p.rt r->D.rt v H
 bk:∀ σ H Hf ρ,bu c σ H Hf ρ->p.bk ρ->D.bk σ H
 ct:∀ σ H Hf ρ,bu c σ H Hf ρ->p.ct ρ->D.ct σ H
def fK (st:Stmt) (ρ:List Sl) (nx:List Sl->Prop) (p:Pt):Prop :=
 ∀ (σ:L2.St) (H Hf:Hp) (D:Ends),bu c σ H Hf ρ->yJ c nx p D->bS c.X st D σ H
def aH (st:List Stmt) (ρ:List Sl) (nx:List Sl->Prop) (p:Pt):Prop :=
 ∀ (σ:L2.St) (H Hf:Hp) (D:Ends),bu c σ H Hf ρ->yJ c nx p D->IC c.X st D σ H
def mF (tg:Expr) (d:D) (ρ:List Sl) (R:List Sl->Prop):Prop :=
 ∀ (σ:L2.St) (H Hf:Hp) (v:V) (Q:L2.St->Hp->Prop),bu c σ H Hf ρ->Rep c.X.K Hf d v->(∀ σ' H' ak ρ',bu c σ' H' ak ρ'->bw H Hf H' ak->R ρ'->Q σ' H')->bG c.X tg v σ H Q
variable {c}
noncomputable def Sl.fz:Sl->Option D
 | .va d=>some d
 | .ow ds=>some (.lst ds)
 | _=>none
def Gf (R:D->Prop) (r:Sl):Prop:=∃ d,r.fz=some d/\R d
theorem Gg (e:r.fz=some d) (h:bh K (λp=>H p=none) H' ak r v) (g:bw H Hf H' ak) :
 ∃ c6,Rep K c6 d v/\bw H Hf H' c6:=by
 cases r with
 | un=>cases e
 | va d'=>cases e; exact ⟨ak,h,g⟩
 | oT _=>cases e
 | oK _=>cases e
 | aw _ _=>cases e
 | aT _ _=>cases e
 | aK _ _=>cases e
 | fo _=>cases e
 | ow ds =>
  cases e
  obtain ⟨p,xs,rfl,hp,h1,h2,h3⟩:=h
  have sf:aN ak (upd ak p (.lst xs)):=λb o e=>by rw [aq (aE e h2)]; exact e
  have sb:aN (upd ak p (.lst xs)) H':=λb o e=>by
   by_cases q:b=p
   ·subst q; rw [ai] at e; rw [h1]; exact e
   ·rw [aq q] at e; exact g.b b o e
  refine ⟨upd ak p (.lst xs),br.mpr ⟨p,xs,rfl,.inl (.inl ai),h3.mono sf⟩,g.s,g.f.trans sf,sb,λb q1 q2 q3=>?_⟩
  have e:=g.n b q1 q2 q3
  by_cases q:b=p
  ·subst q; exact absurd hp q2
  ·rw [aq q]; exact e
theorem e_x (h:dJ c e ρ (Gf R)):aI c e ρ R:=λσ H Hf Q S q =>
 h σ H Hf Q S λr v H' ak ⟨d,e1,rd⟩ rs g=>let ⟨c6,h1,g2⟩:=Gg e1 rs g; q d v H' c6 rd h1 g2
theorem uw (h:aI c e ρ λd=>R (.va d)):dJ c e ρ R:=λσ H Hf Q S q =>
 h σ H Hf Q S λd v H' ak rd h1 g=>q (.va d) v H' ak rd h1 g
theorem aI.imp (h:aI c e ρ R) (hi:∀ d,R d->R' d):aI c e ρ R':=λσ H Hf Q S q=>h σ H Hf Q S λd v H' ak rd=>q d v H' ak (hi d rd)
theorem dJ.imp (h:dJ c e ρ R) (hi:∀ d,R d->R' d):dJ c e ρ R':=λσ H Hf Q S q=>h σ H Hf Q S λd v H' ak rd=>q d v H' ak (hi d rd)
theorem lI.imp (h:lI c e ρ R) (hi:∀ d,R d->R' d):lI c e ρ R':=λσ H Hf Q S q=>h σ H Hf Q S λd H' ak rd=>q d H' ak (hi d rd)
theorem uz (hN:At N i x) (hs:At ρ i (.va d)) (hR:R d)
 (hd:(x == ("__debug__":Str))=false:=by decide) (hcd:(x == ("__classdict__":Str))=false:=by decide) :
 aI c (.Name x pos) ρ R:=λσ H Hf Q S q=>by
 obtain ⟨v,e,r⟩:=S.va hs.get
 exact bZ (rX (X:=c.X) (i:=i) (by rw [c.eN]; exact hN.get) (by rw [c.esc]; rcases c.vis x hN.mem with h | h; exact .inl h; exact .inr (.inl h)) hd hcd) ⟨v,e,q d v H Hf hR r (.refl S.sb)⟩
theorem Jm (hR:R (.int i)):aI c (.Constant (.int i) j pos) ρ R:=λσ H Hf Q S q =>
 bZ yb (q _ _ H Hf hR (aA.mpr rfl) (.refl S.sb))
theorem LI (hR:R (.bl i)):aI c (.Constant (.bool i) j pos) ρ R:=λσ H Hf Q S q =>
 bZ EA (q _ _ H Hf hR (ku.mpr rfl) (.refl S.sb))
theorem sC (hm:mg x=some (.int i t)) (hR:R (.int i)) (hg:sc.names.lookup x=some .globalImplicit:=by walk_at "u") (hd:(x == ("__debug__":Str))=false:=by decide) :
 aI c (.Name x pos) ρ R:=λσ H Hf Q S q =>
 bZ (uc (X:=c.X) (v:=.int i) (u:=.int i t) (by unfold Gl NY; rw [c.esc]; exact hg) (by rw [c.emg]; exact hm) ⟨t,rfl⟩ hd) (q _ _ H Hf hR (aA.mpr rfl) (.refl S.sb))
def KQ (K:M0) (r:R2) (p:D->D->(Sl->Prop)->Prop):Prop :=
 ∀ (x y:D) (v u:V) (H Hf:Hp) (Q:VK) (R:Sl->Prop),aN Hf H->Rep K Hf x v->Rep K Hf y u->p x y R ->
  (∀ z v' H' ak,R z->bh K (λp=>H p=none) H' ak z v'->bw H Hf H' ak->Q v' H')->r v u H Q
theorem nO (ho:fH c.X (binaryOp op) r) (hd:KQ c.X.K r p)
 (h:aI c a ρ λx=>aI c b ρ λy=>p x y R):dJ c (.BinOp a op b pos) ρ R:=λσ H Hf Q S q =>
 bZ (yk ho dI dI) (h σ H Hf _ S λx v1 H1 aU h1 r1 g1=>h1 σ H1 aU _ (S.cH g1) λy v2 H2 c6 h2 r2 g2 =>
  hd x y v1 v2 H2 c6 Q R g2.b (Rep.mono g2.f x r1) r2 h2 λz v' H' ak hz rz g3 =>
   q z v' H' ak hz (rz.weak λp hp=>(g1.trans g2).s.free hp) ((g1.trans g2).trans g3))
theorem mG {f:Int->Int->Int}:KQ K (rI C λi j=>.int (f i j)) λx y R=>∃ i j,x=.int i/\y=.int j/\C i j/\R (.va (.int (f i j))):=by
 rintro x y v u H Hf Q R s rx ry ⟨i,j,rfl,rfl,hC,hR⟩ q
 rw [aA] at rx ry
 exact ⟨i,j,rx,ry,hC,q (.va (.int (f i j))) _ H Hf hR (show Rep K Hf (.int (f i j)) _ from aA.mpr rfl) (.refl s)⟩
theorem yK {f:Int->Int->Int}:KQ K (ud λi j=>.int (f i j)) λx y R=>∃ i j,x=.int i/\y=.int j/\R (.va (.int (f i j))):=by
 rintro x y v u H Hf Q R s rx ry ⟨i,j,rfl,rfl,hR⟩ q
 rw [aA] at rx ry
 exact ⟨i,j,rx,ry,q (.va (.int (f i j))) _ H Hf hR (show Rep K Hf (.int (f i j)) _ from aA.mpr rfl) (.refl s)⟩
theorem iI (h:dJ c e ρ λr=>∃ d,r=.va d/\R d):aI c e ρ R:=e_x (h.imp λr ⟨d,e,hr⟩=>⟨d,by subst e; rfl,hr⟩)
noncomputable def jH:D->D->Bool
 | .non,.non=>true | .non,.int _=>true | .int _,.non=>true | .non,.bl _=>true | .bl _,.non=>true | .non,.str _=>true | .str _,.non=>true
 | .int _,.int _=>true | .bl _,.bl _=>true | .str _,.str _=>true | .int _,.str _=>true | .str _,.int _=>true | .bl _,.str _=>true | .str _,.bl _=>true
 | _,_=>false
noncomputable instance:DecidableEq D:=λ_ _=>Classical.propDecidable _
inductive lJ:Nat->D->D->Prop where
 | sc {n:Nat} {x y:D} (h:jH x y=true):lJ n x y
 | tup {n:Nat} {ds es:List D} (h:∀ (i:Nat) (d e:D),ds[i]?=some d->es[i]?=some e->lJ n d e):lJ (n+1) (.tup ds) (.tup es)
 | lst {n:Nat} {ds es:List D} (h:∀ (i:Nat) (d e:D),ds[i]?=some d->es[i]?=some e->lJ n d e):lJ (n+1) (.lst ds) (.lst es)
 | ln {n:Nat} {ds:List D}:lJ n (.lst ds) .non
 | nl {n:Nat} {ds:List D}:lJ n .non (.lst ds)
 | tn {n:Nat} {ds:List D}:lJ n (.tup ds) .non
 | nt {n:Nat} {ds:List D}:lJ n .non (.tup ds)
def pX (ds es:List D):Prop:=∀ (i:Nat) (d e:D),ds[i]?=some d->es[i]?=some e->lJ 40 d e
def Jo (x y:D):Prop:=jH x y=true\/∃ ds es,((x=.tup ds/\y=.tup es)\/(x=.lst ds/\y=.lst es))/\pX ds es
section
variable {a b:Expr} {pos:Pos} {ρ:List Sl} {R:D->Prop}
structure Sd (A B:Prop):Prop where
 s:A
 r:B
structure nP (A B:Prop) (x:Bool):Prop where
 t:x=true->A
 f:x=false->B
theorem EG (h1:A):nP A B true:=⟨λ_=>h1,λh=>by cases h⟩
theorem uA (h1:B):nP A B false:=⟨λh=>(by cases h),λ_=>h1⟩
theorem Cp (h1:p->A) (h2:¬ p->B):nP A B (@decide p i):=⟨λh=>h1 (of_decide_eq_true h),λh=>h2 (of_decide_eq_false h)⟩
theorem Cq (h:nP B A x):nP A B (!x):=⟨λe=>h.f (by simpa using e),λe=>h.t (by simpa using e)⟩
def yL (x y:D) (T:Bool->Prop):Prop:=Jo x y/\T (decide (x=y))
theorem Cr (h:T (decide (i=j))):yL (.int i) (.int j) T:=⟨.inl rfl,by
 have e:decide (D.int i=D.int j)=decide (i=j):=by simp
 rw [e]; exact h⟩
theorem Cs (h:Sd (pX ds es) (T (decide (ds=es)))):yL (.lst ds) (.lst es) T:=⟨.inr ⟨ds,es,.inr ⟨rfl,rfl⟩,h.s⟩,by
 have e:decide (D.lst ds=D.lst es)=decide (ds=es):=by simp
 rw [e]; exact h.r⟩
noncomputable def I2 (k:Int->Int->Prop):D->D->Prop:=λx y=>∃ i j,x=.int i/\y=.int j/\k i j
theorem i2 {k:Int->Int->Prop} (h:k i j):I2 k (.int i) (.int j):=⟨i,j,rfl,rfl,h⟩
noncomputable def I1 (k:Int->Prop):D->Prop:=λx=>∃ i,x=.int i/\k i
theorem i1 {k:Int->Prop} (h:k i):I1 k (.int i):=⟨i,rfl,h⟩
theorem Jp (h:aI c a ρ λx=>aI c b ρ λy=>I2 (λi j=>R (.int (i - j))) x y):aI c (.BinOp a .Sub b pos) ρ R :=
 iI (nO FH yK (h.imp λx hx=>hx.imp λy ⟨i,j,e1,e2,r⟩=>⟨i,j,e1,e2,_,rfl,r⟩))
def MulOk (i j:Int):Prop:=IntMulOk i j
def yM (j:Int):Prop:=0<j/\j.natAbs.log2<9000
theorem Ct:fH c.X (binaryOp .Mult) (rI MulOk λi j=>.int (i * j)):=Iv λ_ _ _ _ _ _ _ hc q=>mul_int q hc
theorem yN:fH c.X (binaryOp .FloorDiv) (rI (λ_ j=>yM j) λi j=>.int (i / j)):=Iv λi j _ _ _ _ _ hc q=>by
 have h1:(0:Int)<j:=hc.1
 exact floordiv_int (by lia) (by rw [Int.fdiv_eq_ediv_of_nonneg i (by lia)]; exact q) (.inl (PyProof.noPylong_of_log2 hc.2))
theorem Jq (h:aI c a ρ λx=>aI c b ρ λy=>I2 (λi j=>Sd (MulOk i j) (R (.int (i * j)))) x y):aI c (.BinOp a .Mult b pos) ρ R :=
 iI (nO Ct mG (h.imp λx hx=>hx.imp λy ⟨i,j,e1,e2,⟨hc,r⟩⟩=>⟨i,j,e1,e2,hc,_,rfl,r⟩))
theorem Gh (h:aI c a ρ λx=>aI c b ρ λy=>I2 (λi j=>Sd (yM j) (R (.int (i / j)))) x y):aI c (.BinOp a .FloorDiv b pos) ρ R :=
 iI (nO yN mG (h.imp λx hx=>hx.imp λy ⟨i,j,e1,e2,⟨hc,r⟩⟩=>⟨i,j,e1,e2,hc,_,rfl,r⟩))
theorem Jr (h:aI c a ρ λx=>aI c b ρ λy=>I2 (λi j=>Sd (0<j) (R (.int (i % j)))) x y):aI c (.BinOp a .Mod b pos) ρ R :=
 iI (nO FI mG (h.imp λx hx=>hx.imp λy ⟨i,j,e1,e2,⟨hc,r⟩⟩=>⟨i,j,e1,e2,hc,_,rfl,r⟩))
theorem Js (h:aI c a ρ λx=>aI c b ρ λy=>I2 (λi j=>Sd (r6 i j) (R (.int (i ^ j.toNat)))) x y):aI c (.BinOp a .Pow b pos) ρ R :=
 iI (nO FJ mG (h.imp λx hx=>hx.imp λy ⟨i,j,e1,e2,⟨hc,r⟩⟩=>⟨i,j,e1,e2,hc,_,rfl,r⟩))
theorem Jt (h:aI c a ρ (I1 λi=>R (.int (-i)))):aI c (.UnaryOp .USub a pos) ρ R:=λσ H Hf Q S q =>
 bZ (IV FP dI) (h σ H Hf _ S λx v H' ak hx r g=>by
  obtain ⟨i,rfl,hR⟩:=hx
  rw [aA] at r
  exact ⟨i,r,q _ _ H' ak hR (aA.mpr rfl) g⟩)
def yO (K:M0) (r:R2) (p:D->D->(Bool->Prop)->Prop):Prop :=
 ∀ (x y:D) (v u:V) (H Hf:Hp) (Q:VK) (R:Bool->Prop),aN Hf H->Rep K Hf x v->Rep K Hf y u->p x y R->(∀ b,R b->Q (.bl b) H)->r v u H Q
theorem Ju (ho:fH c.X (compareOp op) r) (hd:yO c.X.K r p) (h:aI c a ρ λx=>aI c b ρ λy=>p x y λz=>R (.bl z))
 (hm:behindInMarks op b=false):aI c (.Compare a [op] [b] pos) ρ R:=λσ H Hf Q S q =>
 bZ (B6 ho dI dI hm) (h σ H Hf _ S λx v1 H1 aU h1 r1 g1=>h1 σ H1 aU _ (S.cH g1) λy v2 H2 c6 h2 r2 g2 =>
  hd x y v1 v2 H2 c6 Q _ g2.b (Rep.mono g2.f x r1) r2 h2 λz hz=>q _ _ H2 c6 hz (ku.mpr rfl) (g1.trans g2))
theorem pY (ho:fH c.X (compareOp op) r) (hd:yO c.X.K r p) (h:aI c a ρ λx=>aI c b ρ λy=>p x y T)
 (hm:behindInMarks op b=false):lI c (.Compare a [op] [b] pos) ρ T:=λσ H Hf Q S q =>
 EF (B7 ho dI dI hm) (h σ H Hf _ S λx v1 H1 aU h1 r1 g1=>h1 σ H1 aU _ (S.cH g1) λy v2 H2 c6 h2 r2 g2 =>
  hd x y v1 v2 H2 c6 _ T g2.b (Rep.mono g2.f x r1) r2 h2 λz hz=>⟨z,rfl,q _ H2 c6 hz (g1.trans g2)⟩)
theorem yP {f:Int->Int->Bool}:yO K (ud λi j=>.bl (f i j)) λx y R=>I2 (λi j=>R (f i j)) x y:=by
 rintro x y v u H Hf Q R s rx ry ⟨i,j,rfl,rfl,hR⟩ q
 rw [aA] at rx ry
 exact ⟨i,j,rx,ry,q _ hR⟩
theorem uB (h:jH x y=true) (rx:Rep K H x v) (ry:Rep K H y u):B5 v u=true/\decide (v=u)=decide (x=y):=by
 cases x <;> cases y <;> simp [jH] at h <;> simp only [aA,ku,bX,gG] at rx ry <;> subst rx <;> subst ry <;> simp [B5]
theorem LJ (h:aI c a ρ λx=>aI c b ρ λy=>I2 (λi j=>T (decide (i<j))) x y):lI c (.Compare a [.Lt] [b] pos) ρ T:=pY IY yP h (jf b)
theorem Jv (h:aI c a ρ λx=>aI c b ρ λy=>I2 (λi j=>T (decide (j<i))) x y):lI c (.Compare a [.Gt] [b] pos) ρ T:=pY IZ yP h (jf b)
theorem LK (h:aI c a ρ λx=>aI c b ρ λy=>I2 (λi j=>T (decide (j<=i))) x y):lI c (.Compare a [.GtE] [b] pos) ρ T:=pY I0 yP h (jf b)
end
end
section
variable {K:M0} {c:Ctx P w K mg base k N sc bk}
variable {es rest:List Expr}
noncomputable def bW (X:Cx) (e:Expr):TT:=λσ H Q=>∀ whole aa s,Inv X aa σ H s->wpAny (model X.prog X.w) X.A (isTrue e X.env whole) (TP X aa σ Q) X.xe s
theorem MU:PW X e (bW X e):=λwhole aa s σ H Q I h=>h whole aa s I
theorem EH (h:PW X e t) (q:t σ H Q):bW X e σ H Q:=λwhole aa s I=>h whole aa s σ H Q I q
def Jw (c:Ctx P w K mg base k N sc bk) (e:Expr) (ρ:List Sl) (R:Bool->Prop):Prop :=
 ∀ (σ:L2.St) (H Hf:Hp) (Q:Bool->Hp->Prop),bu c σ H Hf ρ->(∀ b H' ak,R b->bw H Hf H' ak->Q b H')->bW c.X e σ H Q
theorem MC (h:Jw c e ρ T):lI c e ρ T:=λσ H Hf Q S q aa s I=>h σ H Hf Q S q _ aa s I
theorem Gi (h:lI c a ρ T):Jw c (.BoolOp .And [a] pos) ρ T:=λσ H Hf Q S q=>EH (pw_and1 Jl) (h σ H Hf Q S q)
theorem w_and (h:lI c a ρ (nP (Jw c (.BoolOp .And (b::rest) pos) ρ T) (T false))):Jw c (.BoolOp .And (a::b::rest) pos) ρ T:=λσ H Hf Q S q =>
 EH (pw_and Jl MU) (h σ H Hf _ S λx H' ak hx g=>by
  cases x with
  | true=>exact hx.t rfl σ H' ak Q (S.cH g) λy H2 c6 hy g2=>q y H2 c6 hy (g.trans g2)
  | false=>exact q false H' ak (hx.f rfl) g)
theorem Cu {R:Sl->Prop} (h:lI c t ρ (nP (dJ c a ρ R) (dJ c b ρ R))):dJ c (.IfExp t a b pos) ρ R:=λσ H Hf Q S q =>
 bZ (yc Jl dI dI) (h σ H Hf _ S λx H' ak hx g=>by
  cases x with
  | true=>rw [if_pos rfl]; exact hx.t rfl σ H' ak Q (S.cH g) λy v2 H2 c6 hy r2 g2=>q y v2 H2 c6 hy (r2.weak λp hp=>g.s.free hp) (g.trans g2)
  | false=>rw [if_neg Nc]; exact hx.f rfl σ H' ak Q (S.cH g) λy v2 H2 c6 hy r2 g2=>q y v2 H2 c6 hy (r2.weak λp hp=>g.s.free hp) (g.trans g2))
theorem Cv (h:lI c t ρ (nP (aI c a ρ R) (aI c b ρ R))):aI c (.IfExp t a b pos) ρ R :=
 iI (Cu (h.imp λx hx=>⟨λe=>uw ((hx.t e).imp λd h=>⟨d,rfl,h⟩),λe=>uw ((hx.f e).imp λd h=>⟨d,rfl,h⟩)⟩))
theorem kC {R:List D->Prop} (h:R []):pW c [] ρ R:=λσ H Hf Q S q=>yG eZ (q [] [] H Hf h (aC.mpr rfl) (.refl S.sb))
theorem bQ {R:List D->Prop} (h:aI c e ρ λd=>pW c es ρ λds=>R (d::ds)) (hs:∀ env,starEach (e::es) env=(false,eval e env)::starEach es env:=by intro _; walk_at "u"):pW c (e::es) ρ R:=λσ H Hf Q S q =>
 yG (cj dI Ge (hs _)) (h σ H Hf _ S λd v H1 aU h1 r1 g1=>h1 σ H1 aU _ (S.cH g1) λds vs H2 c6 h2 r2 g2=>q _ _ H2 c6 h2 (.cons (Rep.mono g2.f d r1) r2) (g1.trans g2))
theorem f9 (h:pW c es ρ λds=>Sd (ds.length<=sizeLine) (R (.tup ds))):aI c (.Tuple es j pos) ρ R:=λσ H Hf Q S q =>
 bZ (FQ Ge) (h σ H Hf _ S λds vs H' ak ⟨hl,hR⟩ r g=>⟨by rw [<- r.length]; exact hl,λp hp=>by
  have g2:=bw.new g.b hp (o:=.tup vs)
  exact q _ _ _ _ hR (aL.mpr ⟨p,vs,rfl,.inl (.inl ai),r.mono g2.f⟩) (g.trans g2)⟩)
theorem EI {R:Sl->Prop} (h:pW c es ρ λds=>Sd (ds.length<=sizeLine) (R (.ow ds))):dJ c (.List es pos) ρ R:=λσ H Hf Q S q =>
 bZ (FT Ge) (h σ H Hf _ S λds vs H' ak ⟨hl,hR⟩ r g=>⟨by rw [<- r.length]; exact hl,λp hp=>by
  have g2:=bw.f7 g.b hp (o:=.lst vs)
  exact q _ _ _ _ hR ⟨p,vs,rfl,g.s.free hp,ai,g.b.free hp,r⟩ (g.trans g2)⟩)
variable {st:Stmt}
theorem yQ (h:nx ρ):aH c [] ρ nx p:=λσ H Hf D S o=>yH BZ (o.nx σ H Hf ρ S h)
theorem aB (h:fK c st ρ (λρ'=>aH c sts ρ' nx p) p):aH c (st::sts) ρ nx p:=λσ H Hf D S o =>
 yH (yd MT sA) (h σ H Hf { D with nx:=IC c.X sts D } S ⟨λσ' H' ak ρ' S' q=>q σ' H' ak D S' o,o.rt,o.bk,o.ct⟩)
theorem bK (h:dJ c e ρ p.rt):fK c (.Return (some e) pos) ρ nx p:=λσ H Hf D S o =>
 dZ (ye dI) (h σ H Hf _ S λr v H' ak hr rs g=>o.rt r v H' ak (S.bas.trans g) (rs.weak λp hp=>S.bas.s.free hp) hr)
theorem yR (hN:At N i x) (hi:At ρ i r) (hu:r.owned=true) (h:p.rt r)
 (hd:(x == ("__debug__":Str))=false:=by decide) (hcd:(x == ("__classdict__":Str))=false:=by decide) :
 fK c (.Return (some (.Name x pos2)) pos) ρ nx p:=λσ H Hf D S o=>by
 obtain ⟨v,e,rs⟩:=S.at_ i r hi.get (by rintro rfl; cases hu)
 exact dZ (ye (rX (X:=c.X) (i:=i) (by rw [c.eN]; exact hN.get) (by rw [c.esc]; rcases c.vis x hN.mem with h | h; exact .inl h; exact .inr (.inl h)) hd hcd)) ⟨v,e,o.rt r v H Hf S.bas rs h⟩
theorem Cw (h:lI c t ρ (nP (aH c A ρ nx p) (aH c B ρ nx p))):fK c (.If t A B pos) ρ nx p:=λσ H Hf D S o =>
 dZ (IM Jl sA sA) (h σ H Hf _ S λx H' ak hx g=>by
  cases x with
  | true=>rw [if_pos rfl]; exact hx.t rfl σ H' ak D (S.cH g) o
  | false=>rw [if_neg Nc]; exact hx.f rfl σ H' ak D (S.cH g) o)
def Nx (ρ:List Sl) (i:Nat) (R:List Sl->Prop) (r:Sl):Prop:=∃ ρ',SSet ρ i r ρ'/\R ρ'
theorem nQ {R:List Sl->Prop} (h:SSet ρ i r ρ') (hr:R ρ'):Nx ρ i R r:=⟨ρ',h,hr⟩
theorem yS (hN:At N i x) (h:dJ c e ρ (Nx ρ i nx))
 (hs:∀ env,swapsWith e (some (.Name x pos2)) pos.line env=pure false:=by intro _; walk_at "u") (hf:bk=false\/sc.names.lookup x=some .local:=by first | exact .inl rfl | exact .inr (by walk_at "u")):fK c (.Assign [.Name x pos2] e pos) ρ nx p:=λσ H Hf D S o =>
 dZ (yh (X:=c.X) (i:=i) (by rw [c.eN]; exact c.nd) (by rw [c.eN]; exact hN.get) (by rw [c.esc]; exact c.vis x hN.mem) dI (hs _) (c.fn x hf)) (h σ H Hf _ S λr v H' ak ⟨ρ',hs,hx⟩ rs g=>o.nx _ H' ak _ (hs.eq ▸ S.set g rs) hx)
theorem cC {R:List Sl->Prop} (hN:At N i x) (h:Nx ρ i R (.va d)) (hf:bk=false\/sc.names.lookup x=some .local:=by first | exact .inl rfl | exact .inr (by walk_at "u")):mF c (.Name x pos) d ρ R:=λσ H Hf v Q S r q=>by
 obtain ⟨ρ',hs,h⟩:=h
 exact yI (nF (X:=c.X) (i:=i) (by rw [c.eN]; exact c.nd) (by rw [c.eN]; exact hN.get) (by rw [c.esc]; exact c.vis x hN.mem) (c.fn x hf)) (q _ H Hf _ (hs.eq ▸ S.set (.refl S.sb) (r:=.va d) r) (.refl S.sb) h)
def wA (c:Ctx P w K mg base k N sc bk) (ts:List Expr) (ds:List D) (ρ:List Sl) (R:List Sl->Prop):Prop :=
 ∀ (σ:L2.St) (H Hf:Hp) (vs:List V) (Q:L2.St->Hp->Prop),bu c σ H Hf ρ->av c.X.K Hf ds vs->(∀ σ' H' ak ρ',bu c σ' H' ak ρ'->bw H Hf H' ak->R ρ'->Q σ' H') ->
  ∀ aa s us,Inv c.X aa σ H s->Vals vs us->wpAny (model c.X.prog c.X.w) c.X.A (assignInOrder ((assignEach ts c.X.env).map (·.2)) us) (λ_ s'=>∃ σ' H',Inv c.X aa σ' H' s'/\Q σ' H') c.X.xe s
theorem Gj {R:List Sl->Prop} (h:R ρ):wA c [] [] ρ R:=λσ H Hf vs Q S r q aa s us I rv=>by
 rw [aC] at r; subst r
 exact B0 aa s σ H [] us Q I rv ⟨rfl,q σ H Hf ρ S (.refl S.sb) h⟩
theorem Cy {R:List Sl->Prop} (hN:At N i x) (h:Nx ρ i (λρ'=>wA c ts ds ρ' R) (.va d))
 (hs:∀ env,(assignEach (.Name x pos::ts) env).map (·.2)=assign (.Name x pos) env::(assignEach ts env).map (·.2):=by intro _; walk_at "u") (hf:bk=false\/sc.names.lookup x=some .local:=by first | exact .inl rfl | exact .inr (by walk_at "u")):wA c (.Name x pos::ts) (d::ds) ρ R:=λσ H Hf vs Q S r q aa s us I rv=>by
 obtain ⟨ρ',hs',h⟩:=h
 rw [aF] at r
 obtain ⟨v,vr,rfl,r1,r2⟩:=r
 have hp:Iu c.X ts (λvs' σ' H' Q'=>∀ aa s us,Inv c.X aa σ' H' s->Vals vs' us->wpAny (model c.X.prog c.X.w) c.X.A (assignInOrder ((assignEach ts c.X.env).map (·.2)) us) (λ_ s'=>∃ σ'' H'',Inv c.X aa σ'' H'' s'/\Q' σ'' H'') c.X.xe s) :=
  λaa s σ H vs us Q I r h=>h aa s us I r
 refine yf (nF (X:=c.X) (i:=i) (by rw [c.eN]; exact c.nd) (by rw [c.eN]; exact hN.get) (by rw [c.esc]; exact c.vis x hN.mem) (c.fn x hf)) hp (hs _) aa s σ H _ us Q I rv ⟨v,vr,rfl,?_⟩
 have S1:=S.set (i:=i) (.refl S.sb) (r:=.va d) (v:=v) r1
 rw [<- hs'.eq] at S1
 exact h _ H Hf vr Q S1 r2 q
theorem uC {R:List Sl->Prop} (he:d=.tup ds) (hl:ds.length=ts.length) (h:wA c ts ds ρ R)
 (hn:∀ env,(assignEach ts env).length=ts.length:=by intro _; walk_at "u") (hst:∀ env,(assignEach ts env).findIdx? (·.1)=none:=by intro _; walk_at "u"):mF c (.Tuple ts j pos) d ρ R:=λσ H Hf v Q S r q=>by
 subst he
 rw [aL] at r
 obtain ⟨a,xs,rfl,h1,h2⟩:=r
 have hp:Iu c.X ts (λvs' σ' H' Q'=>∀ aa s us,Inv c.X aa σ' H' s->Vals vs' us->wpAny (model c.X.prog c.X.w) c.X.A (assignInOrder ((assignEach ts c.X.env).map (·.2)) us) (λ_ s'=>∃ σ'' H'',Inv c.X aa σ'' H'' s'/\Q' σ'' H'') c.X.xe s) :=
  λaa s σ H vs us Q I r h=>h aa s us I r
 refine yI (Fx (X:=c.X) (k:=j) (n:=ts.length) c.calm hp (hn _) (hst _)) ⟨a,xs,rfl,az S.sb h1,by rw [<- h2.length,hl],?_⟩
 exact h σ H Hf xs Q S h2 λσ' H' ak ρ' S' g' hR=>q σ' H' ak ρ' S' g' hR
theorem Jx (h:aI c e ρ λd=>mF c tg d ρ nx) (hs:∀ env,swapsWithSole [tg] e pos.line env=pure false:=by intro _; walk_at "u") (hw:∀ env,swappedStores [tg] e env=pure none:=by intro _; walk_at "u") (h1:∀ env,(assignEach [tg] env).map (·.2)=[assign tg env]:=by intro _; walk_at "u"):fK c (.Assign [tg] e pos) ρ nx p:=λσ H Hf D S o =>
 dZ (yg dI MB (hs _) (hw _) (h1 _)) (h σ H Hf _ S λd v H' ak hx r g=>hx σ H' ak v _ (S.cH g) r λσ' H2 c6 ρ' S' _ hR=>o.nx σ' H2 c6 ρ' S' hR)
theorem Jy {f:Int->Int->Int} (ho:fH c.X (inplaceOp op) (rI C λi j=>.int (f i j))) (hN:At N i x) (hi:At ρ i (.va (.int m)))
 (h:aI c e ρ (I1 λj=>Sd (C m j) (Nx ρ i nx (.va (.int (f m j)))))) (hf:bk=false\/sc.names.lookup x=some .local:=by first | exact .inl rfl | exact .inr (by walk_at "u")):fK c (.AugAssign (.Name x pos2) op e pos) ρ nx p:=λσ H Hf D S o=>by
 obtain ⟨v,e1,r1⟩:=S.va hi.get
 rw [aA] at r1; subst r1
 have hip:Mx c.X op (rI C λi j=>.int (f i j)):=λaa s σ H x y v u Q I rx ry h=>ho aa s σ H x y v u Q I rx ry h
 refine dZ (Fz (X:=c.X) (i:=i) (by rw [c.eN]; exact c.nd) (by rw [c.eN]; exact hN.get) (by rw [c.esc]; exact c.vis x hN.mem) dI hip (c.fn x hf)) ⟨_,e1,h σ H Hf _ S λd v H' ak ⟨j,ed,⟨hC,ρ',hs,hn⟩⟩ r g=>?_⟩
 subst ed; rw [aA] at r
 have S2:=S.set g (i:=i) (r:=.va (.int (f m j))) (show Rep c.X.K ak (.int (f m j)) (.int (f m j)) from aA.mpr rfl)
 rw [<- hs.eq] at S2
 exact ⟨m,j,rfl,r,hC,o.nx _ H' ak _ S2 hn⟩
theorem Gk (hN:At N i x) (hi:At ρ i (.va (.int m))) (h:aI c e ρ (I1 λj=>Nx ρ i nx (.va (.int (m - j))))) (hf:bk=false\/sc.names.lookup x=some .local:=by first | exact .inl rfl | exact .inr (by walk_at "u")) :
 fK c (.AugAssign (.Name x pos2) .Sub e pos) ρ nx p :=
 Jy (C:=λ_ _=>True) (f:=λi j=>i - j) (λaa s σ H x y v u Q I rx ry ⟨i,j,e1,e2,_,q⟩=>B4 aa s σ H x y v u Q I rx ry ⟨i,j,e1,e2,q⟩) hN hi (h.imp λd ⟨j,e,q⟩=>⟨j,e,trivial,q⟩) hf
theorem uD (hq:c.X.xe=λ_ _=>False) (I:Nat->List Sl->Prop) (h0:I m₀ ρ)
 (h:∀ m ρ',I m ρ'->lI c t ρ' (nP (aH c body ρ' (λr=>∃ m',m'<m/\I m' r) { ct:=λr=>∃ m',m'<m/\I m' r,bk:=nx,rt:=p.rt }) (nx ρ'))) :
 fK c (.While t body [] pos) ρ nx p:=λσ H Hf D S o =>
 dZ (yi (by rw [hq]; exact PassesOwn.never) Jl sA) ⟨λm σ H=>∃ Hf ρ',bu c σ H Hf ρ'/\I m ρ',⟨m₀,Hf,ρ,S,h0⟩,λm σ H ⟨Hf,ρ',S,hI⟩=>h m ρ' hI σ H Hf _ S λx H' ak hx g=>by
  cases x with
  | false=>rw [if_neg Nc]; exact o.nx σ H' ak ρ' (S.cH g) (hx.f rfl)
  | true =>
   rw [if_pos rfl]
   refine ⟨λσ' H'=>∃ m',m'<m/\∃ Hf ρ',bu c σ' H' Hf ρ'/\I m' ρ',λσ' H' ⟨m',hl,hh⟩=>⟨m',hl,hh⟩,?_⟩
   exact hx.t rfl σ H' ak _ (S.cH g) ⟨λσ H Hf ρ S ⟨m',hl,hi⟩=>⟨m',hl,Hf,ρ,S,hi⟩,o.rt,λσ H Hf ρ S q=>o.nx σ H Hf ρ S q,λσ H Hf ρ S ⟨m',hl,hi⟩=>⟨m',hl,Hf,ρ,S,hi⟩⟩⟩
end
theorem iJ (h:n<=1000):n<=sizeLine:=O9 (wz h)
theorem yT (h:0<j) (h2:j.natAbs.log2<9000):yM j:=⟨h,h2⟩
inductive Res where
 | ok (r:Sl)
 | ex (C:Addr)
noncomputable abbrev Fn:=List D->Res->Prop
noncomputable def dM (K:M0) (F:Fn):Sp:=λvs H Q E=>∃ Hf ds r,aN Hf H/\av K Hf ds vs/\F ds r/\match r with
 | .ok sl=>∀ v H' ak,bw H Hf H' ak->bh K (λp=>H p=none) H' ak sl v->Q v H'
 | .ex C=>∀ a H',aN H H'->E (.ref C) (some a) H'
structure c7 (P:Program) (w:World) (K:M0) (mg:Str->Option Value) (base:Heap) (k:Nat) (x:Str) (F:Fn):Prop where
 ex:∃ f fd ps,mg x=some (.ref f)/\OL K (.ref f)=true/\Binds K fd ps []/\aZ P w K mg base (c9 P w) k f fd ps (dM K F)
section
variable {K:M0} {c:Ctx P w K mg base k N sc bk}
noncomputable def Gm (c:Ctx P w K mg base k N sc bk) (ρ:List Sl) (R:Sl->Prop):Res->Prop
 | .ok sl=>R sl
 | .ex C=>c.RX C ρ
theorem Cz (h:c7 P w K mg base j x F) (hj:j<=k):∃ f,mg x=some (.ref f)/\OL K (.ref f)=true /\
 ∀ (aa:List (Addr×Obj)) (σ:L2.St) (H Hf:Hp) (s:Shared) (us:List Value) (vs:List V) (ds:List D) (r:Res) (Q:VK),Inv c.X aa σ H s->bu c σ H Hf ρ->Vals vs us->av c.X.K Hf ds vs->F ds r ->
  (∀ sl v H' ak,r=.ok sl->bh c.X.K (λp=>H p=none) H' ak sl v->bw H Hf H' ak->Q v H')->(∀ C,r=.ex C->c.RX C ρ)->wpAny (model c.X.prog c.X.w) c.X.A (call (.ref f) us) (EP c.X aa σ Q) c.X.xe s:=by
 obtain ⟨f,fd,ps,hm,hk,hb,hF⟩:=h.ex
 refine ⟨f,hm,hk,λaa σ H Hf s us vs ds r Q I S rv rs hr q hx=>?_⟩
 have hF':aZ c.X.prog c.X.w c.X.K c.X.mg c.X.base (c9 c.X.prog c.X.w) k f fd ps (dM c.X.K F):=by rw [c.eP,c.ew,c.eK,c.emg,c.eb]; exact hF.mono hj
 have tY:dM c.X.K F vs H Q (λcv ao H'=>∃ C,r=.ex C/\cv=.ref C/\aN H H'):=by
  refine ⟨Hf,ds,r,S.bas.b,rs,hr,?_⟩
  cases r with
  | ok sl=>exact λv H' ak g rs2=>q sl v H' ak rfl rs2 g
  | ex C=>exact λa H' s2=>⟨C,rfl,rfl,s2⟩
 have hl:us.length=ps.length:=by rw [<- rv.length]; exact hF'.len _ _ _ _ tY
 have hb':Binds c.X.K fd ps []:=by rw [c.eK]; exact hb
 have hb2:=hb' s us I.BI (by simpa using hl)
 rw [N7] at hb2
 refine wpAny_call (QD (hF'.run c.X.A c.X.stack s H ⟨us,[]⟩ us vs Q _ c.room I.FW hb2 rv tY) λr' s' hq=>?_)
 cases r' with
 | error e =>
  obtain ⟨a,C,H',rfl,hE,C',e1,e2,sm⟩:=hq
  cases e2
  exact c.exc C a aa σ H Hf ρ s H' s' I S (hx C e1) hE sm
 | ok fl =>
  cases fl with
  | ret u=>exact I.after hq
  | next=>exact Oc hq
  | brk=>exact Oc hq
  | cont=>exact Oc hq
theorem x_call {R:Sl->Prop} (h:c7 P w K mg base j x F) (hj:j<=k)
 (ha:pW c (e::es) ρ λds=>∃ r,F ds r/\Gm c ρ R r)
 (hg:sc.names.lookup x=some .globalImplicit:=by walk_at "u") (hdb:(x == ("__debug__":Str))=false:=by decide) (he:∀ env,starEach (e::es) env=(false,eval e env)::starEach es env:=by intro _; walk_at "u")
 (hpl:∀ env,(backTo pos (starEach es env)).any (·.1)=false:=by intro _; walk_at "u"):dJ c (.Call (.Name x p) (e::es) [] pos) ρ R:=λσ H Hf Q S q aa s I=>by
 obtain ⟨f,hm,hk,run⟩:=Cz (c:=c) (ρ:=ρ) h hj
 refine OO (nD I (by unfold Gl NY; rw [c.esc]; exact hg) (by rw [c.emg]; exact hm) ?_ hdb)
 refine Sk (h₀:=c.X.base) I.ok.mod.kin (by rw [c.eK]; exact hk) (bJ (ha σ H Hf (λvs H1=>∃ aU ds,(∃ r,F ds r/\Gm c ρ R r)/\av c.X.K aU ds vs/\bw H Hf H1 aU) S (λds vs H1 aU hr rs g=>⟨aU,ds,hr,rs,g⟩) pos aa s I) λus s1 hh=>z2 hh λvs H1 hh=>w3 hh λI1 rv hh=>z2 hh λaU ds hh=>w3 hh λhh rs g=>hh.elim λr hh=>w2 hh λhF hR=>⟨I1.BI,?_⟩) (he _) (hpl _)
 refine run aa σ H1 aU s1 us vs ds r Q I1 (S.cH g) rv rs hF (λsl v H' ak e1 rs2 g2=>?_) λC e1=>?_
 ·subst e1
  exact q sl v H' ak hR (rs2.weak λp hp=>g.s.free hp) (g.trans g2)
 ·subst e1
  exact hR
theorem bz (h:c7 P w K mg base j x F) (hj:j<=k)
 (ha:pW c (e::es) ρ λds=>∃ r,F ds r/\Gm c ρ (Gf R) r)
 (hg:sc.names.lookup x=some .globalImplicit:=by walk_at "u") (hdb:(x == ("__debug__":Str))=false:=by decide) (he:∀ env,starEach (e::es) env=(false,eval e env)::starEach es env:=by intro _; walk_at "u")
 (hpl:∀ env,(backTo pos (starEach es env)).any (·.1)=false:=by intro _; walk_at "u"):aI c (.Call (.Name x p) (e::es) [] pos) ρ R:=e_x (x_call h hj ha hg hdb he hpl)
noncomputable def gY (N:List Str) (ds:List D):List Sl:=ds.map .va++Nh (N.length - ds.length) .un
theorem yU (r:av K fj ds vs) (sb:aN fj H₀):fh K H₀ fj (L2.start N vs) H₀ fj (gY N ds):=by
 have hl:=r.length
 refine ⟨.refl sb,by simp [L2.start,gY,hl],λi r' h hu=>?_,λi j r1 r2 p hne h1 h2 o1 o2=>?_⟩
 ·by_cases q:i<ds.length
  ·have e:(gY N ds)[i]?=some (.va ds[i]):=by
    unfold gY
    rw [OY (by simpa using q)]; simp [q]
   rw [e] at h; cases h
   obtain ⟨x,e2,rx⟩:=r.get (i:=i) (d:=ds[i]) (by simp)
   refine ⟨x,?_,rx⟩
   unfold L2.start
   rw [OY (by simp; lia)]
   simp [e2]
  ·unfold gY at h
   rw [PN (by simp; lia)] at h
   have:=Og h
   exact absurd (RZ this) hu
 ·exfalso
  unfold gY at h1
  by_cases q:i<(ds.map Sl.va).length
  ·rw [OY q] at h1
   rw [Nd] at h1
   cases z:ds[i]? with
   | none=>rw [z] at h1; cases h1
   | some d=>rw [z] at h1; cases h1; cases o1
  ·rw [PN (by lia)] at h1
   have e3:=RZ (Og h1)
   subst e3; cases o1
abbrev FS (N P:List Str) (st:Stmt):Prop:=(aQ st).kind=.function/\(aQ st).isCoroutine=false/\(aQ st).isGenerator=false/\N.Nodup/\N.take P.length=P/\(∀ x∈P,(aQ st).names.lookup x=some .local\/(aQ st).names.lookup x=some .cell)/\(∀ y∈(aQ st).names,y.2≠.free)/\∀ x∈N,(aQ st).names.lookup x=some .local\/(aQ st).names.lookup x=some .cell
theorem EJ {N P:List Str} {st:Stmt} (h:FS N P st):nH N P (aQ st)/\∀ x∈N,Loc (aQ st) x:=⟨⟨h.1,h.2.1,h.2.2.1,h.2.2.2.1,h.2.2.2.2.1,h.2.2.2.2.2.1,h.2.2.2.2.2.2.1⟩,h.2.2.2.2.2.2.2⟩
theorem bY {st:Stmt} (Fu:dQ K x qual st f fd) (SV:FS N ps st) (ar:∀ ds r,F ds r->ds.length=ps.length)
 (hok:∀ ds r,F ds r->∃ sl,r=.ok sl)
 (body:∀ (c:Ctx P w K mg base k N (aQ st) false),c.X.xe=(λ_ _=>False)->∀ ds sl,F ds (.ok sl)->aH c (au st) (gY N ds) (λ_=>sl=.va .non) { rt:=λr=>r=sl }) :
 aZ P w K mg base (c9 P w) (k+1) f fd ps (dM K F):=by
 obtain ⟨Sc,Vi⟩:=EJ SV
 obtain ⟨oc,od,kV,doc,pm,an,cdv,ct,osl,rfl,lk,hcd⟩:=Fu.ex
 refine EC lk hcd Sc (λvs H Q E ⟨Hf,ds,r,_,rs,hF,_⟩=>by rw [<- rs.length]; exact ar _ _ hF) λA outer s H vs Q E hr ⟨Hf,ds,r,sb,rs,hF,hq⟩=>?_
 obtain ⟨sl,rfl⟩:=hok _ _ hF
 let X:Cx:=(sd (c9 P w) P w K mg base N qual (aQ st) f cdv A outer s H E).Ir
 let c:Ctx P w K mg base k N (aQ st) false :=
  { X:=X,eP:=rfl,ew:=rfl,eK:=rfl,emg:=rfl,eb:=rfl,eN:=rfl,esc:=rfl,calm:=rfl,top:=λ_=>⟨rfl,rfl,rfl⟩,cb:=λ_ _ _ _ _ I x c h=>I.ok.cab x c rfl h,fn:=λ_ _=>.inl rfl,B:=H,room:=hr,nd:=Sc.nd,vis:=Vi,Hf:=Hf,RX:=λ_ _=>False,
    exc:=λ_ _ _ _ _ _ _ _ _ _ _ _ h _ _=>h.elim,RM:=λ_ _=>False,mde:=λ_ _ _ _ _ _ _ _ _ _ _ _ h _=>h.elim }
 refine ⟨_,rV.Ir (t:=IC X (au st)) (sA (X:=X)),?_⟩
 refine body c rfl ds sl hF (L2.start N vs) H Hf _ (yU rs sb) ⟨λσ H' ak ρ S e=>?_,λr v H' ak g rv e=>?_,λ_ _ _ _ _ h=>h.elim,λ_ _ _ _ _ h=>h.elim⟩
 ·subst e
  exact hq .non H' ak S.bas (show Rep K ak .non .non from bX.mpr rfl)
 ·have e:r=sl:=e
  subst e
  exact hq v H' ak g rv
def LL (K:M0) (r:List V->Hp->VK->Prop) (p:List D->(Sl->Prop)->Prop):Prop :=
 ∀ (ds:List D) (vs:List V) (H Hf:Hp) (Q:VK) (R:Sl->Prop),aN Hf H->av K Hf ds vs->p ds R->(∀ z v' H' ak,R z->bh K (λp=>H p=none) H' ak z v'->bw H Hf H' ak->Q v' H')->r vs H Q
theorem Jz {id:String} {R:Sl->Prop} (hc:fY c.X (.type id) r) (hd:LL c.X.K r q) (hm:mg x=none) (hv:bootBuiltins x=some (.type id))
 (ha:pW c (e::es) ρ λds=>q ds R) (hg:sc.names.lookup x=some .globalImplicit:=by walk_at "u") (hn:x≠"__name__":=by decide) (hdb:(x == ("__debug__":Str))=false:=by decide)
 (he:∀ env,starEach (e::es) env=(false,eval e env)::starEach es env:=by intro _; walk_at "u") (hpl:∀ env,(backTo pos (starEach es env)).any (·.1)=false:=by intro _; walk_at "u"):dJ c (.Call (.Name x p) (e::es) [] pos) ρ R:=λσ H Hf Q S qq =>
 bZ (mj hc (by unfold Gl NY; rw [c.esc]; exact hg) (by rw [c.emg]; exact hm) hv Ge hn hdb (he _) (hpl _))
  (ha σ H Hf _ S λds vs H1 aU h1 rs g=>hd ds vs H1 aU Q R g.b rs h1 λz v' H' ak hz rz g2=>qq z v' H' ak hz (rz.weak λp hp=>g.s.free hp) (g.trans g2))
theorem pZ (h:av K H [d] vs):∃ v,vs=[v]/\Rep K H d v:=by
 rw [aF] at h
 obtain ⟨x,r,rfl,h1,h2⟩:=h
 rw [aC] at h2; subst h2
 exact ⟨x,rfl,h1⟩
def yV (K:M0) (r:List V->Hp->VK->Prop) (p:List D->(D->Prop)->Prop):Prop :=
 ∀ (ds:List D) (vs:List V) (H Hf:Hp) (Q:VK) (R:D->Prop),aN Hf H->av K Hf ds vs->p ds R->(∀ d v H' ak,R d->Rep K ak d v->bw H Hf H' ak->Q v H')->r vs H Q
theorem uE {id:String} (hc:fY c.X (.builtin id) r) (hd:yV c.X.K r q) (hm:mg x=none) (hv:bootBuiltins x=some (.builtin id))
 (ha:pW c (e::es) ρ λds=>q ds R) (hg:sc.names.lookup x=some .globalImplicit) (hn:x≠"__name__") (hdb:(x == ("__debug__":Str))=false)
 (he:∀ env,starEach (e::es) env=(false,eval e env)::starEach es env) (hpl:∀ env,(backTo pos (starEach es env)).any (·.1)=false):aI c (.Call (.Name x p) (e::es) [] pos) ρ R:=λσ H Hf Q S qq =>
 bZ (yo hc (by unfold Gl NY; rw [c.esc]; exact hg) (by rw [c.emg]; exact hm) hv Ge hn hdb (he _) (hpl _))
  (ha σ H Hf _ S λds vs H1 aU h1 rs g=>hd ds vs H1 aU Q R g.b rs h1 λz v' H' ak hz rz g2=>qq z v' H' ak hz rz (g.trans g2))
theorem JA {id:String} (hc:fY c.X (.type id) r) (hd:yV c.X.K r q) (hm:mg x=none) (hv:bootBuiltins x=some (.type id))
 (ha:pW c (e::es) ρ λds=>q ds R) (hg:sc.names.lookup x=some .globalImplicit) (hn:x≠"__name__") (hdb:(x == ("__debug__":Str))=false)
 (he:∀ env,starEach (e::es) env=(false,eval e env)::starEach es env) (hpl:∀ env,(backTo pos (starEach es env)).any (·.1)=false):aI c (.Call (.Name x p) (e::es) [] pos) ρ R:=λσ H Hf Q S qq =>
 bZ (mj hc (by unfold Gl NY; rw [c.esc]; exact hg) (by rw [c.emg]; exact hm) hv Ge hn hdb (he _) (hpl _))
  (ha σ H Hf _ S λds vs H1 aU h1 rs g=>hd ds vs H1 aU Q R g.b rs h1 λz v' H' ak hz rz g2=>qq z v' H' ak hz rz (g.trans g2))
end
end EV
namespace EV
open PySem PySem.Spec PySem.Calls PyProof.Rows L2
theorem Gn (x:bq P w H h a o):∃ u,h.get? a=some u:=by
 cases o with
 | lst xs=>obtain ⟨_,_,_,_,e⟩:=x; exact ⟨_,e⟩
 | tup xs=>obtain ⟨_,_,_,ob,e,_⟩:=x; exact ⟨_,e⟩
 | dK kvs=>obtain ⟨_,_,_,_,o,_,_,e,_⟩:=x; exact ⟨_,e⟩
 | dT kvs=>obtain ⟨_,_,_,_,o,_,_,e,_⟩:=x; exact ⟨_,e⟩
 | set S n=>obtain ⟨o,_,_,_,e,_⟩:=x; exact ⟨_,e⟩
 | ins C dx fs=>obtain ⟨_,_,_,e,_⟩:=x; exact ⟨_,e⟩
 | own y=>exact x
 | xd fs=>obtain ⟨_,⟨_,_,_,e,_⟩,_⟩:=x; exact ⟨_,e⟩
 | rng lo hi=>obtain ⟨_,_,_,e⟩:=x; exact ⟨_,e⟩
 | frz ob u=>obtain ⟨e,_⟩:=x; exact ⟨_,e⟩
 | tbl ps=>exact ⟨_,x⟩
 | met f y=>exact ⟨_,x⟩
 | ext φ =>exact x.2.1
section
variable {K:M0}
end
open PySem.W Builtin Builtin.ObjectAttr Builtin.Getset_descriptor
structure MV (K:M0) (C:Addr):Prop where
 ga:O4 K (.ref C) "__getattribute__"=some (some (.builtin "BaseException.__getattribute__"))
 hk:O4 K (.ref C) "__getattr__"=some none
 ca:O4 K (.ref C) "__class__"=some (some (.builtin "object.__class__"))
 gt:Sx K (.builtin "object.__class__") "__get__"=some (some (.builtin "getset_descriptor.__get__"))
 tk:PySem.W.takesIn K (.builtin "object.__class__")=some true
 mo:PySem.W.mroIn K C (.type "object")=some true
 mb:PySem.W.mroIn K C (.type "BaseException")=some true
inductive EK (K:M0):D->Value->Prop where
 | non:EK K .non (.type "NoneType")
 | bl {x:Bool}:EK K (.bl x) (.type "bool")
 | int {i:Int}:EK K (.int i) (.type "int")
 | str {x:Str}:EK K (.str x) (.type "str")
 | lst {ds:List EV.D}:EK K (.lst ds) (.type "list")
 | tup {ds:List EV.D}:EK K (.tup ds) (.type "tuple")
 | exc {C:Addr} (k:MV K C):EK K (.exc C) (.ref C)
section
variable {K:M0}
end
section
variable {X:Cx}
theorem nR (I:Inv X aa σ H s) (sb:aN Hf H):∀ (n:Nat) (d e:D) (v:V),lJ n d e->Rep X.K Hf d v->Rep X.K Hf e v->d=e:=by
 intro n
 induction n with
 | zero =>
  intro d e v h r1 r2
  cases h with
  | sc h=>cases d <;> cases e <;> simp [jH] at h <;> simp_all [Rep]
  | ln=>rw [bX] at r2; subst r2; rw [br] at r1; obtain ⟨_,_,e,_⟩:=r1; cases e
  | nl=>rw [bX] at r1; subst r1; rw [br] at r2; obtain ⟨_,_,e,_⟩:=r2; cases e
  | tn=>rw [bX] at r2; subst r2; rw [aL] at r1; obtain ⟨_,_,e,_⟩:=r1; cases e
  | nt=>rw [bX] at r1; subst r1; rw [aL] at r2; obtain ⟨_,_,e,_⟩:=r2; cases e
 | succ n ih =>
  have els:∀ (ds es:List D) (xs:List V),(∀ (i:Nat) (d e:D),ds[i]?=some d->es[i]?=some e->lJ n d e)->av X.K Hf ds xs->av X.K Hf es xs->ds=es:=λds es xs h q1 q2=>by
   apply Rg
   intro i
   cases a:ds[i]? with
   | none =>
    have:ds.length<=i:=by simpa using a
    symm
    rw [List.getElem?_eq_none_iff,q2.length,<- q1.length]; exact this
   | some d =>
    obtain ⟨x,ex,rx⟩:=q1.get a
    obtain ⟨e,ee,re⟩:=q2.get' ex
    rw [ee,ih d e x (h i d e a ee) rx re]
  intro d e v h r1 r2
  cases h with
  | sc h=>cases d <;> cases e <;> simp [jH] at h <;> simp_all [Rep]
  | ln=>rw [bX] at r2; subst r2; rw [br] at r1; obtain ⟨_,_,e,_⟩:=r1; cases e
  | nl=>rw [bX] at r1; subst r1; rw [br] at r2; obtain ⟨_,_,e,_⟩:=r2; cases e
  | tn=>rw [bX] at r2; subst r2; rw [aL] at r1; obtain ⟨_,_,e,_⟩:=r1; cases e
  | nt=>rw [bX] at r1; subst r1; rw [aL] at r2; obtain ⟨_,_,e,_⟩:=r2; cases e
  | tup h =>
   rw [aL] at r1 r2
   obtain ⟨a,xs,rfl,p1,q1⟩:=r1
   obtain ⟨a',ys,e',p2,q2⟩:=r2
   cases e'
   have:=I.jd (az sb p1) (az sb p2)
   subst this
   rw [els _ _ _ h q1 q2]
  | lst h =>
   rw [br] at r1 r2
   obtain ⟨a,xs,rfl,p1,q1⟩:=r1
   obtain ⟨a',ys,e',p2,q2⟩:=r2
   cases e'
   have:=I.pH (sb.seq p1) (sb.seq p2)
   subst this
   rw [els _ _ _ h q1 q2]
theorem nS {α:Type} [BEq α] [LawfulBEq α] {a b:α} {i:Decidable (a=b)}:(a == b)=@decide (a=b) i:=by
 by_cases h:a=b
 ·subst h; simp
 ·simp [h]
theorem all_range {ds es:List D} (hn:ds.length=n) (hm:es.length=m) (h:n=m):((NP n).all λj=>decide (ds[j]?=es[j]?))=decide (ds=es):=by
 rw [Qv,List.all_eq_true]
 simp only [Ry,decide_eq_true_eq]
 constructor
 ·intro q
  apply Rg
  intro i
  by_cases hi:i<n
  ·exact q i hi
  ·rw [OE (by lia),OE (by lia)]
 ·rintro rfl; intro _ _; rfl
theorem uF (h:jH x y=true) (r1:Rep X.K Hf x v) (r2:Rep X.K Hf y v') (e1:RelV v u) (e2:RelV v' u'):Nu A s u u' (decide (x=y)):=by
 cases x <;> cases y <;> simp [jH] at h <;> simp only [aA,ku,bX,gG] at r1 r2 <;> subst r1 <;> subst r2
 case non.non=>cases e1; cases e2; simpa using Nu.same _
 case non.bl b=>cases e1; cases e2; simpa using Nu.none_bool (A:=A) (s:=s) b
 case non.int i=>cases e1; obtain ⟨t,rfl⟩:=e2; simpa using Nu.none_int (A:=A) (s:=s) i t
 case non.str i=>cases e1; obtain ⟨t,rfl⟩:=e2; simpa using Nu.none_str (A:=A) (s:=s) i t
 case bl.non b=>cases e1; cases e2; simpa using Nu.bool_none (A:=A) (s:=s) b
 case bl.bl a b=>cases e1; cases e2; have q:=Nu.bool_bool (A:=A) (s:=s) a b; rw [nS (i:=inferInstance)] at q; simpa using q
 case bl.str a b=>cases e1; obtain ⟨t,rfl⟩:=e2; simpa using Nu.bool_str (A:=A) (s:=s) a b t
 case int.non a=>obtain ⟨t,rfl⟩:=e1; cases e2; simpa using Nu.int_none (A:=A) (s:=s) a t
 case int.int a b=>obtain ⟨t,rfl⟩:=e1; obtain ⟨t',rfl⟩:=e2; have q:=Nu.int_int (A:=A) (s:=s) a t b t'; rw [nS (i:=inferInstance)] at q; simpa using q
 case int.str a b=>obtain ⟨t,rfl⟩:=e1; obtain ⟨t',rfl⟩:=e2; simpa using Nu.int_str (A:=A) (s:=s) a t b t'
 case str.non a=>obtain ⟨t,rfl⟩:=e1; cases e2; simpa using Nu.str_none (A:=A) (s:=s) a t
 case str.bl a b=>obtain ⟨t,rfl⟩:=e1; cases e2; simpa using Nu.str_bool (A:=A) (s:=s) a t b
 case str.int a b=>obtain ⟨t,rfl⟩:=e1; obtain ⟨t',rfl⟩:=e2; simpa using Nu.str_int (A:=A) (s:=s) a t b t'
 case str.str a b=>obtain ⟨t,rfl⟩:=e1; obtain ⟨t',rfl⟩:=e2; have q:=Nu.str_str (A:=A) (s:=s) a t b t'; rw [nS (i:=inferInstance)] at q; simpa using q
theorem in1_units (A:Around):A.in1.units=A.units+1:=rfl
theorem uG:decide (D.tup ds=D.tup es)=decide (ds=es):=by simp
theorem jX:decide (D.lst ds=D.lst es)=decide (ds=es):=by simp
theorem nT (I:Inv X aa σ H s) {A:Around} (h:∀ (i:Nat) (d e:D),ds[i]?=some d->es[i]?=some e->lJ n d e)
 (ih:∀ (d e:D) (v v':V) (u u':Value) (A:Around),lJ n d e->Rep X.K Hf d v->Rep X.K Hf e v'->RelV v u->RelV v' u'->A.units+n<cLine->Nu A s u u' (decide (d=e)))
 (q1:av X.K Hf ds xs) (q2:av X.K Hf es ys) (r1:Vals xs us) (r2:Vals ys ws) (hu:A.in1.units+n<cLine) :
 ∀ j (h1:j<us.toArray.size) (h2:j<ws.toArray.size),Nu A.in1 s us.toArray[j] ws.toArray[j] (decide (ds[j]?=es[j]?)):=λj h1 h2=>by
 have l1:=q1.length
 have l2:=q2.length
 have m1:=r1.length
 have m2:=r2.length
 simp only [Nq] at h1 h2
 have hd:ds[j]?=some ds[j]:=Nr (by lia)
 have he:es[j]?=some es[j]:=Nr (by lia)
 obtain ⟨x,ex,rx⟩:=q1.get hd
 obtain ⟨y,ey,ry⟩:=q2.get he
 obtain ⟨u,eu,ru⟩:=r1.get ex
 obtain ⟨u',eu',ru'⟩:=r2.get ey
 have z1:us.toArray[j]=u:=by
  have:=Nr h1
  rw [this] at eu
  simpa using eu
 have z2:ws.toArray[j]=u':=by
  have:=Nr h2
  rw [this] at eu'
  simpa using eu'
 rw [z1,z2,hd,he]
 have q:=ih _ _ x y u u' A.in1 (h j _ _ hd he) rx ry ru ru' hu
 simpa using q
theorem wB (I:Inv X aa σ H s) (sb:aN Hf H):∀ (n:Nat) (d e:D) (v v':V) (u u':Value) (A:Around),lJ n d e->Rep X.K Hf d v->Rep X.K Hf e v'->RelV v u->RelV v' u'->A.units+n<cLine->Nu A s u u' (decide (d=e)):=by
 have non:∀ (n:Nat) (d e:D) (v v':V) (u u':Value) (A:Around),A.units<cLine->Rep X.K Hf d v->Rep X.K Hf e v'->RelV v u->RelV v' u' ->
  ((∃ ds,d=.lst ds/\e=.non)\/(∃ ds,d=.non/\e=.lst ds)\/(∃ ds,d=.tup ds/\e=.non)\/(∃ ds,d=.non/\e=.tup ds))->Nu A s u u' (decide (d=e)):=by
  intro n d e v v' u u' A hu r1 r2 e1 e2 h
  rcases h with ⟨ds,rfl,rfl⟩ | ⟨ds,rfl,rfl⟩ | ⟨ds,rfl,rfl⟩ | ⟨ds,rfl,rfl⟩
  ·rw [bX] at r2; subst r2; rw [br] at r1; obtain ⟨a,xs,rfl,p,_⟩:=r1; cases e1; cases e2
   obtain ⟨its,_,q,_⟩:=I.list (sb.seq p)
   simpa using Nu.list_none (A:=A) q.isList hu
  ·rw [bX] at r1; subst r1; rw [br] at r2; obtain ⟨a,xs,rfl,p,_⟩:=r2; cases e1; cases e2
   obtain ⟨its,_,q,_⟩:=I.list (sb.seq p)
   simpa using Nu.none_list (A:=A) q.isList hu
  ·rw [bX] at r2; subst r2; rw [aL] at r1; obtain ⟨a,xs,rfl,p,_⟩:=r1; cases e1; cases e2
   obtain ⟨its,_,q,_⟩:=I.tuple (az sb p)
   simpa using Nu.tuple_none (A:=A) (show s.heap.IsTuple a its.toArray from q) hu
  ·rw [bX] at r1; subst r1; rw [aL] at r2; obtain ⟨a,xs,rfl,p,_⟩:=r2; cases e1; cases e2
   obtain ⟨its,_,q,_⟩:=I.tuple (az sb p)
   simpa using Nu.none_tuple (A:=A) (show s.heap.IsTuple a its.toArray from q) hu
 intro n
 induction n with
 | zero =>
  intro d e v v' u u' A h r1 r2 e1 e2 hu
  cases h with
  | sc h=>exact uF h r1 r2 e1 e2
  | ln=>exact non 0 _ _ _ _ _ _ A (by lia) r1 r2 e1 e2 (.inl ⟨_,rfl,rfl⟩)
  | nl=>exact non 0 _ _ _ _ _ _ A (by lia) r1 r2 e1 e2 (.inr (.inl ⟨_,rfl,rfl⟩))
  | tn=>exact non 0 _ _ _ _ _ _ A (by lia) r1 r2 e1 e2 (.inr (.inr (.inl ⟨_,rfl,rfl⟩)))
  | nt=>exact non 0 _ _ _ _ _ _ A (by lia) r1 r2 e1 e2 (.inr (.inr (.inr ⟨_,rfl,rfl⟩)))
 | succ n ih =>
  intro d e v v' u u' A h r1 r2 e1 e2 hu
  cases h with
  | sc h=>exact uF h r1 r2 e1 e2
  | ln=>exact non 0 _ _ _ _ _ _ A (by lia) r1 r2 e1 e2 (.inl ⟨_,rfl,rfl⟩)
  | nl=>exact non 0 _ _ _ _ _ _ A (by lia) r1 r2 e1 e2 (.inr (.inl ⟨_,rfl,rfl⟩))
  | tn=>exact non 0 _ _ _ _ _ _ A (by lia) r1 r2 e1 e2 (.inr (.inr (.inl ⟨_,rfl,rfl⟩)))
  | nt=>exact non 0 _ _ _ _ _ _ A (by lia) r1 r2 e1 e2 (.inr (.inr (.inr ⟨_,rfl,rfl⟩)))
  | @tup _ ds es h =>
   have hh:=lJ.tup h
   have r1':=r1; have r2':=r2
   rw [aL] at r1 r2
   obtain ⟨a,xs,rfl,p1,q1⟩:=r1
   obtain ⟨b,ys,rfl,p2,q2⟩:=r2
   cases e1; cases e2
   by_cases hab:a=b
   ·subst hab
    have:=nR I sb _ _ _ _ hh r1' r2'
    rw [this]
    simpa using Nu.same _
   ·obtain ⟨us,v1,t1,_⟩:=I.tuple (az sb p1)
    obtain ⟨ws,v2,t2,_⟩:=I.tuple (az sb p2)
    have key:=PF.tuples (A:=A) (s:=s) (show s.heap.IsTuple a us.toArray from t1) (show s.heap.IsTuple b ws.toArray from t2) (by lia) (nT I h ih q1 q2 v1 v2 (by rw [in1_units]; lia))
    have hl1:us.toArray.size=ds.length:=by simp [<- v1.length,q1.length]
    have hl2:ws.toArray.size=es.length:=by simp [<- v2.length,q2.length]
    have e:((NP (min us.toArray.size ws.toArray.size)).all (λj=>decide (ds[j]?=es[j]?)) && us.toArray.size == ws.toArray.size)=decide (D.tup ds=D.tup es):=by
     rw [uG,hl1,hl2]
     by_cases hl:ds.length=es.length
     ·rw [hl,Nat.min_self]
      simp only [beq_self_eq_true,Bool.and_true]
      exact all_range hl rfl rfl
     ·have:¬ ds=es:=λz=>hl (by rw [z])
      simp [hl,this]
    rw [e] at key
    exact .of_refs hab key
  | @lst _ ds es h =>
   have hh:=lJ.lst h
   have r1':=r1; have r2':=r2
   rw [br] at r1 r2
   obtain ⟨a,xs,rfl,p1,q1⟩:=r1
   obtain ⟨b,ys,rfl,p2,q2⟩:=r2
   cases e1; cases e2
   by_cases hab:a=b
   ·subst hab
    have:=nR I sb _ _ _ _ hh r1' r2'
    rw [this]
    simpa using Nu.same _
   ·obtain ⟨us,v1,t1,_⟩:=I.list (sb.seq p1)
    obtain ⟨ws,v2,t2,_⟩:=I.list (sb.seq p2)
    have hl1:us.toArray.size=ds.length:=by simp [<- v1.length,q1.length]
    have hl2:ws.toArray.size=es.length:=by simp [<- v2.length,q2.length]
    by_cases hl:ds.length=es.length
    ·have key:=PF.lists (A:=A) (s:=s) t1.isList t2.isList (by rw [hl1,hl2,hl]) (by lia) (nT I h ih q1 q2 v1 v2 (by rw [in1_units]; lia))
     rw [hl1,all_range rfl hl.symm rfl,<- jX] at key
     exact .of_refs hab key
    ·have key:=PF.lists_lengths (A:=A) (s:=s) t1.isList t2.isList (by rw [hl1,hl2]; simpa using hl) (by lia)
     have e:decide (D.lst ds=D.lst es)=false:=by
      rw [jX]; exact decide_eq_false λz=>hl (by rw [z])
     rw [e]
     exact .of_refs hab key
theorem p5 (I:Inv X aa σ H s) (sb:aN Hf H) (hu:A.units+50<cLine) (hk:(d=.tup ds/\e=.tup es)\/(d=.lst ds/\e=.lst es)) (h:pX ds es)
 (r1:Rep X.K Hf d v) (r2:Rep X.K Hf e v') (e1:RelV v u) (e2:RelV v' u'):PF A s u u' (decide (d=e))/\RE A s u u' (!decide (d=e)):=by
 have ih:=wB I sb 40
 rcases hk with ⟨rfl,rfl⟩ | ⟨rfl,rfl⟩
 ·rw [aL] at r1 r2
  obtain ⟨a,xs,rfl,p1,q1⟩:=r1
  obtain ⟨b,ys,rfl,p2,q2⟩:=r2
  cases e1; cases e2
  obtain ⟨us,v1,t1,_⟩:=I.tuple (az sb p1)
  obtain ⟨ws,v2,t2,_⟩:=I.tuple (az sb p2)
  have els:=nT (A:=A) I h ih q1 q2 v1 v2 (by rw [in1_units]; lia)
  have key:=PF.tuples (A:=A) (s:=s) (show s.heap.IsTuple a us.toArray from t1) (show s.heap.IsTuple b ws.toArray from t2) (by lia) els
  have key2:=RE.tuples (A:=A) (s:=s) (show s.heap.IsTuple a us.toArray from t1) (show s.heap.IsTuple b ws.toArray from t2) (by lia) els
  have hl1:us.toArray.size=ds.length:=by simp [<- v1.length,q1.length]
  have hl2:ws.toArray.size=es.length:=by simp [<- v2.length,q2.length]
  have e:((NP (min us.toArray.size ws.toArray.size)).all (λj=>decide (ds[j]?=es[j]?)) && us.toArray.size == ws.toArray.size)=decide (D.tup ds=D.tup es):=by
   rw [uG,hl1,hl2]
   by_cases hl:ds.length=es.length
   ·rw [hl,Nat.min_self]
    simp only [beq_self_eq_true,Bool.and_true]
    exact all_range hl rfl rfl
   ·have:¬ ds=es:=λz=>hl (by rw [z])
    simp [hl,this]
  rw [e] at key key2
  exact ⟨key,key2⟩
 ·rw [br] at r1 r2
  obtain ⟨a,xs,rfl,p1,q1⟩:=r1
  obtain ⟨b,ys,rfl,p2,q2⟩:=r2
  cases e1; cases e2
  obtain ⟨us,v1,t1,_⟩:=I.list (sb.seq p1)
  obtain ⟨ws,v2,t2,_⟩:=I.list (sb.seq p2)
  have hl1:us.toArray.size=ds.length:=by simp [<- v1.length,q1.length]
  have hl2:ws.toArray.size=es.length:=by simp [<- v2.length,q2.length]
  by_cases hl:ds.length=es.length
  ·have els:=nT (A:=A) I h ih q1 q2 v1 v2 (by rw [in1_units]; lia)
   have key:=PF.lists (A:=A) (s:=s) t1.isList t2.isList (by rw [hl1,hl2,hl]) (by lia) els
   have key2:=RE.lists (A:=A) (s:=s) t1.isList t2.isList (by rw [hl1,hl2,hl]) (by lia) els
   rw [hl1,all_range rfl hl.symm rfl,<- jX] at key key2
   exact ⟨key,key2⟩
  ·have key:=PF.lists_lengths (A:=A) (s:=s) t1.isList t2.isList (by rw [hl1,hl2]; simpa using hl) (by lia)
   have key2:=RE.lists_lengths (A:=A) (s:=s) t1.isList t2.isList (by rw [hl1,hl2]; simpa using hl) (by lia)
   have e:decide (D.lst ds=D.lst es)=false:=by
    rw [jX]; exact decide_eq_false λz=>hl (by rw [z])
   rw [e]
   exact ⟨key,key2⟩
end
section
variable {K:M0} {c:Ctx P w K mg base k N sc bk}
noncomputable def CA (K:M0) (neg:Bool):R2:=λv u H Q=>∃ x y Hf,aN Hf H/\Rep K Hf x v/\Rep K Hf y u/\Jo x y/\Q (.bl (if neg then !decide (x=y) else decide (x=y))) H
theorem yW:fH c.X (compareOp .Eq) (CA c.X.K false):=λaa s σ H v u v' u' Q I rv ru ⟨x,y,Hf,sb,rx,ry,ok,q⟩=>by
 rcases ok with h | ⟨ds,es,hk,hi⟩
 ·obtain ⟨z1,z2⟩:=uB h rx ry
  exact IW aa s σ H v u v' u' Q I rv ru ⟨z1,by rw [z2]; exact q⟩
 ·exact (p5 I sb (by have:=c.room.un; lia) hk hi rx ry rv ru).1 _ _ _ _ ⟨.bl (decide (x=y)),H,I,rfl,q⟩
theorem Gp:fH c.X (compareOp .NotEq) (CA c.X.K true):=λaa s σ H v u v' u' Q I rv ru ⟨x,y,Hf,sb,rx,ry,ok,q⟩=>by
 rcases ok with h | ⟨ds,es,hk,hi⟩
 ·obtain ⟨z1,z2⟩:=uB h rx ry
  exact IX aa s σ H v u v' u' Q I rv ru ⟨z1,by rw [z2]; exact q⟩
 ·exact (p5 I sb (by have:=c.room.un; lia) hk hi rx ry rv ru).2 _ _ _ _ ⟨.bl (!decide (x=y)),H,I,rfl,q⟩
theorem yX:yO K (CA K false) λx y R=>yL x y R:=λx y v u H Hf Q R s rx ry ⟨h1,h2⟩ q=>⟨x,y,Hf,s,rx,ry,h1,q _ h2⟩
theorem Gq:yO K (CA K true) λx y R=>yL x y λb=>R (!b):=λx y v u H Hf Q R s rx ry ⟨h1,h2⟩ q=>⟨x,y,Hf,s,rx,ry,h1,q _ h2⟩
theorem LM (h:aI c a ρ λx=>aI c b ρ λy=>yL x y T):lI c (.Compare a [.Eq] [b] pos) ρ T:=pY yW yX h (jf b)
theorem LN (h:aI c a ρ λx=>aI c b ρ λy=>yL x y λb=>T (!b)):lI c (.Compare a [.NotEq] [b] pos) ρ T:=pY Gp Gq h (jf b)
theorem LO (h:aI c a ρ λx=>aI c b ρ λy=>yL x y λb=>R (.bl b)):aI c (.Compare a [.Eq] [b] pos) ρ R:=Ju yW yX h (jf b)
end
section
variable {P:Program} {w:World} {K:M0} {mg:Str->Option Value} {base:Heap} {k:Nat} {N:List Str} {sc:Scope} {bk:Bool} {c:Ctx P w K mg base k N sc bk} {ρ:List Sl} {pos:Pos} {a b e:Expr} {es:List Expr} {R:D->Prop} {T:Bool->Prop}
noncomputable def D.row:D->Option (List D)
 | .lst ds=>some ds
 | .tup ds=>some ds
 | _=>none
theorem iK (e:d.row=some ds) (h:Rep K H d v):∃ p xs,v=.ref p/\av K H ds xs/\((d=.lst ds/\gF K H p xs)\/(d=.tup ds/\dh K H p xs)):=by
 cases d with
 | lst _=>cases e; rw [br] at h; obtain ⟨p,xs,rfl,h1,h2⟩:=h; exact ⟨p,xs,rfl,h2,.inl ⟨rfl,h1⟩⟩
 | tup _=>cases e; rw [aL] at h; obtain ⟨p,xs,rfl,h1,h2⟩:=h; exact ⟨p,xs,rfl,h2,.inr ⟨rfl,h1⟩⟩
 | _=>cases e
def ID (x y:D) (R:D->Prop):Prop:=∃ ds i d,x.row=some ds/\y=.int i/\ki ds i=some d/\R d
theorem yY (h:ki ds i=some d) (hR:R d):ID (.lst ds) (.int i) R:=⟨ds,i,d,rfl,rfl,h,hR⟩
theorem mH (h:ki ds i=some d) (hR:R d):ID (.tup ds) (.int i) R:=⟨ds,i,d,rfl,rfl,h,hR⟩
theorem yZ (h:av K H ds xs) (e:ki ds i=some d):∃ x,ki xs i=some x/\Rep K H d x:=by
 unfold ki at e |-
 rw [<- h.length]
 obtain ⟨j,e1,e2⟩:=Option.bind_eq_some_iff.mp e
 obtain ⟨x,e3,rx⟩:=h.get e2
 exact ⟨x,by rw [e1]; exact e3,rx⟩
theorem JB (h:aI c a ρ λx=>aI c b ρ λy=>ID x y R) (hs:jW b:=by intro _ _; walk_at "u"):aI c (.Subscript a b pos) ρ R:=λσ H Hf Q S q =>
 bZ (Je (ED.or Cd F0) dI dI hs) (h σ H Hf _ S λx v H1 aU h1 r1 g1=>h1 σ H1 aU _ (S.cH g1) λy u H2 c6 ⟨ds,i,d,e1,e2,e3,hR⟩ r2 g2=>by
  subst e2
  rw [aA] at r2; subst r2
  obtain ⟨p,xs,rfl,hr,hk⟩:=iK e1 (Rep.mono g2.f x r1)
  obtain ⟨z,ez,rz⟩:=yZ hr e3
  have fin:=q d z H2 c6 hR rz (g1.trans g2)
  rcases hk with ⟨_,hk⟩ | ⟨_,hk⟩
  ·exact .inl ⟨p,xs,i,z,rfl,rfl,g2.b.seq hk,ez,fin⟩
  ·exact .inr ⟨p,xs,i,z,rfl,rfl,az g2.b hk,ez,fin⟩)
theorem uH (sb:aN Hf H) {d:D} (h:(d=.lst ds/\gF K Hf p xs)\/(d=.tup ds/\dh K Hf p xs)):gF K H p xs\/dh K H p xs:=h.elim (λz=>.inl (sb.seq z.2)) λz=>.inr (az sb z.2)
theorem y9:yV K (λxs H Q=>∃ p ys,xs=[.ref p]/\(gF K H p ys\/dh K H p ys)/\Q (.int ys.length) H) (λds R=>∃ x,ds=[x]/\∃ ys,x.row=some ys/\R (.int ys.length)):=by
 rintro ds vs H Hf Q R s rs ⟨x,rfl,ys,e,hR⟩ q
 obtain ⟨v,rfl,rv⟩:=pZ rs
 obtain ⟨p,xs,rfl,hr,hk⟩:=iK e rv
 exact ⟨p,xs,rfl,uH s hk,q _ _ H Hf hR (by rw [hr.length]; exact aA.mpr rfl) (.refl s)⟩
theorem e_len (hm:mg "len"=none) (h:aI c e ρ λx=>∃ ys,x.row=some ys/\R (.int ys.length)) (hg:sc.names.lookup (MY "len")=some .globalImplicit:=by walk_at "u")
 (he:∀ env,starEach [e] env=(false,eval e env)::starEach [] env:=by intro _; walk_at "u"):aI c (.Call (.Name "len" p) [e] [] pos) ρ R :=
 uE nK y9 hm PySem.boot_len (bQ (h.imp λd hd=>kC ⟨d,rfl,hd⟩) he) hg (by decide) (by decide) he (by intro _; walk_at "u")
theorem za {R:Sl->Prop} (hm:mg "list"=none) (h:aI c e ρ λx=>∃ ys,x.row=some ys/\R (.ow ys)) (hg:sc.names.lookup (MY "list")=some .globalImplicit:=by walk_at "u")
 (he:∀ env,starEach [e] env=(false,eval e env)::starEach [] env:=by intro _; walk_at "u"):dJ c (.Call (.Name "list" p) [e] [] pos) ρ R :=
 Jz nL (q:=λds R=>∃ x ys,ds=[x]/\x.row=some ys/\R (.ow ys)) (λds vs H Hf Q R s rs ⟨x,ys,e1,e2,hR⟩ q=>by
  subst e1
  obtain ⟨v,rfl,rv⟩:=pZ rs
  obtain ⟨p,xs,rfl,hr,hk⟩:=iK e2 rv
  exact ⟨p,xs,rfl,uH s hk,λl hl=>by
   have g2:=bw.f7 s hl (o:=.lst xs)
   exact q _ _ _ _ hR ⟨l,xs,rfl,hl,ai,s.free hl,hr⟩ g2⟩) hm PyProof.Rows.boot_list (bQ (h.imp λd ⟨ys,h1,h2⟩=>kC ⟨d,ys,rfl,h1,h2⟩) he) hg (by decide) (by decide) he (by intro _; walk_at "u")
theorem nU (hm:mg "tuple"=none) (h:aI c e ρ λx=>∃ ys,x.row=some ys/\R (.tup ys)) (hg:sc.names.lookup (MY "tuple")=some .globalImplicit:=by walk_at "u")
 (he:∀ env,starEach [e] env=(false,eval e env)::starEach [] env:=by intro _; walk_at "u"):aI c (.Call (.Name "tuple" p) [e] [] pos) ρ R :=
 JA lP (q:=λds R=>∃ x ys,ds=[x]/\x.row=some ys/\R (.tup ys)) (λds vs H Hf Q R s rs ⟨x,ys,e1,e2,hR⟩ q=>by
  subst e1
  obtain ⟨v,rfl,rv⟩:=pZ rs
  obtain ⟨p,xs,rfl,hr,hk⟩:=iK e2 rv
  rcases hk with ⟨_,hk⟩ | ⟨_,hk⟩
  ·exact ⟨p,xs,rfl,.inl ⟨s.seq hk,λl hl=>by
    have g2:=bw.new s hl (o:=.tup xs)
    exact q _ _ _ _ hR (aL.mpr ⟨l,xs,rfl,.inl (.inl ai),hr.mono g2.f⟩) g2⟩⟩
  ·exact ⟨p,xs,rfl,.inr ⟨az s hk,q _ _ H Hf hR (aL.mpr ⟨p,xs,rfl,hk,hr⟩) (.refl s)⟩⟩) hm PyProof.Rows.boot_tuple (bQ (h.imp λd ⟨ys,h1,h2⟩=>kC ⟨d,ys,rfl,h1,h2⟩) he) hg (by decide) (by decide) he (by intro _; walk_at "u")
noncomputable def EL (K:M0):R2:=λx y H Q=>∃ l b xs zs,x=.ref l/\y=.ref b/\gF K H l xs/\gF K H b zs/\xs.length+zs.length<=sizeLine/\∀ p,H p=none->Q (.ref p) (upd H p (.lst (xs++zs)))
theorem CB:fH X (binaryOp .Add) (EL X.K):=by
 intro aa s σ H x y v u Q I rx ry h
 obtain ⟨l,b,xs,zs,rfl,rfl,hH,hB,hz,q⟩:=h
 cases rx
 cases ry
 obtain ⟨its,r,hl,z⟩:=I.list hH
 obtain ⟨its2,r2,hl2,z2⟩:=I.list hB
 have e1:=r.length
 have e2:=r2.length
 obtain ⟨⟨cls,dd,data,sl⟩,n,p1,p2,p3,p4⟩:=hl
 obtain ⟨⟨cls2,dd2,data2,sl2⟩,n',q1,q2,q3,q4⟩:=hl2
 simp only at p2 p3 p4 q2 q3 q4
 subst p2 p3 p4 q2 q3 q4
 have ea:its.toArray++its2.toArray=(its++its2).toArray:=by simp
 refine RD ⟨_,p1,rfl⟩ ⟨_,q1,rfl⟩ noFill_list_add seq_list_add PySem.F.slot_list_add PySem.F.entry_list_add (PySem.F.args_list_add_2 _ _) (list_addW l b its.toArray its2.toArray n n' none none sl sl2 (by simp; lia)) ⟨p1,q1,?_⟩
 rw [ea]
 exact ⟨.ref _,_,I.Cf (t':=s.toks) (r.append r2) (by rw [NJ]; lia),rfl,q _ I.fresh⟩
noncomputable def zb (K:M0):R2:=λx y H Q=>∃ a b xs ys,x=.ref a/\y=.ref b/\dh K H a xs/\dh K H b ys/\xs.length+ys.length<=sizeLine /\
 (xs=[]->Q (.ref b) H)/\(ys=[]->Q (.ref a) H)/\∀ p,H p=none->Q (.ref p) (upd H p (.tup (xs++ys)))
theorem zc:fH X (binaryOp .Add) (zb X.K):=by
 intro aa s σ H x y v u Q I rx ry h
 obtain ⟨t,b,xs,ys,rfl,rfl,hH,hB,hz,c1,c2,q⟩:=h
 cases rx
 cases ry
 obtain ⟨vs,r,ht,z⟩:=I.tuple hH
 obtain ⟨ws,r2,hb,z2⟩:=I.tuple hB
 obtain ⟨⟨cls,dd,data,sl⟩,ho,hc,n,hd⟩:=id ht
 obtain ⟨⟨cls2,dd2,data2,sl2⟩,ho2,hc2,n2,hd2⟩:=id hb
 simp only at hc hd hc2 hd2
 subst hc hd hc2 hd2
 have e:vs.toArray++ws.toArray=(vs++ws).toArray:=by simp
 have e1:=r.length
 have e2:=r2.length
 by_cases hv:vs=[]
 ·exact RD ⟨_,ho,rfl⟩ ⟨_,ho2,rfl⟩ SG seq_tuple_add R5 R1 (RY _ _)
   (tuple_addW0 t b vs.toArray ws.toArray n n2 dd dd2 sl sl2 (by simp [hv])) ⟨ho,ho2,⟨.ref b,H,I,rfl,c1 (by rw [Vals.uo r] at hv; exact hv)⟩⟩
 ·by_cases hw:ws=[]
  ·exact RD ⟨_,ho,rfl⟩ ⟨_,ho2,rfl⟩ SG seq_tuple_add R5 R1 (RY _ _)
    (tuple_addW1 t b vs.toArray ws.toArray n n2 dd dd2 sl sl2 (by simpa using hv) (by simp [hw])) ⟨ho,ho2,⟨.ref t,H,I,rfl,c2 (by rw [Vals.uo r2] at hw; exact hw)⟩⟩
  ·refine RD ⟨_,ho,rfl⟩ ⟨_,ho2,rfl⟩ SG seq_tuple_add R5 R1 (RY _ _)
    (tuple_addW2 t b vs.toArray ws.toArray n n2 dd dd2 sl sl2 (by simpa using hv) (by simpa using hw) (by rw [Nq,Nq]; lia)) ⟨ho,ho2,?_⟩
   rw [e]
   refine ⟨.ref s.heap.objs.size,_,I.laid (t':=s.toks) (o:=.tup (xs++ys)) (λb ob q=>M9 _ q) (M4 _) ?_,rfl,q _ (I.hok.fresh (M4 _))⟩
   exact ⟨by rw [NJ]; exact hz,_,r.append r2,IsTup.new _ _⟩
inductive kD:D->D->(Sl->Prop)->Prop where
 | int {i j:Int} {R:Sl->Prop} (h:R (.va (.int (i+j)))):kD (.int i) (.int j) R
 | lst {ds es:List D} {R:Sl->Prop} (h:Sd (ds.length+es.length<=sizeLine) (R (.ow (ds++es)))):kD (.lst ds) (.lst es) R
 | tup {ds es:List D} {R:Sl->Prop} (h:Sd (ds.length+es.length<=sizeLine) (R (.va (.tup (ds++es))))):kD (.tup ds) (.tup es) R
 | str {x y:Str} {R:Sl->Prop} (h:Sd (x.length+y.length<=sizeLine) (R (.va (.str (x++y))))):kD (.str x) (.str y) R
theorem jI (h:av K H ds []):ds=[]:=by
 have:=h.length; cases ds with
 | nil=>rfl
 | cons _ _=>simp at this
theorem CC:KQ K (λx y H Q=>(((ud λi j=>V.int (i+j)) x y H Q\/EL K x y H Q)\/zb K x y H Q)\/∃ i j,x=.str i/\y=.str j/\i.length+j.length<=sizeLine/\Q (.str (i++j)) H) kD:=by
 rintro x y v u H Hf Q R s rx ry h q
 cases h with
 | @int i j _ h =>
  rw [aA] at rx ry
  exact .inl (.inl (.inl ⟨i,j,rx,ry,q (.va (.int (i+j))) _ H Hf h (show Rep K Hf (.int (i+j)) _ from aA.mpr rfl) (.refl s)⟩))
 | @lst ds es _ h =>
  rw [br] at rx ry
  obtain ⟨a,xs,rfl,h1,h2⟩:=rx
  obtain ⟨b,ys,rfl,h3,h4⟩:=ry
  refine .inl (.inl (.inr ⟨a,b,xs,ys,rfl,rfl,s.seq h1,s.seq h3,by rw [<- h2.length,<- h4.length]; exact h.s,λp hp=>?_⟩))
  exact q (.ow (ds++es)) _ _ _ h.r ⟨p,xs++ys,rfl,hp,ai,s.free hp,h2.append h4⟩ (bw.f7 s hp)
 | @tup ds es _ h =>
  rw [aL] at rx ry
  obtain ⟨a,xs,rfl,h1,h2⟩:=rx
  obtain ⟨b,ys,rfl,h3,h4⟩:=ry
  refine .inl (.inr ⟨a,b,xs,ys,rfl,rfl,az s h1,az s h3,by rw [<- h2.length,<- h4.length]; exact h.s,λe=>?_,λe=>?_,λp hp=>?_⟩)
  ·subst e
   have:=jI h2
   subst this
   exact q (.va (.tup ([]++es))) _ H Hf h.r (show Rep K Hf (.tup ([]++es)) _ from aL.mpr ⟨b,ys,rfl,h3,h4⟩) (.refl s)
  ·subst e
   have:=jI h4
   subst this
   exact q (.va (.tup (ds++[]))) _ H Hf h.r (show Rep K Hf (.tup (ds++[])) _ from aL.mpr ⟨a,xs,rfl,h1,by rw [N7]; exact h2⟩) (.refl s)
  ·have g:=bw.new s hp (o:=.tup (xs++ys))
   exact q (.va (.tup (ds++es))) _ _ _ h.r (show Rep K _ (.tup (ds++es)) _ from aL.mpr ⟨p,xs++ys,rfl,.inl (.inl ai),(h2.append h4).mono g.f⟩) g
 | @str x y _ h =>
  rw [gG] at rx ry
  exact .inr ⟨x,y,rx,ry,h.s,q (.va (.str (x++y))) _ H Hf h.r (show Rep K Hf (.str (x++y)) _ from gG.mpr rfl) (.refl s)⟩
theorem zd {R:Sl->Prop} (h:aI c a ρ λx=>aI c b ρ λy=>kD x y R):dJ c (.BinOp a .Add b pos) ρ R :=
 nO (fH.or (fH.or (fH.or FG CB) zc) r9) CC h
noncomputable def cutD {α:Type} (xs:List α) (lo hi:Option Int):List α:=(xs.drop (HT.ck xs.length 0 lo)).take (HT.ck xs.length xs.length hi - HT.ck xs.length 0 lo)
theorem p6 (h:av K H ds xs) (lo hi):av K H (cutD ds lo hi) (nI xs lo hi):=by
 unfold cutD nI
 rw [h.length]
 exact (h.drop _).take _
noncomputable def bP (X:Cx) (e:Option Expr):TO:=λσ H Q=>∀ aa s,Inv X aa σ H s->wpAny (model X.prog X.w) X.A (evalPart e X.env) (λu s'=>∃ o H',Inv X aa σ H' s'/\IsPart u o/\Q o H') X.xe s
theorem JC {X:Cx} {e:Option Expr}:PO X e (bP X e):=λaa s σ H Q I h=>h aa s I
def BK (c:Ctx P w K mg base k N sc bk) (e:Option Expr) (ρ:List Sl) (R:Option Int->Prop):Prop :=
 ∀ (σ:L2.St) (H Hf:Hp) (Q:Option Int->Hp->Prop),bu c σ H Hf ρ->(∀ o H' ak,R o->bw H Hf H' ak->Q o H')->bP c.X e σ H Q
theorem Gr {R:Option Int->Prop} (h:R none):BK c none ρ R:=λσ H Hf Q S q aa s I=>Ca aa s σ H Q I (q none H Hf h (.refl S.sb))
theorem Gs {R:Option Int->Prop} (h:aI c e ρ (I1 λi=>R (some i))):BK c (some e) ρ R:=λσ H Hf Q S q aa s I =>
 Cb dI aa s σ H Q I (h σ H Hf _ S λd v H' ak ⟨i,e,hR⟩ r g=>by subst e; rw [aA] at r; exact ⟨i,r,q _ H' ak hR g⟩)
noncomputable def JD (K:M0):V->Option Int->Option Int->Hp->VK->Prop:=λx lo hi H Q=>∃ a xs,x=.ref a/\dh K H a xs /\
 (HT.ck xs.length 0 lo=0/\HT.ck xs.length xs.length hi=xs.length)/\Q (.ref a) H
theorem gS {lo hi:Option Int} (ht:IsTup s.heap t items) (hs:s.heap.IsSliceOf sl vl vu .none) (pl:IsPart vl lo) (pu:IsPart vu hi)
 (hw:HT.ck items.size 0 lo=0/\HT.ck items.size items.size hi=items.size) (h:Q (.ref t) s):wpAny (model prog w) A (getItem (.ref t) (.ref sl)) Q E s:=by
 obtain ⟨os,hos,hcs,hds⟩:=id hs
 have hTs:s.TypeIs (.ref sl) "slice":=⟨os,hos,hcs⟩
 unfold getItem
 try with_reducible refine Oi ?_
 first | refine MZ (M3 ?_) | skip
 refine MZ (Ss ht.typeIs (by decide) ?_)
 refine MZ (OZ (name:=MY "__getitem__") ht.typeIs PJ
  (OA PJ ht.typeIs entry_tuple_getitem ?_ (args_tuple_getitem _ _)))
 show wpAny _ _ (Builtin.Tuple.tupleItemsOf (.ref t) >>= _) _ _ s
 refine MZ (tupleItemsOf_ ht ?_)
 refine MZ (O7 hTs ?_)
 rw [if_pos (by decide)]
 refine MZ (HT.fu hs pl pu ?_)
 have hyes:((((HT.ck items.size 0 lo:Nat):Int) == 0 && (1:Int) == 1 && (HT.ck items.size items.size hi - HT.ck items.size 0 lo) == items.size)=true):=by
  rw [hw.1,hw.2]; simp
 show wpAny _ _ (if (((HT.ck items.size 0 lo:Nat):Int) == 0 && (1:Int) == 1 && (HT.ck items.size items.size hi - HT.ck items.size 0 lo) == items.size)=true then _ else _) _ _ s
 rw [if_pos hyes]
 obtain ⟨⟨cls,dd,data,sl'⟩,ho,hc,n,hd⟩:=id ht
 simp only at hc hd
 subst hc hd
 unfold Builtin.Tuple.tupleIsExact
 wp_walk using QU ho
 exact ⟨_,rfl,M3 h⟩
theorem ze:BJ X (JD X.K):=by
 intro aa s σ H x v vl vu lo hi sl Q I rx hs pl pu h
 obtain ⟨a,xs,rfl,hx,hw,q⟩:=h
 cases rx
 obtain ⟨its,r,ht,hz⟩:=I.tuple hx
 have hlen:its.toArray.size=xs.length:=by rw [Nq]; exact r.length.symm
 refine ⟨"tuple",_,PJ.lookup,ht.typeIs,?_⟩
 exact gS ht hs pl pu (by rw [hlen]; exact hw) ⟨.ref a,H,I,rfl,q⟩
inductive EM:D->Option Int->Option Int->(Sl->Prop)->Prop where
 | lst {ds:List D} {lo hi:Option Int} {R:Sl->Prop} (h:R (.ow (cutD ds lo hi))):EM (.lst ds) lo hi R
 | tup {ds:List D} {lo hi:Option Int} {R:Sl->Prop} (h:R (.va (.tup (cutD ds lo hi)))):EM (.tup ds) lo hi R
theorem wC {lo hi:Option Int} (h:HT.ck xs.length 0 lo=0/\HT.ck xs.length xs.length hi=xs.length):cutD xs lo hi=xs:=by
 unfold cutD; rw [h.1,h.2]; simp
theorem uI {lo hi:Option Expr} {R:Sl->Prop} (h:aI c e ρ λx=>BK c lo ρ λl=>BK c hi ρ λu=>EM x l u R):dJ c (.Subscript e (.Slice lo hi none p2) pos) ρ R:=λσ H Hf Q S q =>
 bZ (yt (BJ.or (BJ.or Ce FZ) ze) dI JC JC) (h σ H Hf _ S λx v H1 aU h1 r1 g1=>h1 σ H1 aU _ (S.cH g1) λl H2 c6 h2 g2=>h2 σ H2 c6 _ (S.cH (g1.trans g2)) λu H3 Hf3 h3 g3=>by
  have r3:=Rep.mono g3.f x (Rep.mono g2.f x r1)
  have g:=(g1.trans g2).trans g3
  cases h3 with
  | lst h =>
   rw [br] at r3
   obtain ⟨a,xs,rfl,k1,k2⟩:=r3
   refine .inl (.inl ⟨a,xs,rfl,g3.b.seq k1,λp hp=>?_⟩)
   exact q _ _ _ _ h ⟨p,_,rfl,g.s.free hp,ai,g3.b.free hp,p6 k2 l u⟩ (g.trans (bw.f7 g3.b hp))
  | tup h =>
   rw [aL] at r3
   obtain ⟨a,xs,rfl,k1,k2⟩:=r3
   by_cases hw:HT.ck xs.length 0 l=0/\HT.ck xs.length xs.length u=xs.length
   ·refine .inr ⟨a,xs,rfl,az g3.b k1,hw,?_⟩
    refine q _ _ _ _ h (show Rep c.X.K Hf3 _ _ from aL.mpr ⟨a,xs,rfl,k1,?_⟩) g
    rw [wC (by rw [k2.length]; exact hw)]; exact k2
   ·refine .inl (.inr ⟨a,xs,rfl,az g3.b k1,hw,λp hp=>?_⟩)
    have g4:=bw.new g3.b hp (o:=.tup (nI xs l u))
    exact q _ _ _ _ h (show Rep c.X.K _ _ _ from aL.mpr ⟨p,_,rfl,.inl (.inl ai),(p6 k2 l u).mono g4.f⟩) (g.trans g4))
theorem zf (a:bw H₀ fj H1 aU) (b:bw H₀ aU H Hf):bw H₀ fj H Hf :=
 ⟨b.s,a.f.trans b.f,b.b,λc h1 h2 h3=>b.n c (a.n c h1 h2 h3) h2 h3⟩
theorem fh.re (a:bw H₀ fj H1 aU) (S:fh K H₀ aU σ H Hf ρ):fh K H₀ fj σ H Hf ρ:=⟨zf a S.bas,S.len,S.at_,S.sep⟩
theorem fh.anew (S:fh K H₀ fj σ H Hf ρ):fh K H₀ Hf σ H Hf ρ:=⟨⟨S.bas.s,.refl _,S.bas.b,λ_ h _ _=>h⟩,S.len,S.at_,S.sep⟩
noncomputable def Ctx.at_ (c:Ctx P w K mg base k N sc bk) {H1 aU:Hp} (a:bw c.B c.Hf H1 aU):Ctx P w K mg base k N sc bk :=
 { X:=c.X,eP:=c.eP,ew:=c.ew,eK:=c.eK,emg:=c.emg,eb:=c.eb,eN:=c.eN,esc:=c.esc,calm:=c.calm,top:=c.top,cb:=c.cb,fn:=c.fn,room:=c.room,nd:=c.nd,vis:=c.vis,B:=c.B,Hf:=aU,RX:=c.RX,RM:=c.RM,
   exc:=λC x aa σ H ak ρ s H' s' I S h X sm=>c.exc C x aa σ H ak ρ s H' s' I (S.re a) h X sm,mde:=λC x aa σ H ak ρ s h' us I S h hx=>c.mde C x aa σ H ak ρ s h' us I (S.re a) h hx }
theorem yJ.at_ {nx:List Sl->Prop} {p:Pt} {D:Ends} {H1 aU:Hp} (a:bw c.B c.Hf H1 aU) (o:yJ c nx p D):yJ (c.at_ a) nx p D :=
 ⟨λσ H Hf ρ S q=>o.nx σ H Hf ρ (fh.re a S) q,λr v H Hf g rv q=>o.rt r v H Hf (zf a g) rv q,λσ H Hf ρ S q=>o.bk σ H Hf ρ (fh.re a S) q,λσ H Hf ρ S q=>o.ct σ H Hf ρ (fh.re a S) q⟩
noncomputable def bI (X:Cx) (tg iter:Expr):TI:=λσ H R=>∀ aa s,Inv X aa σ H s->wpAny (model X.prog X.w) X.A (eval iter X.env) (λv s1=>wpAny (model X.prog X.w) X.A (pyIter v) (Li X aa σ tg R) X.xe s1) X.xe s
theorem MW {X:Cx} {tg iter:Expr}:PI X tg iter (bI X tg iter):=λaa s σ H R I h=>h aa s I
structure ji (K:M0) (J:It) (ds:List D) (fj:Hp):Prop where
 go:∀ i d H Hf,aN fj Hf->aN Hf H->ds[i]?=some d->J.go i H/\∀ x H',J.yld i H x H'->∃ ak,bw H Hf H' ak/\Rep K ak d x
 stop:∀ i H Hf,aN fj Hf->aN Hf H->ds.length<=i->J.stop i H
def CD (c:Ctx P w K mg base k N sc bk) (tg iter:Expr) (ρ:List Sl) (R:List D->Prop):Prop :=
 ∀ (σ:L2.St) (H Hf:Hp) (Q:It->Hp->Prop),bu c σ H Hf ρ->(∀ ds J H' ak,R ds->bw H Hf H' ak->ji c.X.K J ds ak->Q J H')->bI c.X tg iter σ H Q
theorem wD {K:M0} {ds:List D} {xs:List V} {p:Addr} {fj:Hp} (h:gF K fj p xs) (r:av K fj ds xs):ji K (Lj K p) ds fj where
 go:=λi d H Hf s1 s2 e=>by
  obtain ⟨x,ex,rx⟩:=r.get e
  refine ⟨⟨xs,x,(s1.trans s2).seq h,ex⟩,λy H' ⟨e1,e2⟩=>?_⟩
  subst e1
  have:=e2 xs ((s1.trans s2).seq h)
  rw [ex] at this; cases this
  exact ⟨Hf,.refl s2,Rep.mono s1 d rx⟩
 stop:=λi H Hf s1 s2 e=>⟨xs,(s1.trans s2).seq h,by rw [<- r.length]; exact e⟩
theorem zg {K:M0} {ds:List D} {xs:List V} {p:Addr} {fj:Hp} (h:dh K fj p xs) (r:av K fj ds xs):ji K (Lk K p) ds fj where
 go:=λi d H Hf s1 s2 e=>by
  obtain ⟨x,ex,rx⟩:=r.get e
  refine ⟨⟨xs,x,az (s1.trans s2) h,ex⟩,λy H' ⟨e1,e2⟩=>?_⟩
  subst e1
  have:=e2 xs (az (s1.trans s2) h)
  rw [ex] at this; cases this
  exact ⟨Hf,.refl s2,Rep.mono s1 d rx⟩
 stop:=λi H Hf s1 s2 e=>⟨xs,az (s1.trans s2) h,by rw [<- r.length]; exact e⟩
noncomputable def LP (K:M0) (tl:TE):TI:=λσ H R=>tl σ H λx H1=>∃ a,x=.ref a/\(((∃ xs,gF K H1 a xs)/\R (Lj K a) H1)\/((∃ xs,dh K H1 a xs)/\R (Lk K a) H1))
theorem Gu (hl:PE X l tl):PI X tg l (LP X.K tl):=by
 intro aa s σ H R I h
 refine bJ (hl aa s σ H _ I h) λv s1 ⟨x,H1,I1,r1,q1⟩=>?_
 obtain ⟨a,e,h⟩:=q1
 subst e
 cases r1
 rcases h with ⟨⟨xs,hq⟩,q⟩ | ⟨⟨xs,hq⟩,q⟩
 ·obtain ⟨its,rv,p,hz⟩:=I1.list hq
  refine Sv p.isList ?_
  refine ⟨s1.heap.objs.size,[s1.heap.objs.size],_,_,H1,rfl,I1.kept (t':=s1.toks) λb o e=>M9 _ e,wc a _,⟨_,Nl _ rfl,rfl,rfl⟩,λb hb=>?_,q⟩
  have e:b=s1.heap.objs.size:=by simpa using hb
  subst e
  exact I1.lN (M4 _) (I1.hok.fresh (M4 _))
 ·obtain ⟨its,rv,p,hz⟩:=I1.tuple hq
  refine Sj (show s1.heap.IsTuple a its.toArray from p) ?_
  refine ⟨s1.heap.objs.size,[s1.heap.objs.size],_,_,H1,rfl,I1.kept (t':=s1.toks) λb o e=>M9 _ e,rY a _,⟨_,Nl _ rfl,rfl,rfl⟩,λb hb=>?_,q⟩
  have e:b=s1.heap.objs.size:=by simpa using hb
  subst e
  exact I1.lN (M4 _) (I1.hok.fresh (M4 _))
theorem cE {R:List D->Prop} (h:aI c e ρ λd=>∃ ds,d.row=some ds/\R ds):CD c tg e ρ R:=λσ H Hf Q S q aa s I =>
 Gu dI aa s σ H Q I (h σ H Hf _ S λd v H' ak ⟨ds,er,hR⟩ r g=>by
  obtain ⟨p,xs,rfl,hr,hk⟩:=iK er r
  refine ⟨p,rfl,?_⟩
  rcases hk with ⟨_,hk⟩ | ⟨_,hk⟩
  ·exact .inl ⟨⟨xs,g.b.seq hk⟩,q ds _ H' ak hR g (wD hk hr)⟩
  ·exact .inr ⟨⟨xs,az g.b hk⟩,q ds _ H' ak hR g (zg hk hr)⟩)
noncomputable def p7 (lo:Int) (n:Nat):List D:=(NP n).map λ(i:Nat)=>D.int (lo+(i:Int))
theorem zh {K:M0} {lo:Int} {n:Nat} {fj:Hp}:ji K (KO lo n) (p7 lo n) fj where
 go:=λi d H Hf s1 s2 e=>by
  unfold p7 at e
  rw [Nd] at e
  obtain ⟨j,e1,e2⟩:=Nk.mp e
  have hi:i<n:=by
   have:=(Nf.mp e1).1
   simpa using this
  have:j=i:=by
   rw [P1 hi] at e1; cases e1; rfl
  subst this
  refine ⟨hi,λx H' ⟨e3,e4⟩=>?_⟩
  subst e3 e4 e2
  exact ⟨Hf,.refl s2,aA.mpr rfl⟩
 stop:=λi H Hf s1 s2 e=>by
  show n<=i
  simpa [p7] using e
def zj (i:Int):Prop:= -(2 ^ 62)<=i/\i<2 ^ 62
theorem gc {R:List D->Prop} (hm:mg "range"=none) (h:aI c e ρ (I1 λj=>Sd (zj j) (R (p7 0 j.toNat)))) (hg:sc.names.lookup (MY "range")=some .globalImplicit:=by walk_at "u")
 (hs:∀ env,starEach [e] env=(false,eval e env)::starEach [] env:=by intro _; walk_at "u"):CD c tg (.Call (.Name "range" p) [e] [] pos) ρ R:=λσ H Hf Q S q aa s I =>
 we (by unfold Gl NY; rw [c.esc]; exact hg) (by rw [c.emg]; exact hm) (cj dI eZ (hs _)) (hs _) aa s σ H Q I (h σ H Hf _ S λd v H' ak ⟨j,ed,⟨hj,hR⟩⟩ r g=>by
  subst ed; rw [aA] at r; subst r
  exact ⟨j,rfl,hj.1,hj.2,q _ _ H' ak hR g zh⟩)
theorem d7 {tg iter:Expr} {body:List Stmt} {nx:List Sl->Prop} {p:Pt} (hq:c.X.xe=λ_ _=>False)
 (h:CD c tg iter ρ λds=>∃ I:Nat->List Sl->Prop,I 0 ρ /\
   (∀ c':Ctx P w K mg base k N sc bk,c'.X=c.X->c'.RX=c.RX->c'.RM=c.RM->∀ i d ρ',ds[i]?=some d->I i ρ'->mF c' tg d ρ' λρ''=>aH c' body ρ'' (I (i+1)) { rt:=p.rt,bk:=nx,ct:=I (i+1) })/\∀ ρ',I ds.length ρ'->nx ρ')
 (hs:∀ env x,foldedSetIterable iter env x=pure x:=by intro _ _; walk_at "u"):fK c (.For tg iter body [] pos) ρ nx p:=λσ H Hf D S o =>
 dZ (FD (by rw [hq]; exact PassesOwn.never) c.calm MW MB sA (hs _)) (h σ H Hf _ S λds J H1 aU ⟨I,h0,hb,he⟩ g io=>by
  have S1:=S.cH g
  have gb:bw c.B c.Hf H1 aU:=S1.bas
  refine ⟨λi m σ H=>m=ds.length - i/\i<=ds.length/\∃ Hf ρ',bu (c.at_ gb) σ H Hf ρ'/\I i ρ',⟨_,rfl,ND _,aU,ρ,S1.anew,h0⟩,?_⟩
  rintro i m σ H ⟨rfl,hi,Hf,ρ',S',hI⟩
  by_cases hlt:i<ds.length
  ·have ed:ds[i]?=some ds[i]:=Nr hlt
   obtain ⟨hgo,hy⟩:=io.go i _ H Hf S'.bas.f S'.bas.b ed
   refine .inr ⟨hgo,λσ' H'=>∃ ak ρ'',bu (c.at_ gb) σ' H' ak ρ''/\I (i+1) ρ'',λσ' H' ⟨ak,ρ'',S'',hI'⟩=>⟨_,by omega,rfl,hlt,ak,ρ'',S'',hI'⟩,λx H' hx=>?_⟩
   obtain ⟨ak,g',rx⟩:=hy x H' hx
   refine hb (c.at_ gb) rfl rfl rfl i _ ρ' ed hI σ H' ak x _ (S'.cH g') rx λσ2 H2 c6 ρ2 S2 _ hbody=>?_
   exact hbody σ2 H2 c6 _ S2 ⟨λσ H Hf ρ S q=>⟨Hf,ρ,S,q⟩,(o.at_ gb).rt,λσ H Hf ρ S q=>(o.at_ gb).nx σ H Hf ρ S q,λσ H Hf ρ S q=>⟨Hf,ρ,S,q⟩⟩
  ·have e:i=ds.length:=by omega
   subst e
   exact .inl ⟨io.stop _ H Hf S'.bas.f S'.bas.b (M4 _),(o.at_ gb).nx σ H Hf ρ' S' (he ρ' hI)⟩)
end
section
variable {K:M0}
end
section
variable {K:M0}
theorem gh (h:R d):Gf R (.va d):=⟨d,rfl,h⟩
theorem aG (h:R (.lst ds)):Gf R (.ow ds):=⟨.lst ds,rfl,h⟩
theorem Gv (h:aI c a ρ λx=>aI c b ρ λy=>kD x y (Gf R)):aI c (.BinOp a .Add b pos) ρ R:=e_x (zd h)
theorem pW.imp {R R':List D->Prop} (h:pW c es ρ R) (hi:∀ d,R d->R' d):pW c es ρ R':=λσ H Hf Q S q=>h σ H Hf Q S λd v H' ak rd=>q d v H' ak (hi d rd)
theorem Gw (h:pW c es ρ λds=>Sd (ds.length<=sizeLine) (R (.lst ds))):aI c (.List es pos) ρ R:=e_x (EI (h.imp λds hd=>⟨hd.s,aG hd.r⟩))
theorem p8 {lo hi:Option Expr} (h:aI c e ρ λx=>BK c lo ρ λl=>BK c hi ρ λu=>EM x l u (Gf R)):aI c (.Subscript e (.Slice lo hi none p2) pos) ρ R:=e_x (uI h)
theorem zk {R:Sl->Prop} (h:R (.va (.int (i+j)))):kD (.int i) (.int j) R:=.int h
theorem zm {ds es:List D} {R:Sl->Prop} (h:Sd (ds.length+es.length<=sizeLine) (R (.ow (ds++es)))):kD (.lst ds) (.lst es) R:=.lst h
theorem zp {ds es:List D} {R:Sl->Prop} (h:Sd (ds.length+es.length<=sizeLine) (R (.va (.tup (ds++es))))):kD (.tup ds) (.tup es) R:=.tup h
theorem mJ (h:aI c a ρ λx=>aI c b ρ λy=>ID x y R) (hs:jW b:=by with_unfolding_all exact λ_ _=>rfl):aI c (.Subscript a b pos) ρ R:=JB h hs
theorem zq {x:D} {Q:List D->Prop} (e:x.row=some ds) (h:Q ds):∃ ys,x.row=some ys/\Q ys:=⟨ds,e,h⟩
theorem aj {F:Fn} {R:Sl->Prop} (h:F ds (.ok sl)) (r:R sl):∃ r,F ds r/\Gm c ρ R r:=⟨_,h,r⟩
end
section
variable {K:M0}
end
noncomputable def del (H:Hp) (p:Addr):Hp:=λb=>if b=p then none else H b
theorem iL:del H p p=none:=if_pos rfl
theorem cz (h:b≠p):del H p b=H b:=if_neg h
theorem zu (h:H₀ p=none) (s:aN H₀ H):aN H₀ (del H p):=λb o e=>by
 rw [cz (aE e h)]; exact s b o e
theorem iM (h:del H p b=some o):b≠p/\H b=some o:=by
 by_cases e:b=p
 ·subst e; rw [iL] at h; cases h
 ·rw [cz e] at h; exact ⟨e,h⟩
theorem gH (sb:aN Hf H) (hp:Hf p=none):bw (del H p) Hf (upd H p o) Hf :=
 ⟨λb u e=>by obtain ⟨h1,h2⟩:=iM e; rw [aq h1]; exact h2,.refl _,λb u e=>by rw [aq (aE e hp)]; exact sb b u e,λ_ h _ _=>h⟩
section
variable {K:M0}
theorem bh.EN (ho:r.owned=true) (h:bh K fr H Hf r v):∃ p o,v=.ref p/\fr p/\H p=some o/\Hf p=none/\¬ yF H p:=by
 have nf:∀ {p:Addr} {u:HO},H p=some u->(∀ φ,u≠.ext φ)->¬ yF H p:=λe k ⟨z,e2⟩=>by rw [e] at e2; exact k _ (OG e2)
 cases r with
 | un=>cases ho
 | va d=>cases ho
 | fo s=>cases ho
 | ow ds=>obtain ⟨p,xs,rfl,f,h1,h2,_⟩:=h; exact ⟨p,_,rfl,f,h1,h2,nf h1 (by intro _ z; cases z)⟩
 | oT ds=>obtain ⟨p,xs,rfl,f,h1,h2,_⟩:=h; exact ⟨p,_,rfl,f,h1,h2,nf h1 (by intro _ z; cases z)⟩
 | oK ds=>obtain ⟨p,xs,rfl,f,h1,h2,_⟩:=h; exact ⟨p,_,rfl,f,h1,h2,nf h1 (by intro _ z; cases z)⟩
 | aw a ds=>obtain ⟨p,xs,rfl,f,h1,h2,_⟩:=h; exact ⟨p,_,rfl,f.1,h1,h2,nf h1 (by intro _ z; cases z)⟩
 | aT a ds=>obtain ⟨p,xs,rfl,f,h1,h2,_⟩:=h; exact ⟨p,_,rfl,f.1,h1,h2,nf h1 (by intro _ z; cases z)⟩
 | aK a ds=>obtain ⟨p,xs,rfl,f,h1,h2,_⟩:=h; exact ⟨p,_,rfl,f.1,h1,h2,nf h1 (by intro _ z; cases z)⟩
theorem bh.p9 (ho:r.owned=true) (h:bh K fr H Hf r v):∃ p o,v=.ref p/\fr p/\H p=some o/\Hf p=none :=
 let ⟨p,o,a,b,c,d,_⟩:=h.EN ho; ⟨p,o,a,b,c,d⟩
theorem bh.JE (nf:¬ yF H p) (hv:r.owned=true->v≠.ref p) (h:bh K fr H Hf r v):bh K fr (del H p) Hf r v :=
 bh.mv (B:=λq=>q=p) (.refl _) (λq o hq e1 _ e3=>⟨by rw [cz hq]; exact e1,e3⟩) (λ_ q e=>by subst e; exact nf) (λho q z e=>by subst e; exact hv ho z) h
theorem fh.own (S:fh K H₀ fj σ H Hf ρ) {i:Nat} (hi:ρ[i]?=some r) (ho:r.owned=true):∃ p,σ[i]?=some (some (.ref p))/\bh K (λp=>H₀ p=none) H Hf r (.ref p):=by
 obtain ⟨v,e,q⟩:=S.at_ i r hi (by rintro rfl; cases ho)
 obtain ⟨p,o,rfl,_⟩:=q.p9 ho
 exact ⟨p,e,q⟩
theorem fh.upd (S:fh K H₀ fj σ H Hf ρ) (hi:ρ[i]?=some r) (ho:r.owned=true) (hp:σ[i]?=some (some (.ref p))) (g:bw (del H p) Hf H1 aU)
 (hr:bh K (λq=>q=p) H1 aU r' (.ref p)) (ho':r'.owned=true):fh K H₀ fj σ H1 aU (ρ.set i r'):=by
 obtain ⟨p',ep,q⟩:=S.own hi ho
 rw [hp] at ep; cases ep
 obtain ⟨_,o,e,fp,hHp,hfp,nfz⟩:=q.EN ho
 cases e
 have hlt:i<ρ.length:=(Nf.mp hi).1
 refine ⟨⟨(zu fp S.bas.s).trans g.s,S.bas.f.trans g.f,g.b,λb h1 h2 h3=>?_⟩,by simp [S.len],λj r1 hj hu=>?_,λj j' r1 r2 q' hne h1 h2 o1 o2=>?_⟩
 ·have hb:b≠p:=λz=>by subst z; exact h2 fp
  cases z:H₀ b with
  | none=>exact absurd z h2
  | some o1 =>
   have e1:=S.bas.s b o1 z
   refine g.n b (S.bas.n b h1 h2 h3) (by rw [cz hb,e1]; simp) λxs=>?_
   rw [cz hb,e1,<- z]; exact h3 xs
 ·by_cases e:j=i
  ·subst e
   rw [Om hlt] at hj; cases hj
   exact ⟨_,hp,hr.weak λq' z=>by subst z; exact fp⟩
  ·rw [Oq (Nv e)] at hj
   obtain ⟨v,e1,e2⟩:=S.at_ j r1 hj hu
   exact ⟨v,e1,(e2.JE (p:=p) nfz λow z=>by subst z; exact S.sep i j _ _ p (Nv e) hi hj ho ow hp e1).cH g⟩
 ·have out:∀ {j:Nat} {r1:Sl},(ρ.set i r')[j]?=some r1->r1.owned=true->∃ r2,ρ[j]?=some r2/\r2.owned=true:=λ{j r1} hj how=>by
   by_cases e:j=i
   ·subst e; exact ⟨r,hi,ho⟩
   ·rw [Oq (Nv e)] at hj; exact ⟨r1,hj,how⟩
  obtain ⟨r3,a1,a2⟩:=out h1 o1
  obtain ⟨r4,b1,b2⟩:=out h2 o2
  exact S.sep j j' r3 r4 q' hne a1 b1 a2 b2
end
section
variable {K:M0} {c:Ctx P w K mg base k N sc bk}
theorem Ctx.nV (c:Ctx P w K mg base k N sc bk) (hN:At N i x) (hd:(x == ("__debug__":Str))=false) (hcd:(x == ("__classdict__":Str))=false):PE c.X (.Name x px) (IJ i) :=
 rX (X:=c.X) (i:=i) (by rw [c.eN]; exact hN.get) (by rw [c.esc]; rcases c.vis x hN.mem with h | h; exact .inl h; exact .inr (.inl h)) hd hcd
noncomputable def Sl.getL:Sl->Option (List D) | .ow ds=>some ds | .aw _ ds=>some ds | _=>none
noncomputable def Sl.putL:Sl->List D->Sl | .ow _,es=>.ow es | .aw a _,es=>.aw a es | s,_=>s
theorem di {r:Sl} (h:r.getL=some ds):r.owned=true:=by cases r <;> first | rfl | cases h
theorem gZ {r:Sl} {ds es:List D} (h:r.getL=some ds):(r.putL es).owned=true:=by cases r <;> first | rfl | cases h
theorem Gx {p:Addr} (h:r.getL=some ds) (q:bh K fr H Hf r (.ref p)):∃ xs,H p=some (.lst xs)/\Hf p=none/\av K Hf ds xs:=by
 cases r with
 | ow es=>cases h; obtain ⟨_,xs,e,_,h1,h2,h3⟩:=q; cases e; exact ⟨xs,h1,h2,h3⟩
 | aw a es=>cases h; obtain ⟨_,xs,e,_,h1,h2,h3⟩:=q; cases e; exact ⟨xs,h1,h2,h3⟩
 | _=>cases h
theorem kE {ds es:List D} {p:Addr} (h:r.getL=some ds) (q:bh K fr H Hf r (.ref p)) (h1:H1 p=some (.lst ys)) (h2:aU p=none) (h3:av K aU es ys) :
 bh K (λq=>q=p) H1 aU (r.putL es) (.ref p):=by
 cases r with
 | ow _=>exact ⟨p,ys,rfl,rfl,h1,h2,h3⟩
 | aw a _=>obtain ⟨_,xs,e,f,_⟩:=q; cases e; exact ⟨p,ys,rfl,⟨rfl,f.2⟩,h1,h2,h3⟩
 | _=>cases h
theorem zw (hN:At N i x) (hi:At ρ i r) (hr:r.getL=some ds) (h:aI c e ρ λd=>Sd (ds.length<sizeLine) (Nx ρ i nx (r.putL (ds++[d]))))
 (hs:∀ env,swapsWith (.Call (.Attribute (.Name x px) "append" ap) [e] [] cp) none pos.line env=pure false:=by intro _; walk_at "u") (hd:(x == ("__debug__":Str))=false:=by decide) (hcd:(x == ("__classdict__":Str))=false:=by decide)
 (hbase:∀ env,attributeBase (.Name x px) "append" env (eval (.Name x px) env)=eval (.Name x px) env:=by intro _; walk_at "u")
 (hfew:∀ env,((backTo cp (starEach [e] env)).all (λx=> !x.1) && (backToKw cp (keywordEach [] env)).all (λx=>x.1.isSome)
   && decide (([e]:List Expr).length+([]:List Keyword).length+(if ([]:List Keyword).isEmpty then 0 else 1)<30))=true:=by intro _; walk_at "u")
 (hline:(ap.endLine == cp.line)=true:=by walk_at "u") (he:∀ env,starEach [e] env=(false,eval e env)::starEach [] env:=by intro _; walk_at "u") (hpl:∀ env,(backTo cp (starEach [] env)).any (·.1)=false:=by intro _; walk_at "u") :
 fK c (.Expr (.Call (.Attribute (.Name x px) "append" ap) [e] [] cp) pos) ρ nx p:=λσ H Hf D S o=>by
 obtain ⟨q,eq,rq⟩:=S.own hi.get (di hr)
 obtain ⟨xs,h1,h2,h3⟩:=Gx hr rq
 refine dZ (nE (EE PySem.F.plainAttrs_list PySem.F.slot_list_append PySem.F.type_list_append mq (c.nV hN hd hcd) (cj dI eZ (he _)) (hbase _) (hfew _) hline (he _) (hpl _)) (hs _)) ⟨_,eq,.inl ⟨rfl,xs,.inl (.inl h1)⟩,?_⟩
 refine h σ H Hf _ S λd v H' ak ⟨hz,ρ',hs',hn⟩ rd g=>?_
 have S':=S.cH g
 have e1:H' q=some (.lst xs):=g.s _ _ h1
 have e2:ak q=none:=g.n q h2 (by rw [h1]; simp) (by intro ys; rw [h1]; simp)
 refine ⟨q,xs,v,rfl,rfl,e1,by rw [<- h3.length]; exact hz,?_⟩
 refine o.nx _ _ ak ρ' ?_ hn
 rw [hs'.eq]
 have rq':=rq.cH g
 exact S'.upd hi.get (di hr) eq (gH g.b e2) (kE hr rq' ai e2 ((h3.mono g.f).append (.one rd))) (gZ hr)
end
section
variable {κ β:Type} [DecidableEq κ]
noncomputable def bx (kvs:List (κ×β)) (k:κ):Option β:=(kvs.find? λkv=>decide (kv.1=k)).map (·.2)
noncomputable def putD (kvs:List (κ×β)) (k:κ) (v:β):List (κ×β) :=
 if (bx kvs k).isSome=true then kvs.map (λkv=>if kv.1=k then (kv.1,v) else kv) else kvs++[(k,v)]
theorem bf {q:κ×β} {r:List (κ×β)} {k:κ} (e:q.1=k):bx (q::r) k=some q.2:=by simp [bx,OB,e]
theorem aV {q:κ×β} {r:List (κ×β)} {k:κ} (e:¬ q.1=k):bx (q::r) k=bx r k:=by simp [bx,OB,e]
end
noncomputable def D.wF:D->Option Key | .int i=>some (.inl i) | .str x=>some (.inr x) | _=>none
noncomputable def D.keys:List D->Option (List Key)
 | []=>some []
 | d::r=>match d.wF,D.keys r with | some k,some ks=>some (k::ks) | _,_=>none
theorem iN {K:M0} (h:d.wF=some k) (r:Rep K H d v):v=kV k:=by
 cases d with
 | int i=>cases h; exact aA.mp r
 | str x=>cases h; exact gG.mp r
 | _=>cases h
theorem gI {K:M0}:∀ {ds:List D} {ks:List Key} {xs:List V},D.keys ds=some ks->av K H ds xs->xs=ks.map kV
 | [],ks,xs,h,r=>by cases h; rw [aC.mp r]; rfl
 | d::ds,ks,xs,h,r=>by
  obtain ⟨x,t,rfl,r1,r2⟩:=aF.mp r
  unfold D.keys at h
  cases e1:d.wF with
  | none=>rw [e1] at h; cases h
  | some k =>
   cases e2:D.keys ds with
   | none=>rw [e1,e2] at h; cases h
   | some ks' =>
    rw [e1,e2] at h; cases h
    rw [iN e1 r1,gI e2 r2]; rfl
noncomputable def Sl.EO:Sl->Bool | .oK _=>true | .aK _ _=>true | .oT _=>true | .aT _ _=>true | _=>false
theorem qa {r:Sl} (h:r.EO=true):r.owned=true:=by cases r <;> first | rfl | cases h
noncomputable def Sl.sD:Sl->Option (List (Key×D)) | .oK kvs=>some kvs | .aK _ kvs=>some kvs | _=>none
noncomputable def Sl.qb:Sl->List (Key×D)->Sl | .oK _,es=>.oK es | .aK a _,es=>.aK a es | s,_=>s
noncomputable def Sl.wG:Sl->Option (List (List Key×D)) | .oT kvs=>some kvs | .aT _ kvs=>some kvs | _=>none
noncomputable def Sl.zz:Sl->List (List Key×D)->Sl | .oT _,es=>.oT es | .aT a _,es=>.aT a es | s,_=>s
theorem kF {r:Sl} (h:r.sD=some kvs):r.owned=true:=by cases r <;> first | rfl | cases h
theorem kG {r:Sl} (h:r.sD=some kvs):(r.qb es).owned=true:=by cases r <;> first | rfl | cases h
theorem sE {r:Sl} (h:r.wG=some kvs):(r.zz es).owned=true:=by cases r <;> first | rfl | cases h
section
variable {K:M0} {fr:Addr->Prop} {H Hf H1 aU:Hp} {r:Sl} {p:Addr}
theorem wH (h:r.sD=some kvs) (q:bh K fr H Hf r (.ref p)):∃ xs,H p=some (.dK xs)/\Hf p=none/\lH K Hf kvs xs:=by
 cases r with
 | oK es=>cases h; obtain ⟨_,xs,e,_,h1,h2,h3⟩:=q; cases e; exact ⟨xs,h1,h2,h3⟩
 | aK a es=>cases h; obtain ⟨_,xs,e,_,h1,h2,h3⟩:=q; cases e; exact ⟨xs,h1,h2,h3⟩
 | _=>cases h
theorem CF (h:r.wG=some kvs) (q:bh K fr H Hf r (.ref p)):∃ xs,H p=some (.dT xs)/\Hf p=none/\kB K Hf kvs xs:=by
 cases r with
 | oT es=>cases h; obtain ⟨_,xs,e,_,h1,h2,h3⟩:=q; cases e; exact ⟨xs,h1,h2,h3⟩
 | aT a es=>cases h; obtain ⟨_,xs,e,_,h1,h2,h3⟩:=q; cases e; exact ⟨xs,h1,h2,h3⟩
 | _=>cases h
theorem qe (h:r.sD=some kvs) (q:bh K fr H Hf r (.ref p)) (h1:H1 p=some (.dK ys)) (h2:aU p=none) (h3:lH K aU es ys):bh K (λq=>q=p) H1 aU (r.qb es) (.ref p):=by
 cases r with
 | oK _=>exact ⟨p,ys,rfl,rfl,h1,h2,h3⟩
 | aK a _=>obtain ⟨_,xs,e,f,_⟩:=q; cases e; exact ⟨p,ys,rfl,⟨rfl,f.2⟩,h1,h2,h3⟩
 | _=>cases h
theorem zA (h:r.wG=some kvs) (q:bh K fr H Hf r (.ref p)) (h1:H1 p=some (.dT ys)) (h2:aU p=none) (h3:kB K aU es ys):bh K (λq=>q=p) H1 aU (r.zz es) (.ref p):=by
 cases r with
 | oT _=>exact ⟨p,ys,rfl,rfl,h1,h2,h3⟩
 | aT a _=>obtain ⟨_,xs,e,f,_⟩:=q; cases e; exact ⟨p,ys,rfl,⟨rfl,f.2⟩,h1,h2,h3⟩
 | _=>cases h
noncomputable def zB (K:M0) (Hf:Hp):Option D->Option V->Prop
 | none,none=>True
 | some d,some v=>Rep K Hf d v
 | _,_=>False
theorem lH.val (h:lH K Hf kvs xs) (k:Key):zB K Hf (bx kvs k) (kj xs k):=by
 unfold lH at h
 induction h with
 | nil=>exact Qh
 | @cons a b as bs h t ih =>
  by_cases e:a.1=k
  ·rw [bf e,ko (h.1.symm.trans e)]; exact h.2
  ·rw [aV e,kq (λz=>e (h.1.trans z))]; exact ih
theorem zB.isSome (h:zB K Hf o u):o.isSome=u.isSome:=by
 cases o <;> cases u <;> first | rfl | exact h.elim
theorem lH.put (h:lH K Hf kvs xs) (k:Key) (rd:Rep K Hf d v):lH K Hf (putD kvs k d) (putK xs k v):=by
 have e:=(h.val k).isSome
 unfold putD putK
 rw [e,pM]
 by_cases q:(kj xs k).isSome=true
 ·rw [if_pos q,if_pos q]
  unfold lH at h |-
  clear e q
  induction h with
  | nil=>exact .nil
  | @cons a b as bs h t ih =>
   rw [M7,M7]
   refine .cons ?_ ih
   by_cases e:a.1=k
   ·rw [if_pos e,if_pos (h.1.symm.trans e)]; exact ⟨h.1,rd⟩
   ·rw [if_neg e,if_neg (λz=>e (h.1.trans z))]; exact h
 ·rw [if_neg q,if_neg q]; exact RO h ⟨rfl,rd⟩
theorem kB.val (h:kB K Hf kvs xs) (k):zB K Hf (bx kvs k) (atT xs k):=by
 unfold kB at h
 induction h with
 | nil=>exact Qh
 | @cons a b as bs h t ih =>
  by_cases e:a.1=k
  ·have z:L2.atT (b::bs) k=some b.2.2:=by simp [L2.atT,OB,h.1.symm.trans e]
   rw [bf e,z]; exact h.2.2
  ·have z:L2.atT (b::bs) k=L2.atT bs k:=by
    have:¬ b.1=k:=λz=>e (h.1.trans z)
    simp [L2.atT,OB,this]
   rw [aV e,z]; exact ih
theorem kB.put (h:kB K Hf kvs xs) (k) (hb:dh K Hf b (k.map kV)) (rd:Rep K Hf d v):kB K Hf (putD kvs k d) (pP xs k b v):=by
 have e:=(h.val k).isSome
 unfold putD pP
 rw [e]
 by_cases q:(atT xs k).isSome=true
 ·rw [if_pos q,if_pos q]
  unfold kB at h |-
  clear e q
  induction h with
  | nil=>exact .nil
  | @cons a b' as bs h t ih =>
   rw [M7,M7]
   refine .cons ?_ ih
   unfold nM
   by_cases e:a.1=k
   ·rw [if_pos e,if_pos (h.1.symm.trans e)]; exact ⟨h.1,h.2.1,rd⟩
   ·rw [if_neg e,if_neg (λz=>e (h.1.trans z))]; exact h
 ·rw [if_neg q,if_neg q]; exact RO h ⟨rfl,hb,rd⟩
theorem kB.zC (h:kB K Hf kvs xs):∀ x∈xs,dh K Hf x.2.1 (x.1.map kV):=by
 unfold kB at h
 induction h with
 | nil=>intro x hx; cases hx
 | @cons a b as bs h t ih =>
  intro x hx
  rcases Nm.mp hx with e | hx
  ·subst e; rw [<- h.1]; exact h.2.1
  ·exact ih x hx
inductive ER:Sl->D->Option D->Prop
 | k {r:Sl} {kvs:List (Key×D)} {d:D} {k:Key} (h:r.sD=some kvs) (hk:d.wF=some k):ER r d (bx kvs k)
 | t {r:Sl} {kvs:List (List Key×D)} {ds:List D} {k:List Key} (h:r.wG=some kvs) (hk:D.keys ds=some k):ER r (.tup ds) (bx kvs k)
inductive CG:Sl->D->D->Sl->Prop
 | k {r:Sl} {kvs:List (Key×D)} {d e:D} {k:Key} (h:r.sD=some kvs) (hk:d.wF=some k) (hz:kvs.length<sizeLine):CG r d e (r.qb (putD kvs k e))
 | t {r:Sl} {kvs:List (List Key×D)} {ds:List D} {e:D} {k:List Key} (h:r.wG=some kvs) (hk:D.keys ds=some k) (hz:kvs.length<sizeLine):CG r (.tup ds) e (r.zz (putD kvs k e))
theorem CG.owned' (h:CG r d e r'):r'.owned=true:=by cases h with | k h _ _=>exact kG h | t h _ _=>exact sE h
theorem ER.get (h:ER r d o) (q:bh K fr H Hf r (.ref p)) (rv:Rep K Hf d v) (sb:aN Hf H):∃ u,nN K H p v u/\zB K Hf o u:=by
 cases h with
 | k h hk =>
  obtain ⟨xs,h1,_,h3⟩:=wH h q
  rw [iN hk rv]
  exact ⟨_,.inl ⟨xs,_,.inl h1,rfl,rfl⟩,h3.val _⟩
 | t h hk =>
  obtain ⟨xs,h1,_,h3⟩:=CF h q
  obtain ⟨a,ys,rfl,h4,h5⟩:=aL.mp rv
  have:=gI hk h5
  subst this
  exact ⟨_,.inr ⟨xs,_,a,.inl h1,λx hx=>az sb (h3.zC x hx),rfl,az sb h4,rfl⟩,h3.val _⟩
theorem lH.length (h:lH K Hf kvs xs):kvs.length=xs.length:=Oj h
theorem kB.length (h:kB K Hf kvs xs):kvs.length=xs.length:=Oj h
theorem CG.put (h:CG r d e r') (q:bh K fr H Hf r (.ref p)) (rv:Rep K Hf d v) (ry:Rep K Hf e y) (sb:aN Hf H) :
 ∃ o,Ci K H p v y (upd H p o)/\bh K (λq=>q=p) (upd H p o) Hf r' (.ref p):=by
 cases h with
 | k h hk hz =>
  obtain ⟨xs,h1,h2,h3⟩:=wH h q
  rw [iN hk rv]
  exact ⟨_,.inl ⟨xs,_,h1,rfl,by rw [<- h3.length]; exact hz,rfl⟩,qe h q ai h2 (h3.put _ ry)⟩
 | t h hk hz =>
  obtain ⟨xs,h1,h2,h3⟩:=CF h q
  obtain ⟨a,ys,rfl,h4,h5⟩:=aL.mp rv
  have:=gI hk h5
  subst this
  exact ⟨_,.inr ⟨xs,_,a,h1,λx hx=>az sb (h3.zC x hx),rfl,az sb h4,by rw [<- h3.length]; exact hz,rfl⟩,zA h q ai h2 (h3.put _ h4 ry)⟩
end
section
variable {K:M0} {c:Ctx P w K mg base k N sc bk}
theorem Ctx.hu (c:Ctx P w K mg base k N sc bk):c.X.A.units+1<cLine:=Jj c.room
theorem uJ {R:Sl->Prop} (h:R (.oK [])):dJ c (.Dict [] [] pos) ρ R:=λσ H Hf Q S q =>
 bZ yz λp hp=>q (.oK []) (.ref p) _ Hf h ⟨p,[],rfl,hp,ai,S.sb.free hp,.nil⟩ (bw.f7 S.sb hp)
theorem CH {R:Sl->Prop} (h:R (.oT [])):dJ c (.Dict [] [] pos) ρ R:=λσ H Hf Q S q =>
 bZ yC λp hp=>q (.oT []) (.ref p) _ Hf h ⟨p,[],rfl,hp,ai,S.sb.free hp,.nil⟩ (bw.f7 S.sb hp)
theorem Gy (hN:At N i x) (hi:At ρ i r) (h:aI c e ρ λdk=>aI c f ρ λdf=>∃ o,ER r dk o/\R (o.getD df)) (hd:(x == ("__debug__":Str))=false:=by decide) (hcd:(x == ("__classdict__":Str))=false:=by decide) (ho:r.EO=true:=by rfl)
 (m1:∀ env,attributeBase (.Name x px) "get" env (eval (.Name x px) env)=eval (.Name x px) env:=by intro _; walk_at "u")
 (m2:∀ env,((backTo cp (starEach [e,f] env)).all (λx=> !x.1) && (backToKw cp (keywordEach [] env)).all (λx=>x.1.isSome)
   && decide (([e,f]:List Expr).length+([]:List Keyword).length+(if ([]:List Keyword).isEmpty then 0 else 1)<30))=true:=by intro _; walk_at "u")
 (m3:(ap.endLine == cp.line)=true:=by walk_at "u") (m4:∀ env,backTo cp (starEach [e,f] env)=[(false,eval e env),(false,eval f env)]:=by intro _; walk_at "u") :
 aI c (.Call (.Attribute (.Name x px) "get" ap) [e,f] [] cp) ρ R:=λσ H Hf Q S q=>by
 obtain ⟨p,ep,rp⟩:=S.own hi.get (qa ho)
 have isd:LF H p:=by
  cases r with
  | oK kvs=>obtain ⟨xs,h1,_⟩:=wH (r:=.oK kvs) rfl rp; exact .inl ⟨xs,.inl h1⟩
  | aK a kvs=>obtain ⟨xs,h1,_⟩:=wH (r:=.aK a kvs) rfl rp; exact .inl ⟨xs,.inl h1⟩
  | oT kvs=>obtain ⟨xs,h1,_⟩:=CF (r:=.oT kvs) rfl rp; exact .inr ⟨xs,.inl h1⟩
  | aT a kvs=>obtain ⟨xs,h1,_⟩:=CF (r:=.aT a kvs) rfl rp; exact .inr ⟨xs,.inl h1⟩
  | _=>cases ho
 refine bZ (yD c.hu (c.nV hN hd hcd) dI dI ⟨m1 _,m2 _,m3,m4 _⟩) ⟨_,ep,p,rfl,isd,h σ H Hf _ S λdk v H1 aU h1 rv g1=>h1 σ H1 aU _ (S.cH g1) λdf y H2 c6 ⟨o,lk,hR⟩ ry g2=>?_⟩
 obtain ⟨u,dg,rel⟩:=lk.get (rp.cH (g1.trans g2)) (Rep.mono g2.f _ rv) g2.b
 refine ⟨u,dg,?_⟩
 cases o with
 | none=>cases u with
  | none=>exact q df y H2 c6 hR ry (g1.trans g2)
  | some _=>exact rel.elim
 | some d=>cases u with
  | none=>exact rel.elim
  | some v'=>exact q d v' H2 c6 hR rel (g1.trans g2)
theorem Gz (hN:At N i x) (hi:At ρ i r) (h:aI c e ρ λdv=>aI c b ρ λdk=>∃ r',CG r dk dv r'/\Nx ρ i nx r') (ho:r.owned=true:=by rfl)
 (hs:∀ env,swapsWith e (some (.Subscript (.Name x px) b tp)) pos.line env=pure false:=by intro _; walk_at "u") (hd:(x == ("__debug__":Str))=false:=by decide) (hcd:(x == ("__classdict__":Str))=false:=by decide) :
 fK c (.Assign [.Subscript (.Name x px) b tp] e pos) ρ nx p:=λσ H Hf D S o=>by
 obtain ⟨p,ep,rp⟩:=S.own hi.get ho
 refine dZ (Cm c.hu (c.nV hN hd hcd) dI dI (hs _)) (h σ H Hf _ S λdv v H1 aU h1 rv g1=>⟨_,ep,h1 σ H1 aU _ (S.cH g1) λdk y H2 c6 ⟨r',pt,ρ',hs',hn⟩ ry g2=>?_⟩)
 have g:=g1.trans g2
 obtain ⟨ob,dp,rp'⟩:=pt.put (rp.cH g) ry (Rep.mono g2.f _ rv) g.b
 refine ⟨p,_,rfl,dp,o.nx _ _ c6 ρ' ?_ hn⟩
 rw [hs'.eq]
 obtain ⟨_,_,e0,_,_,hf⟩:=(rp.cH g).p9 ho
 cases e0
 exact (S.cH g).upd hi.get ho ep (gH g.b hf) rp' pt.owned'
theorem uK (hN:At N i x) (hi:At ρ i r) (h:aI c b ρ λdk=>∃ m:Int,ER r dk (some (.int m))/\aI c e ρ (I1 λj=>∃ r',CG r dk (.int (m+j)) r'/\Nx ρ i nx r')) (ho:r.owned=true:=by rfl)
 (ha:∀ ov iv new,augStore b ov iv new=(do holding [new,ov,iv] (setItem ov iv new); release [new,ov,iv] []; pure .next):=by intro _ _ _; walk_at "u") (hd:(x == ("__debug__":Str))=false:=by decide) (hcd:(x == ("__classdict__":Str))=false:=by decide) :
 fK c (.AugAssign (.Subscript (.Name x px) b tp) .Add e pos) ρ nx p:=λσ H Hf D S o=>by
 obtain ⟨p,ep,rp⟩:=S.own hi.get ho
 have hop:Jb c.X .Add (ud λi j=>.int (i+j)):=B3
 refine dZ (Cn c.hu (c.nV hN hd hcd) dI dI hop ha) ⟨_,ep,h σ H Hf _ S λdk y H1 aU ⟨m,lk,h1⟩ ry g1=>?_⟩
 obtain ⟨u,dg,rel⟩:=lk.get (rp.cH g1) ry g1.b
 cases u with
 | none=>exact rel.elim
 | some u =>
  have eu:u=V.int m:=(aA (K:=c.X.K) (H:=aU)).mp rel
  subst eu
  refine ⟨p,_,rfl,dg,h1 σ H1 aU _ (S.cH g1) λdj y2 H2 c6 ⟨j,ej,r',pt,ρ',hs',hn⟩ ry2 g2=>?_⟩
  subst ej
  rw [aA.mp ry2]
  have g:=g1.trans g2
  obtain ⟨ob,dp,rp'⟩:=pt.put (rp.cH g) (Rep.mono g2.f _ ry) (v:=y) (y:=.int (m+j)) (aA.mpr rfl) g.b
  refine ⟨m,j,rfl,rfl,_,dp,o.nx _ _ c6 ρ' ?_ hn⟩
  rw [hs'.eq]
  obtain ⟨_,_,e0,_,_,hf⟩:=(rp.cH g).p9 ho
  cases e0
  exact (S.cH g).upd hi.get ho ep (gH g.b hf) rp' pt.owned'
theorem ES (hN:At N i x) (hi:At ρ i r) (h:aI c e ρ λdk=>∃ o,ER r dk o/\T o.isSome) (ho:r.owned=true:=by rfl) (hm:behindInMarks CmpOp.In (.Name x px)=false:=by walk_at "u")
 (hd:(x == ("__debug__":Str))=false:=by decide) (hcd:(x == ("__classdict__":Str))=false:=by decide):lI c (.Compare e [.In] [.Name x px] pos) ρ T:=λσ H Hf Q S q=>by
 obtain ⟨p,ep,rp⟩:=S.own hi.get ho
 refine EF (Ft (F4 c.hu dI (c.nV hN hd hcd)) hm) (h σ H Hf _ S λdk y H1 aU ⟨o,lk,hT⟩ ry g=>⟨_,ep,?_⟩)
 obtain ⟨u,dg,rel⟩:=lk.get (rp.cH g) ry g.b
 refine ⟨p,u,rfl,dg,u.isSome,rfl,q _ H1 aU ?_ g⟩
 rw [<- rel.isSome]; exact hT
end
noncomputable abbrev iD:Value->Shared->Prop:=λ_ _=>False
section
variable {prog:Program} {w:World} {A:Around} {R:Result->Shared->Prop} {s:Shared}
theorem nW {elt target iter:Expr} {ifs:List Expr} {scope:Scope} {pos:Pos} {it acc:Value} {env:Env} (I:Nat->Shared->Prop)
 (turn:∀ n s,I n s->wpAny (model prog w) A (pyNext it) (λr s₁=>match r with
   | none=>R (.ok .next) s₁
   | some v=>wpAny (model prog w) A (letOwnedTupleGo target it v) (λ_ s₁'=>wpAny (model prog w) A (assign target env v) (λ_ s₂ =>
    wpAny (model prog w) A (forIn ifs true λc r=>if r=true then do let ok <- isTrue c env (eval c env); pure (NX ok) else pure (NX r)) (λok s₃ =>
     if ok=true then wpAny (model prog w) A (eval elt env) (λx s₄ =>
      wpAny (model prog w) A (call (.builtin "list.append") [acc,x]) (λ_ s₅=>∃ m,m<n/\I m s₅) iD s₄) iD s₃
     else ∃ m,m<n/\I m s₃) iD s₂) iD s₁') iD s₁) iD s)
 (n:Nat) (h:I n s) :
 codeAny (model prog w) A (.compLoop (.ListComp elt [⟨target,iter,ifs,0⟩] scope pos) 0 it acc env) R s:=by
 refine codeAny_loop rfl I (λn s hI=>?_) n h
 show wpAny _ A ((compTurn (.ListComp elt [⟨target,iter,ifs,0⟩] scope pos) 0 it acc env).onRaise (λx=>do noteFrame x env; theTreesLotGoes x)) _ _ s
 refine wpAny_noted ?_
 rw [compTurn_list]
 refine MZ (wpAny_standAt (MZ (NQ (turn n s hI) (λr s₁ h₁=>?_) λ_ _ f=>f.elim)))
 cases r with
 | none=>exact M3 h₁
 | some v =>
  refine MZ (NQ h₁ (λ_ s₁' h₁'=>?_) λ_ _ f=>f.elim)
  refine MZ (NQ h₁' (λ_ s₂ h₂=>MZ (NQ h₂ (λok s₃ h₃=>?_) λ_ _ f=>f.elim)) λ_ _ f=>f.elim)
  cases ok with
  | false=>exact M3 ⟨rfl,h₃⟩
  | true =>
   exact MZ (MZ (NQ h₃ (λx s₄ h₄=>MZ (NQ h₄ (λ_ s₅ h₅=>M3 (M3 ⟨rfl,h₅⟩)) λ_ _ f=>f.elim)) λ_ _ f=>f.elim))
theorem jJ:∀ (ifs:List Expr),Q false s ->
 wpAny (model prog w) A (forIn ifs false λc r=>if r=true then do let ok <- isTrue c env (eval c env); pure (NX ok) else pure (NX r)) Q E s
 | [],h=>M3 h
 | t::ts,h=>by
  simp only [Rq,NV,if_false]
  exact MZ (M3 (jJ ts h))
theorem sF
 (h:wpAny (model prog w) A (isTrue t env (eval t env)) (λb s'=>if b=true then wpAny (model prog w) A (forIn ts true λc r=>if r=true then do let ok <- isTrue c env (eval c env); pure (NX ok) else pure (NX r)) Q E s' else Q false s') E s) :
 wpAny (model prog w) A (forIn (t::ts) true λc r=>if r=true then do let ok <- isTrue c env (eval c env); pure (NX ok) else pure (NX r)) Q E s:=by
 simp only [Rq,if_true]
 refine MZ (MZ (NQ h (λb s' hb=>M3 ?_) λ_ _ x=>x))
 cases b with
 | true=>exact hb
 | false=>exact jJ ts hb
end
noncomputable def bR (scope sc:Scope):Scope:={ scope with names:=scope.names.map λ(n,k)=>if (k == .free && sc.kind == .function && sc.names.lookup n == some .cell) then (n,.cell) else (n,k) }
theorem qf (h:env.scope=sc):relabel scope env=bR scope sc:=by
 subst h; rfl
noncomputable def Sl.tag (a:Addr):Sl->Sl
 | .ow ds=>.aw a ds | .oT ds=>.aT a ds | .oK ds=>.aK a ds
 | .aw b ds=>.aw b ds | .aT b ds=>.aT b ds | .aK b ds=>.aK b ds | .fo s=>.fo s
 | .un=>.un | .va d=>.va d
inductive wI (t:Str->Addr) (nm:List (Str×NameKind)) (N:List Str) (ρ:List Sl):List Str->List Sl->Prop
 | nil:wI t nm N ρ [] []
 | un {y:Str} {M:List Str} {r:List Sl}:wI t nm N ρ M r->wI t nm N ρ (y::M) (.un::r)
 | fr {y:Str} {i:Nat} {s s':Sl} {M:List Str} {r:List Sl} (hN:At N i y) (hs:At ρ i s) (hy:(y,OT)∈nm) (ht:s.tag (t y)=s'):wI t nm N ρ M r->wI t nm N ρ (y::M) (s'::r)
theorem wI.len (h:wI t nm N ρ M r):M.length=r.length:=by
 induction h with
 | nil=>rfl
 | un t ih=>simp [ih]
 | fr hN hs hy ht t ih=>simp [ih]
inductive BL:List Sl->List Sl->Prop
 | nil:BL [] []
 | un {r:Sl} {a b:List Sl}:BL a b->BL (.un::a) (r::b)
 | same {r:Sl} {a b:List Sl}:BL a b->BL (r::a) (r::b)
theorem BL.weak (h:BL a b):a.length=b.length/\∀ (i:Nat) (r:Sl),a[i]?=some r->r≠.un->b[i]?=some r:=by
 induction h with
 | nil=>exact ⟨rfl,λi r e=>by simp at e⟩
 | un t ih=>exact ⟨by simp [ih.1],λi r e hu=>by cases i with | zero=>simp at e; exact absurd e.symm hu | succ i=>simpa using ih.2 i r (by simpa using e) hu⟩
 | same t ih=>exact ⟨by simp [ih.1],λi r e hu=>by cases i with | zero=>simpa using e | succ i=>simpa using ih.2 i r (by simpa using e) hu⟩
section
variable {K:M0}
noncomputable def jj (c:Ctx P w K mg base k N sc bk):List Expr->List Sl->(Bool->Prop)->Prop
 | [],_,T=>T true
 | t::ts,ρ,T=>lI c t ρ (nP (jj c ts ρ T) (T false))
theorem mK (hq:c.X.xe=iD):∀ (ifs:List Expr) {H Hf:Hp} {s:Shared},bu c σ H Hf ρ->jj c ifs ρ T->(∀ b H' ak,T b->bw H Hf H' ak->Q b H')->Inv c.X aa σ H s ->
 wpAny (model c.X.prog c.X.w) c.X.A (forIn ifs true λt r=>if r=true then do let ok <- isTrue t c.X.env (eval t c.X.env); pure (NX ok) else pure (NX r)) (TP c.X aa σ Q) iD s
 | [],H,Hf,s,S,h,q,I=>wpAny_tests_nil ⟨H,I,q true H Hf h (.refl S.sb)⟩
 | t::ts,H,Hf,s,S,h,q,I=>by
  have h0:=h σ H Hf (λb H'=>∃ ak,nP (jj c ts ρ T) (T false) b/\bw H Hf H' ak) S (λb H' ak hb g=>⟨ak,hb,g⟩) aa s I
  rw [hq] at h0
  refine sF (bJ h0 λb s' ⟨H',I',ak,hb,g⟩=>?_)
  cases b with
  | true=>exact mK hq ts (S.cH g) (hb.t rfl) (λb H2 c6 hT g2=>q b H2 c6 hT (g.trans g2)) I'
  | false=>exact ⟨H',I',q false H' ak (hb.f rfl) g⟩
end
theorem kH:∀ (names:List (Str×NameKind)) (cs:List (Str×Addr)),(∀ x∈names,x.2=.free->∃ a,env.cells.lookup x.1=some a) ->
 ∃ cl,(forIn names cs (λ(x:Str×NameKind) (r:List (Str×Addr))=>(if (x.2 == OT)=true then do let a <- cellOf env x.1; pure (NX ((x.1,a)::r)) else pure (NX r):Sem (ForInStep (List (Str×Addr))))))=(pure cl:Sem (List (Str×Addr))) /\
  (∀ y a,cl.lookup y=some a->cs.lookup y=some a\/env.cells.lookup y=some a/\(y,OT)∈names)/\(∀ y a,(y,OT)∈names\/(∃ b,cs.lookup y=some b/\env.cells.lookup y=some b)->env.cells.lookup y=some a->cl.lookup y=some a)
 | [],cs,_=>⟨cs,rfl,λy a e=>.inl e,λy a h e=>by
  rcases h with h | ⟨b,h1,h2⟩
  ·cases h
  ·rw [e] at h2; cases h2; exact h1⟩
 | (n,kd)::r,cs,h=>by
  by_cases hk:kd=.free
  ·subst hk
   obtain ⟨a,ea⟩:=h (n,.free) Ng rfl
   obtain ⟨cl,e1,e2,e3⟩:=kH r ((n,a)::cs) λx hx=>h x (Ni _ hx)
   refine ⟨cl,?_,λy b e=>?_,λy b hy e=>?_⟩
   ·rw [Rq]
    simp only [beq_self_eq_true,if_true,cellOf,ea,pure_bind]
    exact e1
   ·rcases e2 y b e with z | ⟨z1,z2⟩
    ·rw [SH] at z
     cases q:(y == n) with
     | true =>
      rw [q] at z; cases z
      have:y=n:=by simpa using q
      subst this
      exact .inr ⟨ea,Ng⟩
     | false=>rw [q] at z; exact .inl z
    ·exact .inr ⟨z1,Ni _ z2⟩
   ·refine e3 y b ?_ e
    rcases hy with hy | ⟨b',h1,h2⟩
    ·rcases Nm.mp hy with z | z
     ·cases z; exact .inr ⟨a,by simp,ea⟩
     ·exact .inl z
    ·refine .inr ⟨b',?_,h2⟩
     rw [SH]
     cases q:(y == n) with
     | true =>
      have:y=n:=by simpa using q
      subst this
      rw [ea] at h2; exact h2
     | false=>exact h1
  ·have hb:(kd == OT)=false:=by simpa using hk
   obtain ⟨cl,e1,e2,e3⟩:=kH r cs λx hx=>h x (Ni _ hx)
   refine ⟨cl,?_,λy b e=>?_,λy b hy e=>?_⟩
   ·rw [Rq]
    simp only [hb,NV,if_false,pure_bind]
    exact e1
   ·rcases e2 y b e with z | ⟨z1,z2⟩
    ·exact .inl z
    ·exact .inr ⟨z1,Ni _ z2⟩
   ·refine e3 y b ?_ e
    rcases hy with hy | hy
    ·rcases Nm.mp hy with z | z
     ·cases z; exact absurd rfl hk
     ·exact .inl z
    ·exact .inr hy
theorem CI (h:∀ x∈scope.names,x.2=.free->∃ a,env.cells.lookup x.1=some a) :
 ∃ cl,closureFor scope env=pure cl/\(∀ y a,cl.lookup y=some a->env.cells.lookup y=some a/\(y,OT)∈scope.names)/\(∀ y a,(y,OT)∈scope.names->env.cells.lookup y=some a->cl.lookup y=some a):=by
 obtain ⟨cl,e1,e2,e3⟩:=kH scope.names [] h
 refine ⟨cl,?_,λy a e=>?_,λy a hy e=>e3 y a (.inl hy) e⟩
 ·unfold closureFor
  have e1':=congrArg (· >>= λcs=>(pure cs:Sem _)) e1
  simp only [pure_bind] at e1'
  exact e1'
 ·rcases e2 y a e with z | z
  ·simp at z
  ·exact z
section
variable {P:Program} {w:World} {K:M0} {mg:Str->Option Value} {base:Heap} {k:Nat} {N:List Str} {sc:Scope} {bk:Bool} {c:Ctx P w K mg base k N sc bk} {ρ:List Sl} {pos:Pos}
def uL (c:Ctx P w K mg base k N sc bk) (tg:Expr) (ifs:List Expr) (elt:Expr) (ρ0:List Sl) (d:D) (o:Option D):Prop :=
 mF c tg d ρ0 λρ1=>BL ρ0 ρ1/\jj c ifs ρ1 (nP (aI c elt ρ1 λe=>o=some e) (o=none))
theorem iO {nm:List (Str×NameKind)}:∀ {y:Str} {kd:NameKind},(nm.map λ(x:Str×NameKind)=>match x with | (n,k)=>(if (k == .free && sc.kind == .function && sc.names.lookup n == some .cell)=true then (n,Qy) else (n,k))).lookup y=some kd->∃ k0,(y,k0)∈nm/\(kd=k0\/kd=.cell/\k0=.free):=by
 induction nm with
 | nil=>intro y kd h; simp at h
 | cons x r ih =>
  obtain ⟨n,k0⟩:=x
  intro y kd h
  rw [M7,SH] at h
  by_cases e:(k0 == .free && sc.kind == .function && sc.names.lookup n == some .cell)=true
  ·simp only [e,if_true] at h
   cases q:(y == n) with
   | true =>
    rw [q] at h; cases h
    have:y=n:=by simpa using q
    subst this
    have hf:k0=.free:=by simp only [Qs,beq_iff_eq] at e; exact e.1.1
    exact ⟨k0,Ng,.inr ⟨rfl,hf⟩⟩
   | false=>rw [q] at h; obtain ⟨k1,h1,h2⟩:=ih h; exact ⟨k1,Ni _ h1,h2⟩
  ·simp only [e,NV,if_false] at h
   cases q:(y == n) with
   | true =>
    rw [q] at h; cases h
    have:y=n:=by simpa using q
    subst this
    exact ⟨k0,Ng,.inl rfl⟩
   | false=>rw [q] at h; obtain ⟨k1,h1,h2⟩:=ih h; exact ⟨k1,Ni _ h1,h2⟩
theorem wI.start {σ:L2.St} (h:wI t nm N ρ M r) (hσ:∀ (i:Nat) (s:Sl),ρ[i]?=some s->s≠.un->∃ v,σ[i]?=some (some v)) :
 ∃ σ0:L2.St,σ0.length=r.length/\∀ (j:Nat) (s:Sl),r[j]?=some s->(s=.un/\σ0[j]?=some none)\/∃ (i:Nat) (y:Str) (v:V) (s0:Sl),M[j]?=some y/\(y,OT)∈nm/\N[i]?=some y/\ρ[i]?=some s0/\s=s0.tag (t y)/\s0≠.un/\σ[i]?=some (some v)/\σ0[j]?=some (some v):=by
 induction h with
 | nil=>exact ⟨[],rfl,λj s e=>by simp at e⟩
 | un t ih =>
  obtain ⟨σ0,hl,h0⟩:=ih
  refine ⟨none::σ0,by simp [hl],λj s e=>?_⟩
  cases j with
  | zero=>simp at e; exact .inl ⟨e.symm,by simp⟩
  | succ j =>
   rcases h0 j s (by simpa using e) with ⟨h1,h2⟩ | ⟨i,y,v,s0,h1,h2,h3,h4,h5,h6,h7,h8⟩
   ·exact .inl ⟨h1,by simpa using h2⟩
   ·exact .inr ⟨i,y,v,s0,by simpa using h1,h2,h3,h4,h5,h6,h7,by simpa using h8⟩
 | @fr y i s' s'' M r hN hs hy ht t ih =>
  obtain ⟨σ0,hl,h0⟩:=ih
  by_cases hu:s'=.un
  ·refine ⟨none::σ0,by simp [hl],λj s e=>?_⟩
   cases j with
   | zero=>simp at e; subst hu; exact .inl ⟨e.symm.trans ht.symm,by simp⟩
   | succ j =>
    rcases h0 j s (by simpa using e) with ⟨h1,h2⟩ | ⟨i,y,v,s0,h1,h2,h3,h4,h5,h6,h7,h8⟩
    ·exact .inl ⟨h1,by simpa using h2⟩
    ·exact .inr ⟨i,y,v,s0,by simpa using h1,h2,h3,h4,h5,h6,h7,by simpa using h8⟩
  ·obtain ⟨v,ev⟩:=hσ i s' hs.get hu
   refine ⟨some v::σ0,by simp [hl],λj s e=>?_⟩
   cases j with
   | zero=>simp at e; subst e; exact .inr ⟨i,y,v,s',by simp,hy,hN.get,hs.get,ht.symm,hu,ev,by simp⟩
   | succ j =>
    rcases h0 j s (by simpa using e) with ⟨h1,h2⟩ | ⟨i,y,v,s0,h1,h2,h3,h4,h5,h6,h7,h8⟩
    ·exact .inl ⟨h1,by simpa using h2⟩
    ·exact .inr ⟨i,y,v,s0,by simpa using h1,h2,h3,h4,h5,h6,h7,by simpa using h8⟩
noncomputable def Sl.adr:Sl->Option Addr | .aw a _=>some a | .aT a _=>some a | .aK a _=>some a | _=>none
theorem mO {s:Sl}:(s.tag a).owned=s.owned:=by cases s <;> rfl
theorem CJ {s:Sl} (h:s.owned=true):∃ b,(s.tag a).adr=some b:=by cases s <;> first | exact ⟨_,rfl⟩ | cases h
theorem uM (hv:s.owned=true->v=.ref a) (h:bh K fr H Hf s v):bh K fr H Hf (s.tag a) v:=by
 cases s with
 | ow ds=>obtain ⟨p,xs,e,f,r⟩:=h; exact ⟨p,xs,e,⟨f,by have:=hv rfl; rw [e] at this; cases this; rfl⟩,r⟩
 | oT ds=>obtain ⟨p,xs,e,f,r⟩:=h; exact ⟨p,xs,e,⟨f,by have:=hv rfl; rw [e] at this; cases this; rfl⟩,r⟩
 | oK ds=>obtain ⟨p,xs,e,f,r⟩:=h; exact ⟨p,xs,e,⟨f,by have:=hv rfl; rw [e] at this; cases this; rfl⟩,r⟩
 | _=>exact h
theorem uN (hb:s.adr=some b) (h:bh K fr H Hf s (.ref p)):p=b:=by
 cases s with
 | aw a ds=>cases hb; obtain ⟨q,xs,e,f,r⟩:=h; cases e; exact f.2
 | aT a ds=>cases hb; obtain ⟨q,xs,e,f,r⟩:=h; cases e; exact f.2
 | aK a ds=>cases hb; obtain ⟨q,xs,e,f,r⟩:=h; cases e; exact f.2
 | _=>cases hb
theorem fh.apart (S:fh K H₀ fj σ H Hf ρ) (h0:H₀ a=none) (hf:Hf a=none) (nf:¬ yF H a) (ha:∀ (i:Nat) (r:Sl),ρ[i]?=some r->r.owned=true->σ[i]?≠some (some (.ref a))):fh K H₀ fj σ (L2.upd H a o) Hf ρ :=
 ⟨⟨λb u e=>by rw [L2.aq (aE e h0)]; exact S.bas.s b u e,S.bas.f,λb u e=>by rw [L2.aq (aE e hf)]; exact S.bas.b b u e,S.bas.n⟩,S.len,λi r hi hu=>by
   obtain ⟨v,e,q⟩:=S.at_ i r hi hu
   refine ⟨v,e,?_⟩
   have hg:bw (del H a) Hf (L2.upd H a o) Hf:=gH S.bas.b hf
   exact (q.JE (p:=a) nf λow z=>by subst z; exact ha i r hi ow e).cH hg,S.sep⟩
theorem uO (g:bw H1 aU H' ak) (h1:H1 a=none) (hf:ak a=none):bw H1 aU (upd H' a o) ak :=
 ⟨λb u e=>by rw [aq (aE e h1)]; exact g.s b u e,g.f,λb u e=>by rw [aq (aE e hf)]; exact g.b b u e,g.n⟩
section
variable {K:M0} {H Hf H' ak:Hp}
noncomputable abbrev Fp:=List (Addr×List V)
mutual
theorem dH.fz:∀ (s:Sh) {v:V} {fp:Fp},dH K H Hf s v fp->∀ a∈fp,H a.1=some (pl a.1 a.2)/\Hf a.1=none
 | .v d,_,_,h=>by simp only [dH] at h; obtain ⟨_,rfl⟩:=h; intro a ha; cases ha
 | .l ds,_,_,h=>by
  simp only [dH] at h
  obtain ⟨p,xs,e,h1,h2,h3,rfl⟩:=h
  intro a ha
  obtain rfl:=Nj.mp ha
  exact ⟨h1,h2⟩
 | .la p ds,_,_,h=>by
  simp only [dH] at h
  obtain ⟨xs,e,h1,h2,h3,rfl⟩:=h
  intro a ha
  obtain rfl:=Nj.mp ha
  exact ⟨h1,h2⟩
 | .t ss,_,_,h=>by
  simp only [dH] at h
  obtain ⟨a,xs,e,h1,h2⟩:=h
  exact aY.fz ss h2
 | .ls ss,_,_,h=>by
  simp only [dH] at h
  obtain ⟨p,xs,fq,e,h1,h2,h3,rfl⟩:=h
  intro a ha
  rcases Nm.mp ha with rfl | ha
  ·exact ⟨h1,h2⟩
  ·exact aY.fz ss h3 a ha
theorem aY.fz:∀ (ss:List Sh) {xs:List V} {fp:Fp},aY K H Hf ss xs fp->∀ a∈fp,H a.1=some (pl a.1 a.2)/\Hf a.1=none
 | [],_,_,h=>by simp only [aY] at h; obtain ⟨_,rfl⟩:=h; intro a ha; cases ha
 | s::ss,_,_,h=>by
  simp only [aY] at h
  obtain ⟨x,r,f1,f2,e,h1,h2,rfl⟩:=h
  intro a ha
  rcases NF.mp ha with ha | ha
  ·exact dH.fz s h1 a ha
  ·exact aY.fz ss h2 a ha
end
end
noncomputable def Sl.sh:Sl->Option Sh | .va d=>some (.v d) | .fo s=>some s | _=>none
theorem GA {H H' ak:Hp} (e:r.sh=some s) (h:bh K (λp=>H p=none) H' ak r v):∃ fp,dH K H' ak s v fp/\(fp.map (·.1)).Nodup/\∀ a∈fp,H a.1=none:=by
 cases r with
 | va d=>cases e; exact ⟨[],by simp only [dH]; exact ⟨h,trivial⟩,by simp,by intro a ha; cases ha⟩
 | fo s=>cases e; exact h
 | _=>cases e
theorem aY.snoc (h:dH K H Hf s v fp):∀ {ss:List Sh} {vs:List V} {fq:Fp},aY K H Hf ss vs fq->aY K H Hf (ss++[s]) (vs++[v]) (fq++fp)
 | [],_,_,q=>by
  simp only [aY] at q
  obtain ⟨rfl,rfl⟩:=q
  simp only [Rp,aY]
  exact ⟨v,[],fp,[],rfl,h,⟨rfl,rfl⟩,(N7 _).symm⟩
 | s'::ss,_,_,q=>by
  simp only [aY] at q
  obtain ⟨x,r,f1,f2,rfl,h1,h2,rfl⟩:=q
  have:=aY.snoc h h2
  simp only [Pp,aY]
  exact ⟨x,r++[v],f1,f2++fp,rfl,h1,this,Nz _ _ _⟩
def zD (c:Ctx P w K mg base k N sc bk) (tg:Expr) (ifs:List Expr) (elt:Expr) (ρ0:List Sl) (d:D) (o:Option Sh):Prop :=
 mF c tg d ρ0 λρ1=>BL ρ0 ρ1/\jj c ifs ρ1 (nP (dJ c elt ρ1 λr=>∃ z,o=some z/\r.sh=some z) (o=none))
abbrev KR (scope sc:Scope) (N':List Str):Prop:=scope.kind=.function/\(∀ x∈scope.names,x.2≠.cell)/\(∀ x∈scope.names,x.2=.local->scope.names.lookup x.1=some .local)/\(∀ x∈scope.names,x.2=.free->sc.names.lookup x.1=some .cell)/\N'.Nodup/\(∀ x∈N',(bR scope sc).names.lookup x=some .local\/(bR scope sc).names.lookup x=some .cell)/\∀ x∈scope.names,x.2=.free->(bR scope sc).names.lookup x.1=some .cell
theorem CK {elt tg iter:Expr} {ifs:List Expr} {scope:Scope} {N':List Str} {ρ0:(Str->Addr)->List Sl} {R:List Sh->Prop} (hq:c.X.xe=iD) (hfr:∀ t,wI t scope.names N ρ N' (ρ0 t))
 (h:CD c tg iter ρ λds=>Sd (ds.length<=sizeLine) (∃ os:List (Option Sh),os.length=ds.length /\
   (∀ c':Ctx P w K mg base k N' (bR scope sc) true,c'.X.xe=iD->∀ (t:Str->Addr) (i:Nat) (d:D) (o:Option Sh),ds[i]?=some d->os[i]?=some o->zD c' tg ifs elt (ρ0 t) d o)/\R (os.filterMap id)))
 (hcp:KR scope sc N':=by decide +kernel)
 (hs:∀ env v,foldedSetIterable iter env v=pure v:=by intro _ _; walk_at "u")
 {σ:L2.St} {H Hf:Hp} (S:bu c σ H Hf ρ) {aa:List (Addr×Obj)} {s:Shared} (I:Inv c.X aa σ H s) {use:Option (Value->Sem Unit)} {QQ:Value->Shared->Prop}
 (kont:∀ (s':Shared) (H' ak:Hp) (a C:Addr) (ss:List Sh) (vs:List V) (fq:Fp),R ss->(∃ m,s'.heap.Ns C m)->C∉c.X.fs->fk c.X aa H' C->H a=none->H' a=some (.lst vs)->ak a=none->aY c.X.K H' ak ss vs fq->(fq.map (·.1)).Nodup->(∀ b∈fq,H b.1=none)->bw H Hf H' ak->(∀ h5,OF C s'.heap h5->Inv c.X aa σ H' { s' with heap:=h5 })->compPost (model c.X.prog c.X.w) c.X.A iD use QQ (.ref a) C (.ok .next) s') :
 wpAny (model c.X.prog c.X.w) c.X.A (comprehension (.ListComp elt [⟨tg,iter,ifs,0⟩] scope pos) scope c.X.env (firstIterPos [⟨tg,iter,ifs,0⟩] pos) (newList []) (firstAsync [⟨tg,iter,ifs,0⟩]) (firstIter [⟨tg,iter,ifs,0⟩] c.X.env) use) QQ iD s:=by
 obtain ⟨hk,hnc,hnl,hfree,hnd,hv,hvf⟩:=hcp
 have hI:=h σ H Hf (λJ H1=>∃ ds aU,Sd (ds.length<=sizeLine) (∃ os:List (Option Sh),os.length=ds.length /\
  (∀ c':Ctx P w K mg base k N' (bR scope sc) true,c'.X.xe=iD->∀ (t:Str->Addr) (i:Nat) (d:D) (o:Option Sh),ds[i]?=some d->os[i]?=some o->zD c' tg ifs elt (ρ0 t) d o)/\R (os.filterMap id))/\bw H Hf H1 aU/\ji c.X.K J ds aU) S (λds J H' ak hR g io=>⟨ds,ak,hR,g,io⟩) aa s I
 rw [hq] at hI
 have hcells:∀ x∈scope.names,x.2=.free->∃ a,c.X.env.cells.lookup x.1=some a:=λx hx hf=>I.ok.has x.1 (.inl (by unfold NY; rw [c.esc]; exact hfree x hx hf))
 obtain ⟨cl,hclos,xZ,hcl2⟩:=CI hcells
 refine wpAny_comprehension_free (cl:=cl) (use:=use) rfl (hs _) hclos hk hnl ?_
 refine bJ (show wpAny _ _ (eval iter c.X.env) _ _ _ from hI) λv s1 h1=>bJ h1 λitv s2 hh=>z5 hh λit fp tn J H1 hh=>w6 hh λe0 I1 Tn t0 hfp hh=>z2 hh λds aU hh=>w3 hh λhz g io=>?_
 obtain ⟨hz,os,hh⟩:=hz
 refine w3 hh λhol hb hR=>?_
 subst e0
 have hcell':∀ y∈scope.names,y.2≠.cell:=hnc
 refine N5 (wpAny_newFunctionEnv hcell' (by intro y hy; simp at hy) (λh4 hns hsb=>?_) hk)
 dsimp only at hns hsb |-
 generalize hDe:s2.heap.objs.size=Da at *
 have k3:∀ b u,s2.heap.get? b=some u->(s2.heap.push { cls:=.type "list",dict:=none,data:=.seq ([]:List Value).toArray }).get? b=some u:=λb u e=>M9 _ e
 generalize hH3:s2.heap.push { cls:=.type "list",dict:=none,data:=.seq ([]:List Value).toArray }=h3 at *
 have hCe:h3.objs.size=Da+1:=by rw [<- hH3,O6,hDe]
 have hgD:h3.get? Da=some { cls:=.type "list",dict:=none,data:=.seq ([]:List Value).toArray }:=by rw [<- hH3,<- hDe]; exact Nl _ rfl
 have tZ:H1 Da=none:=by rw [<- hDe]; exact I1.hok.fresh (M4 _)
 have I3:Inv c.X aa σ (upd H1 Da (.lst [])) { s2 with heap:=h3,toks:=s2.toks }:=I1.laid (a:=Da) (o:=.lst []) (t':=s2.toks) k3 (by rw [hDe]; exact M4 _) ⟨ND _,[],0,.nil,hgD⟩
 have fpne:∀ b∈fp,b≠Da:=λb hb z=>by
  obtain ⟨o,e,_⟩:=Tn.obj _ _ t0 b hb
  subst z
  exact absurd (Na e) (by rw [hDe]; exact OC _)
 have fplt:∀ b∈fp,b<h3.objs.size:=λb hb=>by
  obtain ⟨o,e,_⟩:=Tn.obj _ _ t0 b hb
  exact Na (k3 b o e)
 let s3:Shared:={ s2 with heap:=h3,toks:=s2.toks }
 let H2:Hp:=upd H1 Da (.lst [])
 let X':Cx:={ prog:=c.X.prog,w:=c.X.w,K:=c.X.K,mg:=c.X.mg,base:=c.X.base,A:=c.X.A,N:=N',s₀:=s3,H₀:=H2,env:=compEnvC scope cl h3.objs.size c.X.env,outer:=c.X.stack,stack:=c.X.stack,ex:=fp,fn:=λ_=>false,calm:=true,pn:=[],xe:=iD }
 have S1:=S.cH g
 have S2:bu c σ H2 aU ρ:=S1.cH (bw.f7 g.b tZ)
 obtain ⟨t,ht⟩:∃ t:Str->Addr,∀ (i:Nat) (y:Str) (p:Addr),N[i]?=some y->σ[i]?=some (some (.ref p))->t y=p:=by
  classical
  refine ⟨λy=>if h:∃ (i:Nat) (p:Addr),N[i]?=some y/\σ[i]?=some (some (.ref p)) then h.choose_spec.choose else 0,λi y p e1 e2=>?_⟩
  have h:∃ (i:Nat) (p:Addr),N[i]?=some y/\σ[i]?=some (some (.ref p)):=⟨i,p,e1,e2⟩
  show (if h:_ then _ else _)=p
  rw [dif_pos h]
  obtain ⟨e3,e4⟩:=h.choose_spec.choose_spec
  have hi:h.choose<N.length:=(Nf.mp e3).1
  have e5:h.choose=i:=(List.getElem?_inj hi c.nd).mp (e3.trans e1.symm)
  have e6:=(congrArg (λz=>σ[z]?) e5).symm.trans e4
  rw [show σ[i]?=some (some (.ref p)) from e2] at e6
  have e4:=e6
  exact (V.ref.inj (OG (OG e4))).symm
 have hfr:=hfr t
 generalize hρ:ρ0 t=ρt at hfr
 obtain ⟨σ0,hσl,hσ0⟩:=hfr.start (σ:=σ) λi s e hu=>let ⟨v,e2,_⟩:=S2.at_ i s e hu; ⟨v,e2⟩
 have k4:∀ b u,h3.get? b=some u->h4.get? b=some u:=λb u e=>hsb.extBut b u (NB (Na e)) (M9 _ e)
 have hsc:X'.env.scope=bR scope sc:=qf c.esc
 have okX:X'.Ok:={
  mod:=I3.ok.mod
  kind:=hk
  glob:=I3.ok.glob
  blt:=I3.ok.blt
  above:=M4 _
  inj:=λx y a e1 e2=>I3.ok.inj x y a (xZ x a e1).1 (xZ y a e2).1
  has:=λx hx=>by
   have key:(x,OT)∈scope.names:=by
    have hx':(bR scope sc).names.lookup x=some .cell\/(bR scope sc).names.lookup x=some .free:=by
     unfold NY at hx; rw [hsc] at hx; exact hx
    rcases hx' with hx' | hx'
    ·obtain ⟨k0,h1,h2⟩:=iO hx'
     rcases h2 with h2 | ⟨_,h2⟩
     ·subst h2; exact absurd rfl (hnc _ h1)
     ·subst h2; exact h1
    ·obtain ⟨k0,h1,h2⟩:=iO hx'
     rcases h2 with h2 | ⟨h2,_⟩
     ·subst h2; exact h1
     ·cases h2
   obtain ⟨a,ea⟩:=hcells _ key rfl
   exact ⟨a,hcl2 x a key ea⟩
  cab:=λx a hf=>by cases hf
  hd:=λ_=>I3.ok.hd c.calm
  frames:=I3.ok.frames
  stk:=.inl rfl
  exf:=λb hb=>⟨NB (fplt b hb),λx a ea=>(hfp b hb).2.2.2.2.1 x a (xZ x a ea).1⟩
  bs:=I3.bs
  bsz:=Nb I3.ok.bsz I3.sz
  noex:=λb o e hb=>by
   rcases (hfp b hb).2.2.2.1 with z | z
   ·exact I3.ok.noex b o e z
   ·exact absurd (NU (Na e) (Nb I3.ok.bsz z)) (OC _)
  exfs:=λb hb m=>by
   rcases Nm.mp (I3.rT b m) with z | z
   ·exact (hfp b hb).2.1 z
   ·exact (hfp b hb).2.2.1 z
  jc:=I3.stack
  frf:=I3.t6 }
 have I4:Inv X' [] σ0 H2 { s2 with heap:=h4,toks:=s2.toks+([]:List (Str×Value)).length }:={
  ok:=okX
  os:=rfl
  bare:=I3.bare
  base:=Un.kept k4
  loc:=⟨_,hns,λj y v hy hv' _=>by
   have hj:j<ρt.length:=by
    have:=(Nf.mp hv').1
    rw [hσl] at this; exact this
   rcases hσ0 j ρt[j] (Nr hj) with ⟨_,z⟩ | hh
   ·rw [z] at hv'; cases hv'
   ·refine z4 hh λi y' v' s0 hh=>w8 hh λh1 h2 h3' h4' hs5 hs6 h5 h6=>?_
    rw [h6] at hv'; cases hv'
    have hy':N'[j]?=some y:=hy
    rw [h1] at hy'; cases hy'
    obtain ⟨m0,hm0,hl⟩:=I3.loc
    have hkc:c.X.env.kindOf y=some .cell:=by unfold NY; rw [c.esc]; exact hfree _ h2 rfl
    obtain ⟨u,r,lk⟩:=hl i y v (by rw [c.eN]; exact h3') h5 (.inr (.inl hkc))
    refine ⟨u,r,?_⟩
    rcases lk with ⟨q1,_⟩ | ⟨_,a,e1,e2⟩
    ·rw [hkc] at q1; cases q1
    ·refine .inr ⟨.inl ?_,a,hcl2 _ a h2 e1,?_⟩
     ·show List.lookup y X'.env.scope.names=_
      rw [hsc]; exact hvf _ h2 rfl
     ·obtain ⟨oc,e3,e4⟩:=e2
      exact ⟨oc,k4 _ _ e3,e4⟩⟩
  cell:=λx a ea=>by
   obtain ⟨v',oc,e3,e4⟩:=I3.cell x a (xZ x a ea).1
   exact ⟨v',oc,k4 _ _ e3,e4⟩
  free:=I3.hok.fresh (M4 _)
  freeC:=λx a ea=>I3.freeC x a (xZ x a ea).1
  pin:=λq hq'=>by simp at hq'; cases hq'
  hok:=I3.hok.kept k4
  len:=by rw [hσl]; exact hfr.len.symm }
 let c':Ctx P w K mg base k N' (bR scope sc) true :=
  { X:=X',eP:=c.eP,ew:=c.ew,eK:=c.eK,emg:=c.emg,eb:=c.eb,eN:=rfl,esc:=hsc,calm:=rfl,top:=λz=>(by cases z),cb:=λz=>(by cases z),fn:=λx hx=>.inr (by rw [hsc]; exact hx.resolve_left (λz=>by cases z)),room:=c.room,nd:=hnd,vis:=hv,
    Hf:=c.Hf,B:=c.B,RX:=λ_ _=>False,exc:=λ_ _ _ _ _ _ _ _ _ _ _ _ h _ _=>h.elim,RM:=λ_ _=>False,mde:=λ_ _ _ _ _ _ _ _ _ _ _ _ h _=>h.elim }
 have hN0:N'.length=ρt.length:=hfr.len
 have S4:bu c' σ0 H2 aU ρt:=by
  refine ⟨S2.bas,hσl,λj r hj hu=>?_,λj j' r r' p hne e1 e2 o1 o2 f1 f2=>?_⟩
  ·rcases hσ0 j r hj with ⟨z,_⟩ | hh
   ·exact absurd z hu
   ·refine z4 hh λi y v s0 hh=>w8 hh λh1 h2 h3' h4' hs5 hs6 h5 h6=>?_
    obtain ⟨v',e3,q3⟩:=S2.at_ i s0 h4' hs6
    rw [h5] at e3; cases e3
    subst hs5
    exact ⟨v,h6,uM (λow=>by
     obtain ⟨p,_,rfl,_⟩:=q3.p9 ow
     rw [ht i y p h3' h5]) q3⟩
  ·have u1:r≠.un:=by rintro rfl; cases o1
   have u2:r'≠.un:=by rintro rfl; cases o2
   rcases hσ0 j r e1 with ⟨z,_⟩ | hh
   ·exact u1 z
   rcases hσ0 j' r' e2 with ⟨z,_⟩ | hh'
   ·exact u2 z
   refine z4 hh λi y v s0 hh=>w8 hh λh1 h2 h3' h4' hs5 hs6 h5 h6=>z4 hh' λi' y' v' s0' hh'=>w8 hh' λh1' h2' h3'' h4'' hs5' hs6' h5' h6'=>?_
   rw [f1] at h6; cases h6
   rw [f2] at h6'; cases h6'
   have hii:i≠i':=λz=>by
    subst z
    rw [h3'] at h3''; cases h3''
    have a1:j<N'.length:=(Nf.mp h1).1
    exact hne ((List.getElem?_inj a1 hnd).mp (h1.trans h1'.symm))
   subst hs5; subst hs5'
   rw [mO] at o1 o2
   exact S2.sep i i' s0 s0' p hii h4' h4'' o1 o2 h5 h5'
 have howA:∀ (j:Nat) (r:Sl),ρt[j]?=some r->r.owned=true->∃ b,r.adr=some b/\b≠Da:=λj r hj ho=>by
  rcases hσ0 j r hj with ⟨z,_⟩ | hh
  ·subst z; cases ho
  ·refine z4 hh λi y v s0 hh=>w8 hh λh1 h2 h3' h4' hs5 hs6 h5 h6=>?_
   subst hs5
   rw [mO] at ho
   obtain ⟨b,eb⟩:=CJ (a:=t y) ho
   refine ⟨b,eb,λz=>?_⟩
   obtain ⟨v',e3,q3⟩:=S1.at_ i s0 h4' hs6
   obtain ⟨p,o,e4,_,e5,_⟩:=q3.p9 ho
   subst e4
   have q4:=uM (a:=t y) (λ_=>by rw [ht i y p h3' e3]) q3
   have:=uN eb q4
   rw [this,z,tZ] at e5; cases e5
 have hB0:c.B Da=none:=S1.bas.s.free tZ
 have fps:∀ {H':Hp},(∀ b∈fp,H' b=none)->∀ b∈fp,fk X' [] H' b:=λhn b hb =>
  ⟨hn b hb,NB (fplt b hb),okX.exfs b hb,.inl hb,λx a ea=>(hfp b hb).2.2.2.2.1 x a (xZ x a ea).1,λp hp=>by cases hp⟩
 have fin:∀ (s':Shared) (σ':L2.St) (H' ak:Hp) (vs:List V) (fq:Fp),Inv X' [] σ' H' s'->bw H1 aU H' ak->H' Da=some (.lst vs)->ak Da=none->aY c.X.K H' ak (os.filterMap id) vs fq->(fq.map (·.1)).Nodup->(∀ b∈fq,H1 b.1=none) ->
  compPost (model c.X.prog c.X.w) c.X.A iD use QQ (.ref Da) h3.objs.size (.ok .next) s':=λs' σ' H' ak vs fq I' g' hD hfD hr hnd2 hfr2=>by
  obtain ⟨m,hm,_⟩:=I'.loc
  have hCX:h3.objs.size∉c.X.fs:=I3.II (M4 _)
  have hCf:fk c.X aa H' h3.objs.size:=by
   refine ⟨I'.free,λz=>?_,hCX,.inr I3.sz,λx a ea z=>?_,λp hp z=>?_⟩
   ·obtain ⟨m0,hm0,_⟩:=I3.loc
    obtain ⟨o,_,_,e,_⟩:=hm0
    exact absurd (Na e) (by rw [<- z]; exact OC _)
   ·obtain ⟨v',oc,e,_⟩:=I3.cell x a ea
    exact absurd (Na e) (by rw [z]; exact OC _)
   ·exact absurd (Na (I3.pin p hp).1) (by rw [z]; exact OC _)
  refine kont s' H' ak Da h3.objs.size (os.filterMap id) vs fq hR ⟨m,hm⟩ hCX hCf (g.s.free tZ) hD hfD hr hnd2 (λb hb=>g.s.free (hfr2 b hb)) (g.trans g') λh5 x6=>?_
  have ub:Un (frs c.X.stack) fp H2 H' s3.heap h5:=by
   have u:=I'.base
   have ne:∀ b o,s3.heap.get? b=some o->b≠h3.objs.size:=λb o e=>NB (Na e)
   refine ⟨λb o e n hf hx=>(x6.2 b (ne b o e)).trans (u.keep b o e n hf hx),λb o e n hf hx=>?_,u.free,λb o e hx=>?_,u.tups,u.frzs,u.tbls⟩
   ·obtain ⟨sl,e2⟩:=u.slot b o e n hf hx
    exact ⟨sl,(x6.2 b (ne b o e)).trans e2⟩
   ·obtain ⟨o',e2⟩:=u.there b o e hx
    exact ⟨o',(x6.2 b (ne b o e)).trans e2⟩
  have hokf:jb c.X.prog c.X.w H' h5:=λb u e=>(I'.hok b u e).stay (λa o ha e2=>by
   refine (x6.2 a ?_).trans e2
   intro z; subst z
   have hfree':H' h3.objs.size=none:=I'.free
   rcases ha with z | z
   ·subst z; rw [hfree'] at e; cases e
   ·rw [hfree'] at z; cases z) (λ_ z=>z) λ_ _ z=>z
  exact I3.Ez (ch:=fp) I'.os ub hokf I'.bare λb hb=>⟨(hfp b hb).2.2.2.1,(hfp b hb).2.1,(hfp b hb).2.2.2.2.1,(hfp b hb).2.2.2.2.2⟩
 have loop:codeAny (model c.X.prog c.X.w) c.X.A (.compLoop (.ListComp elt [⟨tg,iter,ifs,0⟩] scope pos) 0 (.ref it) (.ref Da) X'.env) (compPost (model c.X.prog c.X.w) c.X.A iD use QQ (.ref Da) h3.objs.size) { s2 with heap:=h4,toks:=s2.toks+([]:List (Str×Value)).length }:=by
  refine nW (λn s'=>∃ (i:Nat) (σ':L2.St) (H' ak:Hp) (vs:List V) (fq:Fp),n=ds.length - i/\i<=ds.length/\Inv X' [] σ' H' s'/\tn i s'.heap/\bu c' σ' H' ak ρt/\bw H1 aU H' ak/\H' Da=some (.lst vs)/\ak Da=none/\aY c.X.K H' ak ((os.take i).filterMap id) vs fq/\(fq.map (·.1)).Nodup/\(∀ b∈fq,H1 b.1=none)/\vs.length<=i/\∀ b∈fp,H' b=none) ?_ ds.length
   ⟨0,σ0,H2,aU,[],[],by simp,ND _,I4,Tn.keep _ _ _ t0 λb hb o e=>k4 b o (k3 b o e),S4,bw.f7 g.b tZ,ai,g.b.free tZ,by simp [aY],List.nodup_nil,(λb hb=>by cases hb),M4 _,λb hb=>by show upd H1 Da _ b=none; rw [aq (fpne b hb)]; exact (hfp b hb).1⟩
  refine λn s5 hh=>z5 hh λi σ5 H5 Hf5 vs hh=>hh.elim λfq hh=>w6 hh λen hi I5 t5 S5 hh=>w6 hh λg5 hD5 hfD5 hr5 hnd5 hh=>w3 hh λhfr5 hlv fr5=>?_
  subst en
  by_cases hlt:i<ds.length
  ·have ed:ds[i]?=some ds[i]:=Nr hlt
   have eo:os[i]?=some (os[i]'(by rw [hol]; exact hlt)):=Nr _
   generalize ds[i]=d at ed
   generalize os[i]'(by rw [hol]; exact hlt)=o at eo
   obtain ⟨hgo,hy⟩:=io.go i d H5 Hf5 g5.f g5.b ed
   refine bJ (Tn.item X' rfl rfl rfl rfl i [] s5 σ5 H5 iD I5 (fps fr5) t5 hgo) λr s6 hh=>hh.elim λu hh=>w2 hh λhr h6=>?_
   subst hr
   refine bJ h6 λ_ s7 hh=>z2 hh λx H7 hh=>w5 hh λI7 rx y7 t7 fr7=>?_
   obtain ⟨Hf7,g7,rx7⟩:=hy x H7 y7
   have I7':=I7.pinned (fps fr7) (Tn.obj _ _ t7)
   have S7:bu c' σ5 H7 Hf7 ρt:=S5.cH g7
   have hasg0:=hb c' rfl t i d o ed eo
   rw [hρ] at hasg0
   have hasg:=hasg0 σ5 H7 Hf7 x (λσ2 H2'=>∃ c6 ρ1,bu c' σ2 H2' c6 ρ1/\bw H7 Hf7 H2' c6/\BL ρt ρ1/\jj c' ifs ρ1 (nP (dJ c' elt ρ1 λr=>∃ z,o=some z/\r.sh=some z) (o=none))) S7 rx7 (λσ2 H2' c6 ρ1 S' g' hw=>⟨c6,ρ1,S',g',hw⟩) _ s7 u I7' rx
   refine bJ (show wpAny _ _ _ _ iD _ from hasg) λ_ s8 hh=>z2 hh λσ8 H8 hh=>w2 hh λI8 hh=>z2 hh λHf8 ρ8 hh=>w4 hh λS8 g8 w8 hC8=>?_
   refine bJ (mK (c:=c') rfl ifs S8 hC8 (Q:=λb H'=>∃ ak,nP (dJ c' elt ρ8 λr=>∃ z,o=some z/\r.sh=some z) (o=none) b/\bw H8 Hf8 H' ak) (λb H' ak hb' g'=>⟨ak,hb',g'⟩) I8) λb s9 hh=>hh.elim λH9 hh=>w2 hh λI9 hh=>hh.elim λHf9 hh=>w2 hh λhb9 g9=>?_
   have g79:=(g7.trans g8).trans g9
   have hD9:H9 Da=some (.lst vs):=g79.s _ _ hD5
   have hfD9:Hf9 Da=none:=g79.n Da hfD5 (by rw [hD5]; simp) (by intro ys; rw [hD5]; simp)
   have keepT:∀ {σ':L2.St} {H':Hp} {s':Shared},Inv X' ([]++je fp s7.heap) σ' H' s'->tn (i+1) s'.heap/\∀ b∈fp,H' b=none:=λ{σ' H' s'} I' =>
    ⟨Tn.keep _ _ _ t7 λb hb' ob e=>(I'.pin (b,ob) (Oo _ (Oo _ (dY hb' e)))).1,λb hb'=>by
      obtain ⟨ob,e,_⟩:=Tn.obj _ _ t7 b hb'
      exact (I'.pin (b,ob) (Oo _ (Oo _ (dY hb' e)))).2.1⟩
   have wk:∀ {σ':L2.St} {H' ak:Hp},bu c' σ' H' ak ρ8->bu c' σ' H' ak ρt:=λS'=>fh.weak S' w8.weak.1 w8.weak.2
   have tk:(os.take (i+1)).filterMap id=(os.take i).filterMap id++o.toList:=by
    rw [Sz,eo,List.filterMap_append]
    cases o <;> rfl
   cases b with
   | false =>
    have eo':=hb9.f rfl
    subst eo'
    rw [if_neg Nc]
    obtain ⟨t9,fr9⟩:=keepT I9
    have hr9:aY c.X.K H9 Hf9 ((os.take i).filterMap id) vs fq:=aY.mv g79.f _ (λa _ e1 e2=>⟨g79.s _ _ e1,g79.n a.1 e2 (by rw [e1]; simp) (by intro ys z; rw [e1] at z; cases z)⟩) hr5
    exact ⟨_,Nat.sub_lt_sub_left hlt (Po i),i+1,σ8,H9,Hf9,vs,fq,rfl,hlt,I9.fm,t9,wk (S8.cH g9),g5.trans g79,hD9,hfD9,by rw [tk]; simpa using hr9,hnd5,hfr5,Nat.le_succ_of_le hlv,fr9⟩
   | true =>
    rw [if_pos rfl]
    have hev:=hb9.t rfl σ8 H9 Hf9 (λv H'=>∃ ak r,(∃ z,o=some z/\r.sh=some z)/\bh c.X.K (λp=>H9 p=none) H' ak r v/\bw H9 Hf9 H' ak) (S8.cH g9) (λr v H' ak he r' g'=>⟨ak,r,he,r',g'⟩) _ s9 I9
    refine bJ (show wpAny _ _ _ _ iD _ from hev) λu2 s10 hh=>z2 hh λv2 H10 hh=>w3 hh λI10 r10 hh=>z2 hh λHf10 r hh=>w3 hh λeo0 re g10=>?_
    obtain ⟨z,rfl,eo'⟩:=eo0
    obtain ⟨f1,rf1,nd1,fr1⟩:=GA eo' re
    have z1:=dH.fz z rf1
    have z0:=aY.fz _ hr5
    have g510:=g79.trans g10
    have hr10:aY c.X.K H10 Hf10 ((os.take i).filterMap id) vs fq:=aY.mv g510.f _ (λa _ e1 e2=>⟨g510.s _ _ e1,g510.n a.1 e2 (by rw [e1]; simp) (by intro ys z; rw [e1] at z; cases z)⟩) hr5
    have hD10:H10 Da=some (.lst vs):=g10.s _ _ hD9
    have hfD10:Hf10 Da=none:=g10.n Da hfD9 (by rw [hD9]; simp) (by intro ys; rw [hD9]; simp)
    have app:=mq (X:=X') _ s10 σ8 H10 (.ref Da) [v2] (.ref Da) [u2] (λ_ H'=>H'=upd H10 Da (.lst (vs++[v2]))) I10 rfl (.cons r10 .nil) ⟨Da,vs,v2,rfl,rfl,hD10,NU (OP hlv hlt) hz,rfl⟩
    refine bJ (show wpAny _ _ _ _ iD _ from app) λ_ s11 ⟨_,H11,I11,_,e11⟩=>?_
    subst e11
    obtain ⟨t11,fr11⟩:=keepT I11
    have S10:bu c' σ8 H10 Hf10 ρ8:=(S8.cH g9).cH g10
    have gA:bw H1 aU (upd H10 Da (.lst (vs++[v2]))) Hf10:=uO ((g5.trans g79).trans g10) tZ hfD10
    refine ⟨_,Nat.sub_lt_sub_left hlt (Po i),i+1,σ8,_,Hf10,vs++[v2],fq++f1,rfl,hlt,I11.fm,t11,?_,gA,ai,hfD10,?_,?_,?_,by rw [NJ]; exact Ri hlv,fr11⟩
    ·refine (wk S10).apart hB0 hfD10 (λ⟨_,z⟩=>by rw [hD10] at z; cases z) λj r hj ho=>λz=>?_
     obtain ⟨b,eb,nb⟩:=howA j r hj ho
     obtain ⟨v',e3,q3⟩:=(wk S10).at_ j r hj (by rintro rfl; cases ho)
     rw [z] at e3; cases e3
     exact nb (uN eb q3).symm
    ·rw [tk]
     refine aY.mv (.refl _) _ (λa ha e1 e2=>⟨?_,e2⟩) (aY.snoc rf1 hr10)
     rw [aq λz=>by rw [z,hD10] at e1; cases e1]; exact e1
    ·rw [Ob,List.nodup_append]
     refine ⟨hnd5,nd1,λa ha b hb z=>?_⟩
     subst z
     obtain ⟨p,hp,ep⟩:=N1.mp ha
     obtain ⟨q,hq',eq⟩:=N1.mp hb
     have e1:=g79.s _ _ (z0 p hp).1
     have e2:=fr1 q hq'
     rw [eq,<- ep,e1] at e2; cases e2
    ·intro b hb
     rcases NF.mp hb with hb | hb
     ·exact hfr5 b hb
     ·exact (g5.trans g79).s.free (fr1 b hb)
  ·have e:i=ds.length:=Nat.le_antisymm hi (Nat.le_of_not_lt hlt)
   subst e
   refine bJ (Tn.done X' rfl rfl rfl rfl ds.length [] s5 σ5 H5 iD I5 (fps fr5) t5 (io.stop _ H5 Hf5 g5.f g5.b (M4 _))) λr s6 ⟨hr,I6⟩=>?_
   subst hr
   refine fin s6 σ5 H5 Hf5 vs fq I6 g5 hD5 hfD5 ?_ hnd5 hfr5
   rw [O1 (by rw [hol]; exact M4 _)] at hr5
   exact hr5
 exact codeAny_compStart_list loop (Tn.self _ 0 _ _ _ (Tn.keep _ _ _ t0 λb hb o e=>k4 b o (k3 b o e)) loop)
theorem uP:∀ {ds:List D} {vs:List V} {fq:Fp},aY K H Hf (ds.map .v) vs fq->av K Hf ds vs
 | [],_,_,h=>by simp only [OW,aY] at h; exact aC.mpr h.1
 | d::ds,_,_,h=>by
  simp only [M7,aY,dH] at h
  obtain ⟨x,r,f1,f2,rfl,h1,h2,-⟩:=h
  exact av.cons h1.1 (uP h2)
theorem GB:∀ os:List (Option D),(os.map (Option.map Sh.v)).filterMap id=(os.filterMap id).map Sh.v
 | []=>rfl
 | none::os=>GB os
 | some d::os=>congrArg (Sh.v d:: ·) (GB os)
theorem jj.imp (h:∀ b,T b->T' b):∀ {ifs:List Expr} {ρ:List Sl},jj c ifs ρ T->jj c ifs ρ T'
 | [],_,q=>h _ q
 | _::_,_,q=>λσ H Hf Q S z=>q σ H Hf Q S λb H' ak hb g=>z b H' ak ⟨λe=>jj.imp h (hb.t e),λe=>h _ (hb.f e)⟩ g
theorem zE (h:uL c tg ifs elt ρ0 d o):zD c tg ifs elt ρ0 d (o.map .v):=λσ H Hf v Q S r q=>h σ H Hf v Q S r λσ' H' ak ρ' S' g hw=>q σ' H' ak ρ' S' g ⟨hw.1,jj.imp (λb hb=>⟨λe=>λσ2 H2 c6 Q2 S2 q2=>hb.t e σ2 H2 c6 Q2 S2 λd2 v2 H3 Hf3 ed rv g3=>q2 (.va d2) v2 H3 Hf3 ⟨.v d2,by rw [ed]; rfl,rfl⟩ rv g3,λe=>by rw [hb.f e]; rfl⟩) hw.2⟩
theorem uQ {elt tg iter:Expr} {ifs:List Expr} {scope:Scope} {N':List Str} {ρ0:(Str->Addr)->List Sl} {R:Sl->Prop} (hq:c.X.xe=iD) (hfr:∀ t,wI t scope.names N ρ N' (ρ0 t))
 (h:CD c tg iter ρ λds=>Sd (ds.length<=sizeLine) (∃ os:List (Option D),os.length=ds.length /\
   (∀ c':Ctx P w K mg base k N' (bR scope sc) true,c'.X.xe=iD->∀ (t:Str->Addr) (i:Nat) (d:D) (o:Option D),ds[i]?=some d->os[i]?=some o->uL c' tg ifs elt (ρ0 t) d o)/\R (.ow (os.filterMap id))))
 (hcp:KR scope sc N':=by decide +kernel)
 (hs:∀ env v,foldedSetIterable iter env v=pure v:=by intro _ _; walk_at "u")
 {σ:L2.St} {H Hf:Hp} (S:bu c σ H Hf ρ) {aa:List (Addr×Obj)} {s:Shared} (I:Inv c.X aa σ H s) {use:Option (Value->Sem Unit)} {QQ:Value->Shared->Prop}
 (kont:∀ (s':Shared) (H' ak:Hp) (a C:Addr) (r:Sl),R r->(∃ m,s'.heap.Ns C m)->C∉c.X.fs->fk c.X aa H' C->bh c.X.K (λp=>H p=none) H' ak r (.ref a)->bw H Hf H' ak->(∀ h5,OF C s'.heap h5->Inv c.X aa σ H' { s' with heap:=h5 })->compPost (model c.X.prog c.X.w) c.X.A iD use QQ (.ref a) C (.ok .next) s') :
 wpAny (model c.X.prog c.X.w) c.X.A (comprehension (.ListComp elt [⟨tg,iter,ifs,0⟩] scope pos) scope c.X.env (firstIterPos [⟨tg,iter,ifs,0⟩] pos) (newList []) (firstAsync [⟨tg,iter,ifs,0⟩]) (firstIter [⟨tg,iter,ifs,0⟩] c.X.env) use) QQ iD s:=by
 refine CK (R:=λss=>∃ os:List D,ss=os.map .v/\R (.ow os)) hq hfr (λσ' H' ak Q S' q=>h σ' H' ak Q S' λds J H1 aU hd=>q ds J H1 aU ⟨hd.1,hd.2.elim λos ho=>⟨os.map (Option.map .v),by rw [M8]; exact ho.1,λc' hc t i d o e1 e2=>?_,os.filterMap id,?_,ho.2.2⟩⟩) hcp hs S I λs' H' ak a C ss vs fq hR hC1 hC2 xY ha h1 h2 r nd fr g hJ=>?_
 ·rw [Nd,Nk] at e2
  obtain ⟨o',e3,rfl⟩:=e2
  exact zE (ho.2.1 c' hc t i d o' e1 e3)
 ·exact GB os
 ·obtain ⟨os,rfl,hR⟩:=hR
  exact kont s' H' ak a C (.ow os) hR hC1 hC2 xY ⟨a,vs,rfl,ha,h1,h2,uP r⟩ g hJ
theorem dw {elt tg iter:Expr} {ifs:List Expr} {scope:Scope} {N':List Str} {ρ0:(Str->Addr)->List Sl} {R:Sl->Prop} (hq:c.X.xe=iD) (hfr:∀ t,wI t scope.names N ρ N' (ρ0 t))
 (h:CD c tg iter ρ λds=>Sd (ds.length<=sizeLine) (∃ os:List (Option D),os.length=ds.length /\
   (∀ c':Ctx P w K mg base k N' (bR scope sc) true,c'.X.xe=iD->∀ (t:Str->Addr) (i:Nat) (d:D) (o:Option D),ds[i]?=some d->os[i]?=some o->uL c' tg ifs elt (ρ0 t) d o)/\R (.ow (os.filterMap id))))
 (hcp:KR scope sc N':=by decide +kernel)
 (hs:∀ env v,foldedSetIterable iter env v=pure v:=by intro _ _; walk_at "u"):dJ c (.ListComp elt [⟨tg,iter,ifs,0⟩] scope pos) ρ R:=λσ H Hf Q S q aa s I=>by
 rw [hq]
 rw [show (eval (.ListComp elt [⟨tg,iter,ifs,0⟩] scope pos) c.X.env)=comprehension (.ListComp elt [⟨tg,iter,ifs,0⟩] scope pos) scope c.X.env (firstIterPos [⟨tg,iter,ifs,0⟩] pos) (newList []) (firstAsync [⟨tg,iter,ifs,0⟩]) (firstIter [⟨tg,iter,ifs,0⟩] c.X.env) from rfl]
 exact uQ hq hfr h hcp hs S I λs' H' ak a C r hr ⟨m,hm⟩ _ _ hrep g hJ=>⟨m,hm,λh5 x6=>⟨.ref a,H',hJ h5 x6,rfl,q r _ H' ak hr hrep g⟩⟩
theorem nX:OF a h h:=⟨rfl,λ_ _=>rfl⟩
theorem CL (I:Inv X aa σ H s) (hC:fk X aa H C) (hsb:OF C s.heap h5):Inv X aa σ H { s with heap:=h5 }:=by
 refine I.Ez (ch:=[C]) rfl ⟨λb o e _ _ hx=>?_,λb o e _ _ hx=>⟨o.slots,?_⟩,λb o e n _=>n,λb o e hx=>⟨o,?_⟩,λb xs e=>e,λb o u e=>e,λb ps e=>⟨#[],by simpa using e⟩⟩ (λb u e=>(I.hok b u e).stay (λa o ha e2=>?_) (λ_ z=>z) λ_ _ z=>z) I.bare λb hb=>?_
 ·exact (hsb.2 b (λz=>hx (by rw [z]; exact Ng))).trans e
 ·exact (hsb.2 b (λz=>hx (by rw [z]; exact Ng))).trans e
 ·exact (hsb.2 b (λz=>hx (by rw [z]; exact Ng))).trans e
 ·refine (hsb.2 a ?_).trans e2
  intro z; subst z
  rcases ha with z | z
  ·subst z; rw [hC.1] at e; cases e
  ·rw [hC.1] at z; cases z
 ·have:b=C:=by simpa using hb
  subst this
  exact ⟨hC.2.2.2.1,hC.2.1,hC.2.2.2.2.1,hC.2.2.2.2.2⟩
theorem GC {elt tg iter:Expr} {ifs:List Expr} {scope:Scope} {N':List Str} {ρ0:(Str->Addr)->List Sl} {nx:List Sl->Prop} {p:Pt} {x:Str} {pos2 posA:Pos} {i:Nat} (hN:At N i x) (hq:c.X.xe=iD) (hfr:∀ t,wI t scope.names N ρ N' (ρ0 t))
 (h:CD c tg iter ρ λds=>Sd (ds.length<=sizeLine) (∃ os:List (Option D),os.length=ds.length /\
   (∀ c':Ctx P w K mg base k N' (bR scope sc) true,c'.X.xe=iD->∀ (t:Str->Addr) (i:Nat) (d:D) (o:Option D),ds[i]?=some d->os[i]?=some o->uL c' tg ifs elt (ρ0 t) d o)/\Nx ρ i nx (.ow (os.filterMap id))))
 (hsw:(pos2.line == pos.line && !scope.names.any λ(n,k)=>n == x && (k == NameKind.local || k == Qy))=true:=by decide +kernel) (hl:sc.names.lookup x=some .local:=by walk_at "u")
 (hcp:KR scope sc N':=by decide +kernel)
 (hs:∀ env v,foldedSetIterable iter env v=pure v:=by intro _ _; walk_at "u"):fK c (.Assign [.Name x pos2] (.ListComp elt [⟨tg,iter,ifs,0⟩] scope pos) posA) ρ nx p:=λσ H Hf D S o aa s I=>by
 have hsw':swapsWith (.ListComp elt [⟨tg,iter,ifs,0⟩] scope pos) (some (.Name x pos2)) posA.line c.X.env=pure true:=by
  have e1:c.X.env.blockKind=.function:=by unfold Env.blockKind; rw [show c.X.env.scope.kind=.function from I.ok.kind]; rfl
  have e2:c.X.env.kindOf x=some .local:=by unfold NY; rw [c.esc]; exact hl
  show pure (c.X.env.blockKind == ScopeKind.function && c.X.env.kindOf x == some NameKind.local && pos2.line == pos.line && !scope.names.any λ(n,k)=>n == x && (k == NameKind.local || k == Qy))=pure true
  rw [e1,e2]; exact congrArg pure hsw
 rw [hq,exec_Assign_Name_used x pos2 _ posA hsw']
 refine MZ (wpAny_standAt ?_)
 refine MZ ?_
 rw [show (evalThenUse (.ListComp elt [⟨tg,iter,ifs,0⟩] scope pos) c.X.env (assign (.Name x pos2) c.X.env))=(do let _ <- comprehension (.ListComp elt [⟨tg,iter,ifs,0⟩] scope pos) scope c.X.env (firstIterPos [⟨tg,iter,ifs,0⟩] pos) (newList []) (firstAsync [⟨tg,iter,ifs,0⟩]) (firstIter [⟨tg,iter,ifs,0⟩] c.X.env) (some (assign (.Name x pos2) c.X.env)); pure ()) from rfl]
 refine MZ (uQ hq hfr h hcp hs S I λs' H' ak a C r hr ⟨m,hm⟩ hCX hCf hrep g hJ=>?_)
 have J:=hJ s'.heap nX
 obtain ⟨oC,es,ep,e1,e2,e3,e4⟩:=hm
 have fps:∀ b∈[C],fk c.X aa H' b:=λb hb=>by rw [Nj.mp hb]; exact hCf
 have hob:∀ b∈[C],∃ o,s'.heap.get? b=some o/\∀ v:Option Value,o.data≠.cell v:=λb hb=>by
  rw [Nj.mp hb]; exact ⟨oC,e1,λv z=>by rw [e2] at z; cases z⟩
 have J2:=J.pinned fps hob
 have hmem:(C,oC)∈je [C] s'.heap:=dY Ng e1
 obtain ⟨ρ',hset,hx⟩:=hr
 have st:=yI (nF (X:=c.X) (i:=i) (pos:=pos2) (by rw [c.eN]; exact c.nd) (by rw [c.eN]; exact hN.get) (by rw [c.esc]; exact c.vis x hN.mem) (c.fn x (.inr hl))) (v:=.ref a) (σ:=σ) (H:=H') (Q:=λσ' H''=>D.nx σ' H'') (o.nx _ H' ak _ (hset.eq ▸ S.set g hrep) hx) _ s' (.ref a) J2 rfl
 rw [hq] at st
 refine bJ st λ_ s'' ⟨σ',H'',I'',dn⟩=>?_
 have pC:=I''.pin (C,oC) (Oo _ (Oo _ hmem))
 refine ⟨m,⟨oC,es,ep,pC.1,e2,e3,e4⟩,λh' hsb=>?_⟩
 have I3:Inv c.X aa σ' H'' s'':=I''.fm
 have I4:=CL I3 (C:=C) ⟨pC.2.1,hCf.2⟩ hsb
 exact M3 (M3 ⟨_,_,I4,dn⟩)
end
mutual
def D.nl:D->Prop
 | .lst _=>False
 | .fdK _ _=>False
 | .fdT _ _=>False
 | .tup ds=>D.pq ds
 | _=>True
def D.pq:List D->Prop
 | []=>True
 | d::ds=>d.nl/\D.pq ds
end
theorem uR:∀ {ds:List D},D.pq ds↔∀ d∈ds,d.nl
 | []=>by simp [D.pq]
 | d::ds=>by simp [D.pq,uR (ds:=ds)]
theorem dR {α:Type} {f:α->D} {l:List α} (h:∀ x∈l,(f x).nl):D.pq (l.map f):=uR.mpr λd hd=>by
 obtain ⟨x,hx,rfl⟩:=N1.mp hd
 exact h x hx
theorem kI:(D.int i).nl:=by simp [D.nl]
theorem CM (l:List Int):D.pq (l.map D.int):=dR λx _=>kI
theorem sG (h:D.pq ds):(D.tup ds).nl:=by simpa [D.nl] using h
noncomputable def HO.mt:HO->Prop | .lst _=>True | .dK _=>True | .dT _=>True | _=>False
theorem wJ {K:M0} (hp:Hf p=some o) (hm:HO.mt o) (h:dh K Hf a xs):dh K (del Hf p) a xs:=by
 rcases h with (h | ⟨o',h⟩) | h
 ·exact .inl (.inl (by rw [cz (by rintro rfl; rw [hp] at h; cases h; exact hm)]; exact h))
 ·exact .inl (.inr ⟨o',by rw [cz (by rintro rfl; rw [hp] at h; cases h; exact hm)]; exact h⟩)
 ·exact .inr h
mutual
theorem sH {K:M0} {Hf:Hp} {p:Addr} {o:HO} (hp:Hf p=some o) (hm:HO.mt o):∀ (d:D) {v:V},d.nl->Rep K Hf d v->Rep K (del Hf p) d v
 | .non,_,_,h=>by simpa [Rep] using h
 | .bl _,_,_,h=>by simpa [Rep] using h
 | .int _,_,_,h=>by simpa [Rep] using h
 | .str _,_,_,h=>by simpa [Rep] using h
 | .adr _,_,_,h=>by simpa [Rep] using h
 | .tup ds,v,f,h=>by
  simp only [Rep] at h |-
  obtain ⟨a,xs,e,h1,h2⟩:=h
  exact ⟨a,xs,e,wJ hp hm h1,nY hp hm ds (by simpa [D.nl] using f) h2⟩
 | .lst _,_,f,_=>by simp [D.nl] at f
 | .fdK _ _,_,f,_=>by simp [D.nl] at f
 | .fdT _ _,_,f,_=>by simp [D.nl] at f
 | .exc C,_,_,h=>by
  simp only [Rep] at h |-
  obtain ⟨a,e,h⟩:=h
  exact ⟨a,e,by rw [cz (by rintro rfl; rw [hp] at h; cases h; exact hm)]; exact h⟩
theorem nY {K:M0} {Hf:Hp} {p:Addr} {o:HO} (hp:Hf p=some o) (hm:HO.mt o):∀ (ds:List D) {xs:List V},D.pq ds->av K Hf ds xs->av K (del Hf p) ds xs
 | [],_,_,h=>by simpa [av] using h
 | d::ds,xs,f,h=>by
  simp only [av] at h |-
  simp only [D.pq] at f
  obtain ⟨x,r,e,h1,h2⟩:=h
  exact ⟨x,r,e,sH hp hm d f.1 h1,nY hp hm ds f.2 h2⟩
end
noncomputable def Sl.nl:Sl->Prop
 | .va d=>d.nl
 | .ow ds=>D.pq ds
 | _=>False
theorem bh.LQ {K:M0} {H H' ak:Hp} (hp:ak p=some oz) (hm:HO.mt oz) (h0:H p=some o) (f:r.nl) (h:bh K (λp=>H p=none) H' ak r v):bh K (λp=>H p=none) H' (del ak p) r v:=by
 cases r with
 | va d=>exact sH hp hm d f h
 | ow ds =>
  obtain ⟨q,xs,rfl,fq,h1,h2,h3⟩:=h
  refine ⟨q,xs,rfl,fq,h1,?_,nY hp hm ds f h3⟩
  rw [cz (by rintro rfl; rw [h0] at fq; cases fq)]; exact h2
 | _=>exact f.elim
section
variable {P:Program} {w:World} {K:M0} {mg:Str->Option Value} {base:Heap} {k:Nat} {N:List Str} {sc:Scope} {bk:Bool} {c:Ctx P w K mg base k N sc bk} {ρ ρ':List Sl} {pos ap cp px tp:Pos} {a b e f:Expr} {es:List Expr} {R:D->Prop} {T:Bool->Prop} {nx:List Sl->Prop} {p:Pt} {x:Str} {i:Nat} {r:Sl} {ds:List D}
noncomputable def Sl.lQ:Sl->Option D
 | .ow ds=>some (.lst ds) | .aw _ ds=>some (.lst ds)
 | _=>none
theorem kJ (h:r.lQ=some d):r.owned=true:=by cases r <;> first | rfl | cases h
theorem iP {κ:Type} {Hf:Hp} {kvs:List (κ×D)} {xs:List (κ×V)} (h:lH K Hf kvs xs):xs.map (·.1)=kvs.map (·.1)/\av K Hf (kvs.map (·.2)) (xs.map (·.2)):=by
 unfold lH at h
 induction h with
 | nil=>exact ⟨rfl,aC.mpr rfl⟩
 | cons h t ih=>exact ⟨by rw [M7,M7,ih.1,h.1],.cons h.2 ih.2⟩
theorem fy (h:kB K Hf kvs xs):xs.map (·.1)=kvs.map (·.1)/\(∀ y∈xs,dh K Hf y.2.1 (y.1.map kV))/\av K Hf (kvs.map (·.2)) (xs.map (·.2.2)):=by
 refine ⟨?_,h.zC,?_⟩
 ·unfold kB at h
  induction h with
  | nil=>rfl
  | cons h t ih=>rw [M7,M7,ih,h.1]
 ·unfold kB at h
  induction h with
  | nil=>exact aC.mpr rfl
  | cons h t ih=>exact .cons h.2.2 ih
theorem bh.lQ (h:r.lQ=some d) (q:bh K fr H Hf r v):∃ p o,v=.ref p/\fr p/\H p=some o/\Hf p=none/\HO.mt o/\Rep K (upd Hf p o) d v:=by
 have sf:∀ {p:Addr} {o:HO},Hf p=none->aN Hf (upd Hf p o):=λhp b u e=>by rw [aq (aE e hp)]; exact e
 cases r with
 | ow ds=>cases h; obtain ⟨p,xs,rfl,f,h1,h2,h3⟩:=q; exact ⟨p,_,rfl,f,h1,h2,trivial,br.mpr ⟨p,xs,rfl,.inl (.inl ai),h3.mono (sf h2)⟩⟩
 | aw a ds=>cases h; obtain ⟨p,xs,rfl,f,h1,h2,h3⟩:=q; exact ⟨p,_,rfl,f.1,h1,h2,trivial,br.mpr ⟨p,xs,rfl,.inl (.inl ai),h3.mono (sf h2)⟩⟩
 | _=>cases h
theorem fh.jY (S:fh K H₀ fj σ H Hf ρ) (h:ρ[i]?=some r) (hr:r.lQ=some d) :
 ∃ q o,H q=some o/\Hf q=none/\HO.mt o/\fh K H₀ fj σ H (L2.upd Hf q o) (ρ.set i (.va d)):=by
 obtain ⟨q,ev,rq⟩:=S.own h (kJ hr)
 obtain ⟨_,o,e0,fq,hq,vZ,hm,rd⟩:=rq.lQ hr
 cases e0
 have hi:i<ρ.length:=(Nf.mp h).1
 have hown:=kJ hr
 have sf:aN Hf (L2.upd Hf q o):=λb u e=>by rw [L2.aq (aE e vZ)]; exact e
 have sb:aN (L2.upd Hf q o) H:=λb u e=>by
  by_cases z:b=q
  ·subst z; rw [L2.ai] at e; rw [hq]; exact e
  ·rw [L2.aq z] at e; exact S.sb b u e
 refine ⟨q,o,hq,vZ,hm,⟨S.bas.s,S.bas.f.trans sf,sb,λb h1 h2 h3=>?_⟩,by simp [S.len],λj r' hj hu=>?_,λj j' r1 r2 q' hne h1 h2 o1 o2=>?_⟩
 ·have e:=S.bas.n b h1 h2 h3
  by_cases z:b=q
  ·subst z; exact absurd fq h2
  ·rw [L2.aq z]; exact e
 ·by_cases z:j=i
  ·subst z
   rw [Om hi] at hj
   cases hj
   exact ⟨_,ev,rd⟩
  ·rw [Oq (Nv z)] at hj
   obtain ⟨v,e1,e2⟩:=S.at_ j r' hj hu
   refine ⟨v,e1,?_⟩
   have key:r'.owned=true->v≠.ref q:=λho z=>by
    subst z
    exact S.sep i j _ _ q (Nv ‹_›) h hj hown ho ev e1
   exact bh.mv (B:=λz=>z=q) sf (λz u hz e1 _ e3=>⟨e1,by rw [L2.aq hz]; exact e3⟩) (by rintro _ z rfl ⟨ys,e9⟩; rw [hq] at e9; cases e9; exact hm) (λho z e=>by rintro rfl; exact key ho e) e2
 ·have out:∀ {j:Nat} {r:Sl},(ρ.set i (.va d))[j]?=some r->r.owned=true->ρ[j]?=some r:=λ{j r} hj ho=>by
   by_cases z:j=i
   ·subst z; rw [Om hi] at hj; cases hj; cases ho
   ·rw [Oq (Nv z)] at hj; exact hj
  exact S.sep j j' r1 r2 q' hne (out h1 o1) (out h2 o2) o1 o2
theorem qg (sb:aN Hf H) (hq:H q=some o) (vZ:Hf q=none) (g:bw H (upd Hf q o) H' ak):bw H Hf H' (del ak q) :=
 ⟨g.s,λb o e=>by rw [cz (aE e vZ)]; exact g.f b o (by rw [aq (aE e vZ)]; exact e),λb o e=>by obtain ⟨_,e2⟩:=iM e; exact g.b b o e2,λb h1 h2 h3=>by
   by_cases z:b=q
   ·subst z; exact iL
   ·rw [cz z]; exact g.n b (by rw [aq z]; exact h1) h2 h3⟩
theorem JF (i) (hi:At ρ i r) (hr:r.lQ=some d0) (hs:SSet ρ i (.va d0) ρ') (h:aI c e ρ' λd=>Sd d.nl (R d)):aI c e ρ R:=λσ H Hf Q S q=>by
 obtain ⟨a,o,ha,x8,hm,S1⟩:=S.jY hi.get hr
 rw [<- hs.eq] at S1
 exact h σ H _ Q S1 λd v H' ak ⟨fl,rd⟩ rv g=>q d v H' _ rd (sH (g.f a _ ai) hm d fl rv) (qg S.sb ha x8 g)
theorem uS (i) {R:Sl->Prop} (hi:At ρ i r) (hr:r.lQ=some d0) (hs:SSet ρ i (.va d0) ρ') (h:dJ c e ρ' λd=>Sd d.nl (R d)):dJ c e ρ R:=λσ H Hf Q S q=>by
 obtain ⟨a,o,ha,x8,hm,S1⟩:=S.jY hi.get hr
 rw [<- hs.eq] at S1
 exact h σ H _ Q S1 λd v H' ak ⟨fl,rd⟩ rv g=>q d v H' _ rd (rv.LQ (g.f a _ ai) hm ha fl) (qg S.sb ha x8 g)
theorem d8 {st:List Stmt} (i) (hi:At ρ i r) (hr:r.lQ=some d0) (hs:SSet ρ i (.va d0) ρ') (h:aH c st ρ' nx p):aH c st ρ nx p:=λσ H Hf D S o=>by
 obtain ⟨a,ob,ha,x8,hm,S1⟩:=S.jY hi.get hr
 rw [<- hs.eq] at S1
 exact h σ H _ D S1 o
theorem JG {st:Stmt} (i) (hi:At ρ i r) (hr:r.lQ=some d0) (hs:SSet ρ i (.va d0) ρ') (h:fK c st ρ' nx p):fK c st ρ nx p:=λσ H Hf D S o=>by
 obtain ⟨a,ob,ha,x8,hm,S1⟩:=S.jY hi.get hr
 rw [<- hs.eq] at S1
 exact h σ H _ D S1 o
theorem JH (hN:At N i x) (hi:At ρ i r) (hr:r.lQ=some (.lst ds)) (hs:SSet ρ i (.va (.lst ds)) ρ') (h:aI c b ρ' λy=>Sd y.nl (∃ j d,y=.int j/\ki ds j=some d/\Sd d.nl (R d))) (hx:At ρ' i (.va (.lst ds)))
 (hd:(x == ("__debug__":Str))=false:=by decide) (hcd:(x == ("__classdict__":Str))=false:=by decide) (hp:jW b:=by with_unfolding_all exact λ_ _=>rfl):aI c (.Subscript (.Name x p2) b pos) ρ R :=
 JF i hi hr hs (JB (uz hN hx (h.imp λy ⟨_,j,d,e1,e2,e3⟩=>⟨ds,j,d,rfl,e1,e2,e3⟩) hd hcd) hp)
end
end EV
set_option maxHeartbeats 0
namespace EV
open PySem PySem.Spec PyProof.Rows L2
section
variable {P:Program} {w:World} {K:M0} {mg:Str->Option Value} {base h:Heap}
def ay (K:M0) (mg:Str->Option Value) (x:Str) (st:Stmt):Prop:=∃ f fd,mg x=some (.ref f)/\dQ K x x st f fd
theorem GD {st:Stmt} {kV doc pm cdv ct:Value} (KX:K.In h) (G:h.Ns mainGlobals mg) (a:NZ K mainGlobals x=some (some (.ref f)))
 (l:K.lookup f=some ⟨oc,od,.func (OV x x (fJ st) (au st) (aQ st) .none kV doc pm an cdv ct),osl⟩) (c:Rx K cdv x=true) (k:OL K (.ref f)=true):ay K mg x st :=
 ⟨f,_,PySem.W.mg_of KX G a,Gb l c k⟩
theorem GF (e:(t == Of T)=false) (m:PySem.W.kitMeta T=true) (s:PySem.W.subIn K t (.type T)=some b):PySem.W.kitOne K t (.type T)=some b:=by
 unfold PySem.W.kitOne PySem.W.kitCls
 simp [e,m,s]
structure Txt (K:M0) (mg:Str->Option Value):Prop where
 abs:mg "abs"=none
 len:mg "len"=none
 isin:mg "isinstance"=none
 range:mg "range"=none
 int:mg "int"=none
 bool:mg "bool"=none
 tuple:mg "tuple"=none
 list:mg "list"=none
 max:mg "max"=none
 min:mg "min"=none
 sum:mg "sum"=none
 sorted:mg "sorted"=none
 zip:mg "zip"=none
 enum:mg "enumerate"=none
 all:mg "all"=none
 any:mg "any"=none
 dict:mg "dict"=none
 ib:PySem.W.kitOne K (.type "int") (.type "bool")=some false
theorem GG (KX:K.In h) (G:h.Ns mainGlobals mg)
 (z1:NZ K mainGlobals "abs"=some none)
 (z2:NZ K mainGlobals "len"=some none)
 (z3:NZ K mainGlobals "isinstance"=some none)
 (z4:NZ K mainGlobals "range"=some none)
 (z5:NZ K mainGlobals "int"=some none)
 (z6:NZ K mainGlobals "bool"=some none)
 (z7:NZ K mainGlobals "tuple"=some none)
 (z8:NZ K mainGlobals "list"=some none)
 (z9:NZ K mainGlobals "max"=some none)
 (z10:NZ K mainGlobals "min"=some none)
 (z11:NZ K mainGlobals "sum"=some none)
 (z12:NZ K mainGlobals "sorted"=some none)
 (z13:NZ K mainGlobals "zip"=some none)
 (z14:NZ K mainGlobals "enumerate"=some none)
 (z15:NZ K mainGlobals "all"=some none)
 (z16:NZ K mainGlobals "any"=some none)
 (z17:NZ K mainGlobals "dict"=some none)
 (sib:PySem.W.subIn K (.type "int") (.type "bool")=some false):Txt K mg :=
 ⟨N4 KX G z1,N4 KX G z2,N4 KX G z3,N4 KX G z4,N4 KX G z5,N4 KX G z6,N4 KX G z7,N4 KX G z8,
  N4 KX G z9,N4 KX G z10,N4 KX G z11,N4 KX G z12,N4 KX G z13,N4 KX G z14,N4 KX G z15,N4 KX G z16,N4 KX G z17,
  GF (by decide) (by decide) sib⟩
theorem JI {α:Type} (us:List α) (h:us.length=1):∃ a,us=[a]:=by match us,h with | [a],_=>exact ⟨a,rfl⟩
theorem JJ {α:Type} (us:List α) (h:us.length=2):∃ a b,us=[a,b]:=by match us,h with | [a,b],_=>exact ⟨a,b,rfl⟩
theorem JK {α:Type} (us:List α) (h:us.length=3):∃ a b c,us=[a,b,c]:=by match us,h with | [a,b,c],_=>exact ⟨a,b,c,rfl⟩
theorem JL {α:Type} (us:List α) (h:us.length=4):∃ a b c d,us=[a,b,c,d]:=by match us,h with | [a,b,c,d],_=>exact ⟨a,b,c,d,rfl⟩
theorem aO (P) (w) (base) {st:Stmt} (D:ay K mg x st) (ok:∀ {f:Addr} {fd:FuncData},dQ K x x st f fd->aZ P w K mg base (c9 P w) k f fd ps (dM K F))
 (hb:∀ (kV doc pm:Value) (an:Option Addr) (cdv ct:Value) (us:List Value),us.length=ps.length->bindArgs (OV x x (fJ st) (au st) (aQ st) .none kV doc pm an cdv ct) ⟨us,[]⟩=pure (ps.zip us):=by intro _ _ _ _ _ _ us hl; first | (obtain ⟨a,rfl⟩:=JI us hl; rfl) | (obtain ⟨a,b,rfl⟩:=JJ us hl; rfl) | (obtain ⟨a,b,c,rfl⟩:=JK us hl; rfl) | (obtain ⟨a,b,c,d,rfl⟩:=JL us hl; rfl) | (obtain ⟨a,b,c,d,e,rfl⟩:=len5 us hl; rfl) | (obtain ⟨a,b,c,d,e,f,rfl⟩:=len6 us hl; rfl) | (obtain rfl:=len0 us hl; rfl)):c7 P w K mg base k x F :=
 let ⟨f,fd,m,Fu⟩:=D; ⟨f,fd,ps,m,Fu.kp,Fu.binds hb,ok Fu⟩
noncomputable def zF:Fn:=λds r=>∃ ns:List Int,ns.length<=63/\ds=[.lst (ns.map D.int)]/\r=.ok (.va (.bl true))
theorem GH (H) (a) (ns:List Int) (hl:ns.length<=63) (hS:gF K H a (ns.map V.int)):dM K zF [.ref a] H (λv _=>v=.bl true) λ_ _ _=>False :=
 ⟨H,[.lst (ns.map D.int)],.ok (.va (.bl true)),.refl H,.cons (br.mpr ⟨a,_,rfl,hS,jh ns⟩) (aC.mpr rfl),⟨ns,hl,rfl,rfl⟩,λv H' ak _ r=>(ku (K:=K) (H:=ak)).mp r⟩
theorem walk {l:PySem.W.OpenLaw} {K:Params->M0} (hk:k<=20) (hn:l.most=some 63) (hdf:d.params.defaults=[])
 (hY:∀ (w:World) (h:Heap),YP w h->(K w.params).In h)
 (F:∀ (w:World) (mg:Str->Option Value) (fa:Addr) (h:Heap),(K w.params).In h->h.Ns mainGlobals mg->mg d.name=some (.ref fa) ->
   ∃ fd:FuncData,(∀ (s:Shared) (u:Value),BindsTo s fd ⟨[u],[]⟩ [("_law_script",u)])/\∀ base:Heap,(K w.params).In base->base.Ns mainGlobals mg->aZ l.prog w (K w.params) mg base (c9 l.prog w) 20 fa fd ["_law_script"] (dM (K w.params) zF)) :
 PySem.W.WalkO q loose XP YP l.row.toRowW d [] (λf vs=>PySem.call f vs) :=
 L2.Co (n:=63) (k:=20) (x:="_law_script") (CX:=λw=>c9 l.prog w) (sp:=λw=>dM (K w.params) zF) hn (by decide) hdf ⟨rfl,by decide,by decide⟩ hY F (λ_ H a ns hl _ hS=>GH H a ns hl hS) λ_ _ _ _ _ ⟨_,_,_,_,_,q⟩=>q
end
theorem qh (f:α->β) (xs) (lo hi):EV.cutD (xs.map f) lo hi=(EV.cutD xs lo hi).map f:=by
 unfold EV.cutD; simp only [M8,RB,List.map_drop]
theorem iQ (h0:0<=j) (h1:j<xs.length):ki xs j=xs[j.toNat]?:=by
 unfold ki Iw
 rw [if_pos h0,if_pos h1]; rfl
theorem uT {j:Int} (h0:j<0) (h1:0<=j+xs.length):ki xs j=xs[(j+xs.length).toNat]?:=by
 unfold ki Iw
 rw [if_neg (by lia)]
 rw [if_pos (by lia)]; rfl
theorem qm (h:a.natAbs<2 ^ 63):Oh a<=64:=by
 unfold Oh
 by_cases z:a=0
 ·subst z; decide
 ·have e:(a == 0)=false:=by simpa using z
  rw [e,if_neg Nc]
  have:=(Nat.log2_lt (n:=a.natAbs) (k:=63) (by lia)).mpr h
  lia
theorem qp (h:a.natAbs<2 ^ 63):EV.MulOk a b:=IntMulOk.of_left (qm h)
theorem nZ (h:(p7 0 n)[i]?=some d):i<n/\d=.int (i:Int):=by
 unfold p7 at h
 simp only [Nd,Nk] at h
 obtain ⟨j,h1,rfl⟩:=h
 obtain ⟨hj,rfl⟩:=Nf.mp h1
 simp at hj
 exact ⟨hj,by simp⟩
section
variable {K:M0}
end
end EV
namespace EV
open PySem PySem.Spec PySem.Calls PyProof.Rows L2
noncomputable def HO.dct:HO->Prop | .dK _=>True | .dT _=>True | _=>False
theorem zG (I:Inv X aa σ H s) (hu:H a=some u) (nu:∀ xs,u≠.tup xs) (nw:∀ y,u≠.own y) (nt:∀ ps,u≠.tbl ps) (nf:∀ o z,X.H₀ a≠some (.frz o z))
 (hv:bq X.prog X.w H s.heap a v):Inv X aa σ (upd H a v) s:=by
 have hne:∀ {b:Addr} {z:HO},H b=some z->z≠u->b≠a:=λe d q=>by subst q; rw [hu] at e; cases e; exact d rfl
 have hno:∀ {b:Addr},H b=none->b≠a:=λe q=>by subst q; rw [hu] at e; cases e
 have hst:∀ {b:Addr} {z:HO},bq X.prog X.w H s.heap b z->bq X.prog X.w (upd H a v) s.heap b z:=λq =>
  q.stay (λ_ _ _ e=>e) (λb e=>by rw [aq (hne e (Nv (nw _)))]; exact e) λb xs e=>by rw [aq (hne e (Nv (nu xs)))]; exact e
 have fr:=I.free
 exact {
  ok:=I.ok,os:=I.os,bare:=I.bare,loc:=I.loc,cell:=I.cell,len:=I.len
  base:=⟨I.base.keep,I.base.slot,λb o h1 h2 h3=>by have e:=I.base.free b o h1 h2 h3; rw [aq (hno e)]; exact e,I.base.there,
   λb xs e=>by have q:=I.base.tups b xs e; rw [aq (hne q (Nv (nu xs)))]; exact q,
   λb o z e=>by
    have q:=I.base.frzs b o z e
    by_cases w:b=a
    ·subst w; exact absurd e (nf o z)
    ·rw [aq w]; exact q,
   λb ps e=>by obtain ⟨m,q⟩:=I.base.tbls b ps e; exact ⟨m,by rw [aq (hne q (Nv (nt _)))]; exact q⟩⟩
  free:=by rw [aq (hno I.free)]; exact I.free
  freeC:=λx c e=>by have q:=I.freeC x c e; rw [aq (hno q)]; exact q
  pin:=λq hq=>by obtain ⟨h1,h2,h3⟩:=I.pin q hq; exact ⟨h1,by rw [aq (hno h2)]; exact h2,h3⟩
  hok:=λb z e=>by
   by_cases w:b=a
   ·subst w; rw [ai] at e; cases e; exact hst hv
   ·rw [aq w] at e; exact hst (I.hok b z e) }
theorem CN (I:Inv X aa σ H s) (hu:H a=some u) (hd:HO.dct u) :
 ∃ o,Inv X aa σ (upd H a (.frz o u)) s/\∀ o z,X.H₀ a≠some (.frz o z):=by
 obtain ⟨o,ho⟩:=Gn (I.hok a u hu)
 have nf:∀ o z,X.H₀ a≠some (.frz o z):=λo z e=>by
  have q:=I.base.frzs a o z e
  rw [hu] at q; cases q; exact hd
 exact ⟨o,zG I hu (by rintro xs rfl; exact hd) (by rintro y rfl; exact hd) (by rintro ps rfl; exact hd) nf ⟨ho,I.hok a u hu⟩,nf⟩
theorem zH (I:Inv X aa σ H s) (hu:H a=some (.frz o u)) (nf:∀ o z,X.H₀ a≠some (.frz o z)):Inv X aa σ (upd H a u) s :=
 zG I hu (by intro xs z; cases z) (by intro y z; cases z) (by intro ps z; cases z) nf (I.hok a _ hu).2
noncomputable def Sl.qt:Sl->Option D
 | .oK kvs=>some (.fdK (kvs.map (·.1)) (kvs.map (·.2))) | .aK _ kvs=>some (.fdK (kvs.map (·.1)) (kvs.map (·.2)))
 | .oT kvs=>some (.fdT (kvs.map (·.1)) (kvs.map (·.2))) | .aT _ kvs=>some (.fdT (kvs.map (·.1)) (kvs.map (·.2)))
 | _=>none
theorem kK {r:Sl} (h:r.qt=some d):r.owned=true:=by cases r <;> first | rfl | cases h
section
variable {K:M0}
theorem bh.qt (h:r.qt=some d) (q:bh K fr H Hf r v):∃ p u,v=.ref p/\fr p/\H p=some u/\Hf p=none/\HO.dct u/\∀ o,Rep K (L2.upd Hf p (.frz o u)) d v:=by
 have sf:∀ {p:Addr} {o:HO},Hf p=none->aN Hf (L2.upd Hf p o):=λhp b u e=>by rw [aq (aE e hp)]; exact e
 cases r with
 | oK ds=>cases h; obtain ⟨p,xs,rfl,f,h1,h2,h3⟩:=q; exact ⟨p,_,rfl,f,h1,h2,trivial,λo=>iG.mpr ⟨p,xs,o,rfl,ai,(iP h3).1,(iP h3).2.mono (sf h2)⟩⟩
 | aK a ds=>cases h; obtain ⟨p,xs,rfl,f,h1,h2,h3⟩:=q; exact ⟨p,_,rfl,f.1,h1,h2,trivial,λo=>iG.mpr ⟨p,xs,o,rfl,ai,(iP h3).1,(iP h3).2.mono (sf h2)⟩⟩
 | oT ds=>cases h; obtain ⟨p,xs,rfl,f,h1,h2,h3⟩:=q; exact ⟨p,_,rfl,f,h1,h2,trivial,λo=>iH.mpr ⟨p,xs,o,rfl,ai,(fy h3).1,λy hy=>az (sf h2) ((fy h3).2.1 y hy),(fy h3).2.2.mono (sf h2)⟩⟩
 | aT a ds=>cases h; obtain ⟨p,xs,rfl,f,h1,h2,h3⟩:=q; exact ⟨p,_,rfl,f.1,h1,h2,trivial,λo=>iH.mpr ⟨p,xs,o,rfl,ai,(fy h3).1,λy hy=>az (sf h2) ((fy h3).2.1 y hy),(fy h3).2.2.mono (sf h2)⟩⟩
 | _=>cases h
theorem fh.CO (S:fh K H₀ fj σ H Hf ρ) (h:ρ[i]?=some r) (hr:r.qt=some d) :
 ∃ q u,H q=some u/\Hf q=none/\HO.dct u/\∀ o,fh K H₀ fj σ (L2.upd H q (.frz o u)) (L2.upd Hf q (.frz o u)) (ρ.set i (.va d)):=by
 obtain ⟨q,ev,rq⟩:=S.own h (kK hr)
 obtain ⟨_,u,e0,fq,hq,vZ,hd,rd⟩:=rq.qt hr
 cases e0
 have hi:i<ρ.length:=(Nf.mp h).1
 have hown:=kK hr
 refine ⟨q,u,hq,vZ,hd,λo=>⟨⟨λb z e=>?_,λb z e=>?_,λb z e=>?_,λb h1 h2 h3=>?_⟩,by simp [S.len],λj r' hj hu=>?_,λj j' r1 r2 q' hne h1 h2 o1 o2=>?_⟩⟩
 ·rw [L2.aq (aE e fq)]; exact S.bas.s b z e
 ·have e2:=S.bas.f b z e
  rw [L2.aq (aE e2 vZ)]; exact e2
 ·by_cases w:b=q
  ·subst w; rw [L2.ai] at e |-; exact e
  ·rw [L2.aq w] at e |-; exact S.sb b z e
 ·have e:=S.bas.n b h1 h2 h3
  by_cases z:b=q
  ·subst z; exact absurd fq h2
  ·rw [L2.aq z]; exact e
 ·have sf:aN Hf (L2.upd Hf q (.frz o u)):=λb z e=>by rw [L2.aq (aE e vZ)]; exact e
  by_cases z:j=i
  ·subst z
   rw [Om hi] at hj
   cases hj
   exact ⟨_,ev,rd o⟩
  ·rw [Oq (Nv z)] at hj
   obtain ⟨v,e1,e2⟩:=S.at_ j r' hj hu
   refine ⟨v,e1,?_⟩
   have key:r'.owned=true->v≠.ref q:=λho z=>by
    subst z
    exact S.sep i j _ _ q (Nv ‹_›) h hj hown ho ev e1
   exact bh.mv (B:=λz=>z=q) sf (λz w hz e1 _ e3=>⟨by rw [L2.aq hz]; exact e1,by rw [L2.aq hz]; exact e3⟩) (by rintro _ z rfl ⟨ys,e9⟩; rw [hq] at e9; cases e9; exact hd) (λho z e=>by rintro rfl; exact key ho e) e2
 ·have out:∀ {j:Nat} {r:Sl},(ρ.set i (.va d))[j]?=some r->r.owned=true->ρ[j]?=some r:=λ{j r} hj ho=>by
   by_cases z:j=i
   ·subst z; rw [Om hi] at hj; cases hj; cases ho
   ·rw [Oq (Nv z)] at hj; exact hj
  exact S.sep j j' r1 r2 q' hne (out h1 o1) (out h2 o2) o1 o2
end
theorem wK (sb:aN Hf H) (hq:H q=some u) (vZ:Hf q=none) (g:bw (upd H q (.frz o u)) (upd Hf q (.frz o u)) H' ak):bw H Hf (upd H' q u) (del ak q) :=
 ⟨λb z e=>by
   by_cases w:b=q
   ·subst w; rw [ai]; rw [hq] at e; exact e
   ·rw [aq w]; exact g.s b z (by rw [aq w]; exact e),
   λb z e=>by rw [cz (aE e vZ)]; exact g.f b z (by rw [aq (aE e vZ)]; exact e),
   λb z e=>by obtain ⟨w,e2⟩:=iM e; rw [aq w]; exact g.b b z e2,λb h1 h2 h3=>by
   by_cases w:b=q
   ·subst w; exact iL
   ·rw [cz w]; exact g.n b (by rw [aq w]; exact h1) (by rw [aq w]; exact h2) λxs=>by rw [aq w]; exact h3 xs⟩
theorem CP {K:M0} (hp:Hf p=some (.frz o u)) (hd:HO.dct u) (h:dh K Hf a xs):dh K (del Hf p) a xs:=by
 rcases h with (h | ⟨o',h⟩) | h
 ·exact .inl (.inl (by rw [cz (by rintro rfl; rw [hp] at h; cases h)]; exact h))
 ·exact .inl (.inr ⟨o',by rw [cz (by rintro rfl; rw [hp] at h; cases h; exact hd)]; exact h⟩)
 ·exact .inr h
mutual
theorem zI {K:M0} {Hf:Hp} {p:Addr} {o:Obj} {u:HO} (hp:Hf p=some (.frz o u)) (hd:HO.dct u):∀ (d:D) {v:V},d.nl->Rep K Hf d v->Rep K (del Hf p) d v
 | .non,_,_,h=>by simpa [Rep] using h
 | .bl _,_,_,h=>by simpa [Rep] using h
 | .int _,_,_,h=>by simpa [Rep] using h
 | .str _,_,_,h=>by simpa [Rep] using h
 | .adr _,_,_,h=>by simpa [Rep] using h
 | .tup ds,v,f,h=>by
  simp only [Rep] at h |-
  obtain ⟨a,xs,e,h1,h2⟩:=h
  exact ⟨a,xs,e,CP hp hd h1,n5 hp hd ds (by simpa [D.nl] using f) h2⟩
 | .lst _,_,f,_=>by simp [D.nl] at f
 | .fdK _ _,_,f,_=>by simp [D.nl] at f
 | .fdT _ _,_,f,_=>by simp [D.nl] at f
 | .exc C,_,_,h=>by
  simp only [Rep] at h |-
  obtain ⟨a,e,h⟩:=h
  exact ⟨a,e,by rw [cz (by rintro rfl; rw [hp] at h; cases h)]; exact h⟩
theorem n5 {K:M0} {Hf:Hp} {p:Addr} {o:Obj} {u:HO} (hp:Hf p=some (.frz o u)) (hd:HO.dct u):∀ (ds:List D) {xs:List V},D.pq ds->av K Hf ds xs->av K (del Hf p) ds xs
 | [],_,_,h=>by simpa [av] using h
 | d::ds,xs,f,h=>by
  simp only [av] at h |-
  simp only [D.pq] at f
  obtain ⟨x,r,e,h1,h2⟩:=h
  exact ⟨x,r,e,zI hp hd d f.1 h1,n5 hp hd ds f.2 h2⟩
end
section
variable {K:M0}
theorem zJ (S:bu c σ H Hf ρ) (hi:At ρ i r) (hr:r.qt=some d0) (hs:SSet ρ i (.va d0) ρ')
 (h:∀ q u o,H q=some u->Hf q=none->HO.dct u->bu c σ (upd H q (.frz o u)) (upd Hf q (.frz o u)) ρ'->bE c.X e σ (upd H q (.frz o u)) λv H'=>∃ ak,bw (upd H q (.frz o u)) (upd Hf q (.frz o u)) H' ak/\Q v (upd H' q u)):bE c.X e σ H Q:=by
 obtain ⟨q,u,hq,vZ,hd,S1⟩:=S.CO hi.get hr
 intro aa s I
 obtain ⟨o,I1,nf⟩:=CN I hq hd
 have S2:=S1 o
 rw [<- hs.eq] at S2
 refine bJ (h q u o hq vZ hd S2 aa s I1) λv s' ⟨x,H',I',rv,ak,g,hQ⟩=>⟨x,_,zH I' (g.s q _ ai) nf,rv,hQ⟩
theorem sI (i) {R:Sl->Prop} (hi:At ρ i r) (hr:r.qt=some d0) (hs:SSet ρ i (.va d0) ρ') (h:dJ c e ρ' λd=>Sd d.nl (R d)):dJ c e ρ R:=λσ H Hf Q S q=>by
 refine zJ S hi hr hs λa u o ha x8 hd S1=>h σ _ _ _ S1 λr1 v H' ak ⟨fl,rd⟩ rv g=>⟨ak,g,?_⟩
 have hp:=g.f a _ ai
 refine q r1 v _ (del ak a) rd ?_ (wK S.sb ha x8 g)
 have hH:H' a=some (.frz o u):=g.s a _ ai
 cases r1 with
 | va d=>exact zI hp hd d fl rv
 | ow ds =>
  obtain ⟨b,xs,rfl,fb,h1,h2,h3⟩:=rv
  have nb:b≠a:=by rintro rfl; rw [show (upd H b (.frz o u)) b=_ from ai] at fb; cases fb
  exact ⟨b,xs,rfl,by rw [aq nb] at fb; exact fb,by rw [aq nb]; exact h1,by rw [cz nb]; exact h2,n5 hp hd ds fl h3⟩
 | _=>exact fl.elim
end
def zK (h:Heap) (it d:Addr) (i n ep:Nat):Prop :=
 ∃ (x:Value) (f:Bool) (k v:Value),h.get? it=some { cls:=.type "dict_itemiterator",dict:=none,data:=.fields #[x,.bool f,.ref d,.int i 0,.int n 0,.int ep 0,k,v],slots:= #[] }/\(x=.none\/∃ a:Addr,x=rawInt a)
section
variable {s:Shared} {i n ep:Nat}
theorem n6:RU "dict_itemiterator"=true:=by decide
theorem qu (h:Q (s.heap.get? a) s):wpAny M A (loadIfAlive a) Q E s:=λΓ p z=>by
 show Sem.wp M Γ (Sem.loadIfAlive a Sem.pure) _ _ p s
 rw [Sem.wp_loadIfAlive,Sem.wp]
 exact h
theorem zL (hs:s.heap=h) (hit:h.get? it=some { cls:=.type "dict_itemiterator",dict:=none,data:=.fields #[x,.bool f,.ref d,.int i 0,.int n 0,.int ep 0,k,v],slots:= #[] }) (hx:x=.none\/∃ a:Addr,x=rawInt a)
 (hQ:∀ h',zK h' it d i n ep->h'.get? h.objs.size=some { cls:=.type "tuple",data:=.seq #[a,b] }->h'.objs.size=h.objs.size+1->(∀ c o,c≠it->h.get? c=some o->h'.get? c=some o)->Q (.ref h.objs.size) { s with heap:=h' }) :
 wpAny (model prog w) A (RS (.ref it) 6 a b) Q E s:=by
 subst hs
 have lt:it<s.heap.objs.size:=Na hit
 have ne:s.heap.objs.size≠it:=Qd lt
 unfold RS
 refine MZ (wpAny_newTuple ?_)
 have rP:=M9 ({ cls:=.type "tuple",data:=.seq [a,b].toArray }:Obj) hit
 have htu:(s.heap.push { cls:=.type "tuple",data:=.seq [a,b].toArray }).get? s.heap.objs.size=some { cls:=.type "tuple",data:=.seq #[a,b] }:=Nl _ rfl
 have hsz:(s.heap.push { cls:=.type "tuple",data:=.seq [a,b].toArray }).objs.size=s.heap.objs.size+1:=O6 ..
 have hold:∀ c o,s.heap.get? c=some o->(s.heap.push { cls:=.type "tuple",data:=.seq [a,b].toArray }).get? c=some o:=λc o e=>M9 _ e
 generalize (s.heap.push { cls:=.type "tuple",data:=.seq [a,b].toArray })=h2 at rP htu hsz hold |-
 have free:wpAny (model prog w) A (do
  let old:=[<- field (.ref it) 6,<- field (.ref it) (6+1)]
  setField (.ref it) 6 a; setField (.ref it) (6+1) b
  setField (.ref it) 0 (rawInt s.heap.objs.size); setField (.ref it) 1 (.bool false)
  letGo old [.ref s.heap.objs.size]
  pure (NC s.heap.objs.size)) Q E { s with heap:=h2 }:=by
  refine MZ (OM rP rfl (x:=k) rfl (MZ (OM rP rfl (x:=v) rfl ?_)))
  refine MZ (Pj rP (by simp) λh3 e3 s3=>?_)
  refine MZ (Pj e3 (by simp) λh4 e4 s4=>?_)
  refine MZ (Pj e4 (by simp) λh5 e5 s5=>?_)
  refine MZ (Pj e5 (by simp) λh6 e6 s6=>?_)
  have keep:∀ c o,c≠it->h2.get? c=some o->h6.get? c=some o:=λc o hc e=>s6.extBut c o hc (s5.extBut c o hc (s4.extBut c o hc (s3.extBut c o hc e)))
  refine MZ (RL (M3 (hQ h6 ⟨_,_,_,_,e6,.inr ⟨_,rfl⟩⟩ (keep _ _ ne htu) ?_ λc o hc e=>keep c o hc (hold c o e))))
  rw [s6.1,s5.1,s4.1,s3.1,hsz]
 have told:∀ (h3:Heap) (x:Value) (f:Bool),h3.get? it=some { cls:=.type "dict_itemiterator",dict:=none,data:=.fields #[x,.bool f,.ref d,.int i 0,.int n 0,.int ep 0,k,v],slots:= #[] }->(x=.none\/∃ a:Addr,x=rawInt a) ->
  OF it h2 h3->Q (.ref s.heap.objs.size) { s with heap:=h3 }:=λh3 x f e hx' s3 =>
  hQ h3 ⟨x,f,k,v,e,hx'⟩ (s3.extBut _ _ ne htu) (by rw [s3.1,hsz]) λc o hc e=>s3.extBut c o hc (hold c o e)
 show wpAny _ _ (SQ (.ref it) >>= _) _ _ _
 unfold SQ
 refine MZ (MZ (OM rP rfl (x:=x) rfl ?_))
 rcases hx with rfl | ⟨a0,rfl⟩
 ·exact M3 free
 ·show wpAny _ _ (loadIfAlive (a0:Int).toNat >>= _) _ _ _
  refine MZ (qu ?_)
  split
  ·exact M3 free
  ·refine MZ ?_
   refine OM rP rfl (x:=.bool f) rfl ?_
   cases f with
   | true =>
    dsimp only
    rw [if_neg (by decide)]
    exact M3 (M3 (told h2 _ _ rP (.inr ⟨a0,rfl⟩) (.refl ..)))
   | false =>
    dsimp only
    rw [if_pos (by decide)]
    refine MZ (Pj rP (by simp) λh3 e3 s3=>?_)
    exact M3 (M3 (told h3 _ true e3 (.inr ⟨a0,rfl⟩) s3))
theorem zK.GI (h:zK s.heap it d i n ep):s.TypeIs (.ref it) "dict_itemiterator":=let ⟨_,_,_,_,e,_⟩:=h; ⟨_,e,rfl⟩
theorem next_item (hit:zK s.heap it d i es.size ep) (hod:s.heap.get? d=some od) (hdd:od.data=.dict es ep) (hx:es[i]?=some e)
 (hQ:∀ h',zK h' it d (i+1) es.size ep->h'.get? s.heap.objs.size=some { cls:=.type "tuple",data:=.seq #[e.key,e.val] }->h'.objs.size=s.heap.objs.size+1->(∀ c o,c≠it->s.heap.get? c=some o->h'.get? c=some o)->Q (some (.ref s.heap.objs.size)) { s with heap:=h' }) :
 wpAny (model prog w) A (pyNext (.ref it)) Q E s:=by
 have hT:=hit.GI
 obtain ⟨x,f,k,v,hat,hxx⟩:=hit
 have hlt:i<es.size:=(PU.mp hx).1
 unfold pyNext
 refine MZ (Qa (OZ (name:=MY "__next__") hT PK (OA PK hT S3 ?_ (SW _))))
 refine MZ (M3 (MZ (MZ ?_)))
 first | refine MZ (QI hT (M3 ?_)) | refine MZ (QL hT (M3 ?_))
 refine MZ (Rt hat rfl ?_)
 simp only [n6,if_true]
 show wpAny _ _ (if (NC d == N9)=true then _ else _) _ _ _
 rw [if_neg (show ¬ (NC d == N9)=true from Nc)]
 refine MZ (M3 (MZ (P6 hod hdd ?_)))
 rw [if_neg (by simp)]
 refine MZ (M3 (MZ (P9 hod hdd ?_)))
 rw [if_neg (by simp)]
 refine M3 ?_
 simp only [show ¬ ((i:Int)<0) from by lia,if_false,N6,hx]
 refine MZ ?_
 first | refine MZ (QI hT (M3 ?_)) | refine MZ (QL hT (M3 ?_))
 refine MZ (R4 hT ?_)
 show wpAny _ _ (setField (.ref it) 3 (rawInt ((i:Int)+1)) >>= _) _ _ s
 refine MZ (Pj hat (by simp) λh1 e1 s1=>?_)
 have e1':h1.get? it=some { cls:=.type "dict_itemiterator",dict:=none,data:=.fields #[x,.bool f,.ref d,.int ((i+1:Nat):Int) 0,.int es.size 0,.int ep 0,k,v],slots:= #[] }:=by
  have q:((i+1:Nat):Int)=(i:Int)+1:=by lia
  rw [q]; simpa [rawInt] using e1
 have hT1:Shared.TypeIs { s with heap:=h1 } (.ref it) "dict_itemiterator":=⟨_,e1',rfl⟩
 refine MZ (Oi ?_)
 refine MZ (R4 hT1 (MZ (R4 hT1 ?_)))
 show wpAny _ _ (RS (.ref it) 6 e.key e.val) _ _ { s with heap:=h1 }
 have z1:h1.objs.size=s.heap.objs.size:=s1.1
 refine zL (s:={ s with heap:=h1 }) rfl e1' hxx λh2 g2 t2 z2 k2=>?_
 rw [z1] at t2 z2 |-
 exact M3 ⟨_,rfl,M3 (hQ h2 g2 t2 z2 λc o hc q=>k2 c o hc (s1.extBut c o hc q))⟩
theorem next_end (hh:A.handled=none) (hit:zK s.heap it d i es.size ep) (hod:s.heap.get? d=some od) (hdd:od.data=.dict es ep) (hx:es.size<=i)
 (hQ:∀ h',Heap.ExtBut it s.heap h'->Q none { s with heap:=h' }):wpAny (model prog w) A (pyNext (.ref it)) Q E s:=by
 have hT:=hit.GI
 obtain ⟨x,f,k,v,hat,hxx⟩:=hit
 unfold pyNext
 refine MZ (Qa (OZ (name:=MY "__next__") hT PK (OA PK hT S3 ?_ (SW _))))
 refine MZ (M3 (MZ (MZ ?_)))
 first | refine MZ (QI hT (M3 ?_)) | refine MZ (QL hT (M3 ?_))
 refine MZ (Rt hat rfl ?_)
 simp only [n6,if_true]
 show wpAny _ _ (if (NC d == N9)=true then _ else _) _ _ _
 rw [if_neg (show ¬ (NC d == N9)=true from Nc)]
 refine MZ (M3 (MZ (P6 hod hdd ?_)))
 rw [if_neg (by simp)]
 refine MZ (M3 (MZ (P9 hod hdd ?_)))
 rw [if_neg (by simp)]
 refine M3 ?_
 simp only [show ¬ ((i:Int)<0) from by lia,if_false,N6,Array.getElem?_eq_none hx]
 refine MZ ?_
 first | refine MZ (QI hT (M3 ?_)) | refine MZ (QL hT (M3 ?_))
 show wpAny _ _ (setField (.ref it) 2 .none >>= _) _ _ s
 refine MZ (Qw hat rfl (by simp) (MZ ?_))
 simp only [newExc,newTuple]
 refine MZ (N5 ?_ (by size_fits))
 refine MZ (m:=firstArgMember _ _) (wpAny_of_eq (a:=N9) (by first | rfl | (simp only [firstArgMember]; rfl)) ?_)
 refine N5 ?_ (by size_fits)
 simp only [raiseNew]
 refine MZ (wpAny_handled ?_)
 rw [show A.in1.handled=none from hh]
 refine MZ (M3 (wpAny_throw ?_))
 refine MZ (Rh (T:="StopIteration") (b:=true) ⟨_,Nl _ rfl,rfl⟩ isSubtype_stop ?_)
 exact M3 (hQ _ (((Qp ..).extBut.push _).push _))
theorem CQ (hit:zK s.heap it d i n ep) (h:∀ h',zK h' it d i n ep->OF it s.heap h'->Q () { s with heap:=h' }):wpAny (model prog w) A (letOwnedTupleGo tg (.ref it) (.ref a)) Q E s:=by
 have stay:Q () s:=h s.heap hit (.refl ..)
 obtain ⟨x,f,k,v,hat,hxx⟩:=hit
 have part:wpAny (model prog w) A (do
  let o <- load it
  match o.cls,o.data with
  | .type n,.fields vs =>
   if (["enumerate","zip","dict_itemiterator","dict_reverseitemiterator","odict_iterator","itertools.zip_longest","itertools.pairwise"].contains n && vs[0]? == some (rawInt a))=true then do
    rule "for.unpacks-the-owned-tuple"
    updateField it 0 .none
   else pure ()
  | _,_=>pure ()) Q E s:=by
  refine MZ (wpAny_load hat ?_)
  dsimp only
  split
  ·refine MZ (Ol ?_)
   show wpAny _ _ (setField (.ref it) 0 .none) Q E s
   exact Pj hat (by simp) λh' e' s'=>h h' ⟨_,_,_,_,e',.inl rfl⟩ s'
  ·exact M3 stay
 unfold letOwnedTupleGo
 cases tg <;> first
  | exact M3 stay
  | exact part
end
noncomputable def bM:HO->List (V×V)
 | .dK ys=>ys.map λy=>(kV y.1,y.2)
 | .dT ys=>ys.map λy=>(.ref y.2.1,y.2.2)
 | _=>[]
theorem uU (h:j9 k v=true):RelV (kV k) v:=by
 rcases bF h with ⟨i,t,rfl,rfl⟩ | ⟨x,t,rfl,rfl⟩
 ·exact ⟨t,rfl⟩
 ·exact ⟨t,rfl⟩
theorem cI (ok:bq P w H h d u) (hd:HO.dct u) (ho:h.get? d=some o) :
 o.ExactDict/\∃ es ep,o.data=.dict es ep/\Paired (λ(a:V×V) (e:DictEntry)=>RelV a.1 e.key/\RelV a.2 e.val) (bM u) es.toList/\(d == sysModules)=false/\(bM u).length<=sizeLine:=by
 cases u with
 | dK ys =>
  obtain ⟨z,y,vs,kv,o',es,ep,h1,h2,h3,h4,h5,h6⟩:=ok
  rw [ho] at h1; cases h1
  refine ⟨h2,es,ep,h3,?_,y,by simpa [bM] using z⟩
  show Paired _ (ys.map _) _
  clear h3 h4 h6 z
  generalize es.toList=l at h5 |-
  unfold KV at kv
  induction kv generalizing l with
  | nil=>cases h5; exact .nil
  | @cons a b as bs q t ih =>
   cases h5 with
   | cons r t' t''=>exact .cons ⟨by show L2.RelV (kV a.1) _; rw [q.1]; exact uU r,by rw [t']; exact q.2⟩ (ih hd _ t'')
 | dT ys =>
  obtain ⟨z,y,xs,kv,o',es,ep,h1,h2,h3,h4,h5⟩:=ok
  rw [ho] at h1; cases h1
  refine ⟨h2,es,ep,h3,?_,y,by simpa [bM] using z⟩
  rw [h4]
  show Paired _ (ys.map _) _
  clear h3 h4 h5 z
  induction kv with
  | nil=>exact .nil
  | @cons a b as bs q t ih =>
   rw [M7,M7]
   refine .cons ⟨?_,q.2.2⟩ (ih hd)
   show NC b.2.1=NC a.2.1
   rw [q.2.1]
 | _=>exact hd.elim
theorem dz:∀ {l:List α} {m:List β} {i:Nat} {a:α},Paired F l m->l[i]?=some a->∃ b,m[i]?=some b/\F a b
 | _,_,_,_,.nil,e=>by simp at e
 | _,_,0,_,.cons r _,e=>by simp at e; subst e; exact ⟨_,rfl,r⟩
 | _,_,i+1,a,.cons _ t,e=>by
  obtain ⟨b,h1,h2⟩:=dz (i:=i) t (by simpa using e)
  exact ⟨b,by simpa using h1,h2⟩
noncomputable def LR (d:Addr) (o:Obj) (u:HO):It :=
 ⟨λi H=>H d=some (.frz o u)/\i<(bM u).length,λi H x H'=>∃ p kv,(bM u)[i]?=some kv/\x=.ref p/\H p=none/\H'=upd H p (.tup [kv.1,kv.2]),λi H=>H d=some (.frz o u)/\(bM u).length<=i⟩
theorem wL:entryFor table "dict_itemiterator.__iter__"=some Builtin.«dict_keyiterator.__iter__» :=entryFor_alias (id':="dict_keyiterator.__iter__") (by kernel_rfl) rfl (by decide +kernel) (by kernel_rfl)
theorem sJ {P:Program} {w:World} {K:M0} {tg:Expr} {d it:Addr} {o:Obj} {u:HO} {es:Array DictEntry} {ep:Nat} (hd:HO.dct u) (hod:o.data=.dict es ep) (hne:it≠d) (hes:es.size=(bM u).length) :
 Turn P w K tg (LR d o u) [it] it (λi h=>zK h it d i es.size ep) where
 mem:=by simp
 obj:=λi h st b hb=>by
  have e:b=it:=by simpa using hb
  subst e
  obtain ⟨x,f,k,v,e,_⟩:=st
  exact ⟨_,e,λv z=>by
   have z':RQ _=Data.cell v:=z
   cases z'⟩
 keep:=λi h h' st k=>by
  obtain ⟨x,f,kk,v,e,hx⟩:=st
  exact ⟨x,f,kk,v,k it (by simp) _ e,hx⟩
 item:=by
  intro X hP hw hK hc i aa s σ H E I hf st hg
  subst hP hw hK
  obtain ⟨hH,hi⟩:=hg
  obtain ⟨f0,f1,f2,f3,f4,f5⟩:=hf it (by simp)
  obtain ⟨ho,ok⟩:=(show bq X.prog X.w H s.heap d (.frz o u) from I.hok d _ hH)
  obtain ⟨_,es',ep',e1,e2,_⟩:=cI ok hd ho
  rw [hod] at e1; cases e1
  obtain ⟨e,he,re⟩:=dz e2 (Nr hi)
  have he':es[i]?=some e:=by simpa using he
  refine next_item st ho hod he' λh1 g1 t1 z1 k1=>?_
  have hil:it<s.heap.objs.size:=by
   obtain ⟨_,_,_,_,q,_⟩:=st
   exact Na q
  have Hp:H s.heap.objs.size=none:=I.hok.fresh (M4 _)
  have hit0:it≠s.heap.objs.size:=NB hil
  generalize hkv:(bM u)[i]=kv at re
  have IA:Inv X aa σ (upd H s.heap.objs.size (.tup [kv.1,kv.2])) { s with heap:=s.heap.push { cls:=.type "tuple",data:=.seq #[e.key,e.val] },toks:=s.toks } :=
   I.laid (a:=s.heap.objs.size) (o:=.tup [kv.1,kv.2]) (λ_ _ q=>M9 _ q) (M4 _) ⟨by show 2<=sizeLine; decide,[e.key,e.val],.cons re.1 (.cons re.2 .nil),_,Nl _ rfl,rfl,0,rfl⟩
  have g0:upd H s.heap.objs.size (.tup [kv.1,kv.2]) it=none:=by rw [aq hit0]; exact f0
  have I1:Inv X aa σ (upd H s.heap.objs.size (.tup [kv.1,kv.2])) { s with heap:=h1,toks:=s.toks }:=IA.turned (λb o hb q=>by
   by_cases z:b=s.heap.objs.size
   ·subst z
    rw [Nl _ rfl] at q; cases q; exact t1
   ·have lt:b<s.heap.objs.size:=by
     have:=Na q
     rw [O6] at this
     exact Nat.lt_of_le_of_ne (Nat.le_of_lt_succ this) z
    refine k1 b o hb ?_
    rw [Heap.get?_push_ne _ _ _ z] at q; exact q) g0 f1 f3 f4 f5
  refine ⟨_,rfl,CQ (s:={ s with heap:=h1 }) g1 λh2 g2 s2=>?_⟩
  refine ⟨.ref s.heap.objs.size,_,I1.turned (t':=s.toks) (λb o hb q=>(s2.2 b hb).trans q) g0 f1 f3 f4 f5,rfl,⟨_,kv,by rw [Nr hi,hkv],rfl,Hp,rfl⟩,g2,λb hb=>?_⟩
  have e:b=it:=by simpa using hb
  rw [e]; exact g0
 done:=by
  intro X hP hw hK hc i aa s σ H E I hf st hg
  subst hP hw hK
  obtain ⟨hH,hi⟩:=hg
  obtain ⟨f0,f1,f2,f3,f4,f5⟩:=hf it (by simp)
  obtain ⟨ho,ok⟩:=(show bq X.prog X.w H s.heap d (.frz o u) from I.hok d _ hH)
  exact next_end (I.ok.hd hc) st ho hod (by lia) λh' eb=>⟨rfl,I.turned (t':=s.toks) (λb o hb e=>eb b o hb e) f0 f1 f3 f4 f5⟩
 self:=by
  intro A i s Q E st h
  have hT:=st.GI
  refine Su hT Tc (OA Tc hT wL ?_ (F.args_dict_itemiterator_iter_1 _))
  show wpAny _ _ (ret (.ref it)) _ _ s
  exact M3 ⟨_,rfl,"dict_itemiterator",_,hT,PK.lookup,h⟩
theorem qw (d) (hd:(d == sysModules)=false) :
 MeetsIn prog w (Builtin.«dict.items» ⟨[.ref d],[]⟩) (λ_ R s=>s.TypeIs (.ref d) "dict"/\R (.ok (.ret (.ref s.heap.objs.size))) { s with heap:=s.heap.push { cls:=.type "dict_items",data:=.fields #[.ref d] } }) :=
 .of_wp λA R s ⟨hT,h⟩=>by
  unfold Builtin.«dict.items»
  refine MZ ?_
  unfold Builtin.Dict.noArgs
  refine MZ (wpAny_notOrdered_dict hT (show wpAny _ _ (pure d) _ _ s from M3 ?_))
  show wpAny _ _ (QZ d >>= _) _ _ s
  unfold QZ
  rw [if_neg (by rw [hd]; exact Nc)]
  exact MZ (M3 (MZ (N5 (M3 ⟨_,rfl,h⟩))))
theorem wM (hv:s.heap.IsItemsView v d) (hod:s.heap.get? d=some od) (hdd:od.data=.dict es ep)
 (hQ:Q (.ref s.heap.objs.size) { s with heap:=s.heap.push { cls:=.type "dict_itemiterator",data:=.fields #[.none,.bool false,.ref d,.int 0 0,.int es.size 0,.int ep 0,.none,.none] } }) :
 wpAny (model prog w) A (pyIter (.ref v)) Q E s:=by
 obtain ⟨ov,hov,hcv,hdv⟩:=id hv
 refine Su hv.typeIs F.slot_dict_items_iter (OA F.slot_dict_items_iter hv.typeIs F.entry_dict_items_iter ?_ (F.args_dict_items_iter_1 _))
 unfold Builtin.«dict_items.__iter__»
 refine MZ (M3 (MZ ?_))
 unfold Builtin.Dict_items.dictOf
 refine MZ (OM hov hdv (x:=.ref d) rfl (M3 (MZ ?_)))
 unfold Builtin.Dict_items.newIterator
 refine MZ (P6 hod hdd (MZ (P9 hod hdd ?_)))
 simp only [n6,if_true]
 refine N5 (M3 ⟨_,rfl,"dict_itemiterator",_,⟨_,Nl _ rfl,rfl⟩,PK.lookup,?_⟩)
  (by simp only [sizeOk,SS,Nq,NJ,NN,OH,sizeLine_eq]; lia)
 simpa [rawInt,SS] using hQ
noncomputable def wN:Key->D | .inl i=>.int i | .inr x=>.str x
noncomputable def D.pairs:D->Option (List D)
 | .fdK ks ds=>some (RI (λk d=>D.tup [wN k,d]) ks ds)
 | .fdT ks ds=>some (RI (λk d=>D.tup [.tup (k.map wN),d]) ks ds)
 | _=>none
section
variable {K:M0} {Hf:Hp}
theorem qx:Rep K Hf (wN k) (kV k):=by
 cases k with
 | inl i=>exact aA.mpr rfl
 | inr x=>exact gG.mpr rfl
theorem mP:∀ {ks:List Key},av K Hf (ks.map wN) (ks.map kV)
 | []=>aC.mpr rfl
 | k::ks=>.cons qx mP
def mQ (K:M0) (Hf:Hp) (d:D) (kv:V×V):Prop:=∃ k e,d=.tup [k,e]/\Rep K Hf k kv.1/\Rep K Hf e kv.2
theorem uV:∀ {ys:List (Key×V)} {vs:List D},av K Hf vs (ys.map (·.2))->Paired (mQ K Hf) (RI (λk d=>D.tup [wN k,d]) (ys.map (·.1)) vs) (ys.map λy=>(kV y.1,y.2))
 | [],vs,h=>by
  cases vs with
  | nil=>exact .nil
  | cons d ds=>obtain ⟨x,r,e,_⟩:=aF.mp h; cases e
 | y::ys,vs,h=>by
  cases vs with
  | nil=>rw [aC] at h; cases h
  | cons d ds =>
   obtain ⟨x,r,e,h1,h2⟩:=aF.mp h
   cases e
   exact .cons ⟨_,_,rfl,qx,h1⟩ (uV h2)
theorem uW:∀ {ys:List (List Key×Addr×V)} {vs:List D},(∀ y∈ys,dh K Hf y.2.1 (y.1.map kV))->av K Hf vs (ys.map (·.2.2))->Paired (mQ K Hf) (RI (λk d=>D.tup [.tup (k.map wN),d]) (ys.map (·.1)) vs) (ys.map λy=>(.ref y.2.1,y.2.2))
 | [],vs,_,h=>by
  cases vs with
  | nil=>exact .nil
  | cons d ds=>obtain ⟨x,r,e,_⟩:=aF.mp h; cases e
 | y::ys,vs,hk,h=>by
  cases vs with
  | nil=>rw [aC] at h; cases h
  | cons d ds =>
   obtain ⟨x,r,e,h1,h2⟩:=aF.mp h
   cases e
   exact .cons ⟨_,_,rfl,aL.mpr ⟨_,_,rfl,hk y Ng,mP⟩,h1⟩ (uW (λz hz=>hk z (Ni _ hz)) h2)
theorem wO (hp:d.pairs=some ds) (h:Rep K Hf d v):∃ a o u,v=.ref a/\Hf a=some (.frz o u)/\HO.dct u/\Paired (mQ K Hf) ds (bM u):=by
 cases d with
 | fdK ks vs =>
  cases hp
  obtain ⟨a,ys,o,rfl,h1,h2,h3⟩:=iG.mp h
  subst h2
  exact ⟨a,o,_,rfl,h1,trivial,uV h3⟩
 | fdT ks vs =>
  cases hp
  obtain ⟨a,ys,o,rfl,h1,h2,h3,h4⟩:=iH.mp h
  subst h2
  exact ⟨a,o,_,rfl,h1,trivial,uW h3 h4⟩
 | _=>cases hp
theorem sL {ds:List D} {a:Addr} {o:Obj} {u:HO} (h:Hf a=some (.frz o u)) (hp:Paired (mQ K Hf) ds (bM u)):ji K (LR a o u) ds Hf where
 go:=λi d H aU s1 s2 e=>by
  obtain ⟨kv,ekv,k,dd,rfl,r1,r2⟩:=dz hp e
  refine ⟨⟨s2 _ _ (s1 _ _ h),(Nf.mp ekv).1⟩,λx H' ⟨p,kv',e1,e2,e3,e4⟩=>?_⟩
  rw [ekv] at e1; cases e1
  subst e2 e4
  have g:=bw.new s2 e3 (o:=.tup [kv.1,kv.2])
  exact ⟨upd aU p (.tup [kv.1,kv.2]),g,aL.mpr ⟨p,_,rfl,.inl (.inl ai),.cons (Rep.mono (s1.trans g.f) _ r1) (.cons (Rep.mono (s1.trans g.f) _ r2) (aC.mpr rfl))⟩⟩
 stop:=λi H aU s1 s2 e=>⟨s2 _ _ (s1 _ _ h),by rw [<- Oj hp]; exact e⟩
end
section
variable {K:M0}
end
end EV
namespace SR
open PySem PyProof.Rows
noncomputable def cL:Bool->Keyed->Array Keyed->Nat->Nat->Nat->StateT SortSt Sem (Option Nat):=sortPriv% PySem.Builtin.gallop
noncomputable def cF:Nat->StateT SortSt Sem Unit:=sortPriv% PySem.Builtin.setMinGallop
noncomputable def dS (left:Bool) (key:Keyed) (arr:Array Keyed) (base i:Nat):StateT SortSt Sem (Option Bool):=do
 let x <- elem' arr (base+i)
 if left then lt' x key else return (<- lt' key x).map (!·)
noncomputable abbrev qy:=Option (Option Nat)×Nat×Nat
noncomputable def kL (bey:Nat->StateT SortSt Sem (Option Bool)) (n lo hi:Nat):StateT SortSt Sem (Option Nat):=do
 let __s <- forIn [0:n] ((none,lo,hi):qy) λ_ __s =>
  if __s.snd.fst>=__s.snd.snd then pure (Ov (none,__s.snd.fst,__s.snd.snd))
  else do
   let __x <- bey (__s.snd.fst+(__s.snd.snd - __s.snd.fst) / 2)
   match __x with
   | some more=>if more=true then pure (NX (none,__s.snd.fst+(__s.snd.snd - __s.snd.fst) / 2+1,__s.snd.snd)) else pure (NX (none,__s.snd.fst,__s.snd.fst+(__s.snd.snd - __s.snd.fst) / 2))
   | _=>pure (Ov (some none,__s.snd.fst,__s.snd.snd))
 match __s.fst with
 | some r=>pure r
 | none=>pure (some __s.snd.snd)
noncomputable def zM (bey:Nat->StateT SortSt Sem (Option Bool)) (n hint maxofs:Nat):StateT SortSt Sem qy :=
 forIn [0:n] ((none,0,1):qy) λ_ __s =>
  if __s.snd.snd>=maxofs then pure (Ov (none,__s.snd.fst,__s.snd.snd))
  else do
   let __x <- bey (hint+__s.snd.snd)
   match __x with
   | some more=>if (!more)=true then pure (Ov (none,__s.snd.fst,__s.snd.snd)) else pure (NX (none,__s.snd.snd,2 * __s.snd.snd+1))
   | _=>pure (Ov (some none,__s.snd.fst,__s.snd.snd))
noncomputable def zN (bey:Nat->StateT SortSt Sem (Option Bool)) (n hint maxofs:Nat):StateT SortSt Sem qy :=
 forIn [0:n] ((none,0,1):qy) λ_ __s =>
  if __s.snd.snd>=maxofs then pure (Ov (none,__s.snd.fst,__s.snd.snd))
  else do
   let __x <- bey (hint - __s.snd.snd)
   match __x with
   | some found=>if found=true then pure (Ov (none,__s.snd.fst,__s.snd.snd)) else pure (NX (none,__s.snd.snd,2 * __s.snd.snd+1))
   | _=>pure (Ov (some none,__s.snd.fst,__s.snd.snd))
local macro_rules | `(tactic| walk_at "dl gallop")=>do
 let i:=Pw (Pf `PySem.Builtin.List.W1All `PySem.Builtin.gallop)
 `(tactic| delta $i)
theorem sM (left) (key) (arr) (base n hint):cL left key arr base n hint=(do
 let __x <- dS left key arr base hint
 match __x with
 | some right =>
  if right=true then do
   let __s <- zM (dS left key arr base) n hint (n - hint)
   match __s.fst with
   | some r=>pure r
   | none=>kL (dS left key arr base) n (hint+__s.snd.fst+1) (hint+min __s.snd.snd (n - hint))
  else do
   let __s <- zN (dS left key arr base) n hint (hint+1)
   match __s.fst with
   | some r=>pure r
   | none=>kL (dS left key arr base) n (hint+1 - min __s.snd.snd (hint+1)) (hint - __s.snd.fst)
 | _=>pure none):=by
 unfold cL
 walk_at "dl gallop"
 unfold zM zN kL dS
 dsimp only
 congr 1
 funext x
 cases x with
 | none=>rfl
 | some right =>
  dsimp only
  cases right with
  | true =>
   rw [if_pos rfl,if_pos rfl]
   congr 1
   funext c
   obtain ⟨r,l,o⟩:=c
   cases r with
   | some r=>rfl
   | none =>
    dsimp only
    congr 1
    funext c
    obtain ⟨r,l,o⟩:=c
    cases r <;> rfl
  | false =>
   rw [if_neg Nc,if_neg Nc]
   congr 1
   funext c
   obtain ⟨r,l,o⟩:=c
   cases r with
   | some r=>rfl
   | none =>
    dsimp only
    congr 1
    funext c
    obtain ⟨r,l,o⟩:=c
    cases r <;> rfl
def iE (prog:Program) (w:World) (A:Around) (s:Shared) (κ:SortKind) (rk:Keyed->Int) (L:List Keyed):Prop :=
 ∀ x∈L,∀ y∈L,∀ (E:Value->Shared->Prop) (Q:Bool->Shared->Prop),Q (decide (rk x<rk y)) s->wpAny (model prog w) A (keyLt' κ x.1 y.1) Q E s
noncomputable def R (rk:Keyed->Int) (xs:Array Keyed) (i:Nat):Int:=match xs[i]? with | some p=>rk p | none=>0
theorem dU (h:xs[i]?=some p):R rk xs i=rk p:=by unfold R; rw [h]
theorem cu (h:xs[i]?=ys[j]?):R rk xs i=R rk ys j:=by unfold R; rw [h]
theorem kM {st:SortSt} (hC:iE prog w A s κ rk L) (hk:kindOf st=κ) (hx:x∈L) (hy:y∈L) (h:Q (some (decide (rk x<rk y))) st):wpS (model prog w) A E s (lt' x y) Q st:=by
 rw [lt'_eq]
 refine M5 (Oz ?_)
 rw [hk]
 refine M5 (Pc (Qa (hC x hx y hy _ _ ⟨rfl,?_⟩)))
 exact M6 h
theorem aR {st:SortSt} (hi:arr[i]?=some p) (h:Q p st):wpS (model prog w) A E s (elem' arr i) Q st:=by
 rw [elem'_eq,hi]; exact M6 h
theorem wQ {st:SortSt} (hC:iE prog w A s κ rk L) (hk:kindOf st=κ) (hi:(arrOf st)[i]?=some p) (hj:(arrOf st)[j]?=some q) (hp:p∈L) (hq:q∈L)
 (h:Q (some (decide (R rk (arrOf st) i<R rk (arrOf st) j))) st):wpS (model prog w) A E s (ltAt' i j) Q st:=by
 rw [ltAt'_eq]
 refine M5 (Oz ?_)
 show wpS _ _ _ _ (do let x <- elem' (arrOf st) i; let y <- elem' (arrOf st) j; lt' x y) Q st
 refine M5 (aR hi (M5 (aR hj (kM hC hk hp hq ?_))))
 rw [dU hi,dU hj] at h
 exact h
theorem sN {st:SortSt} (hC:iE prog w A s κ rk L) (hk:kindOf st=κ) (hkey:key∈L) (hi:arr[base+i]?=some p) (hp:p∈L)
 (hb:(if left=true then rk p<rk key else rk p<=rk key)↔i<k) (h:Q (some (decide (i<k))) st):wpS (model prog w) A E s (dS left key arr base i) Q st:=by
 unfold dS
 refine M5 (aR hi ?_)
 cases left with
 | true =>
  simp only [if_true] at hb |-
  refine kM hC hk hp hkey ?_
  rw [decide_eq_decide.mpr hb]; exact h
 | false =>
  simp only [NV,if_false] at hb |-
  refine M5 (kM hC hk hkey hp (M6 ?_))
  have e:(!decide (rk key<rk p))=decide (i<k):=by
   rw [<- decide_not]; exact decide_eq_decide.mpr (by rw [<- hb]; omega)
  rw [Option.map_some,e]; exact h
theorem kN {st:SortSt} {n lo hi k:Nat} (hb:∀ i,i<n->∀ (Q:Option Bool->SortSt->Prop),Q (some (decide (i<k))) st->wpS (model prog w) A E s (bey i) Q st)
 (h1:lo<=k) (h2:k<=hi) (h3:hi<=n) (h:Q (some k) st):wpS (model prog w) A E s (kL bey n lo hi) Q st:=by
 unfold kL
 refine M5 (NI (N8 (I:=λx c st'=>st'=st/\∃ l r,c=(none,l,r)/\l<=k/\k<=r/\r<=n/\r - l<=n - x) (Q:=λc st'=>st'=st/\∃ l,c=(none,l,k)) ?step ?fin ⟨rfl,lo,hi,rfl,h1,h2,h3,by omega⟩) ?post)
 case fin =>
  rintro c st' ⟨rfl,l,r,rfl,a1,a2,a3,a4⟩
  have:r=k:=by omega
  subst this
  exact ⟨rfl,l,rfl⟩
 case step =>
  rintro x c st' _ hx ⟨rfl,l,r,rfl,a1,a2,a3,a4⟩
  dsimp only
  by_cases hge:l>=r
  ·rw [if_pos hge]
   have:r=k:=by omega
   subst this
   exact M6 ⟨rfl,l,rfl⟩
  ·rw [if_neg hge]
   refine M5 (hb _ (by omega) _ ?_)
   dsimp only
   by_cases hm:l+(r - l) / 2<k
   ·rw [decide_eq_true hm,if_pos rfl]
    exact M6 ⟨rfl,_,_,rfl,by omega,by omega,by omega,by omega⟩
   ·rw [decide_eq_false hm,if_neg Nc]
    exact M6 ⟨rfl,_,_,rfl,by omega,by omega,by omega,by omega⟩
 case post =>
  rintro c st' ⟨rfl,l,rfl⟩
  exact M6 h
theorem fL {st:SortSt} (hC:iE prog w A s κ rk L) (hk:kindOf st=κ) (hkey:key∈L) (harr:∀ i,i<n->∃ p,arr[base+i]?=some p/\p∈L)
 (hb:∀ i,i<n->((if left=true then R rk arr (base+i)<rk key else R rk arr (base+i)<=rk key)↔i<k)) (hkn:k<=n) (hh:hint<n) (h:Q (some k) st):wpS (model prog w) A E s (cL left key arr base n hint) Q st:=by
 have bey:∀ i,i<n->∀ (Q:Option Bool->SortSt->Prop),Q (some (decide (i<k))) st->wpS (model prog w) A E s (dS left key arr base i) Q st:=λi hi Q hQ=>by
  obtain ⟨p,e,hp⟩:=harr i hi
  refine sN hC hk hkey e hp ?_ hQ
  have:=hb i hi
  rw [dU e] at this
  exact this
 rw [sM]
 refine M5 (bey hint hh _ ?_)
 dsimp only
 by_cases hr:hint<k
 ·rw [decide_eq_true hr,if_pos rfl]
  unfold zM
  refine M5 (NI (N8 (I:=λx c st'=>st'=st/\∃ l o,c=(none,l,o)/\hint+l<k/\x<o) (Q:=λc st'=>st'=st/\∃ l o,c=(none,l,o)/\hint+l<k/\(k<=hint+o\/n - hint<=o)) ?step ?fin ⟨rfl,0,1,rfl,hr,by omega⟩) ?post)
  case fin =>
   rintro c st' ⟨rfl,l,o,rfl,a1,a2⟩
   exact ⟨rfl,l,o,rfl,a1,.inr (by omega)⟩
  case step =>
   rintro x c st' _ hx ⟨rfl,l,o,rfl,a1,a2⟩
   dsimp only
   by_cases hge:o>=n - hint
   ·rw [if_pos hge]; exact M6 ⟨rfl,l,o,rfl,a1,.inr hge⟩
   ·rw [if_neg hge]
    refine M5 (bey _ (by omega) _ ?_)
    dsimp only
    by_cases hm:hint+o<k
    ·rw [decide_eq_true hm]; simp only [QB,NV,if_false]
     exact M6 ⟨rfl,o,2 * o+1,rfl,hm,by omega⟩
    ·rw [decide_eq_false hm]; simp only [Bool.not_false,if_true]
     exact M6 ⟨rfl,l,o,rfl,a1,.inl (by omega)⟩
  case post =>
   rintro c st' ⟨rfl,l,o,rfl,a1,a2⟩
   dsimp only
   exact kN bey (by omega) (by omega) (by omega) h
 ·rw [decide_eq_false hr,if_neg Nc]
  unfold zN
  refine M5 (NI (N8 (I:=λx c st'=>st'=st/\∃ l o,c=(none,l,o)/\l<=hint/\k<=hint - l/\x<o) (Q:=λc st'=>st'=st/\∃ l o,c=(none,l,o)/\l<=hint/\k<=hint - l/\(hint+1<=k+o\/hint+1<=o)) ?step ?fin ⟨rfl,0,1,rfl,by omega,by omega,by omega⟩) ?post)
  case fin =>
   rintro c st' ⟨rfl,l,o,rfl,a1,a2,a3⟩
   exact ⟨rfl,l,o,rfl,a1,a2,.inr (by omega)⟩
  case step =>
   rintro x c st' _ hx ⟨rfl,l,o,rfl,a1,a2,a3⟩
   dsimp only
   by_cases hge:o>=hint+1
   ·rw [if_pos hge]; exact M6 ⟨rfl,l,o,rfl,a1,a2,.inr hge⟩
   ·rw [if_neg hge]
    refine M5 (bey _ (by omega) _ ?_)
    dsimp only
    by_cases hm:hint - o<k
    ·rw [decide_eq_true hm,if_pos rfl]
     exact M6 ⟨rfl,l,o,rfl,a1,a2,.inl (by omega)⟩
    ·rw [decide_eq_false hm,if_neg Nc]
     exact M6 ⟨rfl,o,2 * o+1,rfl,by omega,by omega,by omega⟩
  case post =>
   rintro c st' ⟨rfl,l,o,rfl,a1,a2,a3⟩
   dsimp only
   exact kN bey (by omega) (by omega) (by omega) h
noncomputable def kO:Array Keyed->Array Keyed->StateT SortSt Sem (Array Keyed):=sortPriv% PySem.Builtin.mergeLo
theorem fM {st:SortSt} (h:Q () (Pa (kindOf st) (arrOf st) (pendingOf st) g (failedOf st))):wpS M A E s (cF g) Q st :=
 OI (f:=λst=>Pa (kindOf st) (arrOf st) (pendingOf st) g (failedOf st)) h
section
variable {rk:Keyed->Int} {a b:Array Keyed}
def zO (rk:Keyed->Int) (xs:List Keyed):Prop:=xs.Pairwise λp q=>rk p<=rk q
theorem uX (h:xs.length<=1):zO rk xs:=by
 cases xs with
 | nil=>exact Qq
 | cons x xs =>
  cases xs with
  | nil=>exact PV _ _
  | cons y ys=>simp at h
def Res (rk:Keyed->Int) (a b r:Array Keyed):Prop:=r.toList.Perm (a.toList++b.toList)/\zO rk r.toList
structure WL (rk:Keyed->Int) (a b:Array Keyed) (out:Array Keyed) (ia ib:Nat):Prop where
 pa:ia<=a.size
 pb:ib<=b.size
 pm:out.toList.Perm (a.toList.take ia++b.toList.take ib)
 sr:zO rk out.toList
 ha:∀ p∈out.toList,∀ (j:Nat) (q:Keyed),ia<=j->a[j]?=some q->rk p<=rk q
 hb:∀ p∈out.toList,∀ (j:Nat) (q:Keyed),ib<=j->b[j]?=some q->rk p<=rk q
def Up (rk:Keyed->Int) (a:Array Keyed):Prop:=∀ (i j:Nat) (p q:Keyed),i<=j->a[i]?=some p->a[j]?=some q->rk p<=rk q
theorem jk (h:Up rk a):zO rk a.toList:=by
 unfold zO
 rw [RV]
 intro i j hi hj hij
 exact h i j _ _ (O9 hij) (by simp at hi |-) (by simp at hj |-)
theorem GJ (h:zO rk a.toList):Up rk a:=λi j p q hij e1 e2=>by
 rw [<- NS] at e1 e2
 obtain ⟨h1,r1⟩:=Nf.mp e1
 obtain ⟨h2,r2⟩:=Nf.mp e2
 subst r1 r2
 rcases Nat.lt_or_eq_of_le hij with z | z
 ·exact (RV.mp h) i j h1 h2 z
 ·subst z; exact Oe _
theorem bN (h1:zO rk xs) (h2:zO rk ys) (h3:∀ p∈xs,∀ q∈ys,rk p<=rk q):zO rk (xs++ys):=List.pairwise_append.mpr ⟨h1,h2,h3⟩
theorem d9 (xs:Array Keyed) (i j):(xs.extract i j).toList=(xs.toList.take j).drop i:=by
 rw [List.drop_take]; simp [List.extract_eq_take_drop]
theorem gJ (xs:Array Keyed) (i):(xs.extract i xs.size).toList=xs.toList.drop i:=by
 rw [d9,O1 (by simp)]
theorem iR (xs:Array Keyed) (i):(xs.extract i i).toList=[]:=by
 rw [d9,List.drop_take]; simp
theorem uY {xs:Array Keyed} (h:q∈(xs.extract i j).toList):∃ k,i<=k/\k<j/\xs[k]?=some q:=by
 obtain ⟨n,hn⟩:=PZ h
 rw [NS,QX] at hn
 split at hn
 ·rename_i z
  exact ⟨i+n,by lia,by lia,hn⟩
 ·cases hn
theorem WL.jl (h:WL rk a b out ia ib) (ua:Up rk a) (e:ib=b.size):Res rk a b (out++a.extract ia a.size++b.extract ib b.size):=by
 subst e
 have e0:(out++a.extract ia a.size++b.extract b.size b.size).toList=out.toList++a.toList.drop ia:=by
  rw [Od,Od,gJ,gJ,List.drop_of_length_le (show b.toList.length<=b.size by simp),N7]
 refine ⟨?_,?_⟩
 ·rw [e0]
  have hp:=h.pm
  rw [O1 (show b.toList.length<=b.size by simp)] at hp
  refine (hp.append_right _).trans ?_
  have:(a.toList.take ia++b.toList++a.toList.drop ia).Perm (a.toList.take ia++a.toList.drop ia++b.toList):=by
   rw [Nz,Nz]
   exact PX _ Ph
  rw [OD] at this
  exact this
 ·rw [e0]
  refine bN h.sr ((jk ua).sublist (SD _ _)) λp hp q hq=>?_
  obtain ⟨n,hn⟩:=PZ hq
  rw [P5] at hn
  exact h.ha p hp (ia+n) q (by lia) (by rw [<- NS]; exact hn)
theorem WL.jm (h:WL rk a b out ia ib) (ub:Up rk b) (e:ia=a.size):Res rk a b (out++a.extract ia a.size++b.extract ib b.size):=by
 subst e
 have e0:(out++a.extract a.size a.size++b.extract ib b.size).toList=out.toList++b.toList.drop ib:=by
  rw [Od,Od,gJ,gJ,List.drop_of_length_le (show a.toList.length<=a.size by simp),N7]
 refine ⟨?_,?_⟩
 ·rw [e0]
  have hp:=h.pm
  rw [O1 (show a.toList.length<=a.size by simp)] at hp
  refine (hp.append_right _).trans ?_
  rw [Nz,OD]
 ·rw [e0]
  refine bN h.sr ((jk ub).sublist (SD _ _)) λp hp q hq=>?_
  obtain ⟨n,hn⟩:=PZ hq
  rw [P5] at hn
  exact h.hb p hp (ib+n) q (by lia) (by rw [<- NS]; exact hn)
theorem WL.last (h:WL rk a b out ia ib) (ub:Up rk b) (e:ia+1=a.size) (hl:∀ (j:Nat) (p q:Keyed),a[ia]?=some p->b[j]?=some q->rk q<=rk p) :
 Res rk a b (out++b.extract ib b.size++a.extract ia a.size):=by
 have e0:(out++b.extract ib b.size++a.extract ia a.size).toList=out.toList++(b.toList.drop ib++a.toList.drop ia):=by
  rw [Od,Od,gJ,gJ,Nz]
 refine ⟨?_,?_⟩
 ·rw [e0]
  refine (h.pm.append_right _).trans ?_
  have:(a.toList.take ia++b.toList.take ib++(b.toList.drop ib++a.toList.drop ia)).Perm (a.toList.take ia++a.toList.drop ia++(b.toList.take ib++b.toList.drop ib)):=by
   rw [Nz,Nz]
   refine PX _ ?_
   rw [<- Nz]
   exact Ph
  rw [OD,OD] at this
  exact this
 ·rw [e0]
  have ml:∀ q∈b.toList.drop ib,∃ j,ib<=j/\b[j]?=some q:=λq hq=>by
   obtain ⟨n,hn⟩:=PZ hq
   rw [P5] at hn
   exact ⟨ib+n,by lia,by rw [<- NS]; exact hn⟩
  have ml2:∀ q∈a.toList.drop ia,a[ia]?=some q:=λq hq=>by
   obtain ⟨n,hn⟩:=PZ hq
   rw [P5] at hn
   have:=(Nf.mp hn).1
   have hn0:n=0:=by simp at this; lia
   subst hn0
   rw [<- NS]; exact hn
  refine bN h.sr (bN ((jk ub).sublist (SD _ _)) ?_ λp hp q hq=>?_) λp hp q hq=>?_
  ·exact uX (by simp; lia)
  ·obtain ⟨j,_,e1⟩:=ml p hp
   exact hl j q p (ml2 q hq) e1
  ·rcases NF.mp hq with z | z
   ·obtain ⟨j,h1,e1⟩:=ml q z
    exact h.hb p hp j q h1 e1
   ·exact h.ha p hp ia q (M4 _) (ml2 q z)
theorem cM {xs:Array Keyed} (h:xs[i]?=some p):xs.toList.take (i+1)=xs.toList.take i++[p]:=by
 rw [Sz,NS,h]; rfl
theorem WL.gi {out:Array Keyed} {ia ib:Nat} {p:Keyed} (h:WL rk a b out ia ib) (ub:Up rk b) (e:b[ib]?=some p) (hl:∀ (j:Nat) (q:Keyed),ia<=j->a[j]?=some q->rk p<=rk q):WL rk a b (out.push p) ia (ib+1) where
 pa:=h.pa
 pb:=(PU.mp e).1
 pm:=by
  rw [NK,cM e,<- Nz]
  exact h.pm.append_right _
 sr:=by
  rw [NK]
  exact bN h.sr (PV _ _) λq hq r hr=>by
   rw [Nj.mp hr]; exact h.hb q hq ib p (M4 _) e
 ha:=λq hq j r hj er=>by
  rw [NK] at hq
  rcases NF.mp hq with z | z
  ·exact h.ha q z j r hj er
  ·rw [Nj.mp z]; exact hl j r hj er
 hb:=λq hq j r hj er=>by
  rw [NK] at hq
  rcases NF.mp hq with z | z
  ·exact h.hb q z j r (by lia) er
  ·rw [Nj.mp z]; exact ub ib j p r (by lia) e er
theorem WL.gj {out:Array Keyed} {ia ib:Nat} {p:Keyed} (h:WL rk a b out ia ib) (ua:Up rk a) (e:a[ia]?=some p) (hl:∀ (j:Nat) (q:Keyed),ib<=j->b[j]?=some q->rk p<=rk q):WL rk a b (out.push p) (ia+1) ib where
 pa:=(PU.mp e).1
 pb:=h.pb
 pm:=by
  rw [NK,cM e]
  refine (h.pm.append_right _).trans ?_
  rw [Nz,Nz]
  exact PX _ Ph
 sr:=by
  rw [NK]
  exact bN h.sr (PV _ _) λq hq r hr=>by
   rw [Nj.mp hr]; exact h.ha q hq ia p (M4 _) e
 hb:=λq hq j r hj er=>by
  rw [NK] at hq
  rcases NF.mp hq with z | z
  ·exact h.hb q z j r hj er
  ·rw [Nj.mp z]; exact hl j r hj er
 ha:=λq hq j r hj er=>by
  rw [NK] at hq
  rcases NF.mp hq with z | z
  ·exact h.ha q z j r (by lia) er
  ·rw [Nj.mp z]; exact ua ia j p r (by lia) e er
theorem WL.qz (h:WL rk a b out ia ib) (ua:Up rk a):∀ (k:Nat),ia+k<=a.size->(∀ (i j:Nat) (p q:Keyed),ia<=i->i<ia+k->ib<=j->a[i]?=some p->b[j]?=some q->rk p<=rk q)->WL rk a b (out++a.extract ia (ia+k)) (ia+k) ib
 | 0,_,_=>by
  have:out++a.extract ia (ia+0)=out:=by
   apply Pb
   rw [Od,Nat.add_zero,iR,N7]
  rw [this]; exact h
 | k+1,hk,hl=>by
  have ih:=h.qz ua k (by lia) λi j p q h1 h2=>hl i j p q h1 (by lia)
  have e:a[ia+k]?=some (a[ia+k]'(by lia)):=Ny _
  have z:=ih.gj ua e λj q hj eq=>hl _ j _ q (by lia) (by lia) hj e eq
  have:out++a.extract ia (ia+(k+1))=(out++a.extract ia (ia+k)).push (a[ia+k]'(by lia)):=by
   apply Pb
   simp only [Od,NK,d9]
   rw [show ia+(k+1)=(ia+k)+1 by lia,cM e,S9 (by simp; lia),Nz]
  rw [this]; exact z
theorem WL.qA (h:WL rk a b out ia ib) (ub:Up rk b):∀ (k:Nat),ib+k<=b.size->(∀ (i j:Nat) (p q:Keyed),ib<=i->i<ib+k->ia<=j->b[i]?=some p->a[j]?=some q->rk p<=rk q)->WL rk a b (out++b.extract ib (ib+k)) ia (ib+k)
 | 0,_,_=>by
  have:out++b.extract ib (ib+0)=out:=by
   apply Pb
   rw [Od,Nat.add_zero,iR,N7]
  rw [this]; exact h
 | k+1,hk,hl=>by
  have ih:=h.qA ub k (by lia) λi j p q h1 h2=>hl i j p q h1 (by lia)
  have e:b[ib+k]?=some (b[ib+k]'(by lia)):=Ny _
  have z:=ih.gi ub e λj q hj eq=>hl _ j _ q (by lia) (by lia) hj e eq
  have:out++b.extract ib (ib+(k+1))=(out++b.extract ib (ib+k)).push (b[ib+k]'(by lia)):=by
   apply Pb
   simp only [Od,NK,d9]
   rw [show ib+(k+1)=(ib+k)+1 by lia,cM e,S9 (by simp; lia),Nz]
  rw [this]; exact z
end
section
variable {prog:Program} {w:World} {A:Around} {E:Value->Shared->Prop} {s:Shared} {L:List Keyed} {κ:SortKind} {rk:Keyed->Int} {a b:Array Keyed}
theorem kP (f:Nat->Int) (c):∀ n,(∀ i j,i<=j->j<n->f i<=f j)->∃ k,k<=n/\∀ i,i<n->(f i<=c↔i<k)
 | 0,_=>⟨0,M4 _,λi hi=>by lia⟩
 | n+1,hm=>by
  obtain ⟨k,h1,h2⟩:=kP f c n λi j hij hj=>hm i j hij (by lia)
  by_cases hc:f n<=c
  ·refine ⟨n+1,M4 _,λi hi=>⟨λ_=>hi,λ_=>?_⟩⟩
   exact NG (hm i n (by lia) (by lia)) hc
  ·refine ⟨k,by lia,λi hi=>?_⟩
   by_cases hin:i<n
   ·exact h2 i hin
   ·have:i=n:=by lia
    subst this
    exact ⟨λz=>absurd z hc,λz=>by lia⟩
theorem kQ (f:Nat->Int) (c):∀ n,(∀ i j,i<=j->j<n->f i<=f j)->∃ k,k<=n/\∀ i,i<n->(f i<c↔i<k)
 | 0,_=>⟨0,M4 _,λi hi=>by lia⟩
 | n+1,hm=>by
  obtain ⟨k,h1,h2⟩:=kQ f c n λi j hij hj=>hm i j hij (by lia)
  by_cases hc:f n<c
  ·refine ⟨n+1,M4 _,λi hi=>⟨λ_=>hi,λ_=>?_⟩⟩
   exact Ra (hm i n (by lia) (by lia)) hc
  ·refine ⟨k,by lia,λi hi=>?_⟩
   by_cases hin:i<n
   ·exact h2 i hin
   ·have:i=n:=by lia
    subst this
    exact ⟨λz=>absurd z hc,λz=>by lia⟩
theorem JM (h:Up rk a) (hij:i<=j) (hj:j<a.size):R rk a i<=R rk a j:=by
 have e1:a[i]?=some (a[i]'(by lia)):=Ny _
 have e2:a[j]?=some a[j]:=Ny _
 rw [dU e1,dU e2]
 exact h i j _ _ hij e1 e2
structure cN (st st':SortSt):Prop where
 k:kindOf st'=kindOf st
 a:arrOf st'=arrOf st
 p:pendingOf st'=pendingOf st
 f:failedOf st'=failedOf st
theorem cN.refl (st:SortSt):cN st st:=⟨rfl,rfl,rfl,rfl⟩
theorem cN.min {st st':SortSt} (h:cN st st') (g):cN st (Pa (kindOf st') (arrOf st') (pendingOf st') g (failedOf st')):=⟨h.k,h.a,h.p,h.f⟩
theorem cN.trans (h:cN s1 s2) (g:cN s2 s3):cN s1 s3:=⟨g.k.trans h.k,g.a.trans h.a,g.p.trans h.p,g.f.trans h.f⟩
theorem qB {st:SortSt} (hC:iE prog w A s κ rk L) (hk:kindOf st=κ) (hkey:key∈L) (mx:∀ (i:Nat) (p:Keyed),xs[i]?=some p->p∈L) (ux:Up rk xs) (n) (hn:base+n<=xs.size) (hh:hint<n)
 (h:∀ k,k<=n->(∀ (i:Nat) (p:Keyed),i<k->xs[base+i]?=some p->rk p<=rk key)->(∀ (i:Nat) (p:Keyed),k<=i->base+i<base+n->xs[base+i]?=some p->rk key<rk p)->Q (some k) st) :
 wpS (model prog w) A E s (cL false key xs base n hint) Q st:=by
 obtain ⟨k,h1,h2⟩:=kP (λi=>R rk xs (base+i)) (rk key) n λi j hij hj=>JM ux (by lia) (by lia)
 refine fL hC hk hkey (λi hi=>⟨xs[base+i]'(by lia),Ny _,mx _ _ (Ny _)⟩) (λi hi=>by simp only [NV,if_false]; exact h2 i hi) h1 hh (h k h1 (λi p hi e=>?_) λi p hi hb e=>?_)
 ·have:=(h2 i (by lia)).mpr hi
  rw [dU e] at this; exact this
 ·have:=mt (h2 i (by lia)).mp (by lia)
  rw [dU e] at this; lia
theorem qC {st:SortSt} (hC:iE prog w A s κ rk L) (hk:kindOf st=κ) (hkey:key∈L) (mx:∀ (i:Nat) (p:Keyed),xs[i]?=some p->p∈L) (ux:Up rk xs) (n) (hn:base+n<=xs.size) (hh:hint<n)
 (h:∀ k,k<=n->(∀ (i:Nat) (p:Keyed),i<k->xs[base+i]?=some p->rk p<rk key)->(∀ (i:Nat) (p:Keyed),k<=i->base+i<base+n->xs[base+i]?=some p->rk key<=rk p)->Q (some k) st) :
 wpS (model prog w) A E s (cL true key xs base n hint) Q st:=by
 obtain ⟨k,h1,h2⟩:=kQ (λi=>R rk xs (base+i)) (rk key) n λi j hij hj=>JM ux (by lia) (by lia)
 refine fL hC hk hkey (λi hi=>⟨xs[base+i]'(by lia),Ny _,mx _ _ (Ny _)⟩) (λi hi=>by simp only [if_true]; exact h2 i hi) h1 hh (h k h1 (λi p hi e=>?_) λi p hi hb e=>?_)
 ·have:=(h2 i (by lia)).mpr hi
  rw [dU e] at this; exact this
 ·have:=mt (h2 i (by lia)).mp (by lia)
  rw [dU e] at this; lia
structure lR (rk:Keyed->Int) (a b out:Array Keyed) (ia ib:Nat):Prop where
 w:WL rk a b out ia ib
 la:ia+1<a.size
 lb:ib<b.size
end
section
local macro_rules | `(tactic| walk_at "dl mergeLo")=>do
 let i:=Pw (Pf `PySem.Builtin.List.W1All `PySem.Builtin.mergeLo)
 `(tactic| delta $i)
noncomputable abbrev zP:=Option (Array Keyed)×Array Keyed×Nat×Nat×Nat×Nat×Nat
noncomputable def ET (a b out:Array Keyed) (ia ib:Nat):Array Keyed:=out++a.extract ia a.size++b.extract ib b.size
noncomputable def BN (a b out:Array Keyed) (ia ib:Nat):Array Keyed:=out++b.extract ib b.size++a.extract ia a.size
noncomputable def uZ (a b:Array Keyed) (mg ac bc ia ib:Nat) (out:Array Keyed):StateT SortSt Sem (ForInStep zP):=do
 let p <- elem' a ia
 if (ia+1+1 == a.size)=true then pure (.done (some (BN a b (out.push p) (ia+1) ib),out.push p,ia+1,ib,mg,ac,bc))
 else if (decide (ac<7) && decide (bc<7))=true then pure (.done (none,out.push p,ia+1,ib,mg,ac,bc))
 else pure (.yield (none,out.push p,ia+1,ib,mg,ac,bc))
noncomputable def u5 (a b:Array Keyed) (mg ac bc ia ib:Nat) (out:Array Keyed):StateT SortSt Sem (ForInStep zP):=do
 let q <- elem' b ib
 if (ib+1 == b.size)=true then pure (.done (some (ET a b (out.push q) ia (ib+1)),out.push q,ia,ib+1,mg,ac,bc))
 else do
  let p <- elem' a ia
  let x <- cL true p b (ib+1) (b.size - (ib+1)) 0
  match x with
  | some k=>(if k>0 then
   (if (ib+1+k == b.size)=true then pure (.done (some (ET a b (out.push q++b.extract (ib+1) (ib+1+k)) ia (ib+1+k)),out.push q++b.extract (ib+1) (ib+1+k),ia,ib+1+k,mg,ac,k))
    else uZ a b mg ac k ia (ib+1+k) (out.push q++b.extract (ib+1) (ib+1+k)))
   else uZ a b mg ac k ia (ib+1) (out.push q))
  | _=>pure (.done (some (ET a b (out.push q) ia (ib+1)),out.push q,ia,ib+1,mg,ac,bc))
noncomputable def u6 (a b:Array Keyed) (mg ac bc ia ib:Nat) (out:Array Keyed):StateT SortSt Sem (ForInStep zP):=do
 cF mg
 let q <- elem' b ib
 let x <- cL false q a ia (a.size - ia) 0
 match x with
 | some k=>(if k>0 then
  (if (ia+k+1 == a.size)=true then pure (.done (some (BN a b (out++a.extract ia (ia+k)) (ia+k) ib),out++a.extract ia (ia+k),ia+k,ib,mg,k,bc))
   else if (ia+k == a.size)=true then pure (.done (some (ET a b (out++a.extract ia (ia+k)) (ia+k) ib),out++a.extract ia (ia+k),ia+k,ib,mg,k,bc))
   else u5 a b mg k bc (ia+k) ib (out++a.extract ia (ia+k)))
  else u5 a b mg k bc ia ib out)
 | _=>pure (.done (some (ET a b out ia ib),out,ia,ib,mg,ac,bc))
noncomputable def zQ (a b:Array Keyed) (c:zP):StateT SortSt Sem (ForInStep zP) :=
 if c.2.2.2.2.1>1 then u6 a b (c.2.2.2.2.1 - 1) c.2.2.2.2.2.1 c.2.2.2.2.2.2 c.2.2.1 c.2.2.2.1 c.2.1 else u6 a b c.2.2.2.2.1 c.2.2.2.2.2.1 c.2.2.2.2.2.2 c.2.2.1 c.2.2.2.1 c.2.1
noncomputable abbrev GK:=Option (Array Keyed)×Array Keyed×Nat×Nat×Nat×Nat
noncomputable def zR (a b:Array Keyed) (mg:Nat) (c:GK):StateT SortSt Sem (ForInStep GK):=do
 let q <- elem' b c.2.2.2.1
 let p <- elem' a c.2.2.1
 let x <- lt' q p
 match x with
 | some y=>(if y=true then (do
  let q <- elem' b c.2.2.2.1
  if (c.2.2.2.1+1 == b.size)=true then pure (.done (some (ET a b (c.2.1.push q) c.2.2.1 (c.2.2.2.1+1)),c.2.1.push q,c.2.2.1,c.2.2.2.1+1,0,c.2.2.2.2.2+1))
  else if c.2.2.2.2.2+1>=mg then pure (.done (none,c.2.1.push q,c.2.2.1,c.2.2.2.1+1,0,c.2.2.2.2.2+1))
  else pure (.yield (none,c.2.1.push q,c.2.2.1,c.2.2.2.1+1,0,c.2.2.2.2.2+1)))
  else (do
   let p <- elem' a c.2.2.1
   if (c.2.2.1+1+1 == a.size)=true then pure (.done (some (BN a b (c.2.1.push p) (c.2.2.1+1) c.2.2.2.1),c.2.1.push p,c.2.2.1+1,c.2.2.2.1,c.2.2.2.2.1+1,0))
   else if c.2.2.2.2.1+1>=mg then pure (.done (none,c.2.1.push p,c.2.2.1+1,c.2.2.2.1,c.2.2.2.2.1+1,0))
   else pure (.yield (none,c.2.1.push p,c.2.2.1+1,c.2.2.2.1,c.2.2.2.2.1+1,0))))
 | _=>pure (.done (some (ET a b c.2.1 c.2.2.1 c.2.2.2.1),c.2.1,c.2.2.1,c.2.2.2.1,c.2.2.2.2.1,c.2.2.2.2.2))
noncomputable abbrev CS:=Option (Array Keyed)×Array Keyed×Nat×Nat×Nat
noncomputable def n8 (a b:Array Keyed) (c:CS):StateT SortSt Sem (ForInStep CS):=do
 let s <- forIn [:a.size+b.size] ((none,c.2.1,c.2.2.1,c.2.2.2.1,0,0):GK) λ_ s=>zR a b c.2.2.2.2 s
 match s.1 with
 | some r=>pure (.done (some r,s.2.1,s.2.2.1,s.2.2.2.1,c.2.2.2.2))
 | none=>do
  liftM (rule "list.sort.gallop")
  let t <- forIn [:a.size+b.size] ((none,s.2.1,s.2.2.1,s.2.2.2.1,c.2.2.2.2+1,s.2.2.2.2.1,s.2.2.2.2.2):zP) λ_ t=>zQ a b t
  match t.1 with
  | some r=>pure (.done (some r,t.2.1,t.2.2.1,t.2.2.2.1,t.2.2.2.2.1))
  | none=>do
   cF (t.2.2.2.2.1+1)
   pure (.yield (none,t.2.1,t.2.2.1,t.2.2.2.1,t.2.2.2.2.1+1))
theorem qD (a b):kO a b=(do
 liftM (rule "list.sort.merge-lo")
 let p <- elem' b 0
 if (1 == b.size)=true then pure (ET a b #[p] 0 1)
 else if (0+1 == a.size)=true then pure (BN a b #[p] 0 1)
 else do
  let st <- get
  let s <- forIn [:a.size+b.size] ((none,#[p],0,1,gallopOf st):CS) λ_ c=>n8 a b c
  match s.1 with
  | some r=>pure r
  | none=>liftM (unsupported (α:=Array Keyed) "internal:list.sort.merge-bound")):=by
 unfold kO
 walk_at "dl mergeLo"
 dsimp only
 refine congrArg _ (funext λ_=>?_)
 refine congrArg _ (funext λp=>?_)
 refine congrArg _ (congrArg _ ?_)
 refine congrArg _ (funext λst=>?_)
 have e:∀ (f g:Nat->CS->StateT SortSt Sem (ForInStep CS)) (c:CS) (k:CS->StateT SortSt Sem (Array Keyed)),f=g->(forIn [:a.size+b.size] c f >>= k)=(forIn [:a.size+b.size] c g >>= k):=λ_ _ _ _ h=>by rw [h]
 refine (e _ _ _ _ (funext λ_=>funext λc=>?_)).trans (congrArg _ (funext λs=>?_))
 ·obtain ⟨o,out,ia,ib,mg⟩:=c
  unfold n8
  dsimp only
  have e2:∀ (f g:Nat->GK->StateT SortSt Sem (ForInStep GK)) (c:GK) (k l:GK->StateT SortSt Sem (ForInStep CS)),f=g->k=l->(forIn [:a.size+b.size] c f >>= k)=(forIn [:a.size+b.size] c g >>= l):=λ_ _ _ _ _ h h2=>by rw [h,h2]
  refine e2 _ _ _ _ _ (funext λ_=>funext λc=>?_) (funext λs=>?_)
  ·rfl
  ·obtain ⟨o,out,ia,ib,ac,bc⟩:=s
   cases o with
   | some r=>rfl
   | none =>
    dsimp only
    refine congrArg _ (funext λ_=>?_)
    have e3:∀ (f g:Nat->zP->StateT SortSt Sem (ForInStep zP)) (c:zP) (k l:zP->StateT SortSt Sem (ForInStep CS)),f=g->k=l->(forIn [:a.size+b.size] c f >>= k)=(forIn [:a.size+b.size] c g >>= l):=λ_ _ _ _ _ h h2=>by rw [h,h2]
    refine e3 _ _ _ _ _ (funext λ_=>funext λc=>?_) (funext λs=>?_)
    ·rfl
    ·obtain ⟨o,s⟩:=s
     cases o <;> rfl
 ·obtain ⟨o,s⟩:=s
  cases o <;> rfl
end
theorem some_at {xs:Array Keyed} (h:i<xs.size):∃ p,xs[i]?=some p:=⟨xs[i],Ny h⟩
def CT (rk:Keyed->Int) (a b:Array Keyed) (n:Nat) (o:Option (Array Keyed)) (ia ib:Nat) (out:Array Keyed):Prop:=(∃ r,o=some r/\Res rk a b r)\/(o=none/\lR rk a b out ia ib/\n<=ia+ib)
noncomputable def CU (rk:Keyed->Int) (a b:Array Keyed) (n:Nat):ForInStep zP->Prop
 | .done c=>CT rk a b n c.1 c.2.2.1 c.2.2.2.1 c.2.1
 | .yield c=>c.1=none/\lR rk a b c.2.1 c.2.2.1 c.2.2.2.1/\n<=c.2.2.1+c.2.2.2.1
theorem mR {st:SortSt} (lA:∀ {out:Array Keyed} {ia ib:Nat},WL rk a b out ia ib->ia+1=a.size->Res rk a b (BN a b out ia ib)) (W:WL rk a b out ia ib) (ua:Up rk a) (la:ia+1<a.size) (lb:ib<b.size) (ep:a[ia]?=some p)
 (hl:∀ (j:Nat) (r:Keyed),ib<=j->b[j]?=some r->rk p<=rk r) (hn:n<=ia+1+ib) (hQ:∀ x,CU rk a b n x->Q x st):wpS (model prog w) A E s (uZ a b mg ac bc ia ib out) Q st:=by
 unfold uZ
 have W4:=W.gj ua ep hl
 refine M5 (aR ep ?_)
 by_cases e9:ia+1+1=a.size
 ·rw [if_pos (by simpa using e9)]
  exact M6 (hQ _ (.inl ⟨_,rfl,lA W4 e9⟩))
 rw [if_neg (by simpa using e9)]
 have hL:lR rk a b (out.push p) (ia+1) ib:=⟨W4,Nat.lt_of_le_of_ne la e9,lb⟩
 split
 ·exact M6 (hQ _ (.inr ⟨rfl,hL,hn⟩))
 ·exact M6 (hQ _ ⟨rfl,hL,hn⟩)
theorem n9 {xs:Array Keyed} {i j:Nat} (h:i<=j) (e:xs[j]?=some p):xs[i+(j - i)]?=some p:=by rw [Sf h]; exact e
theorem mS {st:SortSt} (hC:iE prog w A s κ rk L) (hk:kindOf st=κ) (ma:∀ (i:Nat) (p:Keyed),a[i]?=some p->p∈L) (mb:∀ (i:Nat) (p:Keyed),b[i]?=some p->p∈L)
 (lA:∀ {out:Array Keyed} {ia ib:Nat},WL rk a b out ia ib->ia+1=a.size->Res rk a b (BN a b out ia ib)) (W:WL rk a b out ia ib) (ua:Up rk a) (ub:Up rk b) (la:ia+1<a.size) (lb:ib<b.size) (eq:b[ib]?=some q)
 (hl:∀ (j:Nat) (r:Keyed),ia<=j->a[j]?=some r->rk q<=rk r) (hn:n<=ia+ib+2) (hQ:∀ x,CU rk a b n x->Q x st):wpS (model prog w) A E s (u5 a b mg ac bc ia ib out) Q st:=by
 unfold u5
 have W2:=W.gi ub eq hl
 refine M5 (aR eq ?_)
 by_cases e5:ib+1=b.size
 ·rw [if_pos (by simpa using e5)]
  exact M6 (hQ _ (.inl ⟨_,rfl,W2.jl ua e5⟩))
 rw [if_neg (by simpa using e5)]
 obtain ⟨p,ep⟩:=some_at (xs:=a) (i:=ia) (by lia)
 refine M5 (aR ep ?_)
 refine M5 (qC hC hk (ma _ _ ep) mb ub _ (by lia) (by lia) λk hj1 hj2 hj3=>?_)
 dsimp only
 have W3:=W2.qA ub k (by lia) λi j r p' z1 z2 z3 e6 e7=>NG (OX (hj2 (i - (ib+1)) r (by lia) (n9 z1 e6))) (ua ia j p p' z3 ep e7)
 have bwd:∀ (j:Nat) (r:Keyed),ib+1+k<=j->b[j]?=some r->rk p<=rk r:=λj r hj e6=>hj3 (j - (ib+1)) r (by lia) (by have:=(PU.mp e6).1; lia) (n9 (Nb (P8 _ _) hj) e6)
 by_cases hj0:k>0
 ·rw [if_pos hj0]
  by_cases e8:ib+1+k=b.size
  ·rw [if_pos (by simpa using e8)]
   exact M6 (hQ _ (.inl ⟨_,rfl,W3.jl ua e8⟩))
  rw [if_neg (by simpa using e8)]
  exact mR lA W3 ua la (by lia) ep bwd (by lia) hQ
 ·rw [if_neg hj0]
  exact mR lA W2 ua la (by lia) ep (λj r hj e6=>bwd j r (by lia) e6) (by lia) hQ
theorem mT {st:SortSt} (hC:iE prog w A s κ rk L) (hk:kindOf st=κ) (ma:∀ (i:Nat) (p:Keyed),a[i]?=some p->p∈L) (mb:∀ (i:Nat) (p:Keyed),b[i]?=some p->p∈L)
 (lA:∀ {out:Array Keyed} {ia ib:Nat},WL rk a b out ia ib->ia+1=a.size->Res rk a b (BN a b out ia ib)) (ua:Up rk a) (ub:Up rk b) (hL:lR rk a b out ia ib) (hn:n<=ia+ib) (hQ:∀ x st',cN st st'->CU rk a b n x->Q x st') :
 wpS (model prog w) A E s (u6 a b mg ac bc ia ib out) Q st:=by
 unfold u6
 have W:=hL.w
 have la:=hL.la
 have lb:=hL.lb
 obtain ⟨q,eq⟩:=some_at (xs:=b) lb
 refine M5 (fM ?_)
 have Ff:=λx=>hQ x _ ((cN.refl st).min mg)
 refine M5 (aR eq ?_)
 refine M5 (qB hC (by exact hk) (mb _ _ eq) ma ua _ (by lia) (by lia) λk hk1 hk2 hk3=>?_)
 dsimp only
 have Wk:=W.qz ua k (by lia) λi j p r z1 z2 z3 e3 e4=>NG (hk2 (i - ia) p (by lia) (n9 z1 e3)) (ub ib j q r z3 eq e4)
 have fwd:∀ (j:Nat) (r:Keyed),ia+k<=j->a[j]?=some r->rk q<=rk r:=λj r hj e3=>OX (hk3 (j - ia) r (by lia) (by have:=(PU.mp e3).1; lia) (n9 (Nb (P8 _ _) hj) e3))
 by_cases hk0:k>0
 ·rw [if_pos hk0]
  by_cases e3:ia+k+1=a.size
  ·rw [if_pos (by simpa using e3)]
   exact M6 (Ff _ (.inl ⟨_,rfl,lA Wk e3⟩))
  rw [if_neg (by simpa using e3)]
  by_cases e4:ia+k=a.size
  ·rw [if_pos (by simpa using e4)]
   exact M6 (Ff _ (.inl ⟨_,rfl,Wk.jm ub e4⟩))
  rw [if_neg (by simpa using e4)]
  exact mS hC (by exact hk) ma mb lA Wk ua ub (by lia) lb eq fwd (by lia) Ff
 ·rw [if_neg hk0]
  exact mS hC (by exact hk) ma mb lA W ua ub la lb eq (λj r hj e3=>fwd j r (by lia) e3) (by lia) Ff
theorem wR {st:SortSt} (hC:iE prog w A s κ rk L) (hk:kindOf st=κ) (ma:∀ (i:Nat) (p:Keyed),a[i]?=some p->p∈L) (mb:∀ (i:Nat) (p:Keyed),b[i]?=some p->p∈L)
 (lA:∀ {out:Array Keyed} {ia ib:Nat},WL rk a b out ia ib->ia+1=a.size->Res rk a b (BN a b out ia ib)) (ua:Up rk a) (ub:Up rk b) (hL:lR rk a b c.2.1 c.2.2.1 c.2.2.2.1) (hn:n<=c.2.2.1+c.2.2.2.1+1)
 (hQ:∀ o ia ib out z y,CT rk a b n o ia ib out->Q (.done (o,out,ia,ib,z)) st/\(o=none->Q (.yield (none,out,ia,ib,y)) st)):wpS (model prog w) A E s (zR a b mg c) Q st:=by
 obtain ⟨_,out,ia,ib,ac,bc⟩:=c
 unfold zR
 dsimp only at hL hn |-
 have W:=hL.w
 have la:=hL.la
 have lb:=hL.lb
 obtain ⟨q,eq⟩:=some_at (xs:=b) lb
 obtain ⟨p,ep⟩:=some_at (xs:=a) (Nat.lt_of_succ_lt la)
 refine M5 (aR eq (M5 (aR ep (M5 (kM hC hk (mb _ _ eq) (ma _ _ ep) ?_)))))
 dsimp only
 by_cases hw:rk q<rk p
 ·rw [decide_eq_true hw,if_pos rfl]
  have W1:=W.gi ub eq λj r hj e=>NG (OX hw) (ua ia j p r hj ep e)
  refine M5 (aR eq ?_)
  by_cases e3:ib+1=b.size
  ·rw [if_pos (by simpa using e3)]
   exact M6 (hQ _ _ _ _ _ (0,0) (.inl ⟨_,rfl,W1.jl ua e3⟩)).1
  rw [if_neg (by simpa using e3)]
  have z:=hQ none ia (ib+1) (out.push q) (0,bc+1) (0,bc+1) (.inr ⟨rfl,⟨W1,la,by lia⟩,by lia⟩)
  split
  ·exact M6 z.1
  ·exact M6 (z.2 rfl)
 ·rw [decide_eq_false hw,if_neg Nc]
  have W1:=W.gj ua ep λj r hj e=>NG (Int.not_lt.mp hw) (ub ib j q r hj eq e)
  refine M5 (aR ep ?_)
  by_cases e3:ia+1+1=a.size
  ·rw [if_pos (by simpa using e3)]
   exact M6 (hQ _ _ _ _ _ (0,0) (.inl ⟨_,rfl,lA W1 e3⟩)).1
  rw [if_neg (by simpa using e3)]
  have z:=hQ none (ia+1) ib (out.push p) (ac+1,0) (ac+1,0) (.inr ⟨rfl,⟨W1,by lia,lb⟩,by lia⟩)
  split
  ·exact M6 z.1
  ·exact M6 (z.2 rfl)
theorem sO {st:SortSt} (hC:iE prog w A s κ rk L) (hk:kindOf st=κ) (ma:∀ (i:Nat) (p:Keyed),a[i]?=some p->p∈L) (mb:∀ (i:Nat) (p:Keyed),b[i]?=some p->p∈L)
 (lA:∀ {out:Array Keyed} {ia ib:Nat},WL rk a b out ia ib->ia+1=a.size->Res rk a b (BN a b out ia ib)) (ua:Up rk a) (ub:Up rk b) (hL:lR rk a b c.2.1 c.2.2.1 c.2.2.2.1) (hn:n<=c.2.2.1+c.2.2.2.1+1)
 (h1:∀ r z st',cN st st'->Res rk a b r->Q (.done (some r,z)) st') (h2:∀ ia ib out g st',cN st st'->lR rk a b out ia ib->n<=ia+ib->Q (.yield (none,out,ia,ib,g)) st'):wpS (model prog w) A E s (n8 a b c) Q st:=by
 unfold n8
 refine M5 (NI (N8 (I:=λy c st'=>st'=st/\c.1=none/\lR rk a b c.2.1 c.2.2.1 c.2.2.2.1/\n+y<=c.2.2.1+c.2.2.2.1+1) (Q:=λc st'=>st'=st/\CT rk a b n c.1 c.2.2.1 c.2.2.2.1 c.2.1) ?step ?fin ⟨rfl,rfl,hL,hn⟩) ?post)
 case fin =>
  rintro c st' ⟨rfl,hc,hL',hx⟩
  exact ⟨rfl,.inr ⟨hc,hL',by have:=hL'.la; have:=hL'.lb; lia⟩⟩
 case step =>
  rintro y c st' _ hy ⟨rfl,_,hL',hx⟩
  refine wR (n:=n+y) hC hk ma mb lA ua ub hL' hx λo ia ib out z y hR=>⟨?_,?_⟩
  ·refine ⟨rfl,?_⟩
   rcases hR with hR | ⟨q1,q2,q3⟩
   ·exact .inl hR
   ·exact .inr ⟨q1,q2,Nb (P8 _ _) q3⟩
  ·rintro rfl
   rcases hR with ⟨_,q,_⟩ | ⟨q1,q2,q3⟩
   ·cases q
   ·exact ⟨rfl,rfl,q2,Ri q3⟩
 case post =>
  rintro ⟨o,out,ia,ib,ac,bc⟩ st' ⟨rfl,hR⟩
  dsimp only at hR |-
  rcases hR with ⟨r,rfl,hr⟩ | ⟨rfl,hL2,hn2⟩
  ·exact M6 (h1 r _ _ (.refl _) hr)
  refine M5 (Pc (Ol ⟨rfl,?_⟩))
  refine M5 (NI (N8 (I:=λy c st''=>cN st' st''/\c.1=none/\lR rk a b c.2.1 c.2.2.1 c.2.2.2.1/\n<=c.2.2.1+c.2.2.2.1) (Q:=λc st''=>cN st' st''/\CT rk a b n c.1 c.2.2.1 c.2.2.2.1 c.2.1) ?gstep ?gfin ⟨.refl _,rfl,hL2,hn2⟩) ?gpost)
  case gfin=>exact λc st'' ⟨q1,q2,q3,q4⟩=>⟨q1,.inr ⟨q2,q3,q4⟩⟩
  case gstep =>
   rintro y c st'' _ _ ⟨q1,q2,q3,q4⟩
   have key:wpS (model prog w) A E s (zQ a b c) (λx st3=>cN st'' st3/\CU rk a b n x) st'':=by
    unfold zQ
    split
    ·exact mT hC (q1.k.trans hk) ma mb lA ua ub q3 q4 λx st3 k h=>⟨k,h⟩
    ·exact mT hC (q1.k.trans hk) ma mb lA ua ub q3 q4 λx st3 k h=>⟨k,h⟩
   refine NI key λx st3 ⟨k,h⟩=>?_
   cases x with
   | done c=>exact ⟨q1.trans k,h⟩
   | yield c=>exact ⟨q1.trans k,h⟩
  case gpost =>
   rintro ⟨o,out,ia,ib,g,ac,bc⟩ st'' ⟨q1,hR⟩
   dsimp only at hR |-
   rcases hR with ⟨r,rfl,hr⟩ | ⟨rfl,hL3,hn3⟩
   ·exact M6 (h1 r _ _ q1 hr)
   ·exact M5 (fM (M6 (h2 _ _ _ _ _ (q1.min _) hL3 hn3)))
theorem qE {st:SortSt} (hC:iE prog w A s κ rk L) (hk:kindOf st=κ) (ma:∀ (i:Nat) (p:Keyed),a[i]?=some p->p∈L) (mb:∀ (i:Nat) (p:Keyed),b[i]?=some p->p∈L) (ua:Up rk a) (ub:Up rk b) (na:1<=a.size) (nb:1<=b.size)
 (h0:∀ p q,a[0]?=some p->b[0]?=some q->rk q<=rk p) (hl:∀ (j:Nat) (p q:Keyed),a[a.size - 1]?=some p->b[j]?=some q->rk q<=rk p) (h:∀ r st',Res rk a b r->cN st st'->Q r st'):wpS (model prog w) A E s (kO a b) Q st:=by
 have lastA:∀ {out:Array Keyed} {ia ib:Nat},WL rk a b out ia ib->ia+1=a.size->Res rk a b (BN a b out ia ib):=λhw e=>hw.last ub e λj p q e1 e2=>hl j p q (by rw [<- e]; exact e1) e2
 obtain ⟨q0,eq0⟩:=some_at (xs:=b) (i:=0) nb
 obtain ⟨p0,ep0⟩:=some_at (xs:=a) (i:=0) na
 have W0:WL rk a b #[q0] 0 1:=by
  have z:WL rk a b #[] 0 0:=⟨ND _,ND _,by simp,Qq,by simp,by simp⟩
  exact z.gi ub eq0 λj q _ e=>NG (h0 p0 q0 ep0 eq0) (ua 0 j p0 q (ND _) ep0 e)
 rw [qD]
 refine M5 (Pc (Ol ⟨rfl,?_⟩))
 refine M5 (aR eq0 ?_)
 by_cases e1:1=b.size
 ·rw [if_pos (by simpa using e1)]
  exact M6 (h _ _ (W0.jl ua e1) (.refl _))
 rw [if_neg (by simpa using e1)]
 by_cases e2:0+1=a.size
 ·rw [if_pos (by simpa using e2)]
  exact M6 (h _ _ (lastA W0 e2) (.refl _))
 rw [if_neg (by simpa using e2)]
 refine M5 (Oz ?_)
 refine M5 (NI (N8 (I:=λx c st'=>cN st st'/\c.1=none/\lR rk a b c.2.1 c.2.2.1 c.2.2.2.1/\x+1<=c.2.2.1+c.2.2.2.1) (Q:=λc st'=>cN st st'/\∃ r,c.1=some r/\Res rk a b r) ?step ?fin ⟨.refl _,rfl,⟨W0,by dsimp only; lia,by dsimp only; lia⟩,by dsimp only; lia⟩) ?post)
 case fin =>
  rintro c st' ⟨hK,hc,hL,hx⟩
  have h1:=hL.la
  have h2:=hL.lb
  lia
 case post =>
  rintro c st' ⟨hK,r,hc,hr⟩
  rw [hc]
  exact M6 (h r st' hr hK)
 case step =>
  rintro x c st1 _ hx ⟨hK,_,hL,hn⟩
  exact sO (n:=x+2) hC (hK.k.trans hk) ma mb lastA ua ub hL (Ri hn) (λr z st' k hr=>⟨hK.trans k,r,rfl,hr⟩) λia ib out g st' k q1 q2=>⟨hK.trans k,rfl,q1,q2⟩
noncomputable def kR:Array Keyed->Array Keyed->StateT SortSt Sem (Array Keyed):=sortPriv% PySem.Builtin.mergeHi
local macro_rules | `(tactic| walk_at "dl mergeHi")=>do
 let i:=Pw (Pf `PySem.Builtin.List.W1All `PySem.Builtin.mergeHi)
 `(tactic| delta $i)
section
variable {rk:Keyed->Int} {a b:Array Keyed}
structure WH (rk:Keyed->Int) (a b:Array Keyed) (out:Array Keyed) (na nb:Nat):Prop where
 pa:na<=a.size
 pb:nb<=b.size
 pm:out.toList.Perm (a.toList.drop na++b.toList.drop nb)
 sr:zO rk out.toList.reverse
 ha:∀ p∈out.toList,∀ (j:Nat) (q:Keyed),j<na->a[j]?=some q->rk q<=rk p
 hb:∀ p∈out.toList,∀ (j:Nat) (q:Keyed),j<nb->b[j]?=some q->rk q<=rk p
theorem dF (xs:Array Keyed) (i):(xs.extract 0 i).toList=xs.toList.take i:=by rw [d9,Rz]
theorem iS {xs:Array Keyed} (h:q∈xs.toList.take i):∃ j,j<i/\xs[j]?=some q:=by
 obtain ⟨n,hn⟩:=PZ h
 have hl:=(Nf.mp hn).1
 rw [N2] at hl
 rw [QS (by lia)] at hn
 exact ⟨n,by lia,by rw [<- NS]; exact hn⟩
theorem WH.res (h:WH rk a b out na nb) (x) (hx:x.toList.Perm (a.toList.take na++b.toList.take nb)) (hs:zO rk x.toList):Res rk a b (x++out.reverse):=by
 have e0:(x++out.reverse).toList=x.toList++out.toList.reverse:=by simp
 refine ⟨?_,?_⟩
 ·rw [e0]
  refine (hx.append ((Rf _).trans h.pm)).trans ?_
  have:(a.toList.take na++b.toList.take nb++(a.toList.drop na++b.toList.drop nb)).Perm (a.toList.take na++a.toList.drop na++(b.toList.take nb++b.toList.drop nb)):=by
   rw [Nz,Nz]
   refine PX _ ?_
   rw [<- Nz,<- Nz]
   exact List.Perm.append_right _ Ph
  rw [OD,OD] at this
  exact this
 ·rw [e0]
  refine bN hs h.sr λp hp q hq=>?_
  have hq':q∈out.toList:=by simpa using hq
  rcases NF.mp (hx.mem_iff.mp hp) with z | z
  ·obtain ⟨j,h1,e⟩:=iS z
   exact h.ha q hq' j p h1 e
  ·obtain ⟨j,h1,e⟩:=iS z
   exact h.hb q hq' j p h1 e
theorem WH.jm (h:WH rk a b out na nb) (ub:Up rk b) (e:na=0):Res rk a b (a.extract 0 na++b.extract 0 nb++out.reverse):=by
 subst e
 refine h.res _ ?_ ?_
 ·simp [dF]
 ·have:(a.extract 0 0++b.extract 0 nb).toList=b.toList.take nb:=by rw [Od,dF,dF]; simp
  rw [this]; exact (jk ub).sublist (Rc _ _)
theorem WH.jl (h:WH rk a b out na nb) (ua:Up rk a) (e:nb=0):Res rk a b (a.extract 0 na++b.extract 0 nb++out.reverse):=by
 subst e
 refine h.res _ ?_ ?_
 ·simp [dF]
 ·have:(a.extract 0 na++b.extract 0 0).toList=a.toList.take na:=by rw [Od,dF,dF]; simp
  rw [this]; exact (jk ua).sublist (Rc _ _)
theorem WH.first (h:WH rk a b out na nb) (ua:Up rk a) (e:nb=1) (hf:∀ (j:Nat) (p q:Keyed),a[j]?=some p->b[0]?=some q->rk q<=rk p) :
 Res rk a b (b.extract 0 nb++a.extract 0 na++out.reverse):=by
 subst e
 have e1:(b.extract 0 1++a.extract 0 na).toList=b.toList.take 1++a.toList.take na:=by rw [Od,dF,dF]
 refine h.res _ ?_ ?_
 ·rw [e1]; exact Ph
 ·rw [e1]
  refine bN ?_ ((jk ua).sublist (Rc _ _)) λp hp q hq=>?_
  ·exact uX (by simp; lia)
  ·obtain ⟨j,h1,e2⟩:=iS hp
   obtain ⟨j2,h2,e3⟩:=iS hq
   have:j=0:=by lia
   subst this
   exact hf j2 q p e3 e2
theorem mU {xs:Array Keyed} (hi:1<=i) (h:xs[i - 1]?=some p):xs.toList.drop (i - 1)=p::xs.toList.drop i:=by
 rw [<- NS] at h
 obtain ⟨h1,h2⟩:=Nf.mp h
 rw [List.drop_eq_getElem_cons h1,h2,show i - 1+1=i by lia]
theorem WH.gj {out:Array Keyed} {na nb:Nat} {p:Keyed} (h:WH rk a b out na nb) (ua:Up rk a) (hn:1<=na) (e:a[na - 1]?=some p) (hl:∀ (j:Nat) (q:Keyed),j<nb->b[j]?=some q->rk q<=rk p):WH rk a b (out.push p) (na - 1) nb where
 pa:=by have:=h.pa; lia
 pb:=h.pb
 pm:=by
  rw [NK,mU hn e]
  refine (h.pm.append_right _).trans ?_
  rw [Pp]
  exact Ph
 sr:=by
  rw [NK,Sg]
  exact bN (PV _ _) h.sr λr hr q hq=>by
   have hr':r=p:=by simpa using hr
   rw [hr']
   exact h.ha q (by simpa using hq) (na - 1) p (by lia) e
 ha:=λq hq j r hj er=>by
  rw [NK] at hq
  rcases NF.mp hq with z | z
  ·exact h.ha q z j r (by lia) er
  ·rw [Nj.mp z]; exact ua j (na - 1) r p (by lia) er e
 hb:=λq hq j r hj er=>by
  rw [NK] at hq
  rcases NF.mp hq with z | z
  ·exact h.hb q z j r hj er
  ·rw [Nj.mp z]; exact hl j r hj er
theorem WH.gi {out:Array Keyed} {na nb:Nat} {p:Keyed} (h:WH rk a b out na nb) (ub:Up rk b) (hn:1<=nb) (e:b[nb - 1]?=some p) (hl:∀ (j:Nat) (q:Keyed),j<na->a[j]?=some q->rk q<=rk p):WH rk a b (out.push p) na (nb - 1) where
 pa:=h.pa
 pb:=by have:=h.pb; lia
 pm:=by
  rw [NK,mU hn e]
  refine (h.pm.append_right _).trans ?_
  rw [Nz]
  exact PX _ Ph
 sr:=by
  rw [NK,Sg]
  exact bN (PV _ _) h.sr λr hr q hq=>by
   have hr':r=p:=by simpa using hr
   rw [hr']
   exact h.hb q (by simpa using hq) (nb - 1) p (by lia) e
 hb:=λq hq j r hj er=>by
  rw [NK] at hq
  rcases NF.mp hq with z | z
  ·exact h.hb q z j r (by lia) er
  ·rw [Nj.mp z]; exact ub j (nb - 1) r p (by lia) er e
 ha:=λq hq j r hj er=>by
  rw [NK] at hq
  rcases NF.mp hq with z | z
  ·exact h.ha q z j r hj er
  ·rw [Nj.mp z]; exact hl j r hj er
theorem u7 {xs:Array Keyed} (h:m<n) (e:xs[m]?=some p):(xs.extract m n).reverse=(xs.extract (m+1) n).reverse.push p:=by
 apply Pb
 rw [NK,P0,P0,d9,d9]
 rw [<- NS] at e
 obtain ⟨h1,h2⟩:=Nf.mp e
 have h3:m<(xs.toList.take n).length:=by rw [N2]; lia
 rw [List.drop_eq_getElem_cons h3,List.reverse_cons,List.getElem_take,h2]
theorem qF (xs ys:Array Keyed) (p):xs++ys.push p=(xs++ys).push p:=by
 apply Pb; simp
theorem WH.qz (h:WH rk a b out na nb) (ua:Up rk a):∀ (k m:Nat),m+k=na->(∀ (i j:Nat) (p q:Keyed),m<=i->i<na->j<nb->a[i]?=some p->b[j]?=some q->rk q<=rk p)->WH rk a b (out++(a.extract m na).reverse) m nb
 | 0,m,hm,_=>by
  have e:m=na:=by lia
  subst e
  have:out++(a.extract m m).reverse=out:=by
   apply Pb
   rw [Od,P0,iR,List.reverse_nil,N7]
  rw [this]; exact h
 | k+1,m,hm,hl=>by
  have hp:=h.pa
  have ih:=h.qz ua k (m+1) (by lia) λi j p q h1 h2=>hl i j p q (by lia) h2
  have e:a[m+1 - 1]?=some (a[m]'(by lia)):=Ny (show m<a.size by lia)
  have z:=ih.gj ua (by lia) e λj q hj eq=>hl m j _ q (M4 _) (by lia) hj (Ny (show m<a.size by lia)) eq
  rw [u7 (show m<na by lia) (Ny (show m<a.size by lia)),qF]
  exact z
theorem WH.qA (h:WH rk a b out na nb) (ub:Up rk b):∀ (k m:Nat),m+k=nb->(∀ (i j:Nat) (p q:Keyed),m<=i->i<nb->j<na->b[i]?=some p->a[j]?=some q->rk q<=rk p)->WH rk a b (out++(b.extract m nb).reverse) na m
 | 0,m,hm,_=>by
  have e:m=nb:=by lia
  subst e
  have:out++(b.extract m m).reverse=out:=by
   apply Pb
   rw [Od,P0,iR,List.reverse_nil,N7]
  rw [this]; exact h
 | k+1,m,hm,hl=>by
  have hp:=h.pb
  have ih:=h.qA ub k (m+1) (by lia) λi j p q h1 h2=>hl i j p q (by lia) h2
  have e:b[m+1 - 1]?=some (b[m]'(by lia)):=Ny (show m<b.size by lia)
  have z:=ih.gi ub (by lia) e λj q hj eq=>hl m j _ q (M4 _) (by lia) hj (Ny (show m<b.size by lia)) eq
  rw [u7 (show m<nb by lia) (Ny (show m<b.size by lia)),qF]
  exact z
structure gW (rk:Keyed->Int) (a b out:Array Keyed) (na nb:Nat):Prop where
 w:WH rk a b out na nb
 la:1<=na
 lb:2<=nb
end
noncomputable abbrev zS:=Option (Array Keyed)×Nat×Nat×Array Keyed×Nat×Nat×Nat
noncomputable def EU (a b out:Array Keyed) (na nb:Nat):Array Keyed:=a.extract 0 na++b.extract 0 nb++out.reverse
noncomputable def CV (a b out:Array Keyed) (na nb:Nat):Array Keyed:=b.extract 0 nb++a.extract 0 na++out.reverse
noncomputable def u9 (a b:Array Keyed) (mg ac bc na nb:Nat) (out:Array Keyed):StateT SortSt Sem (ForInStep zS):=do
 let p <- elem' a (na - 1)
 if (na - 1 == 0)=true then pure (.done (some (EU a b (out.push p) (na - 1) nb),na - 1,nb,out.push p,mg,ac,bc))
 else if (decide (ac<7) && decide (bc<7))=true then pure (.done (none,na - 1,nb,out.push p,mg,ac,bc))
 else pure (.yield (none,na - 1,nb,out.push p,mg,ac,bc))
noncomputable def vc (a b:Array Keyed) (mg ac bc na nb:Nat) (out:Array Keyed):StateT SortSt Sem (ForInStep zS):=do
 let q <- elem' b (nb - 1)
 if (nb - 1 == 1)=true then pure (.done (some (CV a b (out.push q) na (nb - 1)),na,nb - 1,out.push q,mg,ac,bc))
 else do
  let p <- elem' a (na - 1)
  let x <- cL true p b 0 (nb - 1) (nb - 1 - 1)
  match x with
  | some k=>(if nb - 1 - k>0 then
   (if (k == 1)=true then pure (.done (some (CV a b (out.push q++(b.extract k (nb - 1)).reverse) na k),na,k,out.push q++(b.extract k (nb - 1)).reverse,mg,ac,nb - 1 - k))
    else if (k == 0)=true then pure (.done (some (EU a b (out.push q++(b.extract k (nb - 1)).reverse) na k),na,k,out.push q++(b.extract k (nb - 1)).reverse,mg,ac,nb - 1 - k))
    else u9 a b mg ac (nb - 1 - k) na k (out.push q++(b.extract k (nb - 1)).reverse))
   else u9 a b mg ac (nb - 1 - k) na (nb - 1) (out.push q))
  | _=>pure (.done (some (EU a b (out.push q) na (nb - 1)),na,nb - 1,out.push q,mg,ac,bc))
noncomputable def vd (a b:Array Keyed) (mg ac bc na nb:Nat) (out:Array Keyed):StateT SortSt Sem (ForInStep zS):=do
 cF mg
 let q <- elem' b (nb - 1)
 let x <- cL false q a 0 na (na - 1)
 match x with
 | some k=>(if na - k>0 then
  (if (k == 0)=true then pure (.done (some (EU a b (out++(a.extract k na).reverse) k nb),k,nb,out++(a.extract k na).reverse,mg,na - k,bc))
   else vc a b mg (na - k) bc k nb (out++(a.extract k na).reverse))
  else vc a b mg (na - k) bc na nb out)
 | _=>pure (.done (some (EU a b out na nb),na,nb,out,mg,ac,bc))
noncomputable def zT (a b:Array Keyed) (c:zS):StateT SortSt Sem (ForInStep zS) :=
 if c.2.2.2.2.1>1 then vd a b (c.2.2.2.2.1 - 1) c.2.2.2.2.2.1 c.2.2.2.2.2.2 c.2.1 c.2.2.1 c.2.2.2.1 else vd a b c.2.2.2.2.1 c.2.2.2.2.2.1 c.2.2.2.2.2.2 c.2.1 c.2.2.1 c.2.2.2.1
noncomputable abbrev GL:=Option (Array Keyed)×Nat×Nat×Array Keyed×Nat×Nat
noncomputable def zU (a b:Array Keyed) (mg:Nat) (c:GL):StateT SortSt Sem (ForInStep GL):=do
 let q <- elem' b (c.2.2.1 - 1)
 let p <- elem' a (c.2.1 - 1)
 let x <- lt' q p
 match x with
 | some y=>(if y=true then (do
  let p <- elem' a (c.2.1 - 1)
  if (c.2.1 - 1 == 0)=true then pure (.done (some (EU a b (c.2.2.2.1.push p) (c.2.1 - 1) c.2.2.1),c.2.1 - 1,c.2.2.1,c.2.2.2.1.push p,c.2.2.2.2.1+1,0))
  else if c.2.2.2.2.1+1>=mg then pure (.done (none,c.2.1 - 1,c.2.2.1,c.2.2.2.1.push p,c.2.2.2.2.1+1,0))
  else pure (.yield (none,c.2.1 - 1,c.2.2.1,c.2.2.2.1.push p,c.2.2.2.2.1+1,0)))
  else (do
   let q <- elem' b (c.2.2.1 - 1)
   if (c.2.2.1 - 1 == 1)=true then pure (.done (some (CV a b (c.2.2.2.1.push q) c.2.1 (c.2.2.1 - 1)),c.2.1,c.2.2.1 - 1,c.2.2.2.1.push q,0,c.2.2.2.2.2+1))
   else if c.2.2.2.2.2+1>=mg then pure (.done (none,c.2.1,c.2.2.1 - 1,c.2.2.2.1.push q,0,c.2.2.2.2.2+1))
   else pure (.yield (none,c.2.1,c.2.2.1 - 1,c.2.2.2.1.push q,0,c.2.2.2.2.2+1))))
 | _=>pure (.done (some (EU a b c.2.2.2.1 c.2.1 c.2.2.1),c.2.1,c.2.2.1,c.2.2.2.1,c.2.2.2.2.1,c.2.2.2.2.2))
noncomputable abbrev BO:=Option (Array Keyed)×Nat×Nat×Array Keyed×Nat
noncomputable def jn (a b:Array Keyed) (c:BO):StateT SortSt Sem (ForInStep BO):=do
 let s <- forIn [:a.size+b.size] ((none,c.2.1,c.2.2.1,c.2.2.2.1,0,0):GL) λ_ s=>zU a b c.2.2.2.2 s
 match s.1 with
 | some r=>pure (.done (some r,s.2.1,s.2.2.1,s.2.2.2.1,c.2.2.2.2))
 | none=>do
  liftM (rule "list.sort.gallop")
  let t <- forIn [:a.size+b.size] ((none,s.2.1,s.2.2.1,s.2.2.2.1,c.2.2.2.2+1,s.2.2.2.2.1,s.2.2.2.2.2):zS) λ_ t=>zT a b t
  match t.1 with
  | some r=>pure (.done (some r,t.2.1,t.2.2.1,t.2.2.2.1,t.2.2.2.2.1))
  | none=>do
   cF (t.2.2.2.2.1+1)
   pure (.yield (none,t.2.1,t.2.2.1,t.2.2.2.1,t.2.2.2.2.1+1))
theorem qG (a b):kR a b=(do
 liftM (rule "list.sort.merge-hi")
 let p <- elem' a (a.size - 1)
 if (a.size - 1 == 0)=true then pure (EU a b #[p] (a.size - 1) b.size)
 else if (b.size == 1)=true then pure (CV a b #[p] (a.size - 1) b.size)
 else do
  let st <- get
  let s <- forIn [:a.size+b.size] ((none,a.size - 1,b.size,#[p],gallopOf st):BO) λ_ c=>jn a b c
  match s.1 with
  | some r=>pure r
  | none=>liftM (unsupported (α:=Array Keyed) "internal:list.sort.merge-bound")):=by
 unfold kR
 walk_at "dl mergeHi"
 dsimp only
 refine congrArg _ (funext λ_=>?_)
 refine congrArg _ (funext λp=>?_)
 refine congrArg _ (congrArg _ ?_)
 refine congrArg _ (funext λst=>?_)
 have h1:∀ (c:BO),jn a b c=jn a b c:=λ_=>rfl
 have e:∀ (f g:Nat->BO->StateT SortSt Sem (ForInStep BO)) (c:BO) (k:BO->StateT SortSt Sem (Array Keyed)),f=g->(forIn [:a.size+b.size] c f >>= k)=(forIn [:a.size+b.size] c g >>= k):=λ_ _ _ _ h=>by rw [h]
 refine (e _ _ _ _ (funext λ_=>funext λc=>?_)).trans (congrArg _ (funext λs=>?_))
 ·obtain ⟨o,na,nb,out,mg⟩:=c
  unfold jn
  dsimp only
  have e2:∀ (f g:Nat->GL->StateT SortSt Sem (ForInStep GL)) (c:GL) (k l:GL->StateT SortSt Sem (ForInStep BO)),f=g->k=l->(forIn [:a.size+b.size] c f >>= k)=(forIn [:a.size+b.size] c g >>= l):=λ_ _ _ _ _ h h2=>by rw [h,h2]
  refine e2 _ _ _ _ _ (funext λ_=>funext λc=>?_) (funext λs=>?_)
  ·rfl
  ·obtain ⟨o,na,nb,out,ac,bc⟩:=s
   cases o with
   | some r=>rfl
   | none =>
    dsimp only
    refine congrArg _ (funext λ_=>?_)
    have e3:∀ (f g:Nat->zS->StateT SortSt Sem (ForInStep zS)) (c:zS) (k l:zS->StateT SortSt Sem (ForInStep BO)),f=g->k=l->(forIn [:a.size+b.size] c f >>= k)=(forIn [:a.size+b.size] c g >>= l):=λ_ _ _ _ _ h h2=>by rw [h,h2]
    refine e3 _ _ _ _ _ (funext λ_=>funext λc=>?_) (funext λs=>?_)
    ·rfl
    ·obtain ⟨o,s⟩:=s
     cases o <;> rfl
 ·obtain ⟨o,s⟩:=s
  cases o <;> rfl
def CW (rk:Keyed->Int) (a b:Array Keyed) (n:Nat) (o:Option (Array Keyed)) (na nb:Nat) (out:Array Keyed):Prop:=(∃ r,o=some r/\Res rk a b r)\/(o=none/\gW rk a b out na nb/\na+nb<=n)
noncomputable def CY (rk:Keyed->Int) (a b:Array Keyed) (n:Nat):ForInStep zS->Prop
 | .done c=>CW rk a b n c.1 c.2.1 c.2.2.1 c.2.2.2.1
 | .yield c=>c.1=none/\gW rk a b c.2.2.2.1 c.2.1 c.2.2.1/\c.2.1+c.2.2.1<=n
theorem mV {st:SortSt} (W:WH rk a b out na nb) (ua:Up rk a) (ub:Up rk b) (la:1<=na) (lb:2<=nb) (ep:a[na - 1]?=some p)
 (hl:∀ (j:Nat) (r:Keyed),j<nb->b[j]?=some r->rk r<=rk p) (hn:na - 1+nb<=n) (hQ:∀ x,CY rk a b n x->Q x st):wpS (model prog w) A E s (u9 a b mg ac bc na nb out) Q st:=by
 unfold u9
 have W4:=W.gj ua la ep hl
 refine M5 (aR ep ?_)
 by_cases e9:na - 1=0
 ·rw [if_pos (by simpa using e9)]
  exact M6 (hQ _ (.inl ⟨_,rfl,W4.jm ub e9⟩))
 rw [if_neg (by simpa using e9)]
 have hL:gW rk a b (out.push p) (na - 1) nb:=⟨W4,R6.mpr e9,lb⟩
 split
 ·exact M6 (hQ _ (.inr ⟨rfl,hL,hn⟩))
 ·exact M6 (hQ _ ⟨rfl,hL,hn⟩)
theorem mW {st:SortSt} (hC:iE prog w A s κ rk L) (hk:kindOf st=κ) (ma:∀ (i:Nat) (p:Keyed),a[i]?=some p->p∈L) (mb:∀ (i:Nat) (p:Keyed),b[i]?=some p->p∈L)
 (fB:∀ {out:Array Keyed} {na nb:Nat},WH rk a b out na nb->nb=1->Res rk a b (CV a b out na nb)) (W:WH rk a b out na nb) (ua:Up rk a) (ub:Up rk b) (la:1<=na) (lb:2<=nb) (eq:b[nb - 1]?=some q)
 (hl:∀ (j:Nat) (r:Keyed),j<na->a[j]?=some r->rk r<=rk q) (hn:na+nb<=n+2) (hQ:∀ x,CY rk a b n x->Q x st):wpS (model prog w) A E s (vc a b mg ac bc na nb out) Q st:=by
 unfold vc
 have W2:=W.gi ub (Nat.le_of_succ_le lb) eq hl
 have hpa:=W.pa
 have hpb:=W.pb
 refine M5 (aR eq ?_)
 by_cases e5:nb - 1=1
 ·rw [if_pos (by simpa using e5)]
  exact M6 (hQ _ (.inl ⟨_,rfl,fB W2 e5⟩))
 rw [if_neg (by simpa using e5)]
 have lb1:2<=nb - 1:=by lia
 obtain ⟨p,ep⟩:=some_at (xs:=a) (i:=na - 1) (by lia)
 refine M5 (aR ep ?_)
 refine M5 (qC hC hk (ma _ _ ep) mb ub _ (by lia) (by lia) λk hj1 hj2 hj3=>?_)
 dsimp only
 have dn2:∀ (i:Nat) (r:Keyed),i<k->b[i]?=some r->rk r<rk p:=λi r z1 e6=>hj2 i r z1 (by rw [O8]; exact e6)
 by_cases hj0:nb - 1 - k>0
 ·rw [if_pos hj0]
  have W3:=W2.qA ub (nb - 1 - k) k (Sf hj1) λi j r p' z1 z2 z3 e6 e7=>NG (ua j (na - 1) p' p (Q0 z3) e7 ep) (hj3 i r z1 (Nat.add_lt_add_left z2 0) (by rw [O8]; exact e6))
  by_cases e8:k=1
  ·rw [if_pos (by simpa using e8)]
   exact M6 (hQ _ (.inl ⟨_,rfl,fB W3 e8⟩))
  rw [if_neg (by simpa using e8)]
  by_cases e10:k=0
  ·rw [if_pos (by simpa using e10)]
   exact M6 (hQ _ (.inl ⟨_,rfl,W3.jl ua e10⟩))
  rw [if_neg (by simpa using e10)]
  exact mV W3 ua ub la (by lia) ep (λj r hj e6=>OX (dn2 j r hj e6)) (by lia) hQ
 ·rw [if_neg hj0]
  exact mV W2 ua ub la lb1 ep (λj r hj e6=>OX (dn2 j r (by lia) e6)) (by lia) hQ
theorem mX {st:SortSt} (hC:iE prog w A s κ rk L) (hk:kindOf st=κ) (ma:∀ (i:Nat) (p:Keyed),a[i]?=some p->p∈L) (mb:∀ (i:Nat) (p:Keyed),b[i]?=some p->p∈L)
 (fB:∀ {out:Array Keyed} {na nb:Nat},WH rk a b out na nb->nb=1->Res rk a b (CV a b out na nb)) (ua:Up rk a) (ub:Up rk b) (hL:gW rk a b out na nb) (hn:na+nb<=n) (hQ:∀ x st',cN st st'->CY rk a b n x->Q x st') :
 wpS (model prog w) A E s (vd a b mg ac bc na nb out) Q st:=by
 unfold vd
 have W:=hL.w
 have la:=hL.la
 have lb:=hL.lb
 have hpa:=W.pa
 have hpb:=W.pb
 obtain ⟨q,eq⟩:=some_at (xs:=b) (i:=nb - 1) (by lia)
 refine M5 (fM ?_)
 have Ff:=λx=>hQ x _ ((cN.refl st).min mg)
 refine M5 (aR eq ?_)
 refine M5 (qB hC (by exact hk) (mb _ _ eq) ma ua _ (by lia) (by lia) λk hk1 hk2 hk3=>?_)
 dsimp only
 have dn1:∀ (i:Nat) (p:Keyed),i<k->a[i]?=some p->rk p<=rk q:=λi p z1 e3=>hk2 i p z1 (by rw [O8]; exact e3)
 by_cases hk0:na - k>0
 ·rw [if_pos hk0]
  have Wk:=W.qz ua (na - k) k (Sf hk1) λi j p r z1 z2 z3 e3 e4=>NG (ub j (nb - 1) r q (Q0 z3) e4 eq) (OX (hk3 i p z1 (Nat.add_lt_add_left z2 0) (by rw [O8]; exact e3)))
  by_cases e4:k=0
  ·rw [if_pos (by simpa using e4)]
   exact M6 (Ff _ (.inl ⟨_,rfl,Wk.jm ub e4⟩))
  rw [if_neg (by simpa using e4)]
  exact mW hC (by exact hk) ma mb fB Wk ua ub (R6.mpr e4) lb eq dn1 (by lia) Ff
 ·rw [if_neg hk0]
  exact mW hC (by exact hk) ma mb fB W ua ub la lb eq (λj r hj e3=>dn1 j r (by lia) e3) (by lia) Ff
theorem wU {st:SortSt} (hC:iE prog w A s κ rk L) (hk:kindOf st=κ) (ma:∀ (i:Nat) (p:Keyed),a[i]?=some p->p∈L) (mb:∀ (i:Nat) (p:Keyed),b[i]?=some p->p∈L)
 (fB:∀ {out:Array Keyed} {na nb:Nat},WH rk a b out na nb->nb=1->Res rk a b (CV a b out na nb)) (ua:Up rk a) (ub:Up rk b) (hL:gW rk a b c.2.2.2.1 c.2.1 c.2.2.1) (hn:c.2.1+c.2.2.1<=n+1)
 (hQ:∀ o na nb out z y,CW rk a b n o na nb out->Q (.done (o,na,nb,out,z)) st/\(o=none->Q (.yield (none,na,nb,out,y)) st)):wpS (model prog w) A E s (zU a b mg c) Q st:=by
 obtain ⟨_,na,nb,out,ac,bc⟩:=c
 unfold zU
 dsimp only at hL hn |-
 have W:=hL.w
 have la:=hL.la
 have lb:=hL.lb
 have hpa:=W.pa
 have hpb:=W.pb
 obtain ⟨q,eq⟩:=some_at (xs:=b) (i:=nb - 1) (by lia)
 obtain ⟨p,ep⟩:=some_at (xs:=a) (i:=na - 1) (by lia)
 refine M5 (aR eq (M5 (aR ep (M5 (kM hC hk (mb _ _ eq) (ma _ _ ep) ?_)))))
 dsimp only
 by_cases hw:rk q<rk p
 ·rw [decide_eq_true hw,if_pos rfl]
  have W1:=W.gj ua la ep λj r hj e=>NG (ub j (nb - 1) r q (Q0 hj) e eq) (OX hw)
  refine M5 (aR ep ?_)
  by_cases e3:na - 1=0
  ·rw [if_pos (by simpa using e3)]
   exact M6 (hQ _ _ _ _ _ (0,0) (.inl ⟨_,rfl,W1.jm ub e3⟩)).1
  rw [if_neg (by simpa using e3)]
  have z:=hQ none (na - 1) nb (out.push p) (ac+1,0) (ac+1,0) (.inr ⟨rfl,⟨W1,R6.mpr e3,lb⟩,by lia⟩)
  split
  ·exact M6 z.1
  ·exact M6 (z.2 rfl)
 ·rw [decide_eq_false hw,if_neg Nc]
  have W1:=W.gi ub (Nat.le_of_succ_le lb) eq λj r hj e=>NG (ua j (na - 1) r p (Q0 hj) e ep) (Int.not_lt.mp hw)
  refine M5 (aR eq ?_)
  by_cases e3:nb - 1=1
  ·rw [if_pos (by simpa using e3)]
   exact M6 (hQ _ _ _ _ _ (0,0) (.inl ⟨_,rfl,fB W1 e3⟩)).1
  rw [if_neg (by simpa using e3)]
  have z:=hQ none na (nb - 1) (out.push q) (0,bc+1) (0,bc+1) (.inr ⟨rfl,⟨W1,la,by lia⟩,by lia⟩)
  split
  ·exact M6 z.1
  ·exact M6 (z.2 rfl)
theorem sP {st:SortSt} (hC:iE prog w A s κ rk L) (hk:kindOf st=κ) (ma:∀ (i:Nat) (p:Keyed),a[i]?=some p->p∈L) (mb:∀ (i:Nat) (p:Keyed),b[i]?=some p->p∈L)
 (fB:∀ {out:Array Keyed} {na nb:Nat},WH rk a b out na nb->nb=1->Res rk a b (CV a b out na nb)) (ua:Up rk a) (ub:Up rk b) (hL:gW rk a b c.2.2.2.1 c.2.1 c.2.2.1) (hn:c.2.1+c.2.2.1<=n+1) (hm:n+1<=a.size+b.size)
 (h1:∀ r z st',cN st st'->Res rk a b r->Q (.done (some r,z)) st') (h2:∀ na nb out g st',cN st st'->gW rk a b out na nb->na+nb<=n->Q (.yield (none,na,nb,out,g)) st'):wpS (model prog w) A E s (jn a b c) Q st:=by
 unfold jn
 refine M5 (NI (N8 (I:=λy c st'=>st'=st/\c.1=none/\gW rk a b c.2.2.2.1 c.2.1 c.2.2.1/\y+c.2.1+c.2.2.1<=n+1) (Q:=λc st'=>st'=st/\CW rk a b n c.1 c.2.1 c.2.2.1 c.2.2.2.1) ?step ?fin ⟨rfl,rfl,hL,by dsimp only; lia⟩) ?post)
 case fin =>
  rintro c st' ⟨rfl,hc,hL',hx⟩
  exact ⟨rfl,.inr ⟨hc,hL',by lia⟩⟩
 case step =>
  rintro y c st' _ hy ⟨rfl,_,hL',hx⟩
  refine wU (n:=n - y) hC hk ma mb fB ua ub hL' (by have:=hL'.la; have:=hL'.lb; lia) λo na nb out z y hR=>⟨?_,?_⟩
  ·refine ⟨rfl,?_⟩
   rcases hR with hR | ⟨q1,q2,q3⟩
   ·exact .inl hR
   ·exact .inr ⟨q1,q2,by dsimp only; lia⟩
  ·rintro rfl
   rcases hR with ⟨_,q,_⟩ | ⟨q1,q2,q3⟩
   ·cases q
   ·exact ⟨rfl,rfl,q2,by have:=q2.la; have:=q2.lb; dsimp only; lia⟩
 case post =>
  rintro ⟨o,na,nb,out,ac,bc⟩ st' ⟨rfl,hR⟩
  dsimp only at hR |-
  rcases hR with ⟨r,rfl,hr⟩ | ⟨rfl,hL2,hn2⟩
  ·exact M6 (h1 r _ _ (.refl _) hr)
  refine M5 (Pc (Ol ⟨rfl,?_⟩))
  refine M5 (NI (N8 (I:=λy c st''=>cN st' st''/\c.1=none/\gW rk a b c.2.2.2.1 c.2.1 c.2.2.1/\c.2.1+c.2.2.1<=n) (Q:=λc st''=>cN st' st''/\CW rk a b n c.1 c.2.1 c.2.2.1 c.2.2.2.1) ?gstep ?gfin ⟨.refl _,rfl,hL2,hn2⟩) ?gpost)
  case gfin=>exact λc st'' ⟨q1,q2,q3,q4⟩=>⟨q1,.inr ⟨q2,q3,q4⟩⟩
  case gstep =>
   rintro y c st'' _ _ ⟨q1,q2,q3,q4⟩
   have key:wpS (model prog w) A E s (zT a b c) (λx st3=>cN st'' st3/\CY rk a b n x) st'':=by
    unfold zT
    split
    ·exact mX hC (q1.k.trans hk) ma mb fB ua ub q3 q4 λx st3 k h=>⟨k,h⟩
    ·exact mX hC (q1.k.trans hk) ma mb fB ua ub q3 q4 λx st3 k h=>⟨k,h⟩
   refine NI key λx st3 ⟨k,h⟩=>?_
   cases x with
   | done c=>exact ⟨q1.trans k,h⟩
   | yield c=>exact ⟨q1.trans k,h⟩
  case gpost =>
   rintro ⟨o,na,nb,out,g,ac,bc⟩ st'' ⟨q1,hR⟩
   dsimp only at hR |-
   rcases hR with ⟨r,rfl,hr⟩ | ⟨rfl,hL3,hn3⟩
   ·exact M6 (h1 r _ _ q1 hr)
   ·exact M5 (fM (M6 (h2 _ _ _ _ _ (q1.min _) hL3 hn3)))
theorem qH {st:SortSt} (hC:iE prog w A s κ rk L) (hk:kindOf st=κ) (ma:∀ (i:Nat) (p:Keyed),a[i]?=some p->p∈L) (mb:∀ (i:Nat) (p:Keyed),b[i]?=some p->p∈L) (ua:Up rk a) (ub:Up rk b) (na1:1<=a.size) (nb1:1<=b.size)
 (h0:∀ p q,a[0]?=some p->b[0]?=some q->rk q<=rk p) (hl:∀ (j:Nat) (p q:Keyed),a[a.size - 1]?=some p->b[j]?=some q->rk q<=rk p) (h:∀ r st',Res rk a b r->cN st st'->Q r st'):wpS (model prog w) A E s (kR a b) Q st:=by
 obtain ⟨p0,ep0⟩:=some_at (xs:=a) (i:=0) na1
 have firstB:∀ {out:Array Keyed} {na nb:Nat},WH rk a b out na nb->nb=1->Res rk a b (CV a b out na nb):=λhw e=>hw.first ua e λj p q e1 e2=>NG (h0 p0 q ep0 e2) (ua 0 j p0 p (ND _) ep0 e1)
 obtain ⟨pl,epl⟩:=some_at (xs:=a) (i:=a.size - 1) (by lia)
 have W0:WH rk a b #[pl] (a.size - 1) b.size:=by
  have z:WH rk a b #[] a.size b.size:=⟨M4 _,M4 _,by simp,Qq,by simp,by simp⟩
  exact z.gj ua na1 epl λj q _ e=>hl j pl q epl e
 rw [qG]
 refine M5 (Pc (Ol ⟨rfl,?_⟩))
 refine M5 (aR epl ?_)
 by_cases e1:a.size - 1=0
 ·rw [if_pos (by simpa using e1)]
  exact M6 (h _ _ (W0.jm ub e1) (.refl _))
 rw [if_neg (by simpa using e1)]
 by_cases e2:b.size=1
 ·rw [if_pos (by simpa using e2)]
  exact M6 (h _ _ (firstB W0 e2) (.refl _))
 rw [if_neg (by simpa using e2)]
 refine M5 (Oz ?_)
 refine M5 (NI (N8 (I:=λx c st'=>cN st st'/\c.1=none/\gW rk a b c.2.2.2.1 c.2.1 c.2.2.1/\x+c.2.1+c.2.2.1<a.size+b.size) (Q:=λc st'=>cN st st'/\∃ r,c.1=some r/\Res rk a b r) ?step ?fin ⟨.refl _,rfl,⟨W0,by dsimp only; lia,by dsimp only; lia⟩,by dsimp only; lia⟩) ?post)
 case fin =>
  rintro c st' ⟨hK,hc,hL,hx⟩
  have h1:=hL.la
  lia
 case post =>
  rintro c st' ⟨hK,r,hc,hr⟩
  rw [hc]
  exact M6 (h r st' hr hK)
 case step =>
  rintro x c st1 _ hx ⟨hK,_,hL,hn⟩
  have l1:=hL.la
  have l2:=hL.lb
  exact sP (n:=a.size+b.size - x - 2) hC (hK.k.trans hk) ma mb firstB ua ub hL (by lia) (by lia) (λr z st' k hr=>⟨hK.trans k,r,rfl,hr⟩) λna nb out g st' k q1 q2=>⟨hK.trans k,rfl,q1,by have:=q1.la; dsimp only; lia⟩
def Seg (rk:Keyed->Int) (xs:Array Keyed) (lo hi:Nat):Prop:=∀ i j,lo<=i->i<=j->j<hi->R rk xs i<=R rk xs j
def EW (rk:Keyed->Int) (xs:Array Keyed) (lo hi:Nat):Prop:=∀ i j,lo<=i->i<=j->j<hi->R rk xs j<=R rk xs i
structure Bs (κ:SortKind) (L:List Keyed) (st:SortSt):Prop where
 perm:(arrOf st).toList.Perm L
 kind:kindOf st=κ
 failed:failedOf st=none
structure Mv (st st':SortSt) (lo hi:Nat):Prop where
 out:∀ i,i<lo\/hi<=i->(arrOf st')[i]?=(arrOf st)[i]?
 pend:pendingOf st'=pendingOf st
section
variable {st st' st'':SortSt} {lo hi:Nat}
theorem Bs.size (h:Bs κ L st):(arrOf st).size=L.length:=by simpa using h.perm.length_eq
theorem Bs.at (h:Bs κ L st) (hi:i<L.length):∃ p,(arrOf st)[i]?=some p/\p∈L:=by
 have hs:=h.size
 refine ⟨(arrOf st)[i]'(by lia),Ny _,h.perm.mem_iff.mp ?_⟩
 rw [Sb]; exact SE _
theorem Bs.arr (h:Bs κ L st) (hp:xs.toList.Perm (arrOf st).toList):Bs κ L (setArr st xs):=⟨hp.trans h.perm,h.kind,h.failed⟩
theorem Mv.refl:Mv st st lo hi:=⟨λ_ _=>rfl,rfl⟩
theorem Mv.trans (a:Mv st st' lo hi) (b:Mv st' st'' lo hi):Mv st st'' lo hi:=⟨λi h=>(b.out i h).trans (a.out i h),b.pend.trans a.pend⟩
theorem zV (hj:j<=xs.size) (k):R rk (mirror xs i j ((j - i) / 2)) k=if i<=k/\k<j then R rk xs (i+j - 1 - k) else R rk xs k:=by
 have e:=getElem?_mirror_all (i:=i) hj k
 by_cases h:i<=k/\k<j
 ·rw [if_pos h] at e |-; exact cu e
 ·rw [if_neg h] at e |-; exact cu e
theorem kT (hj:j<=(arrOf st).size) (h1:lo<=i) (h2:j<=hi):Mv st (setArr st (mirror (arrOf st) i j ((j - i) / 2))) lo hi :=
 ⟨λk hk=>by
   have e:=getElem?_mirror_all (i:=i) hj k
   rw [if_neg (by lia)] at e; exact e,rfl⟩
theorem CZ (i) (xs):Seg rk xs i (i+1):=λa b h1 h2 h3=>by
 have:a=b:=by lia
 subst this; exact Oe _
theorem zW (h:Seg rk xs lo (lo+n)) (hn:1<=n) (hl:¬ R rk xs (lo+n)<R rk xs (lo+n - 1)):Seg rk xs lo (lo+(n+1)):=λa b h1 h2 h3=>by
 by_cases hb:b<lo+n
 ·exact h a b h1 h2 hb
 ·have e:b=lo+n:=by lia
  subst e
  by_cases ha:a=lo+n
  ·subst ha; exact Oe _
  ·exact NG (h a (lo+n - 1) h1 (by lia) (by lia)) (Int.not_lt.mp hl)
theorem gm (h:EW rk xs lo (lo+n)) (hn:1<=n) (hl:R rk xs (lo+n)<=R rk xs (lo+n - 1)):EW rk xs lo (lo+(n+1)):=λa b h1 h2 h3=>by
 by_cases hb:b<lo+n
 ·exact h a b h1 h2 hb
 ·have e:b=lo+n:=by lia
  subst e
  by_cases ha:a=lo+n
  ·subst ha; exact Oe _
  ·exact NG hl (h a (lo+n - 1) h1 (by lia) (by lia))
end
section
variable {st:SortSt} {lo nrem:Nat}
theorem kU (hC:iE prog w A s κ rk L) (hB:Bs κ L st) (hi:i<L.length) (hj:j<L.length) (h:Q (some (decide (R rk (arrOf st) i<R rk (arrOf st) j))) st):wpS (model prog w) A E s (ltAt' i j) Q st:=by
 obtain ⟨p,ep,hp⟩:=hB.at hi
 obtain ⟨q,eq,hq⟩:=hB.at hj
 exact wQ hC hB.kind ep eq hp hq h
theorem eU (h:Q () (setArr st (mirror (arrOf st) i j ((j - i) / 2)))):wpS (model prog w) A E s (reverseSlice' i j) Q st :=
 OI (f:=λs=>setArr s (mirror (arrOf s) i j ((j - i) / 2))) h
noncomputable abbrev JN:=Option (Option Nat)×Nat
noncomputable def asc (lo a nrem:Nat):StateT SortSt Sem JN :=
 forIn [a:nrem] ((none,a):JN) λ_ c=>ltAt' (lo+c.2) (lo+c.2 - 1) >>= λx=>match x with
  | some smaller=>if smaller=true then pure (Ov (none,c.2)) else pure (NX (none,c.2+1))
  | _=>pure (Ov (some none,c.2))
theorem ve (hC:iE prog w A s κ rk L) (hB:Bs κ L st) (hn:lo+nrem<=L.length) (h1:1<=a) (h2:a<=nrem) (hs:Seg rk (arrOf st) lo (lo+a))
 (h:∀ n,a<=n->n<=nrem->Seg rk (arrOf st) lo (lo+n)->(n=nrem\/R rk (arrOf st) (lo+n)<R rk (arrOf st) (lo+n - 1))->Q (none,n) st):wpS (model prog w) A E s (asc lo a nrem) Q st:=by
 unfold asc
 refine N8 (I:=λx c st'=>st'=st/\c=(none,x)/\Seg rk (arrOf st) lo (lo+x)) ?step ?fin ⟨rfl,rfl,hs⟩
 case fin =>
  rintro c st' ⟨rfl,rfl,hs'⟩
  rw [show max a nrem=nrem by lia] at hs' |-
  exact h nrem h2 (M4 _) hs' (.inl rfl)
 case step =>
  rintro x c st' hax hxn ⟨rfl,rfl,hs'⟩
  refine M5 (kU hC hB (by dsimp only; lia) (by dsimp only; lia) ?_)
  dsimp only
  by_cases hl:R rk (arrOf st') (lo+x)<R rk (arrOf st') (lo+x - 1)
  ·rw [decide_eq_true hl,if_pos rfl]
   exact M6 (h x hax (by lia) hs' (.inr hl))
  ·rw [decide_eq_false hl,if_neg Nc]
   exact M6 ⟨rfl,rfl,zW hs' (by lia) hl⟩
noncomputable abbrev JO:=Option (Option Nat)×Nat×Nat
noncomputable def JP (lo n nrem:Nat):StateT SortSt Sem JO :=
 forIn [n:nrem] ((none,n,0):JO) λ_ c=>ltAt' (lo+c.2.1) (lo+c.2.1 - 1) >>= λx=>match x with
  | some smaller=>if smaller=true then
   (if c.2.2>0 then reverseSlice' (lo+c.2.1 - (c.2.2+1)) (lo+c.2.1) >>= λ_=>pure (NX (none,c.2.1+1,0)) else pure (NX (none,c.2.1+1,0)))
   else ltAt' (lo+c.2.1 - 1) (lo+c.2.1) >>= λy=>match y with
    | some larger=>if larger=true then pure (Ov (none,c.2.1,c.2.2)) else pure (NX (none,c.2.1+1,c.2.2+1))
    | _=>pure (Ov (some none,c.2.1,c.2.2))
  | _=>pure (Ov (some none,c.2.1,c.2.2))
theorem iT (hj:j<=xs.size) (he:∀ k,i<=k->k<j->R rk xs k=R rk xs (j - 1)) (k):R rk (mirror xs i j ((j - i) / 2)) k=R rk xs k:=by
 rw [zV hj]
 split
 ·rw [he _ (by lia) (by lia),he k (by lia) (by lia)]
 ·rfl
theorem C0 (hC:iE prog w A s κ rk L) (hB:Bs κ L st) (hn:lo+nrem<=L.length) (h1:1<=n) (h2:n<=nrem) (hs:EW rk (arrOf st) lo (lo+n))
 (h:∀ m neq st',Bs κ L st'->Mv st st' lo (lo+nrem)->n<=m->m<=nrem->EW rk (arrOf st') lo (lo+m)->neq+1<=m->(∀ i,lo+m - (neq+1)<=i->i<lo+m->R rk (arrOf st') i=R rk (arrOf st') (lo+m - 1))->Q (none,m,neq) st') :
 wpS (model prog w) A E s (JP lo n nrem) Q st:=by
 unfold JP
 refine N8 (I:=λx c st'=>∃ neq,c=(none,x,neq)/\Bs κ L st'/\Mv st st' lo (lo+nrem)/\EW rk (arrOf st') lo (lo+x)/\neq+1<=x/\(∀ i,lo+x - (neq+1)<=i->i<lo+x->R rk (arrOf st') i=R rk (arrOf st') (lo+x - 1))) ?step ?fin
  ⟨0,rfl,hB,.refl,hs,h1,λi a1 a2=>by congr 1; lia⟩
 case fin =>
  rintro c st' ⟨neq,rfl,jF,hM',hs',hq,he⟩
  rw [show max n nrem=nrem by lia] at hs' hq he |-
  exact h nrem neq st' jF hM' h2 (M4 _) hs' hq he
 case step =>
  rintro x c st' hax hxn ⟨neq,rfl,jF,hM',hs',hq,he⟩
  have hsz:=jF.size
  refine M5 (kU hC jF (by dsimp only; lia) (by dsimp only; lia) ?_)
  dsimp only
  by_cases hl:R rk (arrOf st') (lo+x)<R rk (arrOf st') (lo+x - 1)
  ·rw [decide_eq_true hl,if_pos rfl]
   by_cases hq0:neq>0
   ·rw [if_pos hq0]
    have key:=iT (rk:=rk) (xs:=arrOf st') (i:=lo+x - (neq+1)) (j:=lo+x) (by lia) he
    refine M5 (eU (M6 ⟨0,rfl,jF.arr (PR.mp (QF _ _ _ _)),hM'.trans (kT (by lia) (by lia) (by lia)),?_,by lia,λi a1 a2=>by congr 1; lia⟩))
    refine gm (λa b z1 z2 z3=>?_) (by lia) ?_
    ·show R rk (mirror _ _ _ _) b<=R rk (mirror _ _ _ _) a
     rw [key,key]; exact hs' a b z1 z2 z3
    ·show R rk (mirror _ _ _ _) _<=R rk (mirror _ _ _ _) _
     rw [key,key]; lia
   ·rw [if_neg hq0]
    exact M6 ⟨0,rfl,jF,hM',gm hs' (by lia) (by lia),by lia,λi a1 a2=>by congr 1; lia⟩
  ·rw [decide_eq_false hl,if_neg Nc]
   refine M5 (kU hC jF (by lia) (by lia) ?_)
   dsimp only
   by_cases hg:R rk (arrOf st') (lo+x - 1)<R rk (arrOf st') (lo+x)
   ·rw [decide_eq_true hg,if_pos rfl]
    exact M6 (h x neq st' jF hM' hax (by lia) hs' hq he)
   ·rw [decide_eq_false hg,if_neg Nc]
    have heq:R rk (arrOf st') (lo+x)=R rk (arrOf st') (lo+x - 1):=by lia
    refine M6 ⟨neq+1,rfl,jF,hM',gm hs' (by lia) (by lia),by lia,λi a1 a2=>?_⟩
    rw [show lo+(x+1) - 1=lo+x by lia]
    by_cases hi:i=lo+x
    ·rw [hi]
    ·rw [heq]; exact he i (by lia) (by lia)
noncomputable def countRun':Nat->Nat->StateT SortSt Sem (Option Nat):=sortPriv% PySem.Builtin.countRun
theorem iU {Q:Option Nat->SortSt->Prop} (hC:iE prog w A s κ rk L) (hB:Bs κ L st) (hn:lo+nrem<=L.length) (h1:1<=n) (h2:n<=nrem) (hs:EW rk (arrOf st) lo (lo+n))
 (h:∀ m st',Bs κ L st'->Mv st st' lo (lo+nrem)->1<=m->m<=nrem->Seg rk (arrOf st') lo (lo+m)->Q (some m) st') :
 wpS (model prog w) A E s (asc lo n nrem) (λc st'=>c.1=none/\Q (some c.2) st') (setArr st (mirror (arrOf st) lo (lo+n) ((lo+n - lo) / 2))):=by
 have hsz:=hB.size
 have jF:=hB.arr (PR.mp (QF (arrOf st) lo (lo+n) ((lo+n - lo) / 2)))
 refine ve hC jF hn h1 h2 (λa b z1 z2 z3=>?_) λm m1 m2 ms _=>⟨rfl,h m _ jF (kT (by lia) (M4 _) (by lia)) (by lia) m2 ms⟩
 show R rk (mirror _ _ _ _) a<=R rk (mirror _ _ _ _) b
 rw [zV (by lia),zV (by lia),if_pos (by lia),if_pos (by lia)]
 exact hs _ _ (by lia) (by lia) (by lia)
local macro_rules | `(tactic| walk_at "dl countRun")=>do
 let i:=Pw (Pf `PySem.Builtin.List.W1All `PySem.Builtin.countRun)
 `(tactic| delta $i)
theorem wpS_countRun (hC:iE prog w A s κ rk L) (hB:Bs κ L st) (hn:lo+nrem<=L.length) (h1:1<=nrem)
 (h:∀ m st',Bs κ L st'->Mv st st' lo (lo+nrem)->1<=m->m<=nrem->Seg rk (arrOf st') lo (lo+m)->Q (some m) st'):wpS (model prog w) A E s (countRun' lo nrem) Q st:=by
 unfold countRun'
 walk_at "dl countRun"
 dsimp only
 have hsz:=hB.size
 refine M5 (show wpS _ _ _ _ (asc lo 1 nrem) _ _ from ve hC hB hn (M4 _) h1 (CZ lo _) λn n1 n2 ns nor=>?_)
 dsimp only
 by_cases hnn:n=nrem
 ·rw [if_pos (by simpa using hnn)]
  exact M6 (h n st hB .refl n1 n2 ns)
 rw [if_neg (by simpa using hnn)]
 have hlt:=nor.resolve_left hnn
 have rest:∀ (st1:SortSt),Bs κ L st1->Mv st st1 lo (lo+nrem)->EW rk (arrOf st1) lo (lo+(n+1))->wpS (model prog w) A E s (JP lo (n+1) nrem) (λc st2=>Bs κ L st2/\Mv st st2 lo (lo+nrem)/\c.1=none/\n+1<=c.2.1/\c.2.1<=nrem/\EW rk (arrOf st2) lo (lo+c.2.1)/\c.2.2+1<=c.2.1/\(∀ i,lo+c.2.1 - (c.2.2+1)<=i->i<lo+c.2.1->R rk (arrOf st2) i=R rk (arrOf st2) (lo+c.2.1 - 1))) st1 :=
  λst1 hB1 hM1 hs1=>C0 hC hB1 hn (by lia) (by lia) hs1 λm neq st2 a1 a2 a3 a4 a5 a6 a7=>⟨a1,hM1.trans a2,rfl,a3,a4,a5,a6,a7⟩
 by_cases hgt:n>1
 ·rw [if_pos hgt]
  refine M5 (kU hC hB (by lia) (by lia) ?_)
  dsimp only
  by_cases hrose:R rk (arrOf st) lo<R rk (arrOf st) (lo+n - 1)
  ·rw [decide_eq_true hrose,if_pos rfl]
   exact M6 (h n st hB .refl n1 n2 ns)
  ·rw [decide_eq_false hrose,if_neg Nc]
   have hall:∀ k,lo<=k->k<lo+n->R rk (arrOf st) k=R rk (arrOf st) (lo+n - 1):=λk z1 z2=>by
    have a1:=ns lo k (M4 _) z1 z2
    have a2:=ns k (lo+n - 1) z1 (by lia) (by lia)
    lia
   have key:=iT (rk:=rk) (xs:=arrOf st) (i:=lo) (j:=lo+n) (by lia) hall
   refine M5 (eU ?_)
   refine M5 (Pc (Ol ⟨rfl,?_⟩))
   refine M5 (NI (show wpS _ _ _ _ (JP lo (n+1) nrem) _ _ from rest _ (hB.arr (PR.mp (QF _ _ _ _))) (kT (by lia) (M4 _) (by lia)) (gm (λa b z1 z2 z3=>?_) (by lia) ?_)) λc st2 hc=>?_)
   ·show R rk (mirror _ _ _ _) b<=R rk (mirror _ _ _ _) a
    rw [key,key,hall b (by lia) z3,hall a z1 (by lia)]; exact Oe _
   ·show R rk (mirror _ _ _ _) _<=R rk (mirror _ _ _ _) _
    rw [key,key]; lia
   ·obtain ⟨r,m,neq⟩:=c
    obtain ⟨b1,b2,b3,b4,b5,b6,b7,b8⟩:=hc
    dsimp only at b3 b4 b5 b6 b7 b8 |-
    rw [b3]
    dsimp only
    by_cases hq0:neq>0
    ·rw [if_pos hq0]
     have hsz2:=b1.size
     have key2:=iT (rk:=rk) (xs:=arrOf st2) (i:=lo+m - (neq+1)) (j:=lo+m) (by lia) b8
     refine M5 (eU (M5 (eU (M5 (NI (show wpS _ _ _ _ (asc lo m nrem) _ _ from iU (Q:=Q) hC (b1.arr (PR.mp (QF _ _ _ _))) hn (by lia) b5 (λa b z1 z2 z3=>?_) λk st3 c1 c2 c3 c4 c5=>h k st3 c1 ((b2.trans (kT (by lia) (by lia) (by lia))).trans c2) c3 c4 c5) λc st4 hc=>?_)))))
     ·show R rk (mirror _ _ _ _) b<=R rk (mirror _ _ _ _) a
      rw [key2,key2]; exact b6 a b z1 z2 z3
     ·obtain ⟨r,k⟩:=c
      obtain ⟨e,hQ⟩:=hc
      dsimp only at e hQ |-
      rw [e]
      exact M6 hQ
    ·rw [if_neg hq0]
     refine M5 (eU (M5 (NI (show wpS _ _ _ _ (asc lo m nrem) _ _ from iU (Q:=Q) hC b1 hn (by lia) b5 b6 λk st3 c1 c2 c3 c4 c5=>h k st3 c1 (b2.trans c2) c3 c4 c5) λc st4 hc=>?_)))
     obtain ⟨r,k⟩:=c
     obtain ⟨e,hQ⟩:=hc
     dsimp only at e hQ |-
     rw [e]
     exact M6 hQ
 ·rw [if_neg hgt]
  have e1:n=1:=by lia
  subst e1
  refine M5 (Pc (Ol ⟨rfl,?_⟩))
  refine M5 (NI (show wpS _ _ _ _ (JP lo (1+1) nrem) _ _ from rest st hB .refl (gm (λa b z1 z2 z3=>?_) (M4 _) (OX hlt))) λc st2 hc=>?_)
  ·have:a=b:=by lia
   subst this; exact Oe _
  ·obtain ⟨r,m,neq⟩:=c
   obtain ⟨b1,b2,b3,b4,b5,b6,b7,b8⟩:=hc
   dsimp only at b3 b4 b5 b6 b7 b8 |-
   rw [b3]
   dsimp only
   by_cases hq0:neq>0
   ·rw [if_pos hq0]
    have hsz2:=b1.size
    have key2:=iT (rk:=rk) (xs:=arrOf st2) (i:=lo+m - (neq+1)) (j:=lo+m) (by lia) b8
    refine M5 (eU (M5 (eU (M5 (NI (show wpS _ _ _ _ (asc lo m nrem) _ _ from iU (Q:=Q) hC (b1.arr (PR.mp (QF _ _ _ _))) hn (by lia) b5 (λa b z1 z2 z3=>?_) λk st3 c1 c2 c3 c4 c5=>h k st3 c1 ((b2.trans (kT (by lia) (by lia) (by lia))).trans c2) c3 c4 c5) λc st4 hc=>?_)))))
    ·show R rk (mirror _ _ _ _) b<=R rk (mirror _ _ _ _) a
     rw [key2,key2]; exact b6 a b z1 z2 z3
    ·obtain ⟨r,k⟩:=c
     obtain ⟨e,hQ⟩:=hc
     dsimp only at e hQ |-
     rw [e]
     exact M6 hQ
   ·rw [if_neg hq0]
    refine M5 (eU (M5 (NI (show wpS _ _ _ _ (asc lo m nrem) _ _ from iU (Q:=Q) hC b1 hn (by lia) b5 b6 λk st3 c1 c2 c3 c4 c5=>h k st3 c1 (b2.trans c2) c3 c4 c5) λc st4 hc=>?_)))
    obtain ⟨r,k⟩:=c
    obtain ⟨e,hQ⟩:=hc
    dsimp only at e hQ |-
    rw [e]
    exact M6 hQ
end
section
variable {st:SortSt} {lo:Nat}
theorem EX (hs:src<xs.size) (hd:d<=src) (k):R rk (bubble xs src d) k=if k=src - d then R rk xs src else if src - d<k/\k<=src then R rk xs (k - 1) else R rk xs k:=by
 have e:=getElem?_bubble hs d hd k
 by_cases h1:k=src - d
 ·rw [if_pos h1] at e |-; exact cu e
 ·rw [if_neg h1] at e |-
  by_cases h2:src - d<k/\k<=src
  ·rw [if_pos h2] at e |-; exact cu e
  ·rw [if_neg h2] at e |-; exact cu e
theorem zX (h:Q () (setArr st (bubble (arrOf st) i (i - j)))):wpS (model prog w) A E s (moveDown' i j) Q st :=
 OI (f:=λs=>setArr s (bubble (arrOf s) i (i - j))) h
noncomputable def binarySort':Nat->Nat->Nat->StateT SortSt Sem Bool:=sortPriv% PySem.Builtin.binarySort
local macro_rules | `(tactic| walk_at "dl binarySort")=>do
 let i:=Pw (Pf `PySem.Builtin.List.W1All `PySem.Builtin.binarySort)
 `(tactic| delta $i)
theorem wpS_binarySort (hC:iE prog w A s κ rk L) (hB:Bs κ L st) (hn:lo+n<=L.length) (hok:ok<=n) (hs:Seg rk (arrOf st) lo (lo+ok))
 (h:∀ st',Bs κ L st'->Mv st st' lo (lo+n)->Seg rk (arrOf st') lo (lo+n)->Q true st'):wpS (model prog w) A E s (binarySort' lo n ok) Q st:=by
 unfold binarySort'
 walk_at "dl binarySort"
 dsimp only
 refine M5 (NI (N8 (I:=λk c st'=>c.1=none/\Bs κ L st'/\Mv st st' lo (lo+n)/\Seg rk (arrOf st') lo (lo+min k n)) (Q:=λc st'=>c.1=none/\Bs κ L st'/\Mv st st' lo (lo+n)/\Seg rk (arrOf st') lo (lo+n)) ?step ?fin ?init) ?post)
 case post =>
  rintro ⟨c,u⟩ st' ⟨hc,jF,hM',hs'⟩
  dsimp only at hc |-
  rw [hc]
  exact M6 (h st' jF hM' hs')
 case init =>
  refine ⟨rfl,hB,.refl,λa b z1 z2 z3=>?_⟩
  by_cases h1:ok=0
  ·have:a=b:=by lia
   subst this; exact Oe _
  ·exact hs a b z1 z2 (by lia)
 case fin =>
  rintro c st' ⟨hc,jF,hM',hs'⟩
  rw [show min (max (max ok 1) n) n=n by lia] at hs'
  exact ⟨hc,jF,hM',hs'⟩
 case step =>
  rintro k ⟨c,u⟩ st' hak hkn ⟨rfl,jF,hM',hs'⟩
  rw [show min k n=k by lia] at hs'
  have hsz:=jF.size
  refine M5 (NI (N8 (I:=λx c st2=>st2=st'/\∃ l r,c=(none,l,r)/\l<=r/\r<=k/\r - l<=k - x/\(∀ i,i<l->R rk (arrOf st') (lo+i)<=R rk (arrOf st') (lo+k))/\(∀ i,r<=i->i<k->R rk (arrOf st') (lo+k)<R rk (arrOf st') (lo+i)))
   (Q:=λc st2=>st2=st'/\∃ l r,c=(none,l,r)/\l<=k/\(∀ i,i<l->R rk (arrOf st') (lo+i)<=R rk (arrOf st') (lo+k))/\(∀ i,l<=i->i<k->R rk (arrOf st') (lo+k)<R rk (arrOf st') (lo+i))) ?istep ?ifin ⟨rfl,0,k,rfl,by lia,by lia,by lia,λi hi=>by lia,λi h1 h2=>by lia⟩) ?ipost)
  case ifin =>
   rintro c st2 ⟨rfl,l,r,rfl,a1,a2,a3,a4,a5⟩
   have:l=r:=by lia
   subst this
   exact ⟨rfl,l,l,rfl,a2,a4,a5⟩
  case istep =>
   rintro x c st2 _ hx ⟨rfl,l,r,rfl,a1,a2,a3,a4,a5⟩
   dsimp only
   by_cases hge:l>=r
   ·rw [if_pos hge]
    have:l=r:=by lia
    subst this
    exact M6 ⟨rfl,l,l,rfl,a2,a4,a5⟩
   ·rw [if_neg hge]
    refine M5 (kU hC jF (by lia) (by lia) ?_)
    dsimp only
    by_cases hl:R rk (arrOf st2) (lo+k)<R rk (arrOf st2) (lo+(l+r) / 2)
    ·rw [decide_eq_true hl,if_pos rfl]
     refine M6 ⟨rfl,l,(l+r) / 2,rfl,by lia,by lia,by lia,a4,λi h1 h2=>?_⟩
     exact Int.lt_of_lt_of_le hl (hs' _ _ (by lia) (by lia) (by lia))
    ·rw [decide_eq_false hl,if_neg Nc]
     refine M6 ⟨rfl,(l+r) / 2+1,r,rfl,by lia,by lia,by lia,λi h1=>?_,a5⟩
     exact NG (hs' (lo+i) (lo+(l+r) / 2) (by lia) (by lia) (by lia)) (Int.not_lt.mp hl)
  case ipost =>
   rintro c st2 ⟨rfl,l,r,rfl,hlk,a4,a5⟩
   dsimp only
   have e1:lo+k - (lo+l)=k - l:=by lia
   refine M5 (zX (M6 ⟨rfl,jF.arr (PR.mp (bubble_perm _ _ _)),?_,?_⟩))
   ·refine hM'.trans ⟨λi hi=>?_,rfl⟩
    have e:=getElem?_bubble (xs:=arrOf st2) (src:=lo+k) (by lia) (lo+k - (lo+l)) (by lia) i
    rw [if_neg (by lia),if_neg (by lia)] at e
    exact e
   ·rw [show min (k+1) n=k+1 by lia]
    intro i j hi hij hj
    show R rk (bubble (arrOf st2) (lo+k) (lo+k - (lo+l))) i<=R rk (bubble (arrOf st2) (lo+k) (lo+k - (lo+l))) j
    rw [EX (by lia) (by lia),EX (by lia) (by lia),e1]
    have sub:∀ i,lo<=i->lo+(i - lo)=i:=λi hi=>by lia
    have f4:∀ i,lo<=i->i<lo+l->R rk (arrOf st2) i<=R rk (arrOf st2) (lo+k):=λi h1 h2=>by have:=a4 (i - lo) (by lia); rwa [sub i h1] at this
    have f5:∀ i,lo+l<=i->i<lo+k->R rk (arrOf st2) (lo+k)<R rk (arrOf st2) i:=λi h1 h2=>by have:=a5 (i - lo) (by lia) (by lia); rwa [sub i (by lia)] at this
    repeat' split
    all_goals first
     | (exfalso; lia)
     | exact Oe _
     | exact f4 _ (by lia) (by lia)
     | exact OX (f5 _ (by lia) (by lia))
     | exact hs' _ _ (by lia) (by lia) (by lia)
theorem mY:∀ (l:List Keyed) (k sa:Nat) (A:Array Keyed),sa+k+l.length<=A.size->((l.zipIdx k).foldl (λa (x:Keyed×Nat)=>a.setIfInBounds (sa+x.2) x.1) A).size=A.size /\
 ∀ i:Nat,((l.zipIdx k).foldl (λa (x:Keyed×Nat)=>a.setIfInBounds (sa+x.2) x.1) A)[i]?=if sa+k<=i/\i<sa+k+l.length then l[i - (sa+k)]? else A[i]?
 | [],k,sa,A,h=>⟨rfl,λi=>by rw [if_neg (by simp only [OH]; lia)]; rfl⟩
 | x::l,k,sa,A,h=>by
  rw [NN] at h
  obtain ⟨h1,h2⟩:=mY l (k+1) sa (A.setIfInBounds (sa+k) x) (by rw [Array.size_setIfInBounds]; lia)
  rw [List.zipIdx_cons,Ou]
  refine ⟨by rw [h1,Array.size_setIfInBounds],λi=>?_⟩
  rw [h2 i,NN]
  by_cases c1:sa+(k+1)<=i/\i<sa+(k+1)+l.length
  ·rw [if_pos c1,if_pos (by lia),show i - (sa+k)=i - (sa+(k+1))+1 by lia,List.getElem?_cons_succ]
  ·rw [if_neg c1]
   by_cases c2:i=sa+k
   ·subst c2
    rw [if_pos (by lia),Nat.sub_self,List.getElem?_cons_zero,Array.getElem?_setIfInBounds_self_of_lt (by lia)]
   ·rw [if_neg (by lia),Array.getElem?_setIfInBounds_ne (by lia)]
end
noncomputable def g6:Nat->StateT SortSt Sem Bool:=sortPriv% PySem.Builtin.mergeAt
local macro_rules | `(tactic| walk_at "dl mergeAt")=>do
 let i:=Pw (Pf `PySem.Builtin.List.W1All `PySem.Builtin.mergeAt)
 `(tactic| delta $i)
section
variable {st:SortSt}
theorem C1 (h:Q ⟨⟩ st1):wpS M A E s (set st1:StateT SortSt Sem PUnit) Q st:=by
 unfold wpS; rw [StateT.run_set]; exact M3 ⟨rfl,h⟩
theorem wV (hC:iE prog w A s κ rk L) (hk:kindOf st=κ) (hkey:key∈L) (mx:∀ (i:Nat) (p:Keyed),xs[i]?=some p->p∈L) (hn:base+n<=xs.size) (us:Seg rk xs base (base+n)) (hh:hint<n)
 (h:∀ k,k<=n->(∀ i,base<=i->i<base+k->R rk xs i<=rk key)->(∀ i,base+k<=i->i<base+n->rk key<R rk xs i)->Q (some k) st):wpS (model prog w) A E s (cL false key xs base n hint) Q st:=by
 obtain ⟨k,h1,h2⟩:=kP (λi=>R rk xs (base+i)) (rk key) n λi j hij hj=>us _ _ (by lia) (by lia) (by lia)
 refine fL hC hk hkey (λi hi=>⟨xs[base+i]'(by lia),Ny _,mx _ _ (Ny _)⟩) (λi hi=>by simp only [NV,if_false]; exact h2 i hi) h1 hh (h k h1 (λi hi hk=>?_) λi hi hk=>?_)
 ·have:=(h2 (i - base) (by lia)).mpr (by lia)
  rwa [show base+(i - base)=i by lia] at this
 ·have:=mt (h2 (i - base) (by lia)).mp (by lia)
  rw [show base+(i - base)=i by lia] at this
  lia
theorem wW (hC:iE prog w A s κ rk L) (hk:kindOf st=κ) (hkey:key∈L) (mx:∀ (i:Nat) (p:Keyed),xs[i]?=some p->p∈L) (hn:base+n<=xs.size) (us:Seg rk xs base (base+n)) (hh:hint<n)
 (h:∀ k,k<=n->(∀ i,base<=i->i<base+k->R rk xs i<rk key)->(∀ i,base+k<=i->i<base+n->rk key<=R rk xs i)->Q (some k) st):wpS (model prog w) A E s (cL true key xs base n hint) Q st:=by
 obtain ⟨k,h1,h2⟩:=kQ (λi=>R rk xs (base+i)) (rk key) n λi j hij hj=>us _ _ (by lia) (by lia) (by lia)
 refine fL hC hk hkey (λi hi=>⟨xs[base+i]'(by lia),Ny _,mx _ _ (Ny _)⟩) (λi hi=>by simp only [if_true]; exact h2 i hi) h1 hh (h k h1 (λi hi hk=>?_) λi hi hk=>?_)
 ·have:=(h2 (i - base) (by lia)).mpr (by lia)
  rwa [show base+(i - base)=i by lia] at this
 ·have:=mt (h2 (i - base) (by lia)).mp (by lia)
  rw [show base+(i - base)=i by lia] at this
  lia
theorem eV {xs:Array Keyed} (h:(xs.extract i j)[m]?=some p):xs[i+m]?=some p/\i+m<j:=by
 rw [QX] at h
 split at h
 ·exact ⟨h,by lia⟩
 ·cases h
theorem vf {lo hi i j:Nat} (h:Seg rk xs lo hi) (h1:lo<=i) (h2:j<=hi):Up rk (xs.extract i j):=λa b p q hab e1 e2=>by
 obtain ⟨f1,g1⟩:=eV e1
 obtain ⟨f2,g2⟩:=eV e2
 have:=h (i+a) (i+b) (by lia) (by lia) (by lia)
 rwa [dU f1,dU f2] at this
theorem qI (hC:iE prog w A s κ rk L) (hB:Bs κ L st) (p1:(pendingOf st)[i]?=some (sa,na,pw)) (p2:(pendingOf st)[i+1]?=some (sa+na,nb,pw2)) (h1:1<=na) (h2:1<=nb) (hz:sa+na+nb<=L.length)
 (s1:Seg rk (arrOf st) sa (sa+na)) (s2:Seg rk (arrOf st) (sa+na) (sa+na+nb))
 (h:∀ st',Bs κ L st'->(∀ j,j<sa\/sa+na+nb<=j->(arrOf st')[j]?=(arrOf st)[j]?)->pendingOf st'=((pendingOf st).setIfInBounds i (sa,na+nb,pw)).eraseIdxIfInBounds (i+1)->Seg rk (arrOf st') sa (sa+na+nb)->Q true st') :
 wpS (model prog w) A E s (g6 i) Q st:=by
 unfold g6
 walk_at "dl mergeAt"
 dsimp only
 refine M5 (Oz ?_)
 rw [p1,p2]
 dsimp only
 have hsz:=hB.size
 have mL:∀ (i:Nat) (p:Keyed),(arrOf st)[i]?=some p->p∈L:=λi p e=>hB.perm.mem_iff.mp (by
  obtain ⟨h1,h2⟩:=PU.mp e
  rw [<- h2,Sb]; exact SE _)
 refine M5 (C1 ?_)
 obtain ⟨key,ek,hkL⟩:=hB.at (i:=sa+na) (by lia)
 refine M5 (aR ek ?_)
 have rkey:R rk (arrOf st) (sa+na)=rk key:=dU ek
 refine M5 (wV hC hB.kind hkL mL (by show _<=(arrOf st).size; lia) s1 (by lia) λk k1 k2 k3=>?_)
 dsimp only
 by_cases e0:na - k=0
 ·rw [if_pos (by simpa using e0)]
  refine M6 (h _ ⟨hB.perm,hB.kind,hB.failed⟩ (λ_ _=>rfl) rfl λa b z1 z2 z3=>?_)
  by_cases hb:b<sa+na
  ·exact s1 a b z1 z2 hb
  ·by_cases ha:sa+na<=a
   ·exact s2 a b ha z2 z3
   ·refine NG (k2 a z1 (by lia)) ?_
    rw [<- rkey]; exact s2 (sa+na) b (M4 _) (by lia) z3
 rw [if_neg (by simpa using e0)]
 obtain ⟨key2,ek2,hk2L⟩:=hB.at (i:=sa+k+(na - k) - 1) (by lia)
 have rkey2:R rk (arrOf st) (sa+na - 1)=rk key2:=by rw [<- dU (rk:=rk) ek2]; congr 1; lia
 refine M5 (aR ek2 ?_)
 refine M5 (wW hC (by exact hB.kind) hk2L mL (by show _<=(arrOf st).size; lia) s2 (by lia) λm m1 m2 m3=>?_)
 dsimp only
 by_cases e1:m=0
 ·exfalso
  have a1:=m3 (sa+na) (by lia) (by lia)
  have a2:=k3 (sa+na - 1) (by lia) (by lia)
  rw [rkey2] at a2; rw [rkey] at a1; lia
 rw [if_neg (by simpa using e1)]
 have mx:∀ (i:Nat) (p:Keyed),((arrOf st).extract (sa+k) (sa+na))[i]?=some p->p∈L:=λi p e=>mL _ p (eV e).1
 have my:∀ (i:Nat) (p:Keyed),((arrOf st).extract (sa+na) (sa+na+m))[i]?=some p->p∈L:=λi p e=>mL _ p (eV e).1
 have ux:Up rk ((arrOf st).extract (sa+k) (sa+na)):=vf s1 (by lia) (M4 _)
 have uy:Up rk ((arrOf st).extract (sa+na) (sa+na+m)):=vf s2 (M4 _) (by lia)
 have zx:((arrOf st).extract (sa+k) (sa+na)).size=na - k:=by rw [Array.size_extract]; lia
 have zy:((arrOf st).extract (sa+na) (sa+na+m)).size=m:=by rw [Array.size_extract]; lia
 have h0:∀ p q,((arrOf st).extract (sa+k) (sa+na))[0]?=some p->((arrOf st).extract (sa+na) (sa+na+m))[0]?=some q->rk q<=rk p:=λp q e2 e3=>by
  obtain ⟨f1,g1⟩:=eV e2
  obtain ⟨f2,g2⟩:=eV e3
  have a1:=k3 (sa+k+0) (by lia) (by lia)
  rw [dU f1] at a1
  have a2:rk q=rk key:=by rw [<- rkey,<- dU (rk:=rk) f2]; rfl
  lia
 have hl:∀ (j:Nat) (p q:Keyed),((arrOf st).extract (sa+k) (sa+na))[((arrOf st).extract (sa+k) (sa+na)).size - 1]?=some p->((arrOf st).extract (sa+na) (sa+na+m))[j]?=some q->rk q<=rk p:=λj p q e2 e3=>by
  rw [zx] at e2
  obtain ⟨f1,g1⟩:=eV e2
  obtain ⟨f2,g2⟩:=eV e3
  have a1:=m2 (sa+na+j) (by lia) (by lia)
  rw [dU f2] at a1
  have a2:rk p=rk key2:=by rw [<- rkey2,<- dU (rk:=rk) f1]; congr 1; lia
  lia
 have fin:∀ (r:Array Keyed) (st2:SortSt),Res rk ((arrOf st).extract (sa+k) (sa+na)) ((arrOf st).extract (sa+na) (sa+na+m)) r->kindOf st2=kindOf st->arrOf st2=arrOf st->pendingOf st2=((pendingOf st).setIfInBounds i (sa,na+nb,pw)).eraseIdxIfInBounds (i+1)->failedOf st2=failedOf st ->
  Q true (setArr st2 (Qi (λa (x:Keyed×Nat)=>a.setIfInBounds (sa+k+x.2) x.1) (arrOf st2) r.toList.zipIdx)):=λr st2 hr e2 e3 e4 e5=>by
  have hlen:r.toList.length=na - k+m:=by
   have:=hr.1.length_eq
   simp only [NJ,NT,zx,zy] at this |-
   exact this
  obtain ⟨w1,w2⟩:=mY r.toList 0 (sa+k) (arrOf st) (by lia)
  generalize hW:Qi (λa (x:Keyed×Nat)=>a.setIfInBounds (sa+k+x.2) x.1) (arrOf st) r.toList.zipIdx=W at w1 w2
  rw [e3,hW]
  have rW:∀ i,sa+k<=i->i<sa+na+m->R rk W i=R rk r (i - (sa+k)):=λi z1 z2=>by
   refine cu ?_
   rw [w2,if_pos (by lia),NS]; rfl
  have rO:∀ i,(i<sa+k\/sa+na+m<=i)->R rk W i=R rk (arrOf st) i:=λi z=>by
   refine cu ?_
   rw [w2,if_neg (by lia)]
  have elt:∀ i,sa+k<=i->i<sa+na+m->∃ t,sa+k<=t/\t<sa+na+m/\R rk W i=R rk (arrOf st) t:=λi z1 z2=>by
   have hi:i - (sa+k)<r.size:=by rw [<- NT]; lia
   have e6:r[i - (sa+k)]?=some r[i - (sa+k)]:=Ny hi
   have hm:r[i - (sa+k)]∈r.toList:=by rw [Sb]; exact SE _
   rw [rW i z1 z2,dU e6]
   rcases NF.mp (hr.1.mem_iff.mp hm) with z | z
   ·obtain ⟨t,t1,t2,t3⟩:=uY z
    exact ⟨t,t1,by lia,(dU t3).symm⟩
   ·obtain ⟨t,t1,t2,t3⟩:=uY z
    exact ⟨t,by lia,by lia,(dU t3).symm⟩
  have ur:=GJ hr.2
  refine h _ ⟨?_,e2.trans hB.kind,e5.trans hB.failed⟩ (λj hj=>?_) e4 λa b z1 z2 z3=>?_
  ·
   refine List.Perm.trans ?_ hB.perm
   have eW:W.toList=(arrOf st).toList.take (sa+k)++r.toList++(arrOf st).toList.drop (sa+na+m):=by
    apply Rg
    intro j
    rw [NS,w2,Nz,Qn,Qn,N2,P5,Pr (by rw [NT]; lia)]
    by_cases c1:j<sa+k
    ·rw [if_neg (by lia),if_pos c1,QS c1,NS]
    ·rw [if_neg c1]
     by_cases c2:j - (sa+k)<r.toList.length
     ·rw [if_pos (by lia),if_pos c2]; rfl
     ·rw [if_neg (by lia),if_neg c2,NS]; congr 1; lia
   have eA:(arrOf st).toList=(arrOf st).toList.take (sa+k)++(((arrOf st).extract (sa+k) (sa+na)).toList++((arrOf st).extract (sa+na) (sa+na+m)).toList)++(arrOf st).toList.drop (sa+na+m):=by
    apply Rg
    intro j
    rw [Nz,Nz,Qn,Qn,Qn,N2,NT,NT,NT,zx,zy,P5,Pr (by lia)]
    by_cases c1:j<sa+k
    ·rw [if_pos c1,QS c1]
    ·rw [if_neg c1]
     by_cases c2:j - (sa+k)<na - k
     ·rw [if_pos c2,NS,NS,QX,if_pos (by lia)]; congr 1; lia
     ·rw [if_neg c2]
      by_cases c3:j - (sa+k) - (na - k)<m
      ·rw [if_pos c3,NS,NS,QX,if_pos (by lia)]; congr 1; lia
      ·rw [if_neg c3]; congr 1; lia
   show W.toList.Perm _
   rw [eW]
   conv=>rhs; rw [eA]
   exact (PX _ hr.1).append_right _
  ·show W[j]?=_
   rw [w2,if_neg (by lia)]
  ·show R rk W a<=R rk W b
   have kk:∀ t,sa+na<=t->t<sa+na+nb->rk key<=R rk (arrOf st) t:=λt t1 t2=>by rw [<- rkey]; exact s2 _ t (M4 _) t1 t2
   have kk2:∀ t,sa<=t->t<sa+na->R rk (arrOf st) t<=rk key2:=λt t1 t2=>by rw [<- rkey2]; exact s1 t _ t1 (by lia) (by lia)
   by_cases c1:a<sa+k
   ·rw [rO a (.inl c1)]
    have la:=k2 a z1 c1
    by_cases d1:b<sa+k
    ·rw [rO b (.inl d1)]; exact s1 a b z1 z2 (by lia)
    ·by_cases d2:b<sa+na+m
     ·obtain ⟨t,t1,t2,t3⟩:=elt b (by lia) d2
      rw [t3]
      by_cases d3:t<sa+na
      ·exact s1 a t z1 (by lia) d3
      ·exact NG la (kk t (by lia) (by lia))
     ·rw [rO b (.inr (by lia))]
      exact NG la (kk b (by lia) z3)
   ·by_cases c2:a<sa+na+m
    ·by_cases d2:b<sa+na+m
     ·rw [rW a (by lia) c2,rW b (by lia) d2]
      have f1:r[a - (sa+k)]?=some (r[a - (sa+k)]'(by rw [<- NT]; lia)):=Ny _
      have f2:r[b - (sa+k)]?=some (r[b - (sa+k)]'(by rw [<- NT]; lia)):=Ny _
      rw [dU f1,dU f2]
      exact ur _ _ _ _ (by lia) f1 f2
     ·obtain ⟨t,t1,t2,t3⟩:=elt a (by lia) c2
      rw [t3,rO b (.inr (by lia))]
      by_cases d3:t<sa+na
      ·exact NG (kk2 t (by lia) d3) (m3 b (by lia) z3)
      ·exact s2 t b (by lia) (by lia) z3
    ·rw [rO a (.inr (by lia)),rO b (.inr (by lia))]
     exact s2 a b (by lia) z2 z3
 have post:∀ (r:Array Keyed) (st2:SortSt),failedOf st2=failedOf st->(failedOf st2).isNone=true:=λr st2 e=>by rw [e,hB.failed]; rfl
 by_cases hle:na - k<=m
 ·rw [if_pos hle]
  refine M5 (qE hC (by exact hB.kind) mx my ux uy (by show 1<=((arrOf st).extract (sa+k) (sa+na)).size; lia) (by show 1<=((arrOf st).extract (sa+na) (sa+na+m)).size; lia) h0 hl λr st2 hr hK=>?_)
  refine M5 (OI (M5 (Oz ?_)))
  have e9:failedOf st2=none:=hK.f.trans hB.failed
  have z:=fin r st2 hr hK.k hK.a hK.p hK.f
  refine M6 ?_
  show Q (failedOf st2).isNone _
  rw [e9]; exact z
 ·rw [if_neg hle]
  refine M5 (qH hC (by exact hB.kind) mx my ux uy (by show 1<=((arrOf st).extract (sa+k) (sa+na)).size; lia) (by show 1<=((arrOf st).extract (sa+na) (sa+na+m)).size; lia) h0 hl λr st2 hr hK=>?_)
  refine M5 (OI (M5 (Oz ?_)))
  have e9:failedOf st2=none:=hK.f.trans hB.failed
  have z:=fin r st2 hr hK.k hK.a hK.p hK.f
  refine M6 ?_
  show Q (failedOf st2).isNone _
  rw [e9]; exact z
end
noncomputable abbrev JQ:Nat->Nat->Nat->Nat:=sortPriv% PySem.Builtin.minRun
noncomputable def qJ:StateT SortSt Sem Unit:=sortPriv% PySem.Builtin.sortRuns
local macro_rules | `(tactic| walk_at "dl sortRuns")=>do
 let i:=Pw (Pf `PySem.Builtin.List.W1All `PySem.Builtin.sortRuns)
 `(tactic| delta $i)
noncomputable def fC (rk:Keyed->Int) (xs:Array Keyed):Nat->List (Nat×Nat×Nat)->Nat->Prop
 | a,[],b=>a=b
 | a,p::r,b=>p.1=a/\1<=p.2.1/\Seg rk xs a (a+p.2.1)/\fC rk xs (a+p.2.1) r b
theorem fC.le:∀ {ps:List (Nat×Nat×Nat)} {a b:Nat},fC rk xs a ps b->a+ps.length<=b
 | [],a,b,h=>by have:a=b:=h; simp; lia
 | p::r,a,b,h=>by
  obtain ⟨_,h1,_,h2⟩:=h
  have:=h2.le
  rw [NN]; lia
theorem fC.app:∀ {ps qs:List (Nat×Nat×Nat)} {a b:Nat},fC rk xs a (ps++qs) b↔∃ m,fC rk xs a ps m/\fC rk xs m qs b
 | [],qs,a,b=>⟨λh=>⟨a,rfl,h⟩,λ⟨m,h1,h2⟩=>by have:a=m:=h1; subst this; exact h2⟩
 | p::r,qs,a,b=>by
  constructor
  ·rintro ⟨h1,h2,h3,h4⟩
   obtain ⟨m,h5,h6⟩:=fC.app.mp h4
   exact ⟨m,⟨h1,h2,h3,h5⟩,h6⟩
  ·rintro ⟨m,⟨h1,h2,h3,h5⟩,h6⟩
   exact ⟨h1,h2,h3,fC.app.mpr ⟨m,h5,h6⟩⟩
theorem fC.congr:∀ {ps:List (Nat×Nat×Nat)} {a b:Nat},fC rk xs a ps b->(∀ i,a<=i->i<b->R rk ys i=R rk xs i)->fC rk ys a ps b
 | [],a,b,h,_=>h
 | p::r,a,b,h,e=>by
  obtain ⟨h1,h2,h3,h4⟩:=h
  have hl:=h4.le
  refine ⟨h1,h2,λi j z1 z2 z3=>?_,h4.congr λi z1 z2=>e i (by lia) z2⟩
  rw [e i z1 (by lia),e j (by lia) (by lia)]
  exact h3 i j z1 z2 z3
theorem fC.mod (f) (hf:∀ p,(f p).1=p.1/\(f p).2.1=p.2.1):∀ {ps:List (Nat×Nat×Nat)} {a b:Nat} (i:Nat),fC rk xs a ps b->fC rk xs a (ps.modify i f) b
 | [],a,b,i,h=>by simpa using h
 | p::r,a,b,0,h=>by
  obtain ⟨h1,h2,h3,h4⟩:=h
  rw [List.modify_zero_cons]
  refine ⟨(hf p).1.trans h1,by rw [(hf p).2]; exact h2,by rw [(hf p).2]; exact h3,by rw [(hf p).2]; exact h4⟩
 | p::r,a,b,i+1,h=>by
  obtain ⟨h1,h2,h3,h4⟩:=h
  rw [List.modify_succ_cons]
  exact ⟨h1,h2,h3,h4.mod f hf i⟩
theorem fC.two:∀ {ps:List (Nat×Nat×Nat)} {a b:Nat} (i:Nat),fC rk xs a ps b->i+1<ps.length->∃ s n pw m pw2,ps[i]?=some (s,n,pw)/\ps[i+1]?=some (s+n,m,pw2)/\1<=n/\1<=m/\a<=s/\s+n+m<=b/\Seg rk xs s (s+n)/\Seg rk xs (s+n) (s+n+m) /\
 ∀ ys:Array Keyed,(∀ j,j<s\/s+n+m<=j->R rk ys j=R rk xs j)->Seg rk ys s (s+n+m)->fC rk ys a ((ps.set i (s,n+m,pw)).eraseIdx (i+1)) b
 | [],a,b,i,h,hi=>by simp at hi
 | [p],a,b,i,h,hi=>by simp at hi
 | p::q::r,a,b,0,h,hi=>by
  obtain ⟨h1,h2,h3,h4,h5,h6,h7⟩:=h
  obtain ⟨s,n,pw⟩:=p
  obtain ⟨s',m,pw2⟩:=q
  dsimp only at h1 h2 h3 h4 h5 h6 h7
  subst h1; subst h4
  have hl:=h7.le
  refine ⟨s,n,pw,m,pw2,rfl,rfl,h2,h5,M4 _,by lia,h3,h6,λys e hs=>?_⟩
  refine ⟨rfl,by dsimp only; lia,by dsimp only; rw [<- Nat.add_assoc]; exact hs,?_⟩
  dsimp only
  rw [<- Nat.add_assoc]
  exact h7.congr λi z1 z2=>e i (.inr z1)
 | p::q::r,a,b,i+1,h,hi=>by
  obtain ⟨h1,h2,h3,h4⟩:=h
  obtain ⟨s,n,pw,m,pw2,e1,e2,a1,a2,a3,a4,a5,a6,a7⟩:=h4.two i (by simpa using hi)
  refine ⟨s,n,pw,m,pw2,by simpa using e1,by simpa using e2,a1,a2,by lia,a4,a5,a6,λys e hs=>?_⟩
  rw [List.set_cons_succ,List.eraseIdx_cons_succ]
  refine ⟨h1,h2,λj j' z1 z2 z3=>?_,a7 ys e hs⟩
  rw [e j (.inl (by lia)),e j' (.inl (by lia))]
  exact h3 j j' z1 z2 z3
section
variable {st:SortSt}
theorem ic (hC:iE prog w A s κ rk L) (hB:Bs κ L st) (hc:fC rk (arrOf st) 0 (pendingOf st).toList b) (hb:b<=L.length) (hi:i+1<(pendingOf st).size)
 (h:∀ st',Bs κ L st'->fC rk (arrOf st') 0 (pendingOf st').toList b->(∀ j,b<=j->(arrOf st')[j]?=(arrOf st)[j]?)->(pendingOf st').size+1=(pendingOf st).size->Q true st'):wpS (model prog w) A E s (g6 i) Q st:=by
 obtain ⟨sa,n,pw,m,pw2,e1,e2,a1,a2,a3,a4,a5,a6,a7⟩:=hc.two i (by rw [NT]; exact hi)
 rw [NS] at e1 e2
 refine qI hC hB e1 e2 a1 a2 (by lia) a5 a6 λst' b1 b2 b3 b4=>h st' b1 ?_ (λj hj=>b2 j (.inr (by lia))) ?_
 ·rw [b3,SX,Array.toList_setIfInBounds]
  exact a7 _ (λj hj=>cu (b2 j hj)) b4
 ·rw [b3,<- NT,SX,Array.toList_setIfInBounds,List.length_eraseIdx,List.length_set,NT,if_pos hi]; lia
theorem wpS_sortRuns (hC:iE prog w A s κ rk L) (hB:Bs κ L st) (hp:pendingOf st= #[]) (h:∀ st',Bs κ L st'->Seg rk (arrOf st') 0 L.length->Q () st'):wpS (model prog w) A E s qJ Q st:=by
 unfold qJ
 walk_at "dl sortRuns"
 dsimp only
 refine M5 (Oz ?_)
 have hsz:=hB.size
 rw [hsz]
 obtain ⟨mr,hmr⟩:∃ mr,JQ L.length L.length 0=mr:=⟨_,rfl⟩
 delta JQ at hmr
 rw [hmr]
 refine M5 (NI (N8 (I:=λx c st'=>c.1=none/\Bs κ L st'/\fC rk (arrOf st') 0 (pendingOf st').toList c.2/\c.2<=L.length/\(x<=c.2\/L.length<=c.2)) (Q:=λc st'=>c.1=none/\Bs κ L st'/\fC rk (arrOf st') 0 (pendingOf st').toList L.length) ?step ?fin ?init) ?post)
 case init=>exact ⟨rfl,hB,by rw [hp]; rfl,ND _,.inl (M4 _)⟩
 case fin =>
  rintro ⟨c,lo⟩ st' ⟨rfl,jF,hC',h1,h2⟩
  dsimp only at hC' h1 h2 |-
  have e:lo=L.length:=by
   rcases h2 with z | z
   ·lia
   ·lia
  subst e
  exact ⟨rfl,jF,hC'⟩
 case step =>
  rintro x ⟨c,lo⟩ st' _ hx ⟨rfl,jF,hC',h1,h2⟩
  dsimp only at hC' h1 h2 |-
  by_cases hge:lo>=L.length
  ·rw [if_pos hge]
   have e:lo=L.length:=by lia
   subst e
   exact M6 ⟨rfl,jF,hC'⟩
  rw [if_neg hge]
  refine M5 (show wpS _ _ _ _ (countRun' lo (L.length - lo)) _ _ from wpS_countRun hC jF (by lia) (by lia) λm st1 hB1 hM1 m1 m2 ms=>?_)
  have hC1:fC rk (arrOf st1) 0 (pendingOf st1).toList lo:=by
   rw [hM1.pend]; exact hC'.congr λi _ z=>cu (hM1.out i (.inl z))
  dsimp only
  by_cases hmin:m<mr
  ·rw [if_pos (show m<_ from hmin)]
   refine M5 (Pc (Ol ⟨rfl,?_⟩))
   have hf1:m<=min (L.length - lo) mr:=by lia
   have hf2:lo+min (L.length - lo) mr<=L.length:=by lia
   refine M5 (show wpS _ _ _ _ (binarySort' lo (min (L.length - lo) mr) m) _ _ from wpS_binarySort hC hB1 hf2 hf1 ms λst2 hB2 hM2 hS2=>?_)
   have hC2:fC rk (arrOf st2) 0 (pendingOf st2).toList lo:=by
    rw [hM2.pend]; exact hC1.congr λi _ z=>cu (hM2.out i (.inl z))
   simp only [QB,NV,if_false]
   generalize hF:min (L.length - lo) mr=F at hf1 hf2 hS2
   have hF':=hF
   clear hM2 hM1
   refine M5 (Oz ?_)
   rcases hbk:(pendingOf st2).back? with _ | ⟨q1,q2,q3⟩
   ·dsimp only
    refine M5 (OI (M6 ⟨rfl,⟨hB2.perm,hB2.kind,hB2.failed⟩,?_,by dsimp only; lia,by dsimp only; lia⟩))
    show fC rk (arrOf st2) 0 ((pendingOf st2).push (lo,F,0)).toList (lo+(F))
    rw [NK]
    exact fC.app.mpr ⟨lo,hC2,rfl,by dsimp only; lia,hS2,rfl⟩
   ·dsimp only
    refine M5 (NI (N8 (I:=λy c st'=>c.1=none/\Bs κ L st'/\fC rk (arrOf st') 0 (pendingOf st').toList lo/\Seg rk (arrOf st') lo (lo+(F))) (Q:=λc st'=>c.1=none/\Bs κ L st'/\fC rk (arrOf st') 0 (pendingOf st').toList lo/\Seg rk (arrOf st') lo (lo+(F))) ?_ (λ_ _ z=>z) ⟨rfl,hB2,hC2,hS2⟩) ?_)
    ·rintro y ⟨c,u⟩ st3 _ hy ⟨rfl,tX,xY,BH⟩
     refine M5 (Oz ?_)
     by_cases hs1:(pendingOf st3).size>1
     ·rw [if_pos hs1]
      obtain ⟨⟨r1,r2,r3⟩,er⟩:∃ t,(pendingOf st3)[(pendingOf st3).size - 2]?=some t:=⟨_,Ny (show (pendingOf st3).size - 2<(pendingOf st3).size by lia)⟩
      rw [er]
      dsimp only
      split
      ·exact M6 ⟨rfl,tX,xY,BH⟩
      ·refine M5 (show wpS _ _ _ _ (g6 ((pendingOf st3).size - 2)) _ _ from ic hC tX xY (by lia) (by lia) λst4 hB4 hC4 ho4 hz4=>?_)
       simp only [QB,NV,if_false]
       exact M6 ⟨rfl,hB4,hC4,λa b z1 z2 z3=>by rw [cu (ho4 a z1),cu (ho4 b (by lia))]; exact BH a b z1 z2 z3⟩
     ·rw [if_neg hs1]
      exact M6 ⟨rfl,tX,xY,BH⟩
    ·rintro ⟨c,u⟩ st3 ⟨hc,tX,xY,BH⟩
     dsimp only at hc |-
     rw [hc]
     dsimp only
     refine M5 (OI (M5 (OI (M6 ⟨rfl,⟨tX.perm,tX.kind,tX.failed⟩,?_,by dsimp only; lia,by dsimp only; lia⟩))))
     show fC rk (arrOf st3) 0 (((pendingOf st3).modify ((pendingOf st3).size - 1) _).push (lo,F,0)).toList (lo+(F))
     rw [NK,Array.toList_modify]
     refine fC.app.mpr ⟨lo,?_,rfl,by dsimp only; lia,BH,rfl⟩
     refine fC.mod _ (λp=>?_) _ xY
     exact ⟨rfl,rfl⟩
  ·rw [if_neg (show ¬ m<_ from hmin)]
   refine M5 (Oz ?_)
   rcases hbk:(pendingOf st1).back? with _ | ⟨q1,q2,q3⟩
   ·dsimp only
    refine M5 (OI (M6 ⟨rfl,⟨hB1.perm,hB1.kind,hB1.failed⟩,?_,by dsimp only; lia,by dsimp only; lia⟩))
    show fC rk (arrOf st1) 0 ((pendingOf st1).push (lo,m,0)).toList (lo+(m))
    rw [NK]
    exact fC.app.mpr ⟨lo,hC1,rfl,by dsimp only; lia,ms,rfl⟩
   ·dsimp only
    refine M5 (NI (N8 (I:=λy c st'=>c.1=none/\Bs κ L st'/\fC rk (arrOf st') 0 (pendingOf st').toList lo/\Seg rk (arrOf st') lo (lo+(m))) (Q:=λc st'=>c.1=none/\Bs κ L st'/\fC rk (arrOf st') 0 (pendingOf st').toList lo/\Seg rk (arrOf st') lo (lo+(m))) ?_ (λ_ _ z=>z) ⟨rfl,hB1,hC1,ms⟩) ?_)
    ·rintro y ⟨c,u⟩ st3 _ hy ⟨rfl,tX,xY,BH⟩
     refine M5 (Oz ?_)
     by_cases hs1:(pendingOf st3).size>1
     ·rw [if_pos hs1]
      obtain ⟨⟨r1,r2,r3⟩,er⟩:∃ t,(pendingOf st3)[(pendingOf st3).size - 2]?=some t:=⟨_,Ny (show (pendingOf st3).size - 2<(pendingOf st3).size by lia)⟩
      rw [er]
      dsimp only
      split
      ·exact M6 ⟨rfl,tX,xY,BH⟩
      ·refine M5 (show wpS _ _ _ _ (g6 ((pendingOf st3).size - 2)) _ _ from ic hC tX xY (by lia) (by lia) λst4 hB4 hC4 ho4 hz4=>?_)
       simp only [QB,NV,if_false]
       exact M6 ⟨rfl,hB4,hC4,λa b z1 z2 z3=>by rw [cu (ho4 a z1),cu (ho4 b (by lia))]; exact BH a b z1 z2 z3⟩
     ·rw [if_neg hs1]
      exact M6 ⟨rfl,tX,xY,BH⟩
    ·rintro ⟨c,u⟩ st3 ⟨hc,tX,xY,BH⟩
     dsimp only at hc |-
     rw [hc]
     dsimp only
     refine M5 (OI (M5 (OI (M6 ⟨rfl,⟨tX.perm,tX.kind,tX.failed⟩,?_,by dsimp only; lia,by dsimp only; lia⟩))))
     show fC rk (arrOf st3) 0 (((pendingOf st3).modify ((pendingOf st3).size - 1) _).push (lo,m,0)).toList (lo+(m))
     rw [NK,Array.toList_modify]
     refine fC.app.mpr ⟨lo,?_,rfl,by dsimp only; lia,BH,rfl⟩
     refine fC.mod _ (λp=>?_) _ xY
     exact ⟨rfl,rfl⟩
 case post =>
  rintro ⟨c,lo⟩ st' ⟨hc,jF,hC'⟩
  dsimp only at hc |-
  rw [hc]
  dsimp only
  have hl0:=hC'.le
  rw [NT] at hl0
  refine M5 (NI (N8 (I:=λx c st2=>c.1=none/\Bs κ L st2/\fC rk (arrOf st2) 0 (pendingOf st2).toList L.length/\((pendingOf st2).size<=1\/(pendingOf st2).size+x<=L.length)) (Q:=λc st2=>c.1=none/\Bs κ L st2/\fC rk (arrOf st2) 0 (pendingOf st2).toList L.length/\(pendingOf st2).size<=1) ?mstep ?mfin ⟨rfl,jF,hC',.inr (by lia)⟩) ?mpost)
  case mfin =>
   rintro c2 st2 ⟨a1,a2,a3,a4⟩
   exact ⟨a1,a2,a3,by lia⟩
  case mpost =>
   rintro ⟨c2,u⟩ st2 ⟨a1,a2,a3,a4⟩
   dsimp only at a1 |-
   rw [a1]
   refine M6 (h st2 a2 ?_)
   rw [<- NT] at a4
   match e:(pendingOf st2).toList,a4 with
   | [],_ =>
    rw [e] at a3
    have z:0=L.length:=a3
    intro i j _ _ hj; lia
   | [p],_ =>
    rw [e] at a3
    obtain ⟨b1,b2,b3,b4⟩:=a3
    have z:0+p.2.1=L.length:=b4
    rw [<- z]; exact b3
  case mstep =>
   rintro x ⟨c2,u⟩ st2 _ hx ⟨a1,a2,a3,a4⟩
   refine M5 (Oz ?_)
   by_cases hs1:(pendingOf st2).size<=1
   ·rw [if_pos hs1]
    exact M6 ⟨rfl,a2,a3,hs1⟩
   ·rw [if_neg hs1]
    have key:∀ i,i+1<(pendingOf st2).size->wpS (model prog w) A E s (g6 i) (λr st3=>r=true/\Bs κ L st3/\fC rk (arrOf st3) 0 (pendingOf st3).toList L.length/\(pendingOf st3).size+1=(pendingOf st2).size) st2:=λi hi =>
     ic hC a2 a3 (M4 _) hi λst3 b1 b2 _ b3=>⟨rfl,b1,b2,b3⟩
    refine M5 (NI (show wpS _ _ _ _ (g6 _) _ _ from key _ ?_) λr st3 hr=>?_)
    ·unfold pendingOf at hs1 |-
     repeat' split
     all_goals lia
    ·obtain ⟨rfl,b1,b2,b3⟩:=hr
     simp only [QB,NV,if_false]
     exact M6 ⟨rfl,b1,b2,.inr (by lia)⟩
end
end SR
namespace SR
open PySem PyProof.Rows
noncomputable def dup (vs:List Value):List Keyed:=vs.map λv=>(v,v)
theorem vg (vs):(vs.toArray.zip vs.toArray).toList=dup vs:=by
 unfold dup
 rw [Array.toList_zip]
 induction vs with
 | nil=>rfl
 | cons v vs ih=>simpa using ih
def Ord (rk:Keyed->Int) (b:Bool) (out:List Value):Prop:=out.Pairwise λx y=>if b then rk (y,y)<=rk (x,x) else rk (x,x)<=rk (y,y)
theorem qK {xs:Array Keyed} (h:xs.toList.Perm (dup vs)):(xs.toList.map (·.2)).Perm vs/\∀ p∈xs.toList,p=(p.2,p.2):=by
 refine ⟨?_,λp hp=>?_⟩
 ·have q:=h.map (·.2)
  have e:(dup vs).map (·.2)=vs:=by
   unfold dup
   rw [Nt]
   exact List.map_id' vs
  rwa [e] at q
 ·have:=h.mem_iff.mp hp
  simp only [dup,N1] at this
  obtain ⟨v,_,rfl⟩:=this
  rfl
theorem C9 {st:SortSt} (hp:(arrOf st).toList.Perm (dup vs)) (hs:Seg rk (arrOf st) 0 (dup vs).length) (b) :
 ((if b=true then ((arrOf st).map (·.2)).reverse else (arrOf st).map (·.2)).toList).Perm vs/\Ord rk b (if b=true then ((arrOf st).map (·.2)).reverse else (arrOf st).map (·.2)).toList:=by
 obtain ⟨h1,h2⟩:=qK hp
 have up:((arrOf st).toList.map (·.2)).Pairwise λx y=>rk (x,x)<=rk (y,y):=by
  rw [OQ]
  refine RV.mpr λi j hi hj hij=>?_
  have l:=hp.length_eq
  simp only [NT] at hi hj l
  have z:=hs i j (ND _) (O9 hij) (by lia)
  have ei:(arrOf st)[i]?=some ((arrOf st).toList[i]'(by simpa using hi)):=by simp [hi]
  have ej:(arrOf st)[j]?=some ((arrOf st).toList[j]'(by simpa using hj)):=by simp [hj]
  rw [dU ei,dU ej] at z
  have e1:=h2 _ (NL (show i<(arrOf st).toList.length by simpa using hi))
  have e2:=h2 _ (NL (show j<(arrOf st).toList.length by simpa using hj))
  rw [e1,e2] at z
  exact z
 cases b with
 | false=>simp only [NV,if_false,SN]; exact ⟨h1,up.imp λh=>by simpa using h⟩
 | true =>
  simp only [if_true,P0,SN]
  refine ⟨(Rf _).trans h1,?_⟩
  unfold Ord
  rw [List.pairwise_reverse]
  exact up.imp λh=>by simpa using h
def LS (prog:Program) (w:World) (A:Around) (s:Shared) (a:Addr) (vs:List Value) (κ:SortKind) (rk:Keyed->Int):Prop :=
 ∀ h':Heap,(∀ c o,c≠a->s.heap.get? c=some o->h'.get? c=some o) ->
  (∀ (Q:SortKind->Shared->Prop) (E:Value->Shared->Prop),2<=vs.length->Q κ { s with heap:=h' }->wpAny (model prog w) A (keyKind' vs.toArray) Q E { s with heap:=h' })/\iE prog w A { s with heap:=h' } κ rk (dup vs)
theorem mZ (ho:s.heap.get? a=some (seqObj "list" vs.toArray n)) (hk:LS prog w A s a vs κ rk) (hz:vs.length<=sizeLine)
 (h:∀ out:Array Value,out.toList.Perm vs->Ord rk b out.toList->P (.done (.ret .none)) { s with heap:=sortedHeap s.heap a vs out }) :
 wpAny (model prog w) A (Builtin.«list.sort» ⟨[.ref a],[(MY "reverse",.bool b)]⟩) P E s:=by
 rw [list_sort_rev]
 have lta:a<s.heap.objs.size:=Na ho
 refine MZ (QC ho rfl (MZ (Ox ho rfl ?_ (by simpa using hz))))
 obtain ⟨e1,ho1⟩:∃ e1,(s.heap.update a (NH λ_=> #[])).get? a=some (seqObj "list" #[] e1):=⟨_,Rm ho (λ_=> #[])⟩
 have oth:∀ c o,c≠a->s.heap.get? c=some o->(s.heap.update a (NH λ_=> #[])).get? c=some o:=λc o hc q=>by rw [O2 _ _ _ _ hc]; exact q
 have sz1:(s.heap.update a (NH λ_=> #[])).objs.size=s.heap.objs.size:=SK ..
 refine MZ (Qe ho1 rfl (MZ (wpAny_newTuple ?_ (by simpa using hz))))
 refine MZ (Qx (Oi ?_))
 show wpAny (model prog w) A _ P E { s with heap:=((s.heap.update a (NH λ_=> #[])).push (seqObj "tuple" vs.toArray 0)).push (seqObj "list" #[] 0) }
 have ho6:(((s.heap.update a (NH λ_=> #[])).push (seqObj "tuple" vs.toArray 0)).push (seqObj "list" #[] 0)).get? a=some (seqObj "list" #[] e1):=M9 _ (M9 _ ho1)
 obtain ⟨hkk,hC⟩:=hk (((s.heap.update a (NH λ_=> #[])).push (seqObj "tuple" vs.toArray 0)).push (seqObj "list" #[] 0)) λc o hc q=>M9 _ (M9 _ (oth c o hc q))
 have fin:∀ st':SortSt,(arrOf st').toList.Perm (dup vs)->Seg rk (arrOf st') 0 (dup vs).length ->
  P (.done (.ret .none)) { s with heap:=sortedHeap s.heap a vs (if b then ((arrOf st').map (·.2)).reverse else (arrOf st').map (·.2)) }:=λst' hp hs =>
  let ⟨q1,q2⟩:=C9 hp hs b; h _ q1 q2
 have hstart:(if b=true then (vs.toArray.zip vs.toArray).reverse else vs.toArray.zip vs.toArray).toList.Perm (dup vs):=by
  cases b with
  | false=>rw [if_neg Nc,vg]
  | true=>rw [if_pos rfl,P0,vg]; exact Rf _
 dsimp only
 have told:∀ t:Sem Fin,wpAny (model prog w) A t P E { s with heap:=((s.heap.update a (NH λ_=> #[])).push (seqObj "tuple" vs.toArray 0)).push (seqObj "list" #[] 0) } ->
  wpAny (model prog w) A (if b=true then (do let _ <- rule "list.sort.reverse"; t) else t) P E { s with heap:=((s.heap.update a (NH λ_=> #[])).push (seqObj "tuple" vs.toArray 0)).push (seqObj "list" #[] 0) }:=λt ht=>by
  split
  ·exact MZ (Ol ht)
  ·exact ht
 refine told _ ?_
 have hlen:∀ {xs:Array Keyed},xs.toList.Perm (dup vs)->(if b=true then (Array.map (λx=>x.snd) xs).reverse else Array.map (λx=>x.snd) xs).size<=sizeLine+1:=λ{xs} hp=>by
  have l:=hp.length_eq
  simp only [NT,dup,M8] at l
  split
  ·rw [Array.size_reverse,Array.size_map]; lia
  ·rw [Array.size_map]; lia
 by_cases h2:vs.toArray.size<2
 ·rw [if_pos h2,if_pos h2]
  refine MZ (M3 ?_)
  rw [StateT.run_pure]
  refine MZ (M3 ?_)
  dsimp only
  refine MZ (Qe ho6 rfl (MZ (Ox ho6 rfl ?_ (hsz2:=hlen hstart))))
  simp only [bne_self_eq_false,NV,if_false]
  refine M3 (fin (Pa general' (if b=true then (vs.toArray.zip vs.toArray).reverse else vs.toArray.zip vs.toArray) #[] 7 none) hstart ?_)
  intro i j _ hij hj
  have hl:(dup vs).length<2:=by simpa [dup] using h2
  have:i=j:=by lia
  subst this; exact Oe _
 ·rw [if_neg h2,if_neg h2]
  refine MZ (hkk _ _ (by simpa using h2) ?_)
  refine MZ (NQ (wpS_sortRuns (κ:=κ) (rk:=rk) (L:=dup vs) (st:=Pa κ (if b=true then (vs.toArray.zip vs.toArray).reverse else vs.toArray.zip vs.toArray) #[] 7 none)
   (Q:=λ_ st'=>(arrOf st').toList.Perm (dup vs)/\failedOf st'=none/\Seg rk (arrOf st') 0 (dup vs).length) hC ⟨hstart,rfl,rfl⟩ rfl λst' a1 a2=>⟨a1.perm,a1.failed,a2⟩) ?_ λ_ _ e=>e)
  rintro ⟨⟨⟩,st'⟩ s' ⟨rfl,hp,hf,hs⟩
  dsimp only
  refine MZ (Qe ho6 rfl (MZ (Ox ho6 rfl ?_ (hsz2:=hlen hp))))
  rw [hf]
  simp only [bne_self_eq_false,NV,if_false]
  exact M3 (fin st' hp hs)
section
variable {α:Type} {lt:α->α->Bool} {L:List α}
theorem filter_le:∀ {l:List α},(∀ z∈l,p z=true->q z=true)->(l.filter p).length<=(l.filter q).length
 | [],_=>M4 _
 | x::l,h=>by
  have ih:=filter_le (l:=l) λz hz=>h z (Ni _ hz)
  have hx:=h x Ng
  cases e:p x with
  | false =>
   rw [Ql (by simp [e])]
   by_cases e2:q x=true
   ·rw [Pe e2]; exact Nat.le_succ_of_le ih
   ·rw [Ql e2]; exact ih
  | true =>
   rw [Pe e,Pe (hx e)]
   exact Ri ih
theorem filter_lt:∀ {l:List α},(∀ z∈l,p z=true->q z=true)->(∃ z∈l,q z=true/\p z=false)->(l.filter p).length<(l.filter q).length
 | [],_,h=>by obtain ⟨z,h,_⟩:=h; cases h
 | x::l,h,g=>by
  have h':∀ z∈l,p z=true->q z=true:=λz hz=>h z (Ni _ hz)
  have hx:=h x Ng
  by_cases e:p x=true
  ·rw [Pe e,Pe (hx e)]
   obtain ⟨z,hz,z1,z2⟩:=g
   rcases Nm.mp hz with rfl | hz
   ·rw [e] at z2; cases z2
   ·exact Nat.succ_lt_succ (filter_lt h' ⟨z,hz,z1,z2⟩)
  ·rw [Ql e]
   by_cases e2:q x=true
   ·rw [Pe e2]; exact Nat.lt_succ_of_le (filter_le h')
   ·rw [Ql e2]
    obtain ⟨z,hz,z1,z2⟩:=g
    rcases Nm.mp hz with rfl | hz
    ·exact absurd z1 e2
    ·exact filter_lt h' ⟨z,hz,z1,z2⟩
structure EY (lt:α->α->Bool) (L:List α):Prop where
 irr:∀ x∈L,lt x x=false
 tr:∀ x∈L,∀ y∈L,∀ z∈L,lt x y=true->lt y z=true->lt x z=true
 tot:∀ x∈L,∀ y∈L,x≠y->lt x y=true\/lt y x=true
noncomputable def rank (lt:α->α->Bool) (L:List α) (x:α):Int:=((L.filter λz=>lt z x).length:Int)
theorem jZ (h:EY lt L) (hx:x∈L) (hy:y∈L) (e:lt x y=true):rank lt L x<rank lt L y:=by
 have q:=filter_lt (l:=L) (p:=λz=>lt z x) (q:=λz=>lt z y) (λz hz hzx=>h.tr z hz x hx y hy hzx e) ⟨x,hx,e,h.irr x hx⟩
 unfold rank; lia
theorem Dc (h:EY lt L) (hx:x∈L) (hy:y∈L):decide (rank lt L x<rank lt L y)=lt x y:=by
 classical
 cases e:lt x y with
 | true=>exact decide_eq_true (jZ h hx hy e)
 | false =>
  refine decide_eq_false λz=>?_
  by_cases w:x=y
  ·subst w; exact absurd z (Int.lt_irrefl _)
  ·rcases h.tot x hx y hy w with q | q
   ·rw [e] at q; cases q
   ·have:=jZ h hy hx q; lia
theorem gn (hp:n.Perm m):∀ {l:List α},Paired S l m->∃ l',l'.Perm l/\Paired S l' n:=by
 induction hp with
 | nil=>intro l h; exact ⟨l,.refl _,h⟩
 | cons x _ ih =>
  intro l h
  cases h with
  | cons r t=>obtain ⟨l',h1,h2⟩:=ih t; exact ⟨_::l',h1.cons _,.cons r h2⟩
 | swap x y l' =>
  intro l h
  cases h with
  | cons r t=>cases t with | cons r2 t2=>exact ⟨_,.swap _ _ _,.cons r2 (.cons r t2)⟩
 | trans _ _ ih1 ih2 =>
  intro l h
  obtain ⟨l1,h1,h2⟩:=ih2 h
  obtain ⟨l2,h3,h4⟩:=ih1 h2
  exact ⟨l2,h3.trans h1,h4⟩
theorem ie (h:Paired S l m):∀ u∈m,∃ x∈l,S x u:=by
 induction h with
 | nil=>intro u hu; cases hu
 | cons r t ih =>
  intro u hu
  rcases Nm.mp hu with rfl | hu
  ·exact ⟨_,Ng,r⟩
  ·obtain ⟨x,h1,h2⟩:=ih u hu; exact ⟨x,Ni _ h1,h2⟩
open Classical in
noncomputable def wX {β:Type} (S:α->Value->Prop) (lt:α->α->Bool) (L:List α) (p:Value×β):Int:=if h:∃ x,x∈L/\S x p.1 then rank lt L h.choose else 0
theorem j0 (inj:∀ x y u,S x u->S y u->x=y) (hx:x∈L) (h:S x p.1):wX S lt L p=rank lt L x:=by
 have e:∃ x,x∈L/\S x p.1:=⟨x,hx,h⟩
 unfold wX
 rw [dif_pos e,inj _ _ _ e.choose_spec.2 h]
theorem qL (inj:∀ x y u,S x u->S y u->x=y) (h:EY lt L) (nd:L.Nodup) (hL:Paired S L us) (hp:out.Perm us) (ho:Ord (wX S lt L) b out) :
 ∃ L',L'.Perm L/\L'.Pairwise (λx y=>if b then lt y x=true else lt x y=true)/\Paired S L' out:=by
 obtain ⟨L',h1,h2⟩:=gn hp hL
 refine ⟨L',h1,?_,h2⟩
 have hm:∀ x∈L',x∈L:=λx hx=>h1.mem_iff.mp hx
 have nd':L'.Nodup:=h1.nodup_iff.mpr nd
 clear h1 hp hL nd
 unfold Ord at ho
 induction h2 with
 | nil=>exact .nil
 | @cons x u xs us r t ih =>
  obtain ⟨q1,q2⟩:=P4.mp ho
  obtain ⟨n1,n2⟩:=O3.mp nd'
  refine .cons (λy hy=>?_) (ih q2 (λz hz=>hm z (Ni _ hz)) n2)
  have hx:=hm x Ng
  have hyL:=hm y (Ni _ hy)
  obtain ⟨v,hv,sv⟩:∃ v∈us,S y v:=by
   clear ih ho q1 q2 n1 n2 hm nd'
   induction t with
   | nil=>cases hy
   | cons r t ih2 =>
    rcases Nm.mp hy with rfl | hy
    ·exact ⟨_,Ng,r⟩
    ·obtain ⟨v,h1,h2⟩:=ih2 hy; exact ⟨v,Ni _ h1,h2⟩
  have q:=q1 v hv
  rw [j0 inj hx (p:=(u,u)) r,j0 inj hyL (p:=(v,v)) sv] at q
  have ne:x≠y:=λz=>n1 (z ▸ hy)
  cases b with
  | true =>
   simp only [if_true] at q |-
   rcases h.tot x hx y hyL ne with w | w
   ·have:=jZ h hx hyL w; lia
   ·exact w
  | false =>
   simp only [NV,if_false] at q |-
   rcases h.tot x hx y hyL ne with w | w
   ·exact w
   ·have:=jZ h hyL hx w; lia
end
theorem zY (inj:∀ x y u,S x u->S y u->x=y) (h:EY lt L) (hL:Paired S L us)
 (hk:∀ x∈L,∀ y∈L,∀ u v,S x u->S y v->∀ (E:Value->Shared->Prop) (Q:Bool->Shared->Prop),Q (lt x y) s->wpAny (model prog w) A (keyLt' κ u v) Q E s):iE prog w A s κ (wX S lt L) (dup us):=by
 intro p hp q hq E Q hQ
 simp only [dup,N1] at hp hq
 obtain ⟨u,hu,rfl⟩:=hp
 obtain ⟨v,hv,rfl⟩:=hq
 obtain ⟨x,hx,sx⟩:=ie hL u hu
 obtain ⟨y,hy,sy⟩:=ie hL v hv
 refine hk x hx y hy u v sx sy E Q ?_
 rw [j0 inj hx (p:=(u,u)) sx,j0 inj hy (p:=(v,v)) sy,Dc h hx hy] at hQ
 exact hQ
end SR
namespace SR
open PySem PySem.Calls PyProof.Rows L2 EV
theorem lS (a):Builtin.«list.sort» ⟨[.ref a],[(MY "key",.builtin "len")]⟩=(do
 let items <- Qm (.ref a)
 O0 (.ref a) λ_=> #[]
 let before <- seqEpoch a
 let held <- newTuple items.toList
 let keyStore <- newList []
 holding [held,keyStore] do
  rule "list.sort.key"
  for x in items do
   match <- (call (.builtin "len") [x]).attempt with
   | .ok k=>O0 keyStore (·.push k)
   | .error e =>
    rule "list.sort.key-raised"
    let made <- Qm keyStore
    O0 keyStore λ_=> #[]
    letGo made.toList.reverse [e]
    O0 (.ref a) λ_=>items; throw e
  let keys <- Qm keyStore
  let kind <- if items.size<2 then pure general' else keyKind' keys
  let ((),s) <- (if items.size<2 then pure () else sortRuns').run (Pa kind (keys.zip items) #[] 7 none)
  O0 keyStore λ_=> #[]
  letGo ((arrOf s).map (·.1)).toList (failedOf s).toList
  let touched:=(<- seqEpoch a) != before
  O0 (.ref a) λ_=>(arrOf s).map (·.2)
  if let some e:=failedOf s then rule "list.sort.comparison-raised"; throw e
  if touched then rule "list.sort.modified"; raiseError "ValueError" "list modified during sort"
  ret .none):=by
 rfl
theorem ig (a v):argsOk "list.sort" ⟨[a],[(MY "key",v)]⟩:=by unfold argsOk; kernel_rfl
theorem jN (a v):argsOk "sorted" ⟨[a],[(MY "key",v)]⟩:=by unfold argsOk; kernel_rfl
noncomputable def intOf (p:Keyed):Int:=match p.1 with | .int m _=>m | _=>0
theorem vh:∀ {ks vs:List Value},ks.length=vs.length->(ks.zip vs).map (·.2)=vs
 | [],[],_=>rfl
 | k::ks,v::vs,h=>by rw [Q9,M7,vh (by simpa using h)]
 | [],_::_,h=>by simp at h
 | _::_,[],h=>by simp at h
theorem vj {ks vs:List Value} {ms:List Int} (h:IntsAre ks ms) {p:Keyed} (hp:p∈ks.zip vs):∃ m t,p.1=.int m t:=by
 obtain ⟨k,v⟩:=p
 exact h.all k (Ro hp).1
theorem zZ (ho:s.heap.get? a=some (seqObj "list" vs.toArray n)) (hz:vs.length<=sizeLine)
 (hv:∀ v∈vs,∃ (l:Addr) (items:Array Value),v=.ref l/\l≠a/\s.heap.IsList l items/\items.size<=sizeLine)
 (h:∀ (out:Array Value) (h':Heap) (tk e:Nat),out.toList.Perm vs->h'.get? a=some (seqObj "list" out e)->(∀ c o,c≠a->s.heap.get? c=some o->h'.get? c=some o)->P (.done (.ret .none)) { s with heap:=h',toks:=tk }) :
 wpAny (model prog w) A (Builtin.«list.sort» ⟨[.ref a],[(MY "key",.builtin "len")]⟩) P E s:=by
 rw [lS]
 have lta:a<s.heap.objs.size:=Na ho
 refine MZ (QC ho rfl (MZ (Ox ho rfl ?_ (by simpa using hz))))
 obtain ⟨e1,ho1⟩:∃ e1,(s.heap.update a (NH λ_=> #[])).get? a=some (seqObj "list" #[] e1):=⟨_,Rm ho (λ_=> #[])⟩
 have oth:∀ c o,c≠a->s.heap.get? c=some o->(s.heap.update a (NH λ_=> #[])).get? c=some o:=λc o hc q=>by rw [O2 _ _ _ _ hc]; exact q
 refine MZ (Qe ho1 rfl (MZ (wpAny_newTuple ?_ (by simpa using hz))))
 refine MZ (Qx (Oi ?_))
 generalize hkS:((s.heap.update a (NH λ_=> #[])).push (seqObj "tuple" vs.toArray 0)).objs.size=kS
 have hks:(((s.heap.update a (NH λ_=> #[])).push (seqObj "tuple" vs.toArray 0)).push (seqObj "list" #[] 0)).get? kS=some (seqObj "list" #[] 0):=by rw [<- hkS]; exact Nl _ rfl
 have kne:∀ c,c<s.heap.objs.size->c≠kS:=λc hc e=>by
  rw [<- hkS,size_push',SK] at e; lia
 have k1:∀ c o,c≠a->s.heap.get? c=some o->(((s.heap.update a (NH λ_=> #[])).push (seqObj "tuple" vs.toArray 0)).push (seqObj "list" #[] 0)).get? c=some o:=λc o hc q=>M9 _ (M9 _ (oth c o hc q))
 have ho6:(((s.heap.update a (NH λ_=> #[])).push (seqObj "tuple" vs.toArray 0)).push (seqObj "list" #[] 0)).get? a=some (seqObj "list" #[] e1):=M9 _ (M9 _ ho1)
 dsimp only
 generalize (((s.heap.update a (NH λ_=> #[])).push (seqObj "tuple" vs.toArray 0)).push (seqObj "list" #[] 0))=h1 at hks k1 ho6 |-
 have hak:a≠kS:=kne a lta
 refine MZ (Ol ?_)
 refine MZ (NQ (wpAny_forIn_array' _ (λrest _ s'=>∃ (dn:List Value) (ks:List Value) (ms:List Int) (hh:Heap) (tk e:Nat),vs=dn++rest/\s'={ s with heap:=hh,toks:=tk }/\IntsAre ks ms/\ks.length=dn.length/\hh.get? kS=some (seqObj "list" ks.toArray e)/\∀ c o,c≠kS->h1.get? c=some o->hh.get? c=some o)
  (λ_ s'=>∃ (ks:List Value) (ms:List Int) (hh:Heap) (tk e:Nat),s'={ s with heap:=hh,toks:=tk }/\IntsAre ks ms/\ks.length=vs.length/\hh.get? kS=some (seqObj "list" ks.toArray e)/\∀ c o,c≠kS->h1.get? c=some o->hh.get? c=some o) ?turn ?fin _ _ ?beg) ?rest λ_ _ e=>e)
 case beg=>exact ⟨[],[],[],h1,_,0,rfl,rfl,.nil,rfl,hks,λ_ _ _ q=>q⟩
 case fin =>
  rintro _ s' ⟨dn,ks,ms,hh,tk,e,e1,e2,e3,e4,e5,e6⟩
  rw [N7] at e1
  exact ⟨ks,ms,hh,tk,e,e2,e3,by rw [e4,e1],e5,e6⟩
 case turn =>
  rintro v rest _ s' ⟨dn,ks,ms,hh,tk,e,ev,rfl,e3,e4,e5,e6⟩
  obtain ⟨l,items,rfl,hla,hli,hsz⟩:=hv v (by rw [ev]; simp)
  obtain ⟨o,q1,q2,q3⟩:=hli
  have hl':hh.IsList l items:=⟨o,e6 l o (kne l (Na q1)) (k1 l o hla q1),q2,q3⟩
  refine MZ (Qa (call_len_list hl' (by have:=nG; lia) ?_))
  dsimp only
  have hkl:ks.length<=sizeLine:=by rw [e4]; have:=congrArg Py ev; simp at this; lia
  refine MZ (Ox e5 rfl ?_ (by simpa using hkl) (by simp; lia))
  refine M3 ⟨dn++[.ref l],ks++[.int items.size (tk+1)],ms++[(items.size:Int)],_,_,e+1,by rw [ev]; simp,rfl,e3.append (.cons _ _ .nil),by simp [e4],?_,λc o hc q=>?_⟩
  ·have:=Rm e5 (λa=>a.push (.int items.size (tk+1)))
   simpa using this
  ·rw [O2 _ _ _ _ hc]; exact e6 c o hc q
 case rest =>
  rintro _ s' ⟨ks,ms,hh,tk,e,rfl,e3,e4,e5,e6⟩
  refine MZ (QC e5 rfl ?_)
  have zl:(ks.toArray.zip vs.toArray).toList=ks.zip vs:=by rw [Array.toList_zip]
  have hoa:=e6 a _ hak ho6
  have pl:∀ {st':SortSt},(arrOf st').toList.Perm (ks.zip vs)->((arrOf st').map (·.2)).toList.Perm vs:=λ{st'} hp=>by
   rw [SN]
   have:=hp.map (·.2)
   rwa [vh e4] at this
  have ho7:(hh.update kS (NH λ_=>(#[]:Array Value))).get? a=some (seqObj "list" #[] e1):=by rw [O2 _ _ _ _ hak]; exact hoa
  have fin:∀ (out:Array Value),out.toList.Perm vs->P (.done (.ret .none)) { s with heap:=(hh.update kS (NH λ_=>(#[]:Array Value))).update a (NH λ_=>out),toks:=tk }:=λout hp =>
   h out _ _ _ hp (Rm ho7 (λ_=>out)) λc o hc q=>by
    have lc:=Na q
    rw [O2 _ _ _ _ hc,O2 _ _ _ _ (kne c lc)]
    exact e6 c o (kne c lc) (k1 c o hc q)
  have hkz:(ks.toArray:Array Value).size<=sizeLine:=by rw [Nq,e4]; exact hz
  have oz:∀ {out:Array Value},out.toList.Perm vs->out.size<=sizeLine+1:=λ{out} hp=>by
   have l:=hp.length_eq
   rw [NT] at l; lia
  by_cases h2:vs.toArray.size<2
  ·rw [if_pos h2,if_pos h2]
   refine MZ (M3 ?_)
   rw [StateT.run_pure]
   refine MZ (M3 ?_)
   dsimp only
   have p0:=pl (st':=Pa general' (ks.toArray.zip vs.toArray) #[] 7 none) (by show (ks.toArray.zip vs.toArray).toList.Perm _; rw [zl])
   refine MZ (Ox e5 rfl ?_ hkz)
   refine MZ (RL ?_)
   refine MZ (Qe ho7 rfl (MZ (Ox ho7 rfl ?_ (hsz2:=oz p0))))
   simp only [bne_self_eq_false,NV,if_false]
   exact M3 (fin _ p0)
  ·rw [if_neg h2,if_neg h2]
   rw [ksk_kind (kz:=ms) e3 (by rw [Nq,e4]; simpa using h2)]
   refine MZ (M3 ?_)
   have hC:iE prog w A { s with heap:=hh,toks:=tk } oneType' intOf (ks.zip vs):=λx hx y hy E Q hQ=>by
    obtain ⟨m,t,ex⟩:=vj e3 hx
    obtain ⟨m',t',ey⟩:=vj e3 hy
    unfold intOf at hQ
    rw [ex,ey] at hQ |-
    rw [keyLt'_oneType]
    exact oneLt_int hQ
   refine MZ (NQ (wpS_sortRuns (κ:=oneType') (rk:=intOf) (L:=ks.zip vs) (st:=Pa oneType' (ks.toArray.zip vs.toArray) #[] 7 none)
    (Q:=λ_ st'=>(arrOf st').toList.Perm (ks.zip vs)/\failedOf st'=none) hC ⟨(by show (ks.toArray.zip vs.toArray).toList.Perm _; rw [zl]),rfl,rfl⟩ rfl λst' a1 a2=>⟨a1.perm,a1.failed⟩) ?_ λ_ _ e=>e)
   rintro ⟨⟨⟩,st'⟩ s' ⟨rfl,hp,hf⟩
   dsimp only
   refine MZ (Ox e5 rfl ?_ hkz)
   refine MZ (RL ?_)
   refine MZ (Qe ho7 rfl (MZ (Ox ho7 rfl ?_ (hsz2:=oz (pl hp)))))
   rw [hf]
   simp only [bne_self_eq_false,NV,if_false]
   exact M3 (fin _ (pl hp))
end SR
namespace EV
open PySem PySem.Spec PySem.Calls PyProof.Rows L2
theorem j3:∀ l:List Int,HT.lexLt l l=false
 | []=>rfl
 | x::l=>by rw [HT.cG,if_pos rfl]; exact j3 l
theorem sQ:∀ {a b c:List Int},HT.lexLt a b=true->HT.lexLt b c=true->HT.lexLt a c=true
 | [],[],_,h,_=>by cases h
 | [],_::_,[],_,h=>by cases h
 | [],_::_,_::_,_,_=>rfl
 | _::_,[],_,h,_=>by cases h
 | _::_,_::_,[],_,h=>by cases h
 | x::a,y::b,z::c,h,g=>by
  rw [HT.cG] at h g |-
  by_cases e:x=y
  ·subst e
   rw [if_pos rfl] at h
   by_cases f:x=z
   ·subst f; rw [if_pos rfl] at g |-; exact sQ h g
   ·rw [if_neg f] at g |-; exact g
  ·rw [if_neg e] at h
   have h:=of_decide_eq_true h
   by_cases f:y=z
   ·subst f; rw [if_neg e]; exact decide_eq_true h
   ·rw [if_neg f] at g
    have g:=of_decide_eq_true g
    rw [if_neg (by lia)]; exact decide_eq_true (by lia)
theorem j4:∀ {a b:List Int},a≠b->HT.lexLt a b=true\/HT.lexLt b a=true
 | [],[],h=>absurd rfl h
 | [],_::_,_=>.inl rfl
 | _::_,[],_=>.inr rfl
 | x::a,y::b,h=>by
  rw [HT.cG,HT.cG]
  by_cases e:x=y
  ·subst e
   rw [if_pos rfl,if_pos rfl]
   exact j4 λz=>h (by rw [z])
  ·rw [if_neg e,if_neg (Nv e)]
   rcases Int.lt_or_gt_of_ne e with z | z
   ·exact .inl (decide_eq_true z)
   ·exact .inr (decide_eq_true z)
noncomputable abbrev aD:=List Int×Int
noncomputable def cO (x y:aD):Bool:=if x.1=y.1 then decide (x.2<y.2) else HT.lexLt x.1 y.1
theorem oh (L:List aD):SR.EY cO L where
 irr:=λx _=>by unfold cO; rw [if_pos rfl]; exact decide_eq_false (Int.lt_irrefl _)
 tr:=λx _ y _ z _ h g=>by
  unfold cO at *
  by_cases e:x.1=y.1
  ·rw [if_pos e] at h
   by_cases f:y.1=z.1
   ·rw [if_pos f] at g; rw [if_pos (e.trans f)]
    exact decide_eq_true (Int.lt_trans (of_decide_eq_true h) (of_decide_eq_true g))
   ·rw [if_neg f] at g; rw [if_neg (λw=>f (e.symm.trans w)),e]; exact g
  ·rw [if_neg e] at h
   by_cases f:y.1=z.1
   ·rw [if_neg (λw=>e (w.trans f.symm)),<- f]; exact h
   ·rw [if_neg f] at g
    have q:=sQ h g
    rw [if_neg λw=>by rw [w,j3] at q; cases q]; exact q
 tot:=λx _ y _ h=>by
  unfold cO
  by_cases e:x.1=y.1
  ·rw [if_pos e,if_pos e.symm]
   have:x.2≠y.2:=λz=>h (Prod.ext e z)
   rcases Int.lt_or_gt_of_ne this with z | z
   ·exact .inl (decide_eq_true z)
   ·exact .inr (decide_eq_true z)
  ·rw [if_neg e,if_neg (Nv e)]
   exact j4 e
noncomputable abbrev aS (t:aD):D:=.tup [.tup (t.1.map .int),.int t.2]
section
variable {X:Cx}
def jO (K:M0) (Hf:Hp) (d:D) (u:Value):Prop:=∃ v,RelV v u/\Rep K Hf d v
theorem Aa (l m:List Int):lJ 1 (.tup (l.map .int)) (.tup (m.map .int)):=.tup λi d e h1 h2=>by
 simp only [Nd,Nk] at h1 h2
 obtain ⟨x,_,rfl⟩:=h1
 obtain ⟨y,_,rfl⟩:=h2
 exact .sc rfl
theorem iV:∀ {l:List Int} {ys:List V},av X.K Hf (l.map D.int) ys->ys=l.map V.int
 | [],ys,h=>aC.mp h
 | n::l,ys,h=>by
  obtain ⟨y,r,rfl,z1,z2⟩:=aF.mp h
  rw [aA] at z1; subst z1
  rw [iV z2]; rfl
theorem ir:∀ (l:List α) (r:List β) {Q:List β->Shared->Prop},Paired (λa b=>∀ (Q:β->Shared->Prop),Q b s->wpAny M A (f a) Q E s) l r->Q r s->wpAny M A (l.mapM f) Q E s
 | _,_,Q,.nil,h=>by rw [List.mapM_nil]; exact M3 h
 | _,_,Q,.cons q t,h=>by
  rw [List.mapM_cons]
  exact MZ (q _ (MZ (ir _ _ t (M3 h))))
end
noncomputable abbrev Dd (X:Cx) (A:Around):Cx:={ X with A:=A }
theorem JR (ok:X.Ok) (h1:X.calm=true->A.handled=none) (h2:A.frames=some X.stack):(Dd X A).Ok :=
 ⟨ok.mod,ok.kind,ok.glob,ok.blt,ok.above,ok.inj,ok.has,ok.cab,h1,h2,ok.stk,ok.exf,ok.bs,ok.bsz,ok.noex,ok.exfs,ok.jc,ok.frf⟩
theorem jo (I:Inv X aa σ H s) (h1:X.calm=true->A.handled=none) (h2:A.frames=some X.stack):Inv (Dd X A) aa σ H s :=
 ⟨JR I.ok h1 h2,I.os,I.bare,I.base,I.loc,I.cell,I.free,I.freeC,I.pin,I.hok,I.len⟩
theorem gp (ok:X.Ok) (I:Inv (Dd X A) aa σ H s):Inv X aa σ H s :=
 ⟨ok,I.os,I.bare,I.base,I.loc,I.cell,I.free,I.freeC,I.pin,I.hok,I.len⟩
theorem De {fp:List Addr} (h:∀ b∈fp,fk X aa H b) (n:∀ b∈fp,H' b=none):∀ b∈fp,fk X aa H' b:=λb hb=>⟨n b hb,(h b hb).2⟩
theorem Ab (hc:X.calm=true) (Tn:Turn X.prog X.w X.K (.Name nm np) J fp it tn) (io:ji X.K J ds BV)
 (hS0:Hb S=none) (hSf:S∉fp) (hn:ds.length<=sizeLine) (okX:X.Ok) (h1:X.A.in1.handled=none) (h2:X.A.in1.frames=some X.stack)
 (fin:∀ (s':Shared) (H' ak:Hp) (xs:List V),Inv X aa σ H' s'->H' S=some (.lst xs)->ak S=none->av X.K ak ds xs->bw Hb BV H' ak->R (.ok (.ret res)) s') :
 ∀ (k i:Nat) (s:Shared) (H Hf:Hp) (xs:List V),ds.length - i=k->i<=ds.length->Inv X aa σ H s->tn i s.heap->(∀ b∈fp,fk X aa H b)->H S=some (.lst xs)->Hf S=none->av X.K Hf (ds.take i) xs->bw Hb BV H Hf ->
  codeAny (model X.prog X.w) X.A (.builtin "list.extend.loop" ⟨[.ref S,.ref it,res],[]⟩) R s:=by
 intro k
 induction k with
 | zero =>
  intro i s H Hf xs hk hi I t hf hS hfS hr g
  have e:i=ds.length:=by omega
  subst e
  rw [NW] at hr
  refine Rn PySem.F.entry_extend_loop ?_
  rw [Q6 QM _]
  show wpAny _ X.A.in1 (pyNext (.ref it) >>= _) _ _ s
  refine MZ (NQ (Tn.done (Dd X X.A.in1) rfl rfl rfl hc _ aa s σ H _ (jo I (λ_=>h1) h2) hf t (io.stop _ H Hf g.f g.b (M4 _))) (λr s' ⟨e,I'⟩=>?_) λ_ _ x=>x)
  subst e
  exact M3 (fin s' H Hf xs (gp okX I') hS hfS hr g)
 | succ k ih =>
  intro i s H Hf xs hk hi I t hf hS hfS hr g
  have lt:i<ds.length:=by omega
  have ed:ds[i]?=some ds[i]:=Nr lt
  obtain ⟨hgo,hy⟩:=io.go i ds[i] H Hf g.f g.b ed
  refine Rn PySem.F.entry_extend_loop ?_
  rw [Q6 QM _]
  show wpAny _ X.A.in1 (pyNext (.ref it) >>= _) _ _ s
  refine MZ (NQ (Tn.item (Dd X X.A.in1) rfl rfl rfl hc i aa s σ H _ (jo I (λ_=>h1) h2) hf t hgo) (λr s1 ⟨u,e,hu⟩=>?_) λ_ _ x=>x)
  subst e
  show wpAny _ X.A.in1 (letOwnedTupleGo (.Name nm np) (.ref it) u >>= λ_=>(O0 (.ref S) (·.push u) >>= λ_=>again (.builtin "list.extend.loop" ⟨[.ref S,.ref it,res],[]⟩))) _ _ s1
  refine MZ (NQ hu (λ_ s2 ⟨x,H',I2,rx,y,t2,n2⟩=>?_) λ_ _ x=>x)
  have I2:=gp okX I2
  obtain ⟨ak,g',rd⟩:=hy x H' y
  have hS':H' S=some (.lst xs):=g'.s _ _ hS
  have hfS':ak S=none:=g'.n S hfS (by rw [hS]; simp) (by intro ys; rw [hS]; simp)
  obtain ⟨z,its,n,rv,el,eo⟩:=I2.pK hS'
  have hx:xs.length=i:=by rw [<- hr.length,N2]; omega
  have hz:(xs++[x]).length<=sizeLine:=by simp only [NJ,NN,OH]; omega
  refine MZ (Ox eo rfl ?_ (by simp; omega) (by simp; omega))
  have ef:(λa:Array Value=>a.push u) its.toArray=(its++[u]).toArray:=by simp
  have I3:=I2.su (f:=λa=>a.push u) (t':=s2.toks) hS' eo ef (rv.append (.cons rx .nil)) hz
  refine M3 ⟨plainId_quiet QM _,ih (i+1) _ (upd H' S (.lst (xs++[x]))) ak (xs++[x]) (by omega) lt I3 (Tn.keep _ _ _ t2 λb hb o e=>?_) (De hf λb hb=>?_) ai hfS' ?_ (uO (g.trans g') hS0 hfS')⟩
  ·exact (QW _ _ (λw:S=b=>hSf (w ▸ hb))).trans e
  ·rw [aq (λw:b=S=>hSf (w ▸ hb))]; exact n2 b hb
  ·rw [Sz,ed]
   exact (hr.mono g'.f).append (av.one rd)
theorem wY (hT:s.TypeIs (.ref v) "dict_items") (hQ:Q false s):wpAny (model prog w) A (PM (.ref v)) Q E s:=by
 unfold PM
 refine MZ (wpAny_specialOf hT PySem.F.slot_dict_items_len.lookup ?_)
 have e:splitId "dict_items.__len__"=some ("dict_items","__len__"):=by decide +kernel
 dsimp only
 rw [e]
 dsimp only
 refine MZ (Rh (b:=true) hT (by rw [isSubtype_type]; kernel_rfl) ?_)
 rw [if_neg (by decide)]
 exact MZ (O7 hT (M3 hQ))
theorem Df (I:Inv X aa σ H s) (hv:s.heap.IsItemsView v d) (hH:H d=some (.frz o u)) (hd:HO.dct u) :
 wpAny (model X.prog X.w) A (pyIter (.ref v)) (λitv s2=>∃ (it:Addr) (es:Array DictEntry) (ep:Nat),itv=.ref it/\s.heap.objs.size<=it/\Inv X aa σ H s2/\Turn X.prog X.w X.K tg (LR d o u) [it] it (λi h=>zK h it d i es.size ep)/\zK s2.heap it d 0 es.size ep/\(∀ b∈[it],fk X aa H b) /\
  (∀ b o,s.heap.get? b=some o->s2.heap.get? b=some o)) E s:=by
 obtain ⟨ho,ok⟩:=(show bq X.prog X.w H s.heap d (.frz o u) from I.hok d _ hH)
 obtain ⟨hx,es,ep,hod,hp,hs,hz⟩:=cI ok hd ho
 refine wM hv ho hod ?_
 have hsz:es.size=(bM u).length:=by rw [Oj hp]; simp
 refine ⟨_,es,ep,rfl,M4 _,I.kept (t':=s.toks) λb o e=>M9 _ e,sJ (o:=o) (u:=u) (es:=es) (ep:=ep) hd hod (λz=>?_) hsz,⟨.none,false,.none,.none,Nl _ rfl,.inl rfl⟩,λb hb=>?_,λb o e=>M9 _ e⟩
 ·have lt:=Na ho
  rw [<- z] at lt
  exact absurd lt (OC _)
 ·have e:b=s.heap.objs.size:=by simpa using hb
  subst e
  exact I.lN (M4 _) (I.hok.fresh (M4 _))
theorem m5 (hc:X.calm=true) (h1:X.A.in1.handled=none) (h2:X.A.in1.frames=some X.stack) (I1:Inv X aa σ (upd H S (.lst [])) s) (sb:aN Hf H) (HS:H S=none) (hvS:S≠src) (hltS:S<s.heap.objs.size) (hn:ds.length<=sizeLine)
 (hT:(false || Of T == Of "list" || Of T == Of "tuple")=false) (ty:∀ s':Shared,(∀ b o,s.heap.get? b=some o->s'.heap.get? b=some o)->s'.TypeIs (.ref src) T)
 (hint:∀ (A:Around) (s':Shared) (Q:Bool->Shared->Prop) (E:Value->Shared->Prop),s'.TypeIs (.ref src) T->Q false s'->wpAny (model X.prog X.w) A (PM (.ref src)) Q E s')
 (iter:wpAny (model X.prog X.w) X.A.in1 (pyIter (.ref src)) (λitv s2=>∃ (it:Addr) (tn:Nat->Heap->Prop) (J:It),itv=.ref it /\
   s.heap.objs.size<=it/\Inv X aa σ (upd H S (.lst [])) s2/\Turn X.prog X.w X.K (.Name "x" ⟨0,0,0,0⟩) J [it] it tn/\tn 0 s2.heap/\(∀ b∈[it],fk X aa (upd H S (.lst [])) b)/\(∀ b o,s.heap.get? b=some o->s2.heap.get? b=some o)/\ji X.K J ds Hf) E s)
 (hR:∀ (s':Shared) (H' ak:Hp) (xs:List V),Inv X aa σ H' s'->H' S=some (.lst xs)->ak S=none->av X.K ak ds xs->bw H Hf H' ak->R (.ok (.ret res)) s') :
 wpAny (model X.prog X.w) X.A.in1 (QK (.ref S) (.ref src) res) (λfin s'=>match fin with | .done f=>R (.ok f) s' | .again c=>c.quiet=true/\codeAny (model X.prog X.w) X.A c R s') E s:=by
 unfold QK
 have ne:Builtin.List.listSameRef (.ref S) (.ref src)=false:=by simp [Builtin.List.listSameRef,hvS]
 refine MZ (O7 (ty s λ_ _ e=>e) ?_)
 rw [if_neg (by rw [ne,hT]; decide)]
 refine MZ (NQ iter (λitv s2 hh=>z3 hh λit tn J hh=>w8 hh λe hit I2 Tn t0 hf k2 io=>?_) λ_ _ x=>x)
 subst e
 refine MZ (Oi (hint _ s2 _ _ (ty s2 k2) ?_))
 have hSne:it≠S:=Qd (NU hltS hit)
 have g0:bw H Hf (upd H S (.lst [])) Hf:=bw.f7 sb HS
 have fin:∀ s3:Shared,Inv X aa σ (upd H S (.lst [])) s3->tn 0 s3.heap->wpAny (model X.prog X.w) X.A.in1 (again (.builtin "list.extend.loop" ⟨[.ref S,.ref it,res],[]⟩)) (λfin s'=>match fin with | .done f=>R (.ok f) s' | .again c=>c.quiet=true/\codeAny (model X.prog X.w) X.A c R s') E s3:=λs3 I3 t3 =>
  M3 ⟨plainId_quiet QM _,Ab (X:=X) (Hb:=H) (BV:=Hf) hc Tn io HS (λm=>hSne (Nj.mp m).symm) hn I1.ok h1 h2 hR ds.length 0 s3 _ Hf [] (by simp) (ND _) I3 t3 hf ai (sb.free HS) (aC.mpr rfl) g0⟩
 obtain ⟨_,its,n,rv,el,eo⟩:=I2.pK (l:=S) (xs:=[]) ai
 cases rv
 split
 ·refine MZ (Ol ?_)
  unfold Builtin.List.listTouch
  refine MZ (MZ (Ox eo rfl ?_))
  have I3:=I2.su (f:=λa=>a.push .none) (its':=[.none]) (ys:=[.non]) (t':=s2.toks) ai eo (by simp) (.cons rfl .nil) (by show 1<=sizeLine; decide)
  obtain ⟨_,its3,n3,rv3,el3,eo3⟩:=I3.pK (l:=S) (xs:=[.non]) ai
  cases rv3 with
  | cons r3 t3 =>
   cases t3
   cases r3
   refine Ox eo3 rfl ?_
   have I4:=I3.su (f:=λa=>a.pop) (its':=[]) (ys:=[]) (t':=s2.toks) ai eo3 (by simp) .nil (ND _)
   rw [ny,ny] at I4
   refine fin _ I4 (Tn.keep 0 _ _ t0 λb hb o e=>?_)
   have hbS:S≠b:=λw=>hSne (by rw [Nj.mp hb] at w; exact w.symm)
   exact (QW _ _ hbS).trans ((QW _ _ hbS).trans e)
 ·exact fin s2 I2 t0
theorem kW (hc:X.calm=true) (h1:X.A.in1.handled=none) (h2:X.A.in1.frames=some X.stack) (I:Inv X aa σ H s) (sb:aN Hf H) (hlt:src<s.heap.objs.size) (hn:ds.length<=sizeLine) (hT:(false || Of T == Of "list" || Of T == Of "tuple")=false)
 (ty:∀ s':Shared,(∀ b o,s.heap.get? b=some o->s'.heap.get? b=some o)->s'.TypeIs (.ref src) T)
 (hint:∀ (A:Around) (s':Shared) (Q:Bool->Shared->Prop) (E:Value->Shared->Prop),s'.TypeIs (.ref src) T->Q false s'->wpAny (model X.prog X.w) A (PM (.ref src)) Q E s')
 (iter:∀ (A:Around) (s1:Shared) (H1:Hp) (E:Value->Shared->Prop),Inv X aa σ H1 s1->aN Hf H1->(∀ b o,s.heap.get? b=some o->s1.heap.get? b=some o)->wpAny (model X.prog X.w) A (pyIter (.ref src)) (λitv s2=>∃ (it:Addr) (tn:Nat->Heap->Prop) (J:It),itv=.ref it /\
   s1.heap.objs.size<=it/\Inv X aa σ H1 s2/\Turn X.prog X.w X.K (.Name "x" ⟨0,0,0,0⟩) J [it] it tn/\tn 0 s2.heap/\(∀ b∈[it],fk X aa H1 b)/\(∀ b o,s1.heap.get? b=some o->s2.heap.get? b=some o)/\ji X.K J ds Hf) E s1)
 (hQ:∀ (us:List Value) (s':Shared) (H' ak:Hp) (xs:List V),Inv X aa σ H' s'->Vals xs us->av X.K ak ds xs->bw H Hf H' ak->ds.length<=sizeLine->Q us s'):wpAny (model X.prog X.w) X.A (collect (.ref src)) Q E s:=by
 unfold collect
 refine MZ (wpAny_runValue (Rn PySem.F.entry_proto_collect ?_))
 rw [Q6 PySem.F.plain_proto_collect _]
 show wpAny _ X.A.in1 (newList [] >>= λl=>again (.builtin "list.__iadd__" ⟨[l,.ref src],[]⟩)) _ _ s
 have HS:H s.heap.objs.size=none:=I.hok.fresh (M4 _)
 have hvS:s.heap.objs.size≠src:=Qd hlt
 refine MZ (N5 (M3 ⟨plainId_quiet PySem.F.plain_list_iadd _,Rn PySem.F.entry_list_iadd ?_⟩))
 rw [Q6 PySem.F.plain_list_iadd _]
 generalize hS:s.heap.objs.size=S at *
 have I1:Inv X aa σ (upd H S (.lst [])) { s with heap:=s.heap.push { cls:=.type "list",data:=.seq ([]:List Value).toArray },toks:=s.toks }:=by
  have:=I.Cf (t':=s.toks) (ys:=[]) (its:=[]) .nil (ND _)
  rw [hS] at this
  exact this
 show wpAny _ X.A.in1 (QK (.ref S) (.ref src) (.ref S)) _ _ { s with heap:=s.heap.push { cls:=.type "list",data:=.seq ([]:List Value).toArray } }
 have k1:∀ b o,s.heap.get? b=some o->(s.heap.push { cls:=.type "list",data:=.seq ([]:List Value).toArray }).get? b=some o:=λb o e=>M9 _ e
 generalize hs1:({ s with heap:=s.heap.push { cls:=.type "list",data:=.seq ([]:List Value).toArray } }:Shared)=s1
 replace I1:Inv X aa σ (upd H S (.lst [])) s1:=by rw [<- hs1]; exact I1
 replace k1:∀ b o,s.heap.get? b=some o->s1.heap.get? b=some o:=by rw [<- hs1]; exact k1
 have hltS:S<s1.heap.objs.size:=by rw [<- hs1,<- hS]; show _<(Heap.push _ _).objs.size; rw [O6]; exact Po _
 refine m5 (R:=λr s'=>match r with
  | .ok (.ret v)=>wpAny (model X.prog X.w) X.A (do
   let .ref a:=v | unsupported "internal:collect"
   let o <- load a
   match o.data with
   | .seq xs _=>pure xs.toList
   | _=>unsupported "internal:collect") Q E s'
  | .ok _=>False
  | .error e=>E e s') hc h1 h2 I1 sb HS hvS hltS hn hT (λs' k=>ty s' λb o e=>k b o (k1 b o e)) hint (iter _ s1 _ _ I1 (bw.f7 sb HS (o:=.lst [])).b k1) λs' H' ak xs I' hS' _ hr g=>?_
 obtain ⟨_,its,n,rv,el,eo⟩:=I'.pK hS'
 exact MZ (wpAny_load eo (M3 (hQ its s' H' ak xs I' rv hr g hn)))
noncomputable def GN (te:TE):TE:=λσ H Q=>te σ H λx H1=>∃ d o u,x=.ref d/\H1 d=some (.frz o u)/\HO.dct u/\∀ v,H1 v=none->Q (.ref v) (upd H1 v (.ext λh=>h.IsItemsView v d))
theorem Ac (he:PE X e te) (hbase:attributeBase e "items" X.env (eval e X.env)=eval e X.env) (hline:(ap.endLine == cp.line)=true):PE X (.Call (.Attribute e "items" ap) [] [] cp) (GN te):=by
 intro aa s σ H Q I h
 refine wpAny_Call_method (T:="dict") (id:="dict.items") hbase rfl hline F.plainAttrs_dict F.slot_dict_items F.type_dict_items (bJ (he aa s σ H _ I h) λv s1 ⟨x,H1,I1,r1,d,o,u,ex,hH,hd,q⟩=>?_)
 subst ex
 cases r1
 obtain ⟨ho,ok⟩:=(show bq X.prog X.w H1 s1.heap d (.frz o u) from I1.hok d _ hH)
 obtain ⟨hx,es,ep,hod,hp,hs,hz⟩:=cI ok hd ho
 have hT:s1.TypeIs (.ref d) "dict":=⟨o,ho,hx.1⟩
 refine ⟨hT,λb z=>by cases z; exact ⟨o,ho,hx.2.1⟩,?_⟩
 show wpAny _ _ (callWith cp (.builtin "dict.items") [.ref d] [] []) _ _ s1
 refine method_meetsIn F.slot_dict_items F.entry_dict_items rfl (PySem.evalArgs_none ⟨rfl,hT,F.args_dict_items_1 _,_,qw d hs,hT,?_⟩)
 have Hv:H1 s1.heap.objs.size=none:=I1.hok.fresh (M4 _)
 have hve:(s1.heap.push { cls:=.type "dict_items",data:=.fields #[.ref d] }).IsItemsView s1.heap.objs.size d:=⟨_,Nl _ rfl,rfl,rfl⟩
 have I2:Inv X aa σ (upd H1 s1.heap.objs.size (.ext λh=>h.IsItemsView s1.heap.objs.size d)) { s1 with heap:=s1.heap.push { cls:=.type "dict_items",data:=.fields #[.ref d] },toks:=s1.toks } :=
  I1.laid (a:=s1.heap.objs.size) (λ_ _ q=>M9 _ q) (M4 _) ⟨hve,⟨_,Nl _ rfl⟩,λh1 h2 ⟨o,e,r⟩ k=>⟨o,k o e,r⟩⟩
 exact ⟨.ref s1.heap.objs.size,_,I2,rfl,q _ Hv⟩
section
variable {X:Cx} {aa:List (Addr×Obj)} {σ:L2.St} {H Hf:Hp} {s:Shared} {E:Value->Shared->Prop} {α:Type} {enc:α->D} {lt:α->α->Bool} {κ:SortKind}
theorem kX {K:M0}:∀ {L:List α} {xs:List V} {us:List Value},av K Hf (L.map enc) xs->Vals xs us->Paired (λx u=>jO K Hf (enc x) u) L us
 | [],xs,us,h,v=>by rw [OW,aC] at h; subst h; cases v; exact .nil
 | t::L,xs,us,h,v=>by
  rw [M7] at h
  obtain ⟨x,r,rfl,h1,h2⟩:=aF.mp h
  cases v with
  | cons r1 r2=>exact .cons ⟨x,r1,h1⟩ (kX h2 r2)
theorem kY {K:M0}:∀ {L:List α} {us:List Value},Paired (λx u=>jO K Hf (enc x) u) L us->∃ xs,av K Hf (L.map enc) xs/\Vals xs us
 | _,_,.nil=>⟨[],aC.mpr rfl,.nil⟩
 | _,_,.cons ⟨x,r1,h1⟩ t=>by
  obtain ⟨xs,h2,h3⟩:=kY t
  exact ⟨x::xs,.cons h1 h2,.cons r1 h3⟩
structure JS (X:Cx) (enc:α->D) (lt:α->α->Bool) (κ:SortKind):Prop where
 lin:∀ L:List α,SR.EY lt L
 inj:∀ (aa:List (Addr×Obj)) (σ:L2.St) (H Hf:Hp) (s:Shared),Inv X aa σ H s->aN Hf H->∀ x y u,jO X.K Hf (enc x) u->jO X.K Hf (enc y) u->x=y
 kind:∀ (aa:List (Addr×Obj)) (σ:L2.St) (H Hf:Hp) (s:Shared) (A:Around) (E:Value->Shared->Prop),Inv X aa σ H s->aN Hf H->∀ (L:List α) (us:List Value),Paired (λx u=>jO X.K Hf (enc x) u) L us->2<=us.length->∀ Q:SortKind->Shared->Prop,Q κ s->wpAny (model X.prog X.w) A (keyKind' us.toArray) Q E s
 cmp:∀ (aa:List (Addr×Obj)) (σ:L2.St) (H Hf:Hp) (s:Shared) (A:Around) (E:Value->Shared->Prop),Inv X aa σ H s->aN Hf H->A.units+10<cLine->∀ (x y:α) (u v:Value),jO X.K Hf (enc x) u->jO X.K Hf (enc y) v->∀ Q:Bool->Shared->Prop,Q (lt x y) s->wpAny (model X.prog X.w) A (keyLt' κ u v) Q E s
def fN (lt:α->α->Bool) (b:Bool) (L:List α):Prop:=L.Pairwise λx y=>if b then lt y x=true else lt x y=true
abbrev iW (b:Bool) (L:List aD):Prop:=fN cO b L
theorem Ad {Q:Value->Shared->Prop} (hs:JS X enc lt κ) (I:Inv X aa σ H s) (sb:aN Hf H) (hA:A.units+20<cLine) (hr:av X.K Hf (L.map enc) xs) (hv:Vals xs us) (hz:us.length<=sizeLine) (nd:L.Nodup)
 (hQ:∀ (L':List α) (xs':List V) (s':Shared),L'.Perm L->fN lt b L'->av X.K Hf (L'.map enc) xs'->xs'.length<=sizeLine->Inv X aa σ (upd H s.heap.objs.size (.lst xs')) s'->Q (.ref s.heap.objs.size) s') :
 wpAny (model X.prog X.w) A (newList us >>= λl=>(holding [l] (call (.builtin "list.sort") [l] [(MY "reverse",.bool b)]) >>= λ_=>ret l)) (λfin s'=>∃ v,fin=.done (.ret v)/\Q v s') E s:=by
 refine MZ (Qx ?_ hz)
 have ha:(s.heap.push (seqObj "list" us.toArray 0)).get? s.heap.objs.size=some (seqObj "list" us.toArray 0):=Nl _ rfl
 have I1:Inv X aa σ H { s with heap:=s.heap.push (seqObj "list" us.toArray 0),toks:=s.toks }:=I.kept λb o e=>M9 _ e
 have Ha:H s.heap.objs.size=none:=I.hok.fresh (M4 _)
 obtain ⟨f0,f1,f2,f3,f4,f5⟩:=I.lN (H':=H) (M4 _) Ha
 have pL:=kX hr hv
 refine MZ (Oi (Se slot_list_sort ⟨_,ha,rfl⟩ entry_list_sort (SR.mZ (κ:=κ) (rk:=SR.wX (λx u=>jO X.K Hf (enc x) u) lt L) (b:=b) ha ?_ hz λout hp ho=>⟨_,rfl,?_⟩) (args_list_sort_rev _ _)))
 ·intro h' k
  have I2:=I1.turned (h':=h') (t':=s.toks) (it:=s.heap.objs.size) (λb o hb e=>k b o hb e) f0 f1 f3 f4 f5
  refine ⟨λQ E h2 hQ=>hs.kind _ _ _ _ _ _ _ I2 sb _ _ pL h2 _ hQ,SR.zY (λx y u h1 h2=>hs.inj _ _ _ _ _ I2 sb x y u h1 h2) (hs.lin L) pL λx _ y _ u v hx hy E Q hQ=>hs.cmp _ _ _ _ _ _ _ I2 sb ?_ _ _ _ _ hx hy _ hQ⟩
  show A.units+1+10<cLine
  lia
 ·obtain ⟨L',p1,p2,p3⟩:=SR.qL (S:=λx u=>jO X.K Hf (enc x) u) (λx y u h1 h2=>hs.inj _ _ _ _ _ I sb x y u h1 h2) (hs.lin L) nd pL hp ho
  obtain ⟨xs',r',v'⟩:=kY p3
  obtain ⟨e,he⟩:=sortedHeap_at (vs:=us) (out:=out) ha
  have hl:out.toList.length=us.length:=hp.length_eq
  refine M3 ⟨_,rfl,hQ L' xs' _ p1 p2 r' ?_ ?_⟩
  ·have:=v'.length; lia
  ·refine I.laid (t':=s.toks) (λb o q=>?_) (M4 _) ⟨by have:=v'.length; lia,out.toList,e,v',by simpa using he⟩
   have lt:=Na q
   rw [sortedHeap_old (NB lt) (by rw [size_push']; exact Rb lt)]
   exact M9 _ q
end
section
variable {K:M0}
end
section
variable {K:M0}
end
end EV
namespace EV
open PySem PySem.Spec PyProof.Rows L2
noncomputable def trim (l:List Int):List Int:=(l.reverse.dropWhile λx=>x == 0).reverse
theorem gK (l):trim (l++[0])=trim l:=by simp [trim]
theorem m6 (l) (h:x≠0):trim (l++[x])=l++[x]:=by simp [trim,List.dropWhile_cons,h]
theorem jq {l:List Int} (h:m<l.length):l.take (m+1)=l.take m++[l.getD m 0]:=by
 rw [N3 h]; simp [Oa,h]
theorem m7 (h:m<l.length) (z:l.getD m 0=0) (e:trim (l.take (m+1))=trim l):trim (l.take m)=trim l:=by
 rw [jq h,z,gK] at e; exact e
theorem jr (h:m<l.length) (z:l.getD m 0≠0) (e:trim (l.take (m+1))=trim l):l.take (m+1)=trim l:=by
 rw [<- e,jq h,m6 _ z]
theorem gq (l):(trim l).length<=l.length:=by
 unfold trim
 rw [Si]
 exact Nb (List.dropWhile_sublist _).length_le (by simp)
theorem cA (l):trim (trim l)=trim l:=by
 unfold trim
 rw [List.reverse_reverse]
 congr 1
 generalize l.reverse=r
 induction r with
 | nil=>rfl
 | cons x r ih=>by_cases h:x == 0 <;> simp [List.dropWhile_cons,h,ih]
theorem Ae (l:List α) (h:m<=l.length):EV.cutD l none (some (m:Int))=l.take m:=by
 unfold EV.cutD HT.ck
 have e:¬ (m:Int)<0:=by lia
 simp only [e,if_false,N6]
 simp [Pr h]
section
variable {K:M0}
end
noncomputable def encA (A:List aD):List (List Key×D):=A.map λt=>(t.1.map Np,.int t.2)
theorem oi:∀ {l m:List Int},(l.map (Np:Int->Key))=m.map Np->l=m
 | [],[],_=>rfl
 | x::l,y::m,h=>by
  simp only [M7,List.cons.injEq,Np.injEq] at h
  rw [h.1,oi h.2]
 | [],_::_,h=>by simp at h
 | _::_,[],h=>by simp at h
theorem oj (A) (l):bx (encA A) (l.map Np)=(bx A l).map D.int:=by
 induction A with
 | nil=>rfl
 | cons t A ih =>
  by_cases e:t.1=l
  ·rw [bf e]
   show bx ((t.1.map Np,D.int t.2)::encA A) _=_
   rw [bf (by rw [e])]; rfl
  ·rw [aV e,<- ih]
   show bx ((t.1.map Np,D.int t.2)::encA A) _=_
   rw [aV λz=>e (oi z)]
theorem Dg (A) (l) (n):putD (encA A) (l.map Np) (.int n)=encA (putD A l n):=by
 unfold putD
 rw [oj]
 by_cases h:(bx A l).isSome=true
 ·rw [if_pos h,if_pos (by rw [Pk]; exact h)]
  unfold encA
  rw [Nt,Nt]
  refine ON λt _=>?_
  simp only [RC]
  by_cases e:t.1=l
  ·rw [if_pos e,if_pos (by rw [e])]
  ·rw [if_neg e,if_neg λz=>e (oi z)]
 ·rw [if_neg h,if_neg (by rw [Pk]; exact h)]
  unfold encA
  simp
theorem fD:∀ l:List Int,D.keys (l.map D.int)=some (l.map Np)
 | []=>rfl
 | x::l=>by
  simp only [M7]
  unfold D.keys
  rw [fD l]; rfl
theorem Dh (A:List aD) (l:List Int) (n:Int):(putD A l n).length<=A.length+1:=by
 unfold putD; split <;> simp
theorem Di (A):(encA A).length=A.length:=by simp [encA]
theorem qM (l:List Int) (n:Int) (h:(A.map (·.1)).Nodup):((putD A l n).map (·.1)).Nodup:=by
 unfold putD
 split
 ·rw [Nt]
  have e:(A.map ((·.1)∘λkv:aD=>if kv.1=l then (kv.1,n) else kv))=A.map (·.1):=ON λt _=>by
   simp only [RC]; split <;> rfl
  rw [e]; exact h
 ·rename_i q
  rw [Ob,List.nodup_append]
  refine ⟨h,by simp,?_⟩
  intro a ha b hb
  simp at hb
  subst hb
  intro z
  subst z
  apply q
  obtain ⟨t,ht,e⟩:=N1.mp ha
  unfold bx
  rw [Pk,List.find?_isSome]
  exact ⟨t,ht,decide_eq_true e⟩
theorem keys_nodup {A:List aD} (h:(A.map (·.1)).Nodup):A.Nodup:=by
 unfold QG at *
 rw [OQ] at h
 exact h.imp λq z=>q (by rw [z])
noncomputable def fO (A:List aD) (t:aD):List aD:=putD A (trim t.1) ((bx A (trim t.1)).getD 0+t.2)
noncomputable def aJ (ts:List aD):List aD:=ts.foldl fO []
theorem qN (ts) (t):aJ (ts++[t])=fO (aJ ts) t:=by simp [aJ]
theorem om (ts:List aD) (A):(ts.foldl fO A).length<=A.length+ts.length:=by
 induction ts generalizing A with
 | nil=>simp
 | cons t ts ih =>
  have h1:=ih (fO A t)
  have h2:=Dh A (trim t.1) ((bx A (trim t.1)).getD 0+t.2)
  simp only [Ou,NN]
  unfold fO at *
  lia
theorem gM (ts):(aJ ts).length<=ts.length:=by
 have:=om ts []
 simpa [aJ] using this
theorem eB (ts):((aJ ts).map (·.1)).Nodup:=by
 unfold aJ
 have:∀ A:List aD,(A.map (·.1)).Nodup->((ts.foldl fO A).map (·.1)).Nodup:=by
  induction ts with
  | nil=>exact λA h=>h
  | cons t ts ih=>exact λA h=>ih _ (qM _ _ h)
 exact this [] (by simp)
theorem Dj (x):cO x x=false:=(oh [x]).irr x (by simp)
theorem Af (h:cO x y=true) (g:cO y z=true):cO x z=true:=(oh [x,y,z]).tr x (by simp) y (by simp) z (by simp) h g
theorem kZ:∀ {L M:List aD},L.Perm M->iW true L->iW true M->L=M
 | [],M,h,_,_=>by rw [List.nil_perm] at h; exact h.symm
 | x::L,[],h,_,_=>by simp at h
 | x::L,y::M,h,h1,h2=>by
  unfold iW fN at h1 h2
  rw [P4] at h1 h2
  by_cases e:x=y
  ·subst e
   rw [kZ ((List.perm_cons _).mp h) h1.2 h2.2]
  ·exfalso
   have hx:x∈M:=by
    have:=h.subset (Ng)
    rcases Nm.mp this with z | z
    ·exact absurd z e
    ·exact z
   have hy:y∈L:=by
    have:=h.symm.subset (Ng)
    rcases Nm.mp this with z | z
    ·exact absurd z.symm e
    ·exact z
   have a:=h1.1 y hy
   have b:=h2.1 x hx
   simp only [if_true] at a b
   have:=Af a b
   rw [Dj] at this; cases this
noncomputable def wZ (t:aD):List aD->List aD
 | []=>[t]
 | x::r=>if cO x t=true then t::x::r else x::wZ t r
noncomputable def fE (L:List aD):List aD:=L.foldr wZ []
theorem k6 (t):∀ L:List aD,(wZ t L).Perm (t::L)
 | []=>.refl _
 | x::r=>by
  unfold wZ
  split
  ·exact .refl _
  ·exact ((k6 t r).cons x).trans (.swap _ _ _)
theorem bB:∀ L:List aD,(fE L).Perm L
 | []=>.refl _
 | t::L=>(k6 t (fE L)).trans ((bB L).cons t)
theorem Dk (h:x≠y):cO x y=true\/cO y x=true:=(oh [x,y]).tot x (by simp) y (by simp) h
theorem vm (t):∀ L:List aD,t∉L->iW true L->iW true (wZ t L)
 | [],_,_=>PV _ _
 | x::r,hn,h=>by
  have h':=h
  unfold iW fN at h'
  rw [P4] at h'
  unfold wZ
  by_cases e:cO x t=true
  ·rw [if_pos e]
   unfold iW fN
   rw [P4]
   refine ⟨λy hy=>?_,h⟩
   simp only [if_true]
   rcases Nm.mp hy with rfl | z
   ·exact e
   ·have:=h'.1 y z
    simp only [if_true] at this
    exact Af this e
  ·rw [if_neg e]
   unfold iW fN
   rw [P4]
   refine ⟨λy hy=>?_,vm t r (λz=>hn (Ni _ z)) h'.2⟩
   rcases Nm.mp ((k6 t r).subset hy) with rfl | z
   ·simp only [if_true]
    rcases Dk (x:=x) (y:=y) (λz=>hn (by rw [z]; exact Ng)) with q | q
    ·exact absurd q e
    ·exact q
   ·exact h'.1 y z
theorem gO:∀ {L:List aD},L.Nodup->iW true (fE L)
 | [],_=>Qq
 | t::L,h=>by
  rw [O3] at h
  exact vm t _ (λz=>h.1 ((bB L).subset z)) (gO h.2)
theorem Ag (hn:L.Nodup) (hp:L'.Perm L) (hs:iW true L'):L'=fE L:=kZ (hp.trans (bB L).symm) hs (gO hn)
noncomputable def nz (L:List aD):List aD:=L.filter λt=>t.2 != 0
theorem Ah (hn:L.Nodup):nz (fE L)=fE (nz L) :=
 Ag (RT.filter _ hn) ((bB L).filter _) ((gO hn).filter _)
theorem encK (A):(Sl.oT (encA A)).qt=some (.fdT (A.map λt=>t.1.map Np) (A.map λt=>.int t.2)):=by
 show some _=some _
 unfold encA
 rw [Nt,Nt]; rfl
theorem Ai (h:r.wG=some (encA A)) (l):ER r (.tup (l.map .int)) ((bx A l).map D.int):=by
 rw [<- oj]; exact .t h (fD l)
theorem Aj (hz:A.length<sizeLine):CG (.oT (encA A)) (.tup (l.map .int)) (.int n) (.oT (encA (putD A l n))):=by
 rw [<- Dg]
 exact .t (r:=.oT (encA A)) rfl (fD l) (by rw [Di]; exact hz)
theorem qO (o:Option Int):(o.map D.int).getD (.int 0)=.int (o.getD 0):=by cases o <;> rfl
end EV
namespace EV
open PySem PySem.Spec PySem.Calls PyProof.Rows L2
theorem oq {L:List Addr} (I:Inv X aa σ H s) (k:∀ b o,b∉L->s.heap.get? b=some o->h'.get? b=some o) (hf:∀ b∈L,fk X aa H b):Inv X aa σ H { s with heap:=h',toks:=t' }:=by
 have nit:∀ b u,H b=some u->b∉L:=λb u e z=>by rw [(hf b z).1] at e; cases e
 refine I.step (g':=s.gens) (d':=s.drawn) (ch:=L) (λb hb=>?_) (λb o _ _ hc e _=>k b o hc e) (λb o _ _ hc e _=>⟨o.slots,k b o hc e⟩) (λ_ _ _ _ n=>n)
  (λb o hc e=>⟨o,k b o hc e⟩) (λ_ _ e=>e) (λ_ _ _ e=>e) (λb ps e=>⟨#[],by rw [e]; simp⟩) (λm hm=>?_) (λb u e=>?_) I.bare
 ·obtain ⟨_,f1,_,f3,f4,f5⟩:=hf b hb
  exact ⟨f3,f1,f4,f5⟩
 ·obtain ⟨o,es,ep,ho,r⟩:=hm
  exact ⟨o,es,ep,k _ o (λz=>(hf _ z).2.1 rfl) ho,r⟩
 ·refine (I.hok b u e).stay (λc v hc q=>k c v ?_ q) (λ_ q=>q) λ_ _ q=>q
  rcases hc with z | z
  ·rw [z]; exact nit b u e
  ·exact nit c _ z
section
variable {K:M0}
end
end EV
namespace EV
open PySem PySem.Spec PyProof.Rows L2
theorem ou {A:List aD} {l:List Int} {n:Int} {t:aD} (h:t∈putD A l n):t.1=l\/t∈A:=by
 unfold putD at h
 split at h
 ·obtain ⟨u,hu,e⟩:=N1.mp h
  split at e
  ·rename_i q; subst e; exact .inl q
  ·subst e; exact .inr hu
 ·rcases NF.mp h with q | q
  ·exact .inr q
  ·simp at q; subst q; exact .inl rfl
theorem oA (hl:∀ t∈ts,t.1.length<=n):∀ t∈aJ ts,trim t.1=t.1/\t.1.length<=n:=by
 unfold aJ
 suffices H:∀ A:List aD,(∀ t∈A,trim t.1=t.1/\t.1.length<=n)->∀ t∈ts.foldl fO A,trim t.1=t.1/\t.1.length<=n from H [] (by simp)
 induction ts with
 | nil=>exact λA h=>h
 | cons u ts ih =>
  refine λA h=>ih (λt ht=>hl t (Ni _ ht)) _ λt ht=>?_
  rcases ou ht with e | e
  ·rw [e,cA]
   exact ⟨rfl,Nb (gq _) (hl u Ng)⟩
  ·exact h t e
noncomputable def bL (ts:List aD):List aD:=fE (nz (aJ ts))
theorem vn (h:(A.map (·.1)).Nodup):((nz A).map (·.1)).Nodup:=QG.sublist (List.filter_sublist.map _) h
theorem m8 (ts):(bL ts).Perm (nz (aJ ts)):=bB _
theorem qP (h:t∈bL ts):t∈aJ ts/\t.2≠0:=by
 have:=(m8 ts).subset h
 unfold nz at this
 rw [Qt] at this
 exact ⟨this.1,by simpa using this.2⟩
theorem k7 (ts):(bL ts).length<=ts.length:=by
 rw [(m8 ts).length_eq]
 exact Nb (List.length_filter_le _ _) (gM ts)
end EV
namespace EV
open PySem PySem.Spec PySem.Calls PyProof.Rows L2
theorem Dl {K:M0} {f:Int->Int->Int}:yV K (λxs H Q=>∃ i j,xs=[.int i,.int j]/\Q (.int (f i j)) H) (λds R=>∃ i j:Int,ds=[.int i,.int j]/\R (.int (f i j))):=by
 rintro ds vs H Hf Q R s rs ⟨i,j,rfl,hR⟩ q
 obtain ⟨v,r,rfl,r1,r2⟩:=aF.mp rs
 obtain ⟨v',r',rfl,r1',r2'⟩:=aF.mp r2
 rw [aC] at r2'
 subst r2'
 rw [aA] at r1 r1'
 subst r1 r1'
 exact ⟨i,j,rfl,q _ _ H Hf hR (aA.mpr rfl) (.refl s)⟩
section
variable {K:M0} {c:Ctx P w K mg base k N sc bk}
theorem boot_max:bootBuiltins "max"=some (.builtin "max"):=by decide +kernel
theorem Ak (hm:mg "max"=none) (h:aI c a ρ λx=>aI c b ρ λy=>I2 (λi j=>R (.int (if j>i then j else i))) x y) (hg:sc.names.lookup (MY "max")=some .globalImplicit:=by walk_at "u")
 (he:∀ env,starEach [a,b] env=(false,eval a env)::starEach [b] env:=by intro _; walk_at "u") (he2:∀ env,starEach [b] env=(false,eval b env)::starEach [] env:=by intro _; walk_at "u")
 (hpl:∀ env,(backTo pos (starEach [b] env)).any (·.1)=false:=by intro _; walk_at "u"):aI c (.Call (.Name "max" p) [a,b] [] pos) ρ R :=
 uE (wj c.calm) (Dl (f:=λi j=>if j>i then j else i)) hm boot_max (bQ (h.imp λx h1=>bQ (h1.imp λy ⟨i,j,e1,e2,hR⟩=>kC ⟨i,j,by rw [e1,e2],hR⟩) he2) he) hg (by decide) (by decide) he hpl
theorem EZ (h:aI c a ρ λx=>aI c b ρ λy=>I2 (λi j=>Sd (r6 i j) (R (.int (i * 2 ^ j.toNat)))) x y):aI c (.BinOp a .LShift b pos) ρ R :=
 iI (nO FL mG (h.imp λx hx=>hx.imp λy ⟨i,j,e1,e2,⟨hc,r⟩⟩=>⟨i,j,e1,e2,hc,_,rfl,r⟩))
theorem E0 (h:aI c a ρ λx=>aI c b ρ λy=>I2 (λi j=>Sd (0<=j) (R (.int (i / 2 ^ j.toNat)))) x y):aI c (.BinOp a .RShift b pos) ρ R :=
 iI (nO FN mG (h.imp λx hx=>hx.imp λy ⟨i,j,e1,e2,⟨hc,r⟩⟩=>⟨i,j,e1,e2,hc,_,rfl,r⟩))
theorem Al (h:aI c a ρ λx=>aI c b ρ λy=>I2 (λi j=>R (.int (Builtin.bitAnd i j))) x y):aI c (.BinOp a .BitAnd b pos) ρ R :=
 iI (nO FO yK (h.imp λx hx=>hx.imp λy ⟨i,j,e1,e2,r⟩=>⟨i,j,e1,e2,_,rfl,r⟩))
end
noncomputable abbrev KS:=List (Key×D)->List D->(List (Key×D)->Prop)->Prop
noncomputable def GO (K:M0) (F:KS):Sp:=λvs H Q _=>∃ Hf p kvs xs us ds B,vs=.ref p::us/\aN Hf H/\H p=some (.dK xs)/\Hf p=none/\lH K Hf kvs xs/\av K Hf ds us/\F kvs ds B /\
 ∀ kvs' H' ak xs',B kvs'->bw (del H p) Hf H' ak->H' p=some (.dK xs')->ak p=none->lH K ak kvs' xs'->Q .non H'
structure Dn (P:Program) (w:World) (K:M0) (mg:Str->Option Value) (base:Heap) (k:Nat) (x:Str) (F:KS):Prop where
 ex:∃ f fd ps,mg x=some (.ref f)/\OL K (.ref f)=true/\Binds K fd ps []/\aZ P w K mg base (c9 P w) k f fd ps (GO K F)
noncomputable def startM (q:Addr) (kvs:List (Key×D)) (N:List Str) (ds:List D):List Sl:=.aK q kvs::(ds.map .va++Nh (N.length - (ds.length+1)) .un)
theorem w9 {K:M0} (r:av K Hf ds us) (sb:aN Hf H) (h1:H q=some (.dK xs)) (h2:Hf q=none) (h3:lH K Hf kvs xs) :
 fh K (del H q) Hf (L2.start N (.ref q::us)) H Hf (startM q kvs N ds):=by
 have hl:=r.length
 have rest:∀ (i:Nat) (r':Sl),(startM q kvs N ds)[i+1]?=some r'->r'≠.un->∃ d,ds[i]?=some d/\r'=.va d:=λi r' h hu=>by
  have h':(ds.map Sl.va++Nh (N.length - (ds.length+1)) Sl.un)[i]?=some r':=by simpa [startM] using h
  by_cases w:i<ds.length
  ·rw [OY (by simpa using w),Nd,Nr w] at h'
   cases h'
   exact ⟨_,by simp,rfl⟩
  ·rw [PN (by simp; lia)] at h'
   exact absurd (RZ (Og h')) hu
 refine ⟨⟨λb o e=>(iM e).2,.refl _,sb,λ_ h _ _=>h⟩,by simp [L2.start,startM,hl],λi r' h hu=>?_,λi j r1 r2 p hne e1 e2 o1 o2=>?_⟩
 ·cases i with
  | zero =>
   have:r'=.aK q kvs:=by simpa [startM] using h.symm
   subst this
   exact ⟨.ref q,by simp [L2.start],q,xs,rfl,⟨iL,rfl⟩,h1,h2,h3⟩
  | succ i =>
   obtain ⟨d,hd,rfl⟩:=rest i r' h hu
   obtain ⟨x,e2,rx⟩:=r.get hd
   refine ⟨x,?_,rx⟩
   have hi:i<us.length:=(Nf.mp e2).1
   unfold L2.start
   rw [OY (by simp; lia)]
   simp [e2]
 ·exfalso
  have own:∀ {i:Nat} {r:Sl},(startM q kvs N ds)[i]?=some r->r.owned=true->i=0:=λ{i r} h ho=>by
   cases i with
   | zero=>rfl
   | succ i =>
    obtain ⟨d,_,rfl⟩:=rest i r h (by rintro rfl; cases ho)
    cases ho
  exact hne ((own e1 o1).trans (own e2 o2).symm)
section
variable {K:M0} {c:Ctx P w K mg base k N sc bk}
theorem JT {st:Stmt} (Fu:dQ K x qual st f fd) (SV:FS N ps st) (ar:∀ kvs ds B,F kvs ds B->ds.length+1=ps.length)
 (body:∀ (c:Ctx P w K mg base k N (aQ st) false),c.X.xe=(λ_ _=>False)->∀ q kvs ds B,F kvs ds B->aH c (au st) (startM q kvs N ds) (λρ=>∃ kvs' r,B kvs'/\ρ=.aK q kvs'::r) { rt:=λ_=>False }) :
 aZ P w K mg base (c9 P w) (k+1) f fd ps (GO K F):=by
 obtain ⟨Sc,Vi⟩:=EJ SV
 obtain ⟨oc,od,kV,doc,pm,an,cdv,ct,osl,rfl,lk,hcd⟩:=Fu.ex
 refine EC lk hcd Sc (λvs H Q E hh=>z4 hh λHf q kvs xs hh=>z3 hh λus ds B hh=>w8 hh λe _ _ _ _ rs hF _=>by rw [e,NN,<- rs.length]; exact ar _ _ _ hF) λA outer s H vs Q E hr hh=>z4 hh λHf q kvs xs hh=>z3 hh λus ds B hh=>w8 hh λe sb h1 h2 h3 rs hF hq=>?_
 subst e
 let X:Cx:=(sd (c9 P w) P w K mg base N qual (aQ st) f cdv A outer s H E).Ir
 let c:Ctx P w K mg base k N (aQ st) false :=
  { X:=X,eP:=rfl,ew:=rfl,eK:=rfl,emg:=rfl,eb:=rfl,eN:=rfl,esc:=rfl,calm:=rfl,top:=λ_=>⟨rfl,rfl,rfl⟩,cb:=λ_ _ _ _ _ I x c h=>I.ok.cab x c rfl h,fn:=λ_ _=>.inl rfl,B:=del H q,room:=hr,nd:=Sc.nd,vis:=Vi,Hf:=Hf,RX:=λ_ _=>False,
    exc:=λ_ _ _ _ _ _ _ _ _ _ _ _ h _ _=>h.elim,RM:=λ_ _=>False,mde:=λ_ _ _ _ _ _ _ _ _ _ _ _ h _=>h.elim }
 refine ⟨_,rV.Ir (t:=IC X (au st)) (sA (X:=X)),?_⟩
 refine body c rfl q kvs ds B hF (L2.start N (.ref q::us)) H Hf _ (w9 rs sb h1 h2 h3) ⟨λσ H' ak ρ S ⟨kvs',r,hB,e⟩=>?_,λr v H' ak g rv e=>e.elim,λ_ _ _ _ _ h=>h.elim,λ_ _ _ _ _ h=>h.elim⟩
 subst e
 obtain ⟨v,_,q',xs',_,⟨_,rfl⟩,a1,a2,a3⟩:=S.at_ 0 _ rfl (by simp)
 exact hq kvs' H' ak xs' hB S.bas a1 a2 a3
theorem vo (h:Dn P w K mg base j x F) (hj:j<=k) (hN:At N i y) (hi:At ρ i r) (hr:r.sD=some kvs)
 (ha:pW c es ρ λds=>∃ B,F kvs ds B/\∀ kvs',B kvs'->Nx ρ i nx (r.qb kvs'))
 (hg:sc.names.lookup x=some .globalImplicit:=by walk_at "u") (hdb:(x == ("__debug__":Str))=false:=by decide) (hd:(y == ("__debug__":Str))=false:=by decide) (hcd:(y == ("__classdict__":Str))=false:=by decide)
 (he:∀ env,starEach (.Name y py::es) env=(false,eval (.Name y py) env)::starEach es env:=by intro _; walk_at "u")
 (hpl:∀ env,(backTo cp (starEach es env)).any (·.1)=false:=by intro _; walk_at "u")
 (hs:∀ env,swapsWith (.Call (.Name x px) (.Name y py::es) [] cp) none pos.line env=pure false:=by intro _; walk_at "u"):fK c (.Expr (.Call (.Name x px) (.Name y py::es) [] cp) pos) ρ nx p:=λσ H Hf D S o=>by
 obtain ⟨q,eq,rq⟩:=S.own hi.get (kF hr)
 obtain ⟨xs,h1,h2,h3⟩:=wH hr rq
 refine dZ (nE dI (hs _)) (show bE c.X _ σ H (λ_ H'=>D.nx σ H') from λaa s I=>?_)
 obtain ⟨f,fd,ps,hm,hk,hb,hF⟩:=h.ex
 refine OO (nD I (by unfold Gl NY; rw [c.esc]; exact hg) (by rw [c.emg]; exact hm) ?_ hdb)
 have hA:bA c.X (.Name y py::es) σ H (λvs H1=>∃ us aU ds B,vs=.ref q::us/\F kvs ds B/\(∀ kvs',B kvs'->Nx ρ i nx (r.qb kvs'))/\av c.X.K aU ds us/\bw H Hf H1 aU) :=
  yG (cj (c.nV hN hd hcd) Ge (he _)) ⟨_,eq,ha σ H Hf _ S λds vs H1 aU ⟨B,hF,hn⟩ rs g=>⟨vs,aU,ds,B,rfl,hF,hn,rs,g⟩⟩
 refine Sk (h₀:=c.X.base) I.ok.mod.kin (by rw [c.eK]; exact hk) (bJ (hA cp aa s I) λus s1 hh=>z2 hh λvs H1 hh=>w3 hh λI1 rv hh=>z4 hh λus' aU ds B hh=>w5 hh λev hF' hn rs g=>⟨I1.BI,?_⟩) (he _) (hpl _)
 subst ev
 have S1:=S.cH g
 have rq1:=rq.cH g
 obtain ⟨xs1,a1,a2,a3⟩:=wH hr rq1
 have hF2:aZ c.X.prog c.X.w c.X.K c.X.mg c.X.base (c9 c.X.prog c.X.w) k f fd ps (GO c.X.K F):=by rw [c.eP,c.ew,c.eK,c.emg,c.eb]; exact hF.mono hj
 have tY:GO c.X.K F (.ref q::us') H1 (λ_ H'=>D.nx σ H') (λ_ _ _=>False):=by
  refine ⟨aU,q,kvs,xs1,us',ds,B,rfl,g.b,a1,a2,a3,rs,hF',λkvs' H' ak xs' hB g2 b1 b2 b3=>?_⟩
  obtain ⟨ρ',hs',hn⟩:=hn kvs' hB
  refine o.nx σ H' ak ρ' ?_ hn
  rw [hs'.eq]
  exact S1.upd hi.get (kF hr) eq g2 (qe hr rq1 b1 b2 b3) (kG hr)
 have hl:us.length=ps.length:=by rw [<- rv.length]; exact hF2.len _ _ _ _ tY
 have hb':Binds c.X.K fd ps []:=by rw [c.eK]; exact hb
 have hb2:=hb' s1 us I1.BI (by simpa using hl)
 rw [N7] at hb2
 refine wpAny_call (QD (hF2.run c.X.A c.X.stack s1 H1 ⟨us,[]⟩ us _ _ _ c.room I1.FW hb2 rv tY) λr' s' hq=>?_)
 cases r' with
 | error e =>
  obtain ⟨a,C,H',rfl,hE,h⟩:=hq
  exact h.elim
 | ok fl =>
  cases fl with
  | ret u=>exact I1.after hq
  | next=>exact Oc hq
  | brk=>exact Oc hq
  | cont=>exact Oc hq
end
theorem av.many {K:M0} (h:av K H ds xs):∀ k:Nat,av K H (Nh k ds).flatten (Nh k xs).flatten
 | 0=>aC.mpr rfl
 | k+1=>by
  rw [OJ,OJ,Pn,Pn]
  exact h.append (av.many h k)
theorem av.set {K:M0}:∀ {ds:List D} {xs:List V} (i:Nat) {d:D} {v:V},av K H ds xs->Rep K H d v->av K H (ds.set i d) (xs.set i v)
 | [],_,i,_,_,h,_=>by rw [aC] at h; subst h; exact aC.mpr rfl
 | e::ds,_,i,d,v,h,q=>by
  obtain ⟨x,r,rfl,h1,h2⟩:=aF.mp h
  cases i with
  | zero=>exact .cons q h2
  | succ i=>exact .cons h1 (av.set i h2 q)
theorem Am {n k:Nat} {i:Int} (hi:i=k) (e:s.heap.get? l=some { cls:=.type "list",data:=.seq items n }) (hk:k<items.size) (hf:items.size<2 ^ 63)
 (hQ:Q () { s with heap:=s.heap.update l (NH λxs=>xs.setIfInBounds k v) }):wpAny (model prog w) A (setItem (.ref l) (.int i t) v) Q E s:=by
 have ht:s.TypeIs (.ref l) "list":=⟨_,e,rfl⟩
 have hx:items[k]?=some items[k]:=Ny hk
 unfold setItem
 refine Oi (MZ (Ss ht (by decide) ?_))
 refine MZ (OZ (name:=MY "__setitem__") ht PySem.slot_list_setitem (OA PySem.slot_list_setitem ht PySem.entry_list_setitem ?_ (PySem.args_list_setitem _ _ _)))
 show wpAny _ _ (Builtin.List.listSubscript? (.int i t) >>= _) _ _ s
 refine MZ (wpAny_listSubscript_int (fitsIndex_of (show 0<=i by lia) (show i<2 ^ 63 by lia)) ?_)
 clear hf
 subst hi
 show wpAny _ _ ((seqItemAt l k >>= λr=>pure (r.map λx=>(k,x))) >>= _) _ _ s
 refine MZ (MZ (wpAny_seqItemAt e rfl (M3 ?_)))
 rw [hx]
 show wpAny _ _ (setSeqItemAt l k v >>= _) _ _ s
 refine MZ (wpAny_setSeqItemAt e rfl ?_)
 first
  | exact MZ (M3 (M3 ⟨N9,rfl,M3 hQ⟩))
  | exact M3 ⟨N9,rfl,M3 hQ⟩
noncomputable def JU:Fv:=λo i v H Q=>∃ l xs k,o=.ref l/\i=.int (k:Nat)/\H l=some (.lst xs)/\k<xs.length/\Q (upd H l (.lst (xs.set k v)))
theorem An:IQ X JU:=by
 intro aa s σ H o i v ov iv u Q I r1 r2 r3 h
 obtain ⟨l,xs,k,rfl,rfl,hH,hk,q⟩:=h
 cases r1
 obtain ⟨t,rfl⟩:=r2
 obtain ⟨z,its,n,r,hl,e⟩:=I.pK hH
 have hbig:xs.length<2 ^ 63:=OP z (by decide)
 refine Am rfl e (by rw [Nq,<- hl]; exact hk) (by rw [Nq,<- hl]; exact hbig) ⟨_,I.su (its':=its.set k u) (t':=s.toks) hH e ?_ (Vals.set r3 k r) (by rw [List.length_set]; exact z),q⟩
 show its.toArray.setIfInBounds k u=(its.set k u).toArray
 simp
theorem Dp:Lv X "int.bit_length" (λx vs H Q=>∃ i,x=.int i/\vs=[]/\Q (.int (Oh i:Nat)) H):=by
 intro aa s σ H x xs v us Q I r1 r2 h
 obtain ⟨i,rfl,rfl,q⟩:=h
 obtain ⟨t,rfl⟩:=r1
 cases r2
 exact PyProof.Rows.call_int_bit_length ⟨.int (Oh i:Nat),H,I.tok _,⟨_,rfl⟩,q⟩
section
variable {K:M0} {c:Ctx P w K mg base k N sc bk}
theorem GP (h:aI c e ρ (I1 λi=>R (.int (Oh i:Nat)))) (hbase:∀ env,attributeBase e "bit_length" env (eval e env)=eval e env:=by intro _; walk_at "u") (hline:(ap.endLine == cp.line)=true:=by walk_at "u") :
 aI c (.Call (.Attribute e "bit_length" ap) [] [] cp) ρ R:=λσ H Hf Q S q =>
 bZ (F1 PySem.F.plainAttrs_int PySem.F.slot_int_bit_length PySem.F.type_int_bit_length Dp dI (hbase _) hline) (h σ H Hf _ S λd v H' ak ⟨i,e,hR⟩ r g=>by
  subst e
  rw [aA] at r; subst r
  exact ⟨rfl,i,rfl,rfl,q _ _ H' ak hR (aA.mpr rfl) g⟩)
theorem JV {R:Sl->Prop} (h:dJ c a ρ λr=>∃ ds,r=.ow ds/\aI c b ρ (I1 λn=>Sd ((0<=n/\n<2 ^ 63)/\ds.length * n.toNat<=sizeLine) (R (.ow (Nh n.toNat ds).flatten)))):dJ c (.BinOp a .Mult b pos) ρ R:=λσ H Hf Q S q =>
 bZ (yk F2 dI dI) (h σ H Hf _ S λr v H1 aU ⟨ds,er,h1⟩ rr g1=>h1 σ H1 aU _ (S.cH g1) λdn u H2 c6 ⟨n,en,⟨⟨n0,n1⟩,hz⟩,hR⟩ rn g2=>by
  subst er en
  rw [aA] at rn; subst rn
  obtain ⟨l,xs,rfl,fl,k1,k2,k3⟩:=rr
  have k1':=g2.s _ _ k1
  refine ⟨l,n,xs,rfl,rfl,k1',by lia,n1,by rw [<- k3.length]; exact hz,λp hp=>?_⟩
  have g3:=bw.f7 (o:=.lst (Nh n.toNat xs).flatten) g2.b hp
  exact q _ _ _ _ hR ⟨p,_,rfl,(g1.trans g2).s.free hp,ai,g2.b.free hp,(k3.mono g2.f).many _⟩ ((g1.trans g2).trans g3))
theorem GQ (hN:At N i x) (hi:At ρ i r) (hr:r.getL=some ds) (h:aI c e ρ λdv=>aI c b ρ λdk=>∃ m:Nat,dk=.int m/\Sd (m<ds.length) (Nx ρ i nx (r.putL (ds.set m dv))))
 (hs:∀ env,swapsWithSole [.Subscript (.Name x px) b tp] e pos.line env=pure false:=by intro _; walk_at "u") (hw:∀ env,swappedStores [.Subscript (.Name x px) b tp] e env=pure none:=by intro _; walk_at "u")
 (h1:∀ env,(assignEach [.Subscript (.Name x px) b tp] env).map (·.2)=[assign (.Subscript (.Name x px) b tp) env]:=by intro _; walk_at "u")
 (ha:∀ env v,assign (.Subscript (.Name x px) b tp) env v=(do
   let ov <- holding [v] (eval (.Name x px) env)
   let iv <- holding [v,ov] (eval b env)
   standAt tp
   holding [v,ov,iv] (setItem ov iv v)
   release [v,ov,iv] []):=by intro _ _; walk_at "u")
 (hd:(x == ("__debug__":Str))=false:=by decide) (hcd:(x == ("__classdict__":Str))=false:=by decide):fK c (.Assign [.Subscript (.Name x px) b tp] e pos) ρ nx p:=λσ H Hf D S o=>by
 obtain ⟨q,eq,rq⟩:=S.own hi.get (di hr)
 refine dZ (yg dI (Fy (c.nV hN hd hcd) dI An (ha _)) (hs _) (hw _) (h1 _)) (h σ H Hf _ S λdv v H1 aU h2 rv g1=>⟨_,eq,h2 σ H1 aU _ (S.cH g1) λdk y H2 c6 ⟨m,em,hm,ρ',hs',hn⟩ ry g2=>?_⟩)
 subst em
 rw [aA] at ry; subst ry
 have g:=g1.trans g2
 obtain ⟨xs,k1,k2,k3⟩:=Gx hr (rq.cH g)
 refine ⟨q,xs,m,rfl,rfl,k1,by rw [<- k3.length]; exact hm,o.nx _ _ c6 ρ' ?_ hn⟩
 rw [hs'.eq]
 exact (S.cH g).upd hi.get (di hr) eq (gH g.b k2) (kE hr (rq.cH g) ai k2 (k3.set m (Rep.mono g2.f _ rv))) (gZ hr)
end
theorem iu {K:M0}:∀ {ns:List Int} {xs:List V},av K H (ns.map D.int) xs->xs=ns.map V.int
 | [],xs,h=>by rw [OW,aC] at h; subst h; rfl
 | b::bs,xs,h=>by
  rw [M7,aF] at h
  obtain ⟨x,r,rfl,h1,h2⟩:=h
  rw [aA] at h1
  rw [h1,iu h2]; rfl
theorem gr {ns:List Int} {us:List Value} (h:Vals (ns.map V.int) us) (i:Nat) (v:Value) (e:us.toArray[i]?=some v):∃ t,v=.int (ns.getD i 0) t:=by
 have e':us[i]?=some v:=by simpa using e
 have hi:i<ns.length:=by
  have:=(Nf.mp e').1
  have l:=h.length
  rw [M8] at l
  omega
 obtain ⟨u,hu,r⟩:=h.get (i:=i) (x:=.int (ns.getD i 0)) (by simp [Oa,hi])
 rw [e'] at hu; cases hu
 exact r
theorem k8 (I:Inv X aa σ H s) (hq:gF X.K H p xs) :
 ∃ its:List Value,Vals xs its/\s.heap.IsList p its.toArray/\p<s.heap.objs.size:=by
 obtain ⟨its,rv,pl,hz⟩:=I.list hq
 exact ⟨its,rv,pl.isList,by obtain ⟨o,e,_⟩:=pl.isList; exact Na e⟩
theorem m9 (I:Inv X aa σ H s) (hk:∀ b o,b∉[s.heap.objs.size]->(s.heap.push ob).get? b=some o->h'.get? b=some o):Inv X aa σ H { s with heap:=h',toks:=tk } :=
 I.kept (h':=h') (t':=tk) λb u e=>hk b u (by simpa using NB (Na e)) (M9 _ e)
theorem xg (hc:X.calm=true):fY X (.builtin "max") (λxs H Q=>∃ (p:Addr) (ns:List Int),xs=[.ref p]/\ns≠[]/\gF X.K H p (ns.map V.int)/\∀ m∈ns,(∀ n∈ns,n<=m)->Q (.int m) H):=by
 intro aa s σ H xs us Q I r h
 obtain ⟨p,ns,rfl,hne,hq,q⟩:=h
 obtain ⟨u,rfl,rx⟩:=vals1 r
 cases rx
 obtain ⟨its,rv,pl,hlt⟩:=k8 I hq
 have hn:its.toArray.size=ns.length:=by have l:=rv.length; rw [M8] at l; simp [l]
 have hpos:0<ns.length:=List.length_pos_iff.mpr hne
 refine call_max_walk (Sv pl ?_)
 have hh:X.A.in1.handled=none:=I.ok.hd hc
 refine ⟨_,_,_,_,_,_,_,rfl,Walks.list hh s.heap.objs.size p (NB hlt) its.toArray,⟨⟨_,Nl _ rfl,rfl,rfl⟩,pl.at λo e=>M9 _ e⟩,?_,by rw [hn]; exact hpos,CmpOf.ints_gt (λi=>ns.getD i 0) (gr rv),?_⟩
 ·intro b hb
  show b<(s.heap.push _).objs.size
  rw [O6]
  simp only [Nm,OR,or_false] at hb
  rcases hb with rfl | rfl
  ·exact Po _
  ·exact Rb hlt
 ·intro v h' tk hP hk
  obtain ⟨t,rfl⟩:=gr rv _ _ hP
  obtain ⟨b1,b2⟩:=argBest_gt (λi=>ns.getD i 0) (its.toArray.size - 1)
  rw [hn] at b1 b2 |-
  have J:=m9 (s:=s) (tk:=tk) I hk
  refine ⟨.int _,H,J,⟨_,rfl⟩,q _ ?_ λn hm=>?_⟩
  ·rw [Oa,Nr (by omega)]
   exact NL _
  ·obtain ⟨j,hj,rfl⟩:=List.getElem_of_mem hm
   have:=b2 j (by omega)
   rw [show ns.getD j 0=ns[j] by simp [Oa,hj]] at this
   exact this
theorem vp (ns:List Int):∀ j,j<=ns.length->preSum (λi=>ns.getD i 0) j=(ns.take j).sum
 | 0,_=>rfl
 | j+1,h=>by
  show preSum (λi=>ns.getD i 0) j+ns.getD j 0=_
  rw [vp ns j (by omega),N3 (by omega),Pu]
  simp [Oa,show j<ns.length by omega]
theorem xh (hc:X.calm=true):fY X (.builtin "sum") (λxs H Q=>∃ (p:Addr) (ns:List Int),xs=[.ref p]/\gF X.K H p (ns.map V.int)/\Q (.int ns.sum) H):=by
 intro aa s σ H xs us Q I r h
 obtain ⟨p,ns,rfl,hq,q⟩:=h
 obtain ⟨u,rfl,rx⟩:=vals1 r
 cases rx
 obtain ⟨its,rv,pl,hlt⟩:=k8 I hq
 have hn:its.toArray.size=ns.length:=by have l:=rv.length; rw [M8] at l; simp [l]
 refine call_sum_walkG (Sv pl ?_)
 have hh:X.A.in1.handled=none:=I.ok.hd hc
 refine ⟨_,_,_,_,_,_,λi=>ns.getD i 0,rfl,Walks.list hh s.heap.objs.size p (NB hlt) its.toArray,⟨⟨_,Nl _ rfl,rfl,rfl⟩,pl.at λo e=>M9 _ e⟩,?_,gr rv,?_⟩
 ·intro b hb
  show b<(s.heap.push _).objs.size
  rw [O6]
  simp only [Nm,OR,or_false] at hb
  rcases hb with rfl | rfl
  ·exact Po _
  ·exact Rb hlt
 ·intro h' tk t' hk
  rw [hn,vp ns _ (M4 _),NW]
  have J:=m9 (s:=s) (tk:=tk) I hk
  exact ⟨.int ns.sum,H,J,⟨_,rfl⟩,q⟩
section
variable {K:M0} {c:Ctx P w K mg base k N sc bk}
theorem boot_sum:bootBuiltins "sum"=some (.builtin "sum"):=by decide +kernel
theorem xj {Z:List Int->Int->Prop} (hr:∀ (p:Addr) (ns:List Int) H Q,gF K H p (ns.map V.int)->(∀ m,Z ns m->Q (.int m) H)->ns≠[]->r [.ref p] H Q) :
 yV K r (λds R=>∃ ns:List Int,ns≠[]/\ds=[.lst (ns.map D.int)]/\∀ m,Z ns m->R (.int m)):=by
 rintro ds vs H Hf Q R s rs ⟨ns,hne,rfl,hR⟩ q
 obtain ⟨v,rfl,rv⟩:=pZ rs
 rw [br] at rv
 obtain ⟨a,xs,rfl,h1,h2⟩:=rv
 rw [iu h2] at h1
 exact hr a ns H Q (s.seq h1) (λm hm=>q _ _ H Hf (hR m hm) (aA.mpr rfl) (.refl s)) hne
theorem GR (hm:mg "max"=none) (h:aI c e ρ λx=>∃ ns:List Int,ns≠[]/\x=.lst (ns.map D.int)/\∀ m,(m∈ns/\∀ n∈ns,n<=m)->R (.int m)) (hg:sc.names.lookup (MY "max")=some .globalImplicit:=by walk_at "u")
 (he:∀ env,starEach [e] env=(false,eval e env)::starEach [] env:=by intro _; walk_at "u"):aI c (.Call (.Name "max" p) [e] [] pos) ρ R :=
 uE (xg c.calm) (xj (Z:=λns m=>m∈ns/\∀ n∈ns,n<=m) λp ns H Q h q hne=>⟨p,ns,rfl,hne,h,λm h1 h2=>q m ⟨h1,h2⟩⟩) hm boot_max
  (bQ (h.imp λd ⟨ns,hne,e,hR⟩=>kC ⟨ns,hne,by rw [e],hR⟩) he) hg (by decide) (by decide) he (by intro _; walk_at "u")
theorem GS (hm:mg "sum"=none) (h:aI c e ρ λx=>∃ ns:List Int,x=.lst (ns.map D.int)/\R (.int ns.sum)) (hg:sc.names.lookup (MY "sum")=some .globalImplicit:=by walk_at "u")
 (he:∀ env,starEach [e] env=(false,eval e env)::starEach [] env:=by intro _; walk_at "u"):aI c (.Call (.Name "sum" p) [e] [] pos) ρ R :=
 uE (xh c.calm) (q:=λds R=>∃ ns:List Int,ds=[.lst (ns.map D.int)]/\R (.int ns.sum)) (by
  rintro ds vs H Hf Q R s rs ⟨ns,rfl,hR⟩ q
  obtain ⟨v,rfl,rv⟩:=pZ rs
  rw [br] at rv
  obtain ⟨a,xs,rfl,h1,h2⟩:=rv
  rw [iu h2] at h1
  exact ⟨a,ns,rfl,s.seq h1,q _ _ H Hf hR (aA.mpr rfl) (.refl s)⟩) hm boot_sum (bQ (h.imp λd ⟨ns,e,hR⟩=>kC ⟨ns,by rw [e],hR⟩) he) hg (by decide) (by decide) he (by intro _; walk_at "u")
end
section
variable {prog:Program} {w:World} {A:Around} {E:Value->Shared->Prop} {s:Shared}
variable {jt tp:Addr} {i:Nat} {items:Array Value}
theorem nextT (hh:A.handled=none) (h1:s.heap.IsTupleIter jt tp i) (h2:s.heap.IsTuple tp items)
 (hv:∀ v,items[i]?=some v->∀ h',h'.IsTupleIter jt tp (i+1)->OF jt s.heap h'->Q v { s with heap:=h' })
 (hn:items[i]?=none->∀ h' e,Heap.ExtBut jt s.heap h'->(∃ o,h'.get? e=some o/\o.cls=.type "StopIteration")->E (.ref e) { s with heap:=h' }) :
 wpAny (model prog w) A (Builtin.SmallTypes.nextOf (.ref jt)) Q E s:=by
 obtain ⟨ob,hob,hcb,hdb⟩:=id h1
 obtain ⟨ot,hot,_,m,hdt⟩:=id h2
 unfold Builtin.SmallTypes.nextOf
 refine MZ (OZ (name:=MY "__next__") h1.typeIs F.slot_tuple_iterator_next (OA F.slot_tuple_iterator_next h1.typeIs F.entry_tuple_iterator_next ?_ (F.args_tuple_iterator_next_1 _)))
 show wpAny _ _ (field (.ref jt) 0 >>= _) _ _ s
 refine MZ (OM hob hdb (x:=.ref tp) rfl ?_)
 show wpAny _ _ (if (NC tp == N9)=true then _ else _) _ _ s
 rw [if_neg (show ¬ ((NC tp == N9)=true) from Nc)]
 show wpAny _ _ (field (.ref jt) 1 >>= _) _ _ s
 refine MZ (OM hob hdb (x:=.int i 0) rfl ?_)
 show wpAny _ _ (seqItems? (.ref tp) >>= _) _ _ s
 refine MZ (wpAny_seqItems hot hdt ?_)
 rw [N6]
 dsimp only
 cases hx:items[i]? with
 | some v =>
  have q:=hv v hx (s.heap.update jt (Obj.mapFields λvs=>vs.setIfInBounds 1 (rawInt ((i:Int)+1)))) ⟨_,Heap.get?_update_self _ hob (Obj.isFreed_of_fields (Q8 hdb _)),(Obj.cls_mapFields ..).trans hcb,by rw [Q8 hdb]; simp [rawInt]⟩ (Qp ..)
  dsimp only
  exact MZ (Qw hob hdb (by simp) (M3 ⟨v,rfl,M3 q⟩))
 | none =>
  dsimp only
  refine MZ (Ol (MZ (Qw hob hdb (by simp) (show wpAny _ _ (newExc (.type "StopIteration") [] >>= _) _ _ _ from MZ ?_))))
  simp only [newExc,newTuple]
  refine MZ (N5 (MZ (m:=firstArgMember _ _) (wpAny_of_eq (a:=N9) (by first | rfl | (simp only [firstArgMember]; rfl)) (N5 ?_ (by size_fits)))) (by size_fits))
  simp only [raiseNew]
  refine MZ (wpAny_handled ?_)
  rw [show A.in1.handled=none from hh]
  exact MZ (M3 (wpAny_throw (hn hx _ _ (((Qp ..).extBut.push _).push _) ⟨_,Nl _ rfl,rfl⟩)))
theorem GU (hh:A.handled=none) (jt tp:Addr) (hne:tp≠jt) (items:Array Value) :
 Draws prog w A jt [jt,tp] items.size (λi v=>items[i]?=some v) (λi h=>h.IsTupleIter jt tp i/\h.IsTuple tp items) where
 live:=λ_ _ ⟨⟨o,ho,_⟩,_⟩=>⟨o,ho⟩
 frame:=λ_ _ _ ⟨⟨o,e,r⟩,⟨o',e',r'⟩⟩ hk=>⟨⟨o,hk jt (by simp) o e,r⟩,o',hk tp (by simp) o' e',r'⟩
 item:=λi s Q E hi ⟨s1,s2⟩ q=>nextT hh s1 s2 (λv hv h' a b=>q v h' s.toks hv ⟨a,s2.extBut b.extBut hne⟩ b) λhx=>by
  rw [Ny hi] at hx; cases hx
 done:=λs Q E ⟨s1,s2⟩ q=>nextT hh s1 s2 (λv hv=>by simp at hv) λ_=>q
end
set_option maxHeartbeats 1000000 in
theorem qQ (tp) (items) (n) (dc) (sl) :
 Meets (Builtin.«enumerate.__new__» ⟨[.type "enumerate",.ref tp],[]⟩) (λ_ R s=>s.heap.get? tp=some { cls:=.type "tuple",dict:=dc,data:=.seq items n,slots:=sl } /\
  R (.ok (.ret (.ref (s.heap.push { cls:=.type "tuple_iterator",data:=.fields #[.ref tp,.int 0 0] }).objs.size)))
   { s with heap:=(s.heap.push { cls:=.type "tuple_iterator",data:=.fields #[.ref tp,.int 0 0] }).push { cls:=.type "enumerate",data:=.fields #[.none,.bool false,.ref s.heap.objs.size,rawInt 0,.none,.none] } }) :=
 .of_wp λprog w A R ⟨hp,g,d,tk,os⟩ ⟨hl,h⟩=>by
  have hz:=sub_enumerate
  have hT:Heap.IsTuple (Shared.heap ⟨hp,g,d,tk,os⟩) tp items:=⟨_,hl,rfl,n,rfl⟩
  wp_walk using QU hl
  refine wpAny_stack_any λst=>M3 ?_
  split
  ·rename_i k _ _ _ _ _
   cases (k == Of "enumerate") <;> (wp_walk using QU hl,Sj hT; exact ⟨_,rfl,h⟩)
  ·wp_walk using QU hl,Sj hT; exact ⟨_,rfl,h⟩
theorem sR (hT:s.heap.IsTuple tp items)
 (h:∀ h',IsEnum h' (s.heap.objs.size+1) s.heap.objs.size 0 .none->h'.IsTupleIter s.heap.objs.size tp 0->(∀ b o,s.heap.get? b=some o->h'.get? b=some o)->Q (.ref (s.heap.objs.size+1)) { s with heap:=h' }) :
 wpAny (model prog w) A (call (.type "enumerate") [.ref tp]) Q E s:=by
 obtain ⟨⟨c,dc,dt,sl⟩,hl,hc,n,hd⟩:=hT
 obtain rfl:c=.type "tuple":=hc
 obtain rfl:dt=.seq items n:=hd
 refine callType_new F.called_enumerate (by decide) (F.typeCall_enumerate_1 _) (F.newCall_enumerate_1 _) (λob=>F.args_object_init_2 ob _) F.entry_enumerate_new (qQ tp items n dc sl) ⟨hl,?_⟩
 generalize e1:s.heap.push { cls:=.type "tuple_iterator",data:=.fields #[.ref tp,.int 0 0] }=g1
 have hz:g1.objs.size=s.heap.objs.size+1:=by rw [<- e1]; exact O6 ..
 have hi:g1.get? s.heap.objs.size=some { cls:=.type "tuple_iterator",data:=.fields #[.ref tp,.int 0 0] }:=by rw [<- e1]; exact Nl _ rfl
 have hb:∀ b o,s.heap.get? b=some o->g1.get? b=some o:=λb o q=>by rw [<- e1]; exact M9 _ q
 have he:IsEnum (g1.push { cls:=.type "enumerate",data:=.fields #[.none,.bool false,.ref s.heap.objs.size,rawInt 0,.none,.none] }) g1.objs.size s.heap.objs.size 0 .none:=Nl _ rfl
 rw [hz] at he
 show _/\_
 rw [hz]
 exact ⟨⟨_,he,rfl⟩,h _ he ⟨_,M9 _ hi,rfl,rfl⟩ λb o q=>M9 _ (hb b o q)⟩
noncomputable def k9 (ds:List D):List D:=ds.zipIdx.map λx=>D.tup [.int x.2,x.1]
noncomputable def LU (K:M0) (t:Addr):It :=
 ⟨λi H=>∃ xs x,dh K H t xs/\xs[i]?=some x,
  λi H v H'=>∃ p x,v=.ref p/\H p=none/\H'=upd H p (.tup [.int (i:Nat),x])/\∀ xs,dh K H t xs->xs[i]?=some x,
  λi H=>∃ xs,dh K H t xs/\xs.length<=i⟩
theorem Dq (I:Inv X aa σ H s) (h1:dh X.K H a xs) (h2:dh X.K H a ys):xs=ys:=I.jd h1 h2
theorem Ao {prog:Program} {w:World} {A:Around} (hh:A.handled=none) (j t:Addr) (items:Array Value) (i:Nat) (hx:items[i]?=none) :
 Draws prog w A j [j,t] i (λ_ _=>False) (λk h=>k=i/\h.IsTupleIter j t i/\h.IsTuple t items) where
 live:=λ_ _ ⟨_,⟨o,ho,_⟩,_⟩=>⟨o,ho⟩
 frame:=λ_ _ _ ⟨ek,⟨o,e,r⟩,⟨o',e',r'⟩⟩ hk=>⟨ek,⟨o,hk j (by simp) o e,r⟩,o',hk t (by simp) o' e',r'⟩
 item:=λk s Q E hi ⟨ek,_⟩ _=>absurd ek (NB hi)
 done:=λs Q E ⟨_,s1,s2⟩ q=>nextT hh s1 s2 (λv hv=>by rw [hx] at hv; cases hv) λ_=>q
theorem xm {P:Program} {w:World} {K:M0} {elts:List Expr} {k:Nat} {pos:Pos} {e j t:Addr} (hne:e≠j) :
 Turn P w K (.Tuple elts k pos) (LU K t) [e,j] e (λi h=>(∃ old,IsEnum h e j i old)/\h.IsTupleIter j t i) where
 mem:=by simp
 obj:=λi h ⟨⟨old,he⟩,⟨o1,e1,_,d1⟩⟩ b hb=>by
  simp only [Nm,OR,or_false] at hb
  rcases hb with rfl | rfl
  ·exact ⟨_,he,λv q=>by have q':RQ _=Data.cell v:=q; cases q'⟩
  ·exact ⟨_,e1,λv q=>by rw [d1] at q; cases q⟩
 keep:=λi h h' ⟨⟨old,he⟩,⟨o1,e1,r1⟩⟩ hk=>⟨⟨old,hk e (by simp) _ he⟩,⟨o1,hk j (by simp) _ e1,r1⟩⟩
 item:=by
  intro X hP hw hK hc i aa s σ H E I hf st hg
  subst hP hw hK
  obtain ⟨⟨old,he⟩,hj⟩:=st
  obtain ⟨xs,x,q1,hx⟩:=hg
  obtain ⟨its,rv,p1,z1⟩:=I.tuple q1
  obtain ⟨u,hu,ru⟩:=rv.get hx
  have pT:s.heap.IsTuple t its.toArray:=by obtain ⟨o,ho,hc',n,hd⟩:=p1; exact ⟨o,ho,hc',n,hd⟩
  have hjt:t≠j:=by
   obtain ⟨o,ho,hc',n,hd⟩:=pT
   obtain ⟨o',ho',hc'',_⟩:=hj
   rintro rfl
   rw [ho] at ho'; cases ho'
   rw [hc'] at hc''; exact absurd hc'' (by simp)
  have het:e≠t:=by
   obtain ⟨o,ho,hc',n,hd⟩:=pT
   rintro rfl
   rw [he] at ho; cases ho
   exact absurd hc' (by simp)
  have hi:i<its.toArray.size:=by
   have:i<its.length:=(Nf.mp hu).1
   simpa using this
  have hh:X.A.in1.handled=none:=I.ok.hd hc
  refine wpAny_pyNext_enum_itemD (GU hh j t hjt its.toArray) he ⟨hj,pT⟩ hi hne (by simp; exact ⟨hne,het⟩) λx' h' tk hPx a1 a2 a3 a4 hk=>?_
  have ex:x'=u:=by
   have:its[i]?=some x':=by simpa using hPx
   rw [hu] at this; cases this; rfl
  subst ex
  have Hp:H s.heap.objs.size=none:=I.hok.fresh (M4 _)
  have IA:Inv X aa σ (upd H s.heap.objs.size (.tup [.int (i:Nat),x])) { s with heap:=s.heap.push { cls:=.type "tuple",data:=.seq #[.int (i:Nat) tk,x'] },toks:=tk+1 } :=
   I.laid (a:=s.heap.objs.size) (o:=.tup [.int (i:Nat),x]) (λ_ _ q=>M9 _ q) (M4 _) ⟨by show 2<=sizeLine; decide,[.int (i:Nat) tk,x'],.cons ⟨tk,rfl⟩ (.cons ru .nil),_,Nl _ rfl,rfl,0,rfl⟩
  have lt:∀ b∈[e,j],b<s.heap.objs.size:=λb hb=>by
   obtain ⟨o1,e1,_⟩:=hj
   simp only [Nm,OR,or_false] at hb
   rcases hb with rfl | rfl
   ·exact Na he
   ·exact Na e1
  have gf:∀ b∈[e,j],fk X aa (upd H s.heap.objs.size (.tup [.int (i:Nat),x])) b:=λb hb=>⟨by rw [aq (NB (lt b hb))]; exact (hf b hb).1,(hf b hb).2⟩
  have I1:Inv X aa σ (upd H s.heap.objs.size (.tup [.int (i:Nat),x])) { s with heap:=h',toks:=tk+1 } :=
   oq (s:={ s with heap:=s.heap.push { cls:=.type "tuple",data:=.seq #[.int (i:Nat) tk,x'] },toks:=tk+1 }) (t':=tk+1) (h':=h') (L:=[e,j]) IA (λb o hb q=>by
    simp only [Nm,OR,or_false,not_or] at hb
    by_cases z:b=s.heap.objs.size
    ·subst z
     rw [Nl _ rfl] at q; cases q; exact a3
    ·refine hk b o hb.1 hb.2 ?_
     rw [Heap.get?_push_ne _ _ _ z] at q; exact q) gf
  refine ⟨_,rfl,wpAny_letOwnedTupleGo_enum (s:={ s with heap:=h',toks:=tk+1 }) a1 λh2' hz' hs'=>?_⟩
  refine ⟨.ref s.heap.objs.size,_,oq (s:={ s with heap:=h',toks:=tk+1 }) (t':=tk+1) (h':=h2') (L:=[e,j]) I1 (λb o hb q=>hs'.extBut b o (λz=>hb (by simp [z])) q) gf,rfl,
   ⟨_,x,rfl,Hp,rfl,λxs' h=>by rw [Dq I h q1]; exact hx⟩,⟨⟨x',?_⟩,a2.1.extBut hs'.extBut (Nv hne)⟩,λb hb=>(gf b hb).1⟩
  have hz2:=hz'
  rw [show ((i:Int)+1)=((i+1:Nat):Int) by lia] at hz2
  exact hz2
 done:=by
  intro X hP hw hK hc i aa s σ H E I hf st hg
  subst hP hw hK
  obtain ⟨⟨old,he⟩,hj⟩:=st
  obtain ⟨xs,q1,hend⟩:=hg
  obtain ⟨its,rv,p1,z1⟩:=I.tuple q1
  have pT:s.heap.IsTuple t its.toArray:=by obtain ⟨o,ho,hc',n,hd⟩:=p1; exact ⟨o,ho,hc',n,hd⟩
  have hl:=rv.length
  have hx:its.toArray[i]?=none:=by simp; lia
  have hh:X.A.in1.handled=none:=I.ok.hd hc
  exact wpAny_pyNext_enum_endD (Ao hh j t its.toArray i hx) he ⟨rfl,hj,pT⟩ λh' hk=>⟨rfl,oq (t':=s.toks) (L:=[e,j]) I (λb o hb q=>hk b o (λz=>hb (by simp [z])) q) hf⟩
 self:=λA i s Q E ⟨⟨old,he⟩,_⟩ h=>wpAny_pyIter_enum he h
theorem xo {K:M0} {Hf:Hp} {ds:List D} {xs:List V} {t:Addr} (h1:dh K Hf t xs) (r1:av K Hf ds xs):ji K (LU K t) (k9 ds) Hf where
 go:=λi d H aU s1 s2 e=>by
  unfold k9 at e
  rw [Nd,Nk] at e
  obtain ⟨⟨x,m⟩,ex,rfl⟩:=e
  rw [List.getElem?_zipIdx,Nk] at ex
  obtain ⟨x',ex,ee⟩:=ex
  cases ee
  obtain ⟨v1,f1,g1⟩:=r1.get ex
  have q1:=az (s1.trans s2) h1
  refine ⟨⟨xs,v1,q1,f1⟩,λv H' ⟨p,y,e1,e2,e3,e4⟩=>?_⟩
  have z1:=e4 xs q1
  rw [f1] at z1; cases z1
  subst e1 e3
  have g:=bw.new s2 e2 (o:=.tup [.int (i:Nat),v1])
  rw [O8]
  exact ⟨upd aU p (.tup [.int (i:Nat),v1]),g,aL.mpr ⟨p,_,rfl,.inl (.inl ai),.cons (aA.mpr rfl) (.cons (Rep.mono (s1.trans g.f) _ g1) (aC.mpr rfl))⟩⟩
 stop:=λi H aU s1 s2 e=>⟨xs,az (s1.trans s2) h1,by
  rw [<- r1.length]
  simpa [k9] using e⟩
theorem xq:bootBuiltins "enumerate"=some (.type "enumerate"):=by decide +kernel
noncomputable def JW (K:M0) (ta:TA):TI:=λσ H R=>ta σ H λvs H1=>∃ t xs,vs=[.ref t]/\dh K H1 t xs/\R (LU K t) H1
theorem Dr (hg:Gl X "enumerate") (hm:X.mg "enumerate"=none) (ha:PA X [a] ta) (hs:starEach [a] X.env=[(false,eval a X.env)]) :
 PI X (.Tuple elts kt tpos) (.Call (.Name "enumerate" p) [a] [] pos) (JW X.K ta):=by
 intro aa s σ H R I h
 refine Call_ (eY I hg hm xq (Qk (bJ (ha pos aa s σ H _ I h) λus s1 ⟨vs,H1,I1,r1,q1⟩=>?_) hs (by rfl)))
 obtain ⟨t,xs,e,q1,q⟩:=q1
 subst e
 obtain ⟨u,rfl,rx⟩:=vals1 r1
 cases rx
 obtain ⟨its,rv,p1,z1⟩:=I1.tuple q1
 have pT:s1.heap.IsTuple t its.toArray:=by obtain ⟨o,ho,hc',n,hd⟩:=p1; exact ⟨o,ho,hc',n,hd⟩
 refine sR pT λh' a1 a2 hk=>wpAny_pyIter_enum a1 ?_
 refine ⟨s1.heap.objs.size+1,[s1.heap.objs.size+1,s1.heap.objs.size],_,_,H1,rfl,I1.kept (t':=s1.toks) hk,xm (Qd (Po _)),⟨⟨.none,a1⟩,a2⟩,λb hb=>?_,q⟩
 have hb':s1.heap.objs.size<=b:=by
  simp only [Nm,OR,or_false] at hb
  rcases hb with rfl | rfl
  ·exact P8 _ _
  ·exact M4 _
 exact I1.lN hb' (I1.hok.fresh hb')
section
variable {K:M0} {c:Ctx P w K mg base k N sc bk}
theorem Aq (hm:mg "enumerate"=none) (h:aI c a ρ λx=>∃ ds,x=.tup ds/\R (k9 ds)) (hg:sc.names.lookup (MY "enumerate")=some .globalImplicit:=by walk_at "u")
 (hs:∀ env,starEach [a] env=(false,eval a env)::starEach [] env:=by intro _; walk_at "u"):CD c (.Tuple elts kt tpos) (.Call (.Name "enumerate" p) [a] [] pos) ρ R:=λσ H Hf Q S q aa s I =>
 Dr (by unfold Gl NY; rw [c.esc]; exact hg) (by rw [c.emg]; exact hm) (cj dI eZ (hs _)) (by rw [hs]; rfl) aa s σ H Q I
  (h σ H Hf _ S λx v1 H1 aU ⟨ds,e1,hR⟩ r1 g1=>by
    subst e1
    rw [aL] at r1
    obtain ⟨t,xs,rfl,s1,t1⟩:=r1
    exact ⟨t,xs,rfl,az g1.b s1,q _ _ H1 aU hR g1 (xo s1 t1)⟩)
end
noncomputable def GV (lo:Int) (n:Nat):It:=⟨λi _=>i<n,λi H x H'=>H'=H/\x=.int (lo - i),λi _=>n<=i⟩
noncomputable def Ar (lo:Int) (n:Nat):List D:=(NP n).map λ(i:Nat)=>D.int (lo - (i:Int))
theorem xr {P:Program} {w:World} {K:M0} {tg:Expr} (j:Addr) (lo:Int) (n:Nat):Turn P w K tg (GV lo n) [j] j (λi h=>IsRangeIter h j (lo+(i:Nat) * -1) ((n:Int) - (i:Nat)) (-1)) where
 mem:=Nj.mpr rfl
 obj:=λi h st b hb=>by
  obtain rfl:b=j:=Nj.mp hb
  exact ⟨_,st,λv z=>by have q:RQ _=Data.cell v:=z; cases q⟩
 keep:=λi h h' st k=>k j (Nj.mpr rfl) _ st
 item:=by
  intro X hP hw hK hc i aa s σ H E I hf st hg
  subst hP hw hK
  obtain ⟨f0,f1,f2,f3,f4,f5⟩:=hf j (Nj.mpr rfl)
  have W:=Walks.range (prog:=X.prog) (w:=X.w) (I.ok.hd hc) j lo (-1) n
  refine W.item i s _ _ hg st λv h' tk hv st' kk=>?_
  obtain ⟨t,rfl⟩:=hv
  have I1:Inv X aa σ H { s with heap:=h',toks:=tk }:=I.turned (λb o hb e=>kk b o (by simpa using hb) e) f0 f1 f3 f4 f5
  have e:lo+(i:Int) * -1=lo - i:=by lia
  exact ⟨_,rfl,l6 (s:={ s with heap:=h',toks:=tk }) (n:="range_iterator") st' rfl rfl (by decide) ⟨.int (lo - i),H,I1,⟨t,by rw [e]⟩,⟨rfl,rfl⟩,st',λb hb=>(hf b hb).1⟩⟩
 done:=by
  intro X hP hw hK hc i aa s σ H E I hf st hg
  subst hP hw hK
  obtain ⟨f0,f1,f2,f3,f4,f5⟩:=hf j (Nj.mpr rfl)
  exact wpAny_pyNext_range_end (I.ok.hd hc) st (by have:n<=i:=hg; lia) λh' eb=>⟨rfl,I.turned (t':=s.toks) (λb o hb e=>eb b o hb e) f0 f1 f3 f4 f5⟩
 self:=λ_ _ _ _ _ st h=>wpAny_pyIter_rangeiter st h
theorem lg {lo hi:Int}:QV lo hi (-1)=((lo - hi).toNat:Int):=by
 unfold QV
 rw [if_neg (by decide)]
 split
 ·rw [show - (-1:Int)=1 by decide,Int.ediv_one]; lia
 ·lia
theorem small_down (ha: -(2 ^ 62)<=a) (ha':a<2 ^ 62) (hb: -(2 ^ 62)<=b) (hb':b<2 ^ 62):Builtin.Range.small a b (-1)=true:=by
 unfold Builtin.Range.small
 rw [lg]
 simp only [Builtin.Range.rangeFitsLong,Qs,Bool.or_eq_true,decide_eq_true_eq,beq_iff_eq,show ¬ (-1:Int)>0 by decide,if_false]
 lia
noncomputable def JX (ta:TA):TI:=λσ H R=>ta σ H λvs H1=>∃ i j:Int,vs=[.int i,.int j,.int (-1)]/\(-(2 ^ 62)<=i/\i<2 ^ 62/\ -(2 ^ 62)<=j/\j<2 ^ 62)/\R (GV i (i - j).toNat) H1
theorem Ds (hg:Gl X "range") (hm:X.mg "range"=none) (ha:PA X [a,b,c] ta) (hs:starEach [a,b,c] X.env=[(false,eval a X.env),(false,eval b X.env),(false,eval c X.env)])
 (hs2:starEach [b,c] X.env=[(false,eval b X.env),(false,eval c X.env)]):PI X tg (.Call (.Name "range" p) [a,b,c] [] pos) (JX ta):=by
 intro aa s σ H R I h
 refine Call_ (eY I hg hm boot_range (Qk (bJ (ha pos aa s σ H _ I h) λus s1 ⟨vs,H1,I1,r1,q1⟩=>?_) (by rw [hs,hs2]) (by rw [hs2]; rfl)))
 obtain ⟨i,j,e,⟨q1,q2,q3,q4⟩,q⟩:=q1
 subst e
 cases r1 with
 | cons r rr=>cases rr with
  | cons r' rr=>cases rr with
   | cons r'' rr =>
    cases rr
    obtain ⟨t,rfl⟩:=r
    obtain ⟨t',rfl⟩:=r'
    obtain ⟨t'',rfl⟩:=r''
    refine call_range_3 (by decide) ?_ (.inl (PyProof.noPylong_of_log2 (by decide +kernel)))
    refine wpAny_pyIter_range (IsRange.new ..) (small_down q1 q2 q3 q4) ?_
    have I2:Inv X aa σ H1 { s1 with heap:=s1.heap.push { cls:=.type "range",data:=.fields #[.int i t,.int j t',.int (-1) t''] },toks:=s1.toks }:=I1.kept λb o e=>M9 _ e
    generalize s1.heap.push { cls:=.type "range",data:=.fields #[.int i t,.int j t',.int (-1) t''] }=g at I2 |-
    refine ⟨g.objs.size,[g.objs.size],_,_,H1,rfl,I2.kept (t':=s1.toks) λb o e=>M9 _ e,xr _ i (i - j).toNat,?_,λb hb=>?_,q⟩
    ·show IsRangeIter _ _ (i+((0:Nat):Int) * -1) ((((i - j).toNat:Nat):Int) - ((0:Nat):Int)) (-1)
     rw [show i+((0:Nat):Int) * -1=i by simp,show (((i - j).toNat:Nat):Int) - ((0:Nat):Int)=QV i j (-1) by rw [lg]; lia]
     exact Nl _ rfl
    ·obtain rfl:b=g.objs.size:=Nj.mp hb
     exact I2.lN (M4 _) (I2.hok.fresh (M4 _))
theorem Au {K:M0} {lo:Int} {n:Nat} {fj:Hp}:ji K (GV lo n) (Ar lo n) fj where
 go:=λi d H Hf s1 s2 e=>by
  unfold Ar at e
  rw [Nd] at e
  obtain ⟨j,e1,e2⟩:=Nk.mp e
  have hi:i<n:=by simpa using (Nf.mp e1).1
  have:j=i:=by rw [P1 hi] at e1; cases e1; rfl
  subst this
  refine ⟨hi,λx H' ⟨e3,e4⟩=>?_⟩
  subst e3 e4 e2
  exact ⟨Hf,.refl s2,aA.mpr rfl⟩
 stop:=λi H Hf s1 s2 e=>show n<=i by simpa [Ar] using e
section
variable {K:M0} {c:Ctx P w K mg base k N sc bk}
theorem GW (hm:mg "range"=none) (h:aI c a ρ λx=>aI c b ρ λy=>aI c e ρ λz=>∃ i j:Int,x=.int i/\y=.int j/\z=.int (-1)/\Sd (zj i) (Sd (zj j) (R (Ar i (i - j).toNat))))
 (hg:sc.names.lookup (MY "range")=some .globalImplicit:=by walk_at "u")
 (hs:∀ env,starEach [a,b,e] env=(false,eval a env)::starEach [b,e] env:=by intro _; walk_at "u") (hs2:∀ env,starEach [b,e] env=(false,eval b env)::starEach [e] env:=by intro _; walk_at "u")
 (hs3:∀ env,starEach [e] env=(false,eval e env)::starEach [] env:=by intro _; walk_at "u"):CD c tg (.Call (.Name "range" p) [a,b,e] [] pos) ρ R:=λσ H Hf Q S q aa s I =>
 Ds (by unfold Gl NY; rw [c.esc]; exact hg) (by rw [c.emg]; exact hm) (cj dI (cj dI (cj dI eZ (hs3 _)) (hs2 _)) (hs _)) (by rw [hs,hs2,hs3]; rfl) (by rw [hs2,hs3]; rfl) aa s σ H Q I
  (h σ H Hf _ S λx v1 H1 aU h1 r1 g1=>h1 σ H1 aU _ (S.cH g1) λy v2 H2 c6 h2 r2 g2=>h2 σ H2 c6 _ (S.cH (g1.trans g2)) λz v3 H3 Hf3 ⟨i,j,e1,e2,e3,⟨hi,⟨hj,hR⟩⟩⟩ r3 g3=>by
    subst e1 e2 e3; rw [aA] at r1 r2 r3; subst r1 r2 r3
    exact ⟨i,j,rfl,⟨hi.1,hi.2,hj.1,hj.2⟩,q _ _ H3 Hf3 hR ((g1.trans g2).trans g3) Au⟩)
end
noncomputable abbrev ltI (x y:Int):Bool:=decide (x<y)
noncomputable def MD (d:Addr) (o:Obj) (ys:List (Key×V)):It :=
 ⟨λi H=>H d=some (.frz o (.dK ys))/\i<ys.length,λi H x H'=>H'=H/\∃ y,ys[i]?=some y/\x=kV y.1,λi H=>H d=some (.frz o (.dK ys))/\ys.length<=i⟩
theorem oB (I:Inv X aa σ H s) (hH:H d=some (.frz o (.dK ys))):∃ (vs:List (Key×Value)) (es:Array DictEntry) (ep:Nat),o.data=.dict es ep/\KV ys vs/\s.heap.DictAt (bV X.prog X.w) d vs ep/\(d == sysModules)=false/\ys.length<=sizeLine:=by
 obtain ⟨ho,ok⟩:=(show bq X.prog X.w H s.heap d (.frz o (.dK ys)) from I.hok d _ hH)
 obtain ⟨z,y,vs,kv,o',es,ep,h1,h2,h3,h4,h5,h6⟩:=ok
 rw [ho] at h1; cases h1
 exact ⟨vs,es,ep,h3,kv,⟨o,es,ho,h2,h3,h4,h5,h6⟩,y,z⟩
theorem xu {P:Program} {w:World} {K:M0} {tg:Expr} {d j:Addr} {o:Obj} {ys:List (Key×V)} {es:Array DictEntry} {ep:Nat} (hod:o.data=.dict es ep):Turn P w K tg (MD d o ys) [j] j (λi h=>h.IsKeyIter j d i ys.length ep) where
 mem:=Nj.mpr rfl
 obj:=λi h ⟨q,e,_,hd⟩ b hb=>by
  obtain rfl:b=j:=Nj.mp hb
  exact ⟨_,e,λv z=>by rw [hd] at z; cases z⟩
 keep:=λi h h' ⟨q,e,r⟩ k=>⟨q,k j (Nj.mpr rfl) _ e,r⟩
 item:=by
  intro X hP hw hK hc i aa s σ H E I hf st hg
  subst hP hw hK
  obtain ⟨f0,f1,f2,f3,f4,f5⟩:=hf j (Nj.mpr rfl)
  obtain ⟨hH,hi⟩:=hg
  obtain ⟨vs,es',ep',e1,kv,da,_⟩:=oB I hH
  rw [hod] at e1; cases e1
  have hl:ys.length=vs.length:=Oj kv
  obtain ⟨⟨ky,v⟩,hv,r1,r2⟩:=dz kv (Nr hi)
  rw [hl] at st
  refine wpAny_pyNext_dict_item st da hv λkey h' hkey hit' hs'=>?_
  have I1:Inv X aa σ H { s with heap:=h',toks:=s.toks }:=I.turned (λb o hb e=>hs'.extBut b o hb e) f0 f1 f3 f4 f5
  obtain ⟨q,e,qc,qd⟩:=id hit'
  rw [<- hl] at hit'
  exact ⟨_,rfl,l6 (s:={ s with heap:=h',toks:=s.toks }) (n:="dict_keyiterator") e qc qd (by decide) ⟨kV ky,H,I1,uU hkey,⟨rfl,_,Nr hi,by rw [r1]⟩,hit',λb hb=>(hf b hb).1⟩⟩
 done:=by
  intro X hP hw hK hc i aa s σ H E I hf st hg
  subst hP hw hK
  obtain ⟨f0,f1,f2,f3,f4,f5⟩:=hf j (Nj.mpr rfl)
  obtain ⟨hH,hi⟩:=hg
  obtain ⟨vs,es',ep',e1,kv,da,_⟩:=oB I hH
  rw [hod] at e1; cases e1
  have hl:ys.length=vs.length:=Oj kv
  rw [hl] at st
  exact wpAny_pyNext_dict_end (I.ok.hd hc) st da (OE (by lia)) λh' eb=>⟨rfl,I.turned (t':=s.toks) (λb o hb e=>eb b o hb e) f0 f1 f3 f4 f5⟩
 self:=λ_ _ _ _ _ st h=>wpAny_pyIter_keyiter st h
theorem xw {K:M0} {Hf:Hp} {d:Addr} {o:Obj} {ys:List (Key×V)} {ns:List Int} (hH:Hf d=some (.frz o (.dK ys))) (hk:ys.map (·.1)=ns.map Np):ji K (MD d o ys) (ns.map D.int) Hf where
 go:=λi x H aU s1 s2 e=>by
  rw [Nd,Nk] at e
  obtain ⟨n,hn,rfl⟩:=e
  have hq:=congrArg (λl=>l[i]?) hk
  simp only [Nd,hn,Option.map_some] at hq
  obtain ⟨y,hy,ey⟩:=Nk.mp hq
  refine ⟨⟨s2 _ _ (s1 _ _ hH),(Nf.mp hy).1⟩,λv H' ⟨e1,y',e2,e3⟩=>?_⟩
  rw [hy] at e2; cases e2
  subst e1 e3
  exact ⟨aU,.refl s2,by rw [ey]; exact aA.mpr rfl⟩
 stop:=λi H aU s1 s2 e=>⟨s2 _ _ (s1 _ _ hH),by
  have:=congrArg Py hk
  simp only [M8] at this e
  lia⟩
theorem nc (hT:s.TypeIs (.ref v) "dict") (hQ:Q false s):wpAny (model prog w) A (PM (.ref v)) Q E s:=by
 unfold PM
 refine MZ (wpAny_specialOf hT PySem.F.slot_dict_len.lookup ?_)
 have e:splitId "dict.__len__"=some ("dict","__len__"):=by decide +kernel
 dsimp only
 rw [e]
 dsimp only
 refine MZ (Rh (b:=true) hT (by rw [isSubtype_type]; kernel_rfl) ?_)
 rw [if_neg (by decide)]
 exact MZ (O7 hT (M3 hQ))
section
variable {X:Cx} {aa:List (Addr×Obj)} {σ:L2.St} {H Hf:Hp} {s:Shared} {E:Value->Shared->Prop}
theorem qR {K:M0}:∀ {L:List Int} {us:List Value},Paired (λx u=>jO K Hf (D.int x) u) L us->IntsAre us L
 | _,_,.nil=>.nil
 | _,_,.cons ⟨x,r1,h1⟩ t=>by
  rw [aA] at h1; subst h1
  obtain ⟨tk,rfl⟩:=r1
  exact .cons _ _ (qR t)
theorem Dt:JS X D.int ltI oneType' where
 lin:=λL=>⟨λx _=>by simp,λx _ y _ z _ h g=>by simp only [decide_eq_true_eq] at *; lia,λx _ y _ h=>by simp only [decide_eq_true_eq]; lia⟩
 inj:=λ_ _ _ _ _ _ _ x y u ⟨v,r1,h1⟩ ⟨v',r2,h2⟩=>by
  rw [aA] at h1 h2; subst h1 h2
  obtain ⟨t,rfl⟩:=r1
  obtain ⟨t',e⟩:=r2
  cases e; rfl
 kind:=λ_ _ _ _ _ _ _ _ _ L us p h2 Q hQ=>by
  rw [ksk_kind (kz:=L) (qR p) (by simpa using h2)]
  exact M3 hQ
 cmp:=λ_ _ _ _ _ _ _ _ _ _ x y u v ⟨a,r1,h1⟩ ⟨b,r2,h2⟩ Q hQ=>by
  rw [aA] at h1 h2; subst h1 h2
  obtain ⟨t,rfl⟩:=r1
  obtain ⟨t',rfl⟩:=r2
  rw [keyLt'_oneType]
  exact oneLt_int hQ
theorem qS (hc:X.calm=true) (I:Inv X aa σ H s) (sb:aN Hf H) (hA:X.A.units+60<cLine) (hH:Hf d=some (.frz o (.dK ys))) (hk:ys.map (·.1)=ns.map Np) (nd:ns.Nodup)
 (hQ:∀ (L':List Int) (xs':List V) (s':Shared) (H' ak:Hp) (a:Addr),L'.Perm ns->fN ltI b L'->av X.K ak (L'.map D.int) xs'->bw H Hf H' ak->H' a=none->Inv X aa σ (upd H' a (.lst xs')) s'->Q (.ref a) s') :
 wpAny (model X.prog X.w) X.A (call (.builtin "sorted") [.ref d] [(MY "reverse",.bool b)]) Q E s:=by
 refine call_function_entry_kw kind_sorted plain_sorted entry_sorted (args_sorted_rev _ _) ?_
 unfold Builtin.«sorted»
 refine MZ (m:=checkCount "sorted" 1 1 _) (M3 ?_)
 have h1:X.A.in1.handled=none:=I.ok.hd hc
 have h2:X.A.in1.frames=some X.stack:=I.ok.frames
 obtain ⟨vs,es,ep,e1,kv,da,hs,hz⟩:=oB I (sb _ _ hH)
 have hl:ys.length=vs.length:=Oj kv
 have hn:(ns.map D.int).length=ys.length:=by have:=congrArg Py hk; simp only [M8] at this |-; lia
 refine MZ (kW (X:=Dd X X.A.in1) (H:=H) (Hf:=Hf) (ds:=ns.map D.int) (T:="dict") hc h1 h2 (jo I (λ_=>h1) h2) sb da.lt_size (by lia) (by decide) (λs' k=>(da.keep k).dictOf.typeIs) (λA s' Q E q h=>nc q h) (λA s1 H1 E I1 sb1 k1=>?_) λus s' H' ak xs I' rv rr g hz'=>?_)
 ·refine wpAny_pyIter_dict hs (da.keep k1) ?_
  refine ⟨_,_,_,rfl,M4 _,I1.kept (t':=s1.toks) λb o e=>M9 _ e,xu e1,⟨_,Nl _ rfl,rfl,?_⟩,λb hb=>?_,λb o e=>M9 _ e,xw hH hk⟩
  ·rw [hl]; rfl
  ·obtain rfl:b=s1.heap.objs.size:=Nj.mp hb
   exact I1.lN (M4 _) (I1.hok.fresh (M4 _))
 ·have I2:=gp I.ok I'
  have el:=rr.length
  have el2:=rv.length
  refine Ad (b:=b) Dt I2 g.b ?_ rr rv (by lia) nd λL' xs' s2 p1 p2 p3 p4 I3=>hQ L' xs' s2 H' ak _ p1 p2 p3 g (I2.hok.fresh (M4 _)) I3
  show X.A.units+1+20<cLine
  lia
end
section
variable {K:M0} {c:Ctx P w K mg base k N sc bk}
theorem sS (hm:mg "sorted"=none) (h:aI c e ρ λd=>∃ (ns:List Int) (ds:List D),d=.fdK (ns.map Np) ds/\Sd ns.Nodup (∀ L':List Int,L'.Perm ns->fN ltI true L'->R (.ow (L'.map D.int))))
 (hg:sc.names.lookup (MY "sorted")=some .globalImplicit:=by walk_at "u")
 (he:∀ env,starEach [e] env=(false,eval e env)::starEach [] env:=by intro _; walk_at "u")
 (hpl:∀ env,(backTo pos (starEach [e] env)).any (·.1)=false:=by intro _; walk_at "u") :
 dJ c (.Call (.Name "sorted" np) [e] [⟨some "reverse",.Constant (.bool true) j kp1,kp⟩] pos) ρ R:=λσ H Hf Q S q aa s I=>by
 have hgl:Gl c.X "sorted":=by unfold Gl NY; rw [c.esc]; exact hg
 refine OO (eY I hgl (by rw [c.emg]; exact hm) (show bootBuiltins "sorted"=some (.builtin "sorted") by decide +kernel) ?_ (by decide) (by decide))
 refine callWith_kw ?_ (by rw [he]; rfl) (hpl _)
 have hpa:=cj (X:=c.X) (e:=e) (es:=[]) dI eZ (he _)
 refine bJ (hpa pos aa s σ H (λvs H1=>∃ x,vs=[x]/\∃ (ns:List Int) (ds:List D) (aU:Hp),Rep c.X.K aU (.fdK (ns.map Np) ds) x/\ns.Nodup/\bw H Hf H1 aU/\∀ L':List Int,L'.Perm ns->fN ltI true L'->R (.ow (L'.map D.int))) I ?_) λus s1 hh=>z2 hh λvs H1 hh=>w3 hh λI1 r1 hh=>hh.elim λx hh=>w2 hh λex hh=>z3 hh λns ds aU hh=>w4 hh λe1 e7 e8 e9=>?_
 ·exact h σ H Hf _ S λd v H1 aU ⟨ns,ds,hp,⟨hn,hR⟩⟩ rv g=>⟨_,rfl,ns,ds,aU,by rw [<- hp]; exact rv,hn,g,hR⟩
 ·subst ex
  obtain ⟨a0,ys,o,rfl,hs,hk,hr⟩:=iG.mp e1
  have eu:us=[.ref a0]:=by
   cases r1 with
   | cons q1 q2=>cases q2; cases q1; rfl
  subst eu
  refine kws_cons (bJ (EA (X:=c.X) (b:=true) (j:=j) (pos:=kp1) aa s1 σ _ (λx H2=>x=.bl true/\H2=H1) I1 ⟨rfl,rfl⟩) λkv s2 ⟨x,H2,I2,rx,e10,e11⟩=>kws_nil ?_)
  subst e10 e11
  have ek:kv=.bool true:=rx
  subst ek
  refine qS (b:=true) c.calm I2 e8.b ?_ hs hk e7 λL' xs' s' H' ak a p1 p2 p3 g na I3=>?_
  ·have:=c.room.un
   lia
  ·have gg:=e8.trans g
   exact ⟨.ref a,_,I3,rfl,q (.ow (L'.map D.int)) _ _ ak (e9 L' p1 p2) ⟨a,xs',rfl,gg.s.free na,ai,g.b.free na,p3⟩ (gg.trans (bw.f7 g.b na))⟩
end
theorem Du {Q:Value->Shared->Prop} (ho:s.heap.get? l=some o) (hc:o.cls=.type "tuple") (hd:o.data=.seq its.toArray n) (hk:0<=k) (hk2:k<2 ^ 63) (hz:its.length * k.toNat<=sizeLine) (hne:its≠[])
 (h1:k=1->Q (.ref l) s) (h2:k≠1->Q (.ref s.heap.objs.size) { s with heap:=s.heap.push { cls:=.type "tuple",data:=.seq (Nh k.toNat its).flatten.toArray } }) :
 wpAny (model prog w) A (Builtin.«tuple.__mul__» ⟨[.ref l,.int k u],[]⟩) (λfin s'=>∃ v,fin=.done (.ret v)/\Q v s') E s:=by
 unfold Builtin.«tuple.__mul__»
 show wpAny _ _ (asIndex (.int k u) >>= _) _ _ s
 have ea:asIndex (.int k u)=pure k:=rfl
 rw [ea]
 refine MZ (M3 ?_)
 have b1:(decide (k< -2 ^ 63) || decide (k>=2 ^ 63))=false:=by simp only [Bool.or_eq_false_iff,decide_eq_false_iff_not]; lia
 rw [if_neg (by rw [b1]; exact Nc)]
 dsimp only
 refine MZ (show wpAny _ _ (seqItems? (.ref l) >>= _) _ _ s from MZ (wpAny_seqItems ho hd (M3 ?_)))
 have hne':its.toArray.isEmpty=false:=by cases its with | nil=>exact absurd rfl hne | cons a r=>rfl
 rw [hne',Bool.false_or]
 by_cases e:k=1
 ·rw [if_pos (by simp [e])]
  refine MZ (MZ (O7 ⟨o,ho,hc⟩ (M3 ?_)))
  rw [if_pos (by decide)]
  exact MZ (Ol (M3 ⟨_,rfl,h1 e⟩))
 ·rw [if_neg (by simpa using e)]
  have h2':=h2 e
  by_cases e0:k=0
  ·subst e0
   rw [if_pos (by decide)]
   exact MZ (N5 (M3 ⟨_,rfl,h2'⟩))
  ·have hpos:0<k:=by lia
   rw [if_neg (by simp; lia)]
   have hm:(its.toArray.size:Int) * k=((its.length * k.toNat:Nat):Int):=by
    rw [Int.natCast_mul,Int.toNat_of_nonneg hk,Nq]
   have hs:(sizeLine:Nat)<=(2 ^ 63 - 1) / 8:=by decide
   rw [hm,if_neg (by lia),if_neg (by unfold Builtin.Tuple.tupleTooMany; simp only [decide_eq_true_eq]; lia)]
   have ef:=foldl_rep its k.toNat []
   rw [Rp] at ef
   show wpAny _ _ (newObj (.type "tuple") (.seq (Qi (λx1 x2=>x1++x2) ([]:List Value).toArray (Nh k.toNat its.toArray))) >>= _) _ _ _
   rw [ef]
   exact MZ (N5 (M3 ⟨_,rfl,h2'⟩) (hd:=by
    show (Nh k.toNat its).flatten.toArray.size<=sizeLine
    rw [Nq,len_rep,RH]; exact hz))
theorem sU:fillsNumberSlot (.type "tuple") "mul"=pure false:=PySem.fillsNumberSlot_seq (id:="tuple.__mul__") (r:=some (.builtin "tuple.__rmul__")) SM.lookup (by decide +kernel) F.slot_tuple_rmul.lookup (by decide +kernel)
theorem sV:seqRepeat? (.type "tuple")=pure (some (.builtin "tuple.__mul__")):=by
 unfold seqRepeat?
 rw [PySem.seqSlot_of (T:="tuple") (name:="__mul__") (id:="tuple.__mul__") SM.lookup (by decide +kernel),PySem.seqSlot_of (T:="tuple") (name:="__rmul__") (id:="tuple.__rmul__") F.slot_tuple_rmul.lookup (by decide +kernel)]
 rfl
theorem Av (a) (t:Tok) (l) (o) (items) (n) :
 Meets (Builtin.«int.__rmul__» ⟨[.int a t,.ref l],[]⟩) (λ_ R s=>s.heap.get? l=some o/\o.cls=.type "tuple"/\o.data=.seq items n/\R (.ok (.ret Value.notImplemented)) s) :=
 .of_wp λprog w A R ⟨hp,g,d,tk,os⟩ ⟨hl,hc,hd,h⟩=>by
  obtain ⟨c,dc,dt,sl⟩:=o
  obtain rfl:c=.type "tuple":=hc
  obtain rfl:dt=.seq items n:=hd
  wp_walk
  exact ⟨_,rfl,h⟩
noncomputable def JY (K:M0):R2:=λx y H Q=>∃ l k xs,x=.ref l/\y=.int k/\dh K H l xs/\xs≠[]/\0<=k/\k<2 ^ 63/\xs.length * k.toNat<=sizeLine/\(k=1->Q (.ref l) H)/\(k≠1->∀ p,H p=none->Q (.ref p) (upd H p (.tup (Nh k.toNat xs).flatten)))
theorem Dv:fH X (binaryOp .Mult) (JY X.K):=by
 intro aa s σ H x y v u Q I rx ry h
 obtain ⟨l,k,xs,rfl,rfl,hq,hne,h0,h1,hz,q1,q2⟩:=h
 cases rx
 obtain ⟨t,rfl⟩:=ry
 obtain ⟨its,r,pl,hz0⟩:=I.tuple hq
 obtain ⟨o,ho,hc,n,hd⟩:=pl
 have hl:=r.length
 refine wpAny_binaryOp_repeat_ref (T:="tuple") (U:="int") (by decide) ⟨o,ho,hc⟩ (λs'=>Qf s' k t) sU F.fills_int_mul Rr sV F.slot_int_index.lookup
  (Qg Rr (Qf s k t) F.entry_int_rmul (F.args_int_rmul_2 _ _) (Av k t l o _ _) ⟨ho,hc,hd,rfl,⟨o,ho,hc⟩,OA SM ⟨o,ho,hc⟩ F.entry_tuple_mul (Du (its:=its) ho hc hd h0 h1 (by rw [<- hl]; exact hz) (by rintro rfl; cases r; exact hne rfl) (λe=>?_) λe=>?_) (F.args_tuple_mul_2 _ _)⟩)
 ·exact ⟨.ref l,H,I,rfl,q1 e⟩
 ·have Hp:H s.heap.objs.size=none:=I.hok.fresh (M4 _)
  have hz2:(Nh k.toNat xs).flatten.length<=sizeLine:=by rw [len_rep,RH]; exact hz
  have IA:Inv X aa σ (upd H s.heap.objs.size (.tup (Nh k.toNat xs).flatten)) { s with heap:=s.heap.push { cls:=.type "tuple",data:=.seq (Nh k.toNat its).flatten.toArray },toks:=s.toks } :=
   I.laid (a:=s.heap.objs.size) (o:=.tup (Nh k.toNat xs).flatten) (λ_ _ q=>M9 _ q) (M4 _) ⟨hz2,_,r.rep k.toNat,_,Nl _ rfl,rfl,0,rfl⟩
  exact ⟨.ref s.heap.objs.size,_,IA,rfl,q2 e _ Hp⟩
section
variable {K:M0}
theorem GX (h:aI c a ρ λx=>aI c b ρ λy=>∃ ds n,x=.tup ds/\y=.int n/\Sd (ds≠[]/\0<=n/\n<2 ^ 63/\ds.length * n.toNat<=sizeLine) (R (.tup (Nh n.toNat ds).flatten))):aI c (.BinOp a .Mult b pos) ρ R:=λσ H Hf Q S q =>
 bZ (yk Dv dI dI) (h σ H Hf _ S λx v H1 aU h1 r1 g1=>h1 σ H1 aU _ (S.cH g1) λy u H2 c6 ⟨ds,n,e1,e2,⟨hne,n0,n1,hz⟩,hR⟩ r2 g2=>by
  subst e1 e2
  have r1':=Rep.mono g2.f _ r1
  obtain ⟨l,xs,rfl,k1,k2⟩:=aL.mp r1'
  rw [aA] at r2; subst r2
  have hl:=k2.length
  have g:=g1.trans g2
  refine ⟨l,n,xs,rfl,rfl,az g2.b k1,by rintro rfl; exact hne (List.eq_nil_of_length_eq_zero hl),n0,n1,by rw [<- hl]; exact hz,λe=>?_,λ_ p hp=>?_⟩
  ·subst e
   refine q _ _ H2 c6 hR ?_ g
   rw [show (Nh (1:Int).toNat ds).flatten=ds by simp]
   exact r1'
  ·have g3:=bw.new (o:=.tup (Nh n.toNat xs).flatten) g2.b hp
   exact q _ _ _ _ hR (aL.mpr ⟨p,_,rfl,.inl (.inl ai),(k2.mono g3.f).many _⟩) (g.trans g3))
end
section
variable {K:M0}
end
end EV
namespace EV
open PySem PySem.Spec PyProof.Rows L2
noncomputable def dig (b:Int):Nat->(Nat->Int)->Int
 | 0,_=>0
 | m+1,f=>f 0 * b ^ m+dig b m (λi=>f (i+1))
noncomputable abbrev bU (p:List Int) (i:Nat):Int:=p.getD i 0
noncomputable def pk (b:Int) (p:List Int):Int:=dig b 6 (bU p)
theorem iX:∀ {m:Nat} {f g:Nat->Int},(∀ i,i<m->f i=g i)->dig b m f=dig b m g
 | 0,_,_,_=>rfl
 | m+1,f,g,h=>by
  unfold dig
  rw [h 0 (by lia),iX (m:=m) λi hi=>h (i+1) (by lia)]
theorem vq:∀ (m:Nat) (f g:Nat->Int),dig b m (λi=>f i+g i)=dig b m f+dig b m g
 | 0,_,_=>rfl
 | m+1,f,g=>by
  unfold dig
  rw [vq m (λi=>f (i+1)) (λi=>g (i+1)),PD]
  lia
theorem iY:∀ (m:Nat),dig b m (λ_=>0)=0
 | 0=>rfl
 | m+1=>by unfold dig; rw [iY m,Px]; rfl
theorem iw (hb:0<b):∀ (m:Nat) (f:Nat->Int),(∀ i,i<m->0<=f i/\f i<b)->0<=dig b m f/\dig b m f<b ^ m
 | 0,_,_=>⟨Oe _,by show (0:Int)<b ^ 0; rw [Int.pow_zero]; decide⟩
 | m+1,f,h=>by
  have h0:=h 0 (by lia)
  have ih:=iw hb m (λi=>f (i+1)) λi hi=>h (i+1) (by lia)
  have hp:0<b ^ m:=Pz hb
  unfold dig
  rw [Int.pow_succ]
  have a1:0<=f 0 * b ^ m:=Int.mul_nonneg h0.1 (by lia)
  have a2:(f 0+1) * b ^ m<=b * b ^ m:=S0 (by lia) (by lia)
  rw [PD,RP] at a2
  rw [Int.mul_comm (b ^ m) b]
  lia
theorem vv (hb:0<b):∀ (m:Nat) (f:Nat->Int),(∀ i,i<m->0<=f i/\f i<b)->∀ i,i<m->dig b m f / b ^ (m - 1 - i) % b=f i
 | 0,_,_,_,hi=>absurd hi (Nat.not_lt_zero _)
 | m+1,f,h,i,hi=>by
  have ih:=vv hb m (λi=>f (i+1)) λi hi=>h (i+1) (by lia)
  have bd:=iw hb m (λi=>f (i+1)) λi hi=>h (i+1) (by lia)
  have hp:0<b ^ m:=Pz hb
  unfold dig
  cases i with
  | zero =>
   rw [show m+1 - 1 - 0=m by lia,RK,Int.add_mul_ediv_right _ _ (by lia),Int.ediv_eq_zero_of_lt bd.1 bd.2,QE]
   exact Int.emod_eq_of_lt (h 0 (by lia)).1 (h 0 (by lia)).2
  | succ i =>
   have e:b ^ m=b ^ (i+1) * b ^ (m - 1 - i):=by rw [<- Int.pow_add]; congr 1; lia
   have hq:0<b ^ (m - 1 - i):=Pz hb
   rw [show m+1 - 1 - (i+1)=m - 1 - i by lia,e,<- Qz,RK,Int.add_mul_ediv_right _ _ (by lia),Int.pow_succ,<- Qz,Int.add_mul_emod_self_right]
   exact ih i (by lia)
theorem ju (h:trim (x::p)=x::p):trim p=p:=by
 rcases List.eq_nil_or_concat p with rfl | ⟨r,z,rfl⟩
 ·rfl
 ·rw [List.concat_eq_append] at h |-
  by_cases e:z=0
  ·subst e
   rw [<- Pp,gK] at h
   have:=congrArg Py h
   have l:=gq (x::r)
   simp only [NN,NJ,OH] at this l
   lia
  ·exact m6 r e
theorem qT:∀ {p:List Int},trim p=p->p≠[]->(∀ x∈p,0<=x)->∃ i,i<p.length/\0<bU p i
 | [],_,h,_=>absurd rfl h
 | [x],h,_,h0=>by
  refine ⟨0,by simp,?_⟩
  have:x≠0:=by rintro rfl; simp [trim] at h
  have:=h0 x (by simp)
  show 0<x
  lia
 | x::y::p,h,_,h0=>by
  obtain ⟨i,hi,hq⟩:=qT (ju h) (by simp) λz hz=>h0 z (Ni _ hz)
  exact ⟨i+1,by simp only [NN] at *; lia,by simpa [bU] using hq⟩
theorem vz (hb:0<b):∀ (m:Nat) (f:Nat->Int),(∀ i,i<m->0<=f i/\f i<b)->(∃ i,i<m/\0<f i)->0<dig b m f
 | 0,_,_,h=>by obtain ⟨i,hi,_⟩:=h; lia
 | m+1,f,h,⟨i,hi,hq⟩=>by
  have bd:=iw hb m (λi=>f (i+1)) λi hi=>h (i+1) (by lia)
  have hp:0<b ^ m:=Pz hb
  unfold dig
  cases i with
  | zero =>
   have:=Int.mul_pos hq hp
   lia
  | succ i =>
   have:=vz hb m (λi=>f (i+1)) (λi hi=>h (i+1) (by lia)) ⟨i,by lia,hq⟩
   have:=Int.mul_nonneg (h 0 (by lia)).1 (show 0<=b ^ m by lia)
   lia
theorem Aw (hb:0<b):∀ (m:Nat) (p q:List Int),trim p=p->trim q=q->p.length<=m->q.length<=m->(∀ x∈p,0<=x/\x<b)->(∀ x∈q,0<=x/\x<b)->HT.lexLt p q=true->dig b m (bU p)<dig b m (bU q)
 | m,[],[],_,_,_,_,_,_,h=>by cases h
 | m,[],y::q,_,tq,_,lq,_,hq,_=>by
  have e:dig b m (bU [])=0:=by
   rw [show bU ([]:List Int)=λ_=>0 from funext λi=>by simp [bU]]; exact iY m
  rw [e]
  obtain ⟨i,hi,h0⟩:=qT tq (by simp) λx hx=>(hq x hx).1
  refine vz hb m _ (λj hj=>?_) ⟨i,by lia,h0⟩
  by_cases z:j<(y::q).length
  ·have:bU (y::q) j=(y::q)[j]:=by unfold bU; rw [Oa,Nr z]; rfl
   rw [this]; exact hq _ (NL _)
  ·have:bU (y::q) j=0:=by simp only [bU,Oa,OE (by lia:(y::q).length<=j)]; rfl
   rw [this]; lia
 | m,x::p,[],_,_,_,_,_,_,h=>by cases h
 | 0,x::p,y::q,_,_,lp,_,_,_,_=>by simp at lp
 | m+1,x::p,y::q,tp,tq,lp,lq,hp,hq,h=>by
  simp only [NN] at lp lq
  rw [HT.cG] at h
  have rd:∀ (r:List Int),(∀ z∈r,0<=z/\z<b)->∀ j,0<=bU r j/\bU r j<b:=λr hr j=>by
   by_cases z:j<r.length
   ·have:bU r j=r[j]:=by unfold bU; rw [Oa,Nr z]; rfl
    rw [this]; exact hr _ (NL _)
   ·have:bU r j=0:=by simp only [bU,Oa,OE (by lia:r.length<=j)]; rfl
    rw [this]; lia
  have hp':∀ z∈p,0<=z/\z<b:=λz hz=>hp z (Ni _ hz)
  have hq':∀ z∈q,0<=z/\z<b:=λz hz=>hq z (Ni _ hz)
  unfold dig
  show x * b ^ m+dig b m (bU p)<y * b ^ m+dig b m (bU q)
  by_cases e:x=y
  ·rw [if_pos e] at h
   subst e
   have:=Aw hb m p q (ju tp) (ju tq) (by lia) (by lia) hp' hq' h
   lia
  ·rw [if_neg e] at h
   have hxy:x<y:=of_decide_eq_true h
   have b1:=iw hb m (bU p) λi _=>rd p hp' i
   have b2:=iw hb m (bU q) λi _=>rd q hq' i
   have a2:(x+1) * b ^ m<=y * b ^ m:=S0 (by lia) (by have hh:0<b ^ m:=Pz hb; lia)
   rw [PD,RP] at a2
   lia
def Bd (b:Int) (p:List Int):Prop:=p.length<=6/\∀ x∈p,0<=x/\x<b
theorem dN (z:j<p.length):bU p j=p[j]:=by unfold bU; rw [Oa,Nr z]; rfl
theorem cP (z:p.length<=j):bU p j=0:=by unfold bU; rw [Oa,OE z]; rfl
theorem E1 (hb:0<b) (h:Bd b p) (i):0<=bU p i/\bU p i<b:=by
 by_cases z:i<p.length
 ·rw [dN z]; exact h.2 _ (NL _)
 ·rw [cP (by lia)]; lia
theorem qU (p):∃ m,p=trim p++Nh m 0:=by
 suffices H:∀ r:List Int,∃ m,r=Nh m 0++r.dropWhile λx=>x == 0 by
  obtain ⟨m,h⟩:=H p.reverse
  refine ⟨m,?_⟩
  have:=congrArg List.reverse h
  rw [List.reverse_reverse,Sg,List.reverse_replicate] at this
  exact this
 intro r
 induction r with
 | nil=>exact ⟨0,rfl⟩
 | cons x r ih =>
  by_cases e:x=0
  ·subst e
   obtain ⟨m,h⟩:=ih
   refine ⟨m+1,?_⟩
   rw [OJ,List.dropWhile_cons_of_pos (by simp),Pp,<- h]
  ·exact ⟨0,by rw [List.dropWhile_cons_of_neg (by simpa using e)]; rfl⟩
theorem eE (p) (i):bU (trim p) i=bU p i:=by
 obtain ⟨m,h⟩:=qU p
 by_cases z:i<(trim p).length
 ·have e:bU p i=bU (trim p++Nh m 0) i:=by rw [<- h]
  rw [e]
  unfold bU
  simp only [Oa]
  rw [OY z]
 ·rw [cP (by lia)]
  have e:bU p i=bU (trim p++Nh m 0) i:=by rw [<- h]
  rw [e]
  unfold bU
  simp only [Oa]
  rw [PN (by lia),R3]
  split <;> rfl
theorem Dw (b) (p):pk b (trim p)=pk b p:=iX λi _=>eE p i
theorem qV (h:x∈trim p):x∈p:=by
 obtain ⟨m,e⟩:=qU p
 rw [e]; exact Q5 _ h
theorem oE (h:Bd b p):Bd b (trim p):=⟨Nb (gq p) h.1,λx hx=>h.2 x (qV hx)⟩
theorem Ax (hb:0<b) (hp:Bd b p) (hq:Bd b q) (tp:trim p=p) (tq:trim q=q) (h:HT.lexLt p q=true):pk b p<pk b q:=Aw hb 6 p q tp tq hp.1 hq.1 hp.2 hq.2 h
theorem sW (hb:0<b) (hp:Bd b p) (hq:Bd b q) (tp:trim p=p) (tq:trim q=q) (h:pk b p=pk b q):p=q:=by
 by_cases e:p=q
 ·exact e
 ·exfalso
  rcases j4 e with z | z
  ·have:=Ax hb hp hq tp tq z; lia
  ·have:=Ax hb hq hp tq tp z; lia
noncomputable def KU (b:Int) (key:Int):List Int:=trim ((NP 6).map λ(i:Nat)=>key / b ^ (5 - i) % b)
theorem GY (hb:0<b) (h:Bd b p):KU b (pk b p)=trim p:=by
 have e:((NP 6).map λ(i:Nat)=>pk b p / b ^ (5 - i) % b)=p++Nh (6 - p.length) 0:=by
  refine Rl (by simp; have:=h.1; lia) λi h1 h2=>?_
  have hi:i<6:=by simpa using h1
  rw [SI,Sm]
  have:=vv hb 6 (bU p) (λj _=>E1 hb h j) i hi
  rw [show 6 - 1 - i=5 - i by lia] at this
  rw [show pk b p=dig b 6 (bU p) from rfl,this]
  by_cases z:i<p.length
  ·rw [dN z,List.getElem_append_left z]
  ·rw [cP (by lia),List.getElem_append_right (by lia),List.getElem_replicate]
 unfold KU
 rw [e]
 generalize 6 - p.length=m
 induction m with
 | zero=>simp
 | succ m ih=>rw [List.replicate_succ',<- Nz,gK]; exact ih
noncomputable def cK (B:List (Int×Int)):List (Key×D):=B.map λx=>(.inl x.1,.int x.2)
theorem iZ (B) (k):bx (cK B) (.inl k)=(bx B k).map D.int:=by
 induction B with
 | nil=>rfl
 | cons t B ih =>
  by_cases e:t.1=k
  ·rw [bf e]
   show bx ((Np t.1,D.int t.2)::cK B) _=_
   rw [bf (by rw [e])]; rfl
  ·rw [aV e,<- ih]
   show bx ((Np t.1,D.int t.2)::cK B) _=_
   rw [aV λz=>e (Np.inj z)]
theorem qW (B) (k n):putD (cK B) (.inl k) (.int n)=cK (putD B k n):=by
 unfold putD
 rw [iZ]
 by_cases h:(bx B k).isSome=true
 ·rw [if_pos h,if_pos (by rw [Pk]; exact h)]
  unfold cK
  rw [Nt,Nt]
  refine ON λt _=>?_
  simp only [RC]
  by_cases e:t.1=k
  ·rw [if_pos e,if_pos (by rw [e])]
  ·rw [if_neg e,if_neg λz=>e (Np.inj z)]
 ·rw [if_neg h,if_neg (by rw [Pk]; exact h)]
  unfold cK
  simp
noncomputable def gu (b:Int) (t:aD):Int×Int:=(pk b t.1,t.2)
def Gd (b:Int) (A:List aD):Prop:=∀ t∈A,Bd b t.1/\trim t.1=t.1
theorem sX (hb:0<b) (h:Gd b A) (hp:Bd b p) (tp:trim p=p):bx (A.map (gu b)) (pk b p)=bx A p:=by
 induction A with
 | nil=>rfl
 | cons t A ih =>
  have ih:=ih λx hx=>h x (Ni _ hx)
  have ht:=h t Ng
  by_cases e:t.1=p
  ·rw [bf e,M7,bf (show (gu b t).1=pk b p by unfold gu; rw [e])]; rfl
  ·rw [aV e,M7,aV λz=>e (sW hb ht.1 hp ht.2 tp z),ih]
theorem GZ (hb:0<b) (h:Gd b A) (hp:Bd b p) (tp:trim p=p):putD (A.map (gu b)) (pk b p) n=(putD A p n).map (gu b):=by
 unfold putD
 rw [sX hb h hp tp]
 split
 ·rw [Nt,Nt]
  refine ON λt ht=>?_
  simp only [RC]
  by_cases e:t.1=p
  ·rw [if_pos e,if_pos (show (gu b t).1=pk b p by unfold gu; rw [e])]; rfl
  ·rw [if_neg e,if_neg (show ¬ (gu b t).1=pk b p from λz=>e (sW hb (h t ht).1 hp (h t ht).2 tp z))]
 ·simp [gu]
theorem G0 (h:Gd b A) (hp:Bd b p) (tp:trim p=p):Gd b (putD A p n):=λt ht=>by
 rcases ou ht with e | e
 ·rw [e]; exact ⟨hp,tp⟩
 ·exact h t e
theorem oF (h:∀ t∈ts,Bd b t.1):Gd b (aJ ts):=by
 unfold aJ
 suffices H:∀ A,Gd b A->Gd b (ts.foldl fO A) from H [] (λ_ h=>by cases h)
 induction ts with
 | nil=>exact λA h=>h
 | cons u ts ih=>exact λA hA=>ih (λt ht=>h t (Ni _ ht)) _ (G0 hA (oE (h u Ng)) (cA _))
theorem G1 (hb:0<b) (h:∀ t∈ts,Bd b t.1) (ht:Bd b t.1) :
 putD ((aJ ts).map (gu b)) (pk b t.1) ((bx ((aJ ts).map (gu b)) (pk b t.1)).getD 0+t.2)=(aJ (ts++[t])).map (gu b):=by
 rw [qN]
 unfold fO
 rw [<- Dw b t.1,sX hb (oF h) (oE ht) (cA _),GZ hb (oF h) (oE ht) (cA _)]
theorem qX:∀ {L M:List Int},L.Perm M->L.Pairwise (λx y=>y<x)->M.Pairwise (λx y=>y<x)->L=M
 | [],M,h,_,_=>by rw [List.nil_perm] at h; exact h.symm
 | x::L,[],h,_,_=>by simp at h
 | x::L,y::M,h,h1,h2=>by
  rw [P4] at h1 h2
  by_cases e:x=y
  ·subst e
   rw [qX ((List.perm_cons _).mp h) h1.2 h2.2]
  ·exfalso
   have hx:x∈M:=(Nm.mp (h.subset Ng)).resolve_left e
   have hy:y∈L:=(Nm.mp (h.symm.subset Ng)).resolve_left (Nv e)
   have a:=h1.1 y hy
   have b:=h2.1 x hx
   lia
theorem oG {A:List aD} (hk:(A.map (·.1)).Nodup) {t:aD} (h:t∈A):bx A t.1=some t.2:=by
 induction A with
 | nil=>cases h
 | cons u A ih =>
  rw [M7,O3] at hk
  rcases Nm.mp h with rfl | h
  ·exact bf rfl
  ·rw [aV λe=>hk.1 (by rw [e]; exact List.mem_map_of_mem h)]
   exact ih hk.2 h
theorem Ay (hb:0<b) (h:∀ t∈ts,Bd b t.1) (hp:L'.Perm (((aJ ts).map (gu b)).map (·.1))) (hs:L'.Pairwise λx y=>y<x):L'=(fE (aJ ts)).map λt=>pk b t.1:=by
 have hg:=oF h
 have hk:=eB ts
 generalize aJ ts=A at *
 refine qX (hp.trans ?_) hs ?_
 ·rw [Nt]
  exact ((bB A).map _).symm
 ·rw [OQ]
  have hs2:=gO (keys_nodup hk)
  have hm:∀ t∈fE A,t∈A:=λt ht=>(bB A).subset ht
  have hk2:(fE A).Pairwise λx y=>x.1≠y.1:=by
   have:=((bB A).map (·.1)).nodup_iff.mpr hk
   unfold QG at this
   rwa [OQ] at this
  unfold iW fN at hs2
  refine RT.imp_of_mem (R:=λx y=>(if true then cO y x=true else cO x y=true)/\x.1≠y.1) (λ{x y} hx hy q=>?_) (hs2.and hk2)
  obtain ⟨q1,q2⟩:=q
  rw [if_pos rfl] at q1
  unfold cO at q1
  rw [if_neg (Nv q2)] at q1
  exact Ax hb (hg _ (hm _ hy)).1 (hg _ (hm _ hx)).1 (hg _ (hm _ hy)).2 (hg _ (hm _ hx)).2 q1
noncomputable def Dy (b:Int) (p:List Int):Int:=p.foldl (λa x=>a * b+x) 0
theorem Az (b) (p) (x):Dy b (p++[x])=Dy b p * b+x:=by unfold Dy; rw [SA]; rfl
theorem qY (b):∀ (p:List Int) (a:Int),p.foldl (λa x=>a * b+x) a=a * b ^ p.length+dig b p.length (bU p)
 | [],a=>by simp [dig]
 | x::p,a=>by
  rw [Ou,qY b p]
  show (a * b+x) * b ^ p.length+_=a * b ^ (p.length+1)+(x * b ^ p.length+dig b p.length (bU p))
  rw [PD,Int.pow_succ,Qz,Int.mul_comm b (b ^ p.length)]
  lia
theorem vA (b) (p):Dy b p=dig b p.length (bU p):=by unfold Dy; rw [qY]; lia
theorem qZ (k):∀ (m:Nat) (f:Nat->Int),(∀ i,m<=i->f i=0)->dig b (m+k) f=dig b m f * b ^ k
 | 0,f,h=>by
  rw [O8,iX (g:=λ_=>0) λi _=>h i (ND _),iY]
  show 0=0 * b ^ k
  rw [Px]
 | m+1,f,h=>by
  rw [show m+1+k=(m+k)+1 by lia]
  unfold dig
  rw [qZ k m (λi=>f (i+1)) λi hi=>h (i+1) (by lia),PD,Int.pow_add,Qz]
theorem G2 (h:p.length<=6):Dy b p * b ^ (6 - p.length)=pk b p:=by
 rw [vA,<- qZ (6 - p.length) p.length (bU p) λi hi=>cP hi]
 rw [show p.length+(6 - p.length)=6 by lia]
 rfl
theorem AA (hb:0<b) (h:∀ x∈p,0<=x/\x<b):0<=Dy b p/\Dy b p<b ^ p.length:=by
 rw [vA]
 exact iw hb _ _ λi hi=>by rw [dN hi]; exact h _ (NL _)
theorem JZ (hb:0<b) (h:Bd b p):0<=pk b p/\pk b p<b ^ 6:=iw hb _ _ λi _=>E1 hb h i
theorem two_pos (W):(0:Int)<2 ^ W:=Pz (by decide)
theorem gP (W):((2:Int) ^ W)=((2 ^ W:Nat):Int):=by rw [Int.natCast_pow]; rfl
theorem AB (hW:W<=10) (hn:n<=6):((2:Int) ^ W) ^ n<=2 ^ 60:=by
 rw [<- Int.pow_mul,gP,gP]
 exact Int.ofNat_le.mpr (Sa (by decide) (Nb (O5 hW hn) (by decide)))
theorem vB (hW:W<=10) (hn:n<=6) (h0:0<=x) (h:x<((2:Int) ^ W) ^ n):x.natAbs<2 ^ 64:=by
 have:=AB hW hn
 have h60:(2:Int) ^ 60<2 ^ 64:=by decide
 have:x<((2 ^ 64:Nat):Int):=by rw [<- gP]; lia
 lia
theorem xx (W) (h:0<=x):Builtin.bitAnd x (1 * 2 ^ W - 1)=x % 2 ^ W:=by
 have hp:=two_pos W
 have e0:(1:Int) * 2 ^ W - 1=((2 ^ W - 1:Nat):Int):=by
  have:0<2 ^ W:=Nat.pow_pos (by decide)
  rw [RP,gP]; lia
 rw [e0]
 show (match decide (0<=x),decide (0<=((2 ^ W - 1:Nat):Int)) with
  | true,true=>(((x.toNat &&& (((2 ^ W - 1:Nat):Int)).toNat:Nat)):Int)
  | true,false=>_ | false,true=>_ | false,false=>_)=_
 rw [decide_eq_true h,decide_eq_true (Int.natCast_nonneg _)]
 show ((x.toNat &&& (2 ^ W - 1):Nat):Int)=_
 rw [Nat.and_two_pow_sub_one_eq_mod,gP,Int.natCast_emod,Int.toNat_of_nonneg h]
noncomputable def cD (p q:List Int):List Int:=(NP (max p.length q.length)).map λk=>bU p k+bU q k
noncomputable def dO (l r:aD):aD:=(cD l.1 r.1,l.2 * r.2)
noncomputable def aM (A B:List aD):List aD:=A.flatMap λl=>B.map (dO l)
theorem i6 (p q):(cD p q).length=max p.length q.length:=by simp [cD]
theorem b9 (p q) (i):bU (cD p q) i=bU p i+bU q i:=by
 by_cases z:i<max p.length q.length
 ·rw [dN (by rw [i6]; exact z)]; simp [cD]
 ·rw [cP (by rw [i6]; lia),cP (by lia),cP (by lia)]; rfl
theorem Dz (b) (p q):pk b (cD p q)=pk b p+pk b q:=by
 unfold pk
 rw [<- vq]
 exact iX λi _=>b9 p q i
theorem gv (h:t∈aM A B):∃ l∈A,∃ r∈B,t=dO l r:=by
 unfold aM at h
 obtain ⟨l,hl,h⟩:=Rj.mp h
 obtain ⟨r,hr,rfl⟩:=N1.mp h
 exact ⟨l,hl,r,hr,rfl⟩
theorem ng (A B) (l):aM (A++[l]) B=aM A B++B.map (dO l):=by
 unfold aM
 rw [List.flatMap_append,P7,SJ,N7]
theorem cQ (A B):(aM A B).length=A.length * B.length:=by
 induction A with
 | nil=>simp [aM]
 | cons a A ih =>
  unfold aM at *
  rw [P7,NJ,ih,M8,NN,Qc]
  lia
end EV
namespace EV
open PySem PySem.Spec PySem.Calls PyProof.Rows L2
theorem AD {K:M0}:∀ {kvs:List (Key×D)} {ys:List (Key×V)},ys.map (·.1)=kvs.map (·.1)->av K H (kvs.map (·.2)) (ys.map (·.2))->lH K H kvs ys
 | [],[],_,_=>.nil
 | [],y::ys,h,_=>by simp at h
 | x::kvs,[],h,_=>by simp at h
 | x::kvs,y::ys,h,r=>by
  rw [M7,M7] at h r
  obtain ⟨v,t,e,r1,r2⟩:=aF.mp r
  injection e with e1 e2
  injection h with h1 h2
  subst e1 e2
  exact .cons ⟨h1.symm,r1⟩ (AD h2 r2)
section
variable {K:M0}
theorem G3 (h:aI c a ρ λx=>aI c b ρ λy=>∃ (kvs:List (Key×D)) (kk:Key) (d:D),x=.fdK (kvs.map (·.1)) (kvs.map (·.2))/\y.wF=some kk/\bx kvs kk=some d/\R d) (hs:Cj b:=by with_unfolding_all exact λ_ _=>rfl):aI c (.Subscript a b pos) ρ R:=λσ H Hf Q S q =>
 bZ (uv c.hu dI dI hs) (h σ H Hf _ S λx v H1 aU h1 r1 g1=>h1 σ H1 aU _ (S.cH g1) λy u H2 c6 ⟨kvs,kk,d,e1,e2,e3,hR⟩ r2 g2=>by
  subst e1
  obtain ⟨p,ys,o,rfl,k1,k2,k3⟩:=iG.mp r1
  have kv:=(AD k2 k3).mono g2.f
  have rel:=kv.val kk
  rw [e3] at rel
  rw [iN e2 r2]
  cases z:kj ys kk with
  | none=>rw [z] at rel; exact rel.elim
  | some v =>
   rw [z] at rel
   exact ⟨p,v,rfl,.inl ⟨ys,kk,.inr ⟨o,g2.b _ _ (g2.f _ _ k1)⟩,rfl,z.symm⟩,q d v H2 c6 hR rel (g1.trans g2)⟩)
end
end EV
namespace EV
open PySem PySem.Spec PyProof.Rows L2
theorem q8 {A:List aD} {l:List Int} {n:Int} {t:aD} (h:t∈putD A l n):t=(l,n)\/t∈A:=by
 unfold putD at h
 split at h
 ·obtain ⟨u,hu,e⟩:=N1.mp h
  split at e
  ·rename_i q; subst e; exact .inl (by rw [q])
  ·subst e; exact .inr hu
 ·rcases NF.mp h with q | q
  ·exact .inr q
  ·simp at q; exact .inl q
theorem G4 {A:List aD} (h:∀ t∈A,t.2.natAbs<=c) (l):((bx A l).getD 0).natAbs<=c:=by
 unfold bx
 cases e:A.find? (λkv=>decide (kv.1=l)) with
 | none=>exact ND _
 | some u=>exact h u (List.mem_of_find?_eq_some e)
theorem vC:∀ (ts A:List aD) (c:Nat),(∀ t∈A,t.2.natAbs<=c)->(∀ t∈ts,t.2.natAbs<=m)->∀ t∈ts.foldl fO A,t.2.natAbs<=c+ts.length * m
 | [],A,c,h,_,t,ht=>by simpa using h t ht
 | u::ts,A,c,h,g,t,ht=>by
  have:=vC (m:=m) ts (fO A u) (c+m) (λt' ht'=>by
   rcases q8 ht' with rfl | q
   ·have a:=G4 h (trim u.1)
    have b:=g u Ng
    show ((bx A (trim u.1)).getD 0+u.2).natAbs<=c+m
    omega
   ·have:=h t' q; omega) (λt h=>g t (Ni _ h)) t ht
  rw [NN,Qc]
  omega
theorem G5 (h:∀ t∈ts,t.2.natAbs<=m):∀ t∈aJ ts,t.2.natAbs<=ts.length * m:=λt ht=>by
 have:=vC ts [] 0 (by simp) h t ht
 omega
theorem xy (l m:List Int):lJ (n+1) (.tup (l.map D.int)) (.tup (m.map D.int)):=.tup λi d e h1 h2=>by
 simp only [Nd,Nk] at h1 h2
 obtain ⟨a,_,rfl⟩:=h1
 obtain ⟨b,_,rfl⟩:=h2
 exact .sc rfl
theorem q9 (x y):lJ (n+2) (aS x) (aS y):=.tup λi d e h1 h2=>by
 rcases i with _ | _ | i
 ·simp at h1 h2; subst h1 h2; exact xy _ _
 ·simp at h1 h2; subst h1 h2; exact .sc rfl
 ·simp at h1
theorem rg (L M:List aD):lJ (n+3) (.lst (L.map aS)) (.lst (M.map aS)):=.lst λi d e h1 h2=>by
 simp only [Nd,Nk] at h1 h2
 obtain ⟨a,_,rfl⟩:=h1
 obtain ⟨b,_,rfl⟩:=h2
 exact q9 a b
theorem ri (es):pX [] es:=λi d e h _=>by simp at h
theorem nh (h:lJ 40 d e) (t:pX ds es):pX (d::ds) (e::es):=λi a b h1 h2=>by
 cases i with
 | zero=>simp at h1 h2; subst h1 h2; exact h
 | succ i=>exact t i a b (by simpa using h1) (by simpa using h2)
theorem jv (L M:List aD):pX (L.map aS) (M.map aS):=λi d e h1 h2=>by
 simp only [Nd,Nk] at h1 h2
 obtain ⟨a,_,rfl⟩:=h1
 obtain ⟨b,_,rfl⟩:=h2
 exact q9 a b
theorem gw (h:pX ds ds) (t:T true):yL (.lst ds) (.lst ds) T:=Cs ⟨h,by rw [decide_eq_true rfl]; exact t⟩
section
variable {K:M0}
theorem int_mk (KX:K.In h) (G:h.Ns mainGlobals mg) (a:NZ K mainGlobals x=some (some (.int i tk))):∃ tk:Tok,mg x=some (.int i tk):=⟨tk,PySem.W.mg_of KX G a⟩
theorem vD (P) (w) (base) {st:Stmt} (D:ay K mg x st) (ok:∀ {f:Addr} {fd:FuncData},dQ K x x st f fd->aZ P w K mg base (c9 P w) k f fd ps (GO K F))
 (hb:∀ (kV doc pm:Value) (an:Option Addr) (cdv ct:Value) (us:List Value),us.length=ps.length->bindArgs (OV x x (fJ st) (au st) (aQ st) .none kV doc pm an cdv ct) ⟨us,[]⟩=pure (ps.zip us):=by intro _ _ _ _ _ _ us hl; first | (obtain ⟨a,rfl⟩:=JI us hl; rfl) | (obtain ⟨a,b,rfl⟩:=JJ us hl; rfl) | (obtain ⟨a,b,c,rfl⟩:=JK us hl; rfl) | (obtain ⟨a,b,c,d,rfl⟩:=JL us hl; rfl) | (obtain ⟨a,b,c,d,e,rfl⟩:=len5 us hl; rfl) | (obtain ⟨a,b,c,d,e,f,rfl⟩:=len6 us hl; rfl) | (obtain rfl:=len0 us hl; rfl)):Dn P w K mg base k x F :=
 let ⟨f,fd,m,Fu⟩:=D; ⟨f,fd,ps,m,Fu.kp,Fu.binds hb,ok Fu⟩
end
structure oH (P:Program) (w:World) (K:M0) (mg:Str->Option Value) (base:Heap) (k:Nat) (f:Addr) (F:Fn):Prop where
 ex:∃ fd ps,OL K (.ref f)=true/\Binds K fd ps []/\aZ P w K mg base (c9 P w) k f fd ps (dM K F)
section
variable {K:M0} {c:Ctx P w K mg base k N sc bk}
theorem c7.at_ (h:c7 P w K mg base j x F):∃ f,mg x=some (.ref f)/\oH P w K mg base j f F:=by
 obtain ⟨f,fd,ps,a,b,c,d⟩:=h.ex
 exact ⟨f,a,fd,ps,b,c,d⟩
theorem iy (hm:mg x=some (.ref f)) (hR:R (.adr f)) (hg:sc.names.lookup x=some .globalImplicit:=by walk_at "u") (hd:(x == ("__debug__":Str))=false:=by decide) :
 aI c (.Name x pos) ρ R:=λσ H Hf Q S q =>
 bZ (uc (X:=c.X) (v:=.ref f) (u:=.ref f) (by unfold Gl NY; rw [c.esc]; exact hg) (by rw [c.emg]; exact hm) rfl hd) (q _ _ H Hf hR (pV.mpr rfl) (.refl S.sb))
theorem AE (h:oH P w K mg base j f F) (hj:j<=k):OL K (.ref f)=true /\
 ∀ (aa:List (Addr×Obj)) (σ:L2.St) (H Hf:Hp) (s:Shared) (us:List Value) (vs:List V) (ds:List D) (r:Res) (Q:VK),Inv c.X aa σ H s->bu c σ H Hf ρ->Vals vs us->av c.X.K Hf ds vs->F ds r ->
  (∀ sl v H' ak,r=.ok sl->bh c.X.K (λp=>H p=none) H' ak sl v->bw H Hf H' ak->Q v H')->(∀ C,r=.ex C->c.RX C ρ)->wpAny (model c.X.prog c.X.w) c.X.A (call (.ref f) us) (EP c.X aa σ Q) c.X.xe s:=by
 obtain ⟨fd,ps,hk,hb,hF⟩:=h.ex
 refine ⟨hk,λaa σ H Hf s us vs ds r Q I S rv rs hr q hx=>?_⟩
 have hF':aZ c.X.prog c.X.w c.X.K c.X.mg c.X.base (c9 c.X.prog c.X.w) k f fd ps (dM c.X.K F):=by rw [c.eP,c.ew,c.eK,c.emg,c.eb]; exact hF.mono hj
 have tY:dM c.X.K F vs H Q (λcv ao H'=>∃ C,r=.ex C/\cv=.ref C/\aN H H'):=by
  refine ⟨Hf,ds,r,S.bas.b,rs,hr,?_⟩
  cases r with
  | ok sl=>exact λv H' ak g rs2=>q sl v H' ak rfl rs2 g
  | ex C=>exact λa H' s2=>⟨C,rfl,rfl,s2⟩
 have hl:us.length=ps.length:=by rw [<- rv.length]; exact hF'.len _ _ _ _ tY
 have hb':Binds c.X.K fd ps []:=by rw [c.eK]; exact hb
 have hb2:=hb' s us I.BI (by simpa using hl)
 rw [N7] at hb2
 refine wpAny_call (QD (hF'.run c.X.A c.X.stack s H ⟨us,[]⟩ us vs Q _ c.room I.FW hb2 rv tY) λr' s' hq=>?_)
 cases r' with
 | error e =>
  obtain ⟨a,C,H',rfl,hE,C',e1,e2,sm⟩:=hq
  cases e2
  exact c.exc C a aa σ H Hf ρ s H' s' I S (hx C e1) hE sm
 | ok fl =>
  cases fl with
  | ret u=>exact I.after hq
  | next=>exact Oc hq
  | brk=>exact Oc hq
  | cont=>exact Oc hq
theorem fP {R:Sl->Prop} (h:oH P w K mg base j f F) (hj:j<=k) (hN:At N i x) (hi:At ρ i (.va (.adr f)))
 (ha:pW c (e::es) ρ λds=>∃ r,F ds r/\Gm c ρ R r)
 (hdb:(x == ("__debug__":Str))=false:=by decide) (hcd:(x == ("__classdict__":Str))=false:=by decide) (he:∀ env,starEach (e::es) env=(false,eval e env)::starEach es env:=by intro _; walk_at "u")
 (hpl:∀ env,(backTo pos (starEach es env)).any (·.1)=false:=by intro _; walk_at "u"):dJ c (.Call (.Name x p) (e::es) [] pos) ρ R:=λσ H Hf Q S q aa s I=>by
 obtain ⟨hk,run⟩:=AE (c:=c) (ρ:=ρ) h hj
 obtain ⟨v0,e0,r0⟩:=S.va hi.get
 rw [pV] at r0
 subst r0
 refine OO (bJ (c.nV hN hdb hcd aa s σ H (λv H1=>v=.ref f/\H1=H) I ⟨_,e0,rfl,rfl⟩) λfv s1 ⟨v,H1,I1,rv,e1,e2⟩=>?_)
 subst e1 e2
 have ef:fv=.ref f:=rv
 subst ef
 refine Sk (h₀:=c.X.base) I1.ok.mod.kin (by rw [c.eK]; exact hk) (bJ (ha σ _ Hf (λvs H1=>∃ aU ds,(∃ r,F ds r/\Gm c ρ R r)/\av c.X.K aU ds vs/\bw _ Hf H1 aU) S (λds vs H1 aU hr rs g=>⟨aU,ds,hr,rs,g⟩) pos aa s1 I1) λus s2 ⟨vs,H2,I2,rv,aU,ds,⟨r,hF,hR⟩,rs,g⟩=>⟨I2.BI,?_⟩) (he _) (hpl _)
 refine run aa σ H2 aU s2 us vs ds r Q I2 (S.cH g) rv rs hF (λsl v H' ak e1 rs2 g2=>?_) λC e1=>?_
 ·subst e1
  exact q sl v H' ak hR (rs2.weak λp hp=>g.s.free hp) (g.trans g2)
 ·subst e1
  exact hR
end
end EV
namespace EV
open PySem PySem.Spec PySem.Calls PyProof.Rows L2
theorem xA (hc:X.calm=true) (I:Inv X aa σ H s) (sb:aN Hf H) (hv:s.heap.IsItemsView v d) (hH:Hf d=some (.frz o u)) (hd:HO.dct u) (hp:Paired (mQ X.K Hf) ds (bM u))
 (hQ:∀ (a:Addr) (s':Shared) (H' ak:Hp) (xs:List V),Inv X aa σ H' s'->H' a=some (.lst xs)->H a=none->ak a=none->av X.K ak ds xs->bw H Hf H' ak->Q (.ref a) s'):wpAny (model X.prog X.w) X.A (call (.type "list") [.ref v]) Q E s:=by
 obtain ⟨ho,ok⟩:=(show bq X.prog X.w H s.heap d (.frz o u) from I.hok d _ (sb _ _ hH))
 obtain ⟨_,_,_,_,_,_,hz⟩:=cI ok hd ho
 have h1:X.A.in1.handled=none:=I.ok.hd hc
 have h2:X.A.in1.frames=some X.stack:=I.ok.frames
 refine callType_codes (Q₁:=λobj s₁=>obj=.ref s.heap.objs.size/\s₁={ s with heap:=s.heap.push { cls:=.type "list",data:=.seq #[] } }) F.called_list (F.typeCall_list_1 _) F.entry_list_init
  (code_list_new _ ⟨rfl,rfl⟩) λobj s₁ h₁=>?_
 obtain ⟨rfl,rfl⟩:=h₁
 have hS:(s.heap.push { cls:=.type "list",data:=.seq #[] }).get? s.heap.objs.size=some { cls:=.type "list",data:=.seq #[] }:=Nl _ rfl
 refine ⟨⟨_,hS,rfl⟩,F.args_list_init_2 _ _,?_⟩
 show wpAny _ X.A.in1.in1 (do let old <- Qm (.ref s.heap.objs.size); O0 (.ref s.heap.objs.size) (λ_=> #[]); letGo old.toList.reverse; QK (.ref s.heap.objs.size) (.ref v) .none) _ _ _
 refine MZ (QC hS rfl ?_)
 have HS:H s.heap.objs.size=none:=I.hok.fresh (M4 _)
 have I1:Inv X aa σ (upd H s.heap.objs.size (.lst [])) { s with heap:=s.heap.push { cls:=.type "list",data:=.seq ([]:List Value).toArray },toks:=s.toks }:=I.Cf (t':=s.toks) (ys:=[]) (its:=[]) .nil (ND _)
 refine MZ (Ox hS rfl ?_)
 have I2:=I1.su (f:=λ_=>(#[]:Array Value)) (its':=[]) (ys:=[]) (t':=s.toks) ai (n:=0) hS (by simp) .nil (ND _)
 rw [ny] at I2
 refine MZ (RL ?_)
 have k1:∀ b o,s.heap.get? b=some o->((s.heap.push { cls:=.type "list",data:=.seq ([]:List Value).toArray }).update s.heap.objs.size (NH λ_=>(#[]:Array Value))).get? b=some o:=λb o e=>by
  rw [O2 _ _ _ _ (NB (Na e))]
  exact M9 _ e
 have up:∀ s':Shared,(∀ b o,s.heap.get? b=some o->s'.heap.get? b=some o)->s'.heap.IsItemsView v d:=λs' k=>by obtain ⟨q,q1,q2⟩:=hv; exact ⟨q,k _ _ q1,q2⟩
 have hne:s.heap.objs.size≠v:=Qd (by obtain ⟨_,q,_⟩:=hv; exact Na q)
 have g0:bw H Hf (upd H s.heap.objs.size (.lst [])) Hf:=bw.f7 sb HS
 refine m5 (X:=Dd X X.A.in1) (T:="dict_items") (ds:=ds) (H:=H) (Hf:=Hf) (R:=wants (λr s₂=>r=.none/\Q (.ref s.heap.objs.size) s₂) E) hc h1 h2 (jo I2 (λ_=>h1) h2) sb HS hne ?_ (by rw [Oj hp]; exact hz) (by decide) (λs' k=>(up s' λb o e=>k b o (k1 b o e)).typeIs) (λA s' Q E q h=>wY q h) ?_ λs' H' ak xs I' hS' hfS hr g=>⟨rfl,hQ _ s' H' ak xs (gp I.ok I') hS' HS hfS hr g⟩
 ·show _<(Heap.update _ _ _).objs.size
  rw [SK]
  show _<(Heap.push _ _).objs.size
  rw [O6]; exact Po _
 ·refine NQ (Df (X:=Dd X X.A.in1) (tg:=.Name "x" ⟨0,0,0,0⟩) (jo I2 (λ_=>h1) h2) (up _ k1) (g0.b _ _ hH) hd) (λitv s2 hh=>z3 hh λit es ep hh=>w7 hh λe hit I3 Tn t0 hf k2=>?_) λ_ _ x=>x
  exact ⟨it,_,_,e,hit,I3,Tn,t0,hf,k2,sL hH hp⟩
section
variable {K:M0} {c:Ctx P w K mg base k N sc bk}
theorem rj (hm:mg "list"=none) (h:aI c e ρ λd=>∃ ds,d.pairs=some ds/\R (.ow ds)) (hg:sc.names.lookup (MY "list")=some .globalImplicit:=by walk_at "u")
 (hb:∀ env,attributeBase e "items" env (eval e env)=eval e env:=by intro _; walk_at "u") (hl:(ap.endLine == cp.line)=true:=by walk_at "u") :
 dJ c (.Call (.Name "list" np) [.Call (.Attribute e "items" ap) [] [] cp] [] pos) ρ R:=λσ H Hf Q S q aa s I=>by
 have hgl:Gl c.X "list":=by unfold Gl NY; rw [c.esc]; exact hg
 refine OO (eY I hgl (by rw [c.emg]; exact hm) (show bootBuiltins "list"=some (.type "list") by decide +kernel) ?_ (by decide) (by decide))
 have hpa:=cj (X:=c.X) (e:=.Call (.Attribute e "items" ap) [] [] cp) (es:=[]) (Ac dI (hb _) hl) eZ (by rfl)
 refine Qk (bJ (hpa pos aa s σ H (λvs H1=>∃ x,vs=[x]/\∃ (v d:Addr) (o:Obj) (u:HO) (ds:List D) (H0 BV:Hp),x=.ref v/\H1=upd H0 v (.ext λh=>h.IsItemsView v d)/\H0 v=none/\BV d=some (.frz o u)/\HO.dct u/\Paired (mQ c.X.K BV) ds (bM u)/\bw H Hf H0 BV/\R (.ow ds)) I ?_) λus s1 hh=>z2 hh λvs H1 hh=>w3 hh λI1 r1 hh=>hh.elim λx hh=>w2 hh λex hh=>z4 hh λv d o u hh=>z3 hh λds H0 BV hh=>w8 hh λe1 e2 e3 e4 e5 e6 e8 e9=>?_) (by rfl) (by rfl)
 ·exact h σ H Hf _ S λd v H1 aU ⟨ds,hp,hR⟩ rv g=>by
   obtain ⟨a,o,u,e1,e2,e3,e4⟩:=wO hp rv
   exact ⟨a,o,u,e1,g.b _ _ e2,e3,λvw hv=>⟨_,rfl,vw,a,o,u,ds,H1,aU,rfl,rfl,hv,e2,e3,e4,g,hR⟩⟩
 ·subst ex e1 e2
  have eu:us=[.ref v]:=by
   cases r1 with
   | cons q1 q2=>cases q2; cases q1; rfl
  subst eu
  have g1:bw H0 BV (upd H0 v (.ext λh=>h.IsItemsView v d)) BV:=bw.f7 e8.b e3
  obtain ⟨hvw,_⟩:=(show bq c.X.prog c.X.w _ s1.heap v (.ext λh=>h.IsItemsView v d) from I1.hok v _ ai)
  refine xA c.calm I1 g1.b hvw e4 e5 e6 λa s' H' ak xs I' hS' na x8 hr g=>?_
  have gg:=(e8.trans g1).trans g
  exact ⟨.ref a,H',I',rfl,q (.ow ds) _ _ ak e9 ⟨a,xs,rfl,e8.s.free (g1.s.free na),hS',x8,hr⟩ gg⟩
end
theorem AF {K:M0}:∀ {ds:List D} {xs:List V} {us:List Value},av K Hf ds xs->Vals xs us->Paired (λd u=>jO K Hf d u) ds us
 | [],xs,us,h,v=>by rw [aC] at h; subst h; cases v; exact .nil
 | t::L,xs,us,h,v=>by
  obtain ⟨x,r,rfl,h1,h2⟩:=aF.mp h
  cases v with
  | cons r1 r2=>exact .cons ⟨x,r1,h1⟩ (AF h2 r2)
theorem AG {K:M0}:∀ {ds:List D} {us:List Value},Paired (λd u=>jO K Hf d u) ds us->∃ xs,av K Hf ds xs/\Vals xs us
 | _,_,.nil=>⟨[],aC.mpr rfl,.nil⟩
 | _,_,.cons ⟨x,r1,h1⟩ t=>by
  obtain ⟨xs,h2,h3⟩:=AG t
  exact ⟨x::xs,.cons h1 h2,.cons r1 h3⟩
theorem sY (hc:X.calm=true) (I:Inv X aa σ H s) (sb:aN Hf H) (hl:gF X.K Hf l ys) (hr:av X.K Hf ds ys) (hd:∀ d∈ds,∃ es,d=.lst es)
 (hQ:∀ (ds':List D) (xs':List V) (s':Shared) (a:Addr),ds'.Perm ds->av X.K Hf ds' xs'->H a=none->Inv X aa σ (upd H a (.lst xs')) s'->Q (.ref a) s') :
 wpAny (model X.prog X.w) X.A (call (.builtin "sorted") [.ref l] [(MY "key",.builtin "len")]) Q E s:=by
 refine call_function_entry_kw kind_sorted plain_sorted entry_sorted (SR.jN _ _) ?_
 unfold Builtin.«sorted»
 refine MZ (m:=checkCount "sorted" 1 1 _) (M3 ?_)
 obtain ⟨its,rv,p,hz⟩:=I.list (sb.seq hl)
 have el:=rv.length
 refine MZ (collect_list p.isList ?_ (by lia))
 have I2:Inv X aa σ H { s with heap:=(s.heap.push (seqObj "list" #[] 0)).update s.heap.objs.size (NH (· ++its.toArray)),toks:=s.toks }:=I.kept λc o e=>by
  rw [O2 _ _ _ _ (NB (Na e))]
  exact M9 _ e
 generalize (s.heap.push (seqObj "list" #[] 0)).update s.heap.objs.size (NH (· ++its.toArray))=h0 at I2 |-
 refine MZ (Qx ?_ (by lia))
 have ha:(h0.push (seqObj "list" its.toArray 0)).get? h0.objs.size=some (seqObj "list" its.toArray 0):=Nl _ rfl
 have Ha:H h0.objs.size=none:=I2.hok.fresh (M4 _)
 have k2:∀ b o,h0.get? b=some o->(h0.push (seqObj "list" its.toArray 0)).get? b=some o:=λb o e=>M9 _ e
 have I3:Inv X aa σ H { s with heap:=h0.push (seqObj "list" its.toArray 0),toks:=s.toks }:=I2.kept (t':=s.toks) k2
 have pL:=AF hr rv
 refine MZ (Oi (Se slot_list_sort ⟨_,ha,rfl⟩ entry_list_sort (SR.zZ ha (by lia) (λv hv=>?_) λout h' tk e hp he hk=>⟨_,rfl,?_⟩) (SR.ig _ _)))
 ·obtain ⟨d,hd',x,r1,h1⟩:=SR.ie pL v hv
  obtain ⟨es,rfl⟩:=hd d hd'
  obtain ⟨b,zs,rfl,q1,q2⟩:=br.mp h1
  cases r1
  obtain ⟨its',rv',p',hz'⟩:=I3.list (sb.seq q1)
  have e':=rv'.length
  refine ⟨b,its'.toArray,rfl,?_,p'.isList,by simp only [Nq]; lia⟩
  rintro rfl
  obtain ⟨_,_,p2,_⟩:=I2.list (sb.seq q1)
  obtain ⟨o,q,_⟩:=p2.isList
  exact OC _ (Na q)
 ·obtain ⟨ds',p1,p2⟩:=SR.gn hp pL
  obtain ⟨xs',r',v'⟩:=AG p2
  have hlen:out.toList.length=its.length:=hp.length_eq
  refine M3 ⟨_,rfl,hQ ds' xs' _ _ p1 r' Ha ?_⟩
  refine I2.laid (t':=tk) (a:=h0.objs.size) (λb o q=>hk b o (NB (Na q)) (k2 b o q)) (M4 _) ⟨by have:=v'.length; lia,out.toList,e,v',by simpa using he⟩
section
variable {K:M0} {c:Ctx P w K mg base k N sc bk}
theorem xB (hm:mg "sorted"=none) (hml:mg "len"=none) (h:aI c e ρ λd=>∃ ds,d=.lst ds/\Sd (∀ x∈ds,∃ es,x=.lst es) (∀ ds':List D,ds'.Perm ds->R (.ow ds')))
 (hg:sc.names.lookup (MY "sorted")=some .globalImplicit:=by walk_at "u") (hgl:sc.names.lookup (MY "len")=some .globalImplicit:=by walk_at "u")
 (he:∀ env,starEach [e] env=(false,eval e env)::starEach [] env:=by intro _; walk_at "u")
 (hpl:∀ env,(backTo pos (starEach [e] env)).any (·.1)=false:=by intro _; walk_at "u") :
 dJ c (.Call (.Name "sorted" np) [e] [⟨some "key",.Name "len" kp1,kp⟩] pos) ρ R:=λσ H Hf Q S q aa s I=>by
 have hgs:Gl c.X "sorted":=by unfold Gl NY; rw [c.esc]; exact hg
 have hgl':Gl c.X "len":=by unfold Gl NY; rw [c.esc]; exact hgl
 refine OO (eY I hgs (by rw [c.emg]; exact hm) (show bootBuiltins "sorted"=some (.builtin "sorted") by decide +kernel) ?_ (by decide) (by decide))
 refine callWith_kw ?_ (by rw [he]; rfl) (hpl _)
 have hpa:=cj (X:=c.X) (e:=e) (es:=[]) dI eZ (he _)
 refine bJ (hpa pos aa s σ H (λvs H1=>∃ x,vs=[x]/\∃ (ds:List D) (aU:Hp),Rep c.X.K aU (.lst ds) x/\(∀ x∈ds,∃ es,x=.lst es)/\bw H Hf H1 aU/\∀ ds':List D,ds'.Perm ds->R (.ow ds')) I ?_) λus s1 hh=>z2 hh λvs H1 hh=>w3 hh λI1 r1 hh=>hh.elim λx hh=>w2 hh λex hh=>z2 hh λds aU hh=>w4 hh λe1 e7 e8 e9=>?_
 ·exact h σ H Hf _ S λd v H1 aU ⟨ds,hp,⟨hn,hR⟩⟩ rv g=>⟨_,rfl,ds,aU,by rw [<- hp]; exact rv,hn,g,hR⟩
 ·subst ex
  obtain ⟨a0,ys,rfl,hs,hr⟩:=br.mp e1
  have eu:us=[.ref a0]:=by
   cases r1 with
   | cons q1 q2=>cases q2; cases q1; rfl
  subst eu
  refine kws_cons (eY I1 hgl' (by rw [c.emg]; exact hml) (show bootBuiltins "len"=some (.builtin "len") by decide +kernel) ?_ (by decide) (by decide))
  refine kws_nil ?_
  exact sY c.calm I1 e8.b hs hr e7 λds' xs' s' a p1 p3 na I3=>⟨.ref a,_,I3,rfl,q (.ow ds') _ _ aU (e9 ds' p1) ⟨a,xs',rfl,e8.s.free na,ai,e8.b.free na,p3⟩ (e8.trans (bw.f7 e8.b na))⟩
end
end EV
namespace EV
open PySem PySem.Spec PyProof.Rows L2
noncomputable def xC (t:aD):aD:=(t.1,-t.2)
theorem DA (h:trim m=m) (hn:m≠[]):bU m (m.length - 1)≠0:=by
 rcases List.eq_nil_or_concat m with rfl | ⟨l,x,rfl⟩
 ·exact absurd rfl hn
 ·rw [List.concat_eq_append] at h |-
  intro z
  have e:bU (l++[x]) ((l++[x]).length - 1)=x:=by
   rw [dN (by simp)]; simp
  rw [e] at z; subst z
  rw [gK] at h
  have:=gq l
  rw [h,NJ,QY] at this
  lia
theorem xD (hl:trim l=l) (hm:trim m=m) (h:∀ i,bU l i=bU m i):l=m:=by
 have key:∀ {l m:List Int},trim m=m->(∀ i,bU l i=bU m i)->m.length<=l.length:=λ{l m} hm h=>by
  rcases Nat.lt_or_ge l.length m.length with z | z
  ·have hn:m≠[]:=by rintro rfl; simp at z
   have:=DA hm hn
   rw [<- h,cP (by lia)] at this
   exact absurd rfl this
  ·exact z
 have e:l.length=m.length:=Nat.le_antisymm (key hl λi=>(h i).symm) (key hm h)
 refine Rl e λi h1 h2=>?_
 have:=h i
 rwa [dN h1,dN h2] at this
theorem gx (h:∀ i,bU p i=bU q i):trim p=trim q:=xD (cA p) (cA q) λi=>by rw [eE,eE,h]
theorem xE (a b):trim (cD (trim a) (trim b))=trim (cD a b):=gx λi=>by rw [b9,b9,eE,eE]
theorem sZ (a b):trim (cD (trim a) b)=trim (cD a b):=gx λi=>by rw [b9,b9,eE]
theorem tu (a b):trim (cD a (trim b))=trim (cD a b):=gx λi=>by rw [b9,b9,eE]
theorem xF (a b):cD a b=cD b a:=by
 unfold cD; rw [Nat.max_comm]; exact ON λk _=>RK _ _
theorem lu (a):trim (cD [] a)=trim a:=gx λi=>by rw [b9,cP (ND _),QE]
theorem tw (a b c):trim (cD (cD a b) c)=trim (cD a (cD b c)):=gx λi=>by
 rw [b9,b9,b9,b9,Int.add_assoc]
noncomputable def ev (g:List Int->Int):List aD->Int
 | []=>0
 | t::A=>t.2 * g (trim t.1)+ev g A
theorem aW (g) (t) (A):ev g (t::A)=t.2 * g (trim t.1)+ev g A:=rfl
theorem cg (g) (B):∀ A,ev g (A++B)=ev g A+ev g B
 | []=>by simp [ev]
 | t::A=>by rw [Pp,aW,aW,cg g B A]; lia
theorem jw (g):∀ A:List aD,ev g (A.map xC)= - ev g A
 | []=>rfl
 | t::A=>by
  rw [M7,aW,aW,jw g A]
  show -t.2 * g (trim t.1)+_=_
  rw [Int.neg_mul]; lia
theorem AH (g) (l):∀ B:List aD,ev g (B.map (dO l))=l.2 * ev (λq=>g (trim (cD (trim l.1) q))) B
 | []=>by simp [ev]
 | r::B=>by
  rw [M7,aW,aW,AH g l B]
  show l.2 * r.2 * g (trim (cD l.1 r.1))+_=_
  rw [Int.mul_add,xE,Qz]
theorem bO (g) (B):∀ A:List aD,ev g (aM A B)=ev (λp=>ev (λq=>g (trim (cD p q))) B) A
 | []=>rfl
 | l::A=>by
  show ev g (B.map (dO l)++aM A B)=_
  rw [cg,AH,bO g B A]; rfl
theorem gy (e:∀ p,trim p=p->g p=h p):∀ A,ev g A=ev h A
 | []=>rfl
 | t::A=>by rw [aW,aW,e _ (cA _),gy e A]
theorem AI (g h):∀ A,ev (λp=>g p+h p) A=ev g A+ev h A
 | []=>rfl
 | t::A=>by rw [aW,aW,aW,AI g h A,Int.mul_add]; lia
theorem E2 (c) (g):∀ A,ev (λp=>c * g p) A=c * ev g A
 | []=>by simp [ev]
 | t::A=>by rw [aW,aW,E2 c g A,Int.mul_add,Int.mul_left_comm]
theorem vE:∀ A,ev (λ_=>0) A=0
 | []=>rfl
 | t::A=>by rw [aW,vE A]; simp
theorem vF (f:List Int->List Int->Int) (B):∀ A,ev (λp=>ev (λq=>f p q) B) A=ev (λq=>ev (λp=>f p q) A) B
 | []=>by show 0=ev (λ_=>0) B; rw [vE]
 | t::A=>by
  show t.2 * ev (λq=>f (trim t.1) q) B+ev _ A=ev (λq=>t.2 * f (trim t.1) q+ev (λp=>f p q) A) B
  rw [AI,E2,vF f B A]
def eqv (A B:List aD):Prop:=∀ g,ev g A=ev g B
theorem eqv.rf (A):eqv A A:=λ_=>rfl
theorem eqv.app (h:eqv A A') (k:eqv B B'):eqv (A++B) (A'++B'):=λg=>by rw [cg,cg,h g,k g]
theorem eqv.neg (h:eqv A B):eqv (A.map xC) (B.map xC):=λg=>by rw [jw,jw,h g]
theorem eqv.prod (h:eqv A A') (k:eqv B B'):eqv (aM A B) (aM A' B'):=λg=>by
 rw [bO,bO,h]; exact gy (λp _=>k _) _
instance trmSetoid:Setoid (List aD):=⟨eqv,⟨eqv.rf,λh g=>(h g).symm,λh k g=>(h g).trans (k g)⟩⟩
noncomputable def MP:Type:=Quotient trmSetoid
noncomputable def mp (A:List aD):MP:=Quotient.mk trmSetoid A
theorem eF:mp A=mp B↔eqv A B:=⟨λh=>Quotient.exact h,λh=>Rv h⟩
noncomputable def cT (n:Int):List aD:=[([],n)]
theorem jP (g) (n):ev g (cT n)=n * g []:=by show n * g (trim [])+0=_; rw [RJ]; rfl
noncomputable instance:Add MP:=⟨Quotient.lift₂ (λA B=>mp (A++B)) λ_ _ _ _ h k=>Rv (eqv.app h k)⟩
noncomputable instance:Mul MP:=⟨Quotient.lift₂ (λA B=>mp (aM A B)) λ_ _ _ _ h k=>Rv (eqv.prod h k)⟩
noncomputable instance:Neg MP:=⟨Quotient.lift (λA=>mp (A.map xC)) λ_ _ h=>Rv (eqv.neg h)⟩
noncomputable instance:Sub MP:=⟨λa b=>a+ -b⟩
noncomputable instance:NatCast MP:=⟨λn=>mp (cT n)⟩
noncomputable instance:IntCast MP:=⟨λn=>mp (cT n)⟩
noncomputable instance (n:Nat):OfNat MP n:=⟨mp (cT n)⟩
noncomputable instance:SMul Nat MP:=⟨λn a=>(n:MP) * a⟩
noncomputable instance:SMul Int MP:=⟨λn a=>(n:MP) * a⟩
noncomputable def MP.pow (a:MP):Nat->MP
 | 0=>1
 | n+1=>MP.pow a n * a
noncomputable instance:HPow MP Nat MP:=⟨MP.pow⟩
theorem jx (A B):mp (A++B)=mp A+mp B:=rfl
theorem tD (A B):mp (aM A B)=mp A * mp B:=rfl
theorem oJ (n):mp (cT n)=(n:MP):=rfl
theorem pA {P:MP->Prop} (h:∀ A,P (mp A)) (a:MP):P a:=Quotient.inductionOn a h
theorem G6 (g) (A):ev g (aM (cT 1) A)=ev g A:=by
 rw [bO,jP,RP]
 exact gy (λp hp=>by rw [lu,hp]) _
theorem mulC:∀ a b:MP,a * b=b * a:=pA λA=>pA λB=>eF.mpr λg=>by
 rw [bO,bO,vF]
 exact gy (λq _=>gy (λp _=>by rw [xF]) _) _
theorem J0:∀ a:MP,1 * a=a:=pA λA=>eF.mpr λg=>G6 g A
theorem LV:∀ a b:MP,a+b=b+a:=pA λA=>pA λB=>eF.mpr λg=>by rw [cg,cg,RK]
theorem E3:∀ a b c:MP,(a+b) * c=a * c+b * c:=pA λA=>pA λB=>pA λC=>eF.mpr λg=>by rw [bO,cg,cg,bO,bO]
theorem E4:∀ a:MP,0 * a=0:=pA λA=>eF.mpr λg=>by
 rw [bO,jP,jP]; show 0 * _=0 * _; rw [Px,Px]
noncomputable instance:Lean.Grind.CommRing MP where
 add_zero:=pA λA=>eF.mpr λg=>by rw [cg,jP]; show _+0 * _=_; rw [Px,RJ]
 add_comm:=LV
 add_assoc:=pA λA=>pA λB=>pA λC=>eF.mpr λg=>by rw [cg,cg,cg,cg,Int.add_assoc]
 mul_assoc:=pA λA=>pA λB=>pA λC=>eF.mpr λg=>by
  rw [bO,bO,bO]
  refine gy (λp _=>?_) _
  rw [bO]
  refine gy (λq _=>gy (λr _=>?_) _) _
  rw [sZ,tu,tw]
 mul_one:=λa=>by rw [mulC,J0]
 one_mul:=J0
 left_distrib:=λa b c=>by rw [mulC,E3,mulC b,mulC c]
 right_distrib:=E3
 zero_mul:=E4
 mul_zero:=λa=>by rw [mulC,E4]
 pow_zero:=λ_=>rfl
 pow_succ:=λ_ _=>rfl
 ofNat_succ:=λn=>eF.mpr λg=>by
  show ev g (cT ((n+1:Nat):Int))=ev g (cT (n:Int)++cT ((1:Nat):Int))
  rw [cg,jP,jP,jP,Int.natCast_add,PD]
 ofNat_eq_natCast:=λ_=>rfl
 nsmul_eq_natCast_mul:=λ_ _=>rfl
 neg_add_cancel:=pA λA=>eF.mpr λg=>by
  rw [cg,jw,jP]; show _=0 * _; rw [Px]; lia
 sub_eq_add_neg:=λ_ _=>rfl
 neg_zsmul:=λi=>pA λA=>eF.mpr λg=>by
  show ev g (aM (cT (-i)) A)=ev g ((aM (cT i) A).map xC)
  rw [jw,bO,bO,jP,jP,Int.neg_mul]
 zsmul_natCast_eq_nsmul:=λ_ _=>rfl
 intCast_ofNat:=λ_=>rfl
 intCast_neg:=λi=>eF.mpr λg=>by
  show ev g (cT (-i))=ev g ((cT i).map xC)
  rw [jw,jP,jP,Int.neg_mul]
 mul_comm:=mulC
theorem AJ {A:List aD} {p q:List Int} {n:Int}:(bx (putD A p n) q).getD 0=if q=p then n else (bx A q).getD 0:=by
 unfold putD
 split
 ·rename_i h
  induction A with
  | nil=>simp [bx] at h
  | cons t A ih =>
   rw [M7]
   by_cases e:t.1=p
   ·rw [if_pos e]
    by_cases z:q=p
    ·rw [if_pos z,bf (by rw [e,z])]; rfl
    ·rw [if_neg z,aV (by rw [e]; exact λw=>z w.symm),aV (by rw [e]; exact λw=>z w.symm)]
     clear ih h
     induction A with
     | nil=>rfl
     | cons u A ih =>
      rw [M7]
      by_cases w:u.1=q
      ·rw [if_neg (by rw [w]; exact z),bf w,bf w]
      ·rw [aV w,<- ih,aV (by split <;> exact w)]
   ·rw [if_neg e]
    have h':(bx A p).isSome=true:=by rw [aV e] at h; exact h
    by_cases z:t.1=q
    ·rw [bf z,bf z,if_neg (by rw [<- z]; exact e)]
    ·rw [aV z,aV z,ih h']
 ·rename_i h
  induction A with
  | nil =>
   rw [Rp]
   by_cases z:q=p
   ·rw [if_pos z,bf z.symm]; rfl
   ·rw [if_neg z,aV λw=>z w.symm]
  | cons t A ih =>
   have h0:¬ t.1=p:=λe=>h (by rw [bf e]; rfl)
   rw [Pp]
   by_cases z:t.1=q
   ·rw [bf z,bf z,if_neg (by rw [<- z]; exact h0)]
   ·rw [aV z,aV z,ih (by rw [aV h0] at h; exact h)]
noncomputable def cf (p:List Int) (A:List aD):Int:=ev (λq=>if q=p then 1 else 0) A
theorem AK (p):∀ ts:List aD,(bx (aJ ts) p).getD 0=cf p ts:=by
 intro ts
 suffices H:∀ (ts A:List aD),(bx (ts.foldl fO A) p).getD 0=(bx A p).getD 0+cf p ts by
  have:=H ts []
  rw [show (bx ([]:List aD) p).getD 0=0 from rfl,QE] at this
  exact this
 intro ts
 induction ts with
 | nil=>intro A; show _=_+0; rw [RJ]; rfl
 | cons t ts ih =>
  intro A
  rw [Ou,ih]
  unfold fO
  rw [AJ]
  show _=_+(t.2 * (if trim t.1=p then 1 else 0)+cf p ts)
  by_cases z:p=trim t.1
  ·rw [if_pos z,if_pos z.symm,z]; lia
  ·rw [if_neg z,if_neg λw=>z w.symm]; lia
theorem AL:t∈nz (aJ ts)↔trim t.1=t.1/\t.2≠0/\t.2=cf t.1 ts:=by
 have hk:=eB ts
 constructor
 ·intro h
  unfold nz at h
  rw [Qt] at h
  refine ⟨?_,by simpa using h.2,?_⟩
  ·have bd:∃ n,∀ t∈ts,t.1.length<=n:=by
    clear h hk
    induction ts with
    | nil=>exact ⟨0,λt h=>by cases h⟩
    | cons u ts ih =>
     obtain ⟨n,hn⟩:=ih
     refine ⟨max n u.1.length,λt ht=>?_⟩
     rcases Nm.mp ht with rfl | ht
     ·lia
     ·have:=hn t ht; lia
   obtain ⟨n,hn⟩:=bd
   exact (oA hn t h.1).1
  ·rw [<- AK,oG hk h.1]; rfl
 ·rintro ⟨h1,h2,h3⟩
  unfold nz
  rw [Qt]
  refine ⟨?_,by simpa using h2⟩
  rw [<- AK] at h3
  cases e:bx (aJ ts) t.1 with
  | none=>rw [e] at h3; exact absurd h3 h2
  | some n =>
   rw [e] at h3
   have h3':t.2=n:=h3
   unfold bx at e
   obtain ⟨u,hu,e2⟩:=Nk.mp e
   have m:=List.mem_of_find?_eq_some hu
   have z:u.1=t.1:=by simpa using List.find?_some hu
   have:u=t:=Prod.ext z (by rw [e2,h3'])
   rw [<- this]; exact m
theorem rm {L M:List aD} (h1:L.Nodup) (h2:M.Nodup) (h:∀ t,t∈L↔t∈M):L.Perm M:=(List.perm_ext_iff_of_nodup h1 h2).mpr h
theorem AM (h:eqv A B):bL A=bL B:=by
 have nA:=keys_nodup (vn (eB A))
 have nB:=keys_nodup (vn (eB B))
 have hp:(nz (aJ A)).Perm (nz (aJ B)):=rm nA nB λt=>by rw [AL,AL]; unfold cf; rw [h]
 exact Ag nB ((bB _).trans hp) (gO nA)
theorem dD (h:mp A=mp B):bL A=bL B:=AM (eF.mp h)
theorem G7 (g) (hp:trim p=p) (n) (hk:(A.map (·.1)).Nodup) (ht:∀ t∈A,trim t.1=t.1):ev g (putD A p n)=ev g A+(n - (bx A p).getD 0) * g p:=by
 unfold putD
 split
 ·rename_i h
  induction A with
  | nil=>simp [bx] at h
  | cons t A ih =>
   rw [M7]
   rw [M7,O3] at hk
   by_cases e:t.1=p
   ·rw [if_pos e]
    have same:A.map (λkv:aD=>if kv.1=p then (kv.1,n) else kv)=A:=by
     refine (ON λu hu=>?_).trans (List.map_id A)
     rw [if_neg λz=>hk.1 (by rw [e,<- z]; exact N1.mpr ⟨u,hu,rfl⟩)]; rfl
    rw [same,bf e]
    rw [aW,aW]
    show n * g (trim t.1)+_=_+(n - t.2) * _
    rw [ht t Ng,e,Int.sub_mul]; lia
   ·rw [if_neg e]
    rw [aW,aW,ih hk.2 (λu hu=>ht u (Ni _ hu)) (by rw [aV e] at h; exact h),aV e]; lia
 ·rename_i h
  have e:bx A p=none:=by
   cases e:bx A p with
   | none=>rfl
   | some n=>rw [e] at h; exact absurd rfl h
  rw [cg,e]
  show _+(n * g (trim p)+0)=_+(n - 0) * _
  rw [hp,Int.sub_zero,RJ]
theorem vG (ts):eqv (aJ ts) ts:=by
 suffices H:∀ (ts A:List aD),(A.map (·.1)).Nodup->(∀ t∈A,trim t.1=t.1)->eqv (ts.foldl fO A) (A++ts) from H ts [] (by simp) (by simp)
 intro ts
 induction ts with
 | nil=>intro A _ _ g; simp
 | cons t ts ih =>
  intro A hk ht g
  have ih':ev g (ts.foldl fO (fO A t))=ev g (fO A t++ts):=ih _ (qM _ _ hk) (λu hu=>by
   rcases ou hu with e | e
   ·rw [e,cA]
   ·exact ht u e) g
  rw [Ou,ih',cg,cg]
  unfold fO
  rw [G7 g (cA _) _ hk ht]
  show _=_+(t.2 * g (trim t.1)+ev g ts)
  rw [Int.sub_mul,PD]; lia
theorem DB (g) (h:A.Perm B):ev g A=ev g B:=by
 induction h with
 | nil=>rfl
 | cons x _ ih=>rw [aW,aW,ih]
 | swap x y l=>rw [aW,aW,aW,aW]; lia
 | trans _ _ a b=>rw [a,b]
theorem AN (g):∀ A:List aD,ev g (nz A)=ev g A
 | []=>rfl
 | t::A=>by
  unfold nz
  by_cases h:t.2=0
  ·rw [Ql (by simp [h])]
   show ev g (nz A)=t.2 * _+_
   rw [AN g A,h,Px,QE]
  ·rw [Pe (by simp [h])]
   show _+ev g (nz A)=_
   rw [AN g A]; rfl
theorem AO (ts):eqv (bL ts) ts:=λg=>by
 show ev g (fE (nz (aJ ts)))=_
 rw [DB g (bB _),AN,vG ts g]
theorem vH (A):mp (bL A)=mp A:=eF.mpr (AO A)
theorem G8 (A):mp (aJ A)=mp A:=eF.mpr (vG A)
noncomputable def stp {α:Type} (xs:List α) (lo hi st:Option Int):List α:=(sliceRange (sliceBounds lo hi st xs.length).1 (sliceBounds lo hi st xs.length).2.1 (sliceBounds lo hi st xs.length).2.2).filterMap (xs[·]?)
theorem xG (h:Vals xs its):∀ ns:List Nat,Vals (ns.filterMap (xs[·]?)) (ns.filterMap (its[·]?)):=by
 intro ns
 induction ns with
 | nil=>exact .nil
 | cons n ns ih =>
  rw [Ot,Ot]
  by_cases z:n<xs.length
  ·obtain ⟨u,e,hu⟩:=h.get (Nr z)
   rw [Nr z,e]
   exact .cons hu ih
  ·rw [OE (by lia),OE (by rw [<- h.length]; lia)]
   exact ih
theorem xH {K:M0} (h:av K H ds xs):∀ ns:List Nat,av K H (ns.filterMap (ds[·]?)) (ns.filterMap (xs[·]?)):=by
 intro ns
 induction ns with
 | nil=>exact aC.mpr rfl
 | cons n ns ih =>
  rw [Ot,Ot]
  by_cases z:n<ds.length
  ·obtain ⟨u,e,hu⟩:=h.get (Nr z)
   rw [Nr z,e]
   exact aF.mpr ⟨_,_,rfl,hu,ih⟩
  ·rw [OE (by lia),OE (by rw [<- h.length]; lia)]
   exact ih
section
variable {K:M0}
end
end EV
namespace EV
open PySem PySem.Spec PySem.Calls PyProof.Rows L2
noncomputable abbrev gz (l:List Int):D:=.tup (l.map .int)
section
variable {X:Cx}
theorem j5 (I:Inv X aa σ H s) (sb:aN Hf H) (h:jO X.K Hf (gz l) u):∃ b its,u=.ref b/\IsTup s.heap b its/\IntsAre its.toList l:=by
 obtain ⟨v,rv,q⟩:=h
 obtain ⟨b,ys,rfl,h3,h4⟩:=aL.mp q
 cases rv
 obtain ⟨its2,rel2,tu2,_⟩:=I.tuple (az sb h3)
 have e:=iV h4
 subst e
 exact ⟨b,its2.toArray,rfl,tu2,intsAre_of rel2⟩
theorem AQ (h:gz x=gz y):x=y:=by
 simp only [gz,D.tup.injEq] at h
 exact (List.map_inj_right (f:=D.int) (λa b e=>by injection e)).mp h
theorem AR (I:Inv X aa σ H s) (sb:aN Hf H) (h1:jO X.K Hf (gz x) u) (h2:jO X.K Hf (gz y) u):x=y:=by
 obtain ⟨v,r1,q1⟩:=h1
 obtain ⟨v',r2,q2⟩:=h2
 have:=r1.inj r2
 subst this
 exact AQ (nR I sb 1 _ _ _ (Aa x y) q1 q2)
theorem DC (L):SR.EY HT.lexLt L:=⟨λ_ _=>j3 _,λ_ _ _ _ _ _ h g=>sQ h g,λ_ _ _ _ h=>j4 h⟩
noncomputable def AS (L:List (List Int)):SortKind:=open Classical in if ∀ l∈L,l≠[] then tuples' true else if L.head?=some [] then oneType' else general'
theorem DE (b) (h:Q (decide (m<n)) s):wpAny (model X.prog X.w) A (oneLt' b (.int m t) (.int n u)) Q E s:=by
 cases b with
 | true=>exact oneLt_int h
 | false =>
  rw [oneLt'_eq,if_neg Nc]
  exact MZ (lt_int (M3 h))
theorem vI:∀ {vs ws:List Value} {x y:List Int} (i:Nat),IntsAre vs x->IntsAre ws y->x.length+n=y.length+m->Q (HT.lexLt x y) s->PySem.W.KatLex X.prog X.w A b (decide (m<n)) Q (vs.zip ws) i s
 | _,_,_,_,i,.nil,.nil,e,h=>PySem.W.kat_nil (by rw [HT.gT] at h; rw [decide_eq_false (by simp at e; lia)]; exact h)
 | _,_,_,_,i,.nil,.cons c u hw,e,h=>PySem.W.kat_nil (by rw [HT.fZ] at h; rw [decide_eq_true (by simp at e; lia)]; exact h)
 | _,_,_,_,i,.cons a t hv,.nil,e,h=>PySem.W.kat_nil (by rw [HT.f6] at h; rw [decide_eq_false (by simp at e; lia)]; exact h)
 | _,_,_,_,i,.cons a t hv,.cons c u hw,e,h=>by
  rw [Q9]
  refine PySem.W.kat_cons (wpAny_eqBool_int ?_)
  rw [HT.cG] at h
  by_cases z:a=c
  ·rw [if_pos z] at h
   rw [show (a == c)=true by simpa using z]
   exact PySem.W.kat_yes (vI (i+1) hv hw (by simp at e; lia) h)
  ·rw [if_neg z] at h
   rw [show (a == c)=false by simpa using z]
   exact PySem.W.kat_no (DE _ h)
theorem jK:∀ {l:List α} {m:List β} {i:Nat} {b:β},Paired F l m->m[i]?=some b->∃ a,l[i]?=some a/\F a b
 | _,_,_,_,.nil,e=>by simp at e
 | _,_,0,_,.cons r _,e=>by simp at e; subst e; exact ⟨_,rfl,r⟩
 | _,_,i+1,a,.cons _ t,e=>by
  obtain ⟨b,h1,h2⟩:=jK (i:=i) t (by simpa using e)
  exact ⟨b,by simpa using h1,h2⟩
theorem AU (I:Inv X aa σ H s) (sb:aN Hf H) (h:Paired (λx u=>jO X.K Hf (gz x) u) L us) (h2:2<=us.length) (hQ:Q (AS L) s):wpAny (model X.prog X.w) A (keyKind' us.toArray) Q E s:=by
 have key:∃ fs:List (Option Value),Paired (λ(l:List Int) o=>(l=[]/\o=none)\/∃ n r t,l=n::r/\o=some (Value.int n t)) L fs/\Paired (λu o=>∀ (Q:Option Value->Shared->Prop),Q o s->wpAny (model X.prog X.w) A (firstOfTuple' u) Q E s) us fs:=by
  clear h2 hQ
  induction h with
  | nil=>exact ⟨[],.nil,.nil⟩
  | @cons x u L us r t ih =>
   obtain ⟨fs,e1,e2⟩:=ih
   obtain ⟨a,its,rfl,⟨o,ho,hc,n,hd⟩,ia⟩:=j5 I sb r
   refine ⟨its[0]?::fs,.cons ?_ e1,.cons (λQ hQ=>?_) e2⟩
   ·rw [<- NS]
    generalize its.toList=il at ia
    cases ia with
    | nil=>exact .inl ⟨rfl,rfl⟩
    | cons n t' _=>exact .inr ⟨n,_,t',rfl,rfl⟩
   ·show wpAny _ _ (do
     if (<- typeOf (.ref a)) != .type "tuple" then return none
     return (<- Qm (.ref a))[0]?) _ _ _
    refine MZ (O7 (T:="tuple") ⟨o,ho,hc⟩ ?_)
    rw [if_neg (by simp)]
    exact MZ (QC ho hd (M3 hQ))
 obtain ⟨fs,e1,e2⟩:=key
 rw [keyKind'_eq,List.mapM_toArray]
 simp only [bind_map_left]
 refine MZ (ir _ _ e2 ?_)
 have typs:∀ {T:String} (vs:List Value) (Q:List Value->Shared->Prop),(∀ v∈vs,s.TypeIs v T)->Q (vs.map λ_=>.type T) s->wpAny (model X.prog X.w) A (vs.mapM typeOf) Q E s:=λ{T} vs Q ht hQ=>by
  refine ir _ _ ?_ hQ
  clear hQ
  induction vs with
  | nil=>exact .nil
  | cons f fs ih=>exact .cons (λQ hQ=>O7 (ht f Ng) hQ) (ih λg hg=>ht g (Ni _ hg))
 have el:L.length=us.length:=Oj h
 have ef:L.length=fs.length:=Oj e1
 have oneT:∀ {T:String} (vs:List Value) (Q:Option Value->Shared->Prop),vs≠[]->(∀ v∈vs,s.TypeIs v T)->Q (some (.type T)) s->wpAny (model X.prog X.w) A (oneTypeOnly' vs.toArray) Q E s:=λ{T} vs Q hne ht hQ=>by
  rw [oneTypeOnly'_eq,List.mapM_toArray]
  simp only [bind_map_left]
  refine MZ (typs (T:=T) vs _ ht ?_)
  obtain ⟨f,r,rfl⟩:=List.exists_cons_of_ne_nil hne
  have h0:(List.map (λ_=>Of T) (f::r)).toArray[0]?=some (Of T):=by simp
  rw [h0]
  dsimp only
  rw [if_pos (by simp)]
  exact M3 hQ
 unfold AS at hQ
 by_cases hall:∀ l∈L,l≠[]
 ·rw [if_pos hall] at hQ
  have e3:∃ gs:List Value,fs=gs.map some/\∀ g∈gs,s.TypeIs g "int":=by
   clear h h2 hQ e2 el ef oneT typs
   induction e1 with
   | nil=>exact ⟨[],rfl,by simp⟩
   | @cons x o L fs r t ih =>
    obtain ⟨gs,q1,q2⟩:=ih λl hl=>hall l (Ni _ hl)
    rcases r with ⟨z,_⟩ | ⟨n,r',t',_,rfl⟩
    ·exact absurd z (hall x Ng)
    ·exact ⟨.int n t'::gs,by rw [q1]; rfl,λg hg=>by
      rcases Nm.mp hg with rfl | hg
      ·exact Qf s n t'
      ·exact q2 g hg⟩
  obtain ⟨gs,rfl,q2⟩:=e3
  rw [if_pos (by simp)]
  refine MZ (Ol ?_)
  have e4:(gs.map some).toArray.filterMap id=gs.toArray:=by simp
  rw [e4]
  refine MZ (oneT (T:="int") gs _ (λz=>by subst z; rw [el,OW,OH] at ef; lia) q2 (M3 ?_))
  have e6:(some (Of "int")).any (λx=>x != Of "tuple")=true:=by decide
  rw [e6]
  exact hQ
 ·rw [if_neg hall] at hQ
  have hno:¬ (fs.toArray.all λx=>x.isSome)=true:=λz=>hall λl hl hl0=>by
   obtain ⟨i,hi,ei⟩:=List.mem_iff_getElem.mp hl
   obtain ⟨o,ho,r⟩:=dz e1 (Nr hi)
   rw [ei] at r
   have zo:o.isSome=true:=by
    rw [List.all_toArray,List.all_eq_true] at z
    exact z o (Og ho)
   rcases r with ⟨_,rfl⟩ | ⟨n,r',t',e,_⟩
   ·cases zo
   ·rw [hl0] at e; cases e
  rw [if_neg hno]
  cases e1 with
  | nil=>rw [OH] at el; lia
  | @cons x o L fs r t =>
   have e0:((o::fs).toArray[0]?.bind id)=o:=by simp
   rw [e0]
   rcases r with ⟨rfl,rfl⟩ | ⟨n,r',t',rfl,rfl⟩
   ·rw [if_pos (by simp)] at hQ
    rw [if_neg (by simp)]
    refine MZ (oneT (T:="tuple") us _ (λz=>by subst z; simp at h2) (λv hv=>?_) (M3 hQ))
    obtain ⟨i,hi,ei⟩:=List.mem_iff_getElem.mp hv
    obtain ⟨l,_,r⟩:=jK h (Nr hi)
    rw [ei] at r
    obtain ⟨a,its,rfl,⟨o,ho,hc,n,hd⟩,ia⟩:=j5 I sb r
    exact ⟨o,ho,hc⟩
   ·rw [if_neg (by simp)] at hQ
    rw [if_pos (by simp)]
    exact M3 hQ
theorem G9 (I:Inv X aa σ H s) (sb:aN Hf H) (hA:A.units+10<cLine) (hx:jO X.K Hf (gz x) u) (hy:jO X.K Hf (gz y) v) (hQ:Q (HT.lexLt x y) s):wpAny (model X.prog X.w) A (keyLt' (AS L) u v) Q E s:=by
 obtain ⟨a,its,rfl,ta,ia⟩:=j5 I sb hx
 obtain ⟨b,its2,rfl,tb,ib⟩:=j5 I sb hy
 have hu:A.units<cLine:=by lia
 have gen:wpAny (model X.prog X.w) A (oneLt' false (.ref a) (.ref b)) Q E s:=PySem.W.kat_one _ _ (HT.se ta tb ia ib hu hQ)
 obtain ⟨⟨cls,dd,data,sl⟩,ho,hc,n,hd⟩:=id ta
 obtain ⟨⟨cls2,dd2,data2,sl2⟩,ho2,hc2,n2,hd2⟩:=id tb
 simp only at hc hd hc2 hd2
 subst hc hd hc2 hd2
 unfold AS
 split
 ·exact PySem.W.kat_lt ho rfl ho2 rfl (vI (m:=its.size) (n:=its2.size) 0 ia ib (by have:=ia.length; have:=ib.length; simp only [NT] at *; lia) hQ)
 ·split
  ·rw [keyLt'_oneType,oneLt'_eq]
   simp only [if_true]
   refine MZ (wpAny_cRoomFor hu ?_)
   refine MZ (wpAny_callSpecialIfBound?_slot ⟨_,ho,rfl⟩ R8 (Qg R8 ⟨_,ho,rfl⟩ PySem.F.entry_tuple_lt (PySem.F.args_tuple_lt_2 _ _) (HT.gU a b its its2 n n2 dd dd2 sl sl2 x y ia ib) ⟨ho,ho2,?_⟩))
   exact Sq hQ
  ·exact gen
end
section
open PySem in
theorem AV (hd:(d == sysModules)=false) (ho:s.heap.get? d=some o) (hx:o.ExactDict) (hdat:o.data=.dict es ep)
 (hQ:Q (.ref s.heap.objs.size) { s with heap:=s.heap.push { cls:=.type "dict_keyiterator",data:=.fields #[.ref d,.int 0 0,.int es.size 0,.int ep 0] } }) :
 wpAny (model prog w) A (pyIter (.ref d)) Q E s:=by
 have hT:s.TypeIs (.ref d) "dict":=⟨o,ho,hx.1⟩
 refine Su hT F.slot_dict_iter (OA F.slot_dict_iter hT F.entry_dict_iter ?_ (F.args_dict_iter_1 _))
 unfold Builtin.«dict.__iter__»
 refine MZ ?_
 unfold Builtin.Dict.dictSlotNone
 refine MZ (wpAny_notOrdered_dict hT ?_)
 show wpAny _ _ (pure (NC d)) _ _ s
 refine M3 ?_
 show wpAny _ _ (QZ d >>= _) _ _ s
 unfold QZ
 rw [if_neg (by rw [hd]; exact Nc)]
 refine MZ (M3 ?_)
 refine MZ (P6 ho hdat ?_)
 refine MZ (P9 ho hdat ?_)
 refine MZ (N5 (M3 ⟨_,rfl,"dict_keyiterator",_,⟨_,Nl _ rfl,rfl⟩,Qj.lookup,?_⟩))
 simpa [rawInt] using hQ
theorem AW (hit:s.heap.IsKeyIter it d i es.size ep)
 (hod:s.heap.get? d=some od) (hdd:od.data=.dict es ep) (hx:es[i]?=some e)
 (hQ:∀ h',h'.IsKeyIter it d (i+1) es.size ep->OF it s.heap h'->Q (some e.key) { s with heap:=h' }) :
 wpAny (model prog w) A (pyNext (.ref it)) Q E s:=by
 obtain ⟨o,ho,hc,hd⟩:=id hit
 unfold pyNext
 refine MZ (Qa (OZ (name:=MY "__next__") hit.typeIs Qj
  (OA Qj hit.typeIs Td ?_ (S6 _))))
 refine MZ (M3 ?_)
 refine MZ ?_
 refine MZ ?_
 first | refine MZ (QJ hit.typeIs (M3 ?_)) | refine MZ (QO hit.typeIs (M3 ?_))
 refine MZ (Rt ho hd ?_)
 have hown:RU "dict_keyiterator"=false:=by decide
 simp only [hown,NV,if_false]
 show wpAny _ _ (if (NC d == N9)=true then _ else _) _ _ s
 rw [if_neg (show ¬ ((NC d == N9)=true) from Nc)]
 refine MZ (M3 ?_)
 refine MZ (P6 hod hdd ?_)
 rw [if_neg (by simp)]
 refine MZ (M3 ?_)
 refine MZ (P9 hod hdd ?_)
 rw [if_neg (by simp)]
 refine M3 ?_
 simp only [show ¬ ((i:Int)<0) from by omega,if_false,N6,hx]
 refine MZ ?_
 first | refine MZ (QJ hit.typeIs (M3 ?_)) | refine MZ (QO hit.typeIs (M3 ?_))
 refine MZ (wpAny_isOneOf_keyiter hit.typeIs ?_)
 show wpAny _ _ (setField (.ref it) 1 (rawInt ((i:Int)+1)) >>= _) _ _ s
 refine MZ (Qw ho hd (by simp) ?_)
 have hit':(s.heap.update it (Obj.mapFields (·.setIfInBounds 1 (rawInt ((i:Int)+1))))).IsKeyIter it d (i+1) es.size ep :=
  ⟨_,Heap.get?_update_self _ ho (Obj.isFreed_of_fields (Q8 hd _)),(Obj.cls_mapFields ..).trans hc,by rw [Q8 hd]; simp [rawInt]⟩
 refine MZ (Oi ?_)
 refine MZ (wpAny_isOneOf_keyiter (s:={ s with heap:=s.heap.update it (Obj.mapFields (·.setIfInBounds 1 (rawInt ((i:Int)+1)))) }) hit'.typeIs ?_)
 show wpAny _ _ (pure e.key) _ _ _
 exact M3 (M3 ⟨_,rfl,M3 (hQ _ hit' (Qp ..))⟩)
theorem DF (hh:A.handled=none) (hit:s.heap.IsKeyIter it d i es.size ep)
 (hod:s.heap.get? d=some od) (hdd:od.data=.dict es ep) (hge:es.size<=i)
 (hQ:∀ h',Heap.ExtBut it s.heap h'->Q none { s with heap:=h' }):wpAny (model prog w) A (pyNext (.ref it)) Q E s:=by
 obtain ⟨o,ho,hc,hd⟩:=id hit
 unfold pyNext
 refine MZ (Qa (OZ (name:=MY "__next__") hit.typeIs Qj
  (OA Qj hit.typeIs Td ?_ (S6 _))))
 refine MZ (M3 ?_)
 refine MZ ?_
 refine MZ ?_
 first | refine MZ (QJ hit.typeIs (M3 ?_)) | refine MZ (QO hit.typeIs (M3 ?_))
 refine MZ (Rt ho hd ?_)
 have hown:RU "dict_keyiterator"=false:=by decide
 simp only [hown,NV,if_false]
 show wpAny _ _ (if (NC d == N9)=true then _ else _) _ _ s
 rw [if_neg (show ¬ ((NC d == N9)=true) from Nc)]
 refine MZ (M3 ?_)
 refine MZ (P6 hod hdd ?_)
 rw [if_neg (by simp)]
 refine MZ (M3 ?_)
 refine MZ (P9 hod hdd ?_)
 rw [if_neg (by simp)]
 refine M3 ?_
 simp only [show ¬ ((i:Int)<0) from by omega,if_false,N6,Array.getElem?_eq_none hge]
 refine MZ ?_
 first | refine MZ (QJ hit.typeIs (M3 ?_)) | refine MZ (QO hit.typeIs (M3 ?_))
 show wpAny _ _ (setField (.ref it) 0 .none >>= _) _ _ s
 refine MZ (Qw ho hd (by simp) ?_)
 show wpAny _ _ (newExc (.type "StopIteration") [] >>= _) _ _ _
 refine MZ ?_
 simp only [newExc,newTuple]
 refine MZ (N5 ?_ (by size_fits))
 refine MZ (m:=firstArgMember _ _) (wpAny_of_eq (a:=N9) (by first | rfl | (simp only [firstArgMember]; rfl)) ?_)
 refine N5 ?_ (by size_fits)
 simp only [raiseNew]
 refine MZ (wpAny_handled ?_)
 rw [show A.in1.handled=none from hh]
 refine MZ (M3 (wpAny_throw ?_))
 refine MZ (Rh (T:="StopIteration") (b:=true) ⟨_,Nl _ rfl,rfl⟩ isSubtype_stop ?_)
 exact M3 (hQ _ (((Qp ..).extBut.push _).push _))
end
section
variable {X:Cx} {aa:List (Addr×Obj)} {σ:L2.St} {H Hf:Hp} {s:Shared} {E:Value->Shared->Prop} {α:Type} {enc:α->D} {lt:α->α->Bool} {κ:SortKind}
structure J1 (X:Cx) (enc:α->D) (lt:α->α->Bool) (κ:SortKind) (L:List α):Prop where
 lin:SR.EY lt L
 inj:∀ (aa:List (Addr×Obj)) (σ:L2.St) (H Hf:Hp) (s:Shared),Inv X aa σ H s->aN Hf H->∀ x y u,jO X.K Hf (enc x) u->jO X.K Hf (enc y) u->x=y
 kind:∀ (aa:List (Addr×Obj)) (σ:L2.St) (H Hf:Hp) (s:Shared) (A:Around) (E:Value->Shared->Prop),Inv X aa σ H s->aN Hf H->∀ us:List Value,Paired (λx u=>jO X.K Hf (enc x) u) L us->2<=us.length->∀ Q:SortKind->Shared->Prop,Q κ s->wpAny (model X.prog X.w) A (keyKind' us.toArray) Q E s
 cmp:∀ (aa:List (Addr×Obj)) (σ:L2.St) (H Hf:Hp) (s:Shared) (A:Around) (E:Value->Shared->Prop),Inv X aa σ H s->aN Hf H->A.units+10<cLine->∀ (x y:α) (u v:Value),jO X.K Hf (enc x) u->jO X.K Hf (enc y) v->∀ Q:Bool->Shared->Prop,Q (lt x y) s->wpAny (model X.prog X.w) A (keyLt' κ u v) Q E s
theorem DG (L):J1 X gz HT.lexLt (AS L) L :=
 ⟨DC L,λ_ _ _ _ _ I sb _ _ _ h1 h2=>AR I sb h1 h2,λ_ _ _ _ _ _ _ I sb _ p h2 _ hQ=>AU I sb p h2 hQ,λ_ _ _ _ _ _ _ I sb hA _ _ _ _ hx hy _ hQ=>G9 I sb hA hx hy hQ⟩
theorem xJ {Q:Value->Shared->Prop} (hs:J1 X enc lt κ L) (I:Inv X aa σ H s) (sb:aN Hf H) (hA:A.units+20<cLine) (hr:av X.K Hf (L.map enc) xs) (hv:Vals xs us) (hz:us.length<=sizeLine) (nd:L.Nodup)
 (hkw:∀ l,Builtin.«list.sort» ⟨[.ref l],kw⟩=Builtin.«list.sort» ⟨[.ref l],[(MY "reverse",.bool b)]⟩) (hka:∀ l,argsOk "list.sort" ⟨[.ref l],kw⟩)
 (hQ:∀ (L':List α) (xs':List V) (s':Shared),L'.Perm L->fN lt b L'->av X.K Hf (L'.map enc) xs'->xs'.length<=sizeLine->Inv X aa σ (upd H s.heap.objs.size (.lst xs')) s'->Q (.ref s.heap.objs.size) s') :
 wpAny (model X.prog X.w) A (newList us >>= λl=>(holding [l] (call (.builtin "list.sort") [l] kw) >>= λ_=>ret l)) (λfin s'=>∃ v,fin=.done (.ret v)/\Q v s') E s:=by
 refine MZ (Qx ?_ hz)
 have ha:(s.heap.push (seqObj "list" us.toArray 0)).get? s.heap.objs.size=some (seqObj "list" us.toArray 0):=Nl _ rfl
 have I1:Inv X aa σ H { s with heap:=s.heap.push (seqObj "list" us.toArray 0),toks:=s.toks }:=I.kept λb o e=>M9 _ e
 have Ha:H s.heap.objs.size=none:=I.hok.fresh (M4 _)
 obtain ⟨f0,f1,f2,f3,f4,f5⟩:=I.lN (H':=H) (M4 _) Ha
 have pL:=kX hr hv
 refine MZ (Oi (Se slot_list_sort ⟨_,ha,rfl⟩ entry_list_sort (by
  rw [hkw]
  refine SR.mZ (κ:=κ) (rk:=SR.wX (λx u=>jO X.K Hf (enc x) u) lt L) (b:=b) ha ?_ hz λout hp ho=>⟨_,rfl,?_⟩
  ·intro h' k
   have I2:=I1.turned (h':=h') (t':=s.toks) (it:=s.heap.objs.size) (λb o hb e=>k b o hb e) f0 f1 f3 f4 f5
   refine ⟨λQ E h2 hQ=>hs.kind _ _ _ _ _ _ _ I2 sb _ pL h2 _ hQ,SR.zY (λx y u h1 h2=>hs.inj _ _ _ _ _ I2 sb x y u h1 h2) hs.lin pL λx _ y _ u v hx hy E Q hQ=>hs.cmp _ _ _ _ _ _ _ I2 sb ?_ _ _ _ _ hx hy _ hQ⟩
   show A.units+1+10<cLine
   lia
  ·obtain ⟨L',p1,p2,p3⟩:=SR.qL (S:=λx u=>jO X.K Hf (enc x) u) (λx y u h1 h2=>hs.inj _ _ _ _ _ I sb x y u h1 h2) hs.lin nd pL hp ho
   obtain ⟨xs',r',v'⟩:=kY p3
   obtain ⟨e,he⟩:=sortedHeap_at (vs:=us) (out:=out) ha
   have hl:out.toList.length=us.length:=hp.length_eq
   refine M3 ⟨_,rfl,hQ L' xs' _ p1 p2 r' ?_ ?_⟩
   ·have:=v'.length; lia
   ·refine I.laid (t':=s.toks) (λb o q=>?_) (M4 _) ⟨by have:=v'.length; lia,out.toList,e,v',by simpa using he⟩
    have lt:=Na q
    rw [sortedHeap_old (NB lt) (by rw [size_push']; exact Rb lt)]
    exact M9 _ q) (hka _)))
end
theorem lT:argsOk "sorted" ⟨[a],[]⟩:=by unfold argsOk; kernel_rfl
theorem args_list_sort_1:argsOk "list.sort" ⟨[a],[]⟩:=by unfold argsOk; kernel_rfl
noncomputable def J3 (d:Addr) (o:Obj) (u:HO):It :=
 ⟨λi H=>H d=some (.frz o u)/\i<(bM u).length,λi H x H'=>H'=H/\∃ y,(bM u)[i]?=some y/\x=y.1,λi H=>H d=some (.frz o u)/\(bM u).length<=i⟩
theorem tE {P:Program} {w:World} {K:M0} {tg:Expr} {d j:Addr} {o:Obj} {u:HO} {es:Array DictEntry} {ep:Nat} (hd:HO.dct u) (hod:o.data=.dict es ep) (hes:es.size=(bM u).length):Turn P w K tg (J3 d o u) [j] j (λi h=>h.IsKeyIter j d i es.size ep) where
 mem:=Nj.mpr rfl
 obj:=λi h ⟨q,e,_,hd⟩ b hb=>by
  obtain rfl:b=j:=Nj.mp hb
  exact ⟨_,e,λv z=>by rw [hd] at z; cases z⟩
 keep:=λi h h' ⟨q,e,r⟩ k=>⟨q,k j (Nj.mpr rfl) _ e,r⟩
 item:=by
  intro X hP hw hK hc i aa s σ H E I hf st hg
  subst hP hw hK
  obtain ⟨f0,f1,f2,f3,f4,f5⟩:=hf j (Nj.mpr rfl)
  obtain ⟨hH,hi⟩:=hg
  obtain ⟨ho,ok⟩:=(show bq X.prog X.w H s.heap d (.frz o u) from I.hok d _ hH)
  obtain ⟨_,es',ep',e1,e2,_⟩:=cI ok hd ho
  rw [hod] at e1; cases e1
  obtain ⟨e,he,re⟩:=dz e2 (Nr hi)
  have he':es[i]?=some e:=by simpa using he
  refine AW st ho hod he' λh' hit' hs'=>?_
  have I1:Inv X aa σ H { s with heap:=h',toks:=s.toks }:=I.turned (λb o hb e=>hs'.extBut b o hb e) f0 f1 f3 f4 f5
  obtain ⟨q,eq,qc,qd⟩:=id hit'
  exact ⟨_,rfl,l6 (s:={ s with heap:=h',toks:=s.toks }) (n:="dict_keyiterator") eq qc qd (by decide) ⟨_,H,I1,re.1,⟨rfl,_,Nr hi,rfl⟩,hit',λb hb=>(hf b hb).1⟩⟩
 done:=by
  intro X hP hw hK hc i aa s σ H E I hf st hg
  subst hP hw hK
  obtain ⟨f0,f1,f2,f3,f4,f5⟩:=hf j (Nj.mpr rfl)
  obtain ⟨hH,hi⟩:=hg
  obtain ⟨ho,ok⟩:=(show bq X.prog X.w H s.heap d (.frz o u) from I.hok d _ hH)
  exact DF (I.ok.hd hc) st ho hod (by rw [hes]; exact hi) λh' eb=>⟨rfl,I.turned (t':=s.toks) (λb o hb e=>eb b o hb e) f0 f1 f3 f4 f5⟩
 self:=λ_ _ _ _ _ st h=>wpAny_pyIter_keyiter st h
theorem tF {K:M0} {Hf:Hp} {d:Addr} {o:Obj} {ys:List (List Key×Addr×V)} {ks:List (List Int)} (hH:Hf d=some (.frz o (.dT ys))) (hk:ys.map (·.1)=ks.map (·.map Np)) (hs:∀ y∈ys,dh K Hf y.2.1 (y.1.map kV)):ji K (J3 d o (.dT ys)) (ks.map gz) Hf where
 go:=λi x H aU s1 s2 e=>by
  rw [Nd,Nk] at e
  obtain ⟨n,hn,rfl⟩:=e
  have hq:=congrArg (λl=>l[i]?) hk
  simp only [Nd,hn,Option.map_some] at hq
  obtain ⟨y,hy,ey⟩:=Nk.mp hq
  have hp:(bM (.dT ys))[i]?=some (.ref y.2.1,y.2.2):=by
   show (ys.map _)[i]?=_
   rw [Nd,hy]; rfl
  refine ⟨⟨s2 _ _ (s1 _ _ hH),(Nf.mp hp).1⟩,λv H' ⟨e1,y',e2,e3⟩=>?_⟩
  rw [hp] at e2; cases e2
  subst e1 e3
  refine ⟨aU,.refl s2,aL.mpr ⟨y.2.1,y.1.map kV,rfl,az s1 (hs y (Og hy)),?_⟩⟩
  rw [ey,Nt]
  exact jh n
 stop:=λi H aU s1 s2 e=>⟨s2 _ _ (s1 _ _ hH),by
  have:=congrArg Py hk
  show (ys.map _).length<=i
  simp only [M8] at this e |-
  lia⟩
theorem oM (hc:X.calm=true) (I:Inv X aa σ H s) (sb:aN Hf H) (hA:X.A.units+60<cLine) (hH:Hf d=some (.frz o (.dT ys))) (hk:ys.map (·.1)=ks.map (·.map Np)) (hq:∀ y∈ys,dh X.K Hf y.2.1 (y.1.map kV)) (nd:ks.Nodup)
 (hQ:∀ (L':List (List Int)) (xs':List V) (s':Shared) (H' ak:Hp) (a:Addr),L'.Perm ks->fN HT.lexLt false L'->av X.K ak (L'.map gz) xs'->bw H Hf H' ak->H' a=none->Inv X aa σ (upd H' a (.lst xs')) s'->Q (.ref a) s') :
 wpAny (model X.prog X.w) X.A (call (.builtin "sorted") [.ref d]) Q E s:=by
 refine call_function_entry kind_sorted plain_sorted entry_sorted lT ?_
 unfold Builtin.«sorted»
 refine MZ (m:=checkCount "sorted" 1 1 _) (M3 ?_)
 have h1:X.A.in1.handled=none:=I.ok.hd hc
 have h2:X.A.in1.frames=some X.stack:=I.ok.frames
 obtain ⟨ho,ok⟩:=(show bq X.prog X.w H s.heap d (.frz o (.dT ys)) from I.hok d _ (sb _ _ hH))
 obtain ⟨hx,es,ep,e1,e2,hs,hz⟩:=cI ok trivial ho
 have hsz:es.size=(bM (.dT ys)).length:=by rw [Oj e2]; simp
 have hn:(ks.map gz).length=(bM (.dT ys)).length:=by have:=congrArg Py hk; show _=(ys.map _).length; simp only [M8] at this |-; lia
 have ty:∀ s':Shared,(∀ b o,s.heap.get? b=some o->s'.heap.get? b=some o)->s'.TypeIs (.ref d) "dict":=λs' k=>⟨o,k _ _ ho,hx.1⟩
 refine MZ (kW (X:=Dd X X.A.in1) (H:=H) (Hf:=Hf) (ds:=ks.map gz) (T:="dict") hc h1 h2 (jo I (λ_=>h1) h2) sb (Na ho) (by lia) (by decide) (λs' k=>ty s' k) (λA s' Q E q h=>nc q h) (λA s1 H1 E I1 sb1 k1=>?_) λus s' H' ak xs I' rv rr g hz'=>?_)
 ·refine AV hs (k1 _ _ ho) hx e1 ?_
  refine ⟨_,_,_,rfl,M4 _,I1.kept (t':=s1.toks) λb o e=>M9 _ e,tE (u:=.dT ys) trivial e1 hsz,⟨_,Nl _ rfl,rfl,rfl⟩,λb hb=>?_,λb o e=>M9 _ e,tF hH hk hq⟩
  obtain rfl:b=s1.heap.objs.size:=Nj.mp hb
  exact I1.lN (M4 _) (I1.hok.fresh (M4 _))
 ·have I2:=gp I.ok I'
  have el:=rr.length
  have el2:=rv.length
  refine xJ (b:=false) (DG ks) I2 g.b ?_ rr rv (by lia) nd (λ_=>rfl) (λ_=>args_list_sort_1) λL' xs' s2 p1 p2 p3 p4 I3=>hQ L' xs' s2 H' ak _ p1 p2 p3 g (I2.hok.fresh (M4 _)) I3
  show X.A.units+1+20<cLine
  lia
section
variable {K:M0} {c:Ctx P w K mg base k N sc bk}
theorem AX (hm:mg "sorted"=none) (h:aI c e ρ λd=>∃ (ks:List (List Int)) (ds:List D),d=.fdT (ks.map (·.map Np)) ds/\Sd ks.Nodup (∀ L':List (List Int),L'.Perm ks->fN HT.lexLt false L'->R (.ow (L'.map gz))))
 (hg:sc.names.lookup (MY "sorted")=some .globalImplicit:=by walk_at "u")
 (he:∀ env,starEach [e] env=(false,eval e env)::starEach [] env:=by intro _; walk_at "u")
 (hpl:∀ env,(backTo pos (starEach [] env)).any (·.1)=false:=by intro _; walk_at "u") :
 dJ c (.Call (.Name "sorted" np) [e] [] pos) ρ R:=λσ H Hf Q S q aa s I=>by
 have hgl:Gl c.X "sorted":=by unfold Gl NY; rw [c.esc]; exact hg
 refine OO (eY I hgl (by rw [c.emg]; exact hm) (show bootBuiltins "sorted"=some (.builtin "sorted") by decide +kernel) ?_ (by decide) (by decide))
 have hpa:=cj (X:=c.X) (e:=e) (es:=[]) dI eZ (he _)
 refine SY (bJ (hpa pos aa s σ H (λvs H1=>∃ x,vs=[x]/\∃ (ks:List (List Int)) (ds:List D) (aU:Hp),Rep c.X.K aU (.fdT (ks.map (·.map Np)) ds) x/\ks.Nodup/\bw H Hf H1 aU/\∀ L':List (List Int),L'.Perm ks->fN HT.lexLt false L'->R (.ow (L'.map gz))) I ?_) λus s1 hh=>z2 hh λvs H1 hh=>w3 hh λI1 r1 hh=>hh.elim λx hh=>w2 hh λex hh=>z3 hh λks ds aU hh=>w4 hh λe1 e7 e8 e9=>?_) (he _) (hpl _)
 ·exact h σ H Hf _ S λd v H1 aU ⟨ks,ds,hp,⟨hn,hR⟩⟩ rv g=>⟨_,rfl,ks,ds,aU,by rw [<- hp]; exact rv,hn,g,hR⟩
 ·subst ex
  obtain ⟨a0,ys,o,rfl,hs,hk,hq,hr⟩:=iH.mp e1
  have eu:us=[.ref a0]:=by
   cases r1 with
   | cons q1 q2=>cases q2; cases q1; rfl
  subst eu
  refine oM c.calm I1 e8.b ?_ hs hk hq e7 λL' xs' s' H' ak a p1 p2 p3 g na I3=>?_
  ·have:=c.room.un
   lia
  ·have gg:=e8.trans g
   exact ⟨.ref a,_,I3,rfl,q (.ow (L'.map gz)) _ _ ak (e9 L' p1 p2) ⟨a,xs',rfl,gg.s.free na,ai,g.b.free na,p3⟩ (gg.trans (bw.f7 g.b na))⟩
end
section
variable {X:Cx} {aa:List (Addr×Obj)} {σ:L2.St} {H Hf:Hp} {s:Shared} {E:Value->Shared->Prop}
noncomputable def J4:V->List V->Hp->VK->Prop:=λx vs H Q=>∃ l xs y,x=.ref l/\vs=[.int 0,y]/\H l=some (.lst xs)/\xs.length<sizeLine/\Q .non (upd H l (.lst (y::xs)))
theorem DH:MA X "list.insert" J4:=by
 intro aa s σ H x vs v us Q I rx rv h
 obtain ⟨l,xs,y,rfl,rfl,hH,hz,q⟩:=h
 cases rx
 cases rv with
 | cons r0 rv =>
  obtain ⟨t,rfl⟩:=r0
  obtain ⟨u,rfl,ru⟩:=Vals.one rv
  obtain ⟨z,its,n,r,hl,e⟩:=I.pK hH
  refine Qg F.slot_list_insert ⟨_,e,rfl⟩ F.entry_list_insert (F.args_list_insert_3 _ _ _) (PySem.AutoSeq1.list_insert_list_int_val_1 l its.toArray n 0 t u (by decide) (by rw [Nq]; lia)) ⟨e,?_⟩
  refine ⟨.non,_,I.su (its':=u::its) hH e (by simp) (.cons ru r) ?_,rfl,q⟩
  rw [NN]
  lia
end
section
variable {P:Program} {w:World} {K:M0} {mg:Str->Option Value} {base:Heap} {k:Nat} {N:List Str} {sc:Scope} {bk:Bool} {c:Ctx P w K mg base k N sc bk} {ρ:List Sl} {pos ap cp px p0:Pos} {e:Expr} {nx:List Sl->Prop} {p:Pt} {x:Str} {i j:Nat}
theorem LW (hN:At N i x) (hi:At ρ i r) (hr:r.getL=some ds) (h:aI c e ρ λd=>Sd (ds.length<sizeLine) (Nx ρ i nx (r.putL (d::ds))))
 (hs:∀ env,swapsWith (.Call (.Attribute (.Name x px) "insert" ap) [.Constant (.int 0) j p0,e] [] cp) none pos.line env=pure false:=by intro _; walk_at "u") (hd:(x == ("__debug__":Str))=false:=by decide) (hcd:(x == ("__classdict__":Str))=false:=by decide)
 (hbase:∀ env,attributeBase (.Name x px) "insert" env (eval (.Name x px) env)=eval (.Name x px) env:=by intro _; walk_at "u")
 (hfew:∀ env,((backTo cp (starEach [.Constant (.int 0) j p0,e] env)).all (λx=> !x.1) && (backToKw cp (keywordEach [] env)).all (λx=>x.1.isSome)
   && decide (([.Constant (.int 0) j p0,e]:List Expr).length+([]:List Keyword).length+(if ([]:List Keyword).isEmpty then 0 else 1)<30))=true:=by intro _; walk_at "u")
 (hline:(ap.endLine == cp.line)=true:=by walk_at "u") (he0:∀ env,starEach [.Constant (.int 0) j p0,e] env=(false,eval (.Constant (.int 0) j p0) env)::starEach [e] env:=by intro _; walk_at "u") (he:∀ env,starEach [e] env=(false,eval e env)::starEach [] env:=by intro _; walk_at "u") (hpl:∀ env,(backTo cp (starEach [e] env)).any (·.1)=false:=by intro _; walk_at "u") :
 fK c (.Expr (.Call (.Attribute (.Name x px) "insert" ap) [.Constant (.int 0) j p0,e] [] cp) pos) ρ nx p:=λσ H Hf D S o=>by
 obtain ⟨q,eq,rq⟩:=S.own hi.get (di hr)
 obtain ⟨xs,h1,h2,h3⟩:=Gx hr rq
 refine dZ (nE (EE PySem.F.plainAttrs_list PySem.F.slot_list_insert PySem.F.type_list_insert DH (c.nV hN hd hcd) (cj yb (cj dI eZ (he _)) (he0 _)) (hbase _) (hfew _) hline (he0 _) (hpl _)) (hs _)) ⟨_,eq,.inl ⟨rfl,xs,.inl (.inl h1)⟩,?_⟩
 refine h σ H Hf _ S λd v H' ak ⟨hz,ρ',hs',hn⟩ rd g=>?_
 have S':=S.cH g
 have e1:H' q=some (.lst xs):=g.s _ _ h1
 have e2:ak q=none:=g.n q h2 (by rw [h1]; simp) (by intro ys; rw [h1]; simp)
 refine ⟨q,xs,v,rfl,rfl,e1,by rw [<- h3.length]; exact hz,?_⟩
 refine o.nx _ _ ak ρ' ?_ hn
 rw [hs'.eq]
 have rq':=rq.cH g
 exact S'.upd hi.get (di hr) eq (gH g.b e2) (kE hr rq' ai e2 (.cons rd (h3.mono g.f))) (gZ hr)
end
end EV
namespace EV
open PySem PySem.Spec PyProof.Rows L2
theorem vJ {α:Type}:∀ ys:List α,(NP ys.length).filterMap (ys[·]?)=ys
 | []=>rfl
 | y::ys=>by
  rw [NN,List.range_succ_eq_map,Ot]
  show y::_=_
  rw [Sn]
  exact congrArg (y:: ·) (vJ ys)
theorem rA {α β:Type} {f g:α->Option β}:∀ {l:List α},(∀ x∈l,f x=g x)->l.filterMap f=l.filterMap g
 | [],_=>rfl
 | x::l,h=>by rw [Ot,Ot,h x Ng,rA λy hy=>h y (Ni _ hy)]
theorem AY {α:Type} (xs:List α):List.filterMap ((xs[·]?)∘λi=>xs.length - 1 - i) (NP xs.length)=xs.reverse:=by
 have h:=vJ xs.reverse
 rw [Si] at h
 refine Eq.trans (rA λk hk=>?_) h
 exact (List.getElem?_reverse (Ry.mp hk)).symm
theorem vK (xs:List α):stp xs none none (some (-1))=xs.reverse:=by
 unfold stp sliceBounds
 simp only [Option.getD_some,show ¬ ((-1:Int)>0) by decide,if_false]
 have e:sliceRange ((xs.length:Int) - 1) (-1) (-1)=(NP xs.length).map λi=>xs.length - 1 - i:=by
  unfold sliceRange
  simp only [show ¬ ((-1:Int)>0) by decide,if_false]
  have c:(if (xs.length:Int) - 1> -1 then ((xs.length:Int) - 1 - -1 - -1 - 1) / (- -1) else 0)=(xs.length:Int):=by
   split
   ·rw [show (- -1:Int)=1 by decide,Int.ediv_one]; omega
   ·omega
  rw [c,N6]
  refine ON λk hk=>?_
  have:=Ry.mp hk
  omega
 rw [e,Sn]
 exact AY xs
noncomputable def LX (X:Cx) (te:TE) (tl th ts:TO):TE:=λσ H Q=>te σ H λx H1=>tl σ H1 λl H2=>th σ H2 λu H3=>ts σ H3 λt H4=>∃ a xs k,x=.ref a/\gF X.K H4 a xs/\l=none/\u=none/\t=some k/\k= -1/\∀ p,H4 p=none->Q (.ref p) (upd H4 p (.lst (stp xs l u (some k))))
section
variable {lo hi:Option Expr} {st:Expr}
theorem Hg (he:PE X e te) (hl:PO X lo tl) (hu:PO X hi th) (ht:PO X (some st) ts):PE X (.Subscript e (.Slice lo hi (some st) p2) pos) (LX X te tl th ts):=by
 intro aa s σ H Q I h
 refine Subscript_ (bJ (he aa s σ H _ I h) λv s1 ⟨x,H1,I1,r1,q1⟩=>?_)
 refine wpAny_Slice (bJ (hl aa s1 σ H1 _ I1 q1) λvl s2 ⟨l,H2,I2,pl,q2⟩=>bJ (hu aa s2 σ H2 _ I2 q2) λvu s3 ⟨u,H3,I3,pu,q3⟩=>bJ (ht aa s3 σ H3 _ I3 q3) λvt s4 ⟨t,H4,I4,pt,q4⟩=>?_)
 obtain ⟨a,xs,k,rfl,hx,rfl,rfl,rfl,rfl,q⟩:=q4
 have I5:Inv X aa σ H4 { s4 with heap:=s4.heap.push { cls:=.type "slice",data:=.fields #[vl,vu,vt] } }:=I4.kept (t':=s4.toks) λb ob q=>M9 _ q
 cases r1
 obtain ⟨its,r,hi,hz⟩:=I5.list hx
 have hlen:=r.length
 show wpAny (model X.prog X.w) X.A (subscriptTail e (.Slice lo _ (some st) p2) (.ref a) (.ref s4.heap.objs.size)) (EP X aa σ Q) X.xe { s4 with heap:=s4.heap.push { cls:=.type "slice",data:=.fields #[vl,vu,vt] } }
 refine tail_any (ops:=[.ref a,.ref s4.heap.objs.size]) hi.isList.typeIs Sw.lookup ?_ (by walk_at "u")
 refine wpAny_getItem_list_slice hi.isList (Heap.IsSliceOf.new ..) pl pu pt (by decide) ?_ (by rw [Nq] <;> lia)
 have I6:=I5
 generalize hS:({ s4 with heap:=s4.heap.push { cls:=.type "slice",data:=.fields #[vl,vu,vt] } }:Shared)=S at I6 |-
 have ep:slicePick its.toArray none none (some (-1))=(stp its none none (some (-1))).toArray:=by
  unfold slicePick stp
  simp only [Nq,List.getElem?_toArray]
 rw [ep]
 refine ⟨.ref S.heap.objs.size,_,I6.laid (t':=S.toks) (o:=.lst (stp xs none none (some (-1)))) (λb ob q=>M9 _ q) (M4 _) ?_,rfl,q _ (I6.hok.fresh (M4 _))⟩
 exact ⟨by rw [vK,Si]; exact hz,_,0,by unfold stp; rw [hlen]; exact xG r _,Nl _ rfl⟩
end
section
variable {K:M0}
theorem J5 {lo hi:Option Expr} {st:Expr} (h:aI c e ρ λx=>BK c lo ρ λl=>BK c hi ρ λu=>BK c (some st) ρ λt=>l=none/\u=none/\t=some (-1)/\∃ ds,x=.lst ds/\R (.ow ds.reverse)):dJ c (.Subscript e (.Slice lo hi (some st) p2) pos) ρ R:=λσ H Hf Q S q =>
 bZ (Hg dI JC JC JC) (h σ H Hf _ S λx v H1 aU h1 r1 g1=>h1 σ H1 aU _ (S.cH g1) λl H2 c6 h2 g2=>h2 σ H2 c6 _ (S.cH (g1.trans g2)) λu H3 Hf3 h3 g3=>h3 σ H3 Hf3 _ (S.cH ((g1.trans g2).trans g3)) λt H4 Hf4 h4 g4=>by
  obtain ⟨rfl,rfl,rfl,ds,rfl,hR⟩:=h4
  have r3:=Rep.mono g4.f _ (Rep.mono g3.f _ (Rep.mono g2.f _ r1))
  have g:=((g1.trans g2).trans g3).trans g4
  rw [br] at r3
  obtain ⟨a,xs,rfl,k1,k2⟩:=r3
  refine ⟨a,xs,-1,rfl,g4.b.seq k1,rfl,rfl,rfl,rfl,λp hp=>?_⟩
  exact q _ _ _ _ hR ⟨p,_,rfl,g.s.free hp,ai,g4.b.free hp,by rw [<- vK]; unfold stp; rw [k2.length]; exact xH k2 _⟩ (g.trans (bw.f7 g4.b hp)))
end
end EV
namespace EV
open PySem PySem.Spec PySem.Calls PyProof.Rows L2
theorem AZ {K:M0}:∀ {kvs:List (List Key×D)} {ys:List (List Key×Addr×V)},ys.map (·.1)=kvs.map (·.1)->(∀ y∈ys,dh K H y.2.1 (y.1.map kV))->av K H (kvs.map (·.2)) (ys.map (·.2.2))->kB K H kvs ys
 | [],[],_,_,_=>.nil
 | [],y::ys,h,_,_=>by simp at h
 | x::kvs,[],h,_,_=>by simp at h
 | x::kvs,y::ys,h,hq,r=>by
  rw [M7,M7] at h r
  obtain ⟨v,t,e,r1,r2⟩:=aF.mp r
  injection e with e1 e2
  injection h with h1 h2
  subst e1 e2
  exact .cons ⟨h1.symm,by rw [<- h1]; exact hq y Ng,r1⟩ (AZ h2 (λz hz=>hq z (Ni _ hz)) r2)
section
variable {K:M0}
theorem Hh (h:aI c a ρ λx=>aI c b ρ λy=>∃ (kvs:List (List Key×D)) (ds:List D) (kk:List Key) (d:D),x=.fdT (kvs.map (·.1)) (kvs.map (·.2))/\y=.tup ds/\D.keys ds=some kk/\bx kvs kk=some d/\R d) (hs:Cj b:=by with_unfolding_all exact λ_ _=>rfl):aI c (.Subscript a b pos) ρ R:=λσ H Hf Q S q =>
 bZ (uv c.hu dI dI hs) (h σ H Hf _ S λx v H1 aU h1 r1 g1=>h1 σ H1 aU _ (S.cH g1) λy u H2 c6 ⟨kvs,ds,kk,d,e1,e0,e2,e3,hR⟩ r2 g2=>by
  subst e1 e0
  obtain ⟨p,ys,o,rfl,k1,k2,k4,k3⟩:=iH.mp r1
  have kv:=(AZ k2 k4 k3).mono g2.f
  have rel:=kv.val kk
  rw [e3] at rel
  obtain ⟨pb,xb,rfl,kb,rb⟩:=aL.mp r2
  rw [gI e2 rb] at kb
  cases z:atT ys kk with
  | none=>rw [z] at rel; exact rel.elim
  | some v =>
   rw [z] at rel
   exact ⟨p,v,rfl,.inr ⟨ys,kk,pb,.inr ⟨o,g2.b _ _ (g2.f _ _ k1)⟩,λx hx=>az g2.b (az g2.f (k4 x hx)),rfl,az g2.b kb,z.symm⟩,q d v H2 c6 hR rel (g1.trans g2)⟩)
end
section
variable {K:M0}
theorem E5 (h:lI c a ρ T') (q:∀ b,T' b->T b):lI c a ρ T:=λσ H Hf Q S k=>h σ H Hf Q S λb H' ak hb g=>k b H' ak (q b hb) g
end
section
variable {K:M0}
end
section
variable {K:M0} {c:Ctx P w K mg base k N sc bk}
theorem Hi (hN:At N i x) (h:dJ c (.ListComp elt gs scope pos) ρ (Nx ρ i nx)) (hl:sc.names.lookup x=some .cell:=by walk_at "u")
 (hf:bk=false\/sc.names.lookup x=some .local:=by first | exact .inl rfl | exact .inr (by walk_at "u")):fK c (.Assign [.Name x pos2] (.ListComp elt gs scope pos) posA) ρ nx p:=λσ H Hf D S o=>by
 have hs:swapsWith (.ListComp elt gs scope pos) (some (.Name x pos2)) posA.line c.X.env=pure false:=by
  have e2:c.X.env.kindOf x=some .cell:=by unfold NY; rw [c.esc]; exact hl
  show pure (c.X.env.blockKind == ScopeKind.function && c.X.env.kindOf x == some NameKind.local && pos2.line == pos.line && !scope.names.any λ(n,k)=>n == x && (k == NameKind.local || k == Qy))=pure false
  rw [e2,show (some Qy == some NameKind.local)=false from rfl,Bool.and_false,Bool.false_and,Bool.false_and]
 exact dZ (yh (X:=c.X) (i:=i) (by rw [c.eN]; exact c.nd) (by rw [c.eN]; exact hN.get) (by rw [c.esc]; exact c.vis x hN.mem) dI hs (c.fn x hf)) (h σ H Hf _ S λr v H' ak ⟨ρ',hs,hx⟩ rs g=>o.nx _ H' ak _ (hs.eq ▸ S.set g rs) hx)
end
end EV
namespace My
open PySem PySem.Spec PyProof.Rows L2 EV
noncomputable abbrev top (i:Nat):Stmt:=PySem.Challenge.pw_everydraw_k22_whole_circles_hold.main.body.getD i (.Pass ⟨0,0,0,0⟩)
theorem tG:FS ["powers","end"] ["powers"] (top 2):=by decide +kernel
theorem iz:FS ["some","greatest","powers","number","k","power"] ["some"] (top 3):=by decide +kernel
theorem xK:FS ["powers","width","key","power"] ["powers","width"] (top 4):=by decide +kernel
theorem oN:FS ["key","width","mask"] ["key","width"] (top 5):=by decide +kernel
theorem xM:FS ["some","width"] ["some","width"] (top 6):=by decide +kernel
theorem rB:FS ["total","width"] ["total","width"] (top 7):=by decide +kernel
theorem jQ:FS ["total","left","right","key","number","shift","part","whole"] ["total","left","right"] (top 8):=by decide +kernel
theorem rC:FS ["parts","most","part"] ["parts"] (top 10):=by decide +kernel
theorem rD:FS ["whole","part","width","factors","left","right","product"] ["whole","part","width"] (top 11):=by decide +kernel
theorem lU:FS ["parts","width","whole","part"] ["parts"] (top 12):=by decide +kernel
theorem jy:FS ["total","l"] ["total","l"] (top 14):=by decide +kernel
theorem jz:FS ["lines","place"] ["lines","place"] (top 15):=by decide +kernel
theorem gB:FS ["total","lines","parts","sign","place","amount"] ["total","lines"] (top 16):=by decide +kernel
theorem lV:FS ["total","c","i"] ["total","c","i"] (top 18):=by decide +kernel
theorem oO:FS ["total","i"] ["total","i"] (top 19):=by decide +kernel
theorem lW:FS ["total","i","j","k","rows","found"] ["total","i","j","k"] (top 20):=by decide +kernel
theorem ly:FS ["total","o"] ["total","o"] (top 21):=by decide +kernel
theorem lX:FS ["total","o","i"] ["total","o","i"] (top 22):=by decide +kernel
theorem oQ:FS ["total","o","p"] ["total","o","p"] (top 23):=by decide +kernel
theorem jR:FS ["total","o","l"] ["total","o","l"] (top 24):=by decide +kernel
theorem fU:FS ["total","o","l","square","worth"] ["total","o","l"] (top 25):=by decide +kernel
theorem jS:FS ["c","i"] ["c","i"] (top 26):=by decide +kernel
theorem jT:FS ["i","j","k"] ["i","j","k"] (top 27):=by decide +kernel
theorem jU:FS ["o"] ["o"] (top 28):=by decide +kernel
theorem lY:FS ["o","i"] ["o","i"] (top 29):=by decide +kernel
theorem oR:FS ["o","p"] ["o","p"] (top 30):=by decide +kernel
theorem iA:FS ["o","l"] ["o","l"] (top 31):=by decide +kernel
theorem oS:FS ["total","i","l"] ["total","i","l"] (top 33):=by decide +kernel
theorem jA:FS ["total","i","l","foot","square"] ["total","i","l"] (top 34):=by decide +kernel
theorem i7:FS ["i","l"] ["i","l"] (top 35):=by decide +kernel
theorem oU:FS ["_law_script","_law_k"] ["_law_script","_law_k"] (top 37):=by decide +kernel
theorem rE:FS ["_law_script","_law_k","_law_cell","_law_number"] ["_law_script","_law_k"] (top 38):=by decide +kernel
theorem tH:FS ["_law_terms","_law_found","_law_powers","_law_number","_law_key"] ["_law_terms"] (top 39):=by decide +kernel
theorem oV:FS ["_law_factors","_law_found","_law_some_here","_law_terms","_law_powers","_law_number","_law_other","_law_count","_law_wide","_law_one","_law_two"] ["_law_factors"] (top 40):=by decide +kernel
theorem A0:FS ["_law_parts","_law_terms","_law_number","_law_factors"] ["_law_parts"] (top 41):=by decide +kernel
theorem xN:FS ["_law_number","_law_terms","_law_many","_law_k","_law_powers","_law_count"] ["_law_number"] (top 42):=by decide +kernel
theorem tK:FS ["_law_script","_law_at","_law_many"] ["_law_script","_law_at","_law_many"] (top 45):=by decide +kernel
theorem lz:FS ["_law_o","_law_i","_law_x","_law_y","_law_w","_law_parts"] ["_law_o","_law_i"] (top 46):=by decide +kernel
theorem oW:FS ["_law_l","_law_i"] ["_law_l","_law_i"] (top 47):=by decide +kernel
theorem Hj:FS ["_law_script","_law_i","_law_j","_law_k","_law_o","_law_l","_law_told","_law_other","_law_both","_law_square","_law_due"] ["_law_script"] (top 48):=by decide +kernel
local macro_rules | `(tactic| walk_at "side")=> `(tactic| first | lia | assumption | exact kI | exact iJ (Pg rfl) | exact yT (by decide) (by decide +kernel) | (show r6 _ _; exact ⟨by decide,by decide,by decide +kernel⟩))
local macro_rules | `(tactic| walk_at "at")=> `(tactic| with_reducible (repeat (first | exact At.z | apply At.s)))
local macro_rules | `(tactic| walk_at "sset")=> `(tactic| with_reducible (repeat (first | exact SSet.z | apply SSet.s)))
local macro_rules | `(tactic| walk_at "atI")=> `(tactic| first | assumption | rfl)
local macro_rules | `(tactic| walk_at "own")=> `(tactic| walk_at "u")
local macro_rules | `(tactic| walk_at "evSs")=> `(tactic| first
 | with_reducible refine aB ?_
 | with_reducible refine yQ ?_)
local macro_rules | `(tactic| walk_at "evS")=> `(tactic| first
 | ((with_reducible show fK _ (RN [Nn _ _] _ _) _ _ _); with_reducible refine yS (by walk_at "at") ?_)
 | ((with_reducible show fK _ (Stmt.If _ _ _ _) _ _ _); walk_at "evIf")
 | ((with_reducible show fK _ (Stmt.Expr _ _) _ _ _); walk_at "evXp")
 | ((with_reducible show fK _ (Stmt.Return (some (Nn _ _)) _) _ _ _); with_reducible refine yR (by walk_at "at") (by walk_at "at") rfl ?_)
 | ((with_reducible show fK _ (Stmt.Return (some _) _) _ _ _); with_reducible refine bK ?_)
 | ((with_reducible show fK _ (Stmt.Return none _) _ _ _); with_reducible refine s_retN ?_)
 | ((with_reducible show fK _ (Ru (Nn _ _) RG _ _) _ _ _); with_reducible refine s_addq (by walk_at "at") (by walk_at "at") ?_)
 | ((with_reducible show fK _ (Ru (Nn _ _) Operator.Sub _ _) _ _ _); with_reducible refine Gk (by walk_at "at") (by walk_at "at") ?_)
 | ((with_reducible show fK _ (Ru (Ow (Nn _ _) _ _) RG _ _) _ _ _); with_reducible refine uK (by walk_at "at") (by walk_at "at") ?_)
 | ((with_reducible show fK _ (RN [Expr.Tuple [Nn _ _,Nn _ _] _ _] (Expr.Tuple [_,_] _ _) _) _ _ _); with_reducible refine s_par (by walk_at "at") (by walk_at "at") (by decide) ?_)
 | ((with_reducible show fK _ (RN [Expr.Tuple _ _ _] _ _) _ _ _); with_reducible refine Jx ?_)
 | ((with_reducible show fK _ (RN [Ow (Nn _ _) _ _] _ _) _ _ _); walk_at "evPut")
 | with_reducible refine s_break ?_
 | with_reducible refine s_continue ?_
 | with_reducible refine s_pass ?_)
local macro_rules | `(tactic| walk_at "evIf")=> `(tactic| with_reducible refine Cw ?_)
local macro_rules | `(tactic| walk_at "evXp")=> `(tactic| with_reducible refine zw (by walk_at "at") (by walk_at "at") (by walk_at "own") ?_)
local macro_rules | `(tactic| walk_at "evPut")=> `(tactic| with_reducible refine Gz (by walk_at "at") (by walk_at "at") ?_ (ho:=by walk_at "own"))
local macro_rules | `(tactic| walk_at "evK")=> `(tactic| first
 | with_reducible refine Jm ?_
 | with_reducible refine LI ?_
 | with_reducible refine e_non ?_
 | with_reducible refine e_str ?_)
local macro_rules | `(tactic| walk_at "evCm")=> `(tactic| first
 | with_reducible refine e_isN ?_
 | with_reducible refine e_notN ?_
 | with_reducible refine e_lt ?_
 | with_reducible refine LO ?_
 | with_reducible refine e_ne ?_)
local macro_rules | `(tactic| walk_at "evIx")=> `(tactic| first
 | ((with_reducible show aI _ (Ow _ (Expr.Slice _ _ _ _) _) _ _); with_reducible refine p8 ?_)
 | ((with_reducible show aI _ (Ow (Nn _ _) _ _) _ _); with_reducible refine JH (by walk_at "at") (by walk_at "at") (by walk_at "own") (by walk_at "sset") ?_ (by walk_at "at"))
 | ((with_reducible show aI _ (Ow (Nn _ _) _ _) _ _); with_reducible refine e_dix (by walk_at "at") (by walk_at "at") ?_)
 | with_reducible refine mJ ?_)
local macro_rules | `(tactic| walk_at "evBo")=> `(tactic| first
 | with_reducible refine Gv ?_
 | with_reducible refine Jp ?_
 | with_reducible refine Jq ?_
 | with_reducible refine Jr ?_
 | with_reducible refine Gh ?_
 | with_reducible refine Js ?_)
local macro_rules | `(tactic| walk_at "evCa")=> `(tactic| first
 | ((with_reducible show aI _ (NR (Expr.Attribute _ _ _) _ _ _) _ _); walk_at "evMt")
 | ((with_reducible show aI _ (NR (Nn "isinstance" _) _ _ _) _ _); first
  | with_reducible refine e_isin (Txt.isin (by assumption)) (Txt.c_int (by assumption)) ?_
  | with_reducible refine e_isin (Txt.isin (by assumption)) (Txt.c_tuple (by assumption)) ?_
  | with_reducible refine e_isin (Txt.isin (by assumption)) (Txt.c_list (by assumption)) ?_
  | with_reducible refine e_isin (Txt.isin (by assumption)) (Txt.c_bool (by assumption)) ?_)
 | ((with_reducible show aI _ (NR (Nn "len" _) _ _ _) _ _); first
  | ((with_reducible show aI _ (NR _ [Nn _ _] _ _) _ _); with_reducible refine e_lenO (Txt.len (by assumption)) (by walk_at "at") (by walk_at "at") (by walk_at "own") (by walk_at "sset") ?_)
  | with_reducible refine e_len (Txt.len (by assumption)) ?_)
 | ((with_reducible show aI _ (NR (Nn "tuple" _) _ _ _) _ _); first
  | ((with_reducible show aI _ (NR _ [Nn _ _] _ _) _ _); with_reducible refine e_tupleO (Txt.tuple (by assumption)) (by walk_at "at") (by walk_at "at") (by walk_at "own") (by walk_at "sset") ?_)
  | with_reducible refine nU (Txt.tuple (by assumption)) ?_)
 | ((with_reducible show aI _ (NR (Nn "abs" _) _ _ _) _ _); with_reducible refine e_abs (Txt.abs (by assumption)) ?_)
 | ((with_reducible show aI _ (NR (Nn "int" _) _ _ _) _ _); with_reducible refine e_intB (Txt.int (by assumption)) ?_))
local macro_rules | `(tactic| walk_at "evMt")=> `(tactic| with_reducible refine Gy (by walk_at "at") (by walk_at "at") ?_ (ho:=by walk_at "own"))
local macro_rules | `(tactic| walk_at "evE")=> `(tactic| first
 | ((with_reducible show aI _ (Nn _ _) _ _); with_reducible refine uz (by walk_at "at") (by walk_at "at") ?_)
 | ((with_reducible show aI _ (QA _ _ _) _ _); walk_at "evK")
 | ((with_reducible show aI _ (NR _ _ _ _) _ _); walk_at "evCa")
 | ((with_reducible show aI _ (Ow _ _ _) _ _); walk_at "evIx")
 | ((with_reducible show aI _ (Expr.BinOp _ _ _ _) _ _); walk_at "evBo")
 | ((with_reducible show aI _ (Expr.Compare _ _ _ _) _ _); walk_at "evCm")
 | with_reducible refine f9 ?_
 | with_reducible refine Gw ?_
 | with_reducible refine Jt ?_
 | with_reducible refine e_not ?_
 | with_reducible refine e_and ?_
 | with_reducible refine e_or ?_
 | with_reducible refine e_one ?_
 | with_reducible refine Cv ?_)
local macro_rules | `(tactic| walk_at "evX")=> `(tactic| first
 | ((with_reducible show dJ _ (Expr.List _ _) _ _); with_reducible refine EI ?_)
 | ((with_reducible show dJ _ (NR _ _ _ _) _ _); walk_at "evXC")
 | ((with_reducible show dJ _ (Expr.BinOp _ RG _ _) _ _); with_reducible refine zd ?_)
 | ((with_reducible show dJ _ (Ow _ (Expr.Slice _ _ _ _) _) _ _); with_reducible refine uI ?_)
 | with_reducible refine uw ?_)
local macro_rules | `(tactic| walk_at "evXC")=> `(tactic| first
 | ((with_reducible show dJ _ (NR (Nn "list" _) _ _ _) _ _); first
  | ((with_reducible show dJ _ (NR _ [Nn _ _] _ _) _ _); with_reducible refine x_listO (Txt.list (by assumption)) (by walk_at "at") (by walk_at "at") (by walk_at "own") (by walk_at "sset") ?_)
  | with_reducible refine za (Txt.list (by assumption)) ?_)
 | with_reducible refine uw ?_)
local macro_rules | `(tactic| walk_at "evT")=> `(tactic| first
 | ((with_reducible show lI _ (Expr.Compare _ _ _ _) _ _); first
  | with_reducible refine t_isN ?_
  | with_reducible refine t_notN ?_
  | with_reducible refine LN ?_
  | with_reducible refine LM ?_
  | with_reducible refine LJ ?_
  | with_reducible refine t_le ?_
  | with_reducible refine Jv ?_
  | with_reducible refine LK ?_
  | with_reducible refine ES (by walk_at "at") (by walk_at "at") ?_
  | with_reducible refine t_dnotin (by walk_at "at") (by walk_at "at") ?_)
 | with_reducible refine t_not ?_
 | with_reducible refine MC (w_and ?_)
 | with_reducible refine MC (w_or ?_)
 | with_reducible refine t_val ?_)
local macro_rules | `(tactic| walk_at "evW")=> `(tactic| first
 | with_reducible refine w_and ?_
 | with_reducible refine w_or ?_
 | with_reducible refine Gi ?_
 | with_reducible refine w_or1 ?_)
local macro_rules | `(tactic| walk_at "evG")=> `(tactic| first
 | ((with_reducible show mF _ (Nn _ _) _ _ _); with_reducible refine cC (by walk_at "at") ?_)
 | with_reducible refine uC rfl (by walk_at "u") ?_)
local macro_rules | `(tactic| walk_at "evGs")=> `(tactic| first
 | with_reducible refine Gj ?_
 | ((with_reducible show wA _ (_::_) _ _ _); with_reducible refine Cy (by walk_at "at") ?_))
local macro_rules | `(tactic| walk_at "evL")=> `(tactic| first
 | ((with_reducible show Nx _ _ _ _); with_reducible refine nQ (by walk_at "sset") ?_)
 | ((with_reducible show Sd _ _); first | with_reducible refine Sd.mk (by walk_at "side") ?_ | with_reducible refine Sd.mk ?_ ?_)
 | ((with_reducible show nP _ _ _); first
  | with_reducible refine EG ?_
  | with_reducible refine uA ?_
  | with_reducible refine Cq ?_
  | with_reducible refine Cp (λh=>?_) (λh=>?_)
  | with_reducible refine if2 (λh=>?_) (λh=>?_))
 | with_reducible refine i2 ?_
 | with_reducible refine i1 ?_
 | with_reducible refine b1 ?_
 | ((with_reducible show yL _ _ _); first
  | with_reducible refine Cr ?_
  | with_reducible refine eqp_bl ?_
  | with_reducible refine eqp_str ?_)
 | ((with_reducible show kD _ _ _); first
  | with_reducible refine zk ?_
  | with_reducible refine zm ?_
  | with_reducible refine zp ?_)
 | ((with_reducible show Gf _ _); first
  | with_reducible refine gh ?_
  | with_reducible refine aG ?_)
 | ((with_reducible show IsN _ _); first
  | with_reducible refine isn_t ?_
  | with_reducible refine isn_f (by intro q; cases q) ?_)
 | ((with_reducible show ID _ _ _); first
  | refine mH (by rfl) ?_
  | refine yY (by rfl) ?_)
 | ((with_reducible show EM _ _ _ _); first
  | with_reducible refine EV.EM.lst ?_
  | with_reducible refine EV.EM.tup ?_)
 | ((with_reducible show ∃ ys,D.row _=some ys/\_); refine zq (by rfl) ?_)
 | ((with_reducible show ∃ t b,EK _ _ t/\_); first
  | with_reducible refine isd .int kit_ii ?_
  | with_reducible refine isd .int (Txt.ib (by assumption)) ?_
  | with_reducible refine isd .bl kit_bb ?_
  | with_reducible refine isd .lst kit_ll ?_
  | with_reducible refine isd .tup kit_tt ?_)
 | ((with_reducible show ∃ j d,D.int _=D.int j/\_); refine ⟨_,_,rfl,(by walk_at "atI"),?_⟩)
 | ((with_reducible show ∃ r,_/\Gm _ _ _ r); walk_at "evR"))
local macro_rules | `(tactic| walk_at "ev1")=> `(tactic| first
 | ((with_reducible show aI _ _ _ _); walk_at "evE")
 | ((with_reducible show dJ _ _ _ _); walk_at "evX")
 | ((with_reducible show lI _ _ _ _); walk_at "evT")
 | ((with_reducible show aH _ _ _ _ _); walk_at "evSs")
 | ((with_reducible show fK _ _ _ _ _); walk_at "evS")
 | ((with_reducible show pW _ _ _ _); first | with_reducible refine bQ ?_ | with_reducible refine kC ?_)
 | ((with_reducible show Jw _ _ _ _); walk_at "evW")
 | ((with_reducible show mF _ _ _ _ _); walk_at "evG")
 | ((with_reducible show wA _ _ _ _ _); walk_at "evGs")
 | ((with_reducible show BK _ _ _ _); first | with_reducible refine Gr ?_ | with_reducible refine Gs ?_)
 | walk_at "evL")
local macro_rules | `(tactic| walk_at "ev")=> `(tactic| repeat' (walk_at "ev1"))
section
variable {K:M0}
theorem lB {n:Nat} (h:n<=1000000):n<sizeLine:=OP h (by decide)
theorem tL {n:Nat} (h:n<=1000000):n<=sizeLine:=O9 (lB h)
noncomputable def vL:Fn:=λds r=>∃ l:List Int,l.length<=64/\ds=[.tup (l.map .int)]/\r=.ok (.va (.tup ((trim l).map .int)))
theorem Hl (h:l.length<=64):vL [.tup (l.map .int)] (.ok (.va (.tup ((trim l).map .int)))):=⟨l,h,rfl,rfl⟩
theorem A4 {cl:List Int} {j:Int} (h0:0<=j) (h1:j<cl.length) (h:R (.int (cl.getD j.toNat 0))):ID (.tup (cl.map D.int)) (.int j) R:=by
 refine mH ?_ h
 rw [iQ h0 (by simpa using h1)]
 have hj:j.toNat<cl.length:=by lia
 simp [Nd,hj]
theorem DI (Fu:dQ K "trimmed" "trimmed" (top 2) f fd) (T:Txt K mg):aZ P w K mg base (c9 P w) 1 f fd ["powers"] (dM K vL):=by
 refine bY Fu tG (by rintro ds r ⟨a,_,rfl,_⟩; rfl) (by rintro ds r ⟨a,_,_,rfl⟩; exact ⟨_,rfl⟩) λc hq ds sl hF=>?_
 obtain ⟨l,hl,rfl,e⟩:=hF
 injection e with e
 subst e
 show aH c _ [.va (.tup (l.map .int)),.un] _ _
 conv in (au _)=>whnf
 walk_at "ev"
 with_reducible refine uD hq (λm ρ'=>m<=l.length/\trim (l.take m)=trim l/\ρ'=[.va (.tup (l.map .int)),.va (.int (m:Int))]) (m₀:=l.length) ?_ ?_
 ·refine ⟨M4 _,by rw [NW],?_⟩
  rw [M8]
 ·rintro m ρ' ⟨hm,ht,rfl⟩
  walk_at "ev"
  ·refine A4 (by lia) (by lia) ?_
   have hk:((m:Int) - 1).toNat=m - 1:=by lia
   rw [hk]
   have hm1:m - 1+1=m:=by lia
   walk_at "ev"
   ·exact ⟨m - 1,by lia,by lia,m7 (by lia) (by assumption) (by rw [hm1]; exact ht),by rw [show ((m - 1:Nat):Int)=(m:Int) - 1 by lia]⟩
   ·show Sl.va _=Sl.va _
    rw [qh,Ae _ hm]
    have:=jr (l:=l) (m:=m - 1) (by lia) (by assumption) (by rw [hm1]; exact ht)
    rw [hm1] at this
    rw [this]
  ·show Sl.va _=Sl.va _
   have:m=0:=by lia
   subst this
   rw [qh,Ae _ hm,<- ht]
   rfl
theorem jB (x):(aS x).nl:=sG (by unfold D.pq; exact ⟨sG (CM _),dR (f:=D.int) (l:=[x.2]) λ_ _=>kI⟩)
noncomputable def DJ (t:aD):Option D:=if t.2≠0 then some (aS t) else none
theorem j6:∀ L:List aD,(L.map DJ).filterMap id=(nz L).map aS
 | []=>rfl
 | t::L=>by
  unfold nz
  by_cases h:t.2=0
  ·simp only [M7,DJ,h,ne_eq,not_true,if_false,Ot,id,List.filter_cons,bne_self_eq_false,NV]
   exact j6 L
  ·have hb:(t.2 != 0)=true:=by simpa using h
   rw [List.filter_cons,if_pos hb,M7,M7,Ot]
   simp only [DJ,ne_eq,h,not_false_eq_true,if_true,id]
   rw [j6 L]; rfl
noncomputable def rF:Fn:=λds r=>∃ ts:List aD,ts.length<=400000/\(∀ t∈ts,t.1.length<=64)/\ds=[.lst (ts.map aS)]/\r=.ok (.ow ((fE (nz (aJ ts))).map aS))
theorem tM {ts:List aD} (h:ts.length<=400000) (h2:∀ t∈ts,t.1.length<=64):rF [.lst (ts.map aS)] (.ok (.ow ((fE (nz (aJ ts))).map aS))):=⟨ts,h,h2,rfl,rfl⟩
theorem A5 (l m):cO (l,0) (m,0)=HT.lexLt l m:=by
 unfold cO
 by_cases e:l=m
 ·subst e; rw [if_pos rfl,EV.j3]; rfl
 ·rw [if_neg e]
theorem tN (hk:(A.map (·.1)).Nodup) (hp:L.Perm (A.map (·.1))) (hs:fN HT.lexLt false L):L.reverse=(fE A).map (·.1):=by
 have h:(L.reverse.map λl=>((l,0):aD))=((fE A).map (·.1)).map λl=>((l,0):aD):=by
  refine kZ (((Rf L).trans (hp.trans ((bB A).map _).symm)).map _) ?_ ?_
  ·unfold iW fN at *
   rw [OQ,List.pairwise_reverse]
   exact hs.imp λh=>by simpa [A5] using h
  ·have ho:iW true (fE A):=gO (keys_nodup hk)
   have hn:((fE A).map (·.1)).Nodup:=((bB A).map _).nodup_iff.mpr hk
   unfold iW fN QG at *
   rw [OQ] at hn
   rw [OQ,OQ]
   refine ho.imp₂ (λx y h q=>?_) hn
   simp only [if_true] at h |-
   rw [A5]
   unfold cO at h
   rw [if_neg λz=>q z.symm] at h
   exact h
 have:=congrArg (List.map (·.1)) h
 rw [Nt,Nt] at this
 exact ((List.map_id _).symm.trans this).trans (List.map_id _)
theorem A6 {l:List Int} (h:m<l.length):ki ((l.take (m+1)).map D.int) (-1)=some (.int (l.getD m 0)):=by
 have hl:(l.take (m+1)).length=m+1:=by simp; lia
 rw [uT (by decide) (by simp only [M8,hl]; lia),M8,hl]
 have e:(-1+((m+1:Nat):Int)).toNat=m:=by lia
 rw [e,Nd,List.getElem?_take]
 simp [Oa,h]
theorem Ho (xs:List α):EV.cutD xs none (some (-1))=xs.dropLast:=by
 unfold EV.cutD HT.ck
 rw [List.dropLast_eq_take]
 simp only [Rz]
 congr 1
 split <;> lia
section
local macro_rules | `(tactic| walk_at "evIx")=> `(tactic| first | ((with_reducible show aI _ (Ow _ (Nn _ _) _) _ _); with_reducible refine Hh ?_))
local macro_rules | `(tactic| walk_at "evX")=> `(tactic| first | ((with_reducible show dJ _ (Expr.Dict _ _ _) _ _); with_reducible refine CH ?_))
theorem A7 {f:Addr} {fd:FuncData} (Fu:dQ K "_law_plain" "_law_plain" (top 39) f fd) (T:Txt K mg):aZ P w K mg base (c9 P w) 1 f fd ["_law_terms"] (dM K rF):=by
 refine bY Fu tH (by rintro ds r ⟨n,_,_,rfl,_⟩; rfl) (by rintro ds r ⟨n,_,_,_,rfl⟩; exact ⟨_,rfl⟩) λc hq ds sl hF=>?_
 obtain ⟨ts,hl,hlen,rfl,e⟩:=hF
 injection e with e
 subst e
 show aH c _ [.va (.lst (ts.map aS)),.un,.un,.un,.un] _ _
 conv in (au _)=>whnf
 walk_at "ev"
 with_reducible refine d7 hq (cE ?_)
 walk_at "ev"
 refine ⟨λi ρ'=>∃ s2 s3 s4:Sl,ρ'=[.va (.lst (ts.map aS)),.oT (encA (aJ (ts.take i))),s2,s3,s4],⟨_,_,_,rfl⟩,?_,?_⟩
 ·rintro c' rS BW BX i d ρ' hd ⟨s2,s3,s4,rfl⟩
  simp only [Nd,Nk] at hd
  obtain ⟨t,ht,rfl⟩:=hd
  obtain ⟨hi,rfl⟩:=Nf.mp ht
  have h6:=hlen _ (NL hi)
  have hsz:(aJ (ts.take i)).length<sizeLine:=lB (by have:=gM (ts.take i); rw [N2] at this; lia)
  have e:aJ (ts.take (i+1))=putD (aJ (ts.take i)) (trim ts[i].1) ((bx (aJ (ts.take i)) (trim ts[i].1)).getD 0+ts[i].2):=by
   rw [N3 hi,qN]; rfl
  have hq':c'.X.xe=λ_ _=>False:=by rw [rS]; exact hq
  generalize aJ (ts.take i)=A at hsz e |-
  generalize ts[i]=t at h6 e |-
  show mF c' _ (D.tup [.tup (t.1.map .int),.int t.2]) _ _
  walk_at "ev"
  with_reducible refine uD hq' (λm ρ'=>m<=t.1.length/\trim (t.1.take m)=trim t.1/\ρ'=[.va (.lst (ts.map aS)),.oT (encA A),.va (.tup (t.1.map .int)),.va (.int t.2),.va (.tup ((t.1.take m).map .int))]) (m₀:=t.1.length) ?_ ?_
  ·exact ⟨M4 _,by rw [NW],by rw [NW]⟩
  ·rintro m ρ' ⟨hm,ht,rfl⟩
   have hL:((t.1.take m).map D.int).length=m:=by simp; lia
   walk_at "ev"
   ·rw [hL] at *
    obtain ⟨n,rfl⟩:∃ n,m=n+1:=⟨m - 1,by omega⟩
    refine mH (A6 (by omega)) ?_
    walk_at "ev"
    ·refine ⟨n,by omega,by omega,m7 (by omega) (by assumption) ht,?_⟩
     rw [Ho,jq (by omega),Ob,List.map_singleton,List.dropLast_concat]
    ·have eT:t.1.take (n+1)=trim t.1:=by first | exact jr (by omega) (by assumption) ht | exact (jr (by omega) (by assumption) ht).symm
     rw [eT]
     refine ⟨_,Ai (A:=A) rfl _,?_⟩
     rw [qO]
     walk_at "ev"
     refine ⟨_,Aj hsz,?_⟩
     walk_at "ev"
     show ∃ s2 s3 s4:Sl,_=[_,Sl.oT (encA (aJ (ts.take (i+1)))),s2,s3,s4]
     rw [e]
     exact ⟨_,_,_,rfl⟩
   ·have:m=0:=by rw [hL] at *; omega
    subst this
    have eT:t.1.take 0=trim t.1:=ht
    rw [eT]
    refine ⟨_,Ai (A:=A) rfl _,?_⟩
    rw [qO]
    walk_at "ev"
    refine ⟨_,Aj hsz,?_⟩
    walk_at "ev"
    show ∃ s2 s3 s4:Sl,_=[_,Sl.oT (encA (aJ (ts.take (i+1)))),s2,s3,s4]
    rw [e]
    exact ⟨_,_,_,rfl⟩
 ·rintro ρ' ⟨s2,s3,s4,rfl⟩
  rw [M8,NW]
  have hn:=keys_nodup (eB ts)
  have hn':=eB ts
  have hle:=gM ts
  with_reducible refine aB ?_
  with_reducible refine bK ?_
  refine sI 1 (by walk_at "at") (encK _) (by walk_at "sset") (dw hq (N':=["_law_key","_law_found"]) (ρ0:=λ_=>[.un,.va (D.fdT ((aJ ts).map λt=>t.1.map Np) ((aJ ts).map λt=>D.int t.2))]) (λt=>.un (.fr (by walk_at "at") (by walk_at "at") (by decide) rfl .nil)) (cE (e_x (J5 ?_))))
  refine e_x (AX (Txt.sorted T) ?_)
  walk_at "ev"
  refine ⟨(aJ ts).map (·.1),_,by rw [Nt]; rfl,hn',λL' hp hs=>?_⟩
  have eL:=tN hn' hp hs
  have hpl:=(bB (aJ ts)).length_eq
  refine aG ?_
  walk_at "ev"
  refine ⟨rfl,rfl,rfl,_,rfl,?_⟩
  rw [<- List.map_reverse,eL]
  refine aG (zq rfl ⟨tL (by simp only [M8]; omega),(fE (aJ ts)).map DJ,by simp,?_,?_⟩)
  ·intro c' hc t i d o hd ho
   simp only [Nd,Nk] at hd ho
   obtain ⟨n,⟨x,hx,rfl⟩,rfl⟩:=hd
   obtain ⟨x',hx',rfl⟩:=ho
   rw [hx] at hx'; cases hx'
   have hm:x∈aJ ts:=(bB (aJ ts)).subset (Og hx)
   have hv:bx (encA (aJ ts)) (x.1.map Np)=some (.int x.2):=by
    rw [oj,oG hn' hm]; rfl
   refine cC (by walk_at "at") (nQ (by walk_at "sset") ⟨.un (.same .nil),?_⟩)
   simp only [jj]
   walk_at "ev"
   refine ⟨encA (aJ ts),_,_,_,?_,rfl,fD x.1,hv,?_⟩
   ·show _=D.fdT (((aJ ts).map _).map _) (((aJ ts).map _).map _)
    rw [Nt,Nt]; rfl
   walk_at "ev"
   ·unfold DJ; rw [if_neg λh=>h (by assumption)]
   refine ⟨encA (aJ ts),_,_,_,?_,rfl,fD x.1,hv,?_⟩
   ·show _=D.fdT (((aJ ts).map _).map _) (((aJ ts).map _).map _)
    rw [Nt,Nt]; rfl
   walk_at "ev"
   unfold DJ
   rw [if_pos (by assumption)]
  ·rw [j6,Ah (keys_nodup hn')]
   exact ⟨dR λx _=>jB x,rfl⟩
end
end
section
variable {K:M0}
noncomputable def DK (p:List Int) (g:Nat->Int) (k:Nat):Int:=if bU p k>g k then bU p k else g k
noncomputable def gk (L:List aD) (k:Nat):Int:=L.foldl (λa t=>if bU t.1 k>a then bU t.1 k else a) 0
noncomputable def eG (L:List aD):List Int:=(NP 6).map (gk L)
noncomputable def iB (p:List Int) (g:Nat->Int) (j k:Nat):Int:=if k<j then DK p g k else g k
theorem vM (L:List aD) (k):∀ a:Int,a<=L.foldl (λa t=>if bU t.1 k>a then bU t.1 k else a) a:=by
 induction L with
 | nil=>exact λa=>Oe _
 | cons t L ih =>
  intro a
  rw [Ou]
  refine NG ?_ (ih _)
  split <;> lia
theorem E6 (L) (k):0<=gk L k:=vM L k 0
theorem DL (L) (t):gk (L++[t])=DK t.1 (gk L):=by
 funext k
 unfold gk DK
 rw [SA]; rfl
theorem DM:iB p (gk L) p.length=DK p (gk L):=by
 funext k
 unfold iB
 split
 ·rfl
 ·unfold DK
  rw [cP (by lia)]
  have:=E6 L k
  rw [if_neg (by lia)]
theorem A8 (p) (g):iB p g 0=g:=by funext k; unfold iB; rw [if_neg (by lia)]
noncomputable def fQ (g:Nat->Int):List D:=((NP 6).map g).map D.int
theorem A9 (p) (g) (h:j<6) (q:DK p g j=bU p j):(fQ (iB p g j)).set j (.int (bU p j))=fQ (iB p g (j+1)):=by
 refine Rl (by simp [fQ]) λi h1 h2=>?_
 have hi:i<6:=by simpa [fQ] using h2
 rw [List.getElem_set]
 simp only [fQ,SI,Sm]
 unfold iB
 by_cases e:j=i
 ·subst e
  rw [if_pos rfl,if_pos (by lia),q]
 ·rw [if_neg e]
  by_cases z:i<j
  ·rw [if_pos z,if_pos (by lia)]
  ·rw [if_neg z,if_neg (by lia)]
theorem xO (p) (g) (q:DK p g j=g j):fQ (iB p g j)=fQ (iB p g (j+1)):=by
 unfold fQ
 congr 1
 refine ON λi _=>?_
 unfold iB
 by_cases z:i<j
 ·rw [if_pos z,if_pos (by lia)]
 ·by_cases e:i=j
  ·subst e; rw [if_neg z,if_pos (by lia),q]
  ·rw [if_neg z,if_neg (by lia)]
theorem DN (g) {j:Nat} (h:j<6):ki (fQ g) (j:Int)=some (.int (g j)):=by
 rw [iQ (by lia) (by simp [fQ]; lia),N6]
 simp [fQ,h]
noncomputable def oX:Fn:=λds r=>∃ L:List aD,(∀ t∈L,t.1.length<=6)/\ds=[.lst (L.map aS)]/\r=.ok (.ow (fQ (gk L)))
theorem DO (h:∀ t∈L,t.1.length<=6):oX [.lst (L.map aS)] (.ok (.ow (fQ (gk L)))):=⟨L,h,rfl,rfl⟩
section
local macro_rules | `(tactic| walk_at "evPut")=> `(tactic| with_reducible refine GQ (by walk_at "at") (by walk_at "at") (by walk_at "own") ?_)
local macro_rules | `(tactic| walk_at "evX")=> `(tactic| first | ((with_reducible show dJ _ (Expr.BinOp _ Operator.Mult _ _) _ _); with_reducible refine JV ?_))
local macro_rules | `(tactic| walk_at "evE")=> `(tactic| first | ((with_reducible show aI _ (Nn "PLACES" _) _ _); with_reducible refine sC (by assumption) ?_))
theorem Ba (Fu:dQ K "greatest_powers" "greatest_powers" (top 3) f fd) (T:Txt K mg) (PL:∃ tk:Tok,mg "PLACES"=some (.int 6 tk)):aZ P w K mg base (c9 P w) 1 f fd ["some"] (dM K oX):=by
 obtain ⟨tk,hPL⟩:=PL
 refine bY Fu iz (by rintro ds r ⟨L,_,rfl,_⟩; rfl) (by rintro ds r ⟨L,_,_,rfl⟩; exact ⟨_,rfl⟩) λc hq ds sl hF=>?_
 obtain ⟨L,hl,rfl,e⟩:=hF
 injection e with e
 subst e
 show aH c _ [.va (.lst (L.map aS)),.un,.un,.un,.un,.un] _ _
 conv in (au _)=>whnf
 walk_at "ev"
 refine ⟨_,rfl,?_⟩
 walk_at "ev"
 ·exact ⟨⟨by decide,by decide⟩,by decide⟩
 walk_at "ev"
 show fK c _ [.va (.lst (L.map aS)),.ow (fQ (gk [])),.un,.un,.un,.un] _ _
 with_reducible refine d7 hq (cE ?_)
 walk_at "ev"
 refine ⟨λi ρ'=>∃ s2 s3 s4 s5:Sl,ρ'=[.va (.lst (L.map aS)),.ow (fQ (gk (L.take i))),s2,s3,s4,s5],⟨_,_,_,_,rfl⟩,?_,?_⟩
 ·rintro c' rS BW BX i d ρ' hd ⟨s2,s3,s4,s5,rfl⟩
  simp only [Nd,Nk] at hd
  obtain ⟨t,ht,rfl⟩:=hd
  obtain ⟨hi,rfl⟩:=Nf.mp ht
  have h6:=hl _ (NL hi)
  have hq':c'.X.xe=λ_ _=>False:=by rw [rS]; exact hq
  show mF c' _ (D.tup [.tup (L[i].1.map .int),.int L[i].2]) _ _
  walk_at "ev"
  have eg:gk (L.take (i+1))=iB L[i].1 (gk (L.take i)) L[i].1.length:=by rw [N3 hi,DL,DM]
  generalize L[i]=t at h6 eg |-
  generalize gk (L.take i)=g at eg |-
  with_reducible refine d7 hq' (Aq (Txt.enum (by assumption)) ?_)
  walk_at "ev"
  refine ⟨_,rfl,?_⟩
  refine ⟨λj ρ'=>∃ s4 s5:Sl,ρ'=[.va (.lst (L.map aS)),.ow (fQ (iB t.1 g j)),.va (.tup (t.1.map .int)),.va (.int t.2),s4,s5],⟨s4,s5,by rw [A8]⟩,?_,?_⟩
  ·rintro c2 hcX2 hcR2 hcM2 j d ρ' hd ⟨s4,s5,rfl⟩
   unfold k9 at hd
   simp only [Nd,Nk,List.getElem?_zipIdx] at hd
   obtain ⟨⟨x,m⟩,⟨y,⟨z,hz,rfl⟩,e⟩,rfl⟩:=hd
   obtain ⟨rfl,rfl⟩:D.int z=x/\0+j=m:=by simpa using e
   obtain ⟨hj,rfl⟩:=Nf.mp hz
   have hj6:j<6:=by lia
   have ha:ki (fQ (iB t.1 g j)) (((0+j:Nat):Int))=some (.int (g j)):=by
    rw [O8,DN _ hj6]; unfold iB; rw [if_neg (by lia)]
   have ep:bU t.1 j=t.1[j]:=dN hj
   have hj0:0+j=j:=O8 j
   rw [hj0] at ha |-
   show mF c2 _ (D.tup [.int (j:Nat),.int t.1[j]]) _ _
   walk_at "ev"
   ·refine ⟨j,rfl,⟨by simp [fQ]; lia,?_⟩⟩
    walk_at "ev"
    refine ⟨.va (.int (j:Nat)),.va (.int t.1[j]),?_⟩
    show [_,Sl.ow ((fQ (iB t.1 g j)).set j (.int t.1[j])),_,_,_,_]=_
    rw [<- ep,A9 t.1 g hj6 (by unfold DK; rw [ep,if_pos (by assumption)])]
   ·refine ⟨.va (.int (j:Nat)),.va (.int t.1[j]),?_⟩
    rw [xO t.1 g (by unfold DK; rw [ep,if_neg (by assumption)])]
  ·rintro ρ' ⟨s4,s5,rfl⟩
   rw [show (k9 (t.1.map D.int)).length=t.1.length by simp [k9]]
   walk_at "ev"
   exact ⟨_,_,_,_,by rw [eg]⟩
 ·rintro ρ' ⟨s2,s3,s4,s5,rfl⟩
  rw [M8,NW]
  walk_at "ev"
  rfl
end
noncomputable def BP (ns:List Int):Int:=ns.foldr max 0
theorem Bb:∀ {ns:List Int} {n:Int},n∈ns->n<=BP ns
 | x::ns,n,h=>by
  show n<=max x (BP ns)
  rcases Nm.mp h with rfl | h
  ·lia
  ·have:=Bb h; lia
theorem E7:∀ (ns:List Int),0<=BP ns
 | []=>Oe _
 | x::ns=>by show 0<=max x (BP ns); have:=E7 ns; lia
theorem tO:∀ {ns:List Int} {m:Int},0<=m->(∀ n∈ns,n<=m)->BP ns<=m
 | [],_,h,_=>h
 | x::ns,m,h0,h=>by
  show max x (BP ns)<=m
  have:=tO h0 λn hn=>h n (Ni _ hn)
  have:=h x Ng
  lia
theorem Bc (h:m∈eG L) (h2:∀ n∈eG L,n<=m):m=BP (eG L):=by
 have h0:0<=m:=by
  unfold eG at h
  obtain ⟨k,_,rfl⟩:=N1.mp h
  exact E6 L k
 exact Int.le_antisymm (Bb h) (tO h0 h2)
end
section
variable {K:M0}
noncomputable def DP:Fn:=λds r=>∃ (p:List Int) (W:Nat),W<=10/\Bd (2 ^ W) p/\ds=[.tup (p.map .int),.int (W:Nat)]/\r=.ok (.va (.int (pk (2 ^ W) p)))
theorem J6 (h:W<=10) (h2:Bd (2 ^ W) p):DP [.tup (p.map .int),.int (W:Nat)] (.ok (.va (.int (pk (2 ^ W) p)))):=⟨p,W,h,h2,rfl,rfl⟩
section
local macro_rules | `(tactic| walk_at "evE")=> `(tactic| first | ((with_reducible show aI _ (Nn "PLACES" _) _ _); with_reducible refine sC (by assumption) ?_))
local macro_rules | `(tactic| walk_at "evBo")=> `(tactic| first | with_reducible refine EZ ?_ | with_reducible refine E0 ?_ | with_reducible refine Al ?_)
theorem Hq (Fu:dQ K "key_of" "key_of" (top 4) f fd) (T:Txt K mg) (PL:∃ tk:Tok,mg "PLACES"=some (.int 6 tk)):aZ P w K mg base (c9 P w) 1 f fd ["powers","width"] (dM K DP):=by
 obtain ⟨tk,hPL⟩:=PL
 refine bY Fu xK (by rintro ds r ⟨p,W,_,_,rfl,_⟩; rfl) (by rintro ds r ⟨p,W,_,_,_,rfl⟩; exact ⟨_,rfl⟩) λc hq ds sl hF=>?_
 obtain ⟨p,W,hW,hp,rfl,e⟩:=hF
 injection e with e
 subst e
 have h6:=hp.1
 show aH c _ [.va (.tup (p.map .int)),.va (.int (W:Nat)),.un,.un] _ _
 conv in (au _)=>whnf
 walk_at "ev"
 with_reducible refine d7 hq (cE ?_)
 walk_at "ev"
 refine ⟨λi ρ'=>∃ s3:Sl,ρ'=[.va (.tup (p.map .int)),.va (.int (W:Nat)),.va (.int (Dy (2 ^ W) (p.take i))),s3],⟨_,rfl⟩,?_,?_⟩
 ·rintro c' rS BW BX i d ρ' hd ⟨s3,rfl⟩
  simp only [Nd,Nk] at hd
  obtain ⟨x,hx,rfl⟩:=hd
  obtain ⟨hi,rfl⟩:=Nf.mp hx
  have bd:=AA (two_pos W) (p:=p.take i) λx hx=>hp.2 x (PY hx)
  have hl:(p.take i).length<=6:=by rw [N2]; lia
  walk_at "ev"
  ·exact ⟨by lia,by lia,vB hW hl bd.1 bd.2⟩
  ·refine ⟨.va (.int p[i]),?_⟩
   rw [N3 hi,Az,N6]
 ·rintro ρ' ⟨s3,rfl⟩
  rw [M8,NW]
  have bd:=AA (two_pos W) hp.2
  have ew:(W:Int) * (6 - ((p.map D.int).length:Nat))=((W * (6 - p.length):Nat):Int):=by
   rw [M8,Int.natCast_mul,Int.ofNat_sub h6]; rfl
  have ew2:W * (6 - p.length)<=60:=Nb (O5 hW (Nat.sub_le 6 _)) (by decide)
  walk_at "ev"
  ·exact qp (by lia)
  ·rw [ew]; exact ⟨by lia,by lia,vB hW h6 bd.1 bd.2⟩
  ·show Sl.va _=Sl.va _
   rw [ew,N6,Int.pow_mul,G2 h6]
end
theorem cR {α:Type} (f:α->D):∀ L:List α,(L.map λt=>some (f t)).filterMap id=L.map f
 | []=>rfl
 | x::L=>by
  rw [M7,M7,Ot]
  exact congrArg (f x:: ·) (cR f L)
noncomputable def vN:Fn:=λds r=>∃ (x:Int) (W:Nat),W<=10/\0<=x/\ds=[.int x,.int (W:Nat)]/\r=.ok (.va (.tup ((KU (2 ^ W) x).map .int)))
theorem Hr (h:W<=10) (h2:0<=x):vN [.int x,.int (W:Nat)] (.ok (.va (.tup ((KU (2 ^ W) x).map .int)))):=⟨x,W,h,h2,rfl,rfl⟩
section
local macro_rules | `(tactic| walk_at "evE")=> `(tactic| first | ((with_reducible show aI _ (Nn "PLACES" _) _ _); with_reducible refine sC (by assumption) ?_))
local macro_rules | `(tactic| walk_at "evBo")=> `(tactic| first | with_reducible refine EZ ?_ | with_reducible refine E0 ?_ | with_reducible refine Al ?_)
local macro_rules | `(tactic| walk_at "evXC")=> `(tactic| first | with_reducible refine x_call (F:=vL) (by assumption) (by decide) ?_)
theorem DQ (Fu:dQ K "powers_of" "powers_of" (top 5) f fd) (T:Txt K mg) (PL:∃ tk:Tok,mg "PLACES"=some (.int 6 tk)) (h1:c7 P w K mg base 1 "trimmed" vL):aZ P w K mg base (c9 P w) 2 f fd ["key","width"] (dM K vN):=by
 obtain ⟨tk,hPL⟩:=PL
 refine bY Fu oN (by rintro ds r ⟨x,W,_,_,rfl,_⟩; rfl) (by rintro ds r ⟨x,W,_,_,_,rfl⟩; exact ⟨_,rfl⟩) λc hq ds sl hF=>?_
 obtain ⟨x,W,hW,hx,rfl,e⟩:=hF
 injection e with e
 subst e
 show aH c _ [.va (.int x),.va (.int (W:Nat)),.un] _ _
 conv in (au _)=>whnf
 walk_at "ev"
 ·exact ⟨by lia,by lia,by decide⟩
 walk_at "ev"
 rw [N6]
 refine e_x (dw hq (N':=["k","key","mask","width"]) (ρ0:=λ_=>[.un,.va (.int x),.va (.int (1 * 2 ^ W - 1)),.va (.int (W:Nat))]) (λt=>.un (.fr (by walk_at "at") (by walk_at "at") (by decide) rfl (.fr (by walk_at "at") (by walk_at "at") (by decide) rfl (.fr (by walk_at "at") (by walk_at "at") (by decide) rfl .nil)))) (GW (Txt.range T) ?_))
 walk_at "ev"
 refine ⟨rfl,⟨⟨by decide,by decide⟩,⟨⟨by decide,by decide⟩,⟨by decide,?_⟩⟩⟩⟩
 refine ⟨(NP 6).map λ(i:Nat)=>some (.int (x / (2 ^ W) ^ (5 - i) % 2 ^ W)),rfl,?_,aG ?_⟩
 ·intro c' hc t i d o hd ho
  unfold Ar at hd
  simp only [Nd,Nk] at hd ho
  obtain ⟨a,ha,rfl⟩:=hd
  obtain ⟨a',ha',rfl⟩:=ho
  have hi:i<6:=by simpa using (Nf.mp ha').1
  rw [P1 hi] at ha'; cases ha'
  rw [show (6 - 1 - -1:Int).toNat=6 by decide,P1 hi] at ha; cases ha
  refine cC (by walk_at "at") (nQ (by walk_at "sset") ⟨.un (.same (.same (.same .nil))),?_⟩)
  simp only [jj]
  refine ⟨λ_=>?_,λh=>by cases h⟩
  have e5:((W:Int) * (6 - 1 - (i:Int))).toNat=W * (5 - i):=by
   rw [show ((6:Int) - 1 - (i:Int))=((5 - i:Nat):Int) by lia,<- Int.natCast_mul,N6]
  have e6:(0:Int)<=(W:Int) * (6 - 1 - (i:Int)):=Int.mul_nonneg (by lia) (by lia)
  have hp:(0:Int)<(2 ^ W) ^ (5 - i):=Pz (two_pos W)
  walk_at "ev"
  ·exact qp (by lia)
  ·show some _=some (D.int _)
   rw [e5,Int.pow_mul,xx W (Int.ediv_nonneg hx (by lia))]
 ·refine ⟨_,rfl,?_⟩
  rw [cR (λ(i:Nat)=>D.int (x / (2 ^ W) ^ (5 - i) % 2 ^ W)) (NP 6),show ((NP 6).map λ(i:Nat)=>D.int (x / (2 ^ W) ^ (5 - i) % 2 ^ W))=((NP 6).map λ(i:Nat)=>x / (2 ^ W) ^ (5 - i) % 2 ^ W).map D.int by rw [Nt]; rfl]
  walk_at "ev"
  exact aj (Hl (by simp)) rfl
end
noncomputable def rG (b:Int) (t:aD):D:=.tup [.int (pk b t.1),.int t.2]
noncomputable def vO:Fn:=λds r=>∃ (L:List aD) (W:Nat),W<=10/\L.length<=400000/\(∀ t∈L,Bd (2 ^ W) t.1)/\ds=[.lst (L.map aS),.int (W:Nat)]/\r=.ok (.ow (L.map (rG (2 ^ W))))
theorem Hs {L:List aD} {W:Nat} (h:W<=10) (h1:L.length<=400000) (h2:∀ t∈L,Bd (2 ^ W) t.1):vO [.lst (L.map aS),.int (W:Nat)] (.ok (.ow (L.map (rG (2 ^ W))))):=⟨L,W,h,h1,h2,rfl,rfl⟩
section
local macro_rules | `(tactic| walk_at "evCa")=> `(tactic| first | with_reducible refine bz (F:=DP) (by assumption) (by decide) ?_)
theorem DR (Fu:dQ K "packed" "packed" (top 6) f fd) (T:Txt K mg) (h1:c7 P w K mg base 1 "key_of" DP):aZ P w K mg base (c9 P w) 2 f fd ["some","width"] (dM K vO):=by
 refine bY Fu xM (by rintro ds r ⟨L,W,_,_,_,rfl,_⟩; rfl) (by rintro ds r ⟨L,W,_,_,_,_,rfl⟩; exact ⟨_,rfl⟩) λc hq ds sl hF=>?_
 obtain ⟨L,W,hW,hL,hb,rfl,e⟩:=hF
 injection e with e
 subst e
 show aH c _ [.va (.lst (L.map aS)),.va (.int (W:Nat))] _ _
 conv in (au _)=>whnf
 refine aB (bK (dw hq (N':=["powers","number","width"]) (ρ0:=λ_=>[.un,.un,.va (.int (W:Nat))]) (λt=>.un (.un (.fr (by walk_at "at") (by walk_at "at") (by decide) rfl .nil))) (cE ?_)))
 walk_at "ev"
 ·exact tL (by rw [M8]; lia)
 refine ⟨L.map λt=>some (rG (2 ^ W) t),by simp,?_,by show Sl.ow _=Sl.ow _; rw [cR]⟩
 intro c' hc t i d o hd ho
 simp only [Nd,Nk] at hd ho
 obtain ⟨x,hx,rfl⟩:=hd
 obtain ⟨x',hx',rfl⟩:=ho
 rw [hx] at hx'; cases hx'
 have hbx:=hb x (Og hx)
 show mF c' _ (.tup [.tup (x.1.map .int),.int x.2]) _ _
 walk_at "ev"
 refine ⟨.un (.un (.same .nil)),?_⟩
 simp only [jj]
 refine ⟨λ_=>?_,λh=>by cases h⟩
 walk_at "ev"
 refine aj (J6 hW hbx) ?_
 walk_at "ev"
 rfl
end
end
section
variable {P:Program} {w:World} {K:M0} {mg:Str->Option Value} {base:Heap}
noncomputable def Ht:KS:=λkvs ds Z=>∃ (ts A B:List aD) (W:Nat),W<=10/\ts.length+A.length * B.length<=400000/\A.length<=400000/\B.length<=400000/\(∀ t∈ts,Bd (2 ^ W) t.1)/\(∀ l∈A,∀ r∈B,Bd (2 ^ W) (cD l.1 r.1)/\EV.MulOk l.2 r.2) /\
 kvs=cK ((aJ ts).map (gu (2 ^ W)))/\ds=[.lst (A.map (rG (2 ^ W))),.lst (B.map (rG (2 ^ W)))]/\Z=λkvs'=>kvs'=cK ((aJ (ts++aM A B)).map (gu (2 ^ W)))
section
local macro_rules | `(tactic| walk_at "evS")=> `(tactic| first | ((with_reducible show fK _ (Ru (Ow (Nn _ _) _ _) RG _ _) _ _ _); with_reducible refine uK (by walk_at "at") (by walk_at "at") ?_ (ho:=by walk_at "own")))
theorem Hu (Fu:dQ K "add_products" "add_products" (top 8) f fd) (T:Txt K mg):aZ P w K mg base (c9 P w) 1 f fd ["total","left","right"] (GO K Ht):=by
 refine JT Fu jQ (by rintro kvs ds Z ⟨t0,A,B,W,_,_,_,_,_,_,_,rfl,_⟩; rfl) λc hq q kvs ds Z hF=>?_
 obtain ⟨t0,A,B,W,hW,hl,hA,hB,hb0,hp,rfl,rfl,rfl⟩:=hF
 have e00:t0=t0++aM (A.take 0) B:=by show t0=t0++[]; rw [N7]
 rw [show cK ((aJ t0).map (gu (2 ^ W)))=cK ((aJ (t0++aM (A.take 0) B)).map (gu (2 ^ W))) by rw [<- e00]]
 show aH c _ [.aK q (cK ((aJ (t0++aM (A.take 0) B)).map (gu (2 ^ W)))),.va (.lst (A.map (rG (2 ^ W)))),.va (.lst (B.map (rG (2 ^ W)))),.un,.un,.un,.un,.un] _ _
 conv in (au _)=>whnf
 walk_at "ev"
 with_reducible refine d7 hq (cE ?_)
 walk_at "ev"
 refine ⟨λi ρ'=>∃ s3 s4 s5 s6 s7:Sl,ρ'=[.aK q (cK ((aJ (t0++aM (A.take i) B)).map (gu (2 ^ W)))),.va (.lst (A.map (rG (2 ^ W)))),.va (.lst (B.map (rG (2 ^ W)))),s3,s4,s5,s6,s7],⟨_,_,_,_,_,rfl⟩,?_,?_⟩
 ·rintro c' rS BW BX i d ρ' hd ⟨s3,s4,s5,s6,s7,rfl⟩
  simp only [Nd,Nk] at hd
  obtain ⟨l,hlx,rfl⟩:=hd
  obtain ⟨hi,rfl⟩:=Nf.mp hlx
  have hq':c'.X.xe=λ_ _=>False:=by rw [rS]; exact hq
  show mF c' _ (.tup [.int (pk (2 ^ W) A[i].1),.int A[i].2]) _ _
  walk_at "ev"
  with_reducible refine d7 hq' (cE ?_)
  walk_at "ev"
  have hpi:=hp A[i] (NL hi)
  have e0:t0++aM (A.take (i+1)) B=(t0++aM (A.take i) B)++B.map (dO A[i]):=by
   rw [N3 hi,ng,Nz]
  have hprev:∀ t∈t0++aM (A.take i) B,Bd (2 ^ W) t.1:=λt ht=>by
   rcases NF.mp ht with z | z
   ·exact hb0 t z
   ·obtain ⟨l,hl,r,hr,rfl⟩:=gv z
    exact (hp l (PY hl) r hr).1
  have hlen:(t0++aM (A.take i) B).length+B.length<=400000:=by
   rw [NJ,cQ,N2,Pr (by lia),Nat.add_assoc,<- Qc]
   exact Nb (Nat.add_le_add_left (Nat.mul_le_mul_right _ (by lia)) _) hl
  generalize A[i]=l at hpi e0 |-
  generalize t0++aM (A.take i) B=ts at e0 hprev hlen |-
  refine ⟨λj ρ'=>∃ s5 s6 s7:Sl,ρ'=[.aK q (cK ((aJ (ts++(B.take j).map (dO l))).map (gu (2 ^ W)))),.va (.lst (A.map (rG (2 ^ W)))),.va (.lst (B.map (rG (2 ^ W)))),.va (.int (pk (2 ^ W) l.1)),.va (.int l.2),s5,s6,s7],⟨s5,s6,s7,by simp⟩,?_,?_⟩
  ·rintro c2 hcX2 hcR2 hcM2 j d ρ' hd ⟨s5,s6,s7,rfl⟩
   simp only [Nd,Nk] at hd
   obtain ⟨r,hrx,rfl⟩:=hd
   obtain ⟨hj,rfl⟩:=Nf.mp hrx
   obtain ⟨hb,hm⟩:=hpi B[j] (NL hj)
   have e1:ts++(B.take (j+1)).map (dO l)=(ts++(B.take j).map (dO l))++[dO l B[j]]:=by
    rw [N3 hj,Ob,Nz]; rfl
   have hprev2:∀ t∈ts++(B.take j).map (dO l),Bd (2 ^ W) t.1:=λt ht=>by
    rcases NF.mp ht with z | z
    ·exact hprev t z
    ·obtain ⟨r,hr,rfl⟩:=N1.mp z
     exact (hpi r (PY hr)).1
   have hlen2:(ts++(B.take j).map (dO l)).length<400000:=by
    rw [NJ,M8,N2]; lia
   have key:=G1 (two_pos W) hprev2 (t:=dO l B[j]) hb
   rw [<- e1] at key
   generalize ts++(B.take j).map (dO l)=us at key hlen2 |-
   generalize B[j]=r at key hb hm |-
   show mF c2 _ (.tup [.int (pk (2 ^ W) r.1),.int r.2]) _ _
   have ek:pk (2 ^ W) (dO l r).1=pk (2 ^ W) l.1+pk (2 ^ W) r.1:=Dz _ _ _
   rw [ek] at key
   have hC:(cK ((aJ us).map (gu (2 ^ W)))).length<sizeLine:=lB (by
    have:=gM us
    simp only [cK,M8]; lia)
   generalize (aJ us).map (gu (2 ^ W))=C at key hC |-
   walk_at "ev"
   refine ES (by walk_at "at") (by walk_at "at") ?_
   walk_at "ev"
   refine ⟨_,.k rfl rfl,?_⟩
   rw [iZ]
   cases hv:bx C (pk (2 ^ W) l.1+pk (2 ^ W) r.1) with
   | some m =>
    rw [hv] at key
    show nP _ _ true
    walk_at "ev"
    refine ⟨m,by rw [<- show bx (cK C) (.inl (pk (2 ^ W) l.1+pk (2 ^ W) r.1))=some (D.int m) by rw [iZ,hv]; rfl]; exact .k rfl rfl,?_⟩
    walk_at "ev"
    refine ⟨_,.k rfl rfl hC,?_⟩
    walk_at "ev"
    refine ⟨.va (.int (pk (2 ^ W) r.1)),.va (.int r.2),.va (.int (pk (2 ^ W) l.1+pk (2 ^ W) r.1)),?_⟩
    show [Sl.aK q (putD (cK C) (.inl (pk (2 ^ W) l.1+pk (2 ^ W) r.1)) (.int (m+l.2 * r.2))),_,_,_,_,_,_,_]=_
    rw [qW,show putD C (pk (2 ^ W) l.1+pk (2 ^ W) r.1) (m+l.2 * r.2)=_ from key]
   | none =>
    rw [hv] at key
    show nP _ _ false
    walk_at "ev"
    refine ⟨_,.k rfl rfl hC,?_⟩
    walk_at "ev"
    refine ⟨.va (.int (pk (2 ^ W) r.1)),.va (.int r.2),.va (.int (pk (2 ^ W) l.1+pk (2 ^ W) r.1)),?_⟩
    show [Sl.aK q (putD (cK C) (.inl (pk (2 ^ W) l.1+pk (2 ^ W) r.1)) (.int (l.2 * r.2))),_,_,_,_,_,_,_]=_
    rw [qW,<- QE (l.2 * r.2),show putD C (pk (2 ^ W) l.1+pk (2 ^ W) r.1) (0+l.2 * r.2)=_ from key]
  ·rintro ρ' ⟨s5,s6,s7,rfl⟩
   rw [M8,NW,<- e0]
   walk_at "ev"
   exact ⟨_,_,_,_,_,rfl⟩
 ·rintro ρ' ⟨s3,s4,s5,s6,s7,rfl⟩
  rw [M8,NW]
  walk_at "ev"
  exact ⟨_,_,rfl,rfl⟩
end
noncomputable def IE (C:List (Int×Int)):D:=.fdK ((cK C).map (·.1)) ((cK C).map (·.2))
theorem Be (C):(cK C).map (·.1)=(C.map (·.1)).map Np:=by unfold cK; rw [Nt,Nt]; rfl
noncomputable def DS:Fn:=λds r=>∃ (ts:List aD) (W:Nat),W<=10/\ts.length<=400000/\(∀ t∈ts,Bd (2 ^ W) t.1)/\ds=[IE ((aJ ts).map (gu (2 ^ W))),.int (W:Nat)]/\r=.ok (.ow ((bL ts).map aS))
theorem J7 {ts:List aD} {W:Nat} (h:W<=10) (h1:ts.length<=400000) (h2:∀ t∈ts,Bd (2 ^ W) t.1):DS [IE ((aJ ts).map (gu (2 ^ W))),.int (W:Nat)] (.ok (.ow ((bL ts).map aS))):=⟨ts,W,h,h1,h2,rfl,rfl⟩
theorem tP (h:fN ltI true L):L.Pairwise λx y=>y<x:=by
 unfold fN at h
 exact h.imp λ{x y} q=>by simpa using q
section
local macro_rules | `(tactic| walk_at "evIx")=> `(tactic| with_reducible refine G3 ?_)
local macro_rules | `(tactic| walk_at "evCa")=> `(tactic| first | with_reducible refine bz (F:=vN) (by assumption) (by decide) ?_)
theorem Hw (Fu:dQ K "unpacked" "unpacked" (top 7) f fd) (T:Txt K mg) (h1:c7 P w K mg base 2 "powers_of" vN):aZ P w K mg base (c9 P w) 3 f fd ["total","width"] (dM K DS):=by
 refine bY Fu rB (by rintro ds r ⟨ts,W,_,_,_,rfl,_⟩; rfl) (by rintro ds r ⟨ts,W,_,_,_,_,rfl⟩; exact ⟨_,rfl⟩) λc hq ds sl hF=>?_
 obtain ⟨ts,W,hW,hl,hb,rfl,e⟩:=hF
 injection e with e
 subst e
 show aH c _ [.va (IE ((aJ ts).map (gu (2 ^ W)))),.va (.int (W:Nat))] _ _
 conv in (au _)=>whnf
 refine aB (bK (dw hq (N':=["key","total","width"]) (ρ0:=λ_=>[.un,.va (IE ((aJ ts).map (gu (2 ^ W)))),.va (.int (W:Nat))]) (λt=>.un (.fr (by walk_at "at") (by walk_at "at") (by decide) rfl (.fr (by walk_at "at") (by walk_at "at") (by decide) rfl .nil))) (cE (e_x (sS (Txt.sorted T) ?_)))))
 walk_at "ev"
 have hk:=eB ts
 have hg:=oF hb
 have nd:(((aJ ts).map (gu (2 ^ W))).map (·.1)).Nodup:=by
  rw [Nt]
  unfold QG at hk |-
  rw [OQ] at hk |-
  exact RT.imp_of_mem (λ{x y} hx hy q z=>q (sW (two_pos W) (hg x hx).1 (hg y hy).1 (hg x hx).2 (hg y hy).2 z)) hk
 refine ⟨((aJ ts).map (gu (2 ^ W))).map (·.1),_,by rw [<- Be]; rfl,nd,λL' hp hs=>?_⟩
 have eL:=Ay (two_pos W) hb hp (tP hs)
 subst eL
 have hle:=gM ts
 have hpl:=(bB (aJ ts)).length_eq
 refine aG (zq rfl ⟨tL (by simp only [M8]; lia),(fE (aJ ts)).map DJ,by simp,?_,?_⟩)
 ·intro c' hc t i d o hd ho
  simp only [Nd,Nk] at hd ho
  obtain ⟨n,⟨x,hx,rfl⟩,rfl⟩:=hd
  obtain ⟨x',hx',rfl⟩:=ho
  rw [hx] at hx'; cases hx'
  have hm:x∈aJ ts:=(bB (aJ ts)).subset (Og hx)
  have hv:bx (cK ((aJ ts).map (gu (2 ^ W)))) (.inl (pk (2 ^ W) x.1))=some (.int x.2):=by
   rw [iZ,sX (two_pos W) hg (hg x hm).1 (hg x hm).2,oG hk hm]; rfl
  refine cC (by walk_at "at") (nQ (by walk_at "sset") ⟨.un (.same (.same .nil)),?_⟩)
  simp only [jj]
  have h0:=(JZ (two_pos W) (hg x hm).1).1
  walk_at "ev"
  refine ⟨_,_,_,rfl,rfl,hv,?_⟩
  walk_at "ev"
  ·unfold DJ; rw [if_neg λh=>h (by assumption)]
  refine aj (Hr hW h0) ?_
  rw [GY (two_pos W) (hg x hm).1,(hg x hm).2]
  walk_at "ev"
  refine ⟨_,_,_,rfl,rfl,hv,?_⟩
  walk_at "ev"
  unfold DJ
  rw [if_pos (by assumption)]
 ·show Sl.ow _=Sl.ow _
  rw [j6,Ah (keys_nodup hk)]
  rfl
end
structure ME (A B:List aD):Prop where
 la:A.length<=400000
 lb:B.length<=400000
 lp:A.length * B.length<=400000
 pa:∀ t∈A,t.1.length<=6/\∀ x∈t.1,0<=x/\x<=500
 pb:∀ t∈B,t.1.length<=6/\∀ x∈t.1,0<=x/\x<=500
 mu:∀ l∈A,∀ r∈B,EV.MulOk l.2 r.2
theorem vP:∀ {L:List aD} (a:Int),a<=m->(∀ t∈L,bU t.1 k<=m)->L.foldl (λa t=>if bU t.1 k>a then bU t.1 k else a) a<=m
 | [],_,h,_=>h
 | t::L,a,h,q=>by
  rw [Ou]
  have:=q t Ng
  exact vP _ (by split <;> lia) λu hu=>q u (Ni _ hu)
theorem Bf (h0:0<=m) (h:∀ t∈L,∀ x∈t.1,x<=m):BP (eG L)<=m:=by
 refine tO h0 λn hn=>?_
 unfold eG at hn
 obtain ⟨k,_,rfl⟩:=N1.mp hn
 refine vP 0 h0 λt ht=>?_
 by_cases z:k<t.1.length
 ·rw [dN z]; exact h t ht _ (NL _)
 ·rw [cP (by lia)]; exact h0
theorem Bg (ht:t∈L) (hl:t.1.length<=6) (hx:x∈t.1):x<=BP (eG L):=by
 obtain ⟨k,hk,rfl⟩:=List.getElem_of_mem hx
 refine NG ?_ (Bb (show gk L k∈eG L from N1.mpr ⟨k,by simp; lia,rfl⟩))
 unfold gk
 rw [<- dN hk]
 suffices H:∀ a:Int,bU t.1 k<=L.foldl (λa t=>if bU t.1 k>a then bU t.1 k else a) a from H 0
 induction L with
 | nil=>cases ht
 | cons u L ih =>
  intro a
  rw [Ou]
  rcases Nm.mp ht with rfl | ht
  ·refine NG ?_ (vM L k _)
   split <;> lia
  ·exact ih ht _
theorem DT (h:0<=x):x<2 ^ Oh x:=by
 unfold Oh
 by_cases z:x=0
 ·subst z; decide
 ·have e:(x == 0)=false:=by simpa using z
  rw [e,if_neg Nc,gP]
  have:=Nat.lt_log2_self (n:=x.natAbs)
  lia
theorem bits_le (h:x.natAbs<1024):Oh x<=10:=by
 unfold Oh
 by_cases z:x=0
 ·subst z; decide
 ·have e:(x == 0)=false:=by simpa using z
  rw [e,if_neg Nc]
  have:=(Nat.log2_lt (n:=x.natAbs) (k:=10) (by lia)).mpr h
  lia
end
section
variable {P:Program} {w:World} {K:M0} {mg:Str->Option Value} {base:Heap}
noncomputable abbrev Part:=Int×List (List aD)
noncomputable def af (A:List aD):D:=.lst (A.map aS)
noncomputable def fF (p:Part):D:=.tup (.int p.1::p.2.map af)
noncomputable def fR (n:Int) (As:List (List aD)):List aD:=As.foldl aM (cT n)
noncomputable def cy (ps:List Part):List aD:=ps.flatMap λp=>fR p.1 p.2
noncomputable def bH (As:List (List aD)):Nat:=(As.map λA=>max A.length 1).foldr (· * ·) 1
noncomputable def lK (A:List aD):Int:=BP (eG A)
noncomputable def oY (As:List (List aD)):MP:=(As.map mp).foldr (· * ·) 1
theorem Bh (As):∀ L:List aD,mp (As.foldl aM L)=mp L * oY As:=by
 induction As with
 | nil=>intro L; show mp L=mp L * 1; grind
 | cons A As ih =>
  intro L
  rw [Ou,ih,tD]
  show _=mp L * (mp A * oY As)
  grind
theorem fS (n) (As):mp (fR n As)=(n:MP) * oY As:=by unfold fR; rw [Bh,oJ]
theorem Bj (h:As.Perm Bs):oY As=oY Bs:=by
 induction h with
 | nil=>rfl
 | cons x _ ih=>exact congrArg (mp x * ·) ih
 | swap x y l=>show mp y * (mp x * oY l)=mp x * (mp y * oY l); grind
 | trans _ _ a b=>rw [a,b]
theorem Bk (As) (A):oY (As++[A])=oY As * mp A:=by
 induction As with
 | nil=>show mp A * 1=1 * mp A; grind
 | cons B As ih=>show mp B * oY (As++[A])=mp B * oY As * mp A; rw [ih]; grind
theorem xP (h:As.Perm Bs):bH As=bH Bs:=by
 unfold bH
 induction h with
 | nil=>rfl
 | cons x _ ih=>simp only [M7,Qu] at ih |-; rw [ih]
 | swap x y l=>simp only [M7,Qu]; rw [Nat.mul_left_comm]
 | trans _ _ a b=>rw [a,b]
theorem xQ (As) (A):bH (As++[A])=bH As * max A.length 1:=by
 unfold bH
 induction As with
 | nil=>simp
 | cons B As ih=>simp only [Pp,M7,Qu] at ih |-; rw [ih,RA]
theorem Bl (As):1<=bH As:=by
 unfold bH
 induction As with
 | nil=>exact M4 _
 | cons B As ih=>simp only [M7,Qu]; exact O5 (m₁:=1) (n₁:=1) (by lia) ih
theorem gQ (As) (i):bH (As.take i)<=bH As:=by
 induction As generalizing i with
 | nil=>simp
 | cons B As ih =>
  cases i with
  | zero=>exact Bl _
  | succ i =>
   have:=ih i
   unfold bH at *
   simp only [List.take_succ_cons,M7,Qu]
   exact Nat.mul_le_mul_left _ this
def Ex (m:Int) (L:List aD):Prop:=∀ t∈L,t.1.length<=6/\∀ x∈t.1,0<=x/\x<=m
def Bn (m:Nat) (L:List aD):Prop:=∀ t∈L,t.2.natAbs<2 ^ m
theorem Ex.bd (h:Ex m L) (hm:m<2 ^ W):∀ t∈L,Bd (2 ^ W) t.1:=λt ht=>⟨(h t ht).1,λx hx=>⟨((h t ht).2 x hx).1,Ra ((h t ht).2 x hx).2 hm⟩⟩
theorem Bm (h0:0<=m) (h:∀ x∈p,0<=x/\x<=m) (k):0<=bU p k/\bU p k<=m:=by
 by_cases z:k<p.length
 ·rw [dN z]; exact h _ (NL _)
 ·rw [cP (by lia)]; lia
theorem DU (h0:0<=m) (g0:0<=n) (hp:p.length<=6/\∀ x∈p,0<=x/\x<=m) (hq:q.length<=6/\∀ x∈q,0<=x/\x<=n):(cD p q).length<=6/\∀ x∈cD p q,0<=x/\x<=m+n:=by
 refine ⟨by rw [i6]; lia,λx hx=>?_⟩
 unfold cD at hx
 obtain ⟨k,_,rfl⟩:=N1.mp hx
 have:=Bm h0 hp.2 k
 have:=Bm g0 hq.2 k
 lia
theorem Ex.prod (h0:0<=m) (g0:0<=n) (h:Ex m A) (g:Ex n B):Ex (m+n) (aM A B):=λt ht=>by
 obtain ⟨l,hl,r,hr,rfl⟩:=gv ht
 exact DU h0 g0 (h l hl) (g r hr)
theorem Ex.sum (h:Ex m L):Ex m (aJ L):=by
 unfold aJ
 suffices H:∀ (ts A:List aD),Ex m A->Ex m ts->Ex m (ts.foldl fO A) from H L [] (λt ht=>by cases ht) h
 intro ts
 induction ts with
 | nil=>exact λA hA _=>hA
 | cons u ts ih =>
  refine λA hA hts=>ih _ (λt ht=>?_) λt ht=>hts t (Ni _ ht)
  rcases q8 ht with rfl | q
  ·have:=hts u Ng
   exact ⟨Nb (gq _) this.1,λx hx=>this.2 x (qV hx)⟩
  ·exact hA t q
theorem Ex.mono (h:Ex m L) (hn:m<=n):Ex n L:=λt ht=>⟨(h t ht).1,λx hx=>⟨((h t ht).2 x hx).1,NG ((h t ht).2 x hx).2 hn⟩⟩
theorem Ex.app (h:Ex m A) (g:Ex m B):Ex m (A++B):=λt ht=>(NF.mp ht).elim (h t) (g t)
theorem Bn.mono (h:Bn m L) (hn:m<=n):Bn n L:=λt ht=>NU (h t ht) (Sa (by decide) hn)
theorem Bn.prod (h:Bn m A) (g:Bn n B):Bn (m+n) (aM A B):=λt ht=>by
 obtain ⟨l,hl,r,hr,rfl⟩:=gv ht
 show (l.2 * r.2).natAbs<_
 rw [Int.natAbs_mul,Nat.pow_add]
 exact Nat.mul_lt_mul'' (h l hl) (g r hr)
theorem Bn.sum {m:Nat} {L:List aD} (h:Bn m L) (hl:L.length<2 ^ 20):Bn (m+20) (aJ L):=λt ht=>by
 have:=G5 (m:=2 ^ m) (λt ht=>O9 (h t ht)) t ht
 refine OP this ?_
 rw [Nat.pow_add,RH]
 exact Nat.mul_lt_mul_of_pos_left hl (Nat.two_pow_pos m)
theorem vQ (h:a.natAbs<2 ^ m):Oh a<=m+1:=by
 unfold Oh
 by_cases z:a=0
 ·subst z; simp
 ·have e:(a == 0)=false:=by simpa using z
  rw [e,if_neg Nc]
  have:=(Nat.log2_lt (n:=a.natAbs) (k:=m) (by lia)).mpr h
  lia
theorem oZ (h:a.natAbs<2 ^ m) (g:b.natAbs<2 ^ n) (hm:m+n<=1000000):EV.MulOk a b:=by
 have h1:=vQ h
 have h2:=vQ g
 unfold EV.MulOk IntMulOk Builtin.Int.intTooBig bitsLine
 have e:decide (((Oh a+Oh b:Nat):Int)>((2 ^ 27:Nat):Int))=false:=by
  apply decide_eq_false
  rw [show (2:Nat) ^ 27=134217728 by decide]
  lia
 simp only [Qs]
 rintro ⟨_,z⟩
 have z':=of_decide_eq_true z
 rw [show (2:Nat) ^ 27=134217728 by decide] at z'
 lia
structure cB (A:List aD):Prop where
 l:A.length<=400000
 e:Ex 120 A
 b:Bn 2000 A
structure dP (p:Part):Prop where
 n:p.1.natAbs<2 ^ 2000
 m:p.2.length<=8
 f:∀ A∈p.2,cB A
structure ah (ps:List Part):Prop where
 p:∀ p∈ps,dP p
 l:ps.length<=1000
 s:(ps.map λp=>bH p.2).sum<=400000
theorem Bo (A):0<=lK A:=E7 _
theorem cB.mx (h:cB A):lK A<=120:=Bf (by decide) λt ht x hx=>((h.e t ht).2 x hx).2
theorem cB.ex (h:cB A):Ex (lK A) A:=λt ht=>⟨(h.e t ht).1,λx hx=>⟨((h.e t ht).2 x hx).1,Bg ht (h.e t ht).1 hx⟩⟩
noncomputable def pB (p:Part):Int:=(p.2.map lK).sum
theorem vR (As:List (List aD)):0<=(As.map lK).sum:=by
 induction As with
 | nil=>exact Oe _
 | cons A As ih=>rw [M7,OU]; have:=Bo A; lia
theorem dP.sz (h:dP p):pB p<=960:=by
 have:∀ As:List (List aD),(∀ A∈As,cB A)->(As.map lK).sum<=120 * As.length:=λAs=>by
  induction As with
  | nil=>exact λ_=>by simp
  | cons A As ih =>
   intro hA
   have:=ih λB hB=>hA B (Ni _ hB)
   have:=(hA A Ng).mx
   rw [M7,OU,NN]; lia
 have h1:=this p.2 h.f
 have h2:=h.m
 unfold pB
 lia
noncomputable def gC (ps:List Part):Int:=ps.foldl (λm p=>if pB p>m then pB p else m) 0
theorem ni (ps:List Part):∀ m:Int,m<=ps.foldl (λm p=>if pB p>m then pB p else m) m:=by
 induction ps with
 | nil=>exact λm=>Oe _
 | cons p ps ih=>intro m; rw [Ou]; refine NG ?_ (ih _); split <;> lia
theorem DV (h:p∈ps):pB p<=gC ps:=by
 unfold gC
 suffices H:∀ m:Int,pB p<=ps.foldl (λm p=>if pB p>m then pB p else m) m from H 0
 induction ps with
 | nil=>cases h
 | cons q ps ih =>
  intro m
  rw [Ou]
  rcases Nm.mp h with rfl | h
  ·refine NG ?_ (ni ps _)
   split <;> lia
  ·exact ih h _
theorem DW (h:∀ p∈ps,dP p):gC ps<=960:=by
 unfold gC
 suffices H:∀ m:Int,m<=960->ps.foldl (λm p=>if pB p>m then pB p else m) m<=960 from H 0 (by decide)
 induction ps with
 | nil=>exact λm hm=>hm
 | cons q ps ih =>
  intro m hm
  rw [Ou]
  refine ih (λp hp=>h p (Ni _ hp)) _ ?_
  have:=(h q Ng).sz
  split <;> lia
noncomputable def Bp (ps:List Part):Nat:=Oh (gC ps)
theorem DX (h:∀ p∈ps,dP p):Bp ps<=10/\∀ p∈ps,pB p<2 ^ Bp ps:=by
 have h0:0<=gC ps:=ni ps 0
 have h1:=DW h
 exact ⟨bits_le (by lia),λp hp=>Ra (DV hp) (DT h0)⟩
theorem i8 (x:α) (xs):EV.cutD (x::xs) (some 1) none=xs:=by
 unfold EV.cutD HT.ck; simp
noncomputable def DY:Fn:=λds r=>∃ ps:List Part,(∀ p∈ps,dP p)/\ds=[.lst (ps.map fF)]/\r=.ok (.va (.int (Bp ps:Nat)))
theorem J8 (h:∀ p∈ps,dP p):DY [.lst (ps.map fF)] (.ok (.va (.int (Bp ps:Nat)))):=⟨ps,h,rfl,rfl⟩
section
local macro_rules | `(tactic| walk_at "evMt")=> `(tactic| with_reducible refine GP ?_)
local macro_rules | `(tactic| walk_at "evCa")=> `(tactic| first
 | ((with_reducible show aI _ (NR (Nn "max" _) [_] _ _) _ _); with_reducible refine GR (Txt.max (by assumption)) ?_)
 | ((with_reducible show aI _ (NR (Nn "max" _) [_,_] _ _) _ _); with_reducible refine Ak (Txt.max (by assumption)) ?_)
 | ((with_reducible show aI _ (NR (Nn "sum" _) _ _ _) _ _); with_reducible refine GS (Txt.sum (by assumption)) ?_)
 | with_reducible refine bz (F:=oX) (by assumption) (by decide) ?_)
theorem Hx (Fu:dQ K "width_of" "width_of" (top 10) f fd) (T:Txt K mg) (h1:c7 P w K mg base 1 "greatest_powers" oX):aZ P w K mg base (c9 P w) 2 f fd ["parts"] (dM K DY):=by
 refine bY Fu rC (by rintro ds r ⟨ps,_,rfl,_⟩; rfl) (by rintro ds r ⟨ps,_,_,rfl⟩; exact ⟨_,rfl⟩) λc hq ds sl hF=>?_
 obtain ⟨ps,hp,rfl,e⟩:=hF
 injection e with e
 subst e
 show aH c _ [.va (.lst (ps.map fF)),.un,.un] _ _
 conv in (au _)=>whnf
 walk_at "ev"
 with_reducible refine d7 hq (cE ?_)
 walk_at "ev"
 refine ⟨λi ρ'=>∃ s2:Sl,ρ'=[.va (.lst (ps.map fF)),.va (.int (gC (ps.take i))),s2],⟨_,rfl⟩,?_,?_⟩
 ·rintro c' rS BW BX i d ρ' hd ⟨s2,rfl⟩
  simp only [Nd,Nk] at hd
  obtain ⟨p,hpx,rfl⟩:=hd
  obtain ⟨hi,rfl⟩:=Nf.mp hpx
  have hpo:=hp ps[i] (NL hi)
  have eg:gC (ps.take (i+1))=if pB ps[i]>gC (ps.take i) then pB ps[i] else gC (ps.take i):=by
   unfold gC; rw [N3 hi,SA]; rfl
  generalize ps[i]=p at hpo eg |-
  show mF c' _ (.tup (.int p.1::p.2.map af)) _ _
  walk_at "ev"
  refine e_x (dw (show c'.X.xe=iD by rw [rS]; exact hq) (N':=["some"]) (ρ0:=λ_=>[.un]) (λt=>.un .nil) (cE ?_))
  walk_at "ev"
  ·rw [i8,M8]; exact tL (by have:=hpo.m; lia)
  rw [i8]
  refine ⟨p.2.map λA=>some (.int (lK A)),by simp,?_,aG ?_⟩
  ·intro c2 hc2 t j d o hd ho
   simp only [Nd,Nk] at hd ho
   obtain ⟨A,hA,rfl⟩:=hd
   obtain ⟨A',hA',rfl⟩:=ho
   rw [hA] at hA'; cases hA'
   have hf:=hpo.f A (Og hA)
   refine cC (by walk_at "at") (nQ (by walk_at "sset") ⟨.un .nil,?_⟩)
   simp only [jj]
   refine ⟨λ_=>?_,λh=>by cases h⟩
   show aI c2 _ [.va (.lst (A.map aS))] _
   walk_at "ev"
   refine aj (DO λt ht=>(hf.e t ht).1) (aG ⟨eG A,by simp [eG],rfl,λm ⟨m1,m2⟩=>?_⟩)
   rw [Bc m1 m2]; rfl
  ·rw [cR]
   refine ⟨p.2.map lK,by rw [Nt]; rfl,?_⟩
   walk_at "ev"
   refine ⟨.va (fF p),?_⟩
   rw [eg]; rfl
 ·rintro ρ' ⟨s2,rfl⟩
  rw [M8,NW]
  walk_at "ev"
  rfl
end
end
section
variable {P:Program} {w:World} {K:M0} {mg:Str->Option Value} {base:Heap}
theorem DZ (x:α) (xs):ki (x::xs) 0=some x:=by rw [iQ (by decide) (by simp)]; rfl
theorem Hy (b):pk b []=0:=(iX (g:=λ_=>0) λi _=>cP (ND _)).trans (iY _)
theorem E8 (b n):(cT n).map (rG b)=[.tup [.int 0,.int n]]:=by show [D.tup [.int (pk b []),.int n]]=_; rw [Hy]
theorem Bq (xs:List α):EV.cutD xs none (some (-1))=xs.dropLast:=by
 unfold EV.cutD HT.ck
 rw [List.dropLast_eq_take]
 simp only [Rz]
 congr 1
 split <;> lia
theorem D0 (xs) (x:α):ki (xs++[x]) (-1)=some x:=by
 rw [uT (by decide) (by simp; lia),show (-1+((xs++[x]).length:Int)).toNat=xs.length by simp; lia]
 simp
noncomputable def KW (b:Int) (A:List aD):D:=.lst (A.map (rG b))
theorem Br {α β:Type} {f:α->β} {L:List α} {M:List β} (h:M.Perm (L.map f)):∃ L':List α,L'.Perm L/\M=L'.map f:=by
 have p:∀ L:List α,Paired (λa b=>b=f a) L (L.map f):=λL=>by
  induction L with
  | nil=>exact .nil
  | cons x L ih=>exact .cons rfl ih
 obtain ⟨L',h1,h2⟩:=SR.gn h (p L)
 refine ⟨L',h1,?_⟩
 clear h1 h p
 induction h2 with
 | nil=>rfl
 | cons r _ ih=>rw [r,ih]; rfl
theorem xR (C):(IE C).pairs=some (C.map λc=>D.tup [.int c.1,.int c.2]):=by
 show some _=some _
 congr 1
 unfold cK
 rw [Nt,Nt,List.zipWith_map,List.zipWith_self]
 rfl
theorem xS (b) (L:List aD):(IE (L.map (gu b))).pairs=some (L.map (rG b)):=by
 rw [xR,Nt]; rfl
theorem Hz (b) (L:List aD):D.pq (L.map (rG b)):=dR λx _=>sG (by unfold D.pq; exact ⟨kI,by unfold D.pq; exact ⟨kI,by unfold D.pq; trivial⟩⟩)
structure Way (n:Int) (As:List (List aD)) (L:List aD):Prop where
 m:mp L=(n:MP) * oY As
 l:L.length<=bH As
 e:Ex (As.map lK).sum L
 b:Bn (2000+2020 * As.length) L
theorem vS {n:Int} (h:n.natAbs<2 ^ 2000):Way n [] (cT n) where
 m:=by rw [oJ]; show _=_ * (1:MP); grind
 l:=M4 _
 e:=λt ht=>by
  have:t=([],n):=by simpa [cT] using ht
  subst this
  exact ⟨ND _,λx hx=>by cases hx⟩
 b:=λt ht=>by
  have:t=([],n):=by simpa [cT] using ht
  subst this
  exact h
theorem tQ:cB (cT 1) where
 l:=by show (1:Nat)<=_; lia
 e:=λt ht=>by
  have:t=([],1):=by simpa [cT] using ht
  subst this
  exact ⟨ND _,λx hx=>by cases hx⟩
 b:=λt ht=>by
  have:t=([],1):=by simpa [cT] using ht
  subst this
  exact Nat.one_lt_two_pow (by decide)
theorem xT (As) (A):((As++[A]).map lK).sum=(As.map lK).sum+lK A:=by
 rw [Ob,Pu]; simp
theorem gD {n:Int} {As:List (List aD)} {L A:List aD} (h:Way n As L) (f:cB A):mp (aM L A)=(n:MP) * oY (As++[A])/\(aM L A).length<=bH (As++[A])/\Ex ((As++[A]).map lK).sum (aM L A)/\Bn (2000+2020 * As.length+2000) (aM L A):=by
 refine ⟨?_,?_,?_,h.b.prod f.b⟩
 ·rw [tD,h.m,Bk]; grind
 ·rw [cQ,xQ]; exact O5 h.l (by lia)
 ·rw [xT]; exact Ex.prod (vR _) (Bo _) h.e f.ex
theorem Bt {n:Int} {As:List (List aD)} {L A:List aD} (h:Way n As L) (f:cB A) (hl:bH (As++[A])<=400000):Way n (As++[A]) (aJ (aM L A)):=by
 obtain ⟨h1,h2,h3,h4⟩:=gD h f
 refine ⟨by rw [G8,h1],Nb (gM _) h2,h3.sum,(h4.sum (OP (Nb h2 hl) (by decide))).mono ?_⟩
 rw [NJ,QY]; lia
theorem Bu {As Bs:List (List aD)} (h:As.Perm Bs):(As.map lK).sum=(Bs.map lK).sum:=by
 induction h with
 | nil=>rfl
 | cons x _ ih=>rw [M7,OU,M7,OU,ih]
 | swap x y l=>simp only [M7,OU]; lia
 | trans _ _ a b=>rw [a,b]
theorem Bv (As:List (List aD)) (i):((As.take i).map lK).sum<=(As.map lK).sum:=by
 have e:(As.map lK).sum=((As.take i).map lK).sum+((As.drop i).map lK).sum:=by rw [<- Pu,<- Ob,OD]
 have:=vR (As.drop i)
 lia
noncomputable def tR:KS:=λkvs ds Z=>∃ (ts:List aD) (p:Part) (W:Nat),W<=10/\dP p/\pB p<2 ^ W/\ts.length+bH p.2<=400000/\(∀ t∈ts,Bd (2 ^ W) t.1)/\kvs=cK ((aJ ts).map (gu (2 ^ W)))/\ds=[fF p,.int (W:Nat)] /\
 Z=λkvs'=>∃ X,mp X=mp (fR p.1 p.2)/\X.length<=bH p.2/\(∀ t∈X,Bd (2 ^ W) t.1)/\kvs'=cK ((aJ (ts++X)).map (gu (2 ^ W)))
section
local macro_rules | `(tactic| walk_at "evX")=> `(tactic| first | ((with_reducible show dJ _ (Expr.Dict _ _ _) _ _); with_reducible refine uJ ?_))
local macro_rules | `(tactic| walk_at "evXC")=> `(tactic| first
 | ((with_reducible show dJ _ (NR (Nn "sorted" _) _ _ _) _ _); with_reducible refine xB (Txt.sorted (by assumption)) (Txt.len (by assumption)) ?_)
 | ((with_reducible show dJ _ (NR (Nn "list" _) [NR _ _ _ _] _ _) _ _); refine sI 6 (by walk_at "at") rfl (by walk_at "sset") (rj (Txt.list (by assumption)) ?_)))
local macro_rules | `(tactic| walk_at "evXp")=> `(tactic| with_reducible refine vo (F:=Ht) (by assumption) (by decide) (by walk_at "at") (by walk_at "at") (by walk_at "own") ?_)
theorem Bw (Fu:dQ K "add_part" "add_part" (top 11) f fd) (T:Txt K mg) (h1:c7 P w K mg base 2 "packed" vO) (h2:Dn P w K mg base 1 "add_products" Ht):aZ P w K mg base (c9 P w) 3 f fd ["whole","part","width"] (GO K tR):=by
 refine JT Fu rD (by rintro kvs ds Z ⟨ts,p,W,_,_,_,_,_,_,rfl,_⟩; rfl) λc hq q kvs ds Z hF=>?_
 obtain ⟨ts,p,W,hW,hp,hsz,hl,hb,rfl,rfl,rfl⟩:=hF
 show aH c _ [.aK q (cK ((aJ ts).map (gu (2 ^ W)))),.va (.tup (.int p.1::p.2.map af)),.va (.int (W:Nat)),.un,.un,.un,.un] _ _
 conv in (au _)=>whnf
 walk_at "ev"
 refine e_x (dw hq (N':=["some","width"]) (ρ0:=λ_=>[.un,.va (.int (W:Nat))]) (λt=>.un (.fr (by walk_at "at") (by walk_at "at") (by decide) rfl .nil)) (cE ?_))
 walk_at "ev"
 ·rw [i8,M8]; exact tL (by have:=hp.m; lia)
 rw [i8]
 refine ⟨p.2.map λA=>some (KW (2 ^ W) A),by simp,?_,aG ?_⟩
 ·intro c2 hc2 t j d o hd ho
  simp only [Nd,Nk] at hd ho
  obtain ⟨A,hA,rfl⟩:=hd
  obtain ⟨A',hA',rfl⟩:=ho
  rw [hA] at hA'; cases hA'
  have hm:=Og hA
  have hf:=hp.f A hm
  refine cC (by walk_at "at") (nQ (by walk_at "sset") ⟨.un (.same .nil),?_⟩)
  simp only [jj]
  refine ⟨λ_=>?_,λh=>by cases h⟩
  show aI c2 _ [.va (.lst (A.map aS)),_] _
  refine bz (F:=vO) h1 (by decide) ?_
  walk_at "ev"
  have hx:lK A<2 ^ W:=by
   refine Ra ?_ hsz
   obtain ⟨l,r,e⟩:=List.append_of_mem hm
   unfold pB
   rw [e,Ob,M7,Pu,OU]
   have:=vR l
   have:=vR r
   lia
  exact aj (Hs hW hf.l (hf.ex.bd hx)) (aG rfl)
 rw [cR]
 refine ⟨_,rfl,λx hx=>by obtain ⟨A,_,rfl⟩:=N1.mp hx; exact ⟨_,rfl⟩,λds' hp'=>?_⟩
 obtain ⟨As,hpm,rfl⟩:=Br hp'
 have x8:∀ A∈As,cB A:=λA hA=>hp.f A (hpm.mem_iff.mp hA)
 have hpl:=xP hpm
 have hps:=Bu hpm
 have hlen:=hpm.length_eq
 refine nQ (by walk_at "sset") ?_
 with_reducible refine d8 3 (by walk_at "at") rfl (by walk_at "sset") ?_
 walk_at "ev"
 refine mH (DZ _ _) ?_
 walk_at "ev"
 with_reducible refine JG 4 (by walk_at "at") rfl (by walk_at "sset") ?_
 rw [<- E8 (2 ^ W) p.1]
 with_reducible refine d7 hq (cE ?_)
 walk_at "ev"
 rw [Bq]
 have hcap:∀ i,bH (As.take i)<=400000:=λi=>Nb (gQ As i) (by lia)
 have hm8:As.length<=8:=by rw [hlen]; exact hp.m
 have K4:∀ (i:Nat) (L A:List aD),As[i]?=some A->Way p.1 (As.take i) L->cB A/\As.take (i+1)=As.take i++[A]/\mp (aM L A)=(p.1:MP) * oY (As.take (i+1))/\(aM L A).length<=bH (As.take (i+1))/\(∀ l∈L,∀ r∈A,Bd (2 ^ W) (cD l.1 r.1)/\EV.MulOk l.2 r.2)/\L.length<=400000:=λi L A hA hw=>by
  obtain ⟨hi,rfl⟩:=Nf.mp hA
  have hf:=x8 As[i] (NL hi)
  have et:As.take (i+1)=As.take i++[As[i]]:=N3 hi
  obtain ⟨q1,q2,q3,q4⟩:=gD hw hf
  rw [<- et] at q1 q2 q3
  refine ⟨hf,et,q1,q2,λl hl r hr=>⟨?_,?_⟩,Nb hw.l (hcap i)⟩
  ·have hm:dO l r∈aM L As[i]:=Rj.mpr ⟨l,hl,N1.mpr ⟨r,hr,rfl⟩⟩
   have hx:=Bv As (i+1)
   exact q3.bd (by unfold pB at hsz; lia) _ hm
  ·refine oZ (hw.b l hl) (hf.b r hr) ?_
   rw [N2]; lia
 refine ⟨λi ρ'=>∃ (L:List aD) (s5 s6:Sl),Way p.1 (As.take i) L/\ρ'=[.aK q (cK ((aJ ts).map (gu (2 ^ W)))),.va (.tup (.int p.1::p.2.map af)),.va (.int (W:Nat)),.va (.lst (As.map (KW (2 ^ W)))),.va (.lst (L.map (rG (2 ^ W)))),s5,s6],⟨_,_,_,vS hp.n,rfl⟩,?_,?_⟩
 ·rintro c' rS BW BX i d ρ' hd ⟨L,s5,s6,hw,rfl⟩
  rw [<- List.map_dropLast] at hd
  simp only [Nd,Nk] at hd
  obtain ⟨A,hA,rfl⟩:=hd
  rw [List.getElem?_dropLast] at hA
  replace hA:As[i]?=some A:=by
   split at hA
   ·exact hA
   ·cases hA
  obtain ⟨hf,et,q1,q2,q3,q4⟩:=K4 i L A hA hw
  have q5:=hcap (i+1)
  have q6:=Bt hw hf (by rw [<- et]; exact q5)
  rw [<- et] at q6
  show mF c' _ (.lst (A.map (rG (2 ^ W)))) _ _
  walk_at "ev"
  refine ⟨_,⟨[],L,A,W,hW,by rw [cQ] at q2; show 0+_<=_; lia,q4,hf.l,(by intro t ht; cases ht),q3,rfl,rfl,rfl⟩,?_⟩
  rintro kvs' rfl
  walk_at "ev"
  refine ⟨_,xS _ _,Hz _ _,?_⟩
  repeat ((fail_if_success (with_reducible show aH _ [] _ _ _)); walk_at "ev1")
  with_reducible refine d8 4 (by walk_at "at") rfl (by walk_at "sset") ?_
  walk_at "ev"
  exact ⟨_,_,_,q6,rfl⟩
 ·rintro ρ' ⟨L,s5,s6,hw,rfl⟩
  rw [List.length_dropLast,M8] at hw
  walk_at "ev"
  ·have hne:As≠[]:=by rintro rfl; simp at *
   obtain ⟨i0,A,e0⟩:∃ i0 A,As=i0++[A]:=⟨As.dropLast,As.getLast hne,(List.dropLast_concat_getLast hne).symm⟩
   have ei:As.length - 1=i0.length:=by rw [e0]; simp
   have hA:As[As.length - 1]?=some A:=by rw [ei,e0]; simp
   have etl:As.take (As.length - 1+1)=As:=O1 (by lia)
   obtain ⟨hf,et,q1,q2,q3,q4⟩:=K4 _ L A hA hw
   rw [etl] at q1 q2
   refine yY (show ki (As.map (KW (2 ^ W))) (-1)=some (KW (2 ^ W) A) by rw [e0,Ob]; exact D0 _ _) ?_
   walk_at "ev"
   refine ⟨_,⟨ts,L,A,W,hW,by rw [cQ] at q2; lia,q4,hf.l,hb,q3,rfl,rfl,rfl⟩,?_⟩
   rintro kvs' rfl
   walk_at "ev"
   refine ⟨_,_,⟨aM L A,by rw [q1,fS,Bj hpm],by rw [<- hpl]; exact q2,λt ht=>?_,rfl⟩,rfl⟩
   obtain ⟨l,hl,r,hr,rfl⟩:=gv ht
   exact (q3 l hl r hr).1
  ·have e0:As=[]:=by
    cases As with
    | nil=>rfl
    | cons A As=>simp at *
   have hw0:Way p.1 [] L:=by rw [e0] at hw; exact hw
   have p0:p.2=[]:=List.length_eq_zero_iff.mp (by rw [<- hlen,e0]; rfl)
   obtain ⟨q1,q2,q3,q4⟩:=gD hw0 tQ
   have hL:L.length<=1:=hw0.l
   have q5:(aM L (cT 1)).length<=1:=q2
   have h0W:(0:Int)<2 ^ W:=two_pos W
   have hx:(([]++[cT 1]:List (List aD)).map lK).sum<2 ^ W:=h0W
   have hp1:bH p.2=1:=by rw [p0]; rfl
   rw [<- E8 (2 ^ W) 1]
   refine ⟨_,⟨ts,L,cT 1,W,hW,by rw [cQ] at q5; lia,by lia,tQ.l,hb,λl hl r hr=>⟨?_,?_⟩,rfl,rfl,rfl⟩,?_⟩
   ·exact q3.bd hx _ (Rj.mpr ⟨l,hl,N1.mpr ⟨r,hr,rfl⟩⟩)
   ·exact oZ (hw0.b l hl) (tQ.b r hr) (by show 2000+2020 * 0+2000<=_; lia)
   rintro kvs' rfl
   walk_at "ev"
   refine ⟨_,_,⟨aM L (cT 1),?_,by rw [hp1]; exact q5,q3.bd hx,rfl⟩,rfl⟩
   rw [q1,fS,p0]
   show _ * (mp (cT 1) * 1)=_ * (1:MP)
   rw [oJ]
   show _ * ((1:MP) * 1)=_ * (1:MP)
   grind
end
end
section
variable {K:M0}
theorem rH (ps) (p:Part):mp (cy (ps++[p]))=mp (cy ps)+mp (fR p.1 p.2):=by
 unfold cy
 rw [List.flatMap_append,jx]
 congr 1
 rw [P7,SJ,N7]
theorem rJ (l:List Nat) (i):(l.take i).sum<=l.sum:=by
 rw [<- OD i l,Pu,OD]; lia
noncomputable def iC:Fn:=λds r=>∃ ps:List Part,ah ps/\ds=[.lst (ps.map fF)]/\r=.ok (.ow ((bL (cy ps)).map aS))
theorem bC (h:ah ps):iC [.lst (ps.map fF)] (.ok (.ow ((bL (cy ps)).map aS))):=⟨ps,h,rfl,rfl⟩
section
local macro_rules | `(tactic| walk_at "evX")=> `(tactic| first | ((with_reducible show dJ _ (Expr.Dict _ _ _) _ _); with_reducible refine uJ ?_))
local macro_rules | `(tactic| walk_at "evCa")=> `(tactic| first | with_reducible refine bz (F:=DY) (by assumption) (by decide) ?_)
local macro_rules | `(tactic| walk_at "evXp")=> `(tactic| with_reducible refine vo (F:=tR) (by assumption) (by decide) (by walk_at "at") (by walk_at "at") (by walk_at "own") ?_)
local macro_rules | `(tactic| walk_at "evXC")=> `(tactic| first | ((with_reducible show dJ _ (NR (Nn "unpacked" _) _ _ _) _ _); refine sI 2 (by walk_at "at") rfl (by walk_at "sset") (x_call (F:=DS) (by assumption) (by decide) ?_)))
theorem HA (Fu:dQ K "poly_total" "poly_total" (top 12) f fd) (T:Txt K mg) (h1:c7 P w K mg base 2 "width_of" DY) (h2:Dn P w K mg base 3 "add_part" tR) (h3:c7 P w K mg base 3 "unpacked" DS):aZ P w K mg base (c9 P w) 4 f fd ["parts"] (dM K iC):=by
 refine bY Fu lU (by rintro ds r ⟨ps,_,rfl,_⟩; rfl) (by rintro ds r ⟨ps,_,_,rfl⟩; exact ⟨_,rfl⟩) λc hq ds sl hF=>?_
 obtain ⟨ps,h,rfl,e⟩:=hF
 injection e with e
 subst e
 show aH c _ [.va (.lst (ps.map fF)),.un,.un,.un] _ _
 conv in (au _)=>whnf
 obtain ⟨hW,hsz⟩:=DX h.p
 walk_at "ev"
 refine aj (J8 h.p) ?_
 walk_at "ev"
 generalize Bp ps=W at hW hsz |-
 with_reducible refine d7 hq (cE ?_)
 walk_at "ev"
 refine ⟨λi ρ'=>∃ (ts:List aD) (s3:Sl),mp ts=mp (cy (ps.take i))/\ts.length<=((ps.take i).map λp=>bH p.2).sum/\(∀ t∈ts,Bd (2 ^ W) t.1)/\ρ'=[.va (.lst (ps.map fF)),.va (.int (W:Nat)),.oK (cK ((aJ ts).map (gu (2 ^ W)))),s3],⟨[],_,rfl,M4 _,(by intro t ht; cases ht),rfl⟩,?_,?_⟩
 ·rintro c' rS BW BX i d ρ' hd ⟨ts,s3,hm,hl,hb,rfl⟩
  simp only [Nd,Nk] at hd
  obtain ⟨p,hpx,rfl⟩:=hd
  obtain ⟨hi,rfl⟩:=Nf.mp hpx
  have et:ps.take (i+1)=ps.take i++[ps[i]]:=N3 hi
  have hmem:ps[i]∈ps:=NL hi
  have hcap:((ps.take (i+1)).map λp=>bH p.2).sum<=400000:=by rw [RB]; exact Nb (rJ _ _) h.s
  have ec:((ps.take (i+1)).map λp=>bH p.2).sum=((ps.take i).map λp=>bH p.2).sum+bH ps[i].2:=by rw [et,Ob,Pu]; simp
  rw [ec] at hcap
  walk_at "ev"
  refine ⟨_,⟨ts,ps[i],W,hW,h.p _ hmem,hsz _ hmem,by lia,hb,rfl,rfl,rfl⟩,?_⟩
  rintro kvs' ⟨X,x1,x2,x3,rfl⟩
  walk_at "ev"
  refine ⟨ts++X,.va (fF ps[i]),?_,?_,λt ht=>(NF.mp ht).elim (hb t) (x3 t),rfl⟩
  ·rw [jx,hm,x1,et,rH]
  ·rw [ec,NJ]; lia
 ·rintro ρ' ⟨ts,s3,hm,hl,hb,rfl⟩
  rw [M8,NW] at hm hl
  walk_at "ev"
  refine aj (J7 (ts:=ts) hW (by have:=h.s; lia) hb) ⟨dR λx _=>jB x,?_⟩
  show Sl.ow _=Sl.ow _
  rw [dD hm]
end
end
section
variable {K:M0}
theorem Ex.lZ (h:Ex m L):Ex m (bL L):=λt ht=>Ex.sum h t (qP ht).1
theorem Bn.lZ {m:Nat} {L:List aD} (h:Bn m L) (hl:L.length<2 ^ 20):Bn (m+20) (bL L):=λt ht=>Bn.sum h hl t (qP ht).1
noncomputable def dG (As:List (List aD)):List aD:=As.foldl (λL A=>bL (aM L A)) [([],1)]
theorem nj (As) (A):dG (As++[A])=bL (aM (dG As) A):=by simp [dG]
theorem Bx {n:Int} {As:List (List aD)} {L A:List aD} (h:Way n As L) (f:cB A) (hl:bH (As++[A])<=400000):Way n (As++[A]) (bL (aM L A)):=by
 obtain ⟨h1,h2,h3,h4⟩:=gD h f
 refine ⟨by rw [vH,h1],Nb (k7 _) h2,h3.lZ,(h4.lZ (OP (Nb h2 hl) (by decide))).mono ?_⟩
 rw [NJ,QY]; lia
theorem fG {As:List (List aD)} (hf:∀ A∈As,cB A) (hl:bH As<=400000):∀ i,i<=As.length->Way 1 (As.take i) (dG (As.take i))
 | 0,_=>vS (by decide)
 | i+1,hi=>by
  rw [N3 hi,nj]
  refine Bx (fG hf hl i (by lia)) (hf _ (NL hi)) ?_
  rw [<- N3 hi]
  exact Nb (gQ _ _) hl
noncomputable def D9:Fn:=λds r=>∃ As:List (List aD),As.length<=8/\(∀ A∈As,cB A)/\bH As<=400000/\ds=[.lst (As.map af)]/\r=.ok (.ow ((dG As).map aS))
theorem J9 {As:List (List aD)} (h:As.length<=8) (hf:∀ A∈As,cB A) (hl:bH As<=400000):D9 [.lst (As.map af)] (.ok (.ow ((dG As).map aS))):=⟨As,h,hf,hl,rfl,rfl⟩
theorem i9 (n):(p7 0 n).length=n:=by simp [p7]
theorem jC (L) (t):L.map aS++[aS t]=(L++[t]).map aS:=by rw [Ob]; rfl
theorem xU (n):(Nh n [D.int 0]).flatten=(Nh n (0:Int)).map D.int:=by
 induction n with
 | zero=>rfl
 | succ n ih=>rw [OJ,Pn,ih,OJ]; rfl
theorem By (h:k<n) (hp:p.length<=n):ki (p.map D.int++(Nh (n - p.length) [D.int 0]).flatten) (k:Int)=some (.int (bU p k)):=by
 rw [xU,<- Ob,iQ (by lia) (by simp; lia),N6,Nd]
 by_cases z:k<p.length
 ·rw [OY z,Nr z,dN z]; rfl
 ·rw [PN (by lia),R3,if_pos (by lia),cP (by lia)]; rfl
theorem vU {p:List Int} {n:Nat}:((n:Int) - ((p.map D.int).length:Int)).toNat=n - p.length:=by rw [M8]; lia
section
local macro_rules | `(tactic| walk_at "evBo")=> `(tactic| first | ((with_reducible show aI _ (Expr.BinOp (Expr.Tuple _ _ _) Operator.Mult _ _) _ _); with_reducible refine GX ?_))
local macro_rules | `(tactic| walk_at "evCa")=> `(tactic| first
 | ((with_reducible show aI _ (NR (Nn "max" _) [_,_] _ _) _ _); with_reducible refine Ak (Txt.max (by assumption)) ?_))
theorem HB (Fu:dQ K "_law_product" "_law_product" (top 40) f fd) (T:Txt K mg) (h1:c7 P w K mg base 1 "_law_plain" rF):aZ P w K mg base (c9 P w) 2 f fd ["_law_factors"] (dM K D9):=by
 refine bY Fu oV (by rintro ds r ⟨As,_,_,_,rfl,_⟩; rfl) (by rintro ds r ⟨As,_,_,_,_,rfl⟩; exact ⟨_,rfl⟩) λc hq ds sl hF=>?_
 obtain ⟨As,h8,hf,hl,rfl,e⟩:=hF
 injection e with e
 subst e
 show aH c _ [.va (.lst (As.map af)),.un,.un,.un,.un,.un,.un,.un,.un,.un,.un] _ _
 conv in (au _)=>whnf
 walk_at "ev"
 show fK c _ [.va (.lst (As.map af)),.ow ((dG (As.take 0)).map aS),.un,.un,.un,.un,.un,.un,.un,.un,.un] _ _
 with_reducible refine d7 hq (cE ?_)
 walk_at "ev"
 refine ⟨λi ρ'=>∃ s2 s3 s4 s5 s6 s7 s8 s9 s10:Sl,ρ'=[.va (.lst (As.map af)),.ow ((dG (As.take i)).map aS),s2,s3,s4,s5,s6,s7,s8,s9,s10],⟨_,_,_,_,_,_,_,_,_,rfl⟩,?_,?_⟩
 ·rintro c' rS BW BX i d ρ' hd ⟨s2,s3,s4,s5,s6,s7,s8,s9,s10,rfl⟩
  simp only [Nd,Nk] at hd
  obtain ⟨B,hBx,rfl⟩:=hd
  obtain ⟨hi,rfl⟩:=Nf.mp hBx
  have hq':c'.X.xe=λ_ _=>False:=by rw [rS]; exact hq
  have hfB:=hf _ (NL hi)
  have hw:=fG hf hl i (by omega)
  have hp2:bH (As.take i++[As[i]])<=400000:=by
   rw [<- N3 hi]; exact Nb (gQ _ _) hl
  have hlp:(dG (As.take i)).length * As[i].length<=400000:=by
   have:=(gD hw hfB).2.1
   rw [cQ] at this; omega
  have eN:dG (As.take (i+1))=bL (aM (dG (As.take i)) As[i]):=by rw [N3 hi,nj]
  have hAl:(dG (As.take i)).length<=400000:=Nb hw.l (Nb (gQ _ _) hl)
  have hA6:∀ t∈dG (As.take i),t.1.length<=6:=λt ht=>(hw.e t ht).1
  have hAb:Bn 20000 (dG (As.take i)):=hw.b.mono (by rw [N2]; omega)
  generalize dG (As.take i)=A at hlp eN hAl hA6 hAb |-
  generalize As[i]=B at hfB hlp eN |-
  clear hw hp2 hBx
  refine cC (by walk_at "at") (nQ (by walk_at "sset") ?_)
  refine d8 1 (by walk_at "at") rfl (by walk_at "sset") ?_
  walk_at "ev"
  show fK c' _ [_,_,_,.ow ((aM (A.take 0) B).map aS),_,_,_,_,_,_,_] _ _
  with_reducible refine d7 hq' (cE ?_)
  walk_at "ev"
  refine ⟨λi ρ'=>∃ s4 s5 s6 s7 s8 s9 s10:Sl,ρ'=[.va (.lst (As.map af)),.va (.lst (A.map aS)),.va (af B),.ow ((aM (A.take i) B).map aS),s4,s5,s6,s7,s8,s9,s10],⟨_,_,_,_,_,_,_,rfl⟩,?_,?_⟩
  ·rintro c1 hcX1 hcR1 hcM1 i1 d ρ' hd ⟨s4,s5,s6,s7,s8,s9,s10,rfl⟩
   simp only [Nd,Nk] at hd
   obtain ⟨l,hlx,rfl⟩:=hd
   obtain ⟨hi1,rfl⟩:=Nf.mp hlx
   have hq1:c1.X.xe=λ_ _=>False:=by rw [hcX1]; exact hq'
   have h6:=hA6 A[i1] (NL hi1)
   have hlb:=hAb A[i1] (NL hi1)
   have e0:aM (A.take (i1+1)) B=aM (A.take i1) B++B.map (dO A[i1]):=by
    rw [N3 hi1,ng]
   have hlen:(aM (A.take i1) B).length+B.length<=400000:=by
    rw [cQ,N2,Pr (by omega),<- Qc]
    exact Nb (Nat.mul_le_mul_right _ (by omega)) hlp
   generalize A[i1]=l at h6 hlb e0 |-
   generalize aM (A.take i1) B=ts at e0 hlen |-
   show mF c1 _ (.tup [.tup (l.1.map .int),.int l.2]) _ _
   walk_at "ev"
   with_reducible refine d7 hq1 (cE ?_)
   refine uz (by walk_at "at") (by walk_at "at") ?_
   refine zq (ds:=B.map aS) rfl ?_
   refine ⟨λj ρ'=>∃ s6 s7 s8 s9 s10:Sl,ρ'=[.va (.lst (As.map af)),.va (.lst (A.map aS)),.va (af B),.ow ((ts++(B.take j).map (dO l)).map aS),.va (.tup (l.1.map .int)),.va (.int l.2),s6,s7,s8,s9,s10],⟨s6,s7,s8,s9,s10,by simp⟩,?_,?_⟩
   ·rintro c2 hcX2 hcR2 hcM2 j d ρ' hd ⟨s6,s7,s8,s9,s10,rfl⟩
    simp only [Nd,Nk] at hd
    obtain ⟨r,hrx,rfl⟩:=hd
    obtain ⟨hj,rfl⟩:=Nf.mp hrx
    have h6r:=(hfB.e B[j] (NL hj)).1
    have hrb:=hfB.b B[j] (NL hj)
    have hq2:c2.X.xe=λ_ _=>False:=by rw [hcX2]; exact hq1
    have e1:ts++(B.take (j+1)).map (dO l)=(ts++(B.take j).map (dO l))++[dO l B[j]]:=by
     rw [N3 hj,Ob,Nz]; rfl
    have hlen2:((ts++(B.take j).map (dO l)).map aS).length<sizeLine:=lB (by
     rw [M8,NJ,M8,N2]; omega)
    generalize ts++(B.take j).map (dO l)=us at e1 hlen2 |-
    generalize B[j]=r at h6r hrb e1 |-
    show mF c2 _ (.tup [.tup (r.1.map .int),.int r.2]) _ _
    generalize hG:(λρ'=>aH c2 _ ρ' _ _)=G
    walk_at "ev"
    subst hG
    refine aB ?_
    generalize hG:(λρ'=>aH c2 _ ρ' _ _)=G
    walk_at "ev"
    have ew:(if ((r.1.map D.int).length:Int)>((l.1.map D.int).length:Int) then ((r.1.map D.int).length:Int) else ((l.1.map D.int).length:Int))=((max l.1.length r.1.length:Nat):Int):=by simp only [M8]; split <;> omega
    rw [ew]
    have hw6:max l.1.length r.1.length<=6:=by omega
    generalize hwd:max l.1.length r.1.length=wd at hw6 |-
    subst hG
    refine aB ?_
    generalize hG:(λρ'=>aH c2 _ ρ' _ _)=G
    walk_at "ev"
    refine ⟨_,_,rfl,rfl,⟨⟨by simp,by rw [M8]; omega,by rw [M8]; omega,by rw [vU]; exact tL (by simp; omega)⟩,?_⟩⟩
    rw [vU]
    walk_at "ev"
    ·exact tL (by simp; omega)
    subst hG
    refine aB ?_
    generalize hG:(λρ'=>aH c2 _ ρ' _ _)=G
    walk_at "ev"
    refine ⟨_,_,rfl,rfl,⟨⟨by simp,by rw [M8]; omega,by rw [M8]; omega,by rw [vU]; exact tL (by simp; omega)⟩,?_⟩⟩
    rw [vU]
    walk_at "ev"
    ·exact tL (by simp; omega)
    subst hG
    refine aB ?_
    with_reducible refine zw (by walk_at "at") (by walk_at "at") (by walk_at "own") ?_
    refine f9 (bQ (nU (Txt.tuple T) (e_x (dw hq2 (N':=["_law_k","_law_one","_law_two"]) (ρ0:=λ_=>[.un,.va (.tup (l.1.map .int++(Nh (wd - l.1.length) [D.int 0]).flatten)),.va (.tup (r.1.map .int++(Nh (wd - r.1.length) [D.int 0]).flatten))]) (λt=>.un (.fr (by walk_at "at") (by walk_at "at") (by decide) rfl (.fr (by walk_at "at") (by walk_at "at") (by decide) rfl .nil))) (gc (Txt.range T) ?_)))) ?_)
    case refine_2=>intro _; walk_at "u"
    walk_at "ev"
    ·exact ⟨by omega,by omega⟩
    ·rw [i9]; exact tL (by omega)
    refine ⟨(NP wd).map λk=>some (.int (bU l.1 k+bU r.1 k)),by simp [i9],?_,?_⟩
    ·intro c3 hc3 t k d o hd ho
     rw [N6] at hd
     obtain ⟨hk,rfl⟩:=nZ hd
     rw [Nd,P1 hk] at ho
     cases ho
     refine cC (by walk_at "at") (nQ (by walk_at "sset") ⟨.un (.same (.same .nil)),?_⟩)
     simp only [jj]
     refine ⟨λ_=>?_,λh=>by cases h⟩
     walk_at "ev"
     refine mH (By (p:=l.1) hk (by omega)) ?_
     walk_at "ev"
     refine mH (By (p:=r.1) hk (by omega)) ?_
     walk_at "ev"
     rfl
    ·rw [cR (λk=>D.int (bU l.1 k+bU r.1 k)),show (NP wd).map (λk=>D.int (bU l.1 k+bU r.1 k))=(cD l.1 r.1).map D.int by rw [<- hwd]; unfold cD; rw [Nt]; rfl]
     walk_at "ev"
     ·exact oZ hlb hrb (by decide)
     show ∃ s6 s7 s8 s9 s10:Sl,_=[_,_,_,.ow ((ts++(B.take (j+1)).map (dO l)).map aS),_,_,s6,s7,s8,s9,s10]
     rw [e1,<- jC]
     exact ⟨_,_,_,_,_,rfl⟩
   ·rintro ρ' ⟨s6,s7,s8,s9,s10,rfl⟩
    rw [M8,NW,<- e0]
    walk_at "ev"
    exact ⟨_,_,_,_,_,_,_,rfl⟩
  ·rintro ρ' ⟨s4,s5,s6,s7,s8,s9,s10,rfl⟩
   rw [M8,NW]
   refine aB (yS (by walk_at "at") (uS 3 (by walk_at "at") rfl (by walk_at "sset") (x_call (F:=rF) h1 (by decide) ?_)))
   walk_at "ev"
   refine aj (tM (by rw [cQ]; exact hlp) λt ht=>?_) ⟨dR λx _=>jB x,?_⟩
   ·obtain ⟨l,hl,r,hr,rfl⟩:=gv ht
    show (cD l.1 r.1).length<=64
    have:=hA6 l hl
    have:=(hfB.e r hr).1
    rw [i6]; omega
   walk_at "ev"
   show ∃ s2 s3 s4 s5 s6 s7 s8 s9 s10:Sl,_=[_,.ow ((dG (As.take (i+1))).map aS),s2,s3,s4,s5,s6,s7,s8,s9,s10]
   rw [eN]
   exact ⟨_,_,_,_,_,_,_,_,_,rfl⟩
 ·rintro ρ' ⟨s2,s3,s4,s5,s6,s7,s8,s9,s10,rfl⟩
  rw [M8,NW]
  walk_at "ev"
  rfl
end
end
section
variable {P:Program} {w:World} {K:M0} {mg:Str->Option Value} {base:Heap}
noncomputable def lC (n:Int) (t:aD):aD:=(t.1,n * t.2)
theorem lu (p):cD [] p=p:=by
 unfold cD
 refine Rl (by simp) λi h1 h2=>?_
 rw [SI,Sm]
 simp [bU,Nr h2]
theorem HC (n:Int) (A:List aD):mp (A.map (lC n))=(n:MP) * mp A:=by
 rw [<- oJ,<- tD]
 refine congrArg mp ?_
 unfold aM cT
 rw [P7,SJ,N7]
 refine ON λt _=>?_
 unfold lC dO
 rw [lu]
noncomputable def gX (p:Part):D:=.tup [.int p.1,.lst (p.2.map af)]
noncomputable def fV (ps:List Part):List aD:=ps.flatMap λp=>(dG p.2).map (lC p.1)
theorem xV (ps) (p:Part):fV (ps++[p])=fV ps++(dG p.2).map (lC p.1):=by simp [fV]
theorem Ea {As:List (List aD)} (hf:∀ A∈As,cB A) (hl:bH As<=400000):mp (dG As)=oY As:=by
 have h:=(fG hf hl As.length (M4 _)).m
 rw [NW] at h
 rw [h]; grind
theorem Eb {ps:List Part} (hp:p∈ps):bH p.2<=(ps.map λp=>bH p.2).sum:=by
 induction ps with
 | nil=>cases hp
 | cons q ps ih =>
  rw [M7,OU]
  rcases Nm.mp hp with rfl | h
  ·exact P8 _ _
  ·exact Nb (ih h) (Nat.le_add_left _ _)
theorem Ec {ps:List Part} (h:∀ p∈ps,dP p/\bH p.2<=400000):mp (fV ps)=mp (cy ps):=by
 induction ps with
 | nil=>rfl
 | cons p ps ih =>
  have hp:=h p Ng
  have e1:fV (p::ps)=(dG p.2).map (lC p.1)++fV ps:=rfl
  have e2:cy (p::ps)=fR p.1 p.2++cy ps:=rfl
  rw [e1,e2,jx,jx,ih λq hq=>h q (Ni _ hq),HC,Ea hp.1.f hp.2,fS]
theorem rK {ps:List Part} (h:∀ p∈ps,dP p/\bH p.2<=400000):(fV ps).length<=(ps.map λp=>bH p.2).sum:=by
 induction ps with
 | nil=>exact M4 _
 | cons p ps ih =>
  have hp:=h p Ng
  have e1:fV (p::ps)=(dG p.2).map (lC p.1)++fV ps:=rfl
  have hw:=(fG hp.1.f hp.2 p.2.length (M4 _)).l
  rw [NW] at hw
  rw [e1,NJ,M8,M7,OU]
  exact Nat.add_le_add hw (ih λq hq=>h q (Ni _ hq))
theorem HD {As:List (List aD)} (hf:∀ A∈As,cB A) (hl:bH As<=400000):∀ t∈dG As,t.1.length<=6:=λt ht=>by
 have h:=(fG hf hl As.length (M4 _)).e
 rw [NW] at h
 exact (h t ht).1
theorem HE {As:List (List aD)} (h8:As.length<=8) (hf:∀ A∈As,cB A) (hl:bH As<=400000):Bn 20000 (dG As):=by
 have h:=(fG hf hl As.length (M4 _)).b
 rw [NW] at h
 exact h.mono (by omega)
theorem HF {ps:List Part} (h:∀ p∈ps,dP p/\bH p.2<=400000):∀ t∈fV ps,t.1.length<=6:=λt ht=>by
 obtain ⟨p,hp,ht⟩:=Rj.mp ht
 obtain ⟨u,hu,rfl⟩:=N1.mp ht
 exact HD (h p hp).1.f (h p hp).2 u hu
noncomputable def rL:Fn:=λds r=>∃ ps:List Part,ah ps/\ds=[.lst (ps.map gX)]/\r=.ok (.ow ((bL (cy ps)).map aS))
theorem nk (h:ah ps):rL [.lst (ps.map gX)] (.ok (.ow ((bL (cy ps)).map aS))):=⟨ps,h,rfl,rfl⟩
theorem HG (Fu:dQ K "_law_sum" "_law_sum" (top 41) f fd) (T:Txt K mg) (h1:c7 P w K mg base 1 "_law_plain" rF) (h2:c7 P w K mg base 2 "_law_product" D9):aZ P w K mg base (c9 P w) 3 f fd ["_law_parts"] (dM K rL):=by
 refine bY Fu A0 (by rintro ds r ⟨As,_,rfl,_⟩; rfl) (by rintro ds r ⟨As,_,_,rfl⟩; exact ⟨_,rfl⟩) λc hq ds sl hF=>?_
 obtain ⟨ps,h,rfl,e⟩:=hF
 injection e with e
 subst e
 have hh:∀ p∈ps,dP p/\bH p.2<=400000:=λp hp=>⟨h.p p hp,Nb (Eb hp) h.s⟩
 show aH c _ [.va (.lst (ps.map gX)),.un,.un,.un] _ _
 conv in (au _)=>whnf
 walk_at "ev"
 show fK c _ [.va (.lst (ps.map gX)),.ow ((fV (ps.take 0)).map aS),.un,.un] _ _
 with_reducible refine d7 hq (cE ?_)
 walk_at "ev"
 refine ⟨λi ρ'=>∃ s2 s3:Sl,ρ'=[.va (.lst (ps.map gX)),.ow ((fV (ps.take i)).map aS),s2,s3],⟨_,_,rfl⟩,?_,?_⟩
 ·rintro c' rS BW BX i d ρ' hd ⟨s2,s3,rfl⟩
  simp only [Nd,Nk] at hd
  obtain ⟨p,hpx,rfl⟩:=hd
  obtain ⟨hi,rfl⟩:=Nf.mp hpx
  have hq':c'.X.xe=λ_ _=>False:=by rw [rS]; exact hq
  obtain ⟨hp,hpl⟩:=hh _ (NL hi)
  have eN:fV (ps.take (i+1))=fV (ps.take i)++(dG ps[i].2).map (lC ps[i].1):=by rw [N3 hi,xV]
  have hln:(fV (ps.take i)).length+(dG ps[i].2).length<=400000:=by
   have h1:=rK (ps:=ps.take (i+1)) λq hq=>hh q (PY hq)
   rw [eN,NJ,M8] at h1
   refine Nb h1 (Nb ?_ h.s)
   rw [<- OD (i+1) ps,Ob,Pu,OD]
   exact P8 _ _
  generalize fV (ps.take i)=A at eN hln |-
  generalize ps[i]=p at hp hpl eN hln |-
  show mF c' _ (.tup [.int p.1,.lst (p.2.map af)]) _ _
  generalize hG:(λρ'=>aH c' _ ρ' _ _)=G
  walk_at "ev"
  subst hG
  refine aB (yS (by walk_at "at") (uS 1 (by walk_at "at") rfl (by walk_at "sset") (zd (uz (by walk_at "at") (by walk_at "at") (e_x (dw hq' (N':=["_law_powers","_law_count","_law_number"]) (ρ0:=λ_=>[.un,.un,.va (.int p.1)]) (λt=>.un (.un (.fr (by walk_at "at") (by walk_at "at") (by decide) rfl .nil))) (cE (e_x (x_call (F:=D9) h2 (by decide) ?_)))))))))
  walk_at "ev"
  refine aj (J9 hp.m hp.f hpl) (aG ?_)
  have hb:=HE hp.m hp.f hpl
  generalize dG p.2=L at eN hln hb |-
  refine zq rfl ⟨tL (by simp only [M8]; omega),L.map λx=>some (aS (lC p.1 x)),by simp,?_,?_⟩
  ·intro c2 hc t i d o hd ho
   simp only [Nd,Nk] at hd ho
   obtain ⟨x,hx,rfl⟩:=hd
   obtain ⟨x',hx',rfl⟩:=ho
   rw [hx] at hx'; cases hx'
   have hxb:=hb x (Og hx)
   show mF c2 _ (.tup [.tup (x.1.map .int),.int x.2]) _ _
   walk_at "ev"
   refine ⟨.un (.un (.same .nil)),?_⟩
   simp only [jj]
   refine ⟨λ_=>?_,λh=>by cases h⟩
   walk_at "ev"
   ·exact oZ hp.n hxb (by decide)
   rfl
  ·rw [cR (λx=>aS (lC p.1 x)),show L.map (λx=>aS (lC p.1 x))=(L.map (lC p.1)).map aS by rw [Nt]; rfl]
   walk_at "ev"
   ·exact tL (by simp only [M8]; omega)
   ·rw [<- Ob]; exact dR λx _=>jB x
   show ∃ s2 s3:Sl,_=[_,.ow ((fV (ps.take (i+1))).map aS),s2,s3]
   rw [eN,Ob]
   exact ⟨_,_,rfl⟩
 ·rintro ρ' ⟨s2,s3,rfl⟩
  rw [M8,NW]
  refine aB (bK (uS 1 (by walk_at "at") rfl (by walk_at "sset") (x_call (F:=rF) h1 (by decide) ?_)))
  walk_at "ev"
  refine aj (tM (Nb (rK hh) h.s) λt ht=>Nb (HF hh t ht) (by decide)) ⟨dR λx _=>jB x,?_⟩
  show Sl.ow _=Sl.ow _
  rw [show fE (nz (aJ (fV ps)))=bL (cy ps) from dD (Ec hh)]
noncomputable def Ed:Fn:=λds r=>∃ (ns:List Int) (k:Nat),ds=[.lst (ns.map .int),.int (k:Int)]/\r=.ok (.va (.int (ns.getD k 0)))
theorem Ka (ns:List Int) (k:Nat):Ed [.lst (ns.map .int),.int (k:Int)] (.ok (.va (.int (ns.getD k 0)))):=⟨ns,k,rfl,rfl⟩
theorem HH {ns:List Int} (h:k<ns.length):ki (ns.map D.int) (k:Int)=some (D.int (ns.getD k 0)):=by
 rw [iQ (by lia) (by simp; lia),N6,Nd,Nr h,Oa,Nr h]
 rfl
theorem HJ (Fu:dQ K "_law_cell_at" "_law_cell_at" (top 37) f fd) (T:Txt K mg):aZ P w K mg base (c9 P w) 1 f fd ["_law_script","_law_k"] (dM K Ed):=by
 refine bY Fu oU (by rintro ds r ⟨ns,k,rfl,_⟩; rfl) (by rintro ds r ⟨ns,k,_,rfl⟩; exact ⟨_,rfl⟩) λc hq ds sl hF=>?_
 obtain ⟨ns,k,rfl,e⟩:=hF
 injection e with e
 subst e
 show aH c _ [.va (.lst (ns.map .int)),.va (.int (k:Int))] _ _
 conv in (au _)=>whnf
 walk_at "ev"
 ·have hk:k<ns.length:=by simp only [M8] at *; omega
  refine yY (HH hk) ?_
  walk_at "ev"
  rfl
 ·have hk:¬ k<ns.length:=by simp only [M8] at *; omega
  show Sl.va _=Sl.va _
  rw [Oa,OE (by omega)]; rfl
noncomputable def Kc (c:Int) (k:Nat):Int:=(c * 48271+(k:Int) * 69621+11) % 2147483629
noncomputable def HK (c:Int) (k:Nat):Int:=Kc c k * Kc c k % 2147483587
noncomputable def o4 (ns:List Int) (k:Nat):Int :=
 if ns.getD k 0>=10 ^ QH 18 then ns.getD k 0 - 10 ^ QH 18 else HK (ns.getD k 0) k * 2147483563+HK (ns.getD k 0) k * HK (ns.getD k 0) k % 2147483563
noncomputable def Ef:Fn:=λds r=>∃ (ns:List Int) (k:Nat),ds=[.lst (ns.map .int),.int (k:Int)]/\r=.ok (.va (.int (o4 ns k)))
theorem Kd (ns) (k:Nat):Ef [.lst (ns.map .int),.int (k:Int)] (.ok (.va (.int (o4 ns k)))):=⟨ns,k,rfl,rfl⟩
theorem Ke:r6 10 9:=⟨by decide,by decide,by decide +kernel⟩
theorem BA:r6 10 18:=⟨by decide,by decide,by decide +kernel⟩
theorem tS (h:b.natAbs<2 ^ 63):EV.MulOk a b:=IntMulOk.of_right (qm h)
section
local macro_rules | `(tactic| walk_at "evR")=> `(tactic| with_reducible refine aj (Ka _ _) ?_)
local macro_rules | `(tactic| walk_at "evCa")=> `(tactic| with_reducible refine bz (F:=Ed) (by assumption) (by decide) ?_)
theorem HL (Fu:dQ K "_law_digits" "_law_digits" (top 38) f fd) (T:Txt K mg) (h1:c7 P w K mg base 1 "_law_cell_at" Ed):aZ P w K mg base (c9 P w) 2 f fd ["_law_script","_law_k"] (dM K Ef):=by
 refine bY Fu rE (by rintro ds r ⟨ns,k,rfl,_⟩; rfl) (by rintro ds r ⟨ns,k,_,rfl⟩; exact ⟨_,rfl⟩) λc hq ds sl hF=>?_
 obtain ⟨ns,k,rfl,e⟩:=hF
 injection e with e
 subst e
 show aH c _ [.va (.lst (ns.map .int)),.va (.int (k:Int)),.un,.un] _ _
 conv in (au _)=>whnf
 walk_at "ev"
 ·exact BA
 ·exact BA
 ·show Sl.va _=Sl.va _
  unfold o4
  rw [if_pos (by assumption)]
 ·exact tS (by decide)
 ·exact tS (by decide)
 ·exact qp (by omega)
 ·exact tS (by decide)
 ·exact qp (by omega)
 ·show Sl.va _=Sl.va _
  unfold o4
  rw [if_neg (by assumption)]
  rfl
end
noncomputable def stN (r:Int):Int:=r / 513 / 16
noncomputable def BQ (r:Int):aD:=([r % 3,r / 3 % 3,r / 9 % 3],if r / 513 % 16=15 then (r / 27 % 19 - 9) * (10 ^ QH 9+7) else r / 27 % 19 - 9)
noncomputable def l0:Nat->Int->List aD×Int
 | 0,r=>([],r)
 | i+1,r=>((l0 i r).1++[BQ (l0 i r).2],stN (l0 i r).2)
noncomputable def lD (n:Int):List aD:=bL (l0 (n % 4).toNat (n / 4)).1
theorem j7 (i) (r):(l0 i r).1.length=i:=by
 induction i with
 | zero=>rfl
 | succ i ih=>simp [l0,ih]
noncomputable def vV:Fn:=λds r=>∃ n:Int,ds=[.int n]/\r=.ok (.ow ((lD n).map aS))
theorem HM (n):vV [.int n] (.ok (.ow ((lD n).map aS))):=⟨n,rfl,rfl⟩
theorem Kf (i) (r):∀ t∈(l0 i r).1,t.1.length=3:=by
 induction i with
 | zero=>intro t ht; cases ht
 | succ i ih =>
  intro t ht
  rcases NF.mp ht with h | h
  ·exact ih t h
  ·rw [Nj.mp h]; rfl
theorem Eg (Fu:dQ K "_law_some" "_law_some" (top 42) f fd) (T:Txt K mg) (h1:c7 P w K mg base 1 "_law_plain" rF):aZ P w K mg base (c9 P w) 2 f fd ["_law_number"] (dM K vV):=by
 refine bY Fu xN (by rintro ds r ⟨n,rfl,_⟩; rfl) (by rintro ds r ⟨n,_,rfl⟩; exact ⟨_,rfl⟩) λc hq ds sl hF=>?_
 obtain ⟨n,rfl,e⟩:=hF
 injection e with e
 subst e
 show aH c _ [.va (.int n),.un,.un,.un,.un,.un] _ _
 conv in (au _)=>whnf
 walk_at "ev"
 show fK c _ [.va (.int (l0 0 (n / 4)).2),.ow ((l0 0 (n / 4)).1.map aS),.va (.int (n % 4)),.un,.un,.un] _ _
 with_reducible refine d7 hq (gc (Txt.range (by assumption)) ?_)
 walk_at "ev"
 ·exact ⟨by omega,by omega⟩
 refine ⟨λi ρ'=>∃ s3 s4 s5:Sl,ρ'=[.va (.int (l0 i (n / 4)).2),.ow ((l0 i (n / 4)).1.map aS),.va (.int (n % 4)),s3,s4,s5],⟨_,_,_,rfl⟩,?_,?_⟩
 ·rintro c' rS BW BX i d ρ' hd ⟨s3,s4,s5,rfl⟩
  obtain ⟨hi,rfl⟩:=nZ hd
  have hl:=j7 i (n / 4)
  have eN:l0 (i+1) (n / 4)=((l0 i (n / 4)).1++[BQ (l0 i (n / 4)).2],stN (l0 i (n / 4)).2):=rfl
  generalize l0 i (n / 4)=g at hl eN |-
  obtain ⟨L,r⟩:=g
  have hm:=Int.emod_lt_of_pos (r / 27) (b:=19) (by decide)
  have hm0:=Int.emod_nonneg (r / 27) (b:=19) (by decide)
  have hz:(L.map aS).length<sizeLine:=lB (by rw [M8]; have:L.length=i:=hl; omega)
  walk_at "ev"
  ·exact Ke
  ·exact qp (by show ((r / 27 % 19 - 9:Int)).natAbs<_; omega)
  ·show ∃ s3 s4 s5:Sl,_=[.va (.int (l0 (i+1) (n / 4)).2),.ow ((l0 (i+1) (n / 4)).1.map aS),.va (.int (n % 4)),s3,s4,s5]
   rw [eN,<- jC,show aS (BQ r)=.tup [.tup [.int (r % 3),.int (r / 3 % 3),.int (r / 9 % 3)],.int ((r / 27 % 19 - 9) * (10 ^ QH 9+7))] by unfold BQ; rw [if_pos (by assumption)]; rfl]
   exact ⟨_,_,_,rfl⟩
  ·show ∃ s3 s4 s5:Sl,_=[.va (.int (l0 (i+1) (n / 4)).2),.ow ((l0 (i+1) (n / 4)).1.map aS),.va (.int (n % 4)),s3,s4,s5]
   rw [eN,<- jC,show aS (BQ r)=.tup [.tup [.int (r % 3),.int (r / 3 % 3),.int (r / 9 % 3)],.int (r / 27 % 19 - 9)] by unfold BQ; rw [if_neg (by assumption)]; rfl]
   exact ⟨_,_,_,rfl⟩
 ·rintro ρ' ⟨s3,s4,s5,rfl⟩
  rw [i9]
  refine aB (bK (uS 1 (by walk_at "at") rfl (by walk_at "sset") (x_call (F:=rF) h1 (by decide) ?_)))
  walk_at "ev"
  refine aj (tM (by rw [j7]; omega) λt ht=>by rw [Kf _ _ t ht]; decide) ⟨dR λx _=>jB x,?_⟩
  rfl
end
section
variable {P:Program} {w:World} {K:M0} {mg:Str->Option Value} {base:Heap}
structure MF (A:List aD):Prop where
 l:A.length<=3
 e:Ex 2 A
 b:Bn 100 A
theorem HN (r):(BQ r).1.length<=6/\(∀ x∈(BQ r).1,0<=x/\x<=2)/\(BQ r).2.natAbs<2 ^ 50:=by
 unfold BQ
 refine ⟨by show (3:Nat)<=6; decide,λx hx=>?_,?_⟩
 ·simp only [Nm,OR,or_false] at hx
  rcases hx with rfl | rfl | rfl <;> lia
 ·have h1:=Int.emod_lt_of_pos (r / 27) (b:=19) (by decide)
  have h2:=Int.emod_nonneg (r / 27) (b:=19) (by decide)
  have e9:(10:Int) ^ QH 9=1000000000:=by decide +kernel
  rw [e9]
  dsimp only
  split <;> lia
theorem tT (i) (r):∀ t∈(l0 i r).1,t.1.length<=6/\(∀ x∈t.1,0<=x/\x<=2)/\t.2.natAbs<2 ^ 50:=by
 induction i with
 | zero=>intro t ht; cases ht
 | succ i ih =>
  intro t ht
  rcases NF.mp ht with h | h
  ·exact ih t h
  ·rw [Nj.mp h]; exact HN _
theorem Eh (n:Int):MF (lD n) where
 l:=Nb (k7 _) (by rw [j7]; lia)
 e:=Ex.lZ λt ht=>⟨(tT _ _ t ht).1,(tT _ _ t ht).2.1⟩
 b:=(Bn.lZ (m:=50) (λt ht=>(tT _ _ t ht).2.2) (by rw [j7]; lia)).mono (by decide)
noncomputable def BB (ps:List Part):List D:=(bL (cy ps)).map aS
noncomputable def tt (ps:List Part):List aD:=bL (cy ps)
noncomputable abbrev T3:=List aD×List aD×List aD
noncomputable abbrev T4:=List aD×List aD×List aD×List aD
noncomputable def D3 (s:T3):D:=.tup [af s.1,af s.2.1,af s.2.2]
noncomputable def D4 (s:T4):D:=.tup [af s.1,af s.2.1,af s.2.2.1,af s.2.2.2]
noncomputable def A1 {α:Type} (d:α->D) (a:α):List D:=[d a]
noncomputable def A2 {α β:Type} (d:α->D) (e:β->D) (a:α×β):List D:=[d a.1,e a.2]
noncomputable def Fr {α:Type} (dA:α->List D) (Ok:α->Prop) (R:α->Sl) (P:Program) (w:World) (K:M0) (mg:Str->Option Value) (base:Heap):Fn:=λds r=>∃ (ad:Addr) (a:α),oH P w K mg base 4 ad iC/\Ok a/\ds=.adr ad::dA a/\r=.ok (R a)
theorem xW {α:Type} {dA:α->List D} {Ok:α->Prop} {R:α->Sl} {ad:Addr} {a:α} (hg:oH P w K mg base 4 ad iC) (h:Ok a):Fr dA Ok R P w K mg base (.adr ad::dA a) (.ok (R a)):=⟨ad,a,hg,h,rfl,rfl⟩
noncomputable def Fw {α:Type} (dA:α->List D) (Ok:α->Prop) (R:α->Sl):Fn:=λds r=>∃ a:α,Ok a/\ds=dA a/\r=.ok (R a)
theorem KY {α:Type} {dA:α->List D} {Ok:α->Prop} {R:α->Sl} {a:α} (h:Ok a):Fw dA Ok R (dA a) (.ok (R a)):=⟨a,h,rfl,rfl⟩
theorem eO {α:Type} {dA:α->List D} {Ok:α->Prop} {R:α->Sl} {n:Nat} (h:∀ a,(dA a).length=n):∀ ds r,Fr dA Ok R P w K mg base ds r->ds.length=n+1:=by
 rintro ds r ⟨ad,a,_,_,rfl,_⟩
 rw [NN,h]
theorem gE {α:Type} {dA:α->List D} {Ok:α->Prop} {R:α->Sl}:∀ ds r,Fr dA Ok R P w K mg base ds r->∃ sl,r=.ok sl:=by
 rintro ds r ⟨ad,a,_,_,_,rfl⟩
 exact ⟨_,rfl⟩
theorem fT {α:Type} {dA:α->List D} {Ok:α->Prop} {R:α->Sl} {n:Nat} (h:∀ a,(dA a).length=n):∀ ds r,Fw dA Ok R ds r->ds.length=n:=by
 rintro ds r ⟨a,_,rfl,_⟩
 exact h a
theorem ja {α:Type} {dA:α->List D} {Ok:α->Prop} {R:α->Sl}:∀ ds r,Fw dA Ok R ds r->∃ sl,r=.ok sl:=by
 rintro ds r ⟨a,_,_,rfl⟩
 exact ⟨_,rfl⟩
noncomputable def dW (X:List (List Part)):Sl:=.va (.tup (X.map λps=>af (tt ps)))
noncomputable def Ei (ps:List Part):Sl:=.ow (BB ps)
local macro_rules | `(tactic| walk_at "tv")=> `(tactic| (refine bQ (e_x (fP (by assumption) (by decide) (by walk_at "at") (by walk_at "at") ?_)); walk_at "ev"))
noncomputable def rQ:T3×T3->List (List Part):=λ⟨⟨a,b,c⟩,⟨x,y,z⟩⟩=>[[(1,[c,z,z])],[(-2,[a,z,z])],[(-2,[b,z,z])],[(2,[x,a,z]),(2,[y,b,z]),(-1,[x,x,c]),(-1,[y,y,c])]]
noncomputable abbrev LY:=Fr (A2 D3 D3) (λu=>∀ ps∈rQ u,ah ps) (λu=>dW (rQ u))
theorem Kg {ff:Addr} {fd:FuncData} (Fu:dQ K "round_rule" "round_rule" (top 18) ff fd):aZ P w K mg base (c9 P w) 5 ff fd ["total","c","i"] (dM K (LY P w K mg base)):=by
 refine bY Fu lV (eO λ_=>rfl) gE λk hq ds sl hF=>?_
 obtain ⟨fg,⟨⟨a,b,c⟩,⟨x,y,z⟩⟩,hg,hh,rfl,ee⟩:=hF
 injection ee with ee
 subst ee
 have h0:ah [(1,[c,z,z])]:=hh _ (by simp [rQ])
 have h1:ah [(-2,[a,z,z])]:=hh _ (by simp [rQ])
 have h2:ah [(-2,[b,z,z])]:=hh _ (by simp [rQ])
 have h3:ah [(2,[x,a,z]),(2,[y,b,z]),(-1,[x,x,c]),(-1,[y,y,c])]:=hh _ (by simp [rQ])
 show aH k _ [.va (.adr fg),.va (.tup [af a,af b,af c]),.va (.tup [af x,af y,af z])] _ _
 conv in (au _)=>whnf
 walk_at "evSs"
 refine bK (uw (f9 ?_))
 walk_at "tv"
 refine aj (bC h0) (aG ?_)
 walk_at "tv"
 refine aj (bC h1) (aG ?_)
 walk_at "tv"
 refine aj (bC h2) (aG ?_)
 walk_at "tv"
 refine aj (bC h3) (aG ?_)
 walk_at "ev"
 rfl
noncomputable def lE:T3->List (List Part):=λ⟨x,y,z⟩=>[[(1,[x,x]),(1,[y,y])],[(1,[x,z])],[(1,[y,z])],[(1,[z,z])]]
noncomputable abbrev HP:=Fr (A1 D3) (λu=>∀ ps∈lE u,ah ps) (λu=>dW (lE u))
theorem HQ {ff:Addr} {fd:FuncData} (Fu:dQ K "round_row" "round_row" (top 19) ff fd):aZ P w K mg base (c9 P w) 5 ff fd ["total","i"] (dM K (HP P w K mg base)):=by
 refine bY Fu oO (eO λ_=>rfl) gE λk hq ds sl hF=>?_
 obtain ⟨fg,⟨x,y,z⟩,hg,hh,rfl,ee⟩:=hF
 injection ee with ee
 subst ee
 have h0:ah [(1,[x,x]),(1,[y,y])]:=hh _ (by simp [lE])
 have h1:ah [(1,[x,z])]:=hh _ (by simp [lE])
 have h2:ah [(1,[y,z])]:=hh _ (by simp [lE])
 have h3:ah [(1,[z,z])]:=hh _ (by simp [lE])
 show aH k _ [.va (.adr fg),.va (.tup [af x,af y,af z])] _ _
 conv in (au _)=>whnf
 walk_at "evSs"
 refine bK (uw (f9 ?_))
 walk_at "tv"
 refine aj (bC h0) (aG ?_)
 walk_at "tv"
 refine aj (bC h1) (aG ?_)
 walk_at "tv"
 refine aj (bC h2) (aG ?_)
 walk_at "tv"
 refine aj (bC h3) (aG ?_)
 walk_at "ev"
 rfl
noncomputable def o5:T4->List (List Part):=λ⟨a,b,c,d⟩=>[[(-1,[b])],[(-1,[c])],[(2,[a])]]
noncomputable abbrev LZ:=Fr (A1 D4) (λu=>∀ ps∈o5 u,ah ps) (λu=>dW (o5 u))
theorem Kh {ff:Addr} {fd:FuncData} (Fu:dQ K "centre_rule" "centre_rule" (top 21) ff fd):aZ P w K mg base (c9 P w) 5 ff fd ["total","o"] (dM K (LZ P w K mg base)):=by
 refine bY Fu ly (eO λ_=>rfl) gE λk hq ds sl hF=>?_
 obtain ⟨fg,⟨a,b,c,d⟩,hg,hh,rfl,ee⟩:=hF
 injection ee with ee
 subst ee
 have h0:ah [(-1,[b])]:=hh _ (by simp [o5])
 have h1:ah [(-1,[c])]:=hh _ (by simp [o5])
 have h2:ah [(2,[a])]:=hh _ (by simp [o5])
 show aH k _ [.va (.adr fg),.va (.tup [af a,af b,af c,af d])] _ _
 conv in (au _)=>whnf
 walk_at "evSs"
 refine bK (uw (f9 ?_))
 walk_at "tv"
 refine aj (bC h0) (aG ?_)
 walk_at "tv"
 refine aj (bC h1) (aG ?_)
 walk_at "tv"
 refine aj (bC h2) (aG ?_)
 walk_at "ev"
 rfl
noncomputable def l5:T4×T3->List (List Part):=λ⟨⟨a,b,c,d⟩,⟨x,y,z⟩⟩=>[[(2,[a,x]),(1,[b,z])],[(2,[a,y]),(1,[c,z])],[(1,[b,x]),(1,[c,y]),(2,[d,z])]]
noncomputable abbrev L0:=Fr (A2 D4 D3) (λu=>∀ ps∈l5 u,ah ps) (λu=>dW (l5 u))
theorem Kl {ff:Addr} {fd:FuncData} (Fu:dQ K "polar_rule" "polar_rule" (top 22) ff fd):aZ P w K mg base (c9 P w) 5 ff fd ["total","o","i"] (dM K (L0 P w K mg base)):=by
 refine bY Fu lX (eO λ_=>rfl) gE λk hq ds sl hF=>?_
 obtain ⟨fg,⟨⟨a,b,c,d⟩,⟨x,y,z⟩⟩,hg,hh,rfl,ee⟩:=hF
 injection ee with ee
 subst ee
 have h0:ah [(2,[a,x]),(1,[b,z])]:=hh _ (by simp [l5])
 have h1:ah [(2,[a,y]),(1,[c,z])]:=hh _ (by simp [l5])
 have h2:ah [(1,[b,x]),(1,[c,y]),(2,[d,z])]:=hh _ (by simp [l5])
 show aH k _ [.va (.adr fg),.va (.tup [af a,af b,af c,af d]),.va (.tup [af x,af y,af z])] _ _
 conv in (au _)=>whnf
 walk_at "evSs"
 refine bK (uw (f9 ?_))
 walk_at "tv"
 refine aj (bC h0) (aG ?_)
 walk_at "tv"
 refine aj (bC h1) (aG ?_)
 walk_at "tv"
 refine aj (bC h2) (aG ?_)
 walk_at "ev"
 rfl
noncomputable def rR:T4×T4->List (List Part):=λ⟨⟨a,b,c,d⟩,⟨e,f,g,h⟩⟩=>[[(1,[b,e]),(-1,[f,a])],[(1,[c,e]),(-1,[g,a])],[(1,[d,e]),(-1,[h,a])]]
noncomputable abbrev L1:=Fr (A2 D4 D4) (λu=>∀ ps∈rR u,ah ps) (λu=>dW (rR u))
theorem Km {ff:Addr} {fd:FuncData} (Fu:dQ K "axis_rule" "axis_rule" (top 23) ff fd):aZ P w K mg base (c9 P w) 5 ff fd ["total","o","p"] (dM K (L1 P w K mg base)):=by
 refine bY Fu oQ (eO λ_=>rfl) gE λk hq ds sl hF=>?_
 obtain ⟨fg,⟨⟨a,b,c,d⟩,⟨e,f,g,h⟩⟩,hg,hh,rfl,ee⟩:=hF
 injection ee with ee
 subst ee
 have h0:ah [(1,[b,e]),(-1,[f,a])]:=hh _ (by simp [rR])
 have h1:ah [(1,[c,e]),(-1,[g,a])]:=hh _ (by simp [rR])
 have h2:ah [(1,[d,e]),(-1,[h,a])]:=hh _ (by simp [rR])
 show aH k _ [.va (.adr fg),.va (.tup [af a,af b,af c,af d]),.va (.tup [af e,af f,af g,af h])] _ _
 conv in (au _)=>whnf
 walk_at "evSs"
 refine bK (uw (f9 ?_))
 walk_at "tv"
 refine aj (bC h0) (aG ?_)
 walk_at "tv"
 refine aj (bC h1) (aG ?_)
 walk_at "tv"
 refine aj (bC h2) (aG ?_)
 walk_at "ev"
 rfl
noncomputable def eX:T3->List Part:=λ⟨p,q,r⟩=>[(1,[p,p]),(1,[q,q])]
noncomputable abbrev IF:=Fr (A1 D3) (λu=>ah (eX u)) (λu=>Ei (eX u))
theorem Kn {ff:Addr} {fd:FuncData} (Fu:dQ K "square_of_way" "square_of_way" (top 14) ff fd):aZ P w K mg base (c9 P w) 5 ff fd ["total","l"] (dM K (IF P w K mg base)):=by
 refine bY Fu jy (eO λ_=>rfl) gE λk hq ds sl hF=>?_
 obtain ⟨fg,⟨p,q,r⟩,hg,hh,rfl,ee⟩:=hF
 injection ee with ee
 subst ee
 show aH k _ [.va (.adr fg),.va (.tup [af p,af q,af r])] _ _
 conv in (au _)=>whnf
 walk_at "evSs"
 refine bK (fP hg (by decide) (by walk_at "at") (by walk_at "at") ?_)
 walk_at "ev"
 exact aj (bC hh) rfl
noncomputable def tU:T4×T3->List Part:=λ⟨⟨a,b,c,d⟩,⟨p,q,r⟩⟩=>[(1,[p,b]),(1,[q,c]),(-2,[r,a])]
noncomputable abbrev L3:=Fr (A2 D4 D3) (λu=>ah (tU u)) (λu=>Ei (tU u))
theorem Ko {ff:Addr} {fd:FuncData} (Fu:dQ K "middle_worth" "middle_worth" (top 24) ff fd):aZ P w K mg base (c9 P w) 5 ff fd ["total","o","l"] (dM K (L3 P w K mg base)):=by
 refine bY Fu jR (eO λ_=>rfl) gE λk hq ds sl hF=>?_
 obtain ⟨fg,⟨⟨a,b,c,d⟩,⟨p,q,r⟩⟩,hg,hh,rfl,ee⟩:=hF
 injection ee with ee
 subst ee
 show aH k _ [.va (.adr fg),.va (.tup [af a,af b,af c,af d]),.va (.tup [af p,af q,af r])] _ _
 conv in (au _)=>whnf
 walk_at "evSs"
 refine bK (fP hg (by decide) (by walk_at "at") (by walk_at "at") ?_)
 walk_at "ev"
 exact aj (bC hh) rfl
section
local macro_rules | `(tactic| walk_at "evCa")=> `(tactic| first | with_reducible refine bz (F:=IF P w K mg base) (by assumption) (by decide) ?_)
local macro_rules | `(tactic| walk_at "evXC")=> `(tactic| first
 | with_reducible refine x_call (x:=MY "square_of_way") (F:=IF P w K mg base) (by assumption) (by decide) ?_
 | with_reducible refine x_call (x:=MY "middle_worth") (F:=L3 P w K mg base) (by assumption) (by decide) ?_)
noncomputable def E9 (a b c d p q r S U:List aD):List (List Part):=[[(1,[S,a])],[(1,[S,b]),(-2,[p,U])],[(1,[S,c]),(-2,[q,U])],[(1,[S,d]),(-2,[r,U])]]
noncomputable def BR:T4×T3->List (List Part):=λu=>E9 u.1.1 u.1.2.1 u.1.2.2.1 u.1.2.2.2 u.2.1 u.2.2.1 u.2.2.2 (tt (eX u.2)) (tt (tU u))
noncomputable abbrev L4:=Fr (A2 D4 D3) (λu=>ah (eX u.2)/\ah (tU u)/\∀ ps∈BR u,ah ps) (λu=>dW (BR u))
theorem Kp {ff:Addr} {fd:FuncData} (Fu:dQ K "mirroredround_rule" "mirroredround_rule" (top 25) ff fd) (h1:c7 P w K mg base 5 "square_of_way" (IF P w K mg base)) (h2:c7 P w K mg base 5 "middle_worth" (L3 P w K mg base)):aZ P w K mg base (c9 P w) 6 ff fd ["total","o","l"] (dM K (L4 P w K mg base)):=by
 refine bY Fu fU (eO λ_=>rfl) gE λk hq ds sl hF=>?_
 obtain ⟨fg,⟨⟨a,b,c,d⟩,⟨p,q,r⟩⟩,hg,⟨hs,hu,hh⟩,rfl,ee⟩:=hF
 injection ee with ee
 subst ee
 show aH k _ [.va (.adr fg),.va (.tup [af a,af b,af c,af d]),.va (.tup [af p,af q,af r]),.un,.un] _ _
 conv in (au _)=>whnf
 refine aB ?_
 generalize hG:(λρ'=>aH k _ ρ' _ _)=G
 walk_at "ev"
 refine aj (xW (a:=((p,q,r):T3)) hg hs) ?_
 walk_at "ev"
 subst hG
 refine d8 3 (d0:=af (tt (eX (p,q,r)))) (by walk_at "at") rfl (by walk_at "sset") ?_
 refine aB ?_
 generalize hG:(λρ'=>aH k _ ρ' _ _)=G
 walk_at "ev"
 refine aj (xW (a:=(((a,b,c,d),(p,q,r)):T4×T3)) hg hu) ?_
 walk_at "ev"
 subst hG
 refine d8 4 (d0:=af (tt (tU ((a,b,c,d),(p,q,r))))) (by walk_at "at") rfl (by walk_at "sset") ?_
 have hh':∀ ps∈E9 a b c d p q r (tt (eX (p,q,r))) (tt (tU ((a,b,c,d),(p,q,r)))),ah ps:=hh
 show aH k _ _ _ { rt:=λz=>z=dW (E9 a b c d p q r (tt (eX (p,q,r))) (tt (tU ((a,b,c,d),(p,q,r))))) }
 generalize tt (eX (p,q,r))=S at *
 generalize tt (tU ((a,b,c,d),(p,q,r)))=U at *
 have q1:ah [(1,[S,a])]:=hh' _ (by simp [E9])
 have q2:ah [(1,[S,b]),(-2,[p,U])]:=hh' _ (by simp [E9])
 have q3:ah [(1,[S,c]),(-2,[q,U])]:=hh' _ (by simp [E9])
 have q4:ah [(1,[S,d]),(-2,[r,U])]:=hh' _ (by simp [E9])
 walk_at "evSs"
 refine bK (uw (f9 ?_))
 walk_at "tv"
 refine aj (bC q1) (aG ?_)
 walk_at "tv"
 refine aj (bC q2) (aG ?_)
 walk_at "tv"
 refine aj (bC q3) (aG ?_)
 walk_at "tv"
 refine aj (bC q4) (aG ?_)
 walk_at "ev"
 rfl
noncomputable def KZ (x y z p q r S:List aD):List (List Part):=[[(1,[q,q,x]),(-1,[p,q,y]),(-1,[p,r,z])],[(1,[p,p,y]),(-1,[p,q,x]),(-1,[q,r,z])],[(1,[S,z])]]
noncomputable def x9:T3×T3->List (List Part):=λu=>KZ u.1.1 u.1.2.1 u.1.2.2 u.2.1 u.2.2.1 u.2.2.2 (tt (eX u.2))
noncomputable abbrev L5:=Fr (A2 D3 D3) (λu=>ah (eX u.2)/\∀ ps∈x9 u,ah ps) (λu=>dW (x9 u))
theorem Kq {ff:Addr} {fd:FuncData} (Fu:dQ K "foot_rule" "foot_rule" (top 33) ff fd) (h1:c7 P w K mg base 5 "square_of_way" (IF P w K mg base)):aZ P w K mg base (c9 P w) 6 ff fd ["total","i","l"] (dM K (L5 P w K mg base)):=by
 refine bY Fu oS (eO λ_=>rfl) gE λk hq ds sl hF=>?_
 obtain ⟨fg,⟨⟨x,y,z⟩,⟨p,q,r⟩⟩,hg,⟨hs,hh⟩,rfl,ee⟩:=hF
 injection ee with ee
 subst ee
 have q1:ah [(1,[q,q,x]),(-1,[p,q,y]),(-1,[p,r,z])]:=hh _ (by simp [x9,KZ])
 have q2:ah [(1,[p,p,y]),(-1,[p,q,x]),(-1,[q,r,z])]:=hh _ (by simp [x9,KZ])
 have q3:ah [(1,[tt (eX (p,q,r)),z])]:=hh _ (by simp [x9,KZ])
 show aH k _ [.va (.adr fg),.va (.tup [af x,af y,af z]),.va (.tup [af p,af q,af r])] _ _
 conv in (au _)=>whnf
 walk_at "evSs"
 refine bK (uw (f9 ?_))
 walk_at "tv"
 refine aj (bC q1) (aG ?_)
 walk_at "tv"
 refine aj (bC q2) (aG ?_)
 walk_at "tv"
 refine aj (xW (a:=((p,q,r):T3)) hg hs) (aG ?_)
 walk_at "ev"
 refine aj (bC q3) (aG ?_)
 walk_at "ev"
 rfl
local macro_rules | `(tactic| walk_at "evXC")=> `(tactic| first | with_reducible refine x_call (x:=MY "foot_rule") (F:=L5 P w K mg base) (by assumption) (by decide) ?_)
noncomputable def HR (x y z F G S:List aD):List (List Part):=[[(2,[F]),(-1,[S,x])],[(2,[G]),(-1,[S,y])],[(1,[S,z])]]
noncomputable def Ej (u:T3×T3):List aD:=tt [(1,[u.2.2.1,u.2.2.1,u.1.1]),(-1,[u.2.1,u.2.2.1,u.1.2.1]),(-1,[u.2.1,u.2.2.2,u.1.2.2])]
noncomputable def Ek (u:T3×T3):List aD:=tt [(1,[u.2.1,u.2.1,u.1.2.1]),(-1,[u.2.1,u.2.2.1,u.1.1]),(-1,[u.2.2.1,u.2.2.2,u.1.2.2])]
noncomputable def BS:T3×T3->List (List Part):=λu=>HR u.1.1 u.1.2.1 u.1.2.2 (Ej u) (Ek u) (tt (eX u.2))
noncomputable abbrev L6:=Fr (A2 D3 D3) (λu=>ah (eX u.2)/\(∀ ps∈x9 u,ah ps)/\∀ ps∈BS u,ah ps) (λu=>dW (BS u))
theorem Kr {ff:Addr} {fd:FuncData} (Fu:dQ K "mirrored_rule" "mirrored_rule" (top 34) ff fd) (h1:c7 P w K mg base 5 "square_of_way" (IF P w K mg base)) (h2:c7 P w K mg base 6 "foot_rule" (L5 P w K mg base)):aZ P w K mg base (c9 P w) 7 ff fd ["total","i","l"] (dM K (L6 P w K mg base)):=by
 refine bY Fu jA (eO λ_=>rfl) gE λk hq ds sl hF=>?_
 obtain ⟨fg,⟨⟨x,y,z⟩,⟨p,q,r⟩⟩,hg,⟨hs,hf,hh⟩,rfl,ee⟩:=hF
 injection ee with ee
 subst ee
 show aH k _ [.va (.adr fg),.va (.tup [af x,af y,af z]),.va (.tup [af p,af q,af r]),.un,.un] _ _
 conv in (au _)=>whnf
 refine aB ?_
 generalize hG:(λρ'=>aH k _ ρ' _ _)=G
 walk_at "ev"
 refine aj (xW (dA:=A2 D3 D3) (Ok:=λu=>ah (eX u.2)/\∀ ps∈x9 u,ah ps) (R:=λu=>dW (x9 u)) (a:=(((x,y,z),(p,q,r)):T3×T3)) hg (show ah _/\(∀ ps∈x9 ((x,y,z),(p,q,r)),ah ps) from And.intro hs hf)) ?_
 walk_at "ev"
 subst hG
 refine aB ?_
 generalize hG:(λρ'=>aH k _ ρ' _ _)=G
 walk_at "ev"
 refine aj (xW (a:=((p,q,r):T3)) hg hs) ?_
 walk_at "ev"
 subst hG
 refine d8 4 (d0:=af (tt (eX (p,q,r)))) (by walk_at "at") rfl (by walk_at "sset") ?_
 have hh':∀ ps∈HR x y z (Ej ((x,y,z),(p,q,r))) (Ek ((x,y,z),(p,q,r))) (tt (eX (p,q,r))),ah ps:=hh
 show aH k _ [.va (.adr fg),.va (.tup [af x,af y,af z]),.va (.tup [af p,af q,af r]),.va (.tup [af (Ej ((x,y,z),(p,q,r))),af (Ek ((x,y,z),(p,q,r))),af (tt [(1,[tt (eX (p,q,r)),z])])]),.va (af (tt (eX (p,q,r))))] _ { rt:=λu=>u=dW (HR x y z (Ej ((x,y,z),(p,q,r))) (Ek ((x,y,z),(p,q,r))) (tt (eX (p,q,r)))) }
 clear hh hf
 generalize tt (eX (p,q,r))=S at *
 generalize Ej ((x,y,z),(p,q,r))=F at *
 generalize Ek ((x,y,z),(p,q,r))=H at *
 have q1:ah [(2,[F]),(-1,[S,x])]:=hh' _ (by simp [HR])
 have q2:ah [(2,[H]),(-1,[S,y])]:=hh' _ (by simp [HR])
 have q3:ah [(1,[S,z])]:=hh' _ (by simp [HR])
 walk_at "evSs"
 refine bK (uw (f9 ?_))
 walk_at "tv"
 refine aj (bC q1) (aG ?_)
 walk_at "tv"
 refine aj (bC q2) (aG ?_)
 walk_at "tv"
 refine aj (bC q3) (aG ?_)
 walk_at "ev"
 rfl
end
noncomputable def dX (L:List (List aD)):D:=.tup (L.map af)
noncomputable def jD (k:Nat) (L:List (List aD)):List (List aD):=L.take k++L.drop (k+1)
theorem lF {α:Type} (xs:List α) (k:Nat):EV.cutD xs none (some (k:Int))=xs.take k:=by
 unfold EV.cutD
 rw [HT.pJ,HT.uh,Rz,Nat.sub_zero]
 rcases Nat.le_total k xs.length with h | h
 ·rw [Pr h]
 ·rw [Nat.min_eq_right h,O1 (M4 _),O1 h]
theorem BC {α:Type} (xs:List α) (k:Nat):EV.cutD xs (some (k:Int)) none=xs.drop k:=by
 unfold EV.cutD
 rw [HT.pJ,HT.uh]
 rcases Nat.le_total k xs.length with h | h
 ·rw [Pr h]
  exact O1 (by rw [Rk]; exact M4 _)
 ·rw [Nat.min_eq_right h,List.drop_eq_nil_of_le (M4 _),List.drop_eq_nil_of_le h]; exact List.take_nil
noncomputable def o6:Fn:=λds r=>∃ (Ls:List (List (List aD))) (k:Nat),Ls.length<=10/\(∀ L∈Ls,L.length<=10)/\ds=[.lst (Ls.map dX),.int (k:Int)]/\r=.ok (.ow (Ls.map λL=>dX (jD k L)))
theorem Fb {Ls:List (List (List aD))} (k:Nat) (h:Ls.length<=10) (h2:∀ L∈Ls,L.length<=10):o6 [.lst (Ls.map dX),.int (k:Int)] (.ok (.ow (Ls.map λL=>dX (jD k L)))):=⟨Ls,k,h,h2,rfl,rfl⟩
theorem HU {ff:Addr} {fd:FuncData} (Fu:dQ K "without_place" "without_place" (top 15) ff fd):aZ P w K mg base (c9 P w) 1 ff fd ["lines","place"] (dM K o6):=by
 refine bY Fu jz (by rintro ds r ⟨Ls,k,_,_,rfl,_⟩; rfl) (by rintro ds r ⟨Ls,k,_,_,_,rfl⟩; exact ⟨_,rfl⟩) λc hq ds sl hF=>?_
 obtain ⟨Ls,k,hl,hL,rfl,ee⟩:=hF
 injection ee with ee
 subst ee
 show aH c _ [.va (.lst (Ls.map dX)),.va (.int (k:Int))] _ _
 conv in (au _)=>whnf
 refine aB (bK (dw hq (N':=["line","place"]) (ρ0:=λ_=>[.un,.va (.int (k:Int))]) (λt=>.un (.fr (by walk_at "at") (by walk_at "at") (by decide) rfl .nil)) (cE ?_)))
 walk_at "ev"
 ·exact tL (by rw [M8]; omega)
 refine ⟨Ls.map λL=>some (dX (jD k L)),by simp,?_,?_⟩
 ·intro c3 hc t n d o hd ho
  simp only [Nd,Nk] at hd ho
  obtain ⟨L,hx,rfl⟩:=hd
  obtain ⟨L',hx',rfl⟩:=ho
  rw [hx] at hx'; cases hx'
  have h10:=hL L (Og hx)
  refine cC (by walk_at "at") (nQ (by walk_at "sset") ⟨.un (.same .nil),?_⟩)
  simp only [jj]
  refine ⟨λ_=>?_,λh=>by cases h⟩
  show aI _ _ [.va (.tup (L.map af)),.va (.int (k:Int))] _
  have e1:EV.cutD (L.map af) (some ((k:Int)+1)) none=(L.map af).drop (k+1):=BC _ (k+1)
  walk_at "ev"
  ·rw [lF,e1,N2,Rk,M8]
   exact tL (by omega)
  ·rw [lF,e1]
   unfold dX jD
   rw [Ob,RB,List.map_drop]
 ·rw [cR λL=>dX (jD k L)]
noncomputable def BD (X Y:List (List aD)) (p q:Nat):List Part:=[(1,[X.getD p [],Y.getD q []]),(-1,[X.getD q [],Y.getD p []])]
noncomputable def fW (X Y Z:List (List aD)) (p q r:Nat):List Part:=[(1,[X.getD p [],tt (BD Y Z q r)]),(-1,[X.getD q [],tt (BD Y Z p r)]),(1,[X.getD r [],tt (BD Y Z p q)])]
noncomputable def K0 (P:Program) (w:World) (K:M0) (mg:Str->Option Value) (base:Heap):Fn:=λds r=>∃ (ad:Addr) (a b c d:List aD),oH P w K mg base 4 ad iC/\ah [(1,[a,d]),(-1,[b,c])]/\ds=[.adr ad,.lst [dX [a,b],dX [c,d]]]/\r=.ok (.ow (BB [(1,[a,d]),(-1,[b,c])]))
theorem HV {ad:Addr} {a b c d:List aD} (hf:oH P w K mg base 4 ad iC) (hh:ah [(1,[a,d]),(-1,[b,c])]):K0 P w K mg base [.adr ad,.lst [dX [a,b],dX [c,d]]] (.ok (.ow (BB [(1,[a,d]),(-1,[b,c])]))):=⟨ad,a,b,c,d,hf,hh,rfl,rfl⟩
section
local macro_rules | `(tactic| walk_at "evIx")=> `(tactic| first | ((with_reducible show aI _ (Ow _ (QA _ _ _) _) _ _); with_reducible refine mJ ?_))
theorem Ks {ff:Addr} {fd:FuncData} (Fu:dQ K "determinant" "determinant" (top 16) ff fd) (T:Txt K mg):aZ P w K mg base (c9 P w) 5 ff fd ["total","lines"] (dM K (K0 P w K mg base)):=by
 refine bY Fu gB (by rintro ds r ⟨ad,a,b,c,d,_,_,rfl,_⟩; rfl) (by rintro ds r ⟨ad,a,b,c,d,_,_,_,rfl⟩; exact ⟨_,rfl⟩) λk hq ds sl hF=>?_
 obtain ⟨fg,a,b,c,d,hg,hh,rfl,ee⟩:=hF
 injection ee with ee
 subst ee
 show aH k _ [.va (.adr fg),.va (.lst [.tup [af a,af b],.tup [af c,af d]]),.un,.un,.un,.un] _ _
 conv in (au _)=>whnf
 refine aB (Cw ?_)
 refine E5 (T':=λz=>z=true) ?_ ?_
 ·walk_at "ev"
  rfl
 ·rintro z rfl
  refine EG ?_
  walk_at "evSs"
  refine bK (fP hg (by decide) (by walk_at "at") (by walk_at "at") ?_)
  walk_at "ev"
  exact aj (bC hh) rfl
end
structure o7 (X Y Z:List (List aD)) (p q r:Nat):Prop where
 a:ah (BD Y Z q r)
 b:ah (BD Y Z p r)
 c:ah (BD Y Z p q)
 d:ah (fW X Y Z p q r)
noncomputable def col (X:List (List aD)) (p q r:Nat):List (List aD):=[X.getD p [],X.getD q [],X.getD r []]
noncomputable def K1 (P:Program) (w:World) (K:M0) (mg:Str->Option Value) (base:Heap):Fn:=λds r=>∃ (ad:Addr) (X Y Z:List (List aD)) (p q s:Nat),oH P w K mg base 4 ad iC/\o7 X Y Z p q s/\ds=[.adr ad,.lst [dX (col X p q s),dX (col Y p q s),dX (col Z p q s)]]/\r=.ok (.ow (BB (fW X Y Z p q s)))
theorem L7 {ad:Addr} {X Y Z:List (List aD)} {p q s:Nat} (hf:oH P w K mg base 4 ad iC) (hh:o7 X Y Z p q s):K1 P w K mg base [.adr ad,.lst [dX (col X p q s),dX (col Y p q s),dX (col Z p q s)]] (.ok (.ow (BB (fW X Y Z p q s)))):=⟨ad,X,Y,Z,p,q,s,hf,hh,rfl,rfl⟩
section
local macro_rules | `(tactic| walk_at "evIx")=> `(tactic| first | ((with_reducible show aI _ (Ow _ (QA _ _ _) _) _ _); with_reducible refine mJ ?_))
local macro_rules | `(tactic| walk_at "evCa")=> `(tactic| first
 | with_reducible refine bz (F:=K0 P w K mg base) (by assumption) (by decide) ?_
 | with_reducible refine bz (F:=o6) (by assumption) (by decide) ?_)
theorem Ku {ff:Addr} {fd:FuncData} (Fu:dQ K "determinant" "determinant" (top 16) ff fd) (T:Txt K mg) (h1:c7 P w K mg base 1 "without_place" o6) (h2:c7 P w K mg base 5 "determinant" (K0 P w K mg base)):aZ P w K mg base (c9 P w) 6 ff fd ["total","lines"] (dM K (K1 P w K mg base)):=by
 refine bY Fu gB (by rintro ds r ⟨ad,X,Y,Z,p,q,s,_,_,rfl,_⟩; rfl) (by rintro ds r ⟨ad,X,Y,Z,p,q,s,_,_,_,rfl⟩; exact ⟨_,rfl⟩) λc hq ds sl hF=>?_
 obtain ⟨fg,X,Y,Z,p,q,s,hg,hh,rfl,ee⟩:=hF
 injection ee with ee
 subst ee
 show aH c _ [.va (.adr fg),.va (.lst [dX (col X p q s),dX (col Y p q s),dX (col Z p q s)]),.un,.un,.un,.un] _ _
 conv in (au _)=>whnf
 refine aB (Cw ?_)
 refine E5 (T':=λz=>z=false) ?_ ?_
 ·walk_at "ev"
  rfl
 rintro z rfl
 refine uA ?_
 refine yQ ?_
 refine aB ?_
 generalize hG:(λρ'=>aH c _ ρ' _ _)=G
 walk_at "ev"
 subst hG
 refine aB ?_
 generalize hG:(λρ'=>aH c _ ρ' _ _)=G
 walk_at "ev"
 subst hG
 refine aB ?_
 with_reducible refine d7 hq (Aq (Txt.enum T) ?_)
 walk_at "ev"
 refine ⟨[af (X.getD p []),af (X.getD q []),af (X.getD s [])],rfl,?_⟩
 refine ⟨λi ρ'=>∃ s4 s5:Sl,s4.LH=false/\s5.LH=false/\ρ'=[.va (.adr fg),.va (.lst [dX (col X p q s),dX (col Y p q s),dX (col Z p q s)]),.ow (((fW X Y Z p q s).take i).map fF),.va (.int (if i % 2=0 then 1 else -1)),s4,s5],⟨_,_,rfl,rfl,rfl⟩,?_,?_⟩
 ·rintro c' rS BW BX i dd ρ' hd ⟨s4,s5,h4,h5,rfl⟩
  have wk:∀ n:Nat,o6 [.lst [dX (col Y p q s),dX (col Z p q s)],.int (n:Int)] (.ok (.ow ([col Y p q s,col Z p q s].map λL=>dX (jD n L)))):=λn=>Fb (Ls:=[col Y p q s,col Z p q s]) n (by show (2:Nat)<=10; decide) (by intro L hL; simp only [Nm,OR,or_false] at hL; rcases hL with rfl | rfl <;> (show (3:Nat)<=10; decide))
  match i,hd with
  | 0,hd =>
   cases hd
   refine uC rfl (by walk_at "u") ?_
   walk_at "ev"
   refine aj (wk 0) ?_
   walk_at "ev"
   refine aj (HV (a:=Y.getD q []) (b:=Y.getD s []) (c:=Z.getD q []) (d:=Z.getD s []) hg hh.a) ?_
   walk_at "ev"
   ·exact iJ (Pg rfl)
   exact ⟨_,_,rfl,rfl,rfl⟩
  | 1,hd =>
   cases hd
   refine uC rfl (by walk_at "u") ?_
   walk_at "ev"
   refine aj (wk 1) ?_
   walk_at "ev"
   refine aj (HV (a:=Y.getD p []) (b:=Y.getD s []) (c:=Z.getD p []) (d:=Z.getD s []) hg hh.b) ?_
   walk_at "ev"
   ·exact iJ (Pg rfl)
   exact ⟨_,_,rfl,rfl,rfl⟩
  | 2,hd =>
   cases hd
   refine uC rfl (by walk_at "u") ?_
   walk_at "ev"
   refine aj (wk 2) ?_
   walk_at "ev"
   refine aj (HV (a:=Y.getD p []) (b:=Y.getD q []) (c:=Z.getD p []) (d:=Z.getD q []) hg hh.c) ?_
   walk_at "ev"
   ·exact iJ (Pg rfl)
   exact ⟨_,_,rfl,rfl,rfl⟩
 ·rintro ρ' ⟨s4,s5,h4,h5,rfl⟩
  refine d8 2 (d0:=.lst ((fW X Y Z p q s).map fF)) (by walk_at "at") rfl (by walk_at "sset") ?_
  walk_at "evSs"
  refine bK (fP hg (by decide) (by walk_at "at") (by walk_at "at") ?_)
  walk_at "ev"
  exact aj (bC hh.d) rfl
end
theorem HW {X:List (List aD)} (h:X.length=4):jD 0 X=col X 1 2 3/\jD 1 X=col X 0 2 3/\jD 2 X=col X 0 1 3/\jD 3 X=col X 0 1 2:=by
 match X,h with
 | [a,b,c,d],_=>exact ⟨rfl,rfl,rfl,rfl⟩
theorem vW {X Y Z:List (List aD)} {n p q s:Nat} (hX:X.length=4) (hY:Y.length=4) (hZ:Z.length=4) (cX:jD n X=col X p q s) (cY:jD n Y=col Y p q s) (cZ:jD n Z=col Z p q s):o6 [.lst [dX X,dX Y,dX Z],.int (n:Int)] (.ok (.ow [dX (col X p q s),dX (col Y p q s),dX (col Z p q s)])):=by
 have h:=Fb (Ls:=[X,Y,Z]) n (by show (3:Nat)<=10; decide) (by intro L hL; simp only [Nm,OR,or_false] at hL; rcases hL with rfl | rfl | rfl <;> omega)
 rw [M7,M7,M7,OW,M7,M7,M7,OW,cX,cY,cZ] at h
 exact h
noncomputable def BU (X Y Z:List (List aD)):List (List Part):=[fW X Y Z 1 2 3,[(-1,[tt (fW X Y Z 0 2 3)])],fW X Y Z 0 1 3,[(-1,[tt (fW X Y Z 0 1 2)])]]
structure L8 (X Y Z:List (List aD)):Prop where
 a:o7 X Y Z 1 2 3
 b:o7 X Y Z 0 2 3
 c:o7 X Y Z 0 1 3
 d:o7 X Y Z 0 1 2
 e:ah [(-1,[tt (fW X Y Z 0 2 3)])]
 f:ah [(-1,[tt (fW X Y Z 0 1 2)])]
noncomputable def bg (s:T3):List (List aD):=[tt [(1,[s.1,s.1]),(1,[s.2.1,s.2.1])],tt [(1,[s.1,s.2.2])],tt [(1,[s.2.1,s.2.2])],tt [(1,[s.2.2,s.2.2])]]
noncomputable def A3 (a:T3×T3×T3):List D:=[D3 a.1,D3 a.2.1,D3 a.2.2]
structure HX (u:T3×T3×T3):Prop where
 hs:∀ ps∈lE u.1,ah ps
 ht:∀ ps∈lE u.2.1,ah ps
 hu:∀ ps∈lE u.2.2,ah ps
 hq:L8 (bg u.1) (bg u.2.1) (bg u.2.2)
noncomputable abbrev Ma:=Fr A3 HX (λu=>dW (BU (bg u.1) (bg u.2.1) (bg u.2.2)))
section
local macro_rules | `(tactic| walk_at "evCa")=> `(tactic| first
 | with_reducible refine bz (F:=o6) (by assumption) (by decide) ?_
 | with_reducible refine bz (F:=HP P w K mg base) (by assumption) (by decide) ?_
 | with_reducible refine bz (F:=K1 P w K mg base) (by assumption) (by decide) ?_)
local macro_rules | `(tactic| walk_at "evIx")=> `(tactic| first | ((with_reducible show aI _ (Ow _ (QA _ _ _) _) _ _); with_reducible refine mJ ?_))
theorem Kv {ff:Addr} {fd:FuncData} (Fu:dQ K "three_rule" "three_rule" (top 20) ff fd) (T:Txt K mg) (h1:c7 P w K mg base 5 "round_row" (HP P w K mg base)) (h2:c7 P w K mg base 1 "without_place" o6) (h3:c7 P w K mg base 6 "determinant" (K1 P w K mg base)):aZ P w K mg base (c9 P w) 7 ff fd ["total","i","j","k"] (dM K (Ma P w K mg base)):=by
 refine bY Fu lW (eO λ_=>rfl) gE λc hq ds sl hF=>?_
 obtain ⟨fg,⟨s,t,u⟩,hg,hh,rfl,ee⟩:=hF
 injection ee with ee
 subst ee
 show aH c _ [.va (.adr fg),.va (D3 s),.va (D3 t),.va (D3 u),.un,.un] _ _
 conv in (au _)=>whnf
 refine aB (Hi (by walk_at "at") (dw hq (N':=["point","total"]) (ρ0:=λ_=>[.un,.va (.adr fg)]) (λt=>.un (.fr (by walk_at "at") (by walk_at "at") (by decide) rfl .nil)) (cE ?_)))
 generalize hG:(λρ'=>aH c _ ρ' _ _)=G
 walk_at "ev"
 refine ⟨[some (dX (bg s)),some (dX (bg t)),some (dX (bg u))],rfl,?_,?_⟩
 ·intro c3 hc3 t' j d o hd ho
  obtain ⟨v,hv,rfl,rfl⟩:∃ v:T3,(∀ ps∈lE v,ah ps)/\d=D3 v/\o=some (dX (bg v)):=by
   match j,hd,ho with
   | 0,hd,ho=>cases hd; cases ho; exact ⟨_,hh.hs,rfl,rfl⟩
   | 1,hd,ho=>cases hd; cases ho; exact ⟨_,hh.ht,rfl,rfl⟩
   | 2,hd,ho=>cases hd; cases ho; exact ⟨_,hh.hu,rfl,rfl⟩
  refine cC (by walk_at "at") (nQ (by walk_at "sset") ⟨.un (.same .nil),?_⟩)
  simp only [jj]
  refine ⟨λ_=>?_,λh=>by cases h⟩
  walk_at "ev"
  refine aj (xW (a:=v) hg hv) (gh ?_)
  rfl
 refine nQ (by walk_at "sset") ?_
 subst hG
 refine d8 4 (d0:=.lst [dX (bg s),dX (bg t),dX (bg u)]) (by walk_at "at") rfl (by walk_at "sset") ?_
 have hX:(bg s).length=4:=rfl
 have hY:(bg t).length=4:=rfl
 have hZ:(bg u).length=4:=rfl
 have hk:L8 (bg s) (bg t) (bg u):=hh.hq
 show aH c _ _ _ { rt:=λr=>r=dW (BU (bg s) (bg t) (bg u)) }
 clear hh
 generalize bg s=X at *
 generalize bg t=Y at *
 generalize bg u=Z at *
 have cX:=HW hX
 have cY:=HW hY
 have cZ:=HW hZ
 refine aB (GC (by walk_at "at") hq (N':=["place","total","rows"]) (ρ0:=λ_=>[.un,.va (.adr fg),.va (.lst [dX X,dX Y,dX Z])]) (λt=>.un (.fr (by walk_at "at") (by walk_at "at") (by decide) rfl (.fr (by walk_at "at") (by walk_at "at") (by decide) rfl .nil))) (gc (Txt.range T) ?_))
 generalize hG:(λρ'=>aH c _ ρ' _ _)=G
 walk_at "ev"
 ·exact ⟨by decide,by decide⟩
 refine ⟨[some (af (tt (fW X Y Z 1 2 3))),some (af (tt (fW X Y Z 0 2 3))),some (af (tt (fW X Y Z 0 1 3))),some (af (tt (fW X Y Z 0 1 2)))],rfl,?_,?_⟩
 ·intro c3 hc3 t' j d o hd ho
  obtain ⟨p,q,r,hw,hk,rfl,rfl⟩:∃ p q r:Nat,o6 [.lst [dX X,dX Y,dX Z],.int (j:Int)] (.ok (.ow [dX (col X p q r),dX (col Y p q r),dX (col Z p q r)]))/\o7 X Y Z p q r/\d=.int (j:Int)/\o=some (af (tt (fW X Y Z p q r))):=by
   match j,hd,ho with
   | 0,hd,ho=>cases hd; cases ho; exact ⟨_,_,_,vW hX hY hZ cX.1 cY.1 cZ.1,hk.a,rfl,rfl⟩
   | 1,hd,ho=>cases hd; cases ho; exact ⟨_,_,_,vW hX hY hZ cX.2.1 cY.2.1 cZ.2.1,hk.b,rfl,rfl⟩
   | 2,hd,ho=>cases hd; cases ho; exact ⟨_,_,_,vW hX hY hZ cX.2.2.1 cY.2.2.1 cZ.2.2.1,hk.c,rfl,rfl⟩
   | 3,hd,ho=>cases hd; cases ho; exact ⟨_,_,_,vW hX hY hZ cX.2.2.2 cY.2.2.2 cZ.2.2.2,hk.d,rfl,rfl⟩
  refine cC (by walk_at "at") (nQ (by walk_at "sset") ⟨.un (.same (.same .nil)),?_⟩)
  simp only [jj]
  refine ⟨λ_=>?_,λh=>by cases h⟩
  walk_at "ev"
  refine aj hw ?_
  walk_at "ev"
  refine aj (L7 hg hk) (aG ?_)
  rfl
 refine nQ (by walk_at "sset") ?_
 subst hG
 refine d8 5 (d0:=.lst [af (tt (fW X Y Z 1 2 3)),af (tt (fW X Y Z 0 2 3)),af (tt (fW X Y Z 0 1 3)),af (tt (fW X Y Z 0 1 2))]) (by walk_at "at") rfl (by walk_at "sset") ?_
 walk_at "evSs"
 refine bK (uw (f9 ?_))
 refine bQ (mJ ?_)
 walk_at "ev"
 refine e_x (fP hg (by decide) (by walk_at "at") (by walk_at "at") ?_)
 walk_at "ev"
 refine aj (bC hk.e) (aG ?_)
 walk_at "ev"
 refine e_x (fP hg (by decide) (by walk_at "at") (by walk_at "at") ?_)
 walk_at "ev"
 refine aj (bC hk.f) (aG ?_)
 walk_at "ev"
 rfl
end
noncomputable abbrev El:=Fw (A2 D3 D3) (λu=>∀ ps∈rQ u,ah ps) (λu=>dW (rQ u))
theorem HY {ff:Addr} {fd:FuncData} (Fu:dQ K "round_circle" "round_circle" (top 26) ff fd) (h1:c7 P w K mg base 4 "poly_total" iC) (h2:c7 P w K mg base 5 "round_rule" (LY P w K mg base)):aZ P w K mg base (c9 P w) 6 ff fd ["c","i"] (dM K El):=by
 refine bY Fu jS (fT λ_=>rfl) ja λc hq ds sl hF=>?_
 obtain ⟨u,hh,rfl,ee⟩:=hF
 injection ee with ee
 subst ee
 obtain ⟨fg,hm,hg⟩:=h1.at_
 show aH c _ [.va (D3 u.1),.va (D3 u.2)] _ _
 conv in (au _)=>whnf
 walk_at "evSs"
 refine bK (x_call (F:=LY P w K mg base) h2 (by decide) ?_)
 refine bQ (iy hm ?_)
 walk_at "ev"
 exact aj (xW (a:=u) hg hh) rfl
noncomputable abbrev Em:=Fw (A1 D4) (λu=>∀ ps∈o5 u,ah ps) (λu=>dW (o5 u))
theorem HZ {ff:Addr} {fd:FuncData} (Fu:dQ K "centre_point" "centre_point" (top 28) ff fd) (h1:c7 P w K mg base 4 "poly_total" iC) (h2:c7 P w K mg base 5 "centre_rule" (LZ P w K mg base)):aZ P w K mg base (c9 P w) 6 ff fd ["o"] (dM K Em):=by
 refine bY Fu jU (fT λ_=>rfl) ja λc hq ds sl hF=>?_
 obtain ⟨u,hh,rfl,ee⟩:=hF
 injection ee with ee
 subst ee
 obtain ⟨fg,hm,hg⟩:=h1.at_
 show aH c _ [.va (D4 u)] _ _
 conv in (au _)=>whnf
 walk_at "evSs"
 refine bK (x_call (F:=LZ P w K mg base) h2 (by decide) ?_)
 refine bQ (iy hm ?_)
 walk_at "ev"
 exact aj (xW (a:=u) hg hh) rfl
noncomputable abbrev En:=Fw (A2 D4 D3) (λu=>∀ ps∈l5 u,ah ps) (λu=>dW (l5 u))
theorem Ia {ff:Addr} {fd:FuncData} (Fu:dQ K "polar_line" "polar_line" (top 29) ff fd) (h1:c7 P w K mg base 4 "poly_total" iC) (h2:c7 P w K mg base 5 "polar_rule" (L0 P w K mg base)):aZ P w K mg base (c9 P w) 6 ff fd ["o","i"] (dM K En):=by
 refine bY Fu lY (fT λ_=>rfl) ja λc hq ds sl hF=>?_
 obtain ⟨u,hh,rfl,ee⟩:=hF
 injection ee with ee
 subst ee
 obtain ⟨fg,hm,hg⟩:=h1.at_
 show aH c _ [.va (D4 u.1),.va (D3 u.2)] _ _
 conv in (au _)=>whnf
 walk_at "evSs"
 refine bK (x_call (F:=L0 P w K mg base) h2 (by decide) ?_)
 refine bQ (iy hm ?_)
 walk_at "ev"
 exact aj (xW (a:=u) hg hh) rfl
noncomputable abbrev Eo:=Fw (A2 D4 D4) (λu=>∀ ps∈rR u,ah ps) (λu=>dW (rR u))
theorem Ib {ff:Addr} {fd:FuncData} (Fu:dQ K "axis_line" "axis_line" (top 30) ff fd) (h1:c7 P w K mg base 4 "poly_total" iC) (h2:c7 P w K mg base 5 "axis_rule" (L1 P w K mg base)):aZ P w K mg base (c9 P w) 6 ff fd ["o","p"] (dM K Eo):=by
 refine bY Fu oR (fT λ_=>rfl) ja λc hq ds sl hF=>?_
 obtain ⟨u,hh,rfl,ee⟩:=hF
 injection ee with ee
 subst ee
 obtain ⟨fg,hm,hg⟩:=h1.at_
 show aH c _ [.va (D4 u.1),.va (D4 u.2)] _ _
 conv in (au _)=>whnf
 walk_at "evSs"
 refine bK (x_call (F:=L1 P w K mg base) h2 (by decide) ?_)
 refine bQ (iy hm ?_)
 walk_at "ev"
 exact aj (xW (a:=u) hg hh) rfl
noncomputable abbrev Ep:=Fw (A2 D4 D3) (λu=>ah (eX u.2)/\ah (tU u)/\∀ ps∈BR u,ah ps) (λu=>dW (BR u))
theorem Ic {ff:Addr} {fd:FuncData} (Fu:dQ K "mirrored_circle" "mirrored_circle" (top 31) ff fd) (h1:c7 P w K mg base 4 "poly_total" iC) (h2:c7 P w K mg base 6 "mirroredround_rule" (L4 P w K mg base)):aZ P w K mg base (c9 P w) 7 ff fd ["o","l"] (dM K Ep):=by
 refine bY Fu iA (fT λ_=>rfl) ja λc hq ds sl hF=>?_
 obtain ⟨u,hh,rfl,ee⟩:=hF
 injection ee with ee
 subst ee
 obtain ⟨fg,hm,hg⟩:=h1.at_
 show aH c _ [.va (D4 u.1),.va (D3 u.2)] _ _
 conv in (au _)=>whnf
 walk_at "evSs"
 refine bK (x_call (F:=L4 P w K mg base) h2 (by decide) ?_)
 refine bQ (iy hm ?_)
 walk_at "ev"
 exact aj (xW (a:=u) hg hh) rfl
noncomputable abbrev Er:=Fw (A2 D3 D3) (λu=>ah (eX u.2)/\(∀ ps∈x9 u,ah ps)/\∀ ps∈BS u,ah ps) (λu=>dW (BS u))
theorem Ie {ff:Addr} {fd:FuncData} (Fu:dQ K "mirrored_point" "mirrored_point" (top 35) ff fd) (h1:c7 P w K mg base 4 "poly_total" iC) (h2:c7 P w K mg base 7 "mirrored_rule" (L6 P w K mg base)):aZ P w K mg base (c9 P w) 8 ff fd ["i","l"] (dM K Er):=by
 refine bY Fu i7 (fT λ_=>rfl) ja λc hq ds sl hF=>?_
 obtain ⟨u,hh,rfl,ee⟩:=hF
 injection ee with ee
 subst ee
 obtain ⟨fg,hm,hg⟩:=h1.at_
 show aH c _ [.va (D3 u.1),.va (D3 u.2)] _ _
 conv in (au _)=>whnf
 walk_at "evSs"
 refine bK (x_call (F:=L6 P w K mg base) h2 (by decide) ?_)
 refine bQ (iy hm ?_)
 walk_at "ev"
 exact aj (xW (a:=u) hg hh) rfl
noncomputable abbrev Es:=Fw A3 HX (λu=>dW (BU (bg u.1) (bg u.2.1) (bg u.2.2)))
theorem Ig {ff:Addr} {fd:FuncData} (Fu:dQ K "three_circle" "three_circle" (top 27) ff fd) (h1:c7 P w K mg base 4 "poly_total" iC) (h2:c7 P w K mg base 7 "three_rule" (Ma P w K mg base)):aZ P w K mg base (c9 P w) 8 ff fd ["i","j","k"] (dM K Es):=by
 refine bY Fu jT (fT λ_=>rfl) ja λc hq ds sl hF=>?_
 obtain ⟨u,hh,rfl,ee⟩:=hF
 injection ee with ee
 subst ee
 obtain ⟨fg,hm,hg⟩:=h1.at_
 show aH c _ [.va (D3 u.1),.va (D3 u.2.1),.va (D3 u.2.2)] _ _
 conv in (au _)=>whnf
 walk_at "evSs"
 refine bK (x_call (F:=Ma P w K mg base) h2 (by decide) ?_)
 refine bQ (iy hm ?_)
 walk_at "ev"
 exact aj (xW (a:=u) hg hh) rfl
end
section
variable {K:M0}
noncomputable def BE (ns:List Int) (a m:Nat):List (List aD):=(NP m).map λk=>(lD (o4 ns (a+k))).take 2
noncomputable def o8:Fn:=λds r=>∃ (ns:List Int) (a m:Nat),m<=100/\a<=1000/\ds=[.lst (ns.map .int),.int (a:Int),.int (m:Int)]/\r=.ok (.va (.tup ((BE ns a m).map af)))
theorem rM (ns:List Int) {a m:Nat} (h:m<=100) (ha:a<=1000):o8 [.lst (ns.map .int),.int (a:Int),.int (m:Int)] (.ok (.va (.tup ((BE ns a m).map af)))):=⟨ns,a,m,h,ha,rfl,rfl⟩
theorem Ih {f:Addr} {fd:FuncData} (Fu:dQ K "_law_short" "_law_short" (top 45) f fd) (T:Txt K mg) (h1:c7 P w K mg base 2 "_law_digits" Ef) (h2:c7 P w K mg base 2 "_law_some" vV):aZ P w K mg base (c9 P w) 3 f fd ["_law_script","_law_at","_law_many"] (dM K o8):=by
 refine bY Fu tK (by rintro ds r ⟨ns,a,m,_,_,rfl,_⟩; rfl) (by rintro ds r ⟨ns,a,m,_,_,_,rfl⟩; exact ⟨_,rfl⟩) λc hq ds sl hF=>?_
 obtain ⟨ns,a,m,hm,ha,rfl,e⟩:=hF
 injection e with e
 subst e
 show aH c _ [.va (.lst (ns.map .int)),.va (.int (a:Int)),.va (.int (m:Int))] _ _
 conv in (au _)=>whnf
 refine aB (bK (uw (nU (Txt.tuple T) (e_x (dw hq (N':=["_law_k","_law_script","_law_at"]) (ρ0:=λ_=>[.un,.va (.lst (ns.map .int)),.va (.int (a:Int))]) (λt=>.un (.fr (by walk_at "at") (by walk_at "at") (by decide) rfl (.fr (by walk_at "at") (by walk_at "at") (by decide) rfl .nil))) (gc (Txt.range T) ?_))))))
 walk_at "ev"
 ·exact ⟨by omega,by omega⟩
 ·rw [i9]; exact tL (by omega)
 rw [N6]
 refine ⟨(BE ns a m).map λA=>some (af A),by simp [i9,BE],?_,?_⟩
 ·intro c3 hc3 t k d o hd ho
  obtain ⟨hk,rfl⟩:=nZ hd
  unfold BE at ho
  rw [Nd,Nd,P1 hk] at ho
  cases ho
  refine cC (by walk_at "at") (nQ (by walk_at "sset") ⟨.un (.same (.same .nil)),?_⟩)
  simp only [jj]
  refine ⟨λ_=>?_,λh=>by cases h⟩
  refine p8 (bz (F:=vV) h2 (by decide) (bQ (bz (F:=Ef) h1 (by decide) ?_)))
  walk_at "ev"
  rw [show (a:Int)+(k:Int)=((a+k:Nat):Int) by omega]
  refine aj (Kd ns (a+k)) (gh ?_)
  walk_at "ev"
  refine aj (HM _) (aG ?_)
  walk_at "ev"
  show some (D.lst (((lD (o4 ns (a+k))).take 2).map aS))=some (D.lst _)
  rw [show EV.cutD ((lD (o4 ns (a+k))).map aS) none (some 2)=_ from lF _ 2,RB]
 ·rw [cR af]
  walk_at "ev"
  rfl
noncomputable def c8 (u:T4×T3):List Part:=[(1,[u.1.1,u.2.1,u.2.1]),(1,[u.1.1,u.2.2.1,u.2.2.1]),(1,[u.1.2.1,u.2.1,u.2.2.2]),(1,[u.1.2.2.1,u.2.2.1,u.2.2.2]),(1,[u.1.2.2.2,u.2.2.2,u.2.2.2])]
noncomputable abbrev K2:=Fw (A2 D4 D3) (λu=>ah (c8 u)) (λu=>Ei (c8 u))
section
local macro_rules | `(tactic| walk_at "evXC")=> `(tactic| first | with_reducible refine x_call (x:=MY "_law_sum") (F:=rL) (by assumption) (by decide) ?_)
theorem Kw {ff:Addr} {fd:FuncData} (Fu:dQ K "_law_circle_at" "_law_circle_at" (top 46) ff fd) (h1:c7 P w K mg base 3 "_law_sum" rL):aZ P w K mg base (c9 P w) 4 ff fd ["_law_o","_law_i"] (dM K K2):=by
 refine bY Fu lz (fT λ_=>rfl) ja λk hq ds sl hF=>?_
 obtain ⟨⟨⟨a,b,c,d⟩,⟨x,y,z⟩⟩,hh,rfl,ee⟩:=hF
 injection ee with ee
 subst ee
 show aH k _ [.va (.tup [af a,af b,af c,af d]),.va (.tup [af x,af y,af z]),.un,.un,.un,.un] _ _
 conv in (au _)=>whnf
 refine aB ?_
 generalize hG:(λρ'=>aH k _ ρ' _ _)=G
 walk_at "ev"
 subst hG
 refine aB ?_
 generalize hG:(λρ'=>aH k _ ρ' _ _)=G
 walk_at "ev"
 subst hG
 refine d8 5 (d0:=.lst ([(1,[a,x,x]),(1,[a,y,y]),(1,[b,x,z])].map gX)) (by walk_at "at") rfl (by walk_at "sset") ?_
 walk_at "ev"
 exact aj (nk (ps:=c8 ((a,b,c,d),(x,y,z))) hh) rfl
end
noncomputable def jE (u:T3×T3):List Part:=[(1,[u.1.1,u.2.1]),(1,[u.1.2.1,u.2.2.1]),(1,[u.1.2.2,u.2.2.2])]
noncomputable abbrev K3:=Fw (A2 D3 D3) (λu=>ah (jE u)) (λu=>Ei (jE u))
theorem Kx {ff:Addr} {fd:FuncData} (Fu:dQ K "_law_line_at" "_law_line_at" (top 47) ff fd) (T:Txt K mg) (h1:c7 P w K mg base 3 "_law_sum" rL):aZ P w K mg base (c9 P w) 4 ff fd ["_law_l","_law_i"] (dM K K3):=by
 refine bY Fu oW (fT λ_=>rfl) ja λk hq ds sl hF=>?_
 obtain ⟨⟨⟨a,b,c⟩,⟨x,y,z⟩⟩,hh,rfl,ee⟩:=hF
 injection ee with ee
 subst ee
 show aH k _ [.va (.tup [af a,af b,af c]),.va (.tup [af x,af y,af z])] _ _
 conv in (au _)=>whnf
 walk_at "evSs"
 refine bK (x_call (F:=rL) h1 (by decide) (bQ (e_x (dw hq (N':=["_law_k","_law_l","_law_i"]) (ρ0:=λ_=>[.un,.va (.tup [af a,af b,af c]),.va (.tup [af x,af y,af z])]) (λt=>.un (.fr (by walk_at "at") (by walk_at "at") (by decide) rfl (.fr (by walk_at "at") (by walk_at "at") (by decide) rfl .nil))) (gc (Txt.range T) ?_)))))
 walk_at "ev"
 ·exact ⟨by decide,by decide⟩
 refine ⟨[some (gX (1,[a,x])),some (gX (1,[b,y])),some (gX (1,[c,z]))],rfl,?_,aG ?_⟩
 ·intro c3 hc3 t j d o hd ho
  match j,hd,ho with
  | 0,hd,ho =>
   cases hd; cases ho
   refine cC (by walk_at "at") (nQ (by walk_at "sset") ⟨.un (.same (.same .nil)),?_⟩)
   simp only [jj]
   refine ⟨λ_=>?_,λh=>by cases h⟩
   walk_at "ev"
   rfl
  | 1,hd,ho =>
   cases hd; cases ho
   refine cC (by walk_at "at") (nQ (by walk_at "sset") ⟨.un (.same (.same .nil)),?_⟩)
   simp only [jj]
   refine ⟨λ_=>?_,λh=>by cases h⟩
   walk_at "ev"
   rfl
  | 2,hd,ho =>
   cases hd; cases ho
   refine cC (by walk_at "at") (nQ (by walk_at "sset") ⟨.un (.same (.same .nil)),?_⟩)
   simp only [jj]
   refine ⟨λ_=>?_,λh=>by cases h⟩
   walk_at "ev"
   rfl
 ·walk_at "ev"
  exact aj (nk hh) rfl
end
section
variable {P:Program} {w:World} {K:M0} {mg:Str->Option Value} {base:Heap}
structure Lm (l:Nat) (e:Int) (b:Nat) (A:List aD):Prop where
 l:A.length<=l
 e:Ex e A
 b:Bn b A
theorem Lm.lZ (h:Lm la ea ba A) (hl:la<2 ^ 20:=by decide):Lm la ea (ba+20) (bL A):=⟨Nb (k7 _) h.l,h.e.lZ,h.b.lZ (OP h.l hl)⟩
theorem Lm.mono (h:Lm la ea ba A) (h1:la<=lb:=by decide) (h2:ea<=eb:=by decide) (h3:ba<=bb:=by decide):Lm lb eb bb A:=⟨Nb h.l h1,h.e.mono h2,h.b.mono h3⟩
theorem Lm.app (h:Lm la ea ba A) (g:Lm lb ea ba B):Lm (la+lb) ea ba (A++B):=⟨by rw [NJ]; exact Nat.add_le_add h.l g.l,h.e.app g.e,λt ht=>(NF.mp ht).elim (h.b t) (g.b t)⟩
theorem Lm.prod (h:Lm la ea ba A) (g:Lm lb eb bb B) (h0:0<=ea:=by decide) (g0:0<=eb:=by decide):Lm (la * lb) (ea+eb) (ba+bb) (aM A B):=⟨by rw [cQ]; exact O5 h.l g.l,h.e.prod h0 g0 g.e,h.b.prod g.b⟩
theorem Lm.K4 (h:Lm la ea ba A) (h1:la<=400000:=by decide) (h2:ea<=120:=by decide) (h3:ba<=2000:=by decide):cB A:=⟨Nb h.l h1,h.e.mono h2,h.b.mono h3⟩
theorem Lm.nil:Lm la ea ba []:=⟨ND _,(λt ht=>by cases ht),λt ht=>by cases ht⟩
theorem Lm.con (hn:n.natAbs<2 ^ ba):Lm 1 0 ba (cT n):=⟨M4 _,(λt ht=>by cases Nj.mp ht; exact ⟨ND _,λx hx=>by cases hx⟩),λt ht=>by cases Nj.mp ht; exact hn⟩
theorem MG (h:A.length<=l) (h1:1<=l):bH [A]<=l:=by
 show max A.length 1 * 1<=l; omega
theorem MH (h:A.length<=l) (h1:1<=l) (g:B.length<=m) (g1:1<=m):bH [A,B]<=l * m:=O5 (show max A.length 1<=l by omega) (MG g g1)
theorem MI (h:A.length<=l) (h1:1<=l) (g:B.length<=m) (g1:1<=m) (f:C.length<=n) (f1:1<=n):bH [A,B,C]<=l * (m * n):=O5 (show max A.length 1<=l by omega) (MH g g1 f f1)
theorem Ii {ps:List Part} (h:∀ p∈ps,p.1.natAbs<1000/\p.2.length<=8/\∀ A∈p.2,cB A) (hl:ps.length<=1000) (hs:(ps.map λp=>bH p.2).sum<=400000):ah ps :=
 ⟨λp hp=>⟨NU (h p hp).1 (Nb (by decide:1000<=2 ^ 10) (Sa (by decide) (by decide))),(h p hp).2.1,(h p hp).2.2⟩,hl,hs⟩
structure Vt (A:List aD):Prop where
 s:MF A
 c:bL A=A
theorem cS (p:Part) (ps):mp (cy (p::ps))=(p.1:MP) * oY p.2+mp (cy ps):=by
 unfold cy
 rw [P7,jx,fS]
theorem cJ:mp (cy [])=0:=by
 have h:mp ([]:List aD)=mp []+mp []:=jx [] []
 show mp ([]:List aD)=0
 grind
theorem cU (A) (As):oY (A::As)=mp A * oY As:=rfl
theorem cV:oY []=1:=rfl
abbrev Dm (l:Nat) (e:Int) (b:Nat):Prop:=1<=l/\l<=400000/\0<=e/\e<=120/\b<=2000
structure PB (l:Nat) (e:Int) (b:Nat) (p:Part):Prop where
 n:p.1.natAbs<1000
 c:p.2.length<=8
 f:∀ A∈p.2,cB A
 k:bH p.2<=l
 m:Lm l e b (fR p.1 p.2)
section
variable {n:Int}
theorem Lm.fa (h:Lm la ea ba A) (d:Dm la ea ba):cB A:=h.K4 d.2.1 d.2.2.2.1 d.2.2.2.2
theorem K5 (h:n.natAbs<1000):n.natAbs<2 ^ 20:=NU h (by decide)
theorem Mb (hn:n.natAbs<1000) (hA:Lm la ea ba A) (dA:Dm la ea ba:=by decide):PB (1 * la) (0+ea) (20+ba) (n,[A]) :=
 ⟨hn,by show (1:Nat)<=8; decide,by simp [hA.fa dA],by have:=MG hA.l dA.1; show bH [A]<=1 * la; lia,(Lm.con (ba:=20) (K5 hn)).prod hA (by decide) dA.2.2.1⟩
theorem nq (hn:n.natAbs<1000) (hA:Lm la ea ba A) (hB:Lm lb eb bb B) (dA:Dm la ea ba:=by decide) (dB:Dm lb eb bb:=by decide):PB (1 * la * lb) (0+ea+eb) (20+ba+bb) (n,[A,B]) :=
 ⟨hn,by show (2:Nat)<=8; decide,by simp [hA.fa dA,hB.fa dB],by rw [Nat.one_mul]; exact MH hA.l dA.1 hB.l dB.1,((Lm.con (ba:=20) (K5 hn)).prod hA (by decide) dA.2.2.1).prod hB (by have:=dA.2.2.1; lia) dB.2.2.1⟩
theorem Mc (hn:n.natAbs<1000) (hA:Lm la ea ba A) (hB:Lm lb eb bb B) (hC:Lm lc ec bc C) (dA:Dm la ea ba:=by decide) (dB:Dm lb eb bb:=by decide) (dC:Dm lc ec bc:=by decide):PB (1 * la * lb * lc) (0+ea+eb+ec) (20+ba+bb+bc) (n,[A,B,C]) :=
 ⟨hn,by show (3:Nat)<=8; decide,by simp [hA.fa dA,hB.fa dB,hC.fa dC],by rw [Nat.one_mul,RA]; exact MI hA.l dA.1 hB.l dB.1 hC.l dC.1,(((Lm.con (ba:=20) (K5 hn)).prod hA (by decide) dA.2.2.1).prod hB (by have:=dA.2.2.1; lia) dB.2.2.1).prod hC (by have:=dA.2.2.1; have:=dB.2.2.1; lia) dC.2.2.1⟩
theorem PB.mono {p:Part} (h:PB la ea ba p) (h1:la<=lb:=by decide) (h2:ea<=eb:=by decide) (h3:ba<=bb:=by decide):PB lb eb bb p:=⟨h.n,h.c,h.f,Nb h.k h1,h.m.mono h1 h2 h3⟩
theorem tV {ps:List Part} (h:∀ p∈ps,PB la ea ba p) (hl:ps.length<=1000:=by decide) (hs:ps.length * la<=400000:=by decide):ah ps/\Lm (ps.length * la) ea (ba+20) (tt ps):=by
 have h1:∀ qs:List Part,(∀ p∈qs,p∈ps)->(qs.map λp=>bH p.2).sum<=qs.length * la/\Lm (qs.length * la) ea ba (cy qs):=λqs=>by
  induction qs with
  | nil=>exact λ_=>⟨ND _,Lm.nil⟩
  | cons q qs ih =>
   intro hq
   have i:=ih λp hp=>hq p (Ni _ hp)
   have g:=h q (hq q Ng)
   have e:(q::qs).length * la=la+qs.length * la:=by rw [NN,Qc,Nat.add_comm]
   rw [e]
   refine ⟨?_,?_⟩
   ·rw [M7,OU]; exact Nat.add_le_add g.k i.1
   ·unfold cy
    rw [P7]
    exact g.m.app i.2
 have h2:=h1 ps λ_ q=>q
 exact ⟨Ii (λp hp=>⟨(h p hp).n,(h p hp).c,(h p hp).f⟩) hl (Nb h2.1 hs),h2.2.lZ (by lia)⟩
end
end
section
variable {P:Program} {w:World} {K:M0} {mg:Str->Option Value} {base:Heap}
theorem aP {la:Nat} {ea:Int} {ba:Nat} {ps:List Part} (k:Nat) (h:∀ p∈ps,PB la ea ba p) (hk:(ps.length * la).ble k=true:=by rfl) (h1:ps.length.ble 1000=true:=by rfl) (h4:k<=400000:=by decide):ah ps/\Lm k ea (ba+20) (tt ps) :=
 have g:=tV h (Pg h1) (Nb (Pg hk) h4)
 ⟨g.1,g.2.mono (Pg hk) (Oe _) (M4 _)⟩
theorem eS {α:Type} {Q:α->Prop}:∀ q∈([]:List α),Q q:=λq h=>by cases h
theorem bD {α:Type} {Q:α->Prop} {p:α} {ps:List α} (h:Q p) (t:∀ q∈ps,Q q):∀ q∈p::ps,Q q:=List.forall_mem_cons.mpr ⟨h,t⟩
structure Q3 (l:Nat) (e:Int) (b:Nat) (s:T3):Prop where
 p:Lm l e b s.1
 q:Lm l e b s.2.1
 r:Lm l e b s.2.2
structure Q4 (l:Nat) (e:Int) (b:Nat) (s:T4):Prop where
 p:Lm l e b s.1
 q:Lm l e b s.2.1
 r:Lm l e b s.2.2.1
 t:Lm l e b s.2.2.2
noncomputable def jV (X:List (List Part)):T3:=(tt (X.getD 0 []),tt (X.getD 1 []),tt (X.getD 2 []))
noncomputable def rN (X:List (List Part)):T4:=(tt (X.getD 0 []),tt (X.getD 1 []),tt (X.getD 2 []),tt (X.getD 3 []))
section
variable {c i j k l:T3} {o p:T4}
theorem Fc (hc:Q3 2 2 100 c) (hi:Q3 2 2 100 i):(∀ ps∈rQ (c,i),ah ps)/\Q4 32 6 340 (rN (rQ (c,i))):=by
 have g:∀ {n:Int} {A B C:List aD},n.natAbs<1000->Lm 2 2 100 A->Lm 2 2 100 B->Lm 2 2 100 C->PB 8 6 320 (n,[A,B,C]):=λhn hA hB hC=>(Mc hn hA hB hC).mono
 have e1:=aP 32 (bD (g (n:=1) (by decide) hc.r hi.r hi.r) eS)
 have e2:=aP 32 (bD (g (n:= -2) (by decide) hc.p hi.r hi.r) eS)
 have e3:=aP 32 (bD (g (n:= -2) (by decide) hc.q hi.r hi.r) eS)
 have e4:=aP 32 (bD (g (n:=2) (by decide) hi.p hc.p hi.r) (bD (g (n:=2) (by decide) hi.q hc.q hi.r) (bD (g (n:= -1) (by decide) hi.p hi.p hc.r) (bD (g (n:= -1) (by decide) hi.q hi.q hc.r) eS))))
 exact ⟨bD e1.1 (bD e2.1 (bD e3.1 (bD e4.1 eS))),e1.2,e2.2,e3.2,e4.2⟩
theorem nv {m n:Nat} {eo ei:Int} {bo bi:Nat} (ho:Q4 m eo bo o) (hi:Q3 n ei bi i) (dm:Dm m eo bo:=by decide) (dn:Dm n ei bi:=by decide) (h:5 * (1 * m * n * n)<=400000:=by decide):ah (c8 (o,i))/\Lm (5 * (1 * m * n * n)) (0+eo+ei+ei) (20+bo+bi+bi+20) (tt (c8 (o,i))):=by
 have g:∀ {A B C:List aD},Lm m eo bo A->Lm n ei bi B->Lm n ei bi C->PB (1 * m * n * n) (0+eo+ei+ei) (20+bo+bi+bi) (1,[A,B,C]):=λhA hB hC=>Mc (by decide) hA hB hC dm dn dn
 exact tV (ps:=c8 (o,i)) (bD (g ho.p hi.p hi.p) (bD (g ho.p hi.q hi.q) (bD (g ho.q hi.p hi.r) (bD (g ho.r hi.q hi.r) (bD (g ho.t hi.r hi.r) eS))))) (by show (5:Nat)<=1000; decide) h
theorem BF {m n:Nat} {eo ei:Int} {bo bi:Nat} (ho:Q3 m eo bo l) (hi:Q3 n ei bi i) (dm:Dm m eo bo:=by decide) (dn:Dm n ei bi:=by decide) (h:3 * (1 * m * n)<=400000:=by decide):ah (jE (l,i))/\Lm (3 * (1 * m * n)) (0+eo+ei) (20+bo+bi+20) (tt (jE (l,i))):=by
 have g:∀ {A B:List aD},Lm m eo bo A->Lm n ei bi B->PB (1 * m * n) (0+eo+ei) (20+bo+bi) (1,[A,B]):=λhA hB=>nq (by decide) hA hB dm dn
 exact tV (ps:=jE (l,i)) (bD (g ho.p hi.p) (bD (g ho.q hi.q) (bD (g ho.r hi.r) eS))) (by show (3:Nat)<=1000; decide) h
theorem Ky (ho:Q4 2 2 100 o):(∀ ps∈o5 o,ah ps)/\Q3 2 2 140 (jV (o5 o)):=by
 have g:∀ {n:Int} {A:List aD},n.natAbs<1000->Lm 2 2 100 A->PB 2 2 120 (n,[A]):=λhn hA=>(Mb hn hA).mono
 have e1:=aP 2 (bD (g (n:= -1) (by decide) ho.q) eS)
 have e2:=aP 2 (bD (g (n:= -1) (by decide) ho.r) eS)
 have e3:=aP 2 (bD (g (n:=2) (by decide) ho.p) eS)
 exact ⟨bD e1.1 (bD e2.1 (bD e3.1 eS)),e1.2,e2.2,e3.2⟩
theorem BG (ho:Q4 2 2 100 o) (hi:Q3 2 2 140 i):(∀ ps∈l5 (o,i),ah ps)/\Q3 12 4 280 (jV (l5 (o,i))):=by
 have g:∀ {n:Int} {A B:List aD},n.natAbs<1000->Lm 2 2 100 A->Lm 2 2 140 B->PB 4 4 260 (n,[A,B]):=λhn hA hB=>(nq hn hA hB).mono
 have e1:=aP 12 (bD (g (n:=2) (by decide) ho.p hi.p) (bD (g (n:=1) (by decide) ho.q hi.r) eS))
 have e2:=aP 12 (bD (g (n:=2) (by decide) ho.p hi.q) (bD (g (n:=1) (by decide) ho.r hi.r) eS))
 have e3:=aP 12 (bD (g (n:=1) (by decide) ho.q hi.p) (bD (g (n:=1) (by decide) ho.r hi.q) (bD (g (n:=2) (by decide) ho.t hi.r) eS)))
 exact ⟨bD e1.1 (bD e2.1 (bD e3.1 eS)),e1.2,e2.2,e3.2⟩
theorem Kz (ho:Q4 2 2 100 o) (hp:Q4 32 6 340 p):(∀ ps∈rR (o,p),ah ps)/\Q3 128 8 480 (jV (rR (o,p))):=by
 have g:∀ {n:Int} {A B:List aD},n.natAbs<1000->Lm 2 2 100 A->Lm 32 6 340 B->PB 64 8 460 (n,[A,B]):=λhn hA hB=>(nq hn hA hB).mono
 have g':∀ {n:Int} {A B:List aD},n.natAbs<1000->Lm 2 2 100 A->Lm 32 6 340 B->PB 64 8 460 (n,[B,A]):=λhn hA hB=>(nq hn hB hA).mono
 have e1:=aP 128 (bD (g (n:=1) (by decide) ho.q hp.p) (bD (g' (n:= -1) (by decide) ho.p hp.q) eS))
 have e2:=aP 128 (bD (g (n:=1) (by decide) ho.r hp.p) (bD (g' (n:= -1) (by decide) ho.p hp.r) eS))
 have e3:=aP 128 (bD (g (n:=1) (by decide) ho.t hp.p) (bD (g' (n:= -1) (by decide) ho.p hp.t) eS))
 exact ⟨bD e1.1 (bD e2.1 (bD e3.1 eS)),e1.2,e2.2,e3.2⟩
theorem vX (hl:Q3 2 2 100 l):ah (eX l)/\Lm 8 4 240 (tt (eX l)):=by
 have g:∀ {A:List aD},Lm 2 2 100 A->PB 4 4 220 (1,[A,A]):=λhA=>(nq (by decide) hA hA).mono
 exact aP 8 (bD (g hl.p) (bD (g hl.q) eS))
theorem Fd (ho:Q4 2 2 100 o) (hl:Q3 2 2 100 l):ah (tU (o,l))/\Lm 12 4 240 (tt (tU (o,l))):=by
 have g:∀ {n:Int} {A B:List aD},n.natAbs<1000->Lm 2 2 100 A->Lm 2 2 100 B->PB 4 4 220 (n,[A,B]):=λhn hA hB=>(nq hn hA hB).mono
 exact aP 12 (bD (g (n:=1) (by decide) hl.p ho.q) (bD (g (n:=1) (by decide) hl.q ho.r) (bD (g (n:= -2) (by decide) hl.r ho.p) eS)))
theorem KA (ho:Q4 2 2 100 o) (hl:Q3 2 2 100 l):(∀ ps∈BR (o,l),ah ps)/\Q4 48 6 400 (rN (BR (o,l))):=by
 have hS:=(vX hl).2
 have hU:=(Fd ho hl).2
 have g:∀ {A B:List aD},Lm 8 4 240 A->Lm 2 2 100 B->PB 24 6 360 (1,[A,B]):=λhA hB=>(nq (by decide) hA hB).mono
 have g':∀ {A B:List aD},Lm 2 2 100 A->Lm 12 4 240 B->PB 24 6 360 (-2,[A,B]):=λhA hB=>(nq (by decide) hA hB).mono
 have e1:=aP 48 (bD (g hS ho.p) eS)
 have e2:=aP 48 (bD (g hS ho.q) (bD (g' hl.p hU) eS))
 have e3:=aP 48 (bD (g hS ho.r) (bD (g' hl.q hU) eS))
 have e4:=aP 48 (bD (g hS ho.t) (bD (g' hl.r hU) eS))
 exact ⟨bD e1.1 (bD e2.1 (bD e3.1 (bD e4.1 eS))),e1.2.mono,e2.2.mono,e3.2.mono,e4.2.mono⟩
theorem Fe (hi:Q3 2 2 100 i) (hl:Q3 2 2 100 l):(∀ ps∈x9 (i,l),ah ps)/\Lm 24 6 340 (Ej (i,l))/\Lm 24 6 340 (Ek (i,l)):=by
 have hS:=(vX hl).2
 have g:∀ {n:Int} {A B C:List aD},n.natAbs<1000->Lm 2 2 100 A->Lm 2 2 100 B->Lm 2 2 100 C->PB 8 6 320 (n,[A,B,C]):=λhn hA hB hC=>(Mc hn hA hB hC).mono
 have e1:=aP 24 (bD (g (n:=1) (by decide) hl.q hl.q hi.p) (bD (g (n:= -1) (by decide) hl.p hl.q hi.q) (bD (g (n:= -1) (by decide) hl.p hl.r hi.r) eS)))
 have e2:=aP 24 (bD (g (n:=1) (by decide) hl.p hl.p hi.q) (bD (g (n:= -1) (by decide) hl.p hl.q hi.p) (bD (g (n:= -1) (by decide) hl.q hl.r hi.r) eS)))
 have e3:=aP 16 (bD (nq (n:=1) (by decide) hS hi.r) eS)
 exact ⟨bD e1.1 (bD e2.1 (bD e3.1 eS)),e1.2,e2.2⟩
theorem KC (hi:Q3 2 2 100 i) (hl:Q3 2 2 100 l):(∀ ps∈BS (i,l),ah ps)/\Q3 40 6 380 (jV (BS (i,l))):=by
 have hS:=(vX hl).2
 obtain ⟨-,hF,hH⟩:=Fe hi hl
 have g:∀ {A:List aD},Lm 24 6 340 A->PB 24 6 360 (2,[A]):=λhA=>(Mb (by decide) hA).mono
 have g':∀ {n:Int} {B:List aD},n.natAbs<1000->Lm 2 2 100 B->PB 16 6 360 (n,[tt (eX l),B]):=λhn hB=>(nq hn hS hB).mono
 have two:∀ {p q:Part},PB 24 6 360 p->PB 16 6 360 q->ah [p,q]/\Lm 40 6 380 (tt [p,q]):=λ{p q} hp hq=>by
  have t:=(aP (ps:=[p,q]) 48 (bD hp (bD hq.mono eS)))
  refine ⟨t.1,(hp.m.app (hq.m.app (Lm.nil (la:=0)))).lZ.mono⟩
 have e1:=two (g hF) (g' (n:= -1) (by decide) hi.p)
 have e2:=two (g hH) (g' (n:= -1) (by decide) hi.q)
 have e3:=aP 40 (bD (g' (n:=1) (by decide) hi.r) eS)
 exact ⟨bD e1.1 (bD e2.1 (bD e3.1 eS)),e1.2,e2.2,e3.2⟩
structure Rw (X:List (List aD)):Prop where
 z:Lm 8 4 240 (X.getD 0 [])
 o:∀ p,0<p->p<4->Lm 4 4 240 (X.getD p [])
theorem tW (h:Q3 2 2 100 i):(∀ ps∈lE i,ah ps)/\Rw (bg i):=by
 have g:∀ {A B:List aD},Lm 2 2 100 A->Lm 2 2 100 B->PB 4 4 220 (1,[A,B]):=λhA hB=>(nq (by decide) hA hB).mono
 have e1:=aP 8 (bD (g h.p h.p) (bD (g h.q h.q) eS))
 have e2:=aP 4 (bD (g h.p h.r) eS)
 have e3:=aP 4 (bD (g h.q h.r) eS)
 have e4:=aP 4 (bD (g h.r h.r) eS)
 refine ⟨bD e1.1 (bD e2.1 (bD e3.1 (bD e4.1 eS))),e1.2,λq h0 h4=>?_⟩
 match q,h0,h4 with
 | 1,_,_=>exact e2.2
 | 2,_,_=>exact e3.2
 | 3,_,_=>exact e4.2
theorem Me {X Y Z:List (List aD)} (hX:Rw X) (hY:Rw Y) (hZ:Rw Z):L8 X Y Z/\Q4 768 12 840 (rN (BU X Y Z)):=by
 have g4:∀ {n:Int} {A B:List aD},n.natAbs<1000->Lm 4 4 240 A->Lm 4 4 240 B->PB 16 8 500 (n,[A,B]):=λhn hA hB=>(nq hn hA hB).mono
 have g8:∀ {n:Int} {A B:List aD},n.natAbs<1000->Lm 8 4 240 A->Lm 4 4 240 B->PB 32 8 500 (n,[A,B]):=λhn hA hB=>(nq hn hA hB).mono
 have g9:∀ {n:Int} {A B:List aD},n.natAbs<1000->Lm 4 4 240 A->Lm 8 4 240 B->PB 32 8 500 (n,[A,B]):=λhn hA hB=>(nq hn hA hB).mono
 have s2:∀ {q r:Nat},0<q->q<4->0<r->r<4->ah (BD Y Z q r)/\Lm 32 8 520 (tt (BD Y Z q r)):=λq0 q4 r0 r4=>aP 32 (bD (g4 (n:=1) (by decide) (hY.o _ q0 q4) (hZ.o _ r0 r4)) (bD (g4 (n:= -1) (by decide) (hY.o _ r0 r4) (hZ.o _ q0 q4)) eS))
 have z2:∀ {r:Nat},0<r->r<4->ah (BD Y Z 0 r)/\Lm 64 8 520 (tt (BD Y Z 0 r)):=λr0 r4=>aP 64 (bD (g8 (n:=1) (by decide) hY.z (hZ.o _ r0 r4)) (bD (g9 (n:= -1) (by decide) (hY.o _ r0 r4) hZ.z) eS))
 have k1:∀ {n:Int} {A B:List aD},n.natAbs<1000->Lm 4 4 240 A->Lm 32 8 520 B->PB 128 12 780 (n,[A,B]):=λhn hA hB=>(nq hn hA hB).mono
 have k2:∀ {n:Int} {A B:List aD},n.natAbs<1000->Lm 8 4 240 A->Lm 32 8 520 B->PB 256 12 780 (n,[A,B]):=λhn hA hB=>(nq hn hA hB).mono
 have k3:∀ {n:Int} {A B:List aD},n.natAbs<1000->Lm 4 4 240 A->Lm 64 8 520 B->PB 256 12 780 (n,[A,B]):=λhn hA hB=>(nq hn hA hB).mono
 have a0:o7 X Y Z 1 2 3/\Lm 768 12 800 (tt (fW X Y Z 1 2 3)):=by
  have h1:=s2 (q:=2) (r:=3) (by decide) (by decide) (by decide) (by decide)
  have h2:=s2 (q:=1) (r:=3) (by decide) (by decide) (by decide) (by decide)
  have h3:=s2 (q:=1) (r:=2) (by decide) (by decide) (by decide) (by decide)
  have h:=aP 768 (bD (k1 (n:=1) (by decide) (hX.o 1 (by decide) (by decide)) h1.2) (bD (k1 (n:= -1) (by decide) (hX.o 2 (by decide) (by decide)) h2.2) (bD (k1 (n:=1) (by decide) (hX.o 3 (by decide) (by decide)) h3.2) eS)))
  exact ⟨⟨h1.1,h2.1,h3.1,h.1⟩,h.2⟩
 have b0:∀ {q r:Nat},0<q->q<4->0<r->r<4->o7 X Y Z 0 q r/\Lm 768 12 800 (tt (fW X Y Z 0 q r)):=λ{q r} q0 q4 r0 r4=>by
  have h1:=s2 q0 q4 r0 r4
  have h2:=z2 r0 r4
  have h3:=z2 q0 q4
  have h:=aP 768 (bD (k2 (n:=1) (by decide) hX.z h1.2) (bD (k3 (n:= -1) (by decide) (hX.o q q0 q4) h2.2) (bD (k3 (n:=1) (by decide) (hX.o r r0 r4) h3.2) eS)))
  exact ⟨⟨h1.1,h2.1,h3.1,h.1⟩,h.2⟩
 have b1:=b0 (q:=2) (r:=3) (by decide) (by decide) (by decide) (by decide)
 have b2:=b0 (q:=1) (r:=3) (by decide) (by decide) (by decide) (by decide)
 have b3:=b0 (q:=1) (r:=2) (by decide) (by decide) (by decide) (by decide)
 have n1:∀ {A:List aD},Lm 768 12 800 A->ah [(-1,[A])]/\Lm 768 12 840 (tt [(-1,[A])]):=λhA=>aP 768 (bD (Mb (n:= -1) (by decide) hA) eS)
 have m1:=n1 b1.2
 have m3:=n1 b3.2
 exact ⟨⟨a0.1,b1.1,b2.1,b3.1,m1.1,m3.1⟩,a0.2.mono,m1.2,b2.2.mono,m3.2⟩
end
end
theorem cW (ps:List Part):mp (tt ps)=mp (cy ps):=vH _
theorem KD:mp ([]:List aD)=0:=cJ
theorem j8 {ps:List Part} (h:mp (cy ps)=0):tt ps=[]:=dD (B:=[]) (h.trans KD.symm)
theorem Mf:tt (c8 (rN (rQ (c,i)),i))=[]:=by
 obtain ⟨a,b,c⟩:=c
 obtain ⟨x,y,z⟩:=i
 refine j8 ?_
 show mp (cy [(1,[tt [(1,[c,z,z])],x,x]),(1,[tt [(1,[c,z,z])],y,y]),(1,[tt [(-2,[a,z,z])],x,z]),(1,[tt [(-2,[b,z,z])],y,z]),(1,[tt [(2,[x,a,z]),(2,[y,b,z]),(-1,[x,x,c]),(-1,[y,y,c])],z,z])])=0
 simp only [cS,cJ,cU,cV,cW]
 grind
theorem Mg:tt ((l5 (o,jV (o5 o))).getD 0 [])=[]/\tt ((l5 (o,jV (o5 o))).getD 1 [])=[]:=by
 obtain ⟨a,b,c,d⟩:=o
 refine ⟨j8 ?_,j8 ?_⟩
 ·show mp (cy [(2,[a,tt [(-1,[b])]]),(1,[b,tt [(2,[a])]])])=0
  simp only [cS,cJ,cU,cV,cW]
  grind
 ·show mp (cy [(2,[a,tt [(-1,[c])]]),(1,[c,tt [(2,[a])]])])=0
  simp only [cS,cJ,cU,cV,cW]
  grind
theorem Mh:tt (jE (jV (l5 (o,i)),j))=tt (jE (jV (l5 (o,j)),i)):=by
 obtain ⟨a,b,c,d⟩:=o
 obtain ⟨x,y,z⟩:=i
 obtain ⟨e,f,g⟩:=j
 refine dD ?_
 show mp (cy [(1,[tt [(2,[a,x]),(1,[b,z])],e]),(1,[tt [(2,[a,y]),(1,[c,z])],f]),(1,[tt [(1,[b,x]),(1,[c,y]),(2,[d,z])],g])])=mp (cy [(1,[tt [(2,[a,e]),(1,[b,g])],x]),(1,[tt [(2,[a,f]),(1,[c,g])],y]),(1,[tt [(1,[b,e]),(1,[c,f]),(2,[d,g])],z])])
 simp only [cS,cJ,cU,cV,cW]
 grind
theorem Mi:tt [(1,[tt (jE (jV (rR (o,p)),k)),k.2.2])]=tt [(1,[tt (c8 (o,k)),p.1]),(-1,[tt (c8 (p,k)),o.1])]:=by
 obtain ⟨a,b,c,d⟩:=o
 obtain ⟨e,f,g,h⟩:=p
 obtain ⟨x,y,z⟩:=k
 refine dD ?_
 show mp (cy [(1,[tt [(1,[tt [(1,[b,e]),(-1,[f,a])],x]),(1,[tt [(1,[c,e]),(-1,[g,a])],y]),(1,[tt [(1,[d,e]),(-1,[h,a])],z])],z])])=mp (cy [(1,[tt [(1,[a,x,x]),(1,[a,y,y]),(1,[b,x,z]),(1,[c,y,z]),(1,[d,z,z])],e]),(-1,[tt [(1,[e,x,x]),(1,[e,y,y]),(1,[f,x,z]),(1,[g,y,z]),(1,[h,z,z])],a])])
 simp only [cS,cJ,cU,cV,cW]
 grind
theorem o9 (X Y Z:List (List aD)) (p q r:Nat):mp (tt (fW X Y Z p q r))=mp (X.getD p []) * (mp (Y.getD q []) * mp (Z.getD r []) - mp (Y.getD r []) * mp (Z.getD q [])) - mp (X.getD q []) * (mp (Y.getD p []) * mp (Z.getD r []) - mp (Y.getD r []) * mp (Z.getD p []))+mp (X.getD r []) * (mp (Y.getD p []) * mp (Z.getD q []) - mp (Y.getD q []) * mp (Z.getD p [])):=by
 unfold fW BD
 simp only [cS,cJ,cU,cV,cW]
 grind
theorem KG {X Y Z:List (List aD)} (R:List (List aD)) {s:T3} (h0:mp (R.getD 0 [])=mp s.1 * mp s.1+mp s.2.1 * mp s.2.1) (h1:mp (R.getD 1 [])=mp s.1 * mp s.2.2) (h2:mp (R.getD 2 [])=mp s.2.1 * mp s.2.2) (h3:mp (R.getD 3 [])=mp s.2.2 * mp s.2.2) :
 mp (cy (c8 (rN (BU X Y Z),s)))=mp (tt (fW X Y Z 1 2 3)) * mp (R.getD 0 []) - mp (tt (fW X Y Z 0 2 3)) * mp (R.getD 1 [])+mp (tt (fW X Y Z 0 1 3)) * mp (R.getD 2 []) - mp (tt (fW X Y Z 0 1 2)) * mp (R.getD 3 []):=by
 rw [h0,h1,h2,h3]
 obtain ⟨x,y,z⟩:=s
 show mp (cy [(1,[tt (fW X Y Z 1 2 3),x,x]),(1,[tt (fW X Y Z 1 2 3),y,y]),(1,[tt [(-1,[tt (fW X Y Z 0 2 3)])],x,z]),(1,[tt (fW X Y Z 0 1 3),y,z]),(1,[tt [(-1,[tt (fW X Y Z 0 1 2)])],z,z])])=_
 generalize tt (fW X Y Z 1 2 3)=A
 generalize tt (fW X Y Z 0 2 3)=B
 generalize tt (fW X Y Z 0 1 3)=C
 generalize tt (fW X Y Z 0 1 2)=E
 simp only [cS,cJ,cU,cV,cW]
 grind
theorem Ij (s:T3):mp ((bg s).getD 0 [])=mp s.1 * mp s.1+mp s.2.1 * mp s.2.1/\mp ((bg s).getD 1 [])=mp s.1 * mp s.2.2/\mp ((bg s).getD 2 [])=mp s.2.1 * mp s.2.2/\mp ((bg s).getD 3 [])=mp s.2.2 * mp s.2.2:=by
 obtain ⟨x,y,z⟩:=s
 refine ⟨?_,?_,?_,?_⟩
 ·show mp (tt [(1,[x,x]),(1,[y,y])])=_
  simp only [cS,cJ,cU,cV,cW]
  grind
 ·show mp (tt [(1,[x,z])])=_
  simp only [cS,cJ,cU,cV,cW]
  grind
 ·show mp (tt [(1,[y,z])])=_
  simp only [cS,cJ,cU,cV,cW]
  grind
 ·show mp (tt [(1,[z,z])])=_
  simp only [cS,cJ,cU,cV,cW]
  grind
theorem Mj (s t u v:T3) (h:v=s\/v=t\/v=u):tt (c8 (rN (BU (bg s) (bg t) (bg u)),v))=[]:=by
 refine j8 ?_
 have e:=Ij v
 rw [KG (bg v) e.1 e.2.1 e.2.2.1 e.2.2.2,o9,o9,o9,o9]
 rcases h with rfl | rfl | rfl
 ·generalize bg v=X
  generalize bg t=Y
  generalize bg u=Z
  grind
 ·generalize bg s=X
  generalize bg v=Y
  generalize bg u=Z
  grind
 ·generalize bg s=X
  generalize bg t=Y
  generalize bg v=Z
  grind
theorem Et (a b c d x y z p q r S U n X Y:MP) (hS:p * p+q * q=S) (hU:p * b+q * c=U+2 * (r * a)) (hn:p * x+q * y=n - r * z) (hX:X=S * x - 2 * (p * n)) (hY:Y=S * y - 2 * (q * n)) :
 S * a * (X * X+Y * Y)+((S * b - 2 * (p * U)) * X+(S * c - 2 * (q * U)) * Y) * (S * z)+(S * d - 2 * (r * U)) * (S * z) * (S * z)=S * S * S * (a * (x * x+y * y)+b * x * z+c * y * z+d * z * z):=by
 have e1:X * X+Y * Y=S * S * (x * x+y * y) - 4 * (S * n) * (p * x+q * y)+4 * (n * n) * (p * p+q * q):=by
  rw [hX,hY]
  clear hS hU hn hX hY
  grind
 have e2:(S * b - 2 * (p * U)) * X+(S * c - 2 * (q * U)) * Y=S * S * (b * x+c * y) - 2 * (S * n) * (p * b+q * c) - 2 * (S * U) * (p * x+q * y)+4 * (U * n) * (p * p+q * q):=by
  rw [hX,hY]
  clear hS hU hn hX hY e1
  grind
 rw [e1,e2,hS,hU,hn]
 clear hS hU hn hX hY e1 e2
 grind
theorem Ml:tt (c8 (rN (BR (o,l)),jV (BS (i,l))))=tt [(1,[tt (eX l),tt (eX l),tt (eX l),tt (c8 (o,i))])]:=by
 obtain ⟨a,b,c,d⟩:=o
 obtain ⟨x,y,z⟩:=i
 obtain ⟨p,q,r⟩:=l
 have hS:mp (tt (eX (p,q,r)))=mp p * mp p+mp q * mp q:=by
  show mp (tt [(1,[p,p]),(1,[q,q])])=_
  simp only [cS,cJ,cU,cV,cW]
  grind
 have hU:mp (tt (tU ((a,b,c,d),(p,q,r))))=mp p * mp b+mp q * mp c - 2 * (mp r * mp a):=by
  show mp (tt [(1,[p,b]),(1,[q,c]),(-2,[r,a])])=_
  simp only [cS,cJ,cU,cV,cW]
  grind
 have hF:mp (Ej ((x,y,z),(p,q,r)))=mp q * mp q * mp x - mp p * mp q * mp y - mp p * mp r * mp z:=by
  show mp (tt [(1,[q,q,x]),(-1,[p,q,y]),(-1,[p,r,z])])=_
  simp only [cS,cJ,cU,cV,cW]
  grind
 have hH:mp (Ek ((x,y,z),(p,q,r)))=mp p * mp p * mp y - mp p * mp q * mp x - mp q * mp r * mp z:=by
  show mp (tt [(1,[p,p,y]),(-1,[p,q,x]),(-1,[q,r,z])])=_
  simp only [cS,cJ,cU,cV,cW]
  grind
 have hC:mp (tt (c8 ((a,b,c,d),(x,y,z))))=mp a * (mp x * mp x+mp y * mp y)+mp b * mp x * mp z+mp c * mp y * mp z+mp d * mp z * mp z:=by
  show mp (tt [(1,[a,x,x]),(1,[a,y,y]),(1,[b,x,z]),(1,[c,y,z]),(1,[d,z,z])])=_
  simp only [cS,cJ,cU,cV,cW]
  grind
 refine dD ?_
 show mp (cy (c8 (rN (E9 a b c d p q r (tt (eX (p,q,r))) (tt (tU ((a,b,c,d),(p,q,r))))),jV (HR x y z (Ej ((x,y,z),(p,q,r))) (Ek ((x,y,z),(p,q,r))) (tt (eX (p,q,r)))))))=mp (cy [(1,[tt (eX (p,q,r)),tt (eX (p,q,r)),tt (eX (p,q,r)),tt (c8 ((a,b,c,d),(x,y,z)))])])
 generalize tt (eX (p,q,r))=S at *
 generalize tt (tU ((a,b,c,d),(p,q,r)))=U at *
 generalize Ej ((x,y,z),(p,q,r))=F at *
 generalize Ek ((x,y,z),(p,q,r))=H at *
 generalize tt (c8 ((a,b,c,d),(x,y,z)))=C at *
 have hX:mp (tt [(2,[F]),(-1,[S,x])])=2 * mp F - mp S * mp x:=by
  simp only [cS,cJ,cU,cV,cW]
  grind
 have hY:mp (tt [(2,[H]),(-1,[S,y])])=2 * mp H - mp S * mp y:=by
  simp only [cS,cJ,cU,cV,cW]
  grind
 show mp (cy [(1,[tt [(1,[S,a])],tt [(2,[F]),(-1,[S,x])],tt [(2,[F]),(-1,[S,x])]]),(1,[tt [(1,[S,a])],tt [(2,[H]),(-1,[S,y])],tt [(2,[H]),(-1,[S,y])]]),(1,[tt [(1,[S,b]),(-2,[p,U])],tt [(2,[F]),(-1,[S,x])],tt [(1,[S,z])]]),(1,[tt [(1,[S,c]),(-2,[q,U])],tt [(2,[H]),(-1,[S,y])],tt [(1,[S,z])]]),(1,[tt [(1,[S,d]),(-2,[r,U])],tt [(1,[S,z])],tt [(1,[S,z])]])])=_
 generalize tt [(2,[F]),(-1,[S,x])]=X at *
 generalize tt [(2,[H]),(-1,[S,y])]=Y at *
 simp only [cS,cJ,cU,cV,cW,hX,hY,hC]
 have hS':mp p * mp p+mp q * mp q=mp S:=hS.symm
 have hU':mp p * mp b+mp q * mp c=mp U+2 * (mp r * mp a):=by rw [hU]; grind
 have hn:mp p * mp x+mp q * mp y=(mp p * mp x+mp q * mp y+mp r * mp z) - mp r * mp z:=by grind
 have hX':2 * mp F - mp S * mp x=mp S * mp x - 2 * (mp p * (mp p * mp x+mp q * mp y+mp r * mp z)):=by rw [hF,<- hS']; grind
 have hY':2 * mp H - mp S * mp y=mp S * mp y - 2 * (mp q * (mp p * mp x+mp q * mp y+mp r * mp z)):=by rw [hH,<- hS']; grind
 have h:=Et (mp a) (mp b) (mp c) (mp d) (mp x) (mp y) (mp z) (mp p) (mp q) (mp r) (mp S) (mp U) _ _ _ hS' hU' hn hX' hY'
 clear hS hU hF hH hC hX hY hS' hU' hn hX' hY'
 generalize mp a=a at *
 generalize mp b=b at *
 generalize mp c=c at *
 generalize mp d=d at *
 generalize mp x=x at *
 generalize mp y=y at *
 generalize mp z=z at *
 generalize mp p=p at *
 generalize mp q=q at *
 generalize mp r=r at *
 generalize mp S=S at *
 generalize mp U=U at *
 generalize 2 * mp F - S * x=F at *
 generalize 2 * mp H - S * y=H at *
 refine Eq.trans ?_ (h.trans ?_)
 ·clear h; grind
 ·clear h; grind
section
variable {K:M0}
theorem MX {la lb lc ld:Nat} {ea eb ec ed:Int} {ba bb bc bd:Nat} {A B C E:List aD} {n:Int} (hn:n.natAbs<1000) (hA:Lm la ea ba A) (hB:Lm lb eb bb B) (hC:Lm lc ec bc C) (hE:Lm ld ed bd E) (dA:Dm la ea ba:=by decide) (dB:Dm lb eb bb:=by decide) (dC:Dm lc ec bc:=by decide) (dE:Dm ld ed bd:=by decide):PB (1 * la * lb * lc * ld) (0+ea+eb+ec+ed) (20+ba+bb+bc+bd) (n,[A,B,C,E]) :=
 ⟨hn,by show (4:Nat)<=8; decide,by simp [hA.fa dA,hB.fa dB,hC.fa dC,hE.fa dE],by
   rw [Nat.one_mul,RA,RA]
   have:=dA.1
   refine O5 (show max A.length 1<=la by have:=hA.l; lia) ?_
   exact MI hB.l dB.1 hC.l dC.1 hE.l dE.1,((((Lm.con (ba:=20) (K5 hn)).prod hA (by decide) dA.2.2.1).prod hB (by have:=dA.2.2.1; lia) dB.2.2.1).prod hC (by have:=dA.2.2.1; have:=dB.2.2.1; lia) dC.2.2.1).prod hE (by have:=dA.2.2.1; have:=dB.2.2.1; have:=dC.2.2.1; lia) dE.2.2.1⟩
theorem xX {o:T4} {i:T3} (h:ah (c8 (o,i))):K2 [D4 o,D3 i] (.ok (.ow ((tt (c8 (o,i))).map aS))):=KY (a:=(o,i)) h
theorem Ik {l i:T3} (h:ah (jE (l,i))):K3 [D3 l,D3 i] (.ok (.ow ((tt (jE (l,i))).map aS))):=KY (a:=(l,i)) h
theorem Mm {X:List (List Part)} (h:X.length=3):dW X=.va (D3 (jV X)):=by
 match X,h with
 | [a,b,c],_=>rfl
theorem Mn {X:List (List Part)} (h:X.length=4):dW X=.va (D4 (rN X)):=by
 match X,h with
 | [a,b,c,d],_=>rfl
theorem Eu {α:Type} {dA:α->List D} {Ok:α->Prop} {X:α->List (List Part)} {a:α} (h:Ok a) (hl:(X a).length=3):Fw dA Ok (λu=>dW (X u)) (dA a) (.ok (.va (D3 (jV (X a))))):=by
 rw [<- Mm hl]; exact KY h
theorem Il {α:Type} {dA:α->List D} {Ok:α->Prop} {X:α->List (List Part)} {a:α} (h:Ok a) (hl:(X a).length=4):Fw dA Ok (λu=>dW (X u)) (dA a) (.ok (.va (D4 (rN (X a))))):=by
 rw [<- Mn hl]; exact KY h
theorem KH {c i:T3} (h:∀ ps∈rQ (c,i),ah ps):El [D3 c,D3 i] (.ok (.va (D4 (rN (rQ (c,i)))))):=Il (X:=rQ) (a:=(c,i)) h rfl
theorem Mp {o:T4} (h:∀ ps∈o5 o,ah ps):Em [D4 o] (.ok (.va (D3 (jV (o5 o))))):=Eu (X:=o5) (a:=o) h rfl
theorem Im {o:T4} {i:T3} (h:∀ ps∈l5 (o,i),ah ps):En [D4 o,D3 i] (.ok (.va (D3 (jV (l5 (o,i)))))):=Eu (X:=l5) (a:=(o,i)) h rfl
theorem Mq {o p:T4} (h:∀ ps∈rR (o,p),ah ps):Eo [D4 o,D4 p] (.ok (.va (D3 (jV (rR (o,p)))))):=Eu (X:=rR) (a:=(o,p)) h rfl
theorem Mr {o:T4} {l:T3} (h1:ah (eX l)) (h2:ah (tU (o,l))) (h:∀ ps∈BR (o,l),ah ps):Ep [D4 o,D3 l] (.ok (.va (D4 (rN (BR (o,l)))))):=Il (X:=BR) (a:=(o,l)) ⟨h1,h2,h⟩ rfl
theorem Ms {i l:T3} (h1:ah (eX l)) (h2:∀ ps∈x9 (i,l),ah ps) (h:∀ ps∈BS (i,l),ah ps):Er [D3 i,D3 l] (.ok (.va (D3 (jV (BS (i,l)))))):=Eu (X:=BS) (a:=(i,l)) ⟨h1,h2,h⟩ rfl
theorem Mt {s t u:T3} (h:HX (s,t,u)):Es [D3 s,D3 t,D3 u] (.ok (.va (D4 (rN (BU (bg s) (bg t) (bg u)))))):=Il (X:=λu:T3×T3×T3=>BU (bg u.1) (bg u.2.1) (bg u.2.2)) (a:=(s,t,u)) h rfl
noncomputable def sv (ns:List Int) (k:Nat):List aD:=(lD (o4 ns k)).take 2
noncomputable def s3 (ns:List Int) (k:Nat):T3:=(sv ns k,sv ns (k+1),sv ns (k+2))
noncomputable def s4 (ns:List Int) (k:Nat):T4:=(sv ns k,sv ns (k+1),sv ns (k+2),sv ns (k+3))
theorem lG (ns:List Int) (k:Nat):Lm 2 2 100 (sv ns k):=by
 have h:=Eh (o4 ns k)
 exact ⟨by unfold sv; rw [N2]; exact Nat.min_le_left _ _,λt ht=>h.e t (PY ht),λt ht=>h.b t (PY ht)⟩
theorem Ew (ns:List Int) (k:Nat):Q3 2 2 100 (s3 ns k):=⟨lG _ _,lG _ _,lG _ _⟩
theorem Mu (ns:List Int) (k:Nat):Q4 2 2 100 (s4 ns k):=⟨lG _ _,lG _ _,lG _ _,lG _ _⟩
theorem KI (ns:List Int):o8 [.lst (ns.map .int),.int 1,.int 3] (.ok (.va (D3 (s3 ns 1)))):=rM ns (a:=1) (m:=3) (by decide) (by decide)
theorem KJ (ns:List Int):o8 [.lst (ns.map .int),.int 4,.int 3] (.ok (.va (D3 (s3 ns 4)))):=rM ns (a:=4) (m:=3) (by decide) (by decide)
theorem KL (ns:List Int):o8 [.lst (ns.map .int),.int 7,.int 3] (.ok (.va (D3 (s3 ns 7)))):=rM ns (a:=7) (m:=3) (by decide) (by decide)
theorem Io (ns:List Int):o8 [.lst (ns.map .int),.int 10,.int 4] (.ok (.va (D4 (s4 ns 10)))):=rM ns (a:=10) (m:=4) (by decide) (by decide)
theorem Ip (ns:List Int):o8 [.lst (ns.map .int),.int 14,.int 3] (.ok (.va (D3 (s3 ns 14)))):=rM ns (a:=14) (m:=3) (by decide) (by decide)
theorem Q3.up {s:T3} (h:Q3 2 2 100 s):Q3 2 2 140 s:=⟨h.p.mono,h.q.mono,h.r.mono⟩
theorem vY {T:Bool->Prop} (t:T true):yL (.lst []) (.lst []) T:=gw (ds:=[]) (ri _) t
section
local macro_rules | `(tactic| walk_at "evCa")=> `(tactic| first
 | with_reducible refine bz (F:=o8) (by assumption) (by decide) ?_
 | with_reducible refine bz (F:=rL) (by assumption) (by decide) ?_
 | with_reducible refine bz (F:=K2) (by assumption) (by decide) ?_
 | with_reducible refine bz (F:=K3) (by assumption) (by decide) ?_
 | with_reducible refine bz (F:=El) (by assumption) (by decide) ?_
 | with_reducible refine bz (F:=Em) (by assumption) (by decide) ?_
 | with_reducible refine bz (F:=En) (by assumption) (by decide) ?_
 | with_reducible refine bz (F:=Eo) (by assumption) (by decide) ?_
 | with_reducible refine bz (F:=Ep) (by assumption) (by decide) ?_
 | with_reducible refine bz (F:=Er) (by assumption) (by decide) ?_
 | with_reducible refine bz (F:=Es) (by assumption) (by decide) ?_
 | ((with_reducible show aI _ (NR (Nn "list" _) _ _ _) _ _); with_reducible refine e_x (za (Txt.list (by assumption)) ?_)))
local macro_rules | `(tactic| walk_at "evIx")=> `(tactic| first | ((with_reducible show aI _ (Ow _ (QA _ _ _) _) _ _); with_reducible refine mJ ?_))
local macro_rules | `(tactic| walk_at "evR")=> `(tactic| first
 | refine aj (KI _) ?_
 | refine aj (KJ _) ?_
 | refine aj (KL _) ?_
 | refine aj (Io _) ?_
 | refine aj (Ip _) ?_)
theorem Iq {ff:Addr} {fd:FuncData} (Fu:dQ K "law" "law" (top 48) ff fd) (T:Txt K mg) (h1:c7 P w K mg base 3 "_law_short" o8) (h2:c7 P w K mg base 3 "_law_sum" rL) (h3:c7 P w K mg base 4 "_law_circle_at" K2) (h4:c7 P w K mg base 4 "_law_line_at" K3)
 (h5:c7 P w K mg base 6 "round_circle" El) (h6:c7 P w K mg base 6 "centre_point" Em) (h7:c7 P w K mg base 6 "polar_line" En) (h8:c7 P w K mg base 6 "axis_line" Eo) (h9:c7 P w K mg base 7 "mirrored_circle" Ep) (h10:c7 P w K mg base 8 "mirrored_point" Er) (h11:c7 P w K mg base 8 "three_circle" Es):aZ P w K mg base (c9 P w) 9 ff fd ["_law_script"] (dM K zF):=by
 refine bY Fu Hj (by rintro ds r ⟨ns,_,rfl,_⟩; rfl) (by rintro ds r ⟨ns,_,_,rfl⟩; exact ⟨_,rfl⟩) λn hq ds sl hF=>?_
 obtain ⟨ns,hns,rfl,ee⟩:=hF
 injection ee with ee
 subst ee
 show aH n _ [.va (.lst (ns.map .int)),.un,.un,.un,.un,.un,.un,.un,.un,.un,.un] _ _
 conv in (au _)=>whnf
 refine aB ?_
 generalize hG:(λρ'=>aH n _ ρ' _ _)=G
 walk_at "ev"
 subst hG
 refine aB ?_
 generalize hG:(λρ'=>aH n _ ρ' _ _)=G
 walk_at "ev"
 subst hG
 refine aB ?_
 generalize hG:(λρ'=>aH n _ ρ' _ _)=G
 walk_at "ev"
 subst hG
 refine aB ?_
 generalize hG:(λρ'=>aH n _ ρ' _ _)=G
 walk_at "ev"
 subst hG
 refine aB ?_
 generalize hG:(λρ'=>aH n _ ρ' _ _)=G
 walk_at "ev"
 subst hG
 have qi:=Ew ns 1
 have qj:=Ew ns 4
 have qk:=Ew ns 7
 have qo:=Mu ns 10
 have ql:=Ew ns 14
 generalize s3 ns 1=i at *
 generalize s3 ns 4=j at *
 generalize s3 ns 7=k at *
 generalize s4 ns 10=o at *
 generalize s3 ns 14=l at *
 have r1:=Fc qi qj
 have c1:=(nv r1.2 qj).1
 have z1:=Mf (c:=i) (i:=j)
 refine aB ?_
 generalize hG:(λρ'=>aH n _ ρ' _ _)=G
 walk_at "ev"
 refine aj (KH r1.1) (gh ?_)
 walk_at "ev"
 refine aj (xX c1) (aG ?_)
 rw [z1]
 walk_at "ev"
 refine vY ?_
 walk_at "ev"
 subst hG
 have w1:=tW qi
 have w2:=tW qj
 have w3:=tW qk
 have t3:=Me w1.2 w2.2 w3.2
 refine aB ?_
 generalize hG:(λρ'=>aH n _ ρ' _ _)=G
 walk_at "ev"
 refine aj (Mt ⟨w1.1,w2.1,w3.1,t3.1⟩) ?_
 walk_at "ev"
 subst hG
 have z3:=λv hv=>Mj i j k v hv
 have c3:∀ v,Q3 2 2 100 v->ah (c8 (rN (BU (bg i) (bg j) (bg k)),v)):=λv hv=>(nv t3.2 hv).1
 generalize rN (BU (bg i) (bg j) (bg k))=told at *
 clear t3 w1 w2 w3
 refine aB (Cw (Jv (e_len (Txt.len T) (e_x (dw hq (N':=["_law_point","_law_told"]) (ρ0:=λ_=>[.un,.va (D4 told)]) (λt=>.un (.fr (by walk_at "at") (by walk_at "at") (by decide) rfl .nil)) (cE ?_))))))
 generalize hG:(λρ'=>aH n _ ρ' _ _)=G
 walk_at "ev"
 refine ⟨[none,none,none],rfl,?_,aG ?_⟩
 ·intro c3' hc3 t' m d ob hd ho
  obtain ⟨v,hv,qv,rfl,rfl⟩:∃ v:T3,(v=i\/v=j\/v=k)/\Q3 2 2 100 v/\d=D3 v/\ob=none:=by
   match m,hd,ho with
   | 0,hd,ho=>cases hd; cases ho; exact ⟨_,.inl rfl,qi,rfl,rfl⟩
   | 1,hd,ho=>cases hd; cases ho; exact ⟨_,.inr (.inl rfl),qj,rfl,rfl⟩
   | 2,hd,ho=>cases hd; cases ho; exact ⟨_,.inr (.inr rfl),qk,rfl,rfl⟩
  refine cC (by walk_at "at") (nQ (by walk_at "sset") ⟨.un (.same .nil),?_⟩)
  simp only [jj]
  walk_at "ev"
  refine aj (xX (c3 v qv)) (aG ?_)
  rw [z3 v hv]
  walk_at "ev"
  refine vY ?_
  exact uA (uA trivial)
 walk_at "ev"
 case refine_1 h=>exact absurd h (by decide)
 subst hG
 have n0:=Ky qo
 have p0:=BG qo n0.2
 have z4:=Mg (o:=o)
 refine aB ?_
 generalize hG:(λρ'=>aH n _ ρ' _ _)=G
 walk_at "ev"
 refine aj (Mp n0.1) (gh ?_)
 walk_at "ev"
 refine aj (Im p0.1) (gh ?_)
 walk_at "ev"
 show EM (.tup [af (tt ((l5 (o,jV (o5 o))).getD 0 [])),af (tt ((l5 (o,jV (o5 o))).getD 1 [])),af (tt ((l5 (o,jV (o5 o))).getD 2 []))]) none (some 2) _
 walk_at "ev"
 show yL (.lst [af (tt ((l5 (o,jV (o5 o))).getD 0 [])),af (tt ((l5 (o,jV (o5 o))).getD 1 []))]) (.lst [.lst [],.lst []]) _
 rw [z4.1,z4.2]
 refine gw (ds:=[.lst [],.lst []]) (nh (rg [] []) (nh (rg [] []) (ri _))) ?_
 walk_at "ev"
 subst hG
 have p1:=BG qo qi.up
 have p2:=BG qo qj.up
 have l1:=(BF p1.2 qj).1
 have l2:=(BF p2.2 qi).1
 have z5:=Mh (o:=o) (i:=i) (j:=j)
 refine aB ?_
 generalize hG:(λρ'=>aH n _ ρ' _ _)=G
 walk_at "ev"
 refine aj (Im p1.1) (gh ?_)
 walk_at "ev"
 refine aj (Ik l1) (aG ?_)
 walk_at "ev"
 refine aj (Im p2.1) (gh ?_)
 walk_at "ev"
 refine aj (Ik l2) (aG ?_)
 rw [z5]
 refine gw (jv _ _) ?_
 walk_at "ev"
 subst hG
 clear z4 z5 p0 p1 p2 l1 l2 n0 z3 c3
 have r2:=Fc qj qi
 have ca:=nv qo qk
 have cb:=nv r2.2 qk
 have a0:=Kz qo r2.2
 have lx:=BF a0.2 qk
 have z6:=Mi (o:=o) (p:=rN (rQ (j,i))) (k:=k)
 refine aB ?_
 generalize hG:(λρ'=>aH n _ ρ' _ _)=G
 walk_at "ev"
 refine aj (KH r2.1) ?_
 walk_at "ev"
 subst hG
 have q2:=r2.2
 generalize rN (rQ (j,i))=oth at *
 have h1':ah [(1,[tt (c8 (o,k)),oth.1]),(-1,[tt (c8 (oth,k)),o.1])]:=(aP 2560 (bD (PB.mono (lb:=1280) (eb:=12) (bb:=700) (nq (n:=1) (by decide) ca.2 q2.p)) (bD (PB.mono (lb:=1280) (eb:=12) (bb:=700) (nq (n:= -1) (by decide) cb.2 qo.p)) eS))).1
 have h2':ah [(1,[tt (jE (jV (rR (o,oth)),k)),k.2.2])]:=(aP 1536 (bD (nq (n:=1) (by decide) lx.2 qk.r) eS)).1
 refine aB ?_
 generalize hG:(λρ'=>aH n _ ρ' _ _)=G
 walk_at "ev"
 refine aj (xX ca.1) (aG ?_)
 walk_at "ev"
 refine aj (xX cb.1) (aG ?_)
 walk_at "ev"
 subst hG
 refine d8 8 (d0:=.lst ([(1,[tt (c8 (o,k)),oth.1]),(-1,[tt (c8 (oth,k)),o.1])].map gX)) (by walk_at "at") rfl (by walk_at "sset") ?_
 refine aB ?_
 generalize hG:(λρ'=>aH n _ ρ' _ _)=G
 walk_at "ev"
 refine aj (Mq a0.1) (gh ?_)
 walk_at "ev"
 refine aj (Ik lx.1) (aG ?_)
 walk_at "ev"
 refine aj (nk (ps:=[(1,[tt (jE (jV (rR (o,oth)),k)),k.2.2])]) h2') (aG ?_)
 walk_at "ev"
 refine aj (nk h1') (aG ?_)
 rw [show bL (cy [(1,[tt (jE (jV (rR (o,oth)),k)),k.2.2])])=bL (cy [(1,[tt (c8 (o,k)),oth.1]),(-1,[tt (c8 (oth,k)),o.1])]) from z6]
 refine gw (jv _ _) ?_
 walk_at "ev"
 subst hG
 clear z6 h1' h2' a0 lx ca cb q2 r2
 have s0:=vX ql
 have u0:=Fd qo ql
 have m0:=KA qo ql
 have f0:=Fe qi ql
 have d0:=KC qi ql
 have cc:=nv qo qi
 have cm:=(nv m0.2 d0.2).1
 have z7:=Ml (i:=i) (l:=l) (o:=o)
 have h3':ah [(1,[tt (eX l),tt (eX l),tt (eX l),tt (c8 (o,i))])]:=(aP 20480 (bD (MX (n:=1) (by decide) s0.2 s0.2 s0.2 cc.2) eS)).1
 refine aB ?_
 generalize hG:(λρ'=>aH n _ ρ' _ _)=G
 walk_at "ev"
 refine aj (nk (ps:=eX l) s0.1) (aG ?_)
 walk_at "ev"
 subst hG
 refine aB ?_
 generalize hG:(λρ'=>aH n _ ρ' _ _)=G
 walk_at "ev"
 refine aj (xX cc.1) (aG ?_)
 walk_at "ev"
 refine aj (nk (ps:=[(1,[tt (eX l),tt (eX l),tt (eX l),tt (c8 (o,i))])]) h3') (aG ?_)
 walk_at "ev"
 subst hG
 walk_at "ev"
 refine aj (Mr s0.1 u0.1 m0.1) (gh ?_)
 walk_at "ev"
 refine aj (Ms s0.1 f0.1 d0.1) (gh ?_)
 walk_at "ev"
 refine aj (xX cm) (aG ?_)
 rw [z7]
 walk_at "ev"
 refine gw (jv _ _) ?_
 rfl
end
end
section
variable {K:M0}
theorem Ey {fa:Addr} (x8:mg "law"=some (.ref fa)) (T:Txt K mg) (xPLACES:∃ tk:Tok,mg "PLACES"=some (.int 6 tk))
 (D2:ay K mg "trimmed" (top 2))
 (D3:ay K mg "greatest_powers" (top 3))
 (D4:ay K mg "key_of" (top 4))
 (D5:ay K mg "powers_of" (top 5))
 (D6:ay K mg "packed" (top 6))
 (D7:ay K mg "unpacked" (top 7))
 (D8:ay K mg "add_products" (top 8))
 (D10:ay K mg "width_of" (top 10))
 (D11:ay K mg "add_part" (top 11))
 (D12:ay K mg "poly_total" (top 12))
 (D14:ay K mg "square_of_way" (top 14))
 (D15:ay K mg "without_place" (top 15))
 (D16:ay K mg "determinant" (top 16))
 (D18:ay K mg "round_rule" (top 18))
 (D19:ay K mg "round_row" (top 19))
 (D20:ay K mg "three_rule" (top 20))
 (D21:ay K mg "centre_rule" (top 21))
 (D22:ay K mg "polar_rule" (top 22))
 (D23:ay K mg "axis_rule" (top 23))
 (D24:ay K mg "middle_worth" (top 24))
 (D25:ay K mg "mirroredround_rule" (top 25))
 (D26:ay K mg "round_circle" (top 26))
 (D27:ay K mg "three_circle" (top 27))
 (D28:ay K mg "centre_point" (top 28))
 (D29:ay K mg "polar_line" (top 29))
 (D30:ay K mg "axis_line" (top 30))
 (D31:ay K mg "mirrored_circle" (top 31))
 (D33:ay K mg "foot_rule" (top 33))
 (D34:ay K mg "mirrored_rule" (top 34))
 (D35:ay K mg "mirrored_point" (top 35))
 (D37:ay K mg "_law_cell_at" (top 37))
 (D38:ay K mg "_law_digits" (top 38))
 (D39:ay K mg "_law_plain" (top 39))
 (D40:ay K mg "_law_product" (top 40))
 (D41:ay K mg "_law_sum" (top 41))
 (D42:ay K mg "_law_some" (top 42))
 (D45:ay K mg "_law_short" (top 45))
 (D46:ay K mg "_law_circle_at" (top 46))
 (D47:ay K mg "_law_line_at" (top 47))
 (D48:ay K mg "law" (top 48))
 : ∃ fd:FuncData,(∀ (s:Shared) (u:Value),BindsTo s fd ⟨[u],[]⟩ [("_law_script",u)])/\∀ base:Heap,K.In base->base.Ns mainGlobals mg->aZ P w K mg base (c9 P w) 20 fa fd ["_law_script"] (dM K zF):=by
 refine Classical.byContradiction λhG=>?_
 obtain ⟨f48,fd48,m48,Fu48⟩:=D48
 have e:=x8.symm.trans m48
 cases e
 refine hG ⟨fd48,?_,λbase _ _=>?_⟩
 ·obtain ⟨oc,od,kV,doc,pm,an,cdv,ct,osl,rfl,lk,hcd⟩:=Fu48.ex
  exact λs u=>.of_eq rfl
 have C2:=aO P w base D2 λu=>DI u T
 have C3:=aO P w base D3 λu=>Ba u T xPLACES
 have C4:=aO P w base D4 λu=>Hq u T xPLACES
 have C5:=aO P w base D5 λu=>DQ u T xPLACES C2
 have C6:=aO P w base D6 λu=>DR u T C4
 have C7:=aO P w base D7 λu=>Hw u T C5
 have C8:=vD P w base D8 λu=>Hu u T
 have C10:=aO P w base D10 λu=>Hx u T C3
 have C11:=vD P w base D11 λu=>Bw u T C6 C8
 have C12:=aO P w base D12 λu=>HA u T C10 C11 C7
 have C14:=aO P w base D14 λu=>Kn u
 have C15:=aO P w base D15 λu=>HU u
 have C16:=aO P w base D16 λu=>Ks u T
 have C16b:=aO P w base D16 λu=>Ku u T C15 C16
 have C18:=aO P w base D18 λu=>Kg u
 have C19:=aO P w base D19 λu=>HQ u
 have C20:=aO P w base D20 λu=>Kv u T C19 C15 C16b
 have C21:=aO P w base D21 λu=>Kh u
 have C22:=aO P w base D22 λu=>Kl u
 have C23:=aO P w base D23 λu=>Km u
 have C24:=aO P w base D24 λu=>Ko u
 have C25:=aO P w base D25 λu=>Kp u C14 C24
 have C26:=aO P w base D26 λu=>HY u C12 C18
 have C27:=aO P w base D27 λu=>Ig u C12 C20
 have C28:=aO P w base D28 λu=>HZ u C12 C21
 have C29:=aO P w base D29 λu=>Ia u C12 C22
 have C30:=aO P w base D30 λu=>Ib u C12 C23
 have C31:=aO P w base D31 λu=>Ic u C12 C25
 have C33:=aO P w base D33 λu=>Kq u C14
 have C34:=aO P w base D34 λu=>Kr u C14 C33
 have C35:=aO P w base D35 λu=>Ie u C12 C34
 have C37:=aO P w base D37 λu=>HJ u T
 have C38:=aO P w base D38 λu=>HL u T C37
 have C39:=aO P w base D39 λu=>A7 u T
 have C40:=aO P w base D40 λu=>HB u T C39
 have C41:=aO P w base D41 λu=>HG u T C39 C40
 have C42:=aO P w base D42 λu=>Eg u T C39
 have C45:=aO P w base D45 λu=>Ih u T C38 C42
 have C46:=aO P w base D46 λu=>Kw u C41
 have C47:=aO P w base D47 λu=>Kx u T C41
 exact (Iq Fu48 T C45 C41 C46 C47 C26 C28 C29 C30 C31 C35 C27).mono (by decide)
end
end My
open PySem PySem.W PyProof.Rows
local macro_rules | `(tactic| walk_at "dm")=> `(tactic| (dsimp only [L2.fc]; refine' EV.GD (by assumption) (by assumption) ?a ?l ?c ?k; (case a=>k_is); (case l=>k_is); (case c=>k_is); (case k=>k_is)))
set_option maxRecDepth 100000 in
set_option maxHeartbeats 0 in
theorem PySem.Challenge.cw_everydraw_k22_whole_circles_hold_holds : PySem.Challenge.rw_everydraw_k22_whole_circles_hold.Holds := by
 w_on; o_law; k_head; (case hw=>w_witness2)
 k_fill
 refine EV.walk (k:=20) (l:=PySem.Challenge.rw_everydraw_k22_whole_circles_hold) (by decide) rfl rfl (λw h Y=>PySem.W.kIn_of Y) ?F
 case F =>
  intro w mg fa h KX G hmg
  have D2:EV.ay (L2.fc KX) mg (Str.ofString "trimmed") (My.top 2):=by walk_at "dm"
  have D3:EV.ay (L2.fc KX) mg (Str.ofString "greatest_powers") (My.top 3):=by walk_at "dm"
  have D4:EV.ay (L2.fc KX) mg (Str.ofString "key_of") (My.top 4):=by walk_at "dm"
  have D5:EV.ay (L2.fc KX) mg (Str.ofString "powers_of") (My.top 5):=by walk_at "dm"
  have D6:EV.ay (L2.fc KX) mg (Str.ofString "packed") (My.top 6):=by walk_at "dm"
  have D7:EV.ay (L2.fc KX) mg (Str.ofString "unpacked") (My.top 7):=by walk_at "dm"
  have D8:EV.ay (L2.fc KX) mg (Str.ofString "add_products") (My.top 8):=by walk_at "dm"
  have D10:EV.ay (L2.fc KX) mg (Str.ofString "width_of") (My.top 10):=by walk_at "dm"
  have D11:EV.ay (L2.fc KX) mg (Str.ofString "add_part") (My.top 11):=by walk_at "dm"
  have D12:EV.ay (L2.fc KX) mg (Str.ofString "poly_total") (My.top 12):=by walk_at "dm"
  have D14:EV.ay (L2.fc KX) mg (Str.ofString "square_of_way") (My.top 14):=by walk_at "dm"
  have D15:EV.ay (L2.fc KX) mg (Str.ofString "without_place") (My.top 15):=by walk_at "dm"
  have D16:EV.ay (L2.fc KX) mg (Str.ofString "determinant") (My.top 16):=by walk_at "dm"
  have D18:EV.ay (L2.fc KX) mg (Str.ofString "round_rule") (My.top 18):=by walk_at "dm"
  have D19:EV.ay (L2.fc KX) mg (Str.ofString "round_row") (My.top 19):=by walk_at "dm"
  have D20:EV.ay (L2.fc KX) mg (Str.ofString "three_rule") (My.top 20):=by walk_at "dm"
  have D21:EV.ay (L2.fc KX) mg (Str.ofString "centre_rule") (My.top 21):=by walk_at "dm"
  have D22:EV.ay (L2.fc KX) mg (Str.ofString "polar_rule") (My.top 22):=by walk_at "dm"
  have D23:EV.ay (L2.fc KX) mg (Str.ofString "axis_rule") (My.top 23):=by walk_at "dm"
  have D24:EV.ay (L2.fc KX) mg (Str.ofString "middle_worth") (My.top 24):=by walk_at "dm"
  have D25:EV.ay (L2.fc KX) mg (Str.ofString "mirroredround_rule") (My.top 25):=by walk_at "dm"
  have D26:EV.ay (L2.fc KX) mg (Str.ofString "round_circle") (My.top 26):=by walk_at "dm"
  have D27:EV.ay (L2.fc KX) mg (Str.ofString "three_circle") (My.top 27):=by walk_at "dm"
  have D28:EV.ay (L2.fc KX) mg (Str.ofString "centre_point") (My.top 28):=by walk_at "dm"
  have D29:EV.ay (L2.fc KX) mg (Str.ofString "polar_line") (My.top 29):=by walk_at "dm"
  have D30:EV.ay (L2.fc KX) mg (Str.ofString "axis_line") (My.top 30):=by walk_at "dm"
  have D31:EV.ay (L2.fc KX) mg (Str.ofString "mirrored_circle") (My.top 31):=by walk_at "dm"
  have D33:EV.ay (L2.fc KX) mg (Str.ofString "foot_rule") (My.top 33):=by walk_at "dm"
  have D34:EV.ay (L2.fc KX) mg (Str.ofString "mirrored_rule") (My.top 34):=by walk_at "dm"
  have D35:EV.ay (L2.fc KX) mg (Str.ofString "mirrored_point") (My.top 35):=by walk_at "dm"
  have D37:EV.ay (L2.fc KX) mg (Str.ofString "_law_cell_at") (My.top 37):=by walk_at "dm"
  have D38:EV.ay (L2.fc KX) mg (Str.ofString "_law_digits") (My.top 38):=by walk_at "dm"
  have D39:EV.ay (L2.fc KX) mg (Str.ofString "_law_plain") (My.top 39):=by walk_at "dm"
  have D40:EV.ay (L2.fc KX) mg (Str.ofString "_law_product") (My.top 40):=by walk_at "dm"
  have D41:EV.ay (L2.fc KX) mg (Str.ofString "_law_sum") (My.top 41):=by walk_at "dm"
  have D42:EV.ay (L2.fc KX) mg (Str.ofString "_law_some") (My.top 42):=by walk_at "dm"
  have D45:EV.ay (L2.fc KX) mg (Str.ofString "_law_short") (My.top 45):=by walk_at "dm"
  have D46:EV.ay (L2.fc KX) mg (Str.ofString "_law_circle_at") (My.top 46):=by walk_at "dm"
  have D47:EV.ay (L2.fc KX) mg (Str.ofString "_law_line_at") (My.top 47):=by walk_at "dm"
  have D48:EV.ay (L2.fc KX) mg (Str.ofString "law") (My.top 48):=by walk_at "dm"
  have T:EV.Txt (L2.fc KX) mg:=by
   dsimp only [L2.fc]
   refine' EV.GG KX G ?z1 ?z2 ?z3 ?z4 ?z5 ?z6 ?z7 ?z8 ?z9 ?z10 ?z11 ?z12 ?z13 ?z14 ?z15 ?z16 ?z17 ?sib
   (case z1=>k_is)
   (case z2=>k_is)
   (case z3=>k_is)
   (case z4=>k_is)
   (case z5=>k_is)
   (case z6=>k_is)
   (case z7=>k_is)
   (case z8=>k_is)
   (case z9=>k_is)
   (case z10=>k_is)
   (case z11=>k_is)
   (case z12=>k_is)
   (case z13=>k_is)
   (case z14=>k_is)
   (case z15=>k_is)
   (case z16=>k_is)
   (case z17=>k_is)
   (case sib=>k_is)
  have xPLACES:∃ tk:Tok,mg (Str.ofString "PLACES")=some (.int 6 tk):=by
   refine' EV.int_mk KX G ?a
   (case a=>k_is)
  exact My.Ey hmg T xPLACES D2 D3 D4 D5 D6 D7 D8 D10 D11 D12 D14 D15 D16 D18 D19 D20 D21 D22 D23 D24 D25 D26 D27 D28 D29 D30 D31 D33 D34 D35 D37 D38 D39 D40 D41 D42 D45 D46 D47 D48
