import PyProof.Rows.All
import Wide.All
import OpenK.AllK
import Wide.FinOn
import PySem.Challenge.RW_everydraw_k16_whole_rules_at_places
namespace EV
theorem z2 {α β} {P:α->β->Prop} {G:Prop} (h:∃ a b,P a b) (k:∀ a b,P a b->G):G:=h.elim λa h=>h.elim (k a)
theorem z3 {α β γ} {P:α->β-> γ ->Prop} {G:Prop} (h:∃ a b c,P a b c) (k:∀ a b c,P a b c->G):G:=h.elim λa h=>z2 h (k a)
theorem z4 {α β γ δ} {P:α->β-> γ -> δ ->Prop} {G:Prop} (h:∃ a b c d,P a b c d) (k:∀ a b c d,P a b c d->G):G:=h.elim λa h=>z3 h (k a)
theorem z5 {α β γ δ ε} {P:α->β-> γ -> δ -> ε ->Prop} {G:Prop} (h:∃ a b c d e,P a b c d e) (k:∀ a b c d e,P a b c d e->G):G:=h.elim λa h=>z4 h (k a)
theorem w2 {a b G:Prop} (h:a/\b) (k:a->b->G):G:=k h.1 h.2
theorem w3 {a b c G:Prop} (h:a/\b/\c) (k:a->b->c->G):G:=w2 h.2 (k h.1)
theorem w4 {a b c d G:Prop} (h:a/\b/\c/\d) (k:a->b->c->d->G):G:=w3 h.2 (k h.1)
theorem w5 {a b c d e G:Prop} (h:a/\b/\c/\d/\e) (k:a->b->c->d->e->G):G:=w4 h.2 (k h.1)
theorem w6 {a b c d e f G:Prop} (h:a/\b/\c/\d/\e/\f) (k:a->b->c->d->e->f->G):G:=w5 h.2 (k h.1)
theorem w7 {a b c d e f g G:Prop} (h:a/\b/\c/\d/\e/\f/\g) (k:a->b->c->d->e->f->g->G):G:=w6 h.2 (k h.1)
theorem w8 {a b c d e f g i G:Prop} (h:a/\b/\c/\d/\e/\f/\g/\i) (k:a->b->c->d->e->f->g->i->G):G:=w7 h.2 (k h.1)
end EV
set_option genSizeOf false
set_option Elab.async false
set_option linter.all false
set_option maxRecDepth 100000
open PySem.Str renaming ofString->Rp
open PySem renaming wpAny_bind->Rq,wpAny_pure->Rt,Spec->Se,wpAny_mono->Sk,wpAny_field->SG,wpAny_rule->SM,wpAny_setField_rec->S9,wpAny_newObj_type->Td,wpAny_holding->Tw,wpAny_call_entry->TV,wpAny_Call_Name_kw->T6,Builtin->T9,wpAny_callSpecial?_slot->Ug,wpAny_passesOwn->UH,wpAny_seqItems->UJ,wpAny_typeOf->UM,wpAny_letGo->UQ,wpAny_truthy_bool->Vb,wpAny_attempt->Vg,mem_of_lookup->Vu,tupleKind_room_in1->Vw,wpAny_pyIter_list->Vx,codeAny_mono->VJ,wpAny_typeNameOfWhole_itemiter->VU,wpAny_typeNameOf_itemiter->VX,wpAny_isInstance->Wf,codeAny_builtin->Wi,wpAny_newTuple->Ws,wpAny_standAt->Wx,wpAny_onRaise->Wy,wpAny_newList->Wz,concat_meets->WC,wpAny_isOneOf_itemiter->W5,wpAny_updateSeq_pair->Xe,evalArgs_none->Xi,wpAny_pyIter_tuple->Xn,wpAny_sequenceKey->Xw,wpAny_dictEntries->Xx,wpAny_Call_method->Xy,slot_list_getitem->Xz,noFill_tuple_add->XN
open PySem.W renaming Frag->Rr,nsIn->SA,mg_none_of->SH,keepIn->TY,fnOf->Ub,findIn->Um,codeIn->Wv,callWith_K->Xp,specialIn->XA,methodObj->XC
open PyProof.Rows renaming wpS_bind->Ru,wpS_pure->Rw,wpS_mono->R9,wpS_forRange->SI,listUpdate_at->Tj,wpS_get->Tr,wpS_modify->TM,wpS_lift->Ux,listItems_at->UN,slot_tuple_getitem->UW,callWith_type1->UZ,seqEpoch_at->Vk,mirror_perm->VO,get?_update_seq->Wh,call_function_entry_kw->W6,assignInOrder_cons->Xo
open Nat renaming le_refl->Rv,le_trans->Rz,ne_of_lt->RW,zero_le->RY,lt_of_lt_of_le->R8,pow_le_pow_right->SD,le_of_lt->SY,lt_of_le_of_lt->Tc,lt_irrefl->Tp,mul_le_mul_left->TQ,mul_le_mul->TZ,lt_succ_self->T7,le_add_right->T8,zero_add->Uc,ne_of_gt->Uq,pow_add->UR,succ_mul->Vj,le_of_ble_eq_true->Vs,succ_le_succ->VB,min_eq_left->VC,add_assoc->VI,add_comm->VL,le_sub_one_of_lt->V7,mul_assoc->WA,pow_succ->WG,log2_lt->WO,one_le_iff_ne_zero->W8,add_sub_cancel'->Xj,lt_succ_of_lt->XD,le_succ_of_le->XE
open PySem.Heap renaming get?_push_of_some->Rx,lt_size->Ry,get?_push_size->RK,SameBut->Tt,size_push->Tu,get?_update_ne->T5,ExtBut->Uu,get?_update_other->V5,get?_push_ne->XJ,size_update->XW
open Int renaming gcd->RA,le_trans->R6,toNat_natCast->So,le_refl->SK,le_of_lt->TL,pow_pos->Ue,natAbs_mul->Uo,ne_of_gt->Ur,mul_comm->Us,add_mul->Ut,zero_mul->UP,gcd_pos_of_ne_zero_right->UY,mul_nonneg->Vf,mul_assoc->Vh,one_mul->Vm,toNat->Vp,emod_nonneg->VG,zero_add->VN,neg_gcd->VP,gcd_neg->VQ,fdiv_eq_ediv_of_nonneg->VW,lt_of_le_of_lt->Wa,mul_eq_zero->Wq,pow_succ->WI,add_zero->WJ,add_comm->WK,pow_add->WQ,neg_mul->WR,mul_fdiv_cancel->Xl,natCast_nonneg->Xr,mul_right_comm->Xs,emod_lt_of_pos->Xu,gcd_dvd_right->XI,gcd_dvd_left->XU,mul_le_mul_of_nonneg_right->X7
open List renaming length_map->RB,map_cons->RC,mem_cons_self->RD,replicate->RE,mem_cons_of_mem->RH,range->RI,getElem?_eq_some_iff->RJ,mem_cons->RL,mem_singleton->RN,getElem?_map->RO,size_toArray->RP,getElem?_eq_getElem->RU,length_append->R3,append_assoc->R4,mem_append->R5,mem_map->Sb,length_cons->Sf,getElem_mem->Sg,map_append->Si,getD_eq_getElem?_getD->Sj,length_take->Sq,map_map->Sv,append_nil->SJ,getElem?_set_self->SQ,getElem?_set_ne->SS,take_length->SX,take_succ_eq_append_getElem->S0,mem_append_right->S6,not_mem_nil->Te,foldl_cons->Tg,find?_cons->Th,length_singleton->Tz,getElem?_eq_none->TF,mem_of_getElem?->TH,replicate_succ->TR,filterMap_cons->TU,length_nil->TX,take_append_drop->T4,map_nil->Ud,map_congr_left->Ui,cons_append->Uk,nodup_cons->Ul,getElem?_append_left->Uz,filter_cons_of_pos->UA,take_of_length_le->UB,perm_append_comm->UE,flatten_cons->UG,forIn_cons->UI,sum_cons->UK,pairwise_singleton->U4,mem_of_mem_take->U6,getElem?_of_mem->U7,pairwise_cons->U9,getElem?_drop->Va,flatMap_cons->Vc,sum_append->Ve,length->Vl,getElem?_append_right->Vq,filter_cons_of_neg->Vr,getElem?_append->Vt,getElem?_range->Vv,pairwise_map->Vy,foldl_append->Vz,range_succ->VD,mem_filter->VE,foldr_cons->VF,zipWith->VM,foldl->VS,getElem?_take_of_lt->V0,mem_append_left->V8,take_sublist->Wb,length_range->Wc,ext_getElem?->Wd,of_mem_zip->Wn,nil_append->Wo,pairwise_iff_getElem->WT,eq_of_mem_replicate->WX,length_replicate->Xc,dropLast_eq_take->Xd,reverse_reverse->Xf,reverse_append->Xk,zip_cons_cons->Xq,take_add_one->XF,reverse_perm->XG,drop_sublist->XH,zipIdx_cons->XO,mem_flatMap->XQ,lookup_cons->XR,length_drop->XS,ext_getElem->XT,Pairwise->XY,drop_append_of_le_length->X9
open Bool renaming false_ne_true->RG,false_eq_true->Sn,not_true->UL,and_eq_true->Vd,eq_iff_iff->VH
open PySem.Expr renaming Name->RQ,Call->Sx,Subscript->Tv,BinOp->Vo
open Ne renaming symm->RS
open PySem.SeqAt renaming EqAt->RT,RcAt->US,RcNeAt->WD
open Option renaming map_eq_some_iff->RV,isSome_map->Uj,getD_some->Wg
open Array renaming getElem?_eq_getElem->RZ,toList_push->Sa,getElem?_toList->Sm,length_toList->Sy,toList_append->SW,ext'->Uw,perm_iff_toList_perm->U1,getElem?_eq_some_iff->U3,toList_reverse->U8,getElem?_extract->V6,getElem?_eq_none->Xa,mem_toList_iff->Xh,getElem_mem->XM,toList_map->XX,toList_eraseIdxIfInBounds->X6
open Sum renaming inl->R0,inr->Uy
open PySem.Value renaming ref->R1,type->SN,none->Tq,int->UT
open PySem.Obj renaming mapSeq->R7
open Rat renaming intCast_mul->Ss,num_eq_zero->Tf,intCast_pow->Wj,intCast_inj->Wl,intCast_add->Wm
open ForInStep renaming yield->Su,done->Ti
open PySem.Env renaming kindOf->Sw
open PySem.Builtin.Int renaming intBits->SE
open False renaming elim->SO
open PySem.Paired renaming length->To,snoc->WN
open Option.some renaming inj->TJ
open PySem.Builtin.SmallTypes renaming nextOf->TN,ownedTupleIsFree->VT,ownedTupleHandOut->X0
open PySem.NameKind renaming free->Ua
open PySem.Builtin.List renaming listUpdate->Uh,listItems->UD,listLengthHint->U0,listExtendWith->VV,listTooLong->WY
open PyProof.Rows.SortSt renaming mk'->Uv
open Lean renaming mkPrivateNameCore->UC,mkIdent->UO
open PySem.Data renaming cell->UU,fields->VR
open PySem.F renaming slot_dict_itemiterator_next->UX,plain_extend_loop->VY,slot_dict_items->We,slot_zip_next->Wr,args_tuple_add_2->WV,entry_tuple_add->WZ,slot_tuple_add->W7,slot_dict_get->Xb,args_dict_itemiterator_next_1->X5,entry_dict_itemiterator_next->X8,slot_dict_itemiterator_iter->Yb
open List.Perm renaming append_left->U5
open True renaming intro->Vn
open List.Pairwise renaming nil->VA,filter->Xg
open PySem.Builtin.Slice renaming slicePlaces->VZ,sliceAdjust->WU
open PySem.Builtin.Tuple renaming tupleExact->V1
open PySem.AutoSeq1 renaming wpAny_loadPart'->V2
open PySem.Builtin.Range renaming rangeSize->V4
open PySem.Around renaming under_plainId->V9
open PySem.Stmt renaming AugAssign->Wt,Assign->WM
open Quotient renaming sound->Wu
open PySem.Builtin renaming bitAnd->Ww
open Function renaming comp->WB
open PySem.Operator renaming Add->WE
open PySem.Builtin.Dict_items renaming pairFromOwner->WS,ownedTupleIsFree->X3,ownedTupleFields->X4
open PyProof renaming noPylong_of_log2->WW
open PySem.Calls renaming callWith_builtin->W9,spliced_cons->Xv
open PySem.Heap.SameBut renaming update->Xm
open PySem.Challenge renaming rw_everydraw_k16_whole_rules_at_places->XZ
namespace PySem.W.Fast
theorem tw3970839439721455557:True:=⟨⟩
theorem tw16700952016947840486:True:=⟨⟩
theorem tw830836157536115711:True:=⟨⟩
theorem tw7615947314384369313:True:=⟨⟩
theorem tw5544140969589337707:True:=⟨⟩
theorem tw13637443974867120934:True:=⟨⟩
theorem tw8533062961238785585:True:=⟨⟩
theorem tw8969573998958327496:True:=⟨⟩
theorem tw13270016674967055000:True:=⟨⟩
theorem tw3990526373674675757:True:=⟨⟩
theorem tw14782819266731837900:True:=⟨⟩
theorem tw18058246953602848101:True:=⟨⟩
theorem tw5300771287392544150:True:=⟨⟩
theorem tw1767999741640263177:True:=⟨⟩
theorem tw15255428743662765243:True:=⟨⟩
theorem tw1807719117905900817:True:=⟨⟩
theorem tw732873447420132166:True:=⟨⟩
theorem tw13642504677964652422:True:=⟨⟩
theorem tw13537928550394651157:True:=⟨⟩
theorem tw6162928550872431816:True:=⟨⟩
theorem tw5612977323379736948:True:=⟨⟩
theorem tw6880393495288180208:True:=⟨⟩
theorem tw1492270730773707870:True:=⟨⟩
theorem tw5436055642431282664:True:=⟨⟩
theorem tw7589838408686651432:True:=⟨⟩
theorem tw17565481504943489410:True:=⟨⟩
theorem tw12966759511407493491:True:=⟨⟩
theorem tw7305166760187242235:True:=⟨⟩
theorem tw7125998494242335409:True:=⟨⟩
theorem tw15597801440510202646:True:=⟨⟩
theorem tw14533633844418181132:True:=⟨⟩
theorem tw10748646992475338979:True:=⟨⟩
theorem tw10451605399710445925:True:=⟨⟩
theorem tw2835587994036928819:True:=⟨⟩
theorem tw3139198352100335123:True:=⟨⟩
theorem tw3364947033111085223:True:=⟨⟩
theorem tw15563413792937300719:True:=⟨⟩
theorem tw13617359110672496636:True:=⟨⟩
theorem tw17124675401640917639:True:=⟨⟩
theorem tw1676480869045613288:True:=⟨⟩
theorem tw10200058161094414056:True:=⟨⟩
theorem tw5007897744858158183:True:=⟨⟩
theorem tw11898959411118247151:True:=⟨⟩
theorem tw3955844336071661831:True:=⟨⟩
theorem tw13254183816368262285:True:=⟨⟩
theorem tw5899726994738810533:True:=⟨⟩
theorem tw13049763405362730146:True:=⟨⟩
theorem tw6859718439253029056:True:=⟨⟩
theorem tw16918690301192655120:True:=⟨⟩
theorem tw7839155084023834078:True:=⟨⟩
theorem tw11419041536038172106:True:=⟨⟩
theorem tw6126696183021697028:True:=⟨⟩
theorem tw17556706270823034440:True:=⟨⟩
theorem tw273583735278370945:True:=⟨⟩
theorem tw8624686991156941996:True:=⟨⟩
theorem tw6616392242505813854:True:=⟨⟩
theorem tw2862255748538188810:True:=⟨⟩
theorem tw1505474956852377761:True:=⟨⟩
theorem tw9867839908790149746:True:=⟨⟩
theorem tw17750824222632500472:True:=⟨⟩
theorem tw12093639623757564635:True:=⟨⟩
theorem tw17835832957946439399:True:=⟨⟩
theorem tw18065556613066116147:True:=⟨⟩
theorem tw1971132072777132703:True:=⟨⟩
theorem tw17446873759874500431:True:=⟨⟩
theorem tw9640177047387122572:True:=⟨⟩
theorem tw2362782184625415159:True:=⟨⟩
theorem tw14755709793330977336:True:=⟨⟩
theorem tw15725271738112399256:True:=⟨⟩
theorem tw15271160466094088091:True:=⟨⟩
theorem tw13166662727468676466:True:=⟨⟩
theorem tw10315418320450333841:True:=⟨⟩
theorem tw7711365987501848122:True:=⟨⟩
theorem tw4293054493283094216:True:=⟨⟩
theorem tw18345764877143377762:True:=⟨⟩
theorem tw6351437598571232965:True:=⟨⟩
theorem tw17306824460260483792:True:=⟨⟩
theorem tw11877420093962323681:True:=⟨⟩
theorem tw14916706958080001188:True:=⟨⟩
theorem tw6398194994955250191:True:=⟨⟩
theorem tw6249477601047905540:True:=⟨⟩
theorem tw7808588988656020552:True:=⟨⟩
theorem tw7515620111448303210:True:=⟨⟩
theorem tw940214615487434178:True:=⟨⟩
theorem tw3482950154065949894:True:=⟨⟩
theorem tw11405611752715913335:True:=⟨⟩
theorem tw11580345932668889629:True:=⟨⟩
theorem tw14171059625437470468:True:=⟨⟩
theorem tw3602882823703402368:True:=⟨⟩
theorem tw8469301068473712359:True:=⟨⟩
theorem tw12563101712385647092:True:=⟨⟩
theorem tw3961757397796686795:True:=⟨⟩
theorem tw7010643161066491411:True:=⟨⟩
theorem tw14211273748631339177:True:=⟨⟩
theorem tw9173554156527055099:True:=⟨⟩
theorem tw11939918942191638496:True:=⟨⟩
theorem tw16807186322771237206:True:=⟨⟩
theorem tw16210736774873210294:True:=⟨⟩
theorem tw17311490844342649724:True:=⟨⟩
theorem tw13523563466410647514:True:=⟨⟩
theorem tw6590419567188865784:True:=⟨⟩
theorem tw16996650205696367815:True:=⟨⟩
theorem tw3939027749976364582:True:=⟨⟩
theorem tw14658552820896396456:True:=⟨⟩
theorem tw5707655482284667202:True:=⟨⟩
theorem tw16759326201429210981:True:=⟨⟩
theorem tw2355226238383220839:True:=⟨⟩
theorem tw1362736101752443107:True:=⟨⟩
theorem tw7206103779153764293:True:=⟨⟩
theorem tw6581061729678756246:True:=⟨⟩
theorem tw7794964831948229461:True:=⟨⟩
theorem tw9366536351191106535:True:=⟨⟩
theorem tw16835425366339016740:True:=⟨⟩
theorem tw10586356680526930383:True:=⟨⟩
theorem tw883017412589574724:True:=⟨⟩
theorem tw9840728733156692955:True:=⟨⟩
theorem tw2717922183263789059:True:=⟨⟩
theorem tw16269122700384318843:True:=⟨⟩
theorem tw7339290034730868371:True:=⟨⟩
theorem tw17648513808236332966:True:=⟨⟩
theorem tw9097894866663493325:True:=⟨⟩
theorem tw15433256853851768210:True:=⟨⟩
theorem tw445148123215340477:True:=⟨⟩
theorem tw12765831998877643242:True:=⟨⟩
theorem tw3157015473936450935:True:=⟨⟩
theorem tw3245113968852868602:True:=⟨⟩
theorem tw96241862249837181:True:=⟨⟩
theorem tw14607497953991941459:True:=⟨⟩
theorem tw2416384653843736001:True:=⟨⟩
theorem tw15049901856563779372:True:=⟨⟩
theorem tw15901208443243402888:True:=⟨⟩
theorem tw10267092694983923498:True:=⟨⟩
theorem tw6297306108016569552:True:=⟨⟩
theorem tw11591488763844076658:True:=⟨⟩
theorem tw4384975581218587043:True:=⟨⟩
theorem tw11389547783020262260:True:=⟨⟩
theorem tw14713333877957255186:True:=⟨⟩
theorem tw11084481169154603517:True:=⟨⟩
theorem tw12153083350911322078:True:=⟨⟩
theorem tw15317447844250899278:True:=⟨⟩
theorem tw13350036995012012853:True:=⟨⟩
theorem tw15168663476022074218:True:=⟨⟩
theorem tw10818804747624376496:True:=⟨⟩
theorem tw17138394913573615819:True:=⟨⟩
theorem tw18038943630789124510:True:=⟨⟩
theorem tw803656525809861389:True:=⟨⟩
theorem tw6411127226893159593:True:=⟨⟩
theorem tw13835116396269122628:True:=⟨⟩
theorem tw3945808950699424422:True:=⟨⟩
theorem tw10786473883694049496:True:=⟨⟩
theorem tw14149302005931872474:True:=⟨⟩
theorem tw14921085080920418173:True:=⟨⟩
theorem tw14486406571762241382:True:=⟨⟩
theorem tw4883239112659766553:True:=⟨⟩
theorem tw3922780934320469718:True:=⟨⟩
theorem tw10340667043300380330:True:=⟨⟩
theorem tw6400376604911636761:True:=⟨⟩
theorem tw7765936133060072127:True:=⟨⟩
theorem tw17355797311703971035:True:=⟨⟩
theorem tw44361249026079842:True:=⟨⟩
theorem tw7483030027050233842:True:=⟨⟩
theorem tw2438536302835108891:True:=⟨⟩
theorem tw11728627545363005032:True:=⟨⟩
theorem tw15376563549579672692:True:=⟨⟩
theorem tw10391712402238156997:True:=⟨⟩
theorem tw7551564438926008457:True:=⟨⟩
theorem tw13882568652296204651:True:=⟨⟩
theorem tw2561795918523430974:True:=⟨⟩
theorem tw17859008208127103527:True:=⟨⟩
theorem tw14299818849318813686:True:=⟨⟩
theorem tw13474429562628192571:True:=⟨⟩
theorem tw12767852300501571885:True:=⟨⟩
theorem tw14459283354190525958:True:=⟨⟩
theorem tw16652259397559891510:True:=⟨⟩
theorem tw14128359078440707710:True:=⟨⟩
theorem tw9061839533122645539:True:=⟨⟩
theorem tw7173800232965408931:True:=⟨⟩
theorem tw6264650766195129314:True:=⟨⟩
theorem tw1992454419850176462:True:=⟨⟩
theorem tw13713745680597693794:True:=⟨⟩
theorem tw7112639974431954652:True:=⟨⟩
theorem tw15220984900001892265:True:=⟨⟩
theorem tw14093156853982322691:True:=⟨⟩
theorem tw17088326903553655776:True:=⟨⟩
theorem tw17544831624210870178:True:=⟨⟩
theorem tw7310422923997442728:True:=⟨⟩
theorem tw5989766064719792705:True:=⟨⟩
theorem tw7835012670490475654:True:=⟨⟩
theorem tw7112662907831106401:True:=⟨⟩
theorem tw11221903885054572818:True:=⟨⟩
theorem tw16852413596721902353:True:=⟨⟩
theorem tw15893389105472333548:True:=⟨⟩
theorem tw2183577583838129323:True:=⟨⟩
theorem tw6080952352702018858:True:=⟨⟩
theorem tw1421067548019452584:True:=⟨⟩
theorem tw16559005597220247129:True:=⟨⟩
theorem tw7861828552406855629:True:=⟨⟩
theorem tw10839626935594910777:True:=⟨⟩
theorem tw189235232286989901:True:=⟨⟩
theorem tw4084851561277931597:True:=⟨⟩
theorem tw4103225591731100199:True:=⟨⟩
theorem tw17297463278226583439:True:=⟨⟩
theorem tw14471135273607621520:True:=⟨⟩
theorem tw5465779332107142348:True:=⟨⟩
theorem tw11191609272621402823:True:=⟨⟩
end PySem.W.Fast
local macro_rules | `(tactic| walk_at "u") => `(tactic| with_unfolding_all rfl)
namespace L2
open PySem PySem.Spec PyProof.Rows
noncomputable abbrev Key:=Sum Int Str
noncomputable def kr:Key->Value->Bool
 | .inl k,v=>Value.isInt k v
 | .inr x,v=>Value.isStrOf x v
noncomputable def OZ (w:World):Key->Int
 | .inl k=>hashInt k
 | .inr x=>hashStr w x
theorem bJ:∀ {k:Key} {v:Value},kr k v=true->(∃ i t,k=R0 i/\v=UT i t)\/(∃ x t,k=Uy x/\v=Value.str x t)
 | .inl i,v,h=>by
  obtain ⟨t,e⟩:=Value.isInt_shape (k:=i) (v:=v) h
  exact .inl ⟨i,t,rfl,e⟩
 | .inr x,v,h=>by
  obtain ⟨t,e⟩:=Value.isStrOf_shape (x:=x) (v:=v) h
  exact .inr ⟨x,t,rfl,e⟩
theorem yb (i) (t:Tok):kr (.inl i) (.int i t)=true:=by simp [kr,Value.isInt]
theorem yc (x) (t:Tok):kr (.inr x) (.str x t)=true:=by simp [kr,Value.isStrOf]
theorem Ij (a b):decide ((R0 a:Key)=R0 b)=(a == b):=by
 by_cases e:a=b
 ·subst e; simp
 ·have h:¬ (R0 a:Key)=R0 b:=λq=>e (R0.inj q)
  rw [decide_eq_false h]
  exact (beq_eq_false_iff_ne.mpr e).symm
theorem Ik (a b):decide ((Uy a:Key)=Uy b)=decide (a=b):=by
 by_cases e:a=b
 ·subst e; simp
 ·have h:¬ (Uy a:Key)=Uy b:=λq=>e (Uy.inj q)
  rw [decide_eq_false h,decide_eq_false e]
theorem Il (a) (b):decide ((R0 a:Key)=Uy b)=false:=decide_eq_false (λq=>nomatch q)
theorem Im (a) (b):decide ((Uy a:Key)=R0 b)=false:=decide_eq_false (λq=>nomatch q)
noncomputable def bO (prog:Program) (w:World):PySem.KeyKind prog w Key where
 is:=kr
 hash:=OZ w
 inj:=λv a b ha hb=>by
  rcases bJ ha with ⟨i,t,rfl,rfl⟩ | ⟨x,t,rfl,rfl⟩
  ·rcases bJ hb with ⟨j,u,rfl,e⟩ | ⟨y,u,rfl,e⟩
   ·injection e with e1 _; rw [e1]
   ·exact nomatch e
  ·rcases bJ hb with ⟨j,u,rfl,e⟩ | ⟨y,u,rfl,e⟩
   ·exact nomatch e
   ·injection e with e1 _; rw [e1]
 byValue:=λk v h=>by
  rcases bJ h with ⟨i,t,rfl,rfl⟩ | ⟨x,t,rfl,rfl⟩ <;> rfl
 pyHash:=λhv h=>by
  rcases bJ hv with ⟨i,t,rfl,rfl⟩ | ⟨x,t,rfl,rfl⟩
  ·exact wpAny_pyHash_int h
  ·exact wpAny_pyHash_str h
 eqBool:=λhu hv h=>by
  rcases bJ hu with ⟨i,t,rfl,rfl⟩ | ⟨x,t,rfl,rfl⟩
  ·rcases bJ hv with ⟨j,u,rfl,rfl⟩ | ⟨y,u,rfl,rfl⟩
   ·rw [Ij] at h; exact wpAny_eqBool_int h
   ·rw [Il] at h; exact RT.int_str i t y u _ _ _ _ h
  ·rcases bJ hv with ⟨j,u,rfl,rfl⟩ | ⟨y,u,rfl,rfl⟩
   ·rw [Im] at h; exact RT.str_int x t j u _ _ _ _ h
   ·rw [Ik] at h; exact wpAny_eqBool_str h
 «strs» :=λk x t v h=>by
  rcases bJ h with ⟨i,u,rfl,e⟩ | ⟨y,u,rfl,e⟩
  ·exact nomatch e
  ·injection e with e1 _
   subst e1
   cases v <;> rfl
theorem qy (prog) (w) (i) (t:Tok):(bO prog w).is (.inl i) (.int i t)=true:=yb i t
theorem qz (prog) (w) (x) (t:Tok):(bO prog w).is (.inr x) (.str x t)=true:=yc x t
inductive V where
 | non | bl (b:Bool) | int (i:Int) | str (x:Str) | byt (b:Array UInt8) | flt (b:UInt64) | ref (a:Addr) | ty (n:String)
 deriving DecidableEq
noncomputable def RelV:V->Value->Prop
 | .non,u=>u=Tq
 | .bl b,u=>u=Value.bool b
 | .int i,u=>∃ t,u=UT i t
 | .str x,u=>∃ t,u=Value.str x t
 | .byt b,u=>∃ t,u=Value.bytes b t
 | .flt b,u=>∃ t,u=Value.float b t
 | .ref a,u=>u=R1 a
 | .ty n,u=>u=SN n
noncomputable abbrev Vals:List V->List Value->Prop:=Paired RelV
theorem Vals.length (r:Vals xs us):xs.length=us.length:=To r
theorem Vals.get:∀ {xs:List V} {us:List Value} {i:Nat} {x:V},Vals xs us->xs[i]?=some x->∃ u,us[i]?=some u/\RelV x u
 | _,_,_,_,.nil,e=>by simp at e
 | _,_,0,_,.cons r _,e=>by simp at e; subst e; exact ⟨_,rfl,r⟩
 | _,_,i+1,x,.cons _ t,e=>by
  obtain ⟨u,h1,h2⟩:=Vals.get (i:=i) (x:=x) t (by simpa using e)
  exact ⟨u,by simpa using h1,h2⟩
theorem Vals.set (r:RelV x u):∀ {xs:List V} {us:List Value} (i:Nat),Vals xs us->Vals (xs.set i x) (us.set i u)
 | _,_,_,.nil=>.nil
 | _,_,0,.cons _ t=>.cons r t
 | _,_,i+1,.cons q t=>.cons q (Vals.set r i t)
theorem Vals.append:∀ {xs ys:List V} {us ws:List Value},Vals xs us->Vals ys ws->Vals (xs++ys) (us++ws)
 | _,_,_,_,.nil,s=>s
 | _,_,_,_,.cons r t,s=>.cons r (Vals.append t s)
theorem Vals.take:∀ {xs:List V} {us:List Value} (n:Nat),Vals xs us->Vals (xs.take n) (us.take n)
 | _,_,0,_=>.nil
 | _,_,_+1,.nil=>.nil
 | _,_,n+1,.cons r t=>.cons r (Vals.take n t)
theorem Vals.drop:∀ {xs:List V} {us:List Value} (n:Nat),Vals xs us->Vals (xs.drop n) (us.drop n)
 | _,_,0,r=>r
 | _,_,_+1,.nil=>.nil
 | _,_,n+1,.cons _ t=>Vals.drop n t
noncomputable def jP:Option V->Option Value->Prop
 | some v,some u=>RelV v u
 | none,none=>True
 | _,_=>False
noncomputable def KV {κ:Type}:List (κ×V)->List (κ×Value)->Prop:=Paired λ(p:κ×V) (q:κ×Value)=>p.1=q.1/\RelV p.2 q.2
noncomputable def kV:Key->V
 | .inl i=>.int i
 | .inr x=>.str x
inductive HO where
 | lst (xs:List V)
 | tup (xs:List V)
 | dK (kvs:List (Key×V)) | dT (kvs:List (List Key×Addr×V))
 | set (S:Int->Bool) (n:Nat)
 | ins (C dx:Addr) (fs:List (Str×V))
 | own (x:Addr)
 | xd (fs:List (Str×V))
 | met (f x:Addr)
 | rng (lo hi:Int)
 | frz (o:Obj) (u:HO)
 | tbl (ps:Array Value)
 | ext (φ :Heap->Prop)
noncomputable abbrev Hp:=Addr->Option HO
noncomputable def upd (H:Hp) (a:Addr) (o:HO):Hp:=λb=>if b=a then some o else H b
theorem af:upd H a o a=some o:=by unfold upd; rw [if_pos rfl]
theorem av (h:b≠a):upd H a o b=H b:=by unfold upd; rw [if_neg h]
theorem oq:upd (upd H a o) a u=upd H a u:=by
 funext b; unfold upd; split <;> rfl
theorem aF {H:Hp} (h:H a=some o) (h':H b=none):a≠b:=by
 intro e; subst e; rw [h] at h'; cases h'
section
variable (P:Program) (w:World)
noncomputable def bu (H:Hp) (h:Heap) (a:Addr):HO->Prop
 | .lst xs=>xs.length<=sizeLine/\∃ (its:List Value) (n:Nat),Vals xs its/\h.get? a=some { cls:=.type "list",data:=.seq its.toArray n }
 | .tup xs=>xs.length<=sizeLine/\∃ its:List Value,Vals xs its/\IsTup h a its.toArray
 | .dK kvs=>kvs.length<=sizeLine/\(a == sysModules)=false/\∃ vs,KV kvs vs/\h.DictOf (bO P w) a vs
 | .dT kvs=>kvs.length<=sizeLine/\(a == sysModules)=false/\∃ xs:List (List Key×Addr×Value),
  Paired (λ(p:List Key×Addr×V) (q:List Key×Addr×Value)=>p.1=q.1/\p.2.1=q.2.1/\RelV p.2.2 q.2.2) kvs xs /\
  ∃ o es ep,h.get? a=some o/\o.ExactDict/\o.data=.dict es ep/\es.toList=xs.map (entryOfKey (tupleKind (bO P w)))/\(xs.map (·.1)).Nodup
 | .set S n=>h.SetOf (intKind P w) a S n
 | .ins C dx fs=>H dx=some (.own a)/\fs.length<=1000/\dx≠a/\h.get? a=some (PySem.W.instObj C dx) /\
  ∃ mA,h.Ns1 dx mA/\(∀ f,jP (fs.lookup f) (mA f))/\PySem.Within mA (fs.map (·.1))
 | .own _=>∃ o,h.get? a=some o
 | .xd fs=>∃ mA,h.Ns1 a mA/\∀ f,jP (fs.lookup f) (mA f)
 | .rng lo hi=>∃ t u v,h.get? a=some { cls:=.type "range",data:=.fields #[.int lo t,.int hi u,.int 1 v] }
 | .frz o u=>h.get? a=some o/\bu H h a u
 | .tbl ps=>h.get? a=some { cls:=.none,data:=.fields ps }
 | .met f x=>h.get? a=some (XC (.ref f) (.ref x))
 | .ext φ => φ h/\(∃ o,h.get? a=some o)/\∀ h1 h2:Heap,φ h1->(∀ o,h1.get? a=some o->h2.get? a=some o)-> φ h2
def jd (H:Hp) (h:Heap):Prop:=∀ a o,H a=some o->bu P w H h a o
end
theorem bu.lt (x:bu P w H h a o):a<h.objs.size:=by
 cases o with
 | lst xs=>obtain ⟨_,_,_,_,e⟩:=x; exact Ry e
 | tup xs=>obtain ⟨_,_,_,p⟩:=x; exact p.lt
 | dK kvs=>obtain ⟨_,_,_,_,o,_,_,e,_⟩:=x; exact Ry e
 | dT kvs=>obtain ⟨_,_,_,_,o,_,_,e,_⟩:=x; exact Ry e
 | set S n=>obtain ⟨o,_,_,_,e,_⟩:=x; exact Ry e
 | ins C dx fs=>obtain ⟨_,_,_,e,_⟩:=x; exact Ry e
 | own y=>obtain ⟨_,e⟩:=x; exact Ry e
 | xd fs=>obtain ⟨_,⟨_,_,_,e,_⟩,_⟩:=x; exact Ry e
 | rng lo hi=>obtain ⟨_,_,_,e⟩:=x; exact Ry e
 | frz ob u=>obtain ⟨e,_⟩:=x; exact Ry e
 | tbl ps=>exact Ry (show h.get? a=some _ from x)
 | met f y=>exact Ry (show h.get? a=some _ from x)
 | ext φ =>obtain ⟨_,⟨_,e⟩,_⟩:=x; exact Ry e
theorem Paired.Io:∀ {l₁:List α} {l₂:List β},Paired F l₁ l₂->(∀ a b,F a b->G a b)->Paired G l₁ l₂
 | _,_,.nil,_=>.nil
 | _,_,.cons r t,f=>.cons (f _ _ r) (Paired.Io t f)
theorem bu.stay (x:bu P w H h a o) (k:∀ b u,(b=a\/H b=some (.own a))->h.get? b=some u->h'.get? b=some u)
 (ho:∀ b,H b=some (.own a)->H' b=some (.own a)) (ht:∀ b xs,H b=some (.tup xs)->H' b=some (.tup xs)):bu P w H' h' a o:=by
 induction o with
 | lst xs=>obtain ⟨z,its,n,r,e⟩:=x; exact ⟨z,its,n,r,k _ _ (.inl rfl) e⟩
 | tup xs=>obtain ⟨z,its,r,ob,e,c⟩:=x; exact ⟨z,its,r,ob,k _ _ (.inl rfl) e,c⟩
 | dK kvs=>obtain ⟨z,y,vs,r,ob,es,ep,e,c⟩:=x; exact ⟨z,y,vs,r,ob,es,ep,k _ _ (.inl rfl) e,c⟩
 | dT kvs =>
  obtain ⟨z,y,xs,r,ob,es,ep,e,c⟩:=x
  exact ⟨z,y,xs,r,ob,es,ep,k _ _ (.inl rfl) e,c⟩
 | set S n=>obtain ⟨ob,es,ep,t,e,c⟩:=x; exact ⟨ob,es,ep,t,k _ _ (.inl rfl) e,c⟩
 | ins C dx fs =>
  obtain ⟨d,z,ne,e,mA,⟨od,es,ep,e2,c⟩,r⟩:=x
  exact ⟨ho _ d,z,ne,k _ _ (.inl rfl) e,mA,⟨od,es,ep,k _ _ (.inr d) e2,c⟩,r⟩
 | own y=>obtain ⟨ob,e⟩:=x; exact ⟨ob,k _ _ (.inl rfl) e⟩
 | xd fs=>obtain ⟨mA,⟨od,es,ep,e,c⟩,r⟩:=x; exact ⟨mA,⟨od,es,ep,k _ _ (.inl rfl) e,c⟩,r⟩
 | rng lo hi=>obtain ⟨t,u,v,e⟩:=x; exact ⟨t,u,v,k _ _ (.inl rfl) e⟩
 | frz ob u ih=>obtain ⟨e,q⟩:=x; exact ⟨k _ _ (.inl rfl) e,ih q⟩
 | tbl ps =>
  have e:h.get? a=some { cls:=.none,data:=.fields ps }:=x
  show h'.get? a=some { cls:=.none,data:=.fields ps }
  exact k a _ (.inl rfl) e
 | met f y =>
  have e:h.get? a=some (XC (.ref f) (.ref y)):=x
  show h'.get? a=some (XC (.ref f) (.ref y))
  exact k a _ (.inl rfl) e
 | ext φ =>obtain ⟨p,⟨o,e⟩,st⟩:=x; exact ⟨st _ _ p λo q=>k _ _ (.inl rfl) q,⟨o,k _ _ (.inl rfl) e⟩,st⟩
theorem jd.lt (x:jd P w H h) (e:H a=some o):a<h.objs.size:=(x a o e).lt
theorem jd.fresh (x:jd P w H h) (e:h.objs.size<=a):H a=none:=by
 cases q:H a with
 | none=>rfl
 | some u=>exact absurd (R8 (x.lt q) e) (Tp _)
theorem jd.kept (x:jd P w H h) (k:∀ b u,h.get? b=some u->h'.get? b=some u):jd P w H h':=λa o e =>
 (x a o e).stay (λb u _ q=>k b u q) (λ_ q=>q) λ_ _ q=>q
theorem jd.laid (x:jd P w H h) (k:∀ b u,h.get? b=some u->h'.get? b=some u) (hp:h.objs.size<=a) (new:bu P w (upd H a o) h' a o):jd P w (upd H a o) h':=λb u e=>by
 have hn:=x.fresh hp
 by_cases hb:b=a
 ·subst hb; rw [af] at e; cases e; exact new
 ·rw [av hb] at e
  exact (x b u e).stay (λc v _ q=>k c v q) (λc q=>by rw [av (aF q hn)]; exact q) λc xs q=>by rw [av (aF q hn)]; exact q
def Rd (H:Hp) (a:Addr) (u:HO):Prop:=H a=some u\/∃ o,H a=some (.frz o u)
theorem Rd.ok (r:Rd H a u) (x:jd P w H h):bu P w H h a u:=by
 rcases r with r | ⟨o,r⟩
 ·exact x a u r
 ·obtain ⟨_,q⟩:=x a _ r
  exact q
noncomputable def LV:Option HO->Prop
 | some (.lst _)=>True
 | some (.dK _)=>True
 | some (.dT _)=>True
 | some (.set _ _)=>True
 | some (.ins _ _ _)=>True
 | some (.ext _)=>True
 | _=>False
theorem jd.write (ok:jd P w H h) (mu:LV (H x)) (he:e=x\/H e=some (.own x)) (k:∀ b u,b≠e->h.get? b=some u->h'.get? b=some u) (heo:∃ u,h'.get? e=some u)
 (new:bu P w (upd H x o') h' x o'):jd P w (upd H x o') h':=λb u q=>by
 have nown:∀ c y,H c=some (.own y)->c≠x:=λc y r z=>by subst z; rw [r] at mu; exact mu
 have ntup:∀ c xs,H c=some (.tup xs)->c≠x:=λc xs r z=>by subst z; rw [r] at mu; exact mu
 by_cases hb:b=x
 ·subst hb; rw [af] at q; cases q; exact new
 ·rw [av hb] at q
  by_cases hbe:b=e
  ·have q':H b=some (.own x):=by
    rcases he with z | z
    ·exact absurd (hbe.trans z) hb
    ·rw [hbe]; exact z
   rw [q] at q'; cases q'
   obtain ⟨v,hv⟩:=heo
   exact ⟨v,by rw [hbe]; exact hv⟩
  ·refine (ok b u q).stay (λc v hc r=>k c v ?_ r) (λc r=>by rw [av (nown c b r)]; exact r) λc xs r=>by rw [av (ntup c xs r)]; exact r
   rcases hc with rfl | hc
   ·exact hbe
   ·rintro rfl
    rcases he with z | z
    ·exact nown c b hc z
    ·rw [hc] at z; cases z; exact hb rfl
structure Un (fs ex:List Addr) (H H':Hp) (h h':Heap):Prop where
 keep:∀ b o,h.get? b=some o->H b=none->b∉fs->b∉ex->h'.get? b=some o
 slot:∀ b o,h.get? b=some o->H b=none->b∈fs->b∉ex->∃ sl,h'.get? b=some { o with slots:=sl }
 free:∀ b o,h.get? b=some o->H b=none->b∉ex->H' b=none
 there:∀ b o,h.get? b=some o->b∉ex->∃ o',h'.get? b=some o'
 tups:∀ b xs,H b=some (.tup xs)->H' b=some (.tup xs)
 frzs:∀ b o u,H b=some (.frz o u)->H' b=some (.frz o u)
 tbls:∀ b ps,H b=some (.tbl ps)->∃ more,H' b=some (.tbl (ps++more))
section
variable {fs fs' ex ex':List Addr} {H H1 H2:Hp} {h h1 h2 h':Heap} {a x e:Addr} {o:HO}
theorem Un.any (u:Un fs ex H H1 h h1) (q:h.get? b=some ob) (n:H b=none) (hx:b∉ex):∃ sl,h1.get? b=some { ob with slots:=sl }:=by
 by_cases hb:b∈fs
 ·exact u.slot b ob q n hb hx
 ·exact ⟨ob.slots,u.keep b ob q n hb hx⟩
theorem Un.kept (k:∀ b u,h.get? b=some u->h'.get? b=some u):Un fs ex H H h h' :=
 ⟨λb ob q _ _ _=>k b ob q,λb ob q _ _ _=>⟨ob.slots,k b ob q⟩,λ_ _ _ n _=>n,λb ob q _=>⟨ob,k b ob q⟩,λ_ _ q=>q,λ_ _ _ q=>q,λ_ ps q=>⟨#[],by rw [q]; simp⟩⟩
theorem Un.refl:Un fs ex H H h h:=Un.kept λ_ _ q=>q
theorem Un.laid (k:∀ b u,h.get? b=some u->h'.get? b=some u) (hp:h.objs.size<=a) (hn:H a=none):Un fs ex H (upd H a o) h h' where
 keep:=λb u q _ _ _=>k b u q
 slot:=λb u q _ _ _=>⟨u.slots,k b u q⟩
 free:=λb u q n _=>by rw [av (RW (R8 (Ry q) hp))]; exact n
 there:=λb u q _=>⟨u,k b u q⟩
 tups:=λb xs q=>by rw [av (aF q hn)]; exact q
 frzs:=λb u xs q=>by rw [av (aF q hn)]; exact q
 tbls:=λb ps q=>⟨#[],by rw [av (aF q hn),q]; simp⟩
theorem Un.write (mu:LV (H x)) (he:e=x\/H e=some (.own x)) (k:∀ b u,b≠e->h.get? b=some u->h'.get? b=some u) (heo:∃ u,h'.get? e=some u):Un fs ex H (upd H x o) h h':=by
 have hx:∀ b,H b=none->b≠x:=λb n z=>by subst z; rw [n] at mu; exact mu
 have hb:∀ b,H b=none->b≠e:=λb n z=>by
  subst z
  rcases he with r | r
  ·exact hx b n r
  ·rw [n] at r; cases r
 have hm:∀ b u,H b=some u->¬ LV (some u)->b≠x:=λb u q nm z=>by subst z; rw [q] at mu; exact nm mu
 refine ⟨λb u q n _ _=>k b u (hb b n) q,λb u q n _ _=>⟨u.slots,k b u (hb b n) q⟩,λb u q n _=>by rw [av (hx b n)]; exact n,λb u q _=>?_,
  λb xs q=>by rw [av (hm b _ q λz=>z)]; exact q,λb u xs q=>by rw [av (hm b _ q λz=>z)]; exact q,λb ps q=>⟨#[],by rw [av (hm b _ q λz=>z),q]; simp⟩⟩
 by_cases hbe:b=e
 ·subst hbe; exact heo
 ·exact ⟨u,k b u hbe q⟩
end
noncomputable def OF (h:Heap) (H:Hp):List Addr:=(RI h.objs.size).filter λa=>(H a).isSome
noncomputable def ou (h:Heap) (H:Hp):Heap:=PySem.W.hideAll h (OF h H)
theorem yd (h) (H):(ou h H).objs.size=h.objs.size:=PySem.W.hideAll_size _ _
theorem zZ (e:h.get? b=some o) (n:H b=none):(ou h H).get? b=some o :=
 PySem.W.hideAll_get _ e λhm=>by
  have q:(H b).isSome=true:=(VE.mp hm).2
  rw [n] at q; simp at q
theorem En (e:(ou h H).get? b=some o):h.get? b=some o/\H b=none:=by
 have e':h.get? b=some o:=PySem.W.of_hideAll (OF h H) e
 refine ⟨e',?_⟩
 cases q:H b with
 | none=>rfl
 | some x =>
  have hm:b∈OF h H:=VE.mpr ⟨List.mem_range.mpr (Ry e'),by simp [q]⟩
  have z:(ou h H).get? b=none:=PySem.W.hideAll_none (OF h H) hm
  rw [z] at e; cases e
structure Mod (K:Rr) (mg:Str->Option Value) (base:Heap):Prop where
 kin:K.In base
 glob:base.Ns mainGlobals mg
 blt:∃ mb,base.Ns builtinsNs mb/\∀ x:Str,x≠"__name__"->mb x=bootBuiltins x
 nolimit:base.NoLimit
structure Cx where
 prog:Program
 w:World
 K:Rr
 mg:Str->Option Value
 base:Heap
 A:Around
 N:List Str
 s₀:Shared
 H₀:Hp
 env:Env
 outer:List Env
 stack:List Env
 ex:List Addr
 fn:Str->Bool
 calm:Bool
 pn:List (Addr×Obj)
 xe:Value->Shared->Prop
noncomputable def frs (l:List Env):List Addr:=l.filterMap (·.frame)
noncomputable abbrev Cx.fs (X:Cx):List Addr:=frs X.outer
def O0 (sc:Scope) (x:Str):Prop:=sc.names.lookup x=some .local\/sc.names.lookup x=some .cell\/sc.names.lookup x=some .free
def Loc (sc:Scope) (x:Str):Prop:=sc.names.lookup x=some .local\/sc.names.lookup x=some .cell
def Look (env:Env) (h:Heap) (m:Str->Option Value) (x:Str) (u:Value):Prop :=
 (env.kindOf x=some .local/\m x=some u)\/((env.kindOf x=some .cell\/env.kindOf x=some .free)/\∃ c,env.cells.lookup x=some c/\h.IsCell c (some u))
structure Cx.Ok (X:Cx):Prop where
 mod:Mod X.K X.mg X.base
 kind:X.env.scope.kind=.function
 glob:X.env.globals=mainGlobals
 blt:X.env.builtins=builtinsNs
 above:X.s₀.heap.objs.size<=X.env.locals
 inj:∀ x y c,X.env.cells.lookup x=some c->X.env.cells.lookup y=some c->x=y
 has:∀ x,(X.env.kindOf x=some .cell\/X.env.kindOf x=some .free)->∃ c,X.env.cells.lookup x=some c
 cab:∀ x c,X.fn x=true->X.env.cells.lookup x=some c->X.s₀.heap.objs.size<=c
 hd:X.calm=true->X.A.handled=none
 frames:X.A.frames=some X.stack
 stk:X.stack=X.outer\/(X.stack=X.env::X.outer/\X.env.frame=some X.env.locals)
 exf:∀ b∈X.ex,b≠X.env.locals/\∀ x c,X.env.cells.lookup x=some c->c≠b
 bs:∀ b o,X.base.get? b=some o->X.s₀.heap.get? b=some o/\X.H₀ b=none
 bsz:X.base.objs.size<=X.s₀.heap.objs.size
 noex:∀ b o,X.base.get? b=some o->b∉X.ex
 exfs:∀ b∈X.ex,b∉X.fs
 jf:X.s₀.heap.FunFrames X.base X.outer
 frf:∀ b∈X.fs,X.H₀ b=none
structure Inv (X:Cx) (aa:List (Addr×Obj)) (σ:List (Option V)) (H:Hp) (s:Shared):Prop where
 ok:X.Ok
 os:s.os=X.s₀.os
 bare:AllBare s.gens
 base:Un X.fs X.ex X.H₀ H X.s₀.heap s.heap
 loc:∃ m,s.heap.Ns X.env.locals m/\∀ (i:Nat) (x:Str) (v:V),X.N[i]?=some x->σ[i]?=some (some v)->O0 X.env.scope x->∃ u,RelV v u/\Look X.env s.heap m x u
 cell:∀ x c,X.env.cells.lookup x=some c->∃ v,s.heap.IsCell c v
 free:H X.env.locals=none
 freeC:∀ x c,X.env.cells.lookup x=some c->H c=none
 pin:∀ p∈X.pn++aa,s.heap.get? p.1=some p.2/\H p.1=none/\p.1≠X.env.locals/\p.1∉X.fs/\∀ v,p.2.data≠.cell v
 hok:jd X.prog X.w H s.heap
 len:σ.length=X.N.length
section
variable {X:Cx}
theorem Cx.Ok.O1 (ok:X.Ok) (e:X.base.get? b=some o):b∉X.fs:=λhb=>by
 have:=(ok.jf.mem hb).1
 rw [e] at this; cases this
theorem Inv.bs (I:Inv X aa σ H s):∀ b o,X.base.get? b=some o->s.heap.get? b=some o/\H b=none:=λb o e =>
 ⟨I.base.keep b o (I.ok.bs b o e).1 (I.ok.bs b o e).2 (I.ok.O1 e) (I.ok.noex b o e),I.base.free b o (I.ok.bs b o e).1 (I.ok.bs b o e).2 (I.ok.noex b o e)⟩
theorem Inv.bk (I:Inv X aa σ H s):∀ b o,X.base.get? b=some o->s.heap.get? b=some o:=λb o e=>(I.bs b o e).1
theorem Inv.mod (I:Inv X aa σ H s):Mod X.K X.mg X.base:=I.ok.mod
theorem Inv.Ea (I:Inv X aa σ H s):X.K.In s.heap:=I.ok.mod.kin.keeps I.bk
theorem Inv.lt (I:Inv X aa σ H s):X.env.locals<s.heap.objs.size:=let ⟨_,hn,_⟩:=I.loc; hn.lt
theorem Inv.sz (I:Inv X aa σ H s):X.s₀.heap.objs.size<=s.heap.objs.size:=Rz I.ok.above (SY I.lt)
theorem Inv.LW (I:Inv X aa σ H s) (h:s.heap.objs.size<=a):a∉X.fs:=λhb=>by
 obtain ⟨_,o,ho,_⟩:=I.ok.jf.mem hb
 exact absurd (R8 (Ry ho) (Rz I.sz h)) (Tp _)
theorem Inv.Ip (I:Inv X aa σ H s):∀ x c,X.env.cells.lookup x=some c->c≠X.env.locals:=λx c e z=>by
 obtain ⟨v,o,ho,hd⟩:=I.cell x c e
 obtain ⟨m,⟨o',es,ep,ho',hd',_⟩,_⟩:=I.loc
 rw [z,ho'] at ho; cases ho; rw [hd'] at hd; cases hd
theorem Inv.jf (I:Inv X aa σ H s):s.heap.FunFrames X.base X.outer:=by
 have all:∀ (l:List Env),(∀ b∈frs l,b∈X.fs)->X.s₀.heap.FunFrames X.base l->s.heap.FunFrames X.base l:=by
  intro l
  induction l with
  | nil=>intro _ _; trivial
  | cons env r ih =>
   intro hs hl
   obtain ⟨hk,⟨L,o,hf,hn,ho,hd⟩,hr⟩:=hl
   have hL:L∈X.fs:=hs L (by unfold frs; rw [TU,hf]; exact RD)
   obtain ⟨sl,e⟩:=I.base.slot L o ho (I.ok.frf L hL) hL λz=>I.ok.exfs L z hL
   exact ⟨hk,⟨L,_,hf,hn,e,hd⟩,ih (λb hb=>hs b (by unfold frs; rw [TU,hf]; exact RH _ hb)) hr⟩
 exact all X.outer (λ_ hb=>hb) I.ok.jf
theorem Inv.stack (I:Inv X aa σ H s):s.heap.FunFrames X.base X.stack:=by
 rcases I.ok.stk with e | ⟨e,hf⟩
 ·rw [e]; exact I.jf
 ·rw [e]
  obtain ⟨m,hn,_⟩:=I.loc
  refine .cons (by rw [I.ok.kind]; decide) hf hn ?_ I.jf
  exact Heap.get?_none_of_le (Rz I.ok.bsz I.ok.above)
theorem Inv.tP (I:Inv X aa σ H s):∀ b∈frs X.stack,b∈X.env.locals::X.fs:=λb hb=>by
 rcases I.ok.stk with e | ⟨e,hf⟩
 ·rw [e] at hb; exact RH _ hb
 ·rw [e] at hb
  unfold frs at hb
  rw [TU,hf] at hb
  exact hb
theorem Inv.vE (I:Inv X aa σ H s):∀ b∈frs X.stack,H b=none:=λb hb=>by
 rcases RL.mp (I.tP b hb) with e | hb
 ·rw [e]; exact I.free
 ·obtain ⟨_,o,ho,_⟩:=I.ok.jf.mem hb
  exact I.base.free b o ho (I.ok.frf b hb) λz=>I.ok.exfs b z hb
theorem Inv.step {ch:List Addr} (I:Inv X aa σ H s)
 (hch:∀ b∈ch,(b∈X.ex\/X.s₀.heap.objs.size<=b)/\b≠X.env.locals/\(∀ x c,X.env.cells.lookup x=some c->c≠b)/\∀ p∈X.pn++aa,p.1≠b)
 (keep:∀ b o,b≠X.env.locals->b∉X.fs->b∉ch->s.heap.get? b=some o->H b=none->h'.get? b=some o)
 (slot:∀ b o,b≠X.env.locals->b∈X.fs->b∉ch->s.heap.get? b=some o->H b=none->∃ sl,h'.get? b=some { o with slots:=sl }) (free:∀ b o,b∉ch->s.heap.get? b=some o->H b=none->H' b=none)
 (there:∀ b o,b∉ch->s.heap.get? b=some o->∃ o',h'.get? b=some o')
 (tups:∀ b xs,H b=some (.tup xs)->H' b=some (.tup xs)) (frzs:∀ b o u,H b=some (.frz o u)->H' b=some (.frz o u)) (tbls:∀ b ps,H b=some (.tbl ps)->∃ more,H' b=some (.tbl (ps++more)))
 (ns:∀ m,s.heap.Ns X.env.locals m->h'.Ns X.env.locals m) (hok:jd X.prog X.w H' h') (hg:AllBare g') :
 Inv X aa σ H' { s with heap:=h',gens:=g',drawn:=d',toks:=t' }:=by
 have neL:∀ b o,X.s₀.heap.get? b=some o->b≠X.env.locals:=λb o e=>RW (R8 (Ry e) I.ok.above)
 have neC:∀ b o,X.s₀.heap.get? b=some o->b∉X.ex->b∉ch:=λb o e hx hb=>by
  rcases (hch b hb).1 with z | z
  ·exact hx z
  ·exact absurd (R8 (Ry e) z) (Tp _)
 have cellK:∀ x c,X.env.cells.lookup x=some c->∀ v,s.heap.IsCell c v->h'.IsCell c v:=λx c e v ⟨o,ho,hd⟩=>by
  have nch:c∉ch:=λz=>(hch c z).2.2.1 x c e rfl
  by_cases hc:c∈X.fs
  ·obtain ⟨sl,q⟩:=slot c o (I.Ip x c e) hc nch ho (I.freeC x c e)
   exact ⟨_,q,hd⟩
  ·exact ⟨o,keep c o (I.Ip x c e) hc nch ho (I.freeC x c e),hd⟩
 refine ⟨I.ok,I.os,hg,⟨λb o e n hb hx=>?_,λb o e n hb hx=>?_,λb o e n hx=>?_,λb o e hx=>?_,λb xs e=>tups b xs (I.base.tups b xs e),λb o xs e=>frzs b o xs (I.base.frzs b o xs e),λb ps e=>?_⟩,?_,λx c e=>?_,?_,λx c e=>?_,λp hp=>?_,hok,I.len⟩
 ·exact keep b o (neL b o e) hb (neC b o e hx) (I.base.keep b o e n hb hx) (I.base.free b o e n hx)
 ·obtain ⟨sl,e1⟩:=I.base.slot b o e n hb hx
  obtain ⟨sl',e2⟩:=slot b _ (neL b o e) hb (neC b o e hx) e1 (I.base.free b o e n hx)
  exact ⟨sl',e2⟩
 ·obtain ⟨o',e1⟩:=I.base.there b o e hx
  exact free b o' (neC b o e hx) e1 (I.base.free b o e n hx)
 ·obtain ⟨o',e1⟩:=I.base.there b o e hx
  exact there b o' (neC b o e hx) e1
 ·obtain ⟨m1,e1⟩:=I.base.tbls b ps e
  obtain ⟨m2,e2⟩:=tbls b _ e1
  exact ⟨m1++m2,by rw [e2,Array.append_assoc]⟩
 ·obtain ⟨m,hn,hl⟩:=I.loc
  refine ⟨m,ns m hn,λi x v e1 e2 e3=>?_⟩
  obtain ⟨u,r,l⟩:=hl i x v e1 e2 e3
  refine ⟨u,r,?_⟩
  rcases l with l | ⟨k,c,e,z⟩
  ·exact .inl l
  ·exact .inr ⟨k,c,e,cellK x c e _ z⟩
 ·obtain ⟨v,z⟩:=I.cell x c e
  exact ⟨v,cellK x c e v z⟩
 ·obtain ⟨m,⟨o,_,_,ho,_⟩,_⟩:=I.loc
  exact free _ o (λz=>(hch _ z).2.1 rfl) ho I.free
 ·obtain ⟨v,o,ho,hd⟩:=I.cell x c e
  exact free c o (λz=>(hch c z).2.2.1 x c e rfl) ho (I.freeC x c e)
 ·obtain ⟨e,n,ne,nf,d⟩:=I.pin p hp
  have nch:p.1∉ch:=λz=>(hch p.1 z).2.2.2 p hp rfl
  exact ⟨keep p.1 p.2 ne nf nch e n,free p.1 p.2 nch e n,ne,nf,d⟩
theorem Inv.un (I:Inv X aa σ H s) (u:Un X.fs [] H H' s.heap h') (hok:jd X.prog X.w H' h'):Inv X aa σ H' { s with heap:=h',toks:=t' }:=by
 obtain ⟨m,⟨o,es,ep,ho,r⟩,_⟩:=id I.loc
 obtain ⟨sl,hL⟩:=u.any ho I.free (by simp)
 exact I.step (g':=s.gens) (d':=s.drawn) (ch:=[]) (λ_ z=>nomatch z) (λb o _ hb _ e n=>u.keep b o e n hb (by simp)) (λb o _ hb _ e n=>u.slot b o e n hb (by simp)) (λb o _ e n=>u.free b o e n (by simp)) (λb o _ e=>u.there b o e (by simp)) u.tups u.frzs u.tbls (λm' hm=>by
  obtain ⟨o',es',ep',ho',r'⟩:=hm
  rw [ho] at ho'; cases ho'
  exact ⟨_,es',ep',hL,r'⟩) hok I.bare
theorem Inv.call (I:Inv X aa σ H s) (u:Un (frs X.stack) ch H H' s.heap h') (hok:jd X.prog X.w H' h') (hg:AllBare g')
 (hch:∀ b∈ch,(b∈X.ex\/X.s₀.heap.objs.size<=b)/\b≠X.env.locals/\(∀ x c,X.env.cells.lookup x=some c->c≠b)/\∀ p∈X.pn++aa,p.1≠b) :
 Inv X aa σ H' { s with heap:=h',gens:=g',drawn:=d',toks:=t' }:=by
 obtain ⟨m,⟨o,es,ep,ho,r⟩,_⟩:=id I.loc
 obtain ⟨sl,hL⟩:=u.any ho I.free λz=>(hch _ z).2.1 rfl
 exact I.step (ch:=ch) hch (λb o hL hb hc e n=>u.keep b o e n (λz=>(RL.mp (I.tP b z)).elim hL hb) hc) (λb o _ _ hc e n=>u.any e n hc) (λb o hc e n=>u.free b o e n hc) (λb o hc e=>u.there b o e hc) u.tups u.frzs u.tbls (λm' hm=>by
  obtain ⟨o',es',ep',ho',r'⟩:=hm
  rw [ho] at ho'; cases ho'
  exact ⟨_,es',ep',hL,r'⟩) hok hg
theorem Inv.turned (I:Inv X aa σ H s) (k:∀ b o,b≠it->s.heap.get? b=some o->h'.get? b=some o) (hn:H it=none) (hL:it≠X.env.locals)
 (h1:it∈X.ex\/X.s₀.heap.objs.size<=it) (h2:∀ x c,X.env.cells.lookup x=some c->c≠it) (h3:∀ p∈X.pn++aa,p.1≠it):Inv X aa σ H { s with heap:=h',toks:=t' }:=by
 have nit:∀ b u,H b=some u->b≠it:=λb u e z=>by rw [z,hn] at e; cases e
 refine I.step (g':=s.gens) (d':=s.drawn) (ch:=[it]) (λb hb=>?_) (λb o _ _ hc e _=>k b o (λz=>hc (by simp [z])) e) (λb o _ _ hc e _=>⟨o.slots,k b o (λz=>hc (by simp [z])) e⟩) (λ_ _ _ _ n=>n)
  (λb o hc e=>⟨o,k b o (λz=>hc (by simp [z])) e⟩) (λ_ _ e=>e) (λ_ _ _ e=>e) (λb ps e=>⟨#[],by rw [e]; simp⟩) (λm hm=>?_) (λb u e=>?_) I.bare
 ·have e:b=it:=by simpa using hb
  subst e
  exact ⟨h1,hL,h2,h3⟩
 ·obtain ⟨o,es,ep,ho,r⟩:=hm
  exact ⟨o,es,ep,k _ o (RS hL) ho,r⟩
 ·refine (I.hok b u e).stay (λc v hc q=>k c v ?_ q) (λ_ q=>q) λ_ _ q=>q
  rcases hc with z | z
  ·rw [z]; exact nit b u e
  ·exact nit c _ z
theorem Inv.tok (I:Inv X aa σ H s) (t):Inv X aa σ H { s with toks:=t }:=I.un (h':=s.heap) (t':=t) Un.refl I.hok
theorem Inv.kept (I:Inv X aa σ H s) (k:∀ b u,s.heap.get? b=some u->h'.get? b=some u):Inv X aa σ H { s with heap:=h',toks:=t' }:=I.un (Un.kept k) (I.hok.kept k)
theorem Inv.laid (I:Inv X aa σ H s) (k:∀ b u,s.heap.get? b=some u->h'.get? b=some u) (hp:s.heap.objs.size<=a) (new:bu X.prog X.w (upd H a o) h' a o) :
 Inv X aa σ (upd H a o) { s with heap:=h',toks:=t' }:=I.un (Un.laid k hp (I.hok.fresh hp)) (I.hok.laid k hp new)
theorem Inv.write (I:Inv X aa σ H s) (mu:LV (H x)) (he:e=x\/H e=some (.own x)) (k:∀ b u,b≠e->s.heap.get? b=some u->h'.get? b=some u) (heo:∃ u,h'.get? e=some u)
 (new:bu X.prog X.w (upd H x o) h' x o):Inv X aa σ (upd H x o) { s with heap:=h',toks:=t' }:=I.un (Un.write mu he k heo) (I.hok.write mu he k heo new)
theorem Inv.vF (I:Inv X aa σ H s) (h:∀ p∈pins',s.heap.get? p.1=some p.2/\H p.1=none/\p.1≠X.env.locals/\p.1∉X.fs/\∀ v,p.2.data≠.cell v):Inv X pins' σ H s :=
 ⟨I.ok,I.os,I.bare,I.base,I.loc,I.cell,I.free,I.freeC,λp hp=>(R5.mp hp).elim (λz=>I.pin p (V8 _ z)) (h p),I.hok,I.len⟩
theorem qA {N:List Str} (hN:N.Nodup) {i j:Nat} (a:N[i]?=some x) (b:N[j]?=some x):i=j:=by
 obtain ⟨h1,e1⟩:=RJ.mp a
 obtain ⟨h2,e2⟩:=RJ.mp b
 exact (List.getElem_inj hN).mp (e1.trans e2.symm)
theorem ye (I:Inv X aa σ H s) (hN:X.N.Nodup) (hi:X.N[i]?=some x) (hx:Loc X.env.scope x) (r:RelV v u)
 (h:∀ s',Inv X aa (σ.set i (some v)) H s'->(∃ a,Tt a s.heap s'.heap/\(a=X.env.locals\/X.env.cells.lookup x=some a))->Q () s') (hf:X.fn x=true\/X.env.scope.names.lookup x=some .local:=by first | exact .inl rfl | exact .inr rfl | assumption):wpAny M A (storeName X.env x u) Q E s:=by
 obtain ⟨m,hn,hl⟩:=id I.loc
 have hcls:(X.env.scope.kind == .class || (X.env.scope.kind == .module && X.env.locals != X.env.globals))=false:=by rw [I.ok.kind]; rfl
 have hiσ:i<σ.length:=by rw [I.len]; exact (RJ.mp hi).1
 have Ip:=I.Ip
 have tracked:∀ {a:Addr} {h':Heap},(∃ o,s.heap.get? a=some o/\H a=none)->Tt a s.heap h'->jd X.prog X.w H h':=λ{a h'} ha hs b ob e=>by
  obtain ⟨_,_,hfree⟩:=ha
  refine (I.hok b ob e).stay (λc w' hc q=>(hs.2 c ?_).trans q) (λ_ q=>q) λ_ _ q=>q
  rintro rfl
  rcases hc with rfl | hc
  ·rw [hfree] at e; cases e
  ·rw [hfree] at hc; cases hc
 rcases hx with hk | hk
 ·refine wpAny_storeName_local hk hn (λh' hn' hs=>?_) hcls
  obtain ⟨oL,_,_,hoL,_⟩:=id hn
  refine h _ ⟨I.ok,I.os,I.bare,⟨λb o e n hb hx=>?_,λb o e n hb hx=>?_,I.base.free,λb o e hx=>?_,I.base.tups,I.base.frzs,I.base.tbls⟩,⟨_,hn',λj y v' e1 e2 e3=>?_⟩,λy c e=>?_,I.free,I.freeC,λp hp=>?_,tracked ⟨oL,hoL,I.free⟩ hs,by simpa using I.len⟩ ⟨_,hs,.inl rfl⟩
  ·exact (hs.2 b (RW (R8 (Ry e) I.ok.above))).trans (I.base.keep b o e n hb hx)
  ·obtain ⟨sl,e1⟩:=I.base.slot b o e n hb hx
   exact ⟨sl,(hs.2 b (RW (R8 (Ry e) I.ok.above))).trans e1⟩
  ·obtain ⟨o',e1⟩:=I.base.there b o e hx
   exact ⟨o',(hs.2 b (RW (R8 (Ry e) I.ok.above))).trans e1⟩
  ·by_cases hj:j=i
   ·subst hj
    rw [hi] at e1; cases e1
    rw [SQ hiσ] at e2
    cases e2
    exact ⟨u,r,.inl ⟨hk,by simp⟩⟩
   ·rw [SS (RS hj)] at e2
    obtain ⟨u',r',q⟩:=hl j y v' e1 e2 e3
    refine ⟨u',r',?_⟩
    rcases q with ⟨k,e⟩ | ⟨k,c,e,z⟩
    ·refine .inl ⟨k,?_⟩
     have:y≠x:=λe=>hj (qA hN e1 (e ▸ hi))
     simp [this,e]
    ·exact .inr ⟨k,c,e,z.sameBut hs (Ip y c e)⟩
  ·obtain ⟨w',z⟩:=I.cell y c e
   exact ⟨w',z.sameBut hs (Ip y c e)⟩
  ·obtain ⟨e,n,ne,nf,d⟩:=I.pin p hp
   exact ⟨(hs.2 p.1 ne).trans e,n,ne,nf,d⟩
 ·have hfn:X.fn x=true:=by
   rcases hf with z | z
   ·exact z
   ·rw [z] at hk; cases hk
  obtain ⟨c,hc⟩:=I.ok.has x (.inl hk)
  obtain ⟨w',z⟩:=I.cell x c hc
  refine wpAny_storeName_cell I.ok.kind hk hc z (λh' hc' hs=>?_)
  obtain ⟨oc,hoc,hocd⟩:=id z
  refine h { s with heap:=h' } ⟨I.ok,I.os,I.bare,⟨λb o e n hb hx=>?_,λb o e n hb hx=>?_,I.base.free,λb o e hx=>?_,I.base.tups,I.base.frzs,I.base.tbls⟩,⟨m,hn.sameBut hs (RS (Ip x c hc)),λj y v' e1 e2 e3=>?_⟩,λy c' e=>?_,I.free,I.freeC,λp hp=>?_,tracked ⟨oc,hoc,I.freeC x c hc⟩ hs,by simpa using I.len⟩ ⟨c,hs,.inr hc⟩
  ·exact (hs.2 b (RW (R8 (Ry e) (I.ok.cab x c hfn hc)))).trans (I.base.keep b o e n hb hx)
  ·obtain ⟨sl,e1⟩:=I.base.slot b o e n hb hx
   exact ⟨sl,(hs.2 b (RW (R8 (Ry e) (I.ok.cab x c hfn hc)))).trans e1⟩
  ·obtain ⟨o',e1⟩:=I.base.there b o e hx
   exact ⟨o',(hs.2 b (RW (R8 (Ry e) (I.ok.cab x c hfn hc)))).trans e1⟩
  ·by_cases hj:j=i
   ·subst hj
    rw [hi] at e1; cases e1
    rw [SQ hiσ] at e2
    cases e2
    exact ⟨u,r,.inr ⟨.inl hk,c,hc,hc'⟩⟩
   ·rw [SS (RS hj)] at e2
    obtain ⟨u',r',q⟩:=hl j y v' e1 e2 e3
    refine ⟨u',r',?_⟩
    rcases q with q | ⟨k,c',e,z'⟩
    ·exact .inl q
    ·refine .inr ⟨k,c',e,z'.sameBut hs ?_⟩
     rintro rfl
     exact hj (qA hN e1 (I.ok.inj _ _ _ e hc ▸ hi))
  ·by_cases hcc:c'=c
   ·subst hcc; exact ⟨_,hc'⟩
   ·obtain ⟨w2,z2⟩:=I.cell y c' e
    exact ⟨w2,z2.sameBut hs hcc⟩
  ·obtain ⟨e,n,ne,nf,d⟩:=I.pin p hp
   refine ⟨(hs.2 p.1 ?_).trans e,n,ne,nf,d⟩
   intro q
   rw [q,hoc] at e
   have q':oc=p.2:=TJ e
   exact d w' (by rw [<- q']; exact hocd)
theorem fV (I:Inv X aa σ H s) (hN:X.N.Nodup) (hi:X.N[i]?=some x) (hx:Loc X.env.scope x) (r:RelV v u)
 (h:∀ s',Inv X aa (σ.set i (some v)) H s'->Q () s') (hf:X.fn x=true\/X.env.scope.names.lookup x=some .local:=by first | exact .inl rfl | exact .inr rfl | assumption):wpAny M A (storeName X.env x u) Q E s :=
 ye I hN hi hx r (λs' I' _=>h s' I') hf
theorem Inv.G2 (I:Inv X aa σ H s) (ho:s'.os=s.os) (u:Un (frs X.stack) ch H H' s.heap s'.heap) (hok:jd X.prog X.w H' s'.heap) (hg:AllBare s'.gens)
 (hch:∀ b∈ch,(b∈X.ex\/X.s₀.heap.objs.size<=b)/\b≠X.env.locals/\(∀ x c,X.env.cells.lookup x=some c->c≠b)/\∀ p∈X.pn++aa,p.1≠b):Inv X aa σ H' s':=by
 obtain ⟨h',g',d',t',o'⟩:=s'
 have e:o'=s.os:=ho
 subst e
 exact I.call (g':=g') (t':=t') (d':=d') u hok hg hch
end
noncomputable abbrev XK:=Value->Option Addr->Hp->Prop
noncomputable abbrev St:=List (Option V)
noncomputable abbrev VK:=V->Hp->Prop
noncomputable abbrev TE:=St->Hp->VK->Prop
noncomputable abbrev TT:=St->Hp->(Bool->Hp->Prop)->Prop
noncomputable abbrev TA:=St->Hp->(List V->Hp->Prop)->Prop
structure Ends where
 nx:St->Hp->Prop
 rt:VK
 bk:St->Hp->Prop:=λ_ _=>False
 ct:St->Hp->Prop:=λ_ _=>False
noncomputable abbrev TS:=Ends->St->Hp->Prop
def EP (X:Cx) (aa:List (Addr×Obj)) (σ:St) (Q:VK) (u:Value) (s':Shared):Prop:=∃ v H',Inv X aa σ H' s'/\RelV v u/\Q v H'
def TP (X:Cx) (aa:List (Addr×Obj)) (σ:St) (Q:Bool->Hp->Prop) (b:Bool) (s':Shared):Prop:=∃ H',Inv X aa σ H' s'/\Q b H'
def AP (X:Cx) (aa:List (Addr×Obj)) (σ:St) (Q:List V->Hp->Prop) (us:List Value) (s':Shared):Prop:=∃ vs H',Inv X aa σ H' s'/\Vals vs us/\Q vs H'
def SP (X:Cx) (aa:List (Addr×Obj)) (D:Ends) (f:Flow) (s':Shared):Prop :=
 match f with
 | .next=>∃ σ' H',Inv X aa σ' H' s'/\D.nx σ' H'
 | .brk=>∃ σ' H',Inv X aa σ' H' s'/\D.bk σ' H'
 | .cont=>∃ σ' H',Inv X aa σ' H' s'/\D.ct σ' H'
 | .ret u=>∃ v σ' H',Inv X aa σ' H' s'/\RelV v u/\D.rt v H'
def PE (X:Cx) (e:Expr) (t:TE):Prop :=
 ∀ (aa:List (Addr×Obj)) (s:Shared) (σ:St) (H:Hp) (Q:VK),Inv X aa σ H s->t σ H Q->wpAny (model X.prog X.w) X.A (eval e X.env) (EP X aa σ Q) X.xe s
def PT (X:Cx) (e:Expr) (t:TT):Prop :=
 ∀ (aa:List (Addr×Obj)) (s:Shared) (σ:St) (H:Hp) (Q:Bool->Hp->Prop),Inv X aa σ H s->t σ H Q->wpAny (model X.prog X.w) X.A (isTrue e X.env (eval e X.env)) (TP X aa σ Q) X.xe s
def PW (X:Cx) (e:Expr) (t:TT):Prop :=
 ∀ (whole:Sem Value) (aa:List (Addr×Obj)) (s:Shared) (σ:St) (H:Hp) (Q:Bool->Hp->Prop),Inv X aa σ H s->t σ H Q->wpAny (model X.prog X.w) X.A (isTrue e X.env whole) (TP X aa σ Q) X.xe s
def PA (X:Cx) (es:List Expr) (t:TA):Prop :=
 ∀ (pos:Pos) (aa:List (Addr×Obj)) (s:Shared) (σ:St) (H:Hp) (Q:List V->Hp->Prop),Inv X aa σ H s->t σ H Q->wpAny (model X.prog X.w) X.A (spliced (backTo pos (starEach es X.env))) (AP X aa σ Q) X.xe s
def PS (X:Cx) (st:Stmt) (t:TS):Prop :=
 ∀ (aa:List (Addr×Obj)) (s:Shared) (σ:St) (H:Hp) (D:Ends),Inv X aa σ H s->t D σ H->wpAny (model X.prog X.w) X.A (exec st X.env) (SP X aa D) X.xe s
def tQ (X:Cx) (st:List Stmt) (t:TS):Prop :=
 ∀ (aa:List (Addr×Obj)) (s:Shared) (σ:St) (H:Hp) (D:Ends),Inv X aa σ H s->t D σ H->wpAny (model X.prog X.w) X.A (execs st X.env) (SP X aa D) X.xe s
theorem bB (h:wpAny M A t Q E s) (hQ:∀ a s,Q a s->Q' a s):wpAny M A t Q' E s:=Sk h hQ λ_ _ x=>x
section
noncomputable def LX (i:Nat):TE:=λσ H Q=>∃ v,σ[i]?=some (some v)/\Q v H
noncomputable def tC (v:V):TE:=λ_ H Q=>Q v H
theorem oA (hN:X.N[i]?=some x) (hv:O0 X.env.scope x) (hd:(x == ("__debug__":Str))=false:=by decide) (hcd:(x == ("__classdict__":Str))=false:=by decide):PE X (.Name x pos) (LX i):=by
 intro aa s σ H Q I h
 obtain ⟨v,e,h⟩:=h
 obtain ⟨m,hn,hl⟩:=I.loc
 obtain ⟨u,r,l⟩:=hl i x v hN e hv
 have fin:EP X aa σ Q u s:=⟨v,H,I,r,h⟩
 rcases l with ⟨hk,hm⟩ | ⟨hk,c,hc,hcell⟩
 ·exact wpAny_Name (wpAny_loadName_local I.ok.kind hk hn hm fin) hd
 ·rcases hk with hk | hk
  ·exact wpAny_Name (wpAny_loadName_cell I.ok.kind hk hc hcell fin) hd
  ·exact wpAny_Name (wpAny_loadName_free I.ok.kind hk hc hcell fin hcd) hd
theorem Iq {i j pos}:PE X (.Constant (.int i) j pos) (tC (.int i)):=λ_ _ _ H _ I h=>wpAny_Constant_int ⟨.int i,H,I.tok _,⟨_,rfl⟩,h⟩
theorem Aa {b j pos}:PE X (.Constant (.bool b) j pos) (tC (.bl b)):=λ_ _ _ H _ I h=>Constant_bool ⟨.bl b,H,I,rfl,h⟩
theorem Ir {j pos}:PE X (.Constant .none j pos) (tC .non):=λ_ _ _ H _ I h=>Constant_none ⟨.non,H,I,rfl,h⟩
def Gl (X:Cx) (x:Str):Prop:=X.env.kindOf x=some .globalImplicit
theorem oB (I:Inv X aa σ H s) (hg:Gl X x) (hm:X.mg x=some u) (h:Q u s)
 (hd:(x == ("__debug__":Str))=false:=by decide):wpAny (model X.prog X.w) X.A (eval (.Name x pos) X.env) Q E s :=
 Calls.Name_function_global I.ok.kind hg (Calls.loadGlobal_global (by rw [I.ok.glob]; exact I.mod.glob.keeps I.bk) hm h) hd
theorem dZ (I:Inv X aa σ H s) (hg:Gl X x) (hm:X.mg x=none) (hv:bootBuiltins x=some u) (h:Q u s)
 (hn:x≠"__name__":=by decide) (hd:(x == ("__debug__":Str))=false:=by decide):wpAny (model X.prog X.w) X.A (eval (.Name x pos) X.env) Q E s:=by
 obtain ⟨mb,h1,h2⟩:=I.mod.blt
 exact Calls.Name_function_global I.ok.kind hg (Calls.loadGlobal_builtin (by rw [I.ok.glob]; exact I.mod.glob.keeps I.bk) hm (by rw [I.ok.blt]; exact h1.keeps I.bk) ((h2 x hn).trans hv) h) hd
theorem vG (hg:Gl X x) (hm:X.mg x=some u) (r:RelV v u) (hd:(x == ("__debug__":Str))=false:=by decide):PE X (.Name x pos) (tC v) :=
 λ_ _ _ H _ I h=>oB I hg hm ⟨v,H,I,r,h⟩ hd
def PC (X:Cx) (op:CmpOp) (a b:Expr) (t:TE):Prop :=
 ∀ (aa:List (Addr×Obj)) (s:Shared) (σ:St) (H:Hp) (Q:VK),Inv X aa σ H s->t σ H Q ->
  wpAny (model X.prog X.w) X.A (eval a X.env) (λv s₁=>wpAny (model X.prog X.w) X.A (eval b X.env) (λu s₂=>wpAny (model X.prog X.w) X.A (compareOp op v u) (EP X aa σ Q) X.xe s₂) X.xe s₁) X.xe s
theorem qB (b) (h:op≠.In) (h2:op≠.NotIn):behindInMarks op b=false:=by
 have e1:(op == CmpOp.In)=false:=by cases op <;> first | rfl | exact absurd rfl h
 have e2:(op == CmpOp.NotIn)=false:=by cases op <;> first | rfl | exact absurd rfl h2
 cases b <;> simp [behindInMarks,e1,e2]
noncomputable def O2 (ta:TE):TE:=λσ H Q=>ta σ H λx H1=>Q (.bl (decide (x=.non))) H1
noncomputable def LY (ta:TE):TE:=λσ H Q=>ta σ H λx H1=>Q (.bl (!decide (x=.non))) H1
theorem RelV.qC (r:RelV x v):(v == Tq)=decide (x=.non):=by
 cases x with
 | non=>cases r; rfl
 | bl _=>cases r; rfl
 | int _=>obtain ⟨t,rfl⟩:=r; rfl
 | str _=>obtain ⟨t,rfl⟩:=r; rfl
 | byt _=>obtain ⟨t,rfl⟩:=r; rfl
 | flt _=>obtain ⟨t,rfl⟩:=r; rfl
 | ref _=>cases r; rfl
 | ty _=>cases r; rfl
theorem Ab {j pos'} (ha:PE X a ta):PC X .Is a (.Constant .none j pos') (O2 ta):=by
 intro aa s σ H Q I h
 refine bB (ha aa s σ H _ I h) λv s1 ⟨x,H1,I1,r1,q1⟩=>?_
 exact Constant_none (is_none_gen ⟨.bl _,H1,I1,by rw [r1.qC]; rfl,q1⟩)
theorem Eo {j pos'} (ha:PE X a ta):PC X .IsNot a (.Constant .none j pos') (LY ta):=by
 intro aa s σ H Q I h
 refine bB (ha aa s σ H _ I h) λv s1 ⟨x,H1,I1,r1,q1⟩=>?_
 exact Constant_none (isnot_none_gen ⟨.bl _,H1,I1,by rw [r1.qC]; rfl,q1⟩)
noncomputable def tB (t:TE):TT:=λσ H Q=>t σ H λx H1=>∃ c,x=.bl c/\Q c H1
theorem Ac (h:PC X op a b t) (h1:behindInMarks op b=false:=by first | exact qB _ (by decide) (by decide) | rfl):PE X (.Compare a [op] [b] pos) t:=λaa s σ H Q I hw=>wpAny_Compare1 (h aa s σ H Q I hw) h1
theorem tR (h:PC X op a b t) (h1:behindInMarks op b=false:=by first | exact qB _ (by decide) (by decide) | rfl):PT X (.Compare a [op] [b] pos) (tB t):=by
 intro aa s σ H Q I hw
 refine wpAny_isTrue_Compare1 (bB (h aa s σ H _ I hw) λv s1 h1=>bB h1 λu s2 h2=>bB h2 λc s3 ⟨x,H1,I1,r1,q1⟩=>?_) h1
 obtain ⟨d,rfl,q⟩:=q1
 cases r1
 exact Vb ⟨H1,I1,q⟩
theorem Iu (h:PE X e t) (he:∀ whole,isTrue e X.env whole=(do let v <- whole; standAt e.pos; holding [v] (truthy v)):=by intro _; rfl):PT X e (tB t):=by
 intro aa s σ H Q I hw
 refine isTrue_plain (bB (h aa s σ H _ I hw) λv s1 ⟨x,H1,I1,r1,q1⟩=>?_) (he _)
 obtain ⟨d,rfl,q⟩:=q1
 cases r1
 exact Vb ⟨H1,I1,q⟩
variable {rest:List Expr}
noncomputable def O3 (t u:TT):TT:=λσ H Q=>t σ H λc H1=>if c=true then u σ H1 Q else Q false H1
noncomputable def QW (t u:TT):TT:=λσ H Q=>t σ H λc H1=>if c=true then Q true H1 else u σ H1 Q
noncomputable def O4 (t:TT):TT:=λσ H Q=>t σ H λc H1=>Q (!c) H1
theorem pw_and1 (ha:PT X a tA):PW X (.BoolOp .And [a] pos) tA:=by
 intro wh aa s σ H Q I h
 refine isTrue_and (bB (ha aa s σ H Q I h) λc s1 e=>?_)
 cases c with
 | true=>exact isTrue_and_nil e
 | false=>exact e
theorem pw_or1 (ha:PT X a tA):PW X (.BoolOp .Or [a] pos) tA:=by
 intro wh aa s σ H Q I h
 refine isTrue_or (bB (ha aa s σ H Q I h) λc s1 e=>?_)
 cases c with
 | false=>exact isTrue_or_nil e
 | true=>exact e
theorem pw_and (ha:PT X a tA) (hb:PW X (.BoolOp .And (b::rest) pos) tB'):PW X (.BoolOp .And (a::b::rest) pos) (O3 tA tB'):=by
 intro wh aa s σ H Q I h
 refine isTrue_and (bB (ha aa s σ H _ I h) λc s1 ⟨H1,I1,q1⟩=>?_)
 cases c with
 | true=>exact hb wh aa s1 σ H1 Q I1 q1
 | false=>exact ⟨H1,I1,q1⟩
theorem pw_or (ha:PT X a tA) (hb:PW X (.BoolOp .Or (b::rest) pos) tB'):PW X (.BoolOp .Or (a::b::rest) pos) (QW tA tB'):=by
 intro wh aa s σ H Q I h
 refine isTrue_or (bB (ha aa s σ H _ I h) λc s1 ⟨H1,I1,q1⟩=>?_)
 cases c with
 | true=>exact ⟨H1,I1,q1⟩
 | false=>exact hb wh aa s1 σ H1 Q I1 q1
theorem Iv (ha:PT X a tA):PT X (.UnaryOp .Not a pos) (O4 tA):=by
 intro aa s σ H Q I h
 exact isTrue_not (ha aa s σ H (λc H1=>Q (!c) H1) I h)
noncomputable def LZ (ta tb:TE):TE:=λσ H Q=>ta σ H λx H1=>∃ c,x=.bl c/\if c=true then tb σ H1 Q else Q (.bl false) H1
noncomputable def O5 (ta tb:TE):TE:=λσ H Q=>ta σ H λx H1=>∃ c,x=.bl c/\if c=true then Q (.bl true) H1 else tb σ H1 Q
theorem Iw {op} (h:PE X a t):PE X (.BoolOp op [a] pos) t:=λaa s σ H Q I hw=>BoolOp_one (h aa s σ H Q I hw)
theorem Iz (ha:PE X a ta) (hb:PE X (.BoolOp .And (b::rest) pos) tb):PE X (.BoolOp .And (a::b::rest) pos) (LZ ta tb):=by
 intro aa s σ H Q I h
 refine BoolOp_and (bB (ha aa s σ H _ I h) λv s1 ⟨x,H1,I1,r1,q1⟩=>?_)
 obtain ⟨c,rfl,q1⟩:=q1
 cases r1
 refine Vb ?_
 cases c with
 | true=>exact hb aa s1 σ H1 Q I1 q1
 | false=>exact ⟨.bl false,H1,I1,rfl,q1⟩
theorem L0 (ha:PE X a ta) (hb:PE X (.BoolOp .Or (b::rest) pos) tb):PE X (.BoolOp .Or (a::b::rest) pos) (O5 ta tb):=by
 intro aa s σ H Q I h
 refine BoolOp_or (bB (ha aa s σ H _ I h) λv s1 ⟨x,H1,I1,r1,q1⟩=>?_)
 obtain ⟨c,rfl,q1⟩:=q1
 cases r1
 refine Vb ?_
 cases c with
 | false=>exact hb aa s1 σ H1 Q I1 q1
 | true=>exact ⟨.bl true,H1,I1,rfl,q1⟩
noncomputable def QX (t:TT) (ta tb:TE):TE:=λσ H Q=>t σ H λc H1=>if c=true then ta σ H1 Q else tb σ H1 Q
theorem Ad (hc:PT X c tA) (ha:PE X a ta) (hb:PE X b tb):PE X (.IfExp c a b pos) (QX tA ta tb):=by
 intro aa s σ H Q I h
 refine wpAny_IfExp (bB (hc aa s σ H _ I h) λd s1 ⟨H1,I1,q1⟩=>?_)
 cases d with
 | true=>exact ha aa s1 σ H1 Q I1 q1
 | false=>exact hb aa s1 σ H1 Q I1 q1
end
def fS (K:Rr) (H:Hp) (a:Addr) (xs:List V):Prop :=
 Rd H a (.lst xs) \/
  ∃ (o:Obj) (its:Array Value) (n:Nat),K.lookup a=some o/\o.cls=.type "list"/\o.dict=none/\o.data=.seq its n/\its.size<=sizeLine/\Vals xs its.toList
def dG (K:Rr) (H:Hp) (a:Addr) (xs:List V):Prop :=
 Rd H a (.tup xs) \/
  ∃ (o:Obj) (its:Array Value) (n:Nat),K.lookup a=some o/\o.cls=.type "tuple"/\o.data=.seq its n/\its.size<=sizeLine/\Vals xs its.toList
noncomputable def O6:Value->Option V
 | .none=>some .non
 | .bool b=>some (.bl b)
 | .int i _=>some (.int i)
 | .str x _=>some (.str x)
 | .bytes b _=>some (.byt b)
 | .float b _=>some (.flt b)
 | .ref a=>some (.ref a)
 | .type n=>some (.ty n)
 | _=>none
theorem RelV.abs (r:RelV x u):O6 u=some x:=by
 cases x with
 | non=>cases r; rfl
 | bl _=>cases r; rfl
 | int _=>obtain ⟨t,rfl⟩:=r; rfl
 | str _=>obtain ⟨t,rfl⟩:=r; rfl
 | byt _=>obtain ⟨t,rfl⟩:=r; rfl
 | flt _=>obtain ⟨t,rfl⟩:=r; rfl
 | ref _=>cases r; rfl
 | ty _=>cases r; rfl
theorem RelV.inj (r:RelV x u) (q:RelV y u):x=y:=TJ (r.abs.symm.trans q.abs)
theorem Vals.inj:∀ {xs ys:List V} {us:List Value},Vals xs us->Vals ys us->xs=ys
 | _,_,_,.nil,.nil=>rfl
 | _,_,_,.cons r t,.cons r' t'=>by rw [r.inj r',Vals.inj t t']
theorem Inv.list (I:Inv X aa σ H s) (h:fS X.K H a xs):∃ its:List Value,Vals xs its/\PlainL s.heap a its.toArray/\xs.length<=sizeLine:=by
 rcases h with h | ⟨o,its,n,hk,hc,hd,hs,hz,r⟩
 ·obtain ⟨z,its,n,r,e⟩:=h.ok I.hok
  exact ⟨its,r,⟨_,n,e,rfl,rfl,rfl⟩,z⟩
 ·refine ⟨its.toList,r,⟨o,n,I.Ea a o hk,hc,hd,by simpa using hs⟩,?_⟩
  have e:=r.length
  simp only [Sy] at e
  lia
theorem Inv.tuple (I:Inv X aa σ H s) (h:dG X.K H a xs):∃ its:List Value,Vals xs its/\IsTup s.heap a its.toArray/\xs.length<=sizeLine:=by
 rcases h with h | ⟨o,its,n,hk,hc,hs,hz,r⟩
 ·obtain ⟨z,its,r,p⟩:=h.ok I.hok
  exact ⟨its,r,p,z⟩
 ·refine ⟨its.toList,r,⟨o,I.Ea a o hk,hc,n,by simpa using hs⟩,?_⟩
  have e:=r.length
  simp only [Sy] at e
  lia
theorem Inv.ku (I:Inv X aa σ H s) (h:fS X.K H a xs) (h':fS X.K H a ys):xs=ys:=by
 obtain ⟨its,r,⟨o,n,e,_,_,d⟩,_⟩:=I.list h
 obtain ⟨its',r',⟨o',n',e',_,_,d'⟩,_⟩:=I.list h'
 rw [e] at e'; cases e'
 rw [d] at d'
 injection d' with d1 _
 have:its=its':=by simpa using congrArg Array.toList d1
 subst this
 exact r.inj r'
theorem Inv.jg (I:Inv X aa σ H s) (h:dG X.K H a xs) (h':dG X.K H a ys):xs=ys:=by
 obtain ⟨its,r,⟨o,e,_,n,d⟩,_⟩:=I.tuple h
 obtain ⟨its',r',⟨o',e',_,n',d'⟩,_⟩:=I.tuple h'
 rw [e] at e'; cases e'
 rw [d] at d'
 injection d' with d1 _
 have:its=its':=by simpa using congrArg Array.toList d1
 subst this
 exact r.inj r'
noncomputable abbrev Cx.mD (X:Cx) (E:Value->Shared->Prop):Cx:={ X with xe:=E }
noncomputable abbrev Cx.LG (X:Cx):Cx:=X.mD λ_ _=>False
theorem Cx.Ok.mD {X:Cx} (ok:X.Ok) (E):(X.mD E).Ok :=
 ⟨ok.mod,ok.kind,ok.glob,ok.blt,ok.above,ok.inj,ok.has,ok.cab,ok.hd,ok.frames,ok.stk,ok.exf,ok.bs,ok.bsz,ok.noex,ok.exfs,ok.jf,ok.frf⟩
theorem Cx.Ok.fW {X:Cx} (ok:(X.mD E).Ok):X.Ok :=
 ⟨ok.mod,ok.kind,ok.glob,ok.blt,ok.above,ok.inj,ok.has,ok.cab,ok.hd,ok.frames,ok.stk,ok.exf,ok.bs,ok.bsz,ok.noex,ok.exfs,ok.jf,ok.frf⟩
theorem Inv.mD (I:Inv X aa σ H s) (E):Inv (X.mD E) aa σ H s:=⟨I.ok.mD E,I.os,I.bare,I.base,I.loc,I.cell,I.free,I.freeC,I.pin,I.hok,I.len⟩
theorem Inv.fW (I:Inv (X.mD E) aa σ H s):Inv X aa σ H s:=⟨I.ok.fW,I.os,I.bare,I.base,I.loc,I.cell,I.free,I.freeC,I.pin,I.hok,I.len⟩
theorem SP.fW (h:SP (X.mD E) aa D f s'):SP X aa D f s':=by
 cases f with
 | next=>obtain ⟨σ',H',I,q⟩:=h; exact ⟨σ',H',I.fW,q⟩
 | brk=>obtain ⟨σ',H',I,q⟩:=h; exact ⟨σ',H',I.fW,q⟩
 | cont=>obtain ⟨σ',H',I,q⟩:=h; exact ⟨σ',H',I.fW,q⟩
 | ret u=>obtain ⟨v,σ',H',I,r,q⟩:=h; exact ⟨v,σ',H',I.fW,r,q⟩
theorem tQ.LG {st:List Stmt} (h:tQ X.LG st t):tQ X st t:=λaa s σ H D I hw =>
 Sk (h aa s σ H D (I.mD _) hw) (λ_ _ q=>q.fW) λ_ _ z=>SO z
section
variable {st:Stmt} {rest:List Stmt}
noncomputable def L1:TS:=λD σ H=>D.nx σ H
noncomputable def O7 (t u:TS):TS:=λD σ H=>t { D with nx:=u D } σ H
theorem Ep:tQ X [] L1:=λ_ _ σ H _ I h=>wpAny_execs_nil ⟨σ,H,I,h⟩
theorem Ae (h1:PS X st t) (h2:tQ X rest u):tQ X (st::rest) (O7 t u):=by
 intro aa s σ H D I h
 refine wpAny_execs_cons (bB (h1 aa s σ H { D with nx:=u D } I h) λf s1 q=>?_)
 cases f with
 | next =>
  obtain ⟨σ',H',I',q⟩:=q
  exact h2 aa s1 σ' H' D I' q
 | ret v=>exact q
 | brk=>exact q
 | cont=>exact q
theorem Inv.quiet (I:Inv X aa σ H s):interactive X.env=false:=by simp [interactive,I.ok.kind]
noncomputable def L3 (te:TE):TS:=λD σ H=>te σ H λ_ H1=>D.nx σ H1
theorem oE (he:PE X e te) (hs:swapsWith e none pos.line X.env=pure false:=by rfl):PS X (.Expr e pos) (L3 te):=by
 intro aa s σ H D I h
 exact wpAny_Expr_any (bB (he aa s σ H _ I h) λv s1 ⟨x,H1,I1,r1,q1⟩=>⟨σ,H1,I1,q1⟩) I.quiet hs
noncomputable def O8 (te:TE):TS:=λD σ H=>te σ H D.rt
theorem Af (he:PE X e te):PS X (.Return (some e) pos) (O8 te):=by
 intro aa s σ H D I h
 exact wpAny_Return_some (bB (he aa s σ H _ I h) λv s1 ⟨x,H1,I1,r1,q1⟩=>⟨x,σ,H1,I1,r1,q1⟩)
noncomputable def O9 (c:TT) (t u:TS):TS:=λD σ H=>c σ H λb H1=>if b=true then t D σ H1 else u D σ H1
theorem L4 (hc:PT X c tc) (ha:tQ X a t) (hb:tQ X b u):PS X (.If c a b pos) (O9 tc t u):=by
 intro aa s σ H D I h
 refine wpAny_If (bB (hc aa s σ H _ I h) λd s1 ⟨H1,I1,q1⟩=>?_)
 cases d with
 | true=>exact ha aa s1 σ H1 D I1 q1
 | false=>exact hb aa s1 σ H1 D I1 q1
end
noncomputable abbrev TG:=V->St->Hp->(St->Hp->Prop)->Prop
noncomputable abbrev L5:=List V->St->Hp->(St->Hp->Prop)->Prop
def PG (X:Cx) (target:Expr) (t:TG):Prop :=
 ∀ (aa:List (Addr×Obj)) (s:Shared) (σ:St) (H:Hp) (v:V) (u:Value) (Q:St->Hp->Prop),Inv X aa σ H s->RelV v u->t v σ H Q ->
  wpAny (model X.prog X.w) X.A (assign target X.env u) (λ_ s'=>∃ σ' H',Inv X aa σ' H' s'/\Q σ' H') X.xe s
def LH (X:Cx) (ts:List Expr) (t:L5):Prop :=
 ∀ (aa:List (Addr×Obj)) (s:Shared) (σ:St) (H:Hp) (vs:List V) (us:List Value) (Q:St->Hp->Prop),Inv X aa σ H s->Vals vs us->t vs σ H Q ->
  wpAny (model X.prog X.w) X.A (assignInOrder ((assignEach ts X.env).map (·.2)) us) (λ_ s'=>∃ σ' H',Inv X aa σ' H' s'/\Q σ' H') X.xe s
noncomputable abbrev IB:=V->V->V->Hp->(Hp->Prop)->Prop
def L6 (X:Cx) (t:IB):Prop :=
 ∀ (aa:List (Addr×Obj)) (s:Shared) (σ:St) (H:Hp) (o i v:V) (ov iv u:Value) (Q:Hp->Prop),Inv X aa σ H s->RelV o ov->RelV i iv->RelV v u->t o i v H Q ->
  wpAny (model X.prog X.w) X.A (setItem ov iv u) (λ_ s'=>∃ H',Inv X aa σ H' s'/\Q H') X.xe s
noncomputable abbrev QA:=V->V->Hp->VK->Prop
def QB (X:Cx) (op:Operator) (t:QA):Prop :=
 ∀ (aa:List (Addr×Obj)) (s:Shared) (σ:St) (H:Hp) (x y:V) (v u:Value) (Q:VK),Inv X aa σ H s->RelV x v->RelV y u->t x y H Q ->
  wpAny (model X.prog X.w) X.A (inplaceOp op v u) (EP X aa σ Q) X.xe s
noncomputable def G3 (i:Nat):TG:=λv σ H Q=>Q (σ.set i (some v)) H
theorem oF (hN:X.N.Nodup) (hi:X.N[i]?=some x) (hx:Loc X.env.scope x) (hf:X.fn x=true\/X.env.scope.names.lookup x=some .local:=by first | exact .inl rfl | exact .inr rfl | assumption):PG X (.Name x pos) (G3 i):=by
 intro aa s σ H v u Q I r h
 exact wpAny_assign_Name (fV I hN hi hx r (λs' I'=>⟨_,H,I',h⟩) hf)
noncomputable def Pa:L5:=λvs σ H Q=>vs=[]/\Q σ H
noncomputable def L7 (t:TG) (u:L5):L5:=λvs σ H Q=>∃ v r,vs=v::r/\t v σ H λσ' H'=>u r σ' H' Q
theorem Er:LH X [] Pa:=by
 intro aa s σ H vs us Q I r h
 obtain ⟨e,h⟩:=h
 subst e
 cases r
 exact assignInOrder_nil ⟨σ,H,I,h⟩
theorem Ag (h1:PG X e t) (h2:LH X es u)
 (hs:(assignEach (e::es) X.env).map (·.2)=assign e X.env::(assignEach es X.env).map (·.2):=by rfl):LH X (e::es) (L7 t u):=by
 intro aa s σ H vs us Q I r h
 obtain ⟨v,vr,e1,h⟩:=h
 subst e1
 cases r with
 | cons r rr =>
  rw [hs]
  refine Xo (bB (h1 aa s σ H _ _ _ I r h) λ_ s1 ⟨σ1,H1,I1,q1⟩=>?_)
  exact h2 aa s1 σ1 H1 _ _ Q I1 rr q1
noncomputable def Pb (K:Rr) (n:Nat) (t:L5):TG:=λv σ H Q=>∃ a xs,v=.ref a/\dG K H a xs/\xs.length=n/\t xs σ H Q
theorem IC (hc:X.calm=true) (h:LH X es t)
 (hn:(assignEach es X.env).length=n:=by rfl) (hst:(assignEach es X.env).findIdx? (·.1)=none:=by rfl):PG X (.Tuple es k pos) (Pb X.K n t):=by
 intro aa s σ H v u Q I r hw
 obtain ⟨a,xs,e1,hq,hl,hw⟩:=hw
 subst e1
 cases r
 obtain ⟨its,rv,ht,hz⟩:=I.tuple hq
 refine assign_Tuple_tuple (I.ok.hd hc) ht (by simp [hn,<- hl,rv.length]) hst λh' hx=>?_
 have I1:Inv X aa σ H { s with heap:=h' }:=I.kept (t':=s.toks) λb o e=>hx b o (RW (Ry e)) e
 exact h aa _ σ H xs _ Q I1 (by simpa using rv) hw
noncomputable def Pc (to ti:TE) (t:IB):TG:=λv σ H Q=>to σ H λo H1=>ti σ H1 λi H2=>t o i v H2 λH3=>Q σ H3
theorem ID (ho:PE X o to) (hi:PE X i ti) (hs:L6 X t)
 (ha:∀ v,assign (.Subscript o i pos) X.env v=(do
   let ov <- holding [v] (eval o X.env)
   let iv <- holding [v,ov] (eval i X.env)
   standAt pos
   holding [v,ov,iv] (setItem ov iv v)
   release [v,ov,iv] []):=by intro _; rfl):PG X (.Subscript o i pos) (Pc to ti t):=by
 intro aa s σ H v u Q I r h
 rw [ha]
 refine Rq (Tw (bB (ho aa s σ H _ I h) λov s1 ⟨x,H1,I1,r1,q1⟩=>?_))
 refine Rq (Tw (bB (hi aa s1 σ H1 _ I1 q1) λiv s2 ⟨y,H2,I2,r2,q2⟩=>?_))
 refine Rq (Wx (Rq (Tw (bB (hs aa s2 σ H2 x y v ov iv u _ I2 r1 r2 r q2) λ_ s3 ⟨H3,I3,q3⟩=>?_))))
 exact wpAny_release ⟨σ,H3,I3,q3⟩
noncomputable def L8 (te:TE) (g:TG):TS:=λD σ H=>te σ H λx H1=>g x σ H1 D.nx
theorem IE (he:PE X e te) (hg:PG X tg g) (hs:swapsWithSole [tg] e pos.line X.env=pure false:=by rfl) (hw:swappedStores [tg] e X.env=pure none:=by rfl)
 (h1:(assignEach [tg] X.env).map (·.2)=[assign tg X.env]:=by rfl):PS X (.Assign [tg] e pos) (L8 te g):=by
 intro aa s σ H D I h
 refine wpAny_Assign_stores (bB (he aa s σ H _ I h) λv s1 ⟨x,H1,I1,r1,q1⟩=>?_) hs hw
 rw [h1]
 exact bB (hg aa s1 σ H1 x v _ I1 r1 q1) λ_ s2 q=>q
theorem IF (hN:X.N.Nodup) (hi:X.N[i]?=some x) (hx:Loc X.env.scope x) (he:PE X e te) (hs:swapsWith e (some (.Name x pos')) pos.line X.env=pure false:=by rfl) (hf:X.fn x=true\/X.env.scope.names.lookup x=some .local:=by first | exact .inl rfl | exact .inr rfl | assumption) :
 PS X (.Assign [.Name x pos'] e pos) (L8 te (G3 i)):=by
 intro aa s σ H D I h
 refine wpAny_Assign_Name (bB (he aa s σ H _ I h) λv s1 ⟨y,H1,I1,r1,q1⟩=>?_) hs
 exact fV I1 hN hi hx r1 (λs2 I2=>⟨_,H1,I2,q1⟩) hf
noncomputable def Pd (i j:Nat) (ta:TA):TS:=λD σ H=>ta σ H λvs H1=>∃ v w,vs=[v,w]/\D.nx ((σ.set i (some v)).set j (some w)) H1
theorem IG {kt k2 pt2} (hc:X.calm=true) (hN:X.N.Nodup) (hi:X.N[i]?=some x) (hj:X.N[j]?=some y) (hij:i≠j)
 (hx:X.env.scope.names.lookup x=some .local) (hy:X.env.scope.names.lookup y=some .local) (ha:PA X [a,b] ta)
 (hw:swappedStores [.Tuple [.Name x px,.Name y py] kt pt] (.Tuple [a,b] k2 pt2) X.env=pure (some [x,y]))
 (hs:swapsWithSole [.Tuple [.Name x px,.Name y py] kt pt] (.Tuple [a,b] k2 pt2) pos.line X.env=pure false:=by rfl) :
 PS X (.Assign [.Tuple [.Name x px,.Name y py] kt pt] (.Tuple [a,b] k2 pt2) pos) (Pd i j ta):=by
 intro aa s σ H D I h
 rw [exec_Assign_arm]
 refine Rq (Wx ?_)
 rw [hs]
 refine Rq (Rt ?_)
 rw [if_neg (by decide)]
 refine Rq (Tuple_ (bB (ha _ aa s σ H _ I h) λus s1 ⟨vs,H1,I1,r1,q1⟩=>?_))
 obtain ⟨v,w,e1,q1⟩:=q1
 subst e1
 obtain ⟨u1,u2,rfl,rv,rw'⟩:∃ u1 u2,us=[u1,u2]/\RelV v u1/\RelV w u2:=by
  cases r1 with
  | cons p q =>
   cases q with
   | cons p' q' =>
    cases q'
    exact ⟨_,_,rfl,p,p'⟩
 refine Td ?_ (by show 2<=sizeLine; decide)
 have I2:Inv X aa σ H1 { s1 with heap:=s1.heap.push { cls:=.type "tuple",data:=.seq [u1,u2].toArray } }:=I1.kept (t':=s1.toks) λb o e=>Rx _ e
 rw [hw]
 refine Rq (Rt ?_)
 show wpAny (model X.prog X.w) X.A (do rule "assign.swapped-stores"; let items <- unpackItems (.ref s1.heap.objs.size) 2 none; assignInOrder [λv=>bindName X.env y v,λv=>bindName X.env x v] items.reverse; pure Flow.next) _ _ _
 refine Rq (SM (Rq (unpackItems_tuple (items:= #[u1,u2]) (I.ok.hd hc) (IsTup.new s1.heap _) λh' hx'=>?_)))
 have I3:=I2.kept (h':=h') (t':=s1.toks) λb o e=>hx' b o (RW (Ry e)) e
 show wpAny _ _ (assignInOrder [λv=>bindName X.env y v,λv=>bindName X.env x v] [u2,u1] >>= λ_=>pure Flow.next) _ _ _
 refine Rq (Xo (wpAny_bindName (fV I3 hN hj (.inl hy) rw' (λs2 I4=>?_) (.inr hy))))
 refine Xo (wpAny_bindName (fV I4 hN hi (.inl hx) rv (λs3 I5=>assignInOrder_nil (Rt ?_)) (.inr hx)))
 rw [List.set_comm _ _ (RS hij)] at I5
 exact ⟨_,H1,I5,q1⟩
noncomputable def Pe (i:Nat) (te:TE) (ti:QA):TS:=λD σ H=>∃ x,σ[i]?=some (some x)/\te σ H λy H1=>ti x y H1 λz H2=>D.nx (σ.set i (some z)) H2
theorem II (hN:X.N.Nodup) (hi:X.N[i]?=some x) (hx:Loc X.env.scope x) (he:PE X e te) (ho:QB X op ti) (hf:X.fn x=true\/X.env.scope.names.lookup x=some .local:=by first | exact .inl rfl | exact .inr rfl | assumption) :
 PS X (.AugAssign (.Name x pos') op e pos) (Pe i te ti):=by
 intro aa s σ H D I h
 obtain ⟨v,e1,h⟩:=h
 obtain ⟨m,hn,hl⟩:=I.loc
 have vis:O0 X.env.scope x:=by rcases hx with k | k; exact .inl k; exact .inr (.inl k)
 obtain ⟨u,r,l⟩:=hl i x v hi e1 vis
 refine wpAny_AugAssign_Name ?_
 have go:wpAny (model X.prog X.w) X.A (eval e X.env) (λw s₂=>wpAny (model X.prog X.w) X.A (inplaceOp op u w) (λr s₃=>wpAny (model X.prog X.w) X.A (storeName X.env x r) (λ_=>SP X aa D .next) X.xe s₃) X.xe s₂) X.xe s:=by
  refine bB (he aa s σ H _ I h) λw s1 ⟨y,H1,I1,r1,q1⟩=>?_
  refine bB (ho aa s1 σ H1 v y u w _ I1 r r1 q1) λz s2 ⟨zv,H2,I2,r2,q2⟩=>?_
  exact fV I2 hN hi hx r2 (λs3 I3=>⟨_,H2,I3,q2⟩) hf
 rcases l with ⟨hk,hm⟩ | ⟨hk,c,hc,hcell⟩
 ·exact wpAny_loadName_local I.ok.kind hk hn hm go
 ·rcases hk with hk | hk
  ·exact wpAny_loadName_cell I.ok.kind hk hc hcell go
  ·rcases hx with k | k
   ·have:X.env.scope.names.lookup x=some .free:=hk
    rw [k] at this; cases this
   ·have:X.env.scope.names.lookup x=some .free:=hk
    rw [k] at this; cases this
noncomputable def IJ (c:TT) (tb:TS):TS:=λD σ H=>∃ W:Nat->St->Hp->Prop,(∃ m,W m σ H)/\∀ m σ H,W m σ H ->
 c σ H λb H1=>if b=true then ∃ N:St->Hp->Prop,(∀ σ' H',N σ' H'->∃ m',m'<m/\W m' σ' H')/\tb { D with nx:=N,ct:=N,bk:=D.nx } σ H1 else D.nx σ H1
theorem Ah (hp:PassesOwn (model X.prog X.w) X.A X.env X.xe) (hc:PT X c tc) (hb:tQ X body tb):PS X (.While c body [] pos) (IJ tc tb):=by
 intro aa s σ H D I h
 obtain ⟨W,⟨m0,w0⟩,turn⟩:=h
 refine wpAny_While (codeAny_whileLoop (λn s'=>∃ σ' H',Inv X aa σ' H' s'/\W n σ' H') ?_ m0 ⟨σ,H,I,w0⟩)
 rintro n s1 ⟨σ1,H1,I1,w1⟩
 refine UH hp (bB (hc aa s1 σ1 H1 _ I1 (turn n σ1 H1 w1)) λb s2 ⟨H2,I2,q2⟩=>?_)
 cases b with
 | true =>
  obtain ⟨N,hN,q2⟩:=q2
  rw [if_pos rfl]
  refine UH hp (bB (hb aa s2 σ1 H2 _ I2 q2) λf s3 q3=>?_)
  cases f with
  | next =>
   obtain ⟨σ3,H3,I3,n3⟩:=q3
   obtain ⟨m',hm,w3⟩:=hN σ3 H3 n3
   exact ⟨m',hm,σ3,H3,I3,w3⟩
  | cont =>
   obtain ⟨σ3,H3,I3,n3⟩:=q3
   obtain ⟨m',hm,w3⟩:=hN σ3 H3 n3
   exact ⟨m',hm,σ3,H3,I3,w3⟩
  | brk=>exact q3
  | ret v=>exact q3
 | false =>
  rw [if_neg RG]
  exact wpAny_execs_nil ⟨σ1,H2,I2,q2⟩
structure It where
 go:Nat->Hp->Prop
 yld:Nat->Hp->V->Hp->Prop
 stop:Nat->Hp->Prop
def eZ (X:Cx) (aa:List (Addr×Obj)) (H:Hp) (b:Addr):Prop :=
 H b=none/\b≠X.env.locals/\b∉X.fs/\(b∈X.ex\/X.s₀.heap.objs.size<=b)/\(∀ x c,X.env.cells.lookup x=some c->c≠b)/\∀ p∈X.pn++aa,p.1≠b
theorem Inv.mE (I:Inv X aa σ H s) (hb:s.heap.objs.size<=b) (hn:H' b=none):eZ X aa H' b:=by
 refine ⟨hn,Uq (R8 I.lt hb),I.LW hb,.inr (Rz I.sz hb),λx c e z=>?_,λp hp z=>?_⟩
 ·obtain ⟨v,q⟩:=I.cell x c e
  exact absurd (R8 q.lt (by rw [z]; exact hb)) (Tp _)
 ·exact absurd (R8 (Ry (I.pin p hp).1) (by rw [z]; exact hb)) (Tp _)
structure Turn (P:Program) (w:World) (K:Rr) (tg:Expr) (J:It) (fp:List Addr) (it:Addr) (tn:Nat->Heap->Prop):Prop where
 mem:it∈fp
 obj:∀ i h,tn i h->∀ b∈fp,∃ o,h.get? b=some o/\∀ v,o.data≠.cell v
 keep:∀ i h h',tn i h->(∀ b∈fp,∀ o,h.get? b=some o->h'.get? b=some o)->tn i h'
 item:∀ (X:Cx),X.prog=P->X.w=w->X.K=K->X.calm=true->∀ (i:Nat) (aa:List (Addr×Obj)) (s:Shared) (σ:St) (H:Hp) (E:Value->Shared->Prop),Inv X aa σ H s->(∀ b∈fp,eZ X aa H b)->tn i s.heap->J.go i H ->
  wpAny (model P w) X.A (pyNext (.ref it)) (λr s1=>∃ u,r=some u /\
   wpAny (model P w) X.A (letOwnedTupleGo tg (.ref it) u) (λ_ s2=>∃ x H',Inv X aa σ H' s2/\RelV x u/\J.yld i H x H'/\tn (i+1) s2.heap/\∀ b∈fp,H' b=none) E s1) E s
 done:∀ (X:Cx),X.prog=P->X.w=w->X.K=K->X.calm=true->∀ (i:Nat) (aa:List (Addr×Obj)) (s:Shared) (σ:St) (H:Hp) (E:Value->Shared->Prop),Inv X aa σ H s->(∀ b∈fp,eZ X aa H b)->tn i s.heap->J.stop i H ->
  wpAny (model P w) X.A (pyNext (.ref it)) (λr s1=>r=none/\Inv X aa σ H s1) E s
 self:∀ (A:Around) (i:Nat) (s:Shared) (Q:Value->Shared->Prop) (E:Value->Shared->Prop),tn i s.heap->Q (.ref it) s->wpAny (model P w) A (pyIter (.ref it)) Q E s
noncomputable abbrev TI:=St->Hp->(It->Hp->Prop)->Prop
def Pf (X:Cx) (aa:List (Addr×Obj)) (σ:St) (tg:Expr) (R:It->Hp->Prop) (itv:Value) (s2:Shared):Prop :=
 ∃ (it:Addr) (fp:List Addr) (tn:Nat->Heap->Prop) (J:It) (H':Hp),itv=.ref it/\Inv X aa σ H' s2/\Turn X.prog X.w X.K tg J fp it tn/\tn 0 s2.heap/\(∀ b∈fp,eZ X aa H' b)/\R J H'
def PI (X:Cx) (tg iter:Expr) (wi:TI):Prop :=
 ∀ (aa:List (Addr×Obj)) (s:Shared) (σ:St) (H:Hp) (R:It->Hp->Prop),Inv X aa σ H s->wi σ H R ->
  wpAny (model X.prog X.w) X.A (eval iter X.env) (λv s1=>wpAny (model X.prog X.w) X.A (pyIter v) (Pf X aa σ tg R) X.xe s1) X.xe s
theorem qD (ho:s.heap.get? it=some o) (hc:o.cls=.type n) (hd:o.data=.fields vs)
 (hn:["enumerate","zip","dict_itemiterator","dict_reverseitemiterator","odict_iterator","itertools.zip_longest","itertools.pairwise"].contains n=false) (hQ:Q () s):wpAny M A (letOwnedTupleGo tg (.ref it) u) Q E s:=by
 unfold letOwnedTupleGo
 cases tg <;> first
  | exact Rt hQ
  | (cases u <;> first
      | exact Rt hQ
      | (refine Rq (wpAny_load ho ?_)
         rw [hc,hd]
         show wpAny M A (if (["enumerate","zip","dict_itemiterator","dict_reverseitemiterator","odict_iterator","itertools.zip_longest","itertools.pairwise"].contains n && vs[0]? == some (rawInt _))=true then _ else _) Q E s
         rw [if_neg (by intro h; rw [hn,Bool.false_and] at h; cases h)]
         exact Rt hQ))
noncomputable def Pg (K:Rr) (a:Addr):It :=
 ⟨λi H=>∃ xs x,fS K H a xs/\xs[i]?=some x,λi H x H'=>H'=H/\∀ xs,fS K H a xs->xs[i]?=some x,λi H=>∃ xs,fS K H a xs/\xs.length<=i⟩
noncomputable def Ph (K:Rr) (a:Addr):It :=
 ⟨λi H=>∃ xs x,dG K H a xs/\xs[i]?=some x,λi H x H'=>H'=H/\∀ xs,dG K H a xs->xs[i]?=some x,λi H=>∃ xs,dG K H a xs/\xs.length<=i⟩
noncomputable def OG (lo:Int) (n:Nat):It:=⟨λi _=>i<n,λi H x H'=>H'=H/\x=.int (lo+i),λi _=>n<=i⟩
theorem yf {P:Program} {w:World} {K:Rr} {tg:Expr} (a it:Addr):Turn P w K tg (Pg K a) [it] it (λi h=>h.IsListIter it a i) where
 mem:=by simp
 obj:=λi h st b hb=>by
  have e:b=it:=by simpa using hb
  subst e
  obtain ⟨o,e,c,d⟩:=st
  exact ⟨o,e,λv z=>by rw [d] at z; cases z⟩
 keep:=λi h h' st k=>st.at λo e=>k it (by simp) o e
 item:=by
  intro X hP hw hK hc i aa s σ H E I hf st hg
  subst hP hw hK
  obtain ⟨xs,x,hq,hx⟩:=hg
  obtain ⟨its,rv,p,hz⟩:=I.list hq
  obtain ⟨u,hu,ru⟩:=rv.get hx
  obtain ⟨f0,f1,f2,f3,f4,f5⟩:=hf it (by simp)
  refine wpAny_pyNext_list_item st p.isList (x:=u) (by simpa using hu) λh' st' sb=>?_
  have I1:Inv X aa σ H { s with heap:=h' }:=I.turned (t':=s.toks) (λb o hb e=>(sb.2 b hb).trans e) f0 f1 f3 f4 f5
  obtain ⟨o,e,c,d⟩:=id st'
  exact ⟨u,rfl,qD (s:={ s with heap:=h' }) e c d (by decide) ⟨x,H,I1,ru,⟨rfl,λys hy=>by rw [I.ku hy hq]; exact hx⟩,st',λb hb=>(hf b hb).1⟩⟩
 done:=by
  intro X hP hw hK hc i aa s σ H E I hf st hg
  subst hP hw hK
  obtain ⟨xs,hq,hx⟩:=hg
  obtain ⟨its,rv,p,hz⟩:=I.list hq
  obtain ⟨f0,f1,f2,f3,f4,f5⟩:=hf it (by simp)
  have hl:=rv.length
  exact wpAny_pyNext_list_end (I.ok.hd hc) st p.isList (by simp; lia) λh' eb=>⟨rfl,I.turned (t':=s.toks) (λb o hb e=>eb b o hb e) f0 f1 f3 f4 f5⟩
 self:=λ_ _ _ _ _ st h=>wpAny_pyIter_listiter st h
theorem tS {P:Program} {w:World} {K:Rr} {tg:Expr} (a it:Addr):Turn P w K tg (Ph K a) [it] it (λi h=>h.IsTupleIter it a i) where
 mem:=by simp
 obj:=λi h st b hb=>by
  have e:b=it:=by simpa using hb
  subst e
  obtain ⟨o,e,c,d⟩:=st
  exact ⟨o,e,λv z=>by rw [d] at z; cases z⟩
 keep:=λi h h' st k=>st.at λo e=>k it (by simp) o e
 item:=by
  intro X hP hw hK hc i aa s σ H E I hf st hg
  subst hP hw hK
  obtain ⟨xs,x,hq,hx⟩:=hg
  obtain ⟨its,rv,p,hz⟩:=I.tuple hq
  obtain ⟨u,hu,ru⟩:=rv.get hx
  obtain ⟨f0,f1,f2,f3,f4,f5⟩:=hf it (by simp)
  refine wpAny_pyNext_tuple_item st (show s.heap.IsTuple a its.toArray from p) (x:=u) (by simpa using hu) λh' st' sb=>?_
  have I1:Inv X aa σ H { s with heap:=h' }:=I.turned (t':=s.toks) (λb o hb e=>(sb.2 b hb).trans e) f0 f1 f3 f4 f5
  obtain ⟨o,e,c,d⟩:=id st'
  exact ⟨u,rfl,qD (s:={ s with heap:=h' }) e c d (by decide) ⟨x,H,I1,ru,⟨rfl,λys hy=>by rw [I.jg hy hq]; exact hx⟩,st',λb hb=>(hf b hb).1⟩⟩
 done:=by
  intro X hP hw hK hc i aa s σ H E I hf st hg
  subst hP hw hK
  obtain ⟨xs,hq,hx⟩:=hg
  obtain ⟨its,rv,p,hz⟩:=I.tuple hq
  obtain ⟨f0,f1,f2,f3,f4,f5⟩:=hf it (by simp)
  have hl:=rv.length
  exact wpAny_pyNext_tuple_end (I.ok.hd hc) st (show s.heap.IsTuple a its.toArray from p) (by simp; lia) λh' eb=>⟨rfl,I.turned (t':=s.toks) (λb o hb e=>eb b o hb e) f0 f1 f3 f4 f5⟩
 self:=λ_ _ _ _ _ st h=>wpAny_pyIter_tupleiter st h
theorem tT {P:Program} {w:World} {K:Rr} {tg:Expr} (it:Addr) (lo:Int) (n:Nat):Turn P w K tg (OG lo n) [it] it (λi h=>IsRangeIter h it (lo+(i:Nat) * 1) ((n:Int) - (i:Nat)) 1) where
 mem:=by simp
 obj:=λi h st b hb=>by
  have e:b=it:=by simpa using hb
  subst e
  exact ⟨_,st,λv z=>by
   have z':VR _=UU v:=z
   cases z'⟩
 keep:=λi h h' st k=>k it (by simp) _ st
 item:=by
  intro X hP hw hK hc i aa s σ H E I hf st hg
  subst hP hw hK
  obtain ⟨f0,f1,f2,f3,f4,f5⟩:=hf it (by simp)
  have W:=Walks.range (prog:=X.prog) (w:=X.w) (I.ok.hd hc) it lo 1 n
  refine W.item i s _ _ hg st λv h' tk hv st' kk=>?_
  obtain ⟨t,rfl⟩:=hv
  have I1:Inv X aa σ H { s with heap:=h',toks:=tk }:=I.turned (λb o hb e=>kk b o (by simpa using hb) e) f0 f1 f3 f4 f5
  refine ⟨_,rfl,qD (s:={ s with heap:=h',toks:=tk }) (n:="range_iterator") st' rfl rfl (by decide) ⟨.int (lo+i),H,I1,⟨t,?_⟩,⟨rfl,rfl⟩,st',λb hb=>(hf b hb).1⟩⟩
  rw [Int.mul_one]
 done:=by
  intro X hP hw hK hc i aa s σ H E I hf st hg
  subst hP hw hK
  obtain ⟨f0,f1,f2,f3,f4,f5⟩:=hf it (by simp)
  exact wpAny_pyNext_range_end (I.ok.hd hc) st (by have:n<=i:=hg; lia) λh' eb=>⟨rfl,I.turned (t':=s.toks) (λb o hb e=>eb b o hb e) f0 f1 f3 f4 f5⟩
 self:=λ_ _ _ _ _ st h=>wpAny_pyIter_rangeiter st h
theorem Ai {lo hi:Int} (I:Inv X aa σ H s) (h1: -(2 ^ 62)<=lo) (h2:lo<2 ^ 62) (h3: -(2 ^ 62)<=hi) (h4:hi<2 ^ 62)
 (q:R (OG lo (hi - lo).toNat) H):wpAny (model X.prog X.w) X.A (pyIter (.ref s.heap.objs.size)) (Pf X aa σ tg R) E { s with heap:=s.heap.push { cls:=.type "range",data:=.fields #[.int lo t,.int hi u,.int 1 v] },toks:=tk }:=by
 refine wpAny_pyIter_range (IsRange.new ..) (small_one h1 h2 h3 h4) ?_
 have I1:Inv X aa σ H { s with heap:=s.heap.push { cls:=.type "range",data:=.fields #[.int lo t,.int hi u,.int 1 v] },toks:=tk }:=I.kept λb o e=>Rx _ e
 refine ⟨(s.heap.push { cls:=.type "range",data:=.fields #[.int lo t,.int hi u,.int 1 v] }).objs.size,[(s.heap.push { cls:=.type "range",data:=.fields #[.int lo t,.int hi u,.int 1 v] }).objs.size],_,_,H,rfl,
  I1.kept (t':=tk) λb o e=>Rx _ e,tT _ lo (hi - lo).toNat,?_,λb hb=>?_,q⟩
 ·have e1:lo+((0:Nat):Int) * 1=lo:=by simp
  have e2:(((hi - lo).toNat:Nat):Int) - ((0:Nat):Int)=V4 lo hi 1:=by rw [rangeSize_one]; split <;> lia
  show IsRangeIter _ _ (lo+((0:Nat):Int) * 1) ((((hi - lo).toNat:Nat):Int) - ((0:Nat):Int)) 1
  rw [e1,e2]
  exact RK _ rfl
 ·have e:b=(s.heap.push { cls:=.type "range",data:=.fields #[.int lo t,.int hi u,.int 1 v] }).objs.size:=by simpa using hb
  subst e
  exact I1.mE (Rv _) (I1.hok.fresh (Rv _))
noncomputable def Ma (ta:TA):TI:=λσ H R=>ta σ H λvs H1=>∃ j:Int,vs=[.int j]/\ -(2 ^ 62)<=j/\j<2 ^ 62/\R (OG 0 j.toNat) H1
theorem yg (hg:Gl X "range") (hm:X.mg "range"=none) (ha:PA X [a] ta) (hs:starEach [a] X.env=[(false,eval a X.env)]:=by rfl):PI X tg (.Call (.Name "range" p) [a] [] pos) (Ma ta):=by
 intro aa s σ H R I h
 refine Call_ (dZ I hg hm boot_range (UZ (bB (ha pos aa s σ H _ I h) λus s1 ⟨vs,H1,I1,r1,q1⟩=>?_) hs rfl))
 obtain ⟨j,e,q1,q2,q⟩:=q1
 subst e
 cases r1 with
 | cons r rr =>
  cases rr
  obtain ⟨t,rfl⟩:=r
  exact call_range_1 (Ai I1 (by lia) (by lia) q1 q2 (by simpa using q))
noncomputable def Pj (wi:TI) (g:TG) (tb:TS):TS:=λD σ H=>wi σ H λJ H1=>∃ W:Nat->Nat->St->Hp->Prop,(∃ m,W 0 m σ H1)/\∀ i m σ H,W i m σ H ->
 (J.stop i H/\D.nx σ H)\/(J.go i H/\∃ N:St->Hp->Prop,(∀ σ' H',N σ' H'->∃ m',m'<m/\W (i+1) m' σ' H')/\∀ x H',J.yld i H x H'->g x σ H' λσ2 H2=>tb { D with nx:=N,ct:=N,bk:=D.nx } σ2 H2)
noncomputable def jh (fp:List Addr) (h:Heap):List (Addr×Obj):=fp.filterMap λb=>(h.get? b).map λo=>(b,o)
theorem d7 (hb:b∈fp) (e:h.get? b=some o):(b,o)∈jh fp h:=List.mem_filterMap.mpr ⟨b,hb,by rw [e]; rfl⟩
theorem yh (hp:p∈jh fp h):p.1∈fp/\h.get? p.1=some p.2:=by
 obtain ⟨b,hb,e⟩:=List.mem_filterMap.mp hp
 cases q:h.get? b with
 | none=>rw [q] at e; cases e
 | some o =>
  rw [q] at e
  have e':(b,o)=p:=TJ e
  subst e'
  exact ⟨hb,q⟩
theorem Inv.pinned (I:Inv X aa σ H s) (hf:∀ b∈fp,eZ X aa H b) (ho:∀ b∈fp,∃ o,s.heap.get? b=some o/\∀ v,o.data≠.cell v):Inv X (aa++jh fp s.heap) σ H s :=
 I.vF λp hp=>(R5.mp hp).elim (λz=>I.pin p (S6 _ z)) λz=>by
  obtain ⟨hb,e⟩:=yh z
  obtain ⟨f0,f1,f2,_⟩:=hf p.1 hb
  obtain ⟨o,e',d⟩:=ho p.1 hb
  rw [e] at e'; cases e'
  exact ⟨e,f0,f1,f2,d⟩
theorem Inv.fc (I:Inv X (aa++pl) σ H s):Inv X aa σ H s:=I.vF λp hp=>I.pin p (S6 _ (V8 _ hp))
theorem IK (hp:PassesOwn (model X.prog X.w) X.A X.env X.xe) (hc:X.calm=true) (hi:PI X tg iter wi) (hg:PG X tg g) (hb:tQ X body tb)
 (hs:∀ x,foldedSetIterable iter X.env x=pure x:=by intro _; rfl):PS X (.For tg iter body [] pos) (Pj wi g tb):=by
 intro aa s σ H D I h
 refine wpAny_For (bB (hi aa s σ H _ I h) λv s1 h1=>bB h1 λitv s2 h2=>?_) hs
 obtain ⟨it,fp,tn,J,H2,e,I2,T,st2,f2,W,⟨m0,w0⟩,turn⟩:=h2
 subst e
 have stat:∀ {H':Hp},(∀ b∈fp,H' b=none)->∀ b∈fp,eZ X aa H' b:=λhn b hb=>⟨hn b hb,(f2 b hb).2⟩
 refine codeAny_forLoop_any (λn s'=>∃ i σ' H',Inv X aa σ' H' s'/\tn i s'.heap/\(∀ b∈fp,H' b=none)/\W i n σ' H') ?_ m0 ⟨0,σ,H2,I2,st2,λb hb=>(f2 b hb).1,w0⟩
 rintro n s3 ⟨i,σ3,H3,I3,st3,fr3,w3⟩
 rcases turn i n σ3 H3 w3 with ⟨stop,qn⟩ | ⟨go,N,hN,step⟩
 ·refine UH hp (bB (T.done X rfl rfl rfl hc i aa s3 σ3 H3 X.xe I3 (stat fr3) st3 stop) λr s4 ⟨hr,I4⟩=>?_)
  subst hr
  exact wpAny_execs_nil ⟨σ3,H3,I4,qn⟩
 ·refine UH hp (bB (T.item X rfl rfl rfl hc i aa s3 σ3 H3 X.xe I3 (stat fr3) st3 go) λr s4 ⟨u,hr,h4⟩=>?_)
  subst hr
  refine UH hp (bB h4 λ_ s5 ⟨x,H5,I5,r5,y5,st5,fr5⟩=>?_)
  have I5':=I5.pinned (stat fr5) (T.obj _ _ st5)
  refine UH hp (bB (hg _ s5 σ3 H5 x u _ I5' r5 (step x H5 y5)) λ_ s6 ⟨σ6,H6,I6,q6⟩=>?_)
  refine UH hp (bB (hb _ s6 σ6 H6 _ I6 q6) λf s7 q7=>?_)
  have again:∀ {σ7:St} {H7:Hp},Inv X (aa++jh fp s5.heap) σ7 H7 s7->N σ7 H7->∃ m,m<n/\∃ i σ' H',Inv X aa σ' H' s7/\tn i s7.heap/\(∀ b∈fp,H' b=none)/\W i m σ' H':=λ{σ7 H7} I7 n7=>by
   obtain ⟨m',hm,w7⟩:=hN σ7 H7 n7
   refine ⟨m',hm,i+1,σ7,H7,I7.fc,T.keep _ _ _ st5 λb hb o e=>(I7.pin (b,o) (S6 _ (S6 _ (d7 hb e)))).1,λb hb=>?_,w7⟩
   obtain ⟨o,e,d⟩:=T.obj _ _ st5 b hb
   exact (I7.pin (b,o) (S6 _ (S6 _ (d7 hb e)))).2.1
  cases f with
  | next=>obtain ⟨σ7,H7,I7,n7⟩:=q7; exact again I7 n7
  | cont=>obtain ⟨σ7,H7,I7,n7⟩:=q7; exact again I7 n7
  | brk=>obtain ⟨σ7,H7,I7,q7⟩:=q7; exact ⟨σ7,H7,I7.fc,q7⟩
  | ret v=>obtain ⟨x7,σ7,H7,I7,r7,q7⟩:=q7; exact ⟨x7,σ7,H7,I7.fc,r7,q7⟩
noncomputable abbrev R2:=V->V->Hp->VK->Prop
def fF (X:Cx) (f:Value->Value->Sem Value) (r:R2):Prop :=
 ∀ (aa:List (Addr×Obj)) (s:Shared) (σ:St) (H:Hp) (x y:V) (v u:Value) (Q:VK),Inv X aa σ H s->RelV x v->RelV y u->r x y H Q ->
  wpAny (model X.prog X.w) X.A (f v u) (EP X aa σ Q) X.xe s
def Pk (X:Cx) (f:Value->Sem Value) (r:V->Hp->VK->Prop):Prop :=
 ∀ (aa:List (Addr×Obj)) (s:Shared) (σ:St) (H:Hp) (x:V) (v:Value) (Q:VK),Inv X aa σ H s->RelV x v->r x H Q ->
  wpAny (model X.prog X.w) X.A (f v) (EP X aa σ Q) X.xe s
def fT (X:Cx) (f:Value) (r:List V->Hp->VK->Prop):Prop :=
 ∀ (aa:List (Addr×Obj)) (s:Shared) (σ:St) (H:Hp) (xs:List V) (us:List Value) (Q:VK),Inv X aa σ H s->Vals xs us->r xs H Q ->
  wpAny (model X.prog X.w) X.A (call f us) (EP X aa σ Q) X.xe s
def Pn (X:Cx) (r:V->Hp->(Bool->Hp->Prop)->Prop):Prop :=
 ∀ (aa:List (Addr×Obj)) (s:Shared) (σ:St) (H:Hp) (x:V) (v:Value) (Q:Bool->Hp->Prop),Inv X aa σ H s->RelV x v->r x H Q ->
  wpAny (model X.prog X.w) X.A (truthy v) (TP X aa σ Q) X.xe s
noncomputable def OH (r:R2) (ta tb:TE):TE:=λσ H Q=>ta σ H λx H1=>tb σ H1 λy H2=>r x y H2 Q
noncomputable def QY (r:V->Hp->VK->Prop) (ta:TE):TE:=λσ H Q=>ta σ H λx H1=>r x H1 Q
noncomputable def rI (C:Int->Int->Prop) (g:Int->Int->V):R2:=λx y H Q=>∃ i j,x=.int i/\y=.int j/\C i j/\Q (g i j) H
noncomputable def yi (g:Int->Int->V):R2:=λx y H Q=>∃ i j,x=.int i/\y=.int j/\Q (g i j) H
noncomputable def rU (g:Int->V):V->Hp->VK->Prop:=λx H Q=>∃ i,x=.int i/\Q (g i) H
theorem IL (ha:PE X a ta) (hb:PE X b tb) {R:V->V->Hp->Prop} (I:Inv X aa σ H s)
 (h:ta σ H λx H1=>tb σ H1 λy H2=>R x y H2) {f:Value->Value->Sem Value}
 (hf:∀ v u s2 x y H2,Inv X aa σ H2 s2->RelV x v->RelV y u->R x y H2->wpAny (model X.prog X.w) X.A (f v u) Q X.xe s2) :
 wpAny (model X.prog X.w) X.A (eval a X.env) (λv s₁=>wpAny (model X.prog X.w) X.A (eval b X.env) (λu s₂=>wpAny (model X.prog X.w) X.A (f v u) Q X.xe s₂) X.xe s₁) X.xe s:=by
 refine bB (ha aa s σ H _ I h) λv s1 ⟨x,H1,I1,r1,q1⟩=>?_
 refine bB (hb aa s1 σ H1 _ I1 q1) λu s2 ⟨y,H2,I2,r2,q2⟩=>?_
 exact hf v u s2 x y H2 I2 r1 r2 q2
theorem Aj (ho:fF X (binaryOp op) r) (ha:PE X a ta) (hb:PE X b tb):PE X (.BinOp a op b pos) (OH r ta tb):=by
 intro aa s σ H Q I h
 exact wpAny_BinOp (IL ha hb I h λv u s2 x y H2 I2 rx ry q=>ho aa s2 σ H2 x y v u Q I2 rx ry q)
theorem Mb (ho:Pk X (unaryOp op) r) (ha:PE X a ta):PE X (.UnaryOp op a pos) (QY r ta):=by
 intro aa s σ H Q I h
 exact UnaryOp_ (bB (ha aa s σ H _ I h) λv s1 ⟨x,H1,I1,r1,q1⟩=>ho aa s1 σ H1 x v Q I1 r1 q1)
theorem IM {g:Int->Int->Int}
 (rule:∀ (i j:Int) (t u:Tok) (s:Shared) (Q:Value->Shared->Prop) (E:Value->Shared->Prop),C i j->Q (.int (g i j) s.toks) { s with toks:=s.toks+1 }->wpAny (model X.prog X.w) X.A (f (.int i t) (.int j u)) Q E s) :
 fF X f (rI C λi j=>.int (g i j)):=by
 intro aa s σ H x y v u Q I rx ry h
 obtain ⟨i,j,rfl,rfl,hc,q⟩:=h
 obtain ⟨t,rfl⟩:=rx
 obtain ⟨t',rfl⟩:=ry
 exact rule i j t t' s _ _ hc ⟨.int (g i j),H,I.tok _,⟨_,rfl⟩,q⟩
theorem Ak {g:Int->Int->Int}
 (rule:∀ (i j:Int) (t u:Tok) (s:Shared) (Q:Value->Shared->Prop) (E:Value->Shared->Prop),Q (.int (g i j) s.toks) { s with toks:=s.toks+1 }->wpAny (model X.prog X.w) X.A (f (.int i t) (.int j u)) Q E s) :
 fF X f (yi λi j=>.int (g i j)):=by
 intro aa s σ H x y v u Q I rx ry h
 obtain ⟨i,j,rfl,rfl,q⟩:=h
 obtain ⟨t,rfl⟩:=rx
 obtain ⟨t',rfl⟩:=ry
 exact rule i j t t' s _ _ ⟨.int (g i j),H,I.tok _,⟨_,rfl⟩,q⟩
theorem Mc {g:Int->Int->Bool}
 (rule:∀ (i j:Int) (t u:Tok) (s:Shared) (Q:Value->Shared->Prop) (E:Value->Shared->Prop),Q (.bool (g i j)) s->wpAny (model X.prog X.w) X.A (f (.int i t) (.int j u)) Q E s) :
 fF X f (yi λi j=>.bl (g i j)):=by
 intro aa s σ H x y v u Q I rx ry h
 obtain ⟨i,j,rfl,rfl,q⟩:=h
 obtain ⟨t,rfl⟩:=rx
 obtain ⟨t',rfl⟩:=ry
 exact rule i j t t' s _ _ ⟨.bl (g i j),H,I,rfl,q⟩
def Al (i j:Int):Prop:=0<=j/\j<=1000000/\i.natAbs<2 ^ 64
theorem tU (k):(0:Int)<=2 ^ k:=by
 rw [two_pow_cast]
 exact Xr _
theorem IP:fF X (binaryOp .Add) (yi λi j=>.int (i+j)):=Ak λ_ _ _ _ _ _ _ q=>add_int q
theorem IQ:fF X (binaryOp .Sub) (yi λi j=>.int (i - j)):=Ak λ_ _ _ _ _ _ _ q=>sub_int q
theorem IS:fF X (binaryOp .Mod) (rI (λ_ j=>0<j) λi j=>.int (i % j)):=IM λi j _ _ _ _ _ hc q=>by
 have h1:(0:Int)<j:=hc
 exact mod_int' (by lia) (by rw [Int.fmod_eq_emod_of_nonneg i (by lia)]; exact q)
theorem IT:fF X (binaryOp .Pow) (rI Al λi j=>.int (i ^ j.toNat)):=IM λ_ _ _ _ _ _ _ hc q=>pow_int_small hc.1 hc.2.1 hc.2.2 q
theorem IU:fF X (binaryOp .LShift) (rI Al λi j=>.int (i * 2 ^ j.toNat)):=IM λ_ _ _ _ _ _ _ hc q=>lshift_int_small hc.1 hc.2.1 hc.2.2 q
theorem IV:fF X (binaryOp .RShift) (rI (λ_ j=>0<=j) λi j=>.int (i / 2 ^ j.toNat)):=IM λi j _ _ _ _ _ hc q =>
 rshift_int hc (by rw [VW i (tU _)]; exact q)
theorem IW:fF X (binaryOp .BitAnd) (yi λi j=>.int (Ww i j)):=Ak λ_ _ _ _ _ _ _ q=>and_int q
theorem Es:fF X (inplaceOp .Add) (yi λi j=>.int (i+j)):=Ak λ_ _ _ _ _ _ _ q=>iadd_int q
theorem Et:fF X (inplaceOp .Sub) (yi λi j=>.int (i - j)):=Ak λ_ _ _ _ _ _ _ q=>isub_int q
theorem QZ {g:Int->Int}
 (rule:∀ (i:Int) (t:Tok) (s:Shared) (Q:Value->Shared->Prop) (E:Value->Shared->Prop),Q (.int (g i) s.toks) { s with toks:=s.toks+1 }->wpAny (model X.prog X.w) X.A (f (.int i t)) Q E s) :
 Pk X f (rU λi=>.int (g i)):=by
 intro aa s σ H x v Q I rx h
 obtain ⟨i,rfl,q⟩:=h
 obtain ⟨t,rfl⟩:=rx
 exact rule i t s _ _ ⟨.int (g i),H,I.tok _,⟨_,rfl⟩,q⟩
theorem IX:Pk X (unaryOp .USub) (rU λi=>.int (-i)):=QZ λ_ _ _ _ _ q=>neg_int q
noncomputable def ErZ:V->Nat
 | .non=>0 | .int _=>1 | .bl _=>2 | .str _=>4 | .byt _=>16 | _=>99
noncomputable def Eu (x y:V):Bool:=(decide (ErZ x<5) && decide (ErZ y<5) && ErZ x+ErZ y != 3) || (ErZ x == 16 && ErZ y == 16)
noncomputable def Q0:R2:=λx y H Q=>Eu x y=true/\Q (.bl (decide (x=y))) H
noncomputable def Q4:R2:=λx y H Q=>Eu x y=true/\Q (.bl (!decide (x=y))) H
theorem vH:decide (V.int i=V.int j)=(i == j):=by
 rw [VH]
 simp
theorem Am:decide (V.bl i=V.bl j)=(i == j):=by
 rw [VH]
 simp
theorem vI:decide (V.str i=V.str j)=(i == j):=by
 rw [VH]
 simp
theorem vJ:decide (V.byt i=V.byt j)=(i.toList == j.toList):=by
 rw [VH]
 cases i
 cases j
 simp
theorem bg (I:Inv X aa σ H s) (q:Q (.bl k) H) (e:k=k'):EP X aa σ Q (.bool k') s:=by
 subst e
 exact ⟨.bl k,H,I,rfl,q⟩
theorem Me:fF X (compareOp .Eq) Q0:=by
 intro aa s σ H x y v u Q I rx ry h
 obtain ⟨hs,q⟩:=h
 cases x with
 | non =>
  cases rx
  cases y with
  | non=>cases ry; exact PySem.EqNone.eq_none_none (bg I q (by simp))
  | bl j=>cases ry; exact PySem.EqNone.eq_none_bool (bg I q (by simp))
  | int j=>obtain ⟨t',rfl⟩:=ry; exact PySem.EqNone.eq_none_int (bg I q (by simp))
  | str j=>obtain ⟨t',rfl⟩:=ry; exact PySem.EqNone.eq_none_str (bg I q (by simp))
  | _=>exact absurd (show false=true from hs) RG
 | bl i =>
  cases rx
  cases y with
  | non=>cases ry; exact PySem.EqNone.eq_bool_none (bg I q (by simp))
  | bl j=>cases ry; exact eq_bool (bg I q Am)
  | str j=>obtain ⟨t',rfl⟩:=ry; exact PySem.EqMixed.eq_bool_str (bg I q (by simp))
  | _=>exact absurd (show false=true from hs) RG
 | int i =>
  obtain ⟨t,rfl⟩:=rx
  cases y with
  | non=>cases ry; exact PySem.EqNone.eq_int_none (bg I q (by simp))
  | int j=>obtain ⟨t',rfl⟩:=ry; exact eq_int (bg I q vH)
  | str j=>obtain ⟨t',rfl⟩:=ry; exact PySem.EqMixed.eq_int_str (bg I q (by simp))
  | _=>exact absurd (show false=true from hs) RG
 | str i =>
  obtain ⟨t,rfl⟩:=rx
  cases y with
  | non=>cases ry; exact PySem.EqNone.eq_str_none (bg I q (by simp))
  | bl j=>cases ry; exact PySem.EqMixed.eq_str_bool (bg I q (by simp))
  | int j=>obtain ⟨t',rfl⟩:=ry; exact PySem.EqMixed.eq_str_int (bg I q (by simp))
  | str j=>obtain ⟨t',rfl⟩:=ry; exact eq_str (bg I q vI)
  | _=>exact absurd (show false=true from hs) RG
 | byt i =>
  obtain ⟨t,rfl⟩:=rx
  cases y with
  | byt j=>obtain ⟨t',rfl⟩:=ry; exact PySem.W.eq_bytes (bg I q vJ)
  | _=>exact absurd (show false=true from hs) RG
 | _=>cases y <;> exact absurd (show false=true from hs) RG
theorem Mf:fF X (compareOp .NotEq) Q4:=by
 intro aa s σ H x y v u Q I rx ry h
 obtain ⟨hs,q⟩:=h
 cases x with
 | non =>
  cases rx
  cases y with
  | non=>cases ry; exact PySem.EqNone.ne_none_none (bg I q (by simp))
  | bl j=>cases ry; exact PySem.EqNone.ne_none_bool (bg I q (by simp))
  | int j=>obtain ⟨t',rfl⟩:=ry; exact PySem.EqNone.ne_none_int (bg I q (by simp))
  | str j=>obtain ⟨t',rfl⟩:=ry; exact PySem.EqNone.ne_none_str (bg I q (by simp))
  | _=>exact absurd (show false=true from hs) RG
 | bl i =>
  cases rx
  cases y with
  | non=>cases ry; exact PySem.EqNone.ne_bool_none (bg I q (by simp))
  | bl j=>cases ry; exact ne_bool (bg I q (congrArg not Am))
  | str j=>obtain ⟨t',rfl⟩:=ry; exact PySem.EqMixed.ne_bool_str (bg I q (by simp))
  | _=>exact absurd (show false=true from hs) RG
 | int i =>
  obtain ⟨t,rfl⟩:=rx
  cases y with
  | non=>cases ry; exact PySem.EqNone.ne_int_none (bg I q (by simp))
  | int j=>obtain ⟨t',rfl⟩:=ry; exact ne_int (bg I q (congrArg not vH))
  | str j=>obtain ⟨t',rfl⟩:=ry; exact PySem.EqMixed.ne_int_str (bg I q (by simp))
  | _=>exact absurd (show false=true from hs) RG
 | str i =>
  obtain ⟨t,rfl⟩:=rx
  cases y with
  | non=>cases ry; exact PySem.EqNone.ne_str_none (bg I q (by simp))
  | bl j=>cases ry; exact PySem.EqMixed.ne_str_bool (bg I q (by simp))
  | int j=>obtain ⟨t',rfl⟩:=ry; exact PySem.EqMixed.ne_str_int (bg I q (by simp))
  | str j=>obtain ⟨t',rfl⟩:=ry; exact ne_str (bg I q (congrArg not vI))
  | _=>exact absurd (show false=true from hs) RG
 | byt i =>
  obtain ⟨t,rfl⟩:=rx
  cases y with
  | byt j=>obtain ⟨t',rfl⟩:=ry; exact PySem.W.ne_bytes (bg I q (congrArg not vJ))
  | _=>exact absurd (show false=true from hs) RG
 | _=>cases y <;> exact absurd (show false=true from hs) RG
theorem Mg:fF X (compareOp .Lt) (yi λi j=>.bl (decide (i<j))):=Mc λ_ _ _ _ _ _ _ q=>lt_int q
theorem Mh:fF X (compareOp .Gt) (yi λi j=>.bl (decide (j<i))):=Mc λ_ _ _ _ _ _ _ q=>gt_int q
theorem fF.or (h:fF X f r) (h':fF X f r'):fF X f (λx y H Q=>r x y H Q\/r' x y H Q):=by
 intro aa s σ H x y v u Q I rx ry q
 rcases q with q | q
 ·exact h aa s σ H x y v u Q I rx ry q
 ·exact h' aa s σ H x y v u Q I rx ry q
theorem ji (b) (h:op≠.In:=by decide) (h2:op≠.NotIn:=by decide):behindInMarks op b=false:=by
 have e1:(op == CmpOp.In)=false:=by cases op <;> first | rfl | exact absurd rfl h
 have e2:(op == CmpOp.NotIn)=false:=by cases op <;> first | rfl | exact absurd rfl h2
 cases b <;> simp [behindInMarks,e1,e2]
theorem Ew (ho:fF X (compareOp op) r) (ha:PE X a ta) (hb:PE X b tb) (hm:behindInMarks op b=false):PE X (.Compare a [op] [b] pos) (OH r ta tb):=by
 intro aa s σ H Q I h
 exact wpAny_Compare1 (IL ha hb I h λv u s2 x y H2 I2 rx ry q=>ho aa s2 σ H2 x y v u Q I2 rx ry q) hm
noncomputable def Mi (t:TE):TT:=λσ H Q=>t σ H λx H'=>∃ k,x=.bl k/\Q k H'
theorem Ey (ho:fF X (compareOp op) r) (ha:PE X a ta) (hb:PE X b tb) (hm:behindInMarks op b=false):PT X (.Compare a [op] [b] pos) (Mi (OH r ta tb)):=by
 intro aa s σ H Q I h
 refine wpAny_isTrue_Compare1 (bB (ha aa s σ H _ I h) λv s1 ⟨x,H1,I1,r1,q1⟩=>bB (hb aa s1 σ H1 _ I1 q1) λu s2 ⟨y,H2,I2,r2,q2⟩ =>
  bB (ho aa s2 σ H2 x y v u _ I2 r1 r2 q2) λc s3 ⟨z,H3,I3,r3,k,e,q3⟩=>?_) hm
 subst e
 cases r3
 exact Vb ⟨H3,I3,q3⟩
def Mj (K:Rr) (x:V) (H:Hp) (k:Bool):Prop :=
 match x with
 | .non=>k=false
 | .bl b=>k=b
 | .int i=>k=(i != 0)
 | .str y=>y.length<=sizeLine/\k=((y.length:Int) != 0)
 | .byt y=>y.size<=sizeLine/\k=((y.size:Int) != 0)
 | .ref p=>(∃ xs,fS K H p xs/\k= !xs.isEmpty)\/(∃ xs,dG K H p xs/\k= !xs.isEmpty)\/∃ kvs,H p=some (.dK kvs)/\k= !kvs.isEmpty
 | _=>False
theorem tV (r:KV kvs vs):(!vs.isEmpty)= !kvs.isEmpty:=by
 cases r <;> rfl
theorem kB (r:Vals xs its):(!its.toArray.isEmpty)= !xs.isEmpty:=by
 cases r <;> simp
theorem kC:(sizeLine:Nat)<2 ^ 63:=by rw [sizeLine_eq]; decide
theorem IY:Pn X (λx H Q=>∃ k,Mj X.K x H k/\Q k H):=by
 intro aa s σ H x v Q I rx h
 obtain ⟨k,e,q⟩:=h
 have hl:=kC
 have hs:sizeLine=16777216:=sizeLine_eq
 cases x with
 | non =>
  cases rx
  have e':k=false:=e
  subst e'
  exact truthy_none ⟨H,I,q⟩
 | bl b =>
  cases rx
  have e':k=b:=e
  subst e'
  exact Vb ⟨H,I,q⟩
 | int i =>
  obtain ⟨t,rfl⟩:=rx
  have e':k=(i != 0):=e
  subst e'
  exact PySem.P.truthy_int ⟨H,I,q⟩
 | str y =>
  obtain ⟨t,rfl⟩:=rx
  obtain ⟨hy,e'⟩:y.length<=sizeLine/\k=((y.length:Int) != 0):=e
  subst e'
  exact PySem.P.truthy_str (by lia) ⟨H,I.tok _,q⟩
 | byt y =>
  obtain ⟨t,rfl⟩:=rx
  obtain ⟨hy,e'⟩:y.size<=sizeLine/\k=((y.size:Int) != 0):=e
  subst e'
  exact PySem.W.truthy_bytes (by lia) ⟨H,I.tok _,q⟩
 | ref p =>
  cases rx
  have e':(∃ xs,fS X.K H p xs/\k= !xs.isEmpty)\/(∃ xs,dG X.K H p xs/\k= !xs.isEmpty)\/∃ kvs,H p=some (.dK kvs)/\k= !kvs.isEmpty:=e
  rcases e' with ⟨xs,hx,e'⟩ | ⟨xs,hx,e'⟩ | ⟨kvs,hx,e'⟩
  ·subst e'
   obtain ⟨its,r,pl,hz⟩:=I.list hx
   have hlen:=r.length
   exact wpAny_truthy_list pl.isList (by simp only [RP]; lia) ⟨H,I.tok _,by rw [kB r]; exact q⟩
  ·subst e'
   obtain ⟨its,r,pl,hz⟩:=I.tuple hx
   have hlen:=r.length
   exact truthy_tuple pl (by simp only [RP]; lia) ⟨H,I.tok _,by rw [kB r]; exact q⟩
  ·subst e'
   obtain ⟨hz,hS,vs,r,m⟩:kvs.length<=sizeLine/\(p == sysModules)=false/\∃ vs,KV kvs vs/\s.heap.DictOf (bO X.prog X.w) p vs:=I.hok p _ hx
   have hlen:kvs.length=vs.length:=To r
   exact wpAny_truthy_dict hS m (by lia) ⟨H,I.tok _,by rw [tV r]; exact q⟩
 | _=>exact (show False from e).elim
theorem An (ha:PE X a ta) (he:∀ whole,isTrue a X.env whole=(do let v <- whole; standAt a.pos; holding [v] (truthy v))) :
 PT X a (λσ H Q=>ta σ H λx H'=>∃ k,Mj X.K x H' k/\Q k H'):=by
 intro aa s σ H Q I h
 exact isTrue_plain (bB (ha aa s σ H _ I h) λv s1 ⟨x,H1,I1,r1,q1⟩=>IY aa s1 σ H1 x v Q I1 r1 q1) (he _)
theorem tW:fF X (binaryOp .Add) (λx y H Q=>∃ i j,x=.str i/\y=.str j/\i.length+j.length<=sizeLine/\Q (.str (i++j)) H):=by
 intro aa s σ H x y v u Q I rx ry h
 obtain ⟨i,j,rfl,rfl,hz,q⟩:=h
 obtain ⟨t,rfl⟩:=rx
 obtain ⟨t',rfl⟩:=ry
 exact add_str (λt' tk=>⟨.str (i++j),H,I.tok _,⟨_,rfl⟩,q⟩) hz
theorem vals1 (r:Vals [x] us):∃ u,us=[u]/\RelV x u:=by
 cases r with
 | cons r1 r2=>cases r2; exact ⟨_,rfl,r1⟩
theorem vals2 (r:Vals [x,y] us):∃ u w',us=[u,w']/\RelV x u/\RelV y w':=by
 cases r with
 | cons r1 r2 =>
  cases r2 with
  | cons r3 r4=>cases r4; exact ⟨_,_,rfl,r1,r3⟩
theorem Ao:fT X (.builtin "abs") (λxs H Q=>∃ i,xs=[.int i]/\Q (.int (if i<0 then -i else i)) H):=by
 intro aa s σ H xs us Q I r h
 obtain ⟨i,rfl,q⟩:=h
 obtain ⟨u,rfl,t,rfl⟩:=vals1 r
 exact call_abs_int λu tk=>⟨.int (if i<0 then -i else i),H,I.tok _,⟨_,rfl⟩,q⟩
theorem yj (hc:X.calm=true):fT X (.builtin "max") (λxs H Q=>∃ i j,xs=[.int i,.int j]/\Q (.int (if j>i then j else i)) H):=by
 intro aa s σ H xs us Q I r h
 obtain ⟨i,j,rfl,q⟩:=h
 obtain ⟨u,w',rfl,⟨t,rfl⟩,⟨t',rfl⟩⟩:=vals2 r
 refine max_two_ints (I.ok.hd hc) λh' tk k=>⟨_,H,I.kept k,?_,q⟩
 by_cases hj:j>i
 ·rw [if_pos hj,if_pos hj]; exact ⟨_,rfl⟩
 ·rw [if_neg hj,if_neg hj]; exact ⟨_,rfl⟩
structure Q5 (h:Heap) (x dx C:Addr) (mA:Str->Option Value):Prop where
 obj:h.get? x=some (PySem.W.instObj C dx)
 ns:h.Ns1 dx mA
 ne:dx≠x
theorem jP.some_of (r:jP (some v) o):∃ u,o=some u/\RelV v u:=by
 cases o with
 | none=>exact (show False from r).elim
 | some u=>exact ⟨u,rfl,r⟩
structure Q6 (K:Rr) (C:Addr):Prop where
 pg:PySem.W.plainGet K C Str.empty=true
 hd:PySem.W.hasDictIn K C=true
 po:PySem.W.plainOver K C=true
 sa:Um K (.ref C) "__setattr__"=some (some (.builtin "object.__setattr__"))
structure Con (K:Rr) (C:Addr) (f:Str) (v:V) (u:Value):Prop where
 at_:Um K (.ref C) f=some (some u)
 rel:RelV v u
 get:XA K u "__get__"=some none
 cp:PySem.W.copiedNames.contains f=false
structure Meth (K:Rr) (C:Addr) (m:Str) (f:Addr):Prop where
 at_:Um K (.ref C) m=some (some (.ref f))
 fn:PySem.W.isFn K (.ref f)=true
 kp:TY K (.ref f)=true
def Ml (X:Cx) (op:Operator) (rd:V->V->Hp->VK->Prop):Prop :=
 ∀ (aa:List (Addr×Obj)) (s:Shared) (σ:St) (H:Hp) (x y:V) (u v:Value) (Q:VK),Inv X aa σ H s->RelV x u->RelV y v->rd x y H Q->wpAny (model X.prog X.w) X.A (inplaceOp op u v) (EP X aa σ Q) X.xe s
section
variable {X:Cx} {aa:List (Addr×Obj)} {σ:St} {H:Hp} {s:Shared} {A:Around} {E:Value->Shared->Prop} {Q:Value->Shared->Prop} {c:Value} {b:Bool}
inductive kD (K:Rr) (H:Hp):V->Value->Prop where
 | non:kD K H .non (.type "NoneType")
 | bl (x:Bool):kD K H (.bl x) (.type "bool")
 | int (i:Int):kD K H (.int i) (.type "int")
 | str (x:Str):kD K H (.str x) (.type "str")
 | flt (x:UInt64):kD K H (.flt x) (.type "float")
 | lst {a:Addr} {xs:List V} (e:H a=some (.lst xs)):kD K H (.ref a) (.type "list")
 | frz {a:Addr} {o:Obj} {xs:List V} (e:H a=some (.frz o (.lst xs))):kD K H (.ref a) (.type "list")
 | tup {a:Addr} {xs:List V} (e:H a=some (.tup xs)):kD K H (.ref a) (.type "tuple")
 | dK {a:Addr} {kvs:List (Key×V)} (e:H a=some (.dK kvs)):kD K H (.ref a) (.type "dict")
 | dT {a:Addr} {kvs:List (List Key×Addr×V)} (e:H a=some (.dT kvs)):kD K H (.ref a) (.type "dict")
 | ins {a C dx:Addr} {fs:List (Str×V)} (e:H a=some (.ins C dx fs)) (cl:Q6 K C) (ha:Um K (.ref C) "__class__"=some (some (.builtin "object.__class__")))
  (hn:XA K (.builtin "object.__class__") "__get__"=some (some (.builtin "getset_descriptor.__get__"))) (htk:PySem.W.takesIn K (.builtin "object.__class__")=some true)
  (hm:PySem.W.mroIn K C (.type "object")=some true):kD K H (.ref a) (.ref C)
end
structure gJ (k:Nat) (A:Around):Prop where
 hd:A.handled=none
 dp:A.depth+3 * k+5<recursionLimit
 un:A.units+16 * k+200<cLine
theorem gJ.mono (r:gJ k A) (h:j<=k):gJ j A:=⟨r.hd,by have:=r.dp; lia,by have:=r.un; lia⟩
theorem gJ.deeper (r:gJ (k+1) A) (env:Env):gJ k (A.deeper env) :=
 ⟨r.hd,by have:=r.dp; show A.depth+1+3 * k+5<_; lia,by have:=r.un; show A.units+3+16 * k+200<_; lia⟩
theorem gJ.depth (r:gJ k A):A.depth<recursionLimit:=by have:=r.dp; lia
theorem gJ.units (r:gJ k A):A.units+64<cLine:=by have:=r.un; lia
noncomputable def Po:TA:=λ_ H Q=>Q [] H
noncomputable def Mm (ta:TE) (tr:TA):TA:=λσ H Q=>ta σ H λx H1=>tr σ H1 λxs H2=>Q (x::xs) H2
theorem d8:PA X [] Po:=λ_ _ _ _ H Q I h=>Calls.spliced_nil ⟨[],H,I,.nil,h⟩
theorem bQ (ha:PE X e te) (hr:PA X es t) (hs:starEach (e::es) X.env=(false,eval e X.env)::starEach es X.env:=by rfl):PA X (e::es) (Mm te t):=by
 intro pos aa s σ H Q I h
 rw [hs]
 show wpAny _ _ (spliced ((false,eval e X.env)::backTo pos (starEach es X.env))) _ _ s
 refine Xv (bB (ha aa s σ H _ I h) λu s1 ⟨x,H1,I1,r1,q1⟩=>?_)
 exact bB (hr pos aa s1 σ H1 _ I1 q1) λus s2 ⟨xs,H2,I2,r2,q2⟩=>⟨x::xs,H2,I2,.cons r1 r2,q2⟩
noncomputable def Pp (t:TA):TE:=λσ H Q=>t σ H λxs H1=>xs.length<=sizeLine/\∀ p,H1 p=none->Q (.ref p) (upd H1 p (.tup xs))
noncomputable def Pq (t:TA):TE:=λσ H Q=>t σ H λxs H1=>xs.length<=sizeLine/\∀ p,H1 p=none->Q (.ref p) (upd H1 p (.lst xs))
theorem IZ {x1} (h:PA X es t):PE X (.Tuple es x1 pos) (Pp t):=by
 intro aa s σ H Q I hq
 refine wpAny_Tuple_spliced (bB (h pos aa s σ H _ I hq) λus s1 ⟨xs,H1,I1,r,z,q⟩=>⟨by rw [<- r.length]; exact z,?_⟩)
 have hf:H1 s1.heap.objs.size=none:=I1.hok.fresh (Rv _)
 refine ⟨.ref s1.heap.objs.size,upd H1 s1.heap.objs.size (.tup xs),I1.laid (t':=s1.toks) (λb u e=>Rx _ e) (Rv _) ?_,rfl,q _ hf⟩
 exact ⟨z,us,r,⟨_,RK _ rfl,rfl,_,rfl⟩⟩
theorem I0 (h:PA X es t):PE X (.List es pos) (Pq t):=by
 intro aa s σ H Q I hq
 refine wpAny_List_spliced (bB (h pos aa s σ H _ I hq) λus s1 ⟨xs,H1,I1,r,z,q⟩=>⟨by rw [<- r.length]; exact z,?_⟩)
 have hf:H1 s1.heap.objs.size=none:=I1.hok.fresh (Rv _)
 refine ⟨.ref s1.heap.objs.size,upd H1 s1.heap.objs.size (.lst xs),I1.laid (t':=s1.toks) (λb u e=>Rx _ e) (Rv _) ?_,rfl,q _ hf⟩
 exact ⟨z,us,0,r,RK _ rfl⟩
noncomputable abbrev Sp:=List V->Hp->VK->XK->Prop
noncomputable abbrev Ja:=List Env->Hp->Shared->XK->Value->Shared->Prop
structure Ez (P:Program) (w:World) (K:Rr) (mg:Str->Option Value) (base:Heap) (A:Around) (outer:List Env) (s:Shared) (H:Hp):Prop where
 frames:A.frames=some outer
 mod:Mod K mg base
 bs:∀ b o,base.get? b=some o->s.heap.get? b=some o/\H b=none
 bsz:base.objs.size<=s.heap.objs.size
 jf:s.heap.FunFrames base outer
 frf:∀ b∈frs outer,H b=none
 hok:jd P w H s.heap
 bare:AllBare s.gens
def CE (outer:List Env) (P:Program) (w:World) (H:Hp) (s:Shared) (Q:VK) (u:Value) (s':Shared):Prop :=
 ∃ v H',s'.os=s.os/\AllBare s'.gens/\Un (frs outer) [] H H' s.heap s'.heap/\jd P w H' s'.heap/\RelV v u/\Q v H'
def CR (CX:Ja) (outer:List Env) (P:Program) (w:World) (H:Hp) (s:Shared) (Q:VK) (E:XK) (r:Result) (s':Shared):Prop :=
 match r with
 | .ok (.ret u)=>CE outer P w H s Q u s'
 | .ok _=>False
 | .error e=>CX outer H s E e s'
structure aU (P:Program) (w:World) (K:Rr) (mg:Str->Option Value) (base:Heap) (CX:Ja) (k:Nat) (f:Addr) (fd:FuncData) (ps:List Str) (sp:Sp):Prop where
 len:∀ vs H Q E,sp vs H Q E->vs.length=ps.length
 run:∀ (A:Around) (outer:List Env) (s:Shared) (H:Hp) (args:Args) (us:List Value) (vs:List V) (Q:VK) (E:XK),gJ k A->Ez P w K mg base A outer s H->BindsTo s fd args (ps.zip us)->Vals vs us->sp vs H Q E ->
  codeAny (model P w) A (.call (.ref f) args) (CR CX outer P w H s Q E) s
theorem aU.mono {K:Rr} (F:aU P w K mg base CX j f fd ps sp) (h:j<=k) :
 aU P w K mg base CX k f fd ps sp:=⟨F.len,λA outer s H args us vs Q E hr=>F.run A outer s H args us vs Q E (hr.mono h)⟩
theorem Inv.Jb (I:Inv X aa σ H s):Ez X.prog X.w X.K X.mg X.base X.A X.stack s H :=
 ⟨I.ok.frames,I.ok.mod,I.bs,Rz I.ok.bsz I.sz,I.stack,I.vE,I.hok,I.bare⟩
theorem Inv.after (I:Inv X aa σ H s) (h:CE X.stack X.prog X.w H s Q u s'):EP X aa σ Q u s':=by
 obtain ⟨v,H',os,bare,un,hok,r,q⟩:=h
 obtain ⟨hh,g,d,t,os'⟩:=s'
 obtain rfl:os'=s.os:=os
 exact ⟨v,H',I.call (h':=hh) (g':=g) (d':=d) (t':=t) (ch:=[]) un hok bare (λb z=>absurd z (by simp)),r,q⟩
def Binds (K:Rr) (fd:FuncData) (ps:List Str) (ds:List Value):Prop :=
 ∀ (s:Shared) (us:List Value),K.In s.heap->(us++ds).length=ps.length->BindsTo s fd ⟨us,[]⟩ (ps.zip (us++ds))
theorem Binds.all {K:Rr} (h:∀ us:List Value,us.length=ps.length->bindArgs fd ⟨us,[]⟩=pure (ps.zip us)):Binds K fd ps []:=λs us _ hl=>by
 rw [SJ] at hl |-
 exact .of_eq (h us hl)
section
variable {X:Cx} {CX:Ja} {k:Nat} {f C:Addr} {fd:FuncData} {ps:List Str} {sp:Sp} {dvs:List V} {ds:List Value} {E:XK} {x m:Str} {p pos apos:Pos} {e o:Expr} {es:List Expr} {ta:TE} {t:TA}
structure Mk (K:Rr) (C f:Addr):Prop where
 makes:PySem.W.makesIn K C=true
 init:Um K (.ref C) "__init__"=some (some (.ref f))
 fn:PySem.W.isFn K (.ref f)=true
 kp:TY K (.ref C)=true
end
section
variable {X:Cx} {CX:Ja} {k:Nat} {f C:Addr} {fd:FuncData} {ps ks:List Str} {sp:Sp} {E:XK} {x m:Str} {p pos apos kpos:Pos} {e o:Expr} {es:List Expr} {kws:List Keyword} {te ta:TE} {t tk:TA} {nm:Option Str}
structure Pr (K:Rr) (fd:FuncData) (ps ks:List Str) (g:List Value->List Value->List Value) (gV:List V->List V->List V):Prop where
 to:∀ (s:Shared) (us ws:List Value),K.In s.heap->(g us ws).length=ps.length->BindsTo s fd ⟨us,ks.zip ws⟩ (ps.zip (g us ws))
 rel:∀ {vs:List V} {us:List Value} {zs:List V} {ws:List Value},Vals vs us->Vals zs ws->Vals (gV vs zs) (g us ws)
end
structure oG (N P:List Str) (sc:Scope):Prop where
 kind:sc.kind=.function
 co:sc.isCoroutine=false
 gen:sc.isGenerator=false
 nd:N.Nodup
 pre:N.take P.length=P
 par:∀ x∈P,sc.names.lookup x=some .local\/sc.names.lookup x=some .cell
 nofree:∀ y∈sc.names,y.2≠.free
theorem m6 {kindOf:Str->Option NameKind}:∀ {binds:List (Str×Value)} {m:Str->Option Value},(∀ v,(x,v)∉binds)->bindL kindOf binds m x=m x
 | [],_,_=>rfl
 | (n,v)::r,m,h=>by
  unfold bindL
  rw [m6 λw hw=>h w (RH _ hw)]
  split
  ·have:x≠n:=by rintro rfl; exact h v RD
   simp [this]
  ·rfl
theorem m7 {kindOf:Str->Option NameKind}:∀ {binds:List (Str×Value)} {m:Str->Option Value},(∀ v,(x,v)∉binds)->bindC kindOf binds m x=m x
 | [],_,_=>rfl
 | (n,v)::r,m,h=>by
  unfold bindC
  rw [m7 λw hw=>h w (RH _ hw)]
  split
  ·rfl
  ·have:x≠n:=by rintro rfl; exact h v RD
   simp [this]
theorem m8 {kindOf:Str->Option NameKind}:∀ {P:List Str} {vs:List Value} {i:Nat} {m:Str->Option Value},P.Nodup->P[i]?=some x->vs[i]?=some v->kindOf x=some .local ->
 bindL kindOf (P.zip vs) m x=some v
 | [],_,_,_,_,h,_,_=>by simp at h
 | _::_,[],_,_,_,_,h,_=>by simp at h
 | p::P,w::vs,0,m,nd,h1,h2,hk=>by
  simp at h1 h2; subst h1; subst h2
  show bindL kindOf ((p,w)::P.zip vs) m p=_
  unfold bindL
  rw [m6 λv hv=>(Ul.mp nd).1 (Wn hv).1,if_pos hk]
  simp
 | p::P,w::vs,i+1,m,nd,h1,h2,hk=>by
  show bindL kindOf ((p,w)::P.zip vs) m x=_
  unfold bindL
  exact m8 (i:=i) (Ul.mp nd).2 (by simpa using h1) (by simpa using h2) hk
theorem m9 {kindOf:Str->Option NameKind}:∀ {P:List Str} {vs:List Value} {i:Nat} {m:Str->Option Value},P.Nodup->P[i]?=some x->vs[i]?=some v->kindOf x≠some .local ->
 bindC kindOf (P.zip vs) m x=some v
 | [],_,_,_,_,h,_,_=>by simp at h
 | _::_,[],_,_,_,_,h,_=>by simp at h
 | p::P,w::vs,0,m,nd,h1,h2,hk=>by
  simp at h1 h2; subst h1; subst h2
  show bindC kindOf ((p,w)::P.zip vs) m p=_
  unfold bindC
  rw [m7 λv hv=>(Ul.mp nd).1 (Wn hv).1,if_neg hk]
  simp
 | p::P,w::vs,i+1,m,nd,h1,h2,hk=>by
  show bindC kindOf ((p,w)::P.zip vs) m x=_
  unfold bindC
  exact m9 (i:=i) (Ul.mp nd).2 (by simpa using h1) (by simpa using h2) hk
noncomputable def start (N:List Str) (vs:List V):St:=vs.map some++RE (N.length - vs.length) none
noncomputable def tX (CX:Ja) (P:Program) (w:World) (K:Rr) (mg:Str->Option Value) (base:Heap) (N:List Str) (qual:Str) (scope:Scope) (f:Addr) (cd:Value) (A:Around) (outer:List Env) (s:Shared) (H:Hp) (E:XK):Cx where
 prog:=P
 w:=w
 K:=K
 mg:=mg
 base:=base
 A:=A.deeper (envOfC qual scope s.heap.objs.size f cd)
 N:=N
 s₀:=s
 H₀:=H
 env:=envOfC qual scope s.heap.objs.size f cd
 outer:=outer
 stack:=envOfC qual scope s.heap.objs.size f cd::outer
 ex:=[]
 calm:=true
 fn:=λ_=>true
 pn:=[]
 xe:=λe s'=>wpAny (model P w) (A.deeper (envOfC qual scope s.heap.objs.size f cd)) (leaving (envOfC qual scope s.heap.objs.size f cd) e) (λ_ s''=>CX outer H s E e s'') (λe' s''=>CX outer H s E e' s'') s'
theorem qE {sc:Scope} (h:sc.names.lookup x=some .cell):∃ c,(cellsFrom n sc.names []).lookup x=some c:=by
 have q:=PySem.W.cellsFrom_some sc.names n [] (.inl h)
 exact Option.isSome_iff_exists.mp q
theorem yk {K:Rr}
 (S:oG N ps scope) (hd:A.handled=none) (e0:Ez P w K mg base A outer s H) (hl:vs.length=ps.length) (r:Vals vs us)
 (x:InCallC s s.heap.objs.size (bindL (envOfC qual scope s.heap.objs.size f cd).kindOf (ps.zip us) λ_=>none) (cellsFrom (s.heap.objs.size+1) scope.names []) (bindC (envOfC qual scope s.heap.objs.size f cd).kindOf (ps.zip us) λ_=>none) s1) :
 Inv (tX CX P w K mg base N qual scope f cd A outer s H E) [] (start N vs) H s1:=by
 have hpl:ps.length<=N.length:=by have:=congrArg Vl S.pre; rw [Sq] at this; lia
 obtain ⟨h1,tk,rfl,hk⟩:=x.done
 have noA:∀ b:Addr,b∉(tX CX P w K mg base N qual scope f cd A outer s H E).ex:=λb z=>absurd (show b∈([]:List Addr) from z) (by simp)
 refine ⟨⟨e0.mod,S.kind,rfl,rfl,Rv _,λy z c h1 h2=>?_,λy hy=>?_,λy c _ h=>?_,λ_=>hd,Around.frames_deeper e0.frames,.inr ⟨rfl,rfl⟩,λb z=>absurd z (noA b),e0.bs,e0.bsz,λb _ _=>noA b,λb z=>absurd z (noA b),e0.jf,e0.frf⟩,
  rfl,e0.bare,Un.kept hk,⟨_,x.toInCall.ns,λi y v h1 h2 h3=>?_⟩,λy c h=>⟨_,x.cell y c h⟩,e0.hok.fresh (Rv _),λy c h=>?_,λp hp=>absurd (show p∈([]:List (Addr×Obj)) from hp) (by simp),e0.hok.kept hk,?_⟩
 ·exact name_of_addr x.apart (Vu h1) (Vu h2)
 ·have hy:scope.names.lookup y=some .cell\/scope.names.lookup y=some .free:=hy
  rcases hy with hy | hy
  ·exact qE hy
  ·exact absurd rfl (S.nofree _ (Vu hy))
 ·exact SY (x.above y c (Vu h))
 ·have hi:i<vs.length:=by
   unfold start at h2
   by_cases hi:i<vs.length
   ·exact hi
   ·rw [Vq (by simpa using hi)] at h2
    rw [List.getElem?_replicate] at h2
    split at h2 <;> cases h2
  have ha:vs[i]?=some v:=by
   unfold start at h2
   rw [Uz (by simpa using hi),RO] at h2
   cases e:vs[i]? with
   | none=>rw [e] at h2; cases h2
   | some a=>rw [e] at h2; cases h2; rfl
  obtain ⟨u,hu,rv⟩:=r.get ha
  have hp:ps[i]?=some y:=by
   rw [<- S.pre,V0 (by lia)]; exact h1
  have ndP:ps.Nodup:=by rw [<- S.pre]; exact S.nd.sublist (Wb _ _)
  refine ⟨u,rv,?_⟩
  rcases S.par y (TH hp) with k | k
  ·exact .inl ⟨k,m8 ndP hp hu k⟩
  ·obtain ⟨c,e⟩:=qE (n:=s.heap.objs.size+1) k
   refine .inr ⟨.inl k,c,e,?_⟩
   have q:=x.cell y c e
   rw [m9 ndP hp hu (by show scope.names.lookup y≠_; rw [k]; decide)] at q
   exact q
 ·exact e0.hok.fresh (SY (x.above y c (Vu h)))
 ·unfold start
  show _=N.length
  rw [R3,RB,Xc]
  lia
theorem G4 {K:Rr} {dV kV doc pm cdv ct oc:Value}
 (lk:K.lookup f=some ⟨oc,od,.func (Ub name qual params body scope dV kV doc pm an cdv ct),osl⟩) (hcd:Wv K cdv qual=true) (S:oG N ps scope)
  (len:∀ vs H Q E,sp vs H Q E->vs.length=ps.length)
  (hbody:∀ (A:Around) (outer:List Env) (s:Shared) (H:Hp) (vs:List V) (Q:VK) (E:XK),gJ k (A.deeper (envOfC qual scope s.heap.objs.size f cdv))->sp vs H Q E ->
    ∃ t,tQ (tX CX P w K mg base N qual scope f cdv A outer s H E) body t/\t { nx:=λ_ H'=>Q .non H',rt:=Q } (start N vs) H) :
  aU P w K mg base CX (k+1) f (Ub name qual params body scope dV kV doc pm an cdv ct) ps sp:=by
  refine ⟨len,λA outer s H args us vs Q E hr e0 hb r vB=>?_⟩
  have hl:=len _ _ _ _ vB
  have KX:K.In s.heap:=e0.mod.kin.keeps λb o e=>(e0.bs b o e).1
  have lim:s.heap.NoLimit:=e0.mod.nolimit.keeps λb o e=>(e0.bs b o e).1
  have hkind:∀ y∈ps.zip us,scope.names.lookup y.1=some .local\/(scope.names.lookup y.1=some .cell/\((cellsFrom (s.heap.objs.size+1) scope.names []).lookup y.1).isSome=true):=λ⟨n,v⟩ hy=>by
   rcases S.par n (Wn hy).1 with q | q
   ·exact .inl q
   ·exact .inr ⟨q,PySem.W.cellsFrom_some _ _ _ (.inl q)⟩
  refine codeAny_call_function hr.depth (KX _ _ lk) rfl S.co S.gen rfl (PySem.W.codeRec_of KX hcd) (hb _ _ _ _ ?_)
  refine wpAny_newFunctionEnv_cells S.kind hkind λenv he s1 x=>?_
  subst he
  refine ⟨lim.keeps x.toInCall.keep,codeAny_func ?_⟩
  obtain ⟨t,ht,hq⟩:=hbody A outer s H vs Q E (hr.deeper _) vB
  have I:Inv (tX CX P w K mg base N qual scope f cdv A outer s H E) [] (start N vs) H s1:=yk S hr.hd e0 hl r x
  refine Sk (ht [] s1 (start N vs) H _ I hq) (λfl s' hs=>?_) λe s' hs=>hs
  have fin:∀ {σ':St} {H':Hp} {v:V} {u:Value},Inv (tX CX P w K mg base N qual scope f cdv A outer s H E) [] σ' H' s'->RelV v u->Q v H'->CE outer P w H s Q u s' :=
   λ{σ' H' v u} J rv q=>⟨v,H',J.os,J.bare,J.base,J.hok,rv,q⟩
  cases fl with
  | ret u =>
   obtain ⟨v,σ',H',J,rv,q⟩:=hs
   exact fin J rv q
  | next =>
   obtain ⟨σ',H',J,q⟩:=hs
   exact fin (v:=V.non) (u:=Tq) J rfl q
  | brk =>
   obtain ⟨_,_,_,q⟩:=hs
   exact SO q
  | cont =>
   obtain ⟨_,_,_,q⟩:=hs
   exact SO q
section
variable {id T:String}
noncomputable def QC (r:List V->Hp->VK->Prop) (t:TA):TE:=λσ H Q=>t σ H λvs H1=>r vs H1 Q
theorem Aq (hc:fT X (.builtin id) r) (hg:Gl X x) (hm:X.mg x=none) (hv:bootBuiltins x=some (.builtin id)) (ha:PA X (e::es) t) (hn:x≠"__name__":=by decide) (hdb:(x == ("__debug__":Str))=false:=by decide)
 (he:starEach (e::es) X.env=(false,eval e X.env)::starEach es X.env:=by rfl) (hpl:(backTo pos (starEach es X.env)).any (·.1)=false:=by rfl):PE X (.Call (.Name x p) (e::es) [] pos) (QC r t):=by
 intro aa s σ H Q I h
 refine T6 (dZ I hg hm hv ?_ hn hdb)
 exact PyProof.Rows.callWith_builtin1 (bB (ha pos aa s σ H _ I h) λus s1 ⟨vs,H1,I1,r1,q1⟩=>hc aa s1 σ H1 vs us Q I1 r1 q1) he hpl
theorem nc (hc:fT X (.type T) r) (hg:Gl X x) (hm:X.mg x=none) (hv:bootBuiltins x=some (.type T)) (ha:PA X (e::es) t) (hn:x≠"__name__":=by decide) (hdb:(x == ("__debug__":Str))=false:=by decide)
 (he:starEach (e::es) X.env=(false,eval e X.env)::starEach es X.env:=by rfl) (hpl:(backTo pos (starEach es X.env)).any (·.1)=false:=by rfl):PE X (.Call (.Name x p) (e::es) [] pos) (QC r t):=by
 intro aa s σ H Q I h
 refine T6 (dZ I hg hm hv ?_ hn hdb)
 exact UZ (bB (ha pos aa s σ H _ I h) λus s1 ⟨vs,H1,I1,r1,q1⟩=>hc aa s1 σ H1 vs us Q I1 r1 q1) he hpl
end
end L2
namespace HT
open PySem PyProof.Rows
noncomputable def lexLt:List Int->List Int->Bool
 | [],[]=>false
 | [],_::_=>true
 | _::_,[]=>false
 | x::xs,y::ys=>if x=y then lexLt xs ys else decide (x<y)
theorem c9 (x y) (xs ys):lexLt (x::xs) (y::ys)=if x=y then lexLt xs ys else decide (x<y):=rfl
theorem mF:lexLt [] []=false:=rfl
theorem kE (y) (ys):lexLt [] (y::ys)=true:=rfl
theorem kF (x) (xs):lexLt (x::xs) []=false:=rfl
theorem Ar (A:Around) (s) (a) (t:Tok) (c) (u:Tok):∃ e,RT A s (.int a t) (.int c u) e/\(e=true↔a=c) :=
 ⟨(a == c),RT.int_int a t c u,by simp⟩
theorem Au (A:Around) (s) (a) (t:Tok) (c) (u:Tok) (prog) (w) (E) (Q) (h:Q (.bool (decide (a<c))) s) :
 wpAny (model prog w) A (richCompare .Lt (.int a t) (.int c u)) Q E s :=
 (PyProof.Rows.lt_int h:wpAny (model prog w) A (compareOp .Lt (.int a t) (.int c u)) Q E s)
section
open PySem.SeqAt
open PySem.AutoSeq1 (wpAny_loadPart')
open PySem.MeetsSeq PySem.MeetsSeq2 PySem.MeetsSeq3
theorem mG (l b) (items items2) (n n2) (dd dd2) (sl sl2) (ns ms) (hi:IntsAre items.toList ns) (hj:IntsAre items2.toList ms) :
 Meets (Builtin.«tuple.__lt__» ⟨[.ref l,.ref b],[]⟩)
  (λ_ R s=>s.heap.get? l=some { cls:=.type "tuple",dict:=dd,data:=.seq items n,slots:=sl }/\s.heap.get? b=some { cls:=.type "tuple",dict:=dd2,data:=.seq items2 n2,slots:=sl2 } /\
    R (.ok (.ret (.bool (lexLt ns ms)))) s) :=
 .of_wp λprog w A R s h=>by
  obtain ⟨hp,g,d,tk,os⟩:=s; obtain ⟨hl,hb,h⟩:=h
  have f2:=AutoSeq1.sub_tuple_tuple
  have z1:items.size=ns.length:=by rw [<- hi.length]; simp
  have z2:items2.size=ms.length:=by rw [<- hj.length]; simp
  wp_walk using wpAny_loadPart' hl,wpAny_loadPart' hb,wpAny_forIn_list _ (λrest b s'=>b.1=none/\s'=⟨hp,g,d,tk,os⟩/\∃ (vs ws:List Value) (ns' ms':List Int),rest=vs.zip ws /\
   IntsAre vs ns'/\IntsAre ws ms'/\ns'.length+items2.size=ms'.length+items.size/\R (.ok (.ret (.bool (lexLt ns' ms')))) ⟨hp,g,d,tk,os⟩) _
  case turn =>
   rintro ⟨y,x⟩ rest b s' ⟨hb',rfl,vs,ws,ns',ms',hz,hvi,hwi,hlen,hR⟩
   cases hvi with
   | nil=>rw [List.zip_nil_left] at hz; cases hz
   | cons a t hvi' =>
    cases hwi with
    | nil=>rw [List.zip_nil_right] at hz; cases hz
    | cons c u hwi' =>
     rw [Xq] at hz
     injection hz with hyx hrest
     injection hyx with hy hx
     subst hy hx
     rw [c9] at hR
     simp only [Sf] at hlen
     obtain ⟨e,he,hiff⟩:=Ar A.in1 ⟨hp,g,d,tk,os⟩ a t c u
     refine Rq (he prog w _ _ ?_)
     cases e with
     | true =>
      rw [if_pos (hiff.mp rfl)] at hR
      wp_walk
      exact ⟨rfl,rfl,_,_,_,_,hrest,hvi',hwi',by lia,hR⟩
     | false =>
      rw [if_neg (λq=>absurd (hiff.mpr q) RG)] at hR
      have hri:=Au A.in1 ⟨hp,g,d,tk,os⟩ a t c u prog w
      wp_walk using hri
      exact ⟨_,rfl,by simpa using hR⟩
  case fin =>
   rintro ⟨b1,b2⟩ s' ⟨hb',rfl,vs,ws,ns',ms',hz,hvi,hwi,hlen,hR⟩
   simp only at hb'
   subst hb'
   have hv:lexLt ns' ms'=decide (items.size<items2.size):=by
    cases hvi with
    | nil =>
     cases hwi with
     | nil =>
      simp only [TX] at hlen
      rw [mF]
      exact (decide_eq_false (by lia)).symm
     | cons c u hw =>
      simp only [TX,Sf] at hlen
      rw [kE]
      exact (decide_eq_true (by lia)).symm
    | cons a t hv =>
     cases hwi with
     | nil =>
      simp only [TX,Sf] at hlen
      rw [kF]
      exact (decide_eq_false (by lia)).symm
     | cons c u hw =>
      rw [Xq] at hz
      cases hz
   rw [hv] at hR
   wp_walk
   exact ⟨_,rfl,by simpa [Builtin.Tuple.tupleCompareSizes] using hR⟩
  case h =>
   exact ⟨rfl,rfl,items.toList,items2.toList,ns,ms,rfl,hi,hj,by lia,h⟩
end
theorem tY (hl:IsTup s.heap l items) (hb:IsTup s.heap b items2) (hi:IntsAre items.toList ns) (hj:IntsAre items2.toList ms)
 (hu:A.units<cLine) (h:Q (.bool (lexLt ns ms)) s):wpAny (model prog w) A (compareOp .Lt (.ref l) (.ref b)) Q E s:=by
 obtain ⟨⟨cls,dd,data,sl⟩,ho,hc,n,hd⟩:=id hl
 obtain ⟨⟨cls2,dd2,data2,sl2⟩,ho2,hc2,n2,hd2⟩:=id hb
 simp only at hc hd hc2 hd2
 subst hc hd hc2 hd2
 exact richCompare_meets_room (op:=.Lt) ⟨_,ho,rfl⟩ ⟨_,ho2,rfl⟩ PySem.F.slot_tuple_lt PySem.F.entry_tuple_lt (PySem.F.args_tuple_lt_2 _ _) (mG l b items items2 n n2 dd dd2 sl sl2 ns ms hi hj)
  ⟨ho,ho2,show Value.bool (lexLt ns ms)≠Value.notImplemented/\Q (.bool (lexLt ns ms)) s from ⟨(λx=>nomatch x),h⟩⟩ hu
noncomputable def b9 (n d:Nat):Option Int->Nat
 | none=>d
 | some v=>if v<0 then (v+(n:Int)).toNat else min v.toNat n
theorem Av (n d):b9 n d none=d:=rfl
theorem EA (n d k:Nat):b9 n d (some (k:Int))=min k n:=by
 show (if (k:Int)<0 then ((k:Int)+(n:Int)).toNat else min (k:Int).toNat n)=min k n
 rw [if_neg (by lia),So]
theorem Jc (n d) (hd:d<=n) (o):b9 n d o<=n:=by
 cases o with
 | none=>exact hd
 | some v =>
  show (if v<0 then (v+(n:Int)).toNat else min v.toNat n)<=n
  by_cases hv:v<0
  ·rw [if_pos hv]; lia
  ·rw [if_neg hv]; exact Nat.min_le_right _ _
theorem vK (v) (n d:Nat):(if v<0 then max (v+(n:Int)) 0 else min v (n:Int))=((b9 n d (some v):Nat):Int):=by
 show (if v<0 then max (v+(n:Int)) 0 else min v (n:Int))=(((if v<0 then (v+(n:Int)).toNat else min v.toNat n):Nat):Int)
 by_cases hv:v<0
 ·simp only [if_pos hv]; lia
 ·simp only [if_neg hv]; lia
theorem tZ (lo hi) (n:Nat):WU lo hi 1 (n:Int)=(((b9 n 0 lo:Nat):Int),((b9 n n hi:Nat):Int)):=by
 have h1:¬ ((1:Int)<0):=by lia
 unfold WU
 simp only [h1,if_false]
 refine Prod.ext ?_ ?_
 ·cases lo with
  | none=>rfl
  | some v=>exact vK v n 0
 ·cases hi with
  | none=>rfl
  | some v=>exact vK v n n
theorem t6 (i j:Nat):VZ (i:Int) (j:Int) 1=j - i:=by
 unfold VZ
 have h1:(1:Int)>0:=by lia
 simp only [h1,if_true,Int.ediv_one]
 split <;> lia
theorem kG (p:IsPart v o) (h:Q o s):wpAny (model prog w) A (Builtin.Slice.slicePartIndex v) Q E s:=by
 cases p with
 | none=>exact slicePart_none h
 | int i t=>exact slicePart_int h
theorem fh {sl:Addr} {vl vu:Value} {lo hi:Option Int} {n:Nat} {Q:Int×Int×Nat->Shared->Prop} (hs:s.heap.IsSliceOf sl vl vu .none) (pl:IsPart vl lo) (pu:IsPart vu hi)
 (h:Q (((b9 n 0 lo:Nat):Int),1,b9 n n hi - b9 n 0 lo) s):wpAny (model prog w) A (Builtin.Slice.sliceApplied (.ref sl) (pure (n:Int))) Q E s:=by
 obtain ⟨os,hos,hcs,hds⟩:=id hs
 unfold Builtin.Slice.sliceApplied Builtin.Slice.sliceFields
 refine Rq (Rq (SG hos hds (x:=vl) rfl (Rq (SG hos hds (x:=vu) rfl (Rq (SG hos hds (x:=.none) rfl (Rt ?_)))))))
 refine Rq (slicePart_none ?_)
 show wpAny _ _ (if ((1:Int) == 0)=true then _ else _) _ _ s
 rw [if_neg (by decide)]
 refine Rq (kG pl (Rq (kG pu (Rq (Rt ?_)))))
 show wpAny _ _ (match WU lo hi 1 (n:Int) with | (lo,hi)=>pure (lo,(1:Int),VZ lo hi 1)) _ _ s
 rw [tZ lo hi n]
 show wpAny _ _ (pure (((b9 n 0 lo:Nat):Int),(1:Int),VZ ((b9 n 0 lo:Nat):Int) ((b9 n n hi:Nat):Int) 1)) _ _ s
 rw [t6]
 exact Rt h
theorem Aw (xs:Array Value) (i k:Nat):((RI k).filterMap λ(m:Nat)=>xs[((i:Int)+(m:Int) * 1).toNat]?).toArray=((xs.toList.drop i).take k).toArray:=by
 have e:(λ(m:Nat)=>xs[((i:Int)+(m:Int) * 1).toNat]?)=λm=>xs[i+m]?:=by
  funext m
  have:((i:Int)+(m:Int) * 1).toNat=i+m:=by lia
  rw [this]
 rw [e]
 have:=pick_run xs i k
 rw [List.filterMap_map] at this
 have e2:((λx=>xs[x]?)∘λx=>i+x)=λm=>xs[i+m]?:=rfl
 rw [e2] at this
 rw [this]
theorem iE {lo hi:Option Int} (ht:IsTup s.heap t items) (hs:s.heap.IsSliceOf sl vl vu .none) (pl:IsPart vl lo) (pu:IsPart vu hi)
 (hw:¬ (b9 items.size 0 lo=0/\b9 items.size items.size hi=items.size))
 (h:Q (.ref s.heap.objs.size) { s with heap:=s.heap.push { cls:=.type "tuple",data:=.seq ((items.toList.drop (b9 items.size 0 lo)).take (b9 items.size items.size hi - b9 items.size 0 lo)).toArray } })
 (hsz:items.size<=sizeLine):wpAny (model prog w) A (getItem (.ref t) (.ref sl)) Q E s:=by
 have htake:sizeOk (.seq ((items.toList.drop (b9 items.size 0 lo)).take (b9 items.size items.size hi - b9 items.size 0 lo)).toArray):=by
  show ((items.toList.drop (b9 items.size 0 lo)).take (b9 items.size items.size hi - b9 items.size 0 lo)).toArray.size<=sizeLine
  rw [RP,Sq,XS,Sy]
  lia
 have hj:b9 items.size items.size hi<=items.size:=Jc _ _ (Rv _) hi
 obtain ⟨os,hos,hcs,hds⟩:=id hs
 have hTs:s.TypeIs (.ref sl) "slice":=⟨os,hos,hcs⟩
 unfold getItem
 try with_reducible refine Tw ?_
 first | refine Rq (Rt ?_) | skip
 refine Rq (Xw ht.typeIs (by decide) ?_)
 refine Rq (Ug (name:=Rp "__getitem__") ht.typeIs UW
  (TV UW ht.typeIs entry_tuple_getitem ?_ (args_tuple_getitem _ _)))
 show wpAny _ _ (Builtin.Tuple.tupleItemsOf (.ref t) >>= _) _ _ s
 refine Rq (tupleItemsOf_ ht ?_)
 refine Rq (UM hTs ?_)
 rw [if_pos (by decide)]
 refine Rq (fh hs pl pu ?_)
 have hno:¬ ((((b9 items.size 0 lo:Nat):Int) == 0 && (1:Int) == 1 && (b9 items.size items.size hi - b9 items.size 0 lo) == items.size)=true):=by
  intro q
  rw [Vd,Vd] at q
  have q1:((b9 items.size 0 lo:Nat):Int)=0:=eq_of_beq q.1.1
  have q2:b9 items.size items.size hi - b9 items.size 0 lo=items.size:=eq_of_beq q.2
  exact hw ⟨by lia,by lia⟩
 show wpAny _ _ (if (((b9 items.size 0 lo:Nat):Int) == 0 && (1:Int) == 1 && (b9 items.size items.size hi - b9 items.size 0 lo) == items.size)=true then _ else _) _ _ s
 rw [if_neg hno,Aw]
 first
  | exact Rq (m:=V1 _) (Td (Rt ⟨_,rfl,Rt h⟩) htake)
  | exact Rq (m:=V1 _) (Td (Rq (Rt (Rt ⟨_,rfl,Rt h⟩))) htake)
  | exact Rq (Rq (m:=V1 _) (Td (Rt (Rt ⟨_,rfl,Rt h⟩)) htake))
  | exact Rq (Rq (m:=V1 _) (Td (Rt ⟨_,rfl,Rt h⟩) htake))
end HT
namespace L2
open PySem PySem.Spec PyProof.Rows
noncomputable abbrev TO:=St->Hp->(Option Int->Hp->Prop)->Prop
def PO (X:Cx) (e:Option Expr) (t:TO):Prop :=
 ∀ (aa:List (Addr×Obj)) (s:Shared) (σ:St) (H:Hp) (Q:Option Int->Hp->Prop),Inv X aa σ H s->t σ H Q ->
  wpAny (model X.prog X.w) X.A (evalPart e X.env) (λu s'=>∃ o H',Inv X aa σ H' s'/\IsPart u o/\Q o H') X.xe s
noncomputable def EB:TO:=λ_ H Q=>Q none H
noncomputable def Mn (t:TE):TO:=λσ H Q=>t σ H λx H1=>∃ i,x=.int i/\Q (some i) H1
theorem intsAre_of:∀ {us:List Value},Vals (ns.map V.int) us->IntsAre us ns:=by
 induction ns with
 | nil=>intro us r; rw [Ud] at r; cases r; exact .nil
 | cons n ns ih =>
  intro us r
  rw [RC] at r
  cases r with
  | cons r1 r2 =>
   obtain ⟨t,e⟩:=r1
   subst e
   exact .cons n t (ih r2)
section
variable {lo hi:Option Expr}
theorem EC:PO X none EB:=by
 intro aa s σ H Q I h
 rw [evalPart_none]
 exact Rt ⟨none,H,I,.none,h⟩
theorem ED (h:PE X e te):PO X (some e) (Mn te):=by
 intro aa s σ H Q I hw
 rw [evalPart_some]
 refine bB (h aa s σ H _ I hw) λu s1 ⟨x,H1,I1,r1,q1⟩=>?_
 obtain ⟨i,rfl,q⟩:=q1
 obtain ⟨t,rfl⟩:=r1
 exact ⟨some i,H1,I1,.int i t,q⟩
def Eb (X:Cx) (r:V->Option Int->Option Int->Hp->VK->Prop):Prop :=
 ∀ (aa:List (Addr×Obj)) (s:Shared) (σ:St) (H:Hp) (x:V) (v vl vu:Value) (lo hi:Option Int) (sl:Addr) (Q:VK),Inv X aa σ H s->RelV x v->s.heap.IsSliceOf sl vl vu .none->IsPart vl lo->IsPart vu hi->r x lo hi H Q ->
  ∃ T id,typeLookup (.type T) "__getitem__"=pure (some (.builtin id))/\s.TypeIs v T/\wpAny (model X.prog X.w) X.A (getItem v (.ref sl)) (EP X aa σ Q) X.xe s
theorem Eb.or (h:Eb X r) (h':Eb X r'):Eb X (λx lo hi H Q=>r x lo hi H Q\/r' x lo hi H Q):=by
 intro aa s σ H x v vl vu lo hi sl Q I rx hs pl pu q
 rcases q with q | q
 ·exact h aa s σ H x v vl vu lo hi sl Q I rx hs pl pu q
 ·exact h' aa s σ H x v vl vu lo hi sl Q I rx hs pl pu q
noncomputable def Q7 (r:V->Option Int->Option Int->Hp->VK->Prop) (te:TE) (tl th:TO):TE:=λσ H Q=>te σ H λx H1=>tl σ H1 λl H2=>th σ H2 λu H3=>r x l u H3 Q
theorem Ax (hr:Eb X r) (he:PE X e te) (hl:PO X lo tl) (hu:PO X hi th):PE X (.Subscript e (.Slice lo hi none p2) pos) (Q7 r te tl th):=by
 intro aa s σ H Q I h
 refine Subscript_ (bB (he aa s σ H _ I h) λv s1 ⟨x,H1,I1,r1,q1⟩=>?_)
 refine wpAny_Slice (bB (hl aa s1 σ H1 _ I1 q1) λvl s2 ⟨l,H2,I2,pl,q2⟩=>bB (hu aa s2 σ H2 _ I2 q2) λvu s3 ⟨u,H3,I3,pu,q3⟩=>?_)
 rw [evalPart_none]
 refine Rt ?_
 have I4:Inv X aa σ H3 { s3 with heap:=s3.heap.push { cls:=.type "slice",data:=.fields #[vl,vu,.none] } }:=I3.kept (t':=s3.toks) λb ob q=>Rx _ q
 obtain ⟨T,id,hT,ht,hg⟩:=hr aa { s3 with heap:=s3.heap.push { cls:=.type "slice",data:=.fields #[vl,vu,.none] } } σ H3 x v vl vu l u s3.heap.objs.size Q I4 r1 (Heap.IsSliceOf.new ..) pl pu q3
 show wpAny (model X.prog X.w) X.A (subscriptTail e (.Slice lo hi none p2) v (.ref s3.heap.objs.size)) (EP X aa σ Q) X.xe { s3 with heap:=s3.heap.push { cls:=.type "slice",data:=.fields #[vl,vu,.none] } }
 exact tail_any (ops:=[.ref s3.heap.objs.size,v]) ht hT hg (by walk_at "u")
noncomputable def oH (xs:List V) (lo hi:Option Int):List V:=(xs.drop (HT.b9 xs.length 0 lo)).take (HT.b9 xs.length xs.length hi - HT.b9 xs.length 0 lo)
theorem jG (xs) (lo hi):(oH xs lo hi).length<=xs.length:=by
 unfold oH
 rw [Sq,XS]
 lia
noncomputable def Pu (K:Rr):V->Option Int->Option Int->Hp->VK->Prop:=λx lo hi H Q=>∃ a xs,x=.ref a/\dG K H a xs /\
 ¬ (HT.b9 xs.length 0 lo=0/\HT.b9 xs.length xs.length hi=xs.length)/\∀ p,H p=none->Q (.ref p) (upd H p (.tup (oH xs lo hi)))
theorem Jd:Eb X (Pu X.K):=by
 intro aa s σ H x v vl vu lo hi sl Q I rx hs pl pu h
 obtain ⟨a,xs,rfl,hx,hw,q⟩:=h
 cases rx
 obtain ⟨its,r,ht,hz⟩:=I.tuple hx
 have hlen:its.toArray.size=xs.length:=by rw [RP]; exact r.length.symm
 refine ⟨"tuple",_,UW.lookup,ht.typeIs,?_⟩
 refine HT.iE ht hs pl pu (by rw [hlen]; exact hw) ?_ (by rw [hlen]; exact hz)
 rw [hlen]
 refine ⟨.ref s.heap.objs.size,_,I.laid (t':=s.toks) (o:=.tup (oH xs lo hi)) (λb ob q=>Rx _ q) (Rv _) ?_,rfl,q _ (I.hok.fresh (Rv _))⟩
 exact ⟨Rz (jG xs lo hi) hz,_,(r.drop (HT.b9 xs.length 0 lo)).take (HT.b9 xs.length xs.length hi - HT.b9 xs.length 0 lo),IsTup.new _ _⟩
theorem Vals.vM (r:Vals xs us):us=[]↔xs=[]:=by
 cases r with
 | nil=>simp
 | cons _ _=>simp
end
noncomputable def LI (n:Nat) (i:Int):Option Nat:=if 0<=i then (if i<n then some i.toNat else none) else if -(n:Int)<=i then some (i+n).toNat else none
noncomputable def jj {α:Type} (xs:List α) (i:Int):Option α:=(LI xs.length i).bind λj=>xs[j]?
theorem EE (h:LI n i=some j):seqIndex? i n=some j/\j<n/\ -(n:Int)<=i/\i<n:=by
 unfold LI at h
 by_cases h0:0<=i
 ·rw [if_pos h0] at h
  by_cases h1:i<n
  ·rw [if_pos h1] at h
   have e:i.toNat=j:=TJ h
   exact ⟨by rw [seqIndex_of h0 h1,e],by lia,by lia,h1⟩
  ·rw [if_neg h1] at h; cases h
 ·rw [if_neg h0] at h
  by_cases h1: -(n:Int)<=i
  ·rw [if_pos h1] at h
   have e:(i+n).toNat=j:=TJ h
   exact ⟨by rw [seqIndex_neg (by lia) h1,e],by lia,h1,by lia⟩
  ·rw [if_neg h1] at h; cases h
theorem vN (h:jj xs i=some v):∃ j,seqIndex? i xs.length=some j/\xs[j]?=some v/\j<xs.length/\ -(xs.length:Int)<=i/\i<xs.length:=by
 unfold jj at h
 cases e:LI xs.length i with
 | none=>rw [e] at h; cases h
 | some j =>
  rw [e] at h
  obtain ⟨h1,h2,h3,h4⟩:=EE e
  exact ⟨j,h1,h,h2,h3,h4⟩
def j3 (b:Expr):Prop:=∀ o i,subscripted b false o i=operate [o,i] (getItem o i)
def G5 (X:Cx) (r:R2):Prop :=
 ∀ (value slice:Expr) (aa:List (Addr×Obj)) (s:Shared) (σ:St) (H:Hp) (x y:V) (v u:Value) (Q:VK),Inv X aa σ H s->RelV x v->RelV y u->r x y H Q ->
  subscripted slice false v u=operate [v,u] (getItem v u)->wpAny (model X.prog X.w) X.A (subscriptTail value slice v u) (EP X aa σ Q) X.xe s
def Pw (X:Cx) (id:String) (r:V->List V->Hp->VK->Prop):Prop :=
 ∀ (aa:List (Addr×Obj)) (s:Shared) (σ:St) (H:Hp) (x:V) (xs:List V) (v:Value) (us:List Value) (Q:VK),Inv X aa σ H s->RelV x v->Vals xs us->r x xs H Q ->
  wpAny (model X.prog X.w) X.A (call (.builtin id) (v::us)) (EP X aa σ Q) X.xe s
section
theorem G5.or (h:G5 X r) (h':G5 X r'):G5 X (λx y H Q=>r x y H Q\/r' x y H Q):=by
 intro value slice aa s σ H x y v u Q I rx ry q hs
 rcases q with q | q
 ·exact h value slice aa s σ H x y v u Q I rx ry q hs
 ·exact h' value slice aa s σ H x y v u Q I rx ry q hs
theorem Mp (hr:G5 X r) (ha:PE X a ta) (hb:PE X b tb) (hs:j3 b):PE X (.Subscript a b pos) (OH r ta tb):=by
 intro aa s σ H Q I h
 exact Subscript_ (IL ha hb I h λv u s2 x y H2 I2 rx ry q=>hr a b aa s2 σ H2 x y v u Q I2 rx ry q (hs _ _))
noncomputable def Px (K:Rr):R2:=λx y H Q=>∃ p xs i v,x=.ref p/\y=.int i/\fS K H p xs/\jj xs i=some v/\Q v H
noncomputable def Py (K:Rr):R2:=λx y H Q=>∃ p xs i v,x=.ref p/\y=.int i/\dG K H p xs/\jj xs i=some v/\Q v H
theorem EF:G5 X (Px X.K):=by
 intro value slice aa s σ H x y v u Q I rx ry h hs
 obtain ⟨p,xs,i,z,rfl,rfl,hq,he,q⟩:=h
 cases rx
 obtain ⟨t,rfl⟩:=ry
 obtain ⟨its,r,pl,hz⟩:=I.list hq
 obtain ⟨j,h1,h2,h3,h4,h5⟩:=vN he
 obtain ⟨w,ew,rw'⟩:=r.get h2
 have hl:=r.length
 have hn:=kC
 have fin:EP X aa σ Q w s:=⟨z,H,I,rw',q⟩
 by_cases h0:0<=i
 ·have hj:i.toNat=j:=by
   rw [seqIndex_of h0 h5] at h1
   exact TJ h1
  exact item_listR pl.isList h0 (by lia) (by rw [hj]; simpa using ew) fin hs
 ·have hj:(i+(its.toArray.size:Int)).toNat=j:=by
   rw [seqIndex_neg (by lia) h4] at h1
   rw [RP,<- hl]
   exact TJ h1
  exact subscriptTail_builtinR (x:=w) pl.isList.typeIs Xz.lookup
   (wpAny_getItem_list_neg (Q:=λr s'=>r=w/\EP X aa σ Q r s') pl.isList (by lia) (by rw [RP] <;> lia) (by lia) (by rw [hj]; simpa using ew) ⟨rfl,fin⟩) hs
theorem Je:G5 X (Py X.K):=by
 intro value slice aa s σ H x y v u Q I rx ry h hs
 obtain ⟨p,xs,i,z,rfl,rfl,hq,he,q⟩:=h
 cases rx
 obtain ⟨t,rfl⟩:=ry
 obtain ⟨its,r,pl,hz⟩:=I.tuple hq
 obtain ⟨j,h1,h2,h3,h4,h5⟩:=vN he
 obtain ⟨w,ew,rw'⟩:=r.get h2
 have hl:=r.length
 have hn:=kC
 have fin:EP X aa σ Q w s:=⟨z,H,I,rw',q⟩
 exact subscriptTail_builtinR (x:=w) pl.typeIs slot_tuple_getitem.lookup
  (getItem_tuple (j:=j) (Q:=λr s'=>r=w/\EP X aa σ Q r s') pl (by lia) (by lia) (by rw [RP,<- hl]; exact h1) (by simpa using ew) ⟨rfl,fin⟩) hs
theorem oJ (lo hi) (n):(sliceBounds lo hi none n).1=((HT.b9 n 0 lo:Nat):Int)/\(sliceBounds lo hi none n).2.1=((HT.b9 n n hi:Nat):Int)/\(sliceBounds lo hi none n).2.2=1:=by
 refine ⟨?_,?_,rfl⟩
 ·cases lo with
  | none=>simp [sliceBounds,HT.b9]
  | some i =>
   simp only [sliceBounds,HT.b9,Option.getD_none,show (1:Int)>0 by decide,if_true]
   by_cases h:i<0
   ·simp only [h,if_true] <;> lia
   ·simp only [h,if_false] <;> lia
 ·cases hi with
  | none=>simp [sliceBounds,HT.b9]
  | some i =>
   simp only [sliceBounds,HT.b9,Option.getD_none,show (1:Int)>0 by decide,if_true]
   by_cases h:i<0
   ·simp only [h,if_true] <;> lia
   ·simp only [h,if_false] <;> lia
theorem mH (its:List Value) (lo hi):slicePick its.toArray lo hi none=((its.drop (HT.b9 its.length 0 lo)).take (HT.b9 its.length its.length hi - HT.b9 its.length 0 lo)).toArray:=by
 obtain ⟨h1,h2,h3⟩:=oJ lo hi its.toArray.size
 unfold slicePick
 rw [h1,h2,h3]
 simp only [sliceRange_one,pick_run,RP] <;> rfl
noncomputable def PD (K:Rr):V->Option Int->Option Int->Hp->VK->Prop:=λx lo hi H Q=>∃ a xs,x=.ref a/\fS K H a xs/\∀ p,H p=none->Q (.ref p) (upd H p (.lst (oH xs lo hi)))
theorem EG:Eb X (PD X.K):=by
 intro aa s σ H x v vl vu lo hi sl Q I rx hs pl pu h
 obtain ⟨a,xs,rfl,hx,q⟩:=h
 cases rx
 obtain ⟨its,r,ht,hz⟩:=I.list hx
 have hlen:=r.length
 refine ⟨"list",_,Xz.lookup,ht.isList.typeIs,?_⟩
 refine wpAny_getItem_list_slice ht.isList hs pl pu .none (by simp) ?_ (by rw [RP] <;> lia)
 rw [mH,<- hlen]
 refine ⟨.ref s.heap.objs.size,_,I.laid (t':=s.toks) (o:=.lst (oH xs lo hi)) (λb ob q=>Rx _ q) (Rv _) ?_,rfl,q _ (I.hok.fresh (Rv _))⟩
 exact ⟨Rz (jG xs lo hi) hz,_,0,(r.drop (HT.b9 xs.length 0 lo)).take (HT.b9 xs.length xs.length hi - HT.b9 xs.length 0 lo),RK _ rfl⟩
theorem oM:fT X (.builtin "len") (λxs H Q=>∃ p ys,xs=[.ref p]/\(fS X.K H p ys\/dG X.K H p ys)/\Q (.int ys.length) H):=by
 intro aa s σ H xs us Q I r h
 obtain ⟨p,ys,rfl,hq,q⟩:=h
 obtain ⟨u,rfl,rx⟩:=vals1 r
 cases rx
 have hn:=kC
 rcases hq with hq | hq
 ·obtain ⟨its,r',pl,hz⟩:=I.list hq
  have hlen:=r'.length
  exact Calls.call_len_list pl.isList (by simp only [RP] <;> lia) ⟨.int ys.length,H,I.tok _,⟨s.toks+1,by rw [RP,hlen]⟩,q⟩
 ·obtain ⟨its,r',pl,hz⟩:=I.tuple hq
  have hlen:=r'.length
  exact len_tuple pl (by simp only [RP] <;> lia) ⟨.int ys.length,H,I.tok _,⟨s.toks+1,by rw [RP,hlen]⟩,q⟩
theorem oN:fT X (.type "list") (λxs H Q=>∃ p ys,xs=[.ref p]/\(fS X.K H p ys\/dG X.K H p ys)/\∀ l,H l=none->Q (.ref l) (upd H l (.lst ys))):=by
 intro aa s σ H xs us Q I r h
 obtain ⟨p,ys,rfl,hq,q⟩:=h
 obtain ⟨u,rfl,rx⟩:=vals1 r
 cases rx
 have fin:∀ (its:List Value),Vals ys its->ys.length<=sizeLine->∀ (h':Heap) (c':Nat),(∀ b o',s.heap.get? b=some o'->h'.get? b=some o') ->
  h'.get? s.heap.objs.size=some { cls:=.type "list",dict:=none,data:=.seq its.toArray c',slots:= #[] }->EP X aa σ Q (.ref s.heap.objs.size) { s with heap:=h' }:=λits r' hz h' c' kp e =>
  ⟨.ref s.heap.objs.size,_,I.laid (t':=s.toks) kp (Rv _) (show bu X.prog X.w _ h' _ (.lst ys) from ⟨hz,its,c',r',e⟩),rfl,q _ (I.hok.fresh (Rv _))⟩
 rcases hq with hq | hq
 ·obtain ⟨its,r',pl,hz⟩:=I.list hq
  have hlen:=r'.length
  obtain ⟨o,ho,hc,n,hd⟩:=pl.isList
  exact call_list_seq p (.inl rfl) ho hc hd (λh' c' kp e=>fin its r' hz h' c' kp e) (by simp only [RP] <;> lia)
 ·obtain ⟨its,r',pl,hz⟩:=I.tuple hq
  have hlen:=r'.length
  obtain ⟨o,ho,hc,n,hd⟩:=pl
  exact call_list_seq p (.inr rfl) ho hc hd (λh' c' kp e=>fin its r' hz h' c' kp e) (by simp only [RP] <;> lia)
theorem mJ:fT X (.type "tuple") (λxs H Q=>∃ p ys,xs=[.ref p]/\((fS X.K H p ys/\∀ l,H l=none->Q (.ref l) (upd H l (.tup ys)))\/(dG X.K H p ys/\Q (.ref p) H))):=by
 intro aa s σ H xs us Q I r h
 obtain ⟨p,ys,rfl,h⟩:=h
 obtain ⟨u,rfl,rx⟩:=vals1 r
 cases rx
 rcases h with ⟨hq,q⟩ | ⟨hq,q⟩
 ·obtain ⟨its,r',pl,hz⟩:=I.list hq
  have hlen:=r'.length
  refine call_tuple_list pl.isList (λh' kp=>?_) (by simp only [RP] <;> lia)
  have I1:Inv X aa σ H { s with heap:=h' }:=I.kept (t':=s.toks) kp
  have I2:Inv X aa σ (upd H h'.objs.size (.tup ys)) { s with heap:=h'.push { cls:=.type "tuple",data:=.seq its.toArray } } :=
   I1.laid (t':=s.toks) (λb o e=>Rx _ e) (Rv _) (show bu X.prog X.w _ _ _ (.tup ys) from ⟨hz,its,r',IsTup.new _ _⟩)
  exact ⟨.ref h'.objs.size,_,I2,rfl,q _ (I1.hok.fresh (Rv _))⟩
 ·obtain ⟨its,r',pl,hz⟩:=I.tuple hq
  exact call_tuple_same pl ⟨.ref p,H,I,rfl,q⟩
def PF (K:Rr) (T:String) (x:V) (H:Hp):Prop:=match x with
 | .str _=>T="str"
 | .int _=>T="int"
 | .ref p=>(T="list"/\∃ xs,fS K H p xs)\/(T="tuple"/\∃ o,K.lookup p=some o/\o.cls=.type "tuple"/\o.dict=none) \/
  (T="dict"/\((∃ kvs,H p=some (.dK kvs))\/∃ kvs,H p=some (.dT kvs)))\/(T="set"/\∃ S n,H p=some (.set S n))
 | _=>False
theorem Ay (I:Inv X aa σ H s) (r:RelV x v) (ty:PF X.K T x H) :
 s.TypeIs v T/\∀ a,v=.ref a->∃ ob,s.heap.get? a=some ob/\ob.dict=none:=by
 cases x with
 | str z =>
  obtain ⟨t,rfl⟩:=r
  cases (show T="str" from ty)
  exact ⟨typeIs_str s z t,λ_ e=>nomatch e⟩
 | int i =>
  obtain ⟨t,rfl⟩:=r
  cases (show T="int" from ty)
  exact ⟨typeIs_int s i t,λ_ e=>nomatch e⟩
 | ref p =>
  cases r
  rcases ty with ⟨rfl,xs,hq⟩ | ⟨rfl,o,hk,hc,hd⟩ | ⟨rfl,hk⟩ | ⟨rfl,S,n,hk⟩
  ·obtain ⟨its,_,pl,_⟩:=I.list hq
   refine ⟨pl.isList.typeIs,λa e=>?_⟩
   cases e
   obtain ⟨o,n,e,c,hd,_⟩:=pl
   exact ⟨o,e,hd⟩
  ·refine ⟨⟨o,I.Ea p o hk,hc⟩,λa e=>?_⟩
   cases e
   exact ⟨o,I.Ea _ o hk,hd⟩
  ·have z:∃ o,s.heap.get? p=some o/\o.ExactDict:=by
    rcases hk with ⟨kvs,hk⟩ | ⟨kvs,hk⟩
    ·obtain ⟨_,_,_,_,o,_,_,e,ex,_⟩:=I.hok p _ hk
     exact ⟨o,e,ex⟩
    ·obtain ⟨_,_,_,_,o,_,_,e,ex,_⟩:=I.hok p _ hk
     exact ⟨o,e,ex⟩
   obtain ⟨o,e,ex⟩:=z
   refine ⟨⟨o,e,ex.1⟩,λa e2=>?_⟩
   cases e2
   exact ⟨o,e,ex.2.1⟩
  ·obtain ⟨o,_,_,_,e,ex,_⟩:=I.hok p _ hk
   refine ⟨⟨o,e,ex.1⟩,λa e2=>?_⟩
   cases e2
   exact ⟨o,e,ex.2.1⟩
 | _=>exact SO ty
noncomputable def PJ (K:Rr) (T:String) (r:V->List V->Hp->VK->Prop) (to:TE):TE:=λσ H Q=>to σ H λx H1=>PF K T x H1/\r x [] H1 Q
noncomputable def Q8 (K:Rr) (T:String) (r:V->List V->Hp->VK->Prop) (to:TE) (t:TA):TE:=λσ H Q=>to σ H λx H1=>PF K T x H1/\t σ H1 λxs H2=>r x xs H2 Q
variable {T id:String}
theorem Az (pa:PlainAttrs T) (slot:Slot T name id) (hty:typeOf (.builtin id)=pure (.type "method_descriptor")) (hm:Pw X id r) (ho:PE X o to)
 (hbase:attributeBase o name X.env (eval o X.env)=eval o X.env:=by rfl) (hline:(apos.endLine == cpos.line)=true:=by rfl):PE X (.Call (.Attribute o name apos) [] [] cpos) (PJ X.K T r to):=by
 intro aa s σ H Q I h
 refine wpAny_Call_method0_late hbase hline (bB (ho aa s σ H _ I h) λv s1 ⟨x,H1,I1,r1,ty,q1⟩=>?_)
 obtain ⟨h1,h2⟩:=Ay I1 r1 ty
 exact ⟨T,id,pa,slot,hty,h1,h2,W9 rfl (Xi (hm aa s1 σ H1 x [] v [] Q I1 r1 .nil q1))⟩
theorem Mq (pa:PlainAttrs T) (slot:Slot T name id) (hty:typeOf (.builtin id)=pure (.type "method_descriptor")) (hm:Pw X id r) (ho:PE X o to) (ha:PA X (e::es) t)
 (hbase:attributeBase o name X.env (eval o X.env)=eval o X.env:=by rfl)
 (hfew:((backTo cpos (starEach (e::es) X.env)).all (λx=> !x.1) && (backToKw cpos (keywordEach [] X.env)).all (λx=>x.1.isSome)
   && decide ((e::es).length+([]:List Keyword).length+(if ([]:List Keyword).isEmpty then 0 else 1)<30))=true:=by rfl)
 (hline:(apos.endLine == cpos.line)=true:=by rfl) (hs:starEach (e::es) X.env=(false,eval e X.env)::starEach es X.env:=by rfl) (hplain:(backTo cpos (starEach es X.env)).any (·.1)=false:=by rfl) :
 PE X (.Call (.Attribute o name apos) (e::es) [] cpos) (Q8 X.K T r to t):=by
 intro aa s σ H Q I h
 refine wpAny_Call_method_late hbase hfew hline rfl (bB (ho aa s σ H _ I h) λv s1 ⟨x,H1,I1,r1,ty,q1⟩=>?_)
 obtain ⟨h1,h2⟩:=Ay I1 r1 ty
 refine ⟨T,id,pa,slot,hty,h1,h2,?_⟩
 have hA:=ha cpos aa s1 σ H1 _ I1 q1
 rw [hs] at hA |-
 refine W9 (by show (false || (backTo cpos (starEach es X.env)).any (·.1))=false; rw [hplain] <;> rfl) (Calls.evalArgs_plain ?_)
 exact bB hA λus s2 ⟨vs,H2,I2,r2,q2⟩=>hm aa s2 σ H2 x vs v us Q I2 r1 r2 q2
end
def QD (X:Cx) (id:String) (r:V->List V->Hp->VK->Prop):Prop :=
 ∀ (aa:List (Addr×Obj)) (s:Shared) (σ:St) (H:Hp) (x:V) (xs:List V) (v:Value) (us:List Value) (Q:VK),Inv X aa σ H s->RelV x v->Vals xs us->r x xs H Q ->
  wpAny (model X.prog X.w) X.A (call (.builtin id) (v::us)) (EP X aa σ Q) X.xe s
theorem Vals.one:∀ {x:V} {us:List Value},Vals [x] us->∃ u,us=[u]/\RelV x u
 | _,_,.cons r .nil=>⟨_,rfl,r⟩
theorem Vals.zero:∀ {us:List Value},Vals [] us->us=[]
 | _,.nil=>rfl
theorem Vals.dropLast (h:Vals xs us):Vals xs.dropLast us.dropLast:=by
 induction h with
 | nil=>exact .nil
 | cons r t ih =>
  cases t with
  | nil=>exact .nil
  | cons q t'=>exact .cons r ih
theorem Vals.rep (h:Vals xs us):∀ k:Nat,Vals (RE k xs).flatten (RE k us).flatten
 | 0=>.nil
 | k+1=>by
  rw [TR,TR,UG,UG]
  exact Vals.append h (Vals.rep h k)
theorem t8 {α:Type} (l:List α):l.eraseIdx (l.length - 1)=l.dropLast:=by
 induction l with
 | nil=>rfl
 | cons a r ih =>
  cases r with
  | nil=>rfl
  | cons b r =>
   have e:(a::b::r).length - 1=((b::r).length - 1)+1:=by
    have h1:(a::b::r).length=r.length+2:=rfl
    have h2:(b::r).length=r.length+1:=rfl
    lia
   rw [e,List.eraseIdx_cons_succ,ih]
   all_goals rfl
theorem foldl_rep (its):∀ (k:Nat) (acc:List Value),
 VS (λx1 x2=>x1++x2) acc.toArray (RE k its.toArray)=(acc++(RE k its).flatten).toArray
 | 0,acc=>by simp
 | k+1,acc=>by
  have e:acc.toArray++its.toArray=(acc++its).toArray:=by simp
  have e2:(acc++its)++(RE k its).flatten=acc++(RE (k+1) its).flatten:=by
   rw [TR,UG,R4]
  rw [<- e2,<- foldl_rep its k (acc++its),<- e,TR,Tg]
theorem Inv.uc {its its':List Value} (I:Inv X aa σ H s) (hH:H l=some (.lst xs))
 (e:s.heap.get? l=some { cls:=.type "list",data:=.seq its.toArray n }) (hf:f its.toArray=its'.toArray) (hv:Vals ys its') (hz:ys.length<=sizeLine) :
 Inv X aa σ (upd H l (.lst ys)) { s with heap:=s.heap.update l (R7 f),toks:=t' }:=by
 have q:=PySem.IsL.update e f
 rw [hf] at q
 refine I.write (x:=l) (e:=l) (by rw [hH]; exact trivial) (.inl rfl) (λb' u hb hu=>(V5 s.heap (R7 f) (RS hb)).trans hu) ⟨_,q⟩ ?_
 exact ⟨hz,its',_,hv,q⟩
theorem Inv.EH (I:Inv X aa σ H s) (hv:Vals ys its) (hz:ys.length<=sizeLine) :
 Inv X aa σ (upd H s.heap.objs.size (.lst ys)) { s with heap:=s.heap.push { cls:=.type "list",data:=.seq its.toArray },toks:=t' } :=
 I.laid (λ_ _ q=>Rx _ q) (Rv _) ⟨hz,its,0,hv,RK _ rfl⟩
theorem Inv.fresh (I:Inv X aa σ H s):H s.heap.objs.size=none:=I.hok.fresh (Rv _)
theorem Inv.qF (I:Inv X aa σ H s) (hH:H l=some (.lst xs)):xs.length<=sizeLine/\∃ (its:List Value) (n:Nat),Vals xs its/\xs.length=its.length/\s.heap.get? l=some { cls:=.type "list",data:=.seq its.toArray n }:=by
 obtain ⟨z,its,n,r,e⟩:=I.hok l _ hH
 exact ⟨z,its,n,r,r.length,e⟩
theorem AA (h:n<=sizeLine):WY n=false:=by
 unfold WY
 exact decide_eq_false (by lia)
noncomputable def EI:V->List V->Hp->VK->Prop:=λx vs H Q=>∃ l xs y,x=.ref l/\vs=[y]/\H l=some (.lst xs)/\xs.length<sizeLine/\Q .non (upd H l (.lst (xs++[y])))
theorem ng:QD X "list.append" EI:=by
 intro aa s σ H x vs v us Q I rx rv h
 obtain ⟨l,xs,y,rfl,rfl,hH,hz,q⟩:=h
 cases rx
 obtain ⟨u,rfl,ru⟩:=rv.one
 obtain ⟨z,its,n,r,hl,e⟩:=I.qF hH
 refine call_meets F.slot_list_append ⟨_,e,rfl⟩ F.entry_list_append (F.args_list_append_2 _ _) (PySem.list_append l its.toArray n u (by rw [RP]; lia)) ⟨e,?_⟩
 refine ⟨.non,_,I.uc (its':=its++[u]) hH e (by simp) (r.append (.cons ru .nil)) ?_,rfl,q⟩
 rw [R3,Tz]
 lia
noncomputable def PK:V->List V->Hp->VK->Prop:=λx vs H Q=>∃ l xs y,x=.ref l/\vs=[]/\H l=some (.lst xs)/\xs[xs.length - 1]?=some y/\Q y (upd H l (.lst xs.dropLast))
theorem Jf:QD X "list.pop" PK:=by
 intro aa s σ H x vs v us Q I rx rv h
 obtain ⟨l,xs,y,rfl,rfl,hH,hy,q⟩:=h
 cases rx
 have hus:=rv.zero
 subst hus
 obtain ⟨z,its,n,r,hl,e⟩:=I.qF hH
 obtain ⟨u,hu,ru⟩:=r.get hy
 have hy':its.toArray[its.toArray.size - 1]?=some u:=by
  show its.toArray[its.length - 1]?=some u
  rw [<- Sm,<- hl]
  exact hu
 refine call_meets F.slot_list_pop ⟨_,e,rfl⟩ F.entry_list_pop (F.args_list_pop_1 _) (MeetsSeq.list_pop_last l its.toArray n u hy' (by rw [RP]; lia)) ⟨e,?_⟩
 refine ⟨y,_,I.uc (its':=its.dropLast) hH e ?_ r.dropLast ?_,ru,q⟩
 ·show its.toArray.eraseIdxIfInBounds (its.toArray.size - 1)=its.dropLast.toArray
  rw [RP,List.eraseIdxIfInBounds_toArray,t8]
 ·rw [List.length_dropLast]
  lia
noncomputable def PM:R2:=λx y H Q=>∃ l k xs,x=.ref l/\y=.int k/\H l=some (.lst xs)/\ -(2 ^ 63)<=k/\k<2 ^ 63/\xs.length * k.toNat<=sizeLine /\
 ∀ p,H p=none->Q (.ref p) (upd H p (.lst (RE k.toNat xs).flatten))
theorem len_rep {α:Type} (xs:List α) (k):(RE k xs).flatten.length=k * xs.length:=by
 induction k with
 | zero=>simp
 | succ k ih=>rw [TR,UG,R3,ih,Vj,VL]
theorem AB:fF X (binaryOp .Mult) PM:=by
 intro aa s σ H x y v u Q I rx ry h
 obtain ⟨l,k,xs,rfl,rfl,hH,h1,h2,hz,q⟩:=h
 cases rx
 obtain ⟨t,rfl⟩:=ry
 obtain ⟨z,its,n,r,hl,e⟩:=I.qF hH
 have hlen:its.toArray.size * k.toNat<=sizeLine:=by rw [RP,<- hl]; exact hz
 have hcap:¬ its.toArray.size * k.toNat>(2 ^ 63 - 1) / 8:=by
  have:(sizeLine:Nat)<=(2 ^ 63 - 1) / 8:=by decide
  lia
 have hfit:¬ (!Builtin.List.listFitsIndex k)=true:=by
  rw [fitsIndex_both h1 h2]
  exact RG
 have hlong:¬ WY (its.toArray.size * k.toNat)=true:=by
  rw [AA hlen]
  exact RG
 have hnew:VS (λx1 x2=>x1++x2) #[] (RE (if its.toArray.isEmpty=true then 0 else k.toNat) its.toArray)=(RE k.toNat its).flatten.toArray:=by
  have f0:∀ m:Nat,VS (λx1 x2=>x1++x2) #[] (RE m its.toArray)=(RE m its).flatten.toArray:=λm=>by
   have:=foldl_rep its m []
   rw [Wo] at this
   exact this
  rw [f0]
  cases its with
  | nil=>simp
  | cons a r'=>rw [if_neg (by simp)]
 refine wpAny_binaryOp_repeat_ref (T:="list") (U:="int") (by decide) ⟨_,e,rfl⟩ (λs'=>typeIs_int s' k t) noFill_list_mul F.fills_int_mul F.slot_int_rmul repeat_list F.slot_int_index.lookup
  (call_meets F.slot_int_rmul (typeIs_int s k t) F.entry_int_rmul (F.args_int_rmul_2 _ _) (int___rmul___int_list k t l its.toArray n)
    ⟨e,rfl,⟨_,e,rfl⟩,call_meets F.slot_list_mul ⟨_,e,rfl⟩ F.entry_list_mul (F.args_list_mul_2 _ _) (AutoListH.list___mul___list_int_3 l its.toArray n k t hfit hcap hlong) ⟨e,?_⟩⟩)
 rw [hnew]
 exact ⟨.ref _,_,I.EH (t':=s.toks) (r.rep k.toNat) (by rw [len_rep,Nat.mul_comm]; exact hz),rfl,q _ I.fresh⟩
section
variable {κ:Type} [DecidableEq κ]
noncomputable def kH (kvs:List (κ×V)) (k:κ):Option V:=(kvs.find? λkv=>decide (kv.1=k)).map (·.2)
noncomputable def putK (kvs:List (κ×V)) (k:κ) (v:V):List (κ×V) :=
 if (kvs.any λkv=>decide (kv.1=k))=true then kvs.map (λkv=>if kv.1=k then (kv.1,v) else kv) else kvs++[(k,v)]
theorem kI {p:κ×V} {r:List (κ×V)} {k:κ} (e:p.1=k):kH (p::r) k=some p.2:=by simp [kH,Th,e]
theorem kJ {p:κ×V} {r:List (κ×V)} {k:κ} (e:¬ p.1=k):kH (p::r) k=kH r k:=by simp [kH,Th,e]
theorem qG (k:κ):∀ kvs:List (κ×V),(kvs.any λkv=>decide (kv.1=k))=(kH kvs k).isSome
 | []=>rfl
 | p::r=>by
  rw [List.any_cons]
  by_cases e:p.1=k
  ·simp only [kI e,decide_eq_true e,Bool.true_or,Option.isSome_some]
  ·rw [kJ e,decide_eq_false e,Bool.false_or]; exact qG k r
theorem qH (kvs) (k:κ) (v):(putK kvs k v).length<=kvs.length+1:=by
 unfold putK
 split
 ·rw [RB]; lia
 ·rw [R3,Sf,TX]; lia
theorem jP.fj (r:jP o u):o.isSome=u.isSome:=by
 cases o with
 | none=>cases u with
  | none=>rfl
  | some _=>exact (show False from r).elim
 | some _=>cases u with
  | none=>exact (show False from r).elim
  | some _=>rfl
theorem jP.getD (r:jP o u) (rd:RelV d d'):RelV (o.getD d) (u.getD d'):=by
 cases o with
 | none=>cases u with
  | none=>exact rd
  | some _=>exact (show False from r).elim
 | some _=>cases u with
  | none=>exact (show False from r).elim
  | some _=>exact r
theorem KV.val (r:KV kvs vs) (k:κ):jP (kH kvs k) (valueAt vs k):=by
 unfold KV at r
 induction r with
 | nil=>exact Vn
 | @cons p q ps qs h t ih =>
  obtain ⟨h1,h2⟩:=h
  by_cases e:p.1=k
  ·have e':q.1=k:=h1.symm.trans e
   have b:valueAt (q::qs) k=some q.2:=by simp [valueAt,Th,e']
   rw [kI e,b]; exact h2
  ·have e':¬ q.1=k:=λz=>e (h1.trans z)
   have b:valueAt (q::qs) k=valueAt qs k:=by simp [valueAt,Th,e']
   rw [kJ e,b]; exact ih
theorem KV.any (r:KV kvs vs) (k:κ):(kvs.any λkv=>decide (kv.1=k))=vs.any λkv=>decide (kv.1=k):=by
 unfold KV at r
 induction r with
 | nil=>rfl
 | cons h t ih=>rw [List.any_cons,List.any_cons,ih,h.1]
theorem KV.repl (r:KV kvs vs) (k:κ) (ry:RelV y u) :
 KV (kvs.map λkv=>if kv.1=k then (kv.1,y) else kv) (vs.map λkv=>if kv.1=k then (kv.1,u) else kv):=by
 unfold KV at r |-
 induction r with
 | nil=>exact .nil
 | @cons p q ps qs h t ih =>
  rw [RC,RC]
  refine .cons ?_ ih
  obtain ⟨h1,h2⟩:=h
  by_cases e:p.1=k
  ·rw [if_pos e,if_pos (h1.symm.trans e)]; exact ⟨h1,ry⟩
  ·rw [if_neg e,if_neg (λz=>e (h1.trans z))]; exact ⟨h1,h2⟩
theorem KV.put (r:KV kvs vs) (k:κ) (ry:RelV y u):KV (putK kvs k y) (stored vs k u):=by
 unfold putK stored
 rw [r.any k]
 by_cases e:(vs.any λkv=>decide (kv.1=k))=true
 ·rw [if_pos e,if_pos e]; exact r.repl k ry
 ·rw [if_neg e,if_neg e]; exact WN r ⟨rfl,ry⟩
theorem KV.length {kvs:List (κ×V)} {vs:List (κ×Value)} (r:KV kvs vs):kvs.length=vs.length:=To r
end
theorem nh (r:RelV (kV k) u):(bO P w).is k u=true:=by
 cases k with
 | inl i=>obtain ⟨t,e⟩:=(show ∃ t,u=UT i t from r); subst e; exact qy P w i t
 | inr x=>obtain ⟨t,e⟩:=(show ∃ t,u=Value.str x t from r); subst e; exact qz P w x t
theorem ni:∀ {ks:List Key} {us:List Value},Vals (ks.map kV) us->ItemsAre (bO P w) ks us
 | [],_,r=>by rw [Ud] at r; cases r; exact .nil
 | k::ks,_,r=>by
  rw [RC] at r
  cases r with
  | cons h t=>exact .cons (nh h) (ni t)
noncomputable abbrev KT:List (List Key×Addr×V)->List (List Key×Addr×Value)->Prop:=Paired λp q=>p.1=q.1/\p.2.1=q.2.1/\RelV p.2.2 q.2.2
noncomputable def atT (kvs:List (List Key×Addr×V)) (k:List Key):Option V:=(kvs.find? λkv=>decide (kv.1=k)).map (·.2.2)
noncomputable def oO (k:List Key) (v:V) (x:List Key×Addr×V):List Key×Addr×V:=if x.1=k then (x.1,x.2.1,v) else x
noncomputable def qI (kvs:List (List Key×Addr×V)) (k:List Key) (b:Addr) (v:V):List (List Key×Addr×V) :=
 if (atT kvs k).isSome=true then kvs.map (oO k v) else kvs++[(k,b,v)]
theorem qJ (kvs) (k) (b) (v):(qI kvs k b v).length<=kvs.length+1:=by
 unfold qI
 split
 ·rw [RB]; lia
 ·rw [R3,Sf,TX]; lia
theorem KT.val (r:KT kvs xs) (k):jP (atT kvs k) ((atKey xs k).map (·.2)):=by
 induction r with
 | nil=>exact Vn
 | @cons p q ps qs h t ih =>
  obtain ⟨h1,_,h2⟩:=h
  by_cases e:p.1=k
  ·have e':q.1=k:=h1.symm.trans e
   have b:atKey (q::qs) k=some q.2:=by simp [atKey,Th,e']
   have b2:atT (p::ps) k=some p.2.2:=by simp [atT,Th,e]
   rw [b2,b]; exact h2
  ·have e':¬ q.1=k:=λz=>e (h1.trans z)
   have b:atKey (q::qs) k=atKey qs k:=by simp [atKey,Th,e']
   have b2:atT (p::ps) k=atT ps k:=by simp [atT,Th,e]
   rw [b2,b]; exact ih
theorem KT.repl (r:KT kvs xs) (k) (ry:RelV y u) :
 KT (kvs.map (oO k y)) (xs.map (putAt k u)):=by
 induction r with
 | nil=>exact .nil
 | @cons p q ps qs h t ih =>
  rw [RC,RC]
  refine .cons ?_ ih
  obtain ⟨h1,h2,h3⟩:=h
  unfold putAt oO
  by_cases e:p.1=k
  ·rw [if_pos e,if_pos (h1.symm.trans e)]; exact ⟨h1,h2,ry⟩
  ·rw [if_neg e,if_neg (λz=>e (h1.trans z))]; exact ⟨h1,h2,h3⟩
theorem KT.put (r:KT kvs xs) (k) (ry:RelV y u) :
 KT (qI kvs k b y) (storedH xs k b u):=by
 have e:(atT kvs k).isSome=(atKey xs k).isSome:=by
  rw [(r.val k).fj,Uj]
 unfold qI storedH
 rw [e]
 by_cases q:(atKey xs k).isSome=true
 ·rw [if_pos q,if_pos q]; exact r.repl k ry
 ·rw [if_neg q,if_neg q]; exact WN r ⟨rfl,rfl,ry⟩
theorem AD (ok:jd P w H h) (e:Rd H a u):bu P w H h a u:=e.ok ok
theorem kK (ok:jd P w H h) (e:Rd H a (.dK kvs)):kvs.length<=sizeLine/\(a == sysModules)=false/\∃ vs,KV kvs vs/\h.DictOf (bO P w) a vs :=
 show bu P w H h a (.dK kvs) from AD ok e
theorem Mr (ok:jd P w H h) (e:H a=some (.dK kvs)):kvs.length<=sizeLine/\(a == sysModules)=false/\∃ vs,KV kvs vs/\h.DictOf (bO P w) a vs:=kK ok (.inl e)
theorem jk (I:Inv X aa σ H s) (e:dG X.K H a (ks.map kV)):(tupleKind (bO X.prog X.w)).is s.heap ks a:=by
 obtain ⟨its,r,⟨o,h1,h2,n,h3⟩,_⟩:=I.tuple e
 exact ⟨o,its.toArray,n,h1,h2,h3,by simpa using ni r⟩
theorem nj (I:Inv X aa σ H s) (e:Rd H a (.dT kvs)) (hk:∀ x∈kvs,dG X.K H x.2.1 (x.1.map kV)):kvs.length<=sizeLine/\(a == sysModules)=false /\
 ∃ xs,KT kvs xs/\s.heap.DictOfH (tupleKind (bO X.prog X.w)) a xs:=by
 obtain ⟨z,y,xs,r,o,es,ep,h1,h2,h3,h4,h5⟩:=(show bu X.prog X.w H s.heap a (.dT kvs) from AD I.hok e)
 refine ⟨z,y,xs,r,o,es,ep,h1,h2,h3,h4,?_,h5⟩
 have all:∀ {l:List (List Key×Addr×V)} {m:List (List Key×Addr×Value)},KT l m->(∀ x∈l,dG X.K H x.2.1 (x.1.map kV))->∀ x∈m,(tupleKind (bO X.prog X.w)).is s.heap x.1 x.2.1:=by
  intro l m q
  induction q with
  | nil=>intro _ x hx; exact nomatch hx
  | @cons p q ps qs hq t ih =>
   intro hl x hx
   rcases RL.mp hx with e | hx
   ·subst e
    rw [<- hq.1,<- hq.2.1]
    exact jk I (hl p RD)
   ·exact ih (λy hy=>hl y (RH _ hy)) x hx
 exact all r hk
def kL (K:Rr) (H:Hp) (a:Addr) (y:V) (r:Option V):Prop :=
 (∃ kvs k,Rd H a (.dK kvs)/\y=kV k/\r=kH kvs k)\/∃ kvs k b,Rd H a (.dT kvs)/\(∀ x∈kvs,dG K H x.2.1 (x.1.map kV))/\y=.ref b/\dG K H b (k.map kV)/\r=atT kvs k
def EJ (K:Rr) (H:Hp) (a:Addr) (y v:V) (H':Hp):Prop :=
 (∃ kvs k,H a=some (.dK kvs)/\y=kV k/\kvs.length<sizeLine/\H'=upd H a (.dK (putK kvs k v))) \/
 ∃ kvs k b,H a=some (.dT kvs)/\(∀ x∈kvs,dG K H x.2.1 (x.1.map kV))/\y=.ref b/\dG K H b (k.map kV)/\kvs.length<sizeLine/\H'=upd H a (.dT (qI kvs k b v))
theorem Inv.big (I:Inv X aa σ H s):sysModules<s.heap.objs.size:=by
 have h:mainGlobals<s.heap.objs.size:=(I.mod.glob.keeps I.bk).lt
 exact Nat.lt_trans (by decide) h
theorem nk (hu:A.units+1<cLine) (I:Inv X aa σ H s) (g:kL X.K H a y (some v)) (ry:RelV y u) (h:∀ w' s',Inv X aa σ H s'->RelV v w'->Q w' s') :
 wpAny (model X.prog X.w) A (getItem (.ref a) u) Q E s:=by
 rcases g with ⟨kvs,k,e,ey,l⟩ | ⟨kvs,k,b,e,hk,ey,eb,l⟩
 ·subst ey
  obtain ⟨z,hd,vs,rel,dd⟩:=kK I.hok e
  obtain ⟨w',hw,rw'⟩:=jP.some_of (v:=v) (o:=valueAt vs k) (by rw [l]; exact rel.val k)
  exact wpAny_getItem_of (nh ry) dd.mapOf hw (h w' _ (I.tok _) rw')
 ·subst ey
  cases (show u=R1 b from ry)
  obtain ⟨z,hd,xs,rel,dd⟩:=nj I e hk
  obtain ⟨w',hw,rw'⟩:=jP.some_of (v:=v) (o:=(atKey xs k).map (·.2)) (by rw [l]; exact rel.val k)
  obtain ⟨p,hp,hp2⟩:=RV.mp hw
  refine wpAny_getItem_heap (Vw hu) (jk I eb) dd hp ?_
  rw [hp2]
  exact h w' _ (I.tok _) rw'
theorem PN (hu:A.units+1<cLine) (I:Inv X aa σ H s) (g:kL X.K H a y o) (ry:RelV y u) (h:∀ s',Inv X aa σ H s'->Q (.bool o.isSome) s') :
 wpAny (model X.prog X.w) A (compareOp .In u (.ref a)) Q E s:=by
 rcases g with ⟨kvs,k,e,ey,l⟩ | ⟨kvs,k,b,e,hk,ey,eb,l⟩
 ·subst ey
  obtain ⟨z,hd,vs,rel,dd⟩:=kK I.hok e
  refine wpAny_in_of (nh ry) hd dd.mapOf ?_
  rw [<- (rel.val k).fj,<- l]
  exact h _ (I.tok _)
 ·subst ey
  cases (show u=R1 b from ry)
  obtain ⟨z,hd,xs,rel,dd⟩:=nj I e hk
  refine wpAny_in_heap (Vw hu) (jk I eb) hd dd ?_
  have q:=(rel.val k).fj
  rw [Uj] at q
  rw [<- q,<- l]
  exact h _ (I.tok _)
theorem EK (hu:A.units+1<cLine) (I:Inv X aa σ H s) (g:kL X.K H a y o) (ry:RelV y u) (h:∀ s',Inv X aa σ H s'->Q (.bool (!o.isSome)) s') :
 wpAny (model X.prog X.w) A (compareOp .NotIn u (.ref a)) Q E s:=by
 rcases g with ⟨kvs,k,e,ey,l⟩ | ⟨kvs,k,b,e,hk,ey,eb,l⟩
 ·subst ey
  obtain ⟨z,hd,vs,rel,dd⟩:=kK I.hok e
  refine wpAny_notIn_of (nh ry) hd dd.mapOf ?_
  rw [<- (rel.val k).fj,<- l]
  exact h _ (I.tok _)
 ·subst ey
  cases (show u=R1 b from ry)
  obtain ⟨z,hd,xs,rel,dd⟩:=nj I e hk
  refine wpAny_notIn_heap (Vw hu) (jk I eb) hd dd ?_
  have q:=(rel.val k).fj
  rw [Uj] at q
  rw [<- q,<- l]
  exact h _ (I.tok _)
theorem vO (I:Inv X aa σ H s) (mu:LV (H a)) (hs:Tt a s.heap h') (he:∃ q,h'.get? a=some q) (new:bu X.prog X.w (upd H a ob) h' a ob) :
 Inv X aa σ (upd H a ob) { s with heap:=h',toks:=t' } :=
 I.write (x:=a) (e:=a) mu (.inl rfl) (λb q hb z=>(hs.2 b hb).trans z) he new
theorem Jg (z:kvs.length<=sizeLine) (hd:(a == sysModules)=false) (rel:KV kvs vs) (dd:h'.DictOf (bO P w) a vs) :
 bu P w H' h' a (.dK kvs):=⟨z,hd,vs,rel,dd⟩
theorem nq (hu:A.units+1<cLine) (I:Inv X aa σ H s) (g:EJ X.K H a y v H') (ry:RelV y u) (rv:RelV v r) (h:∀ s',Inv X aa σ H' s'->Q () s') :
 wpAny (model X.prog X.w) A (setItem (.ref a) u r) Q E s:=by
 rcases g with ⟨kvs,k,e,ey,l,eH⟩ | ⟨kvs,k,b,e,hk,ey,eb,l,eH⟩
 ·subst ey eH
  obtain ⟨z,hd,vs,rel,dd⟩:=Mr I.hok e
  have hz:vs.length<=sizeLine:=by rw [<- rel.length]; exact z
  have hl:(putK kvs k v).length<=sizeLine:=by have:=qH kvs k v; lia
  refine wpAny_setItem_pairs (hsz:=hz) (nh ry) dd λh' dd' hs=>h _ ?_
  have he:∃ q,h'.get? a=some q:=let ⟨q,_,_,hq,_⟩:=dd'; ⟨q,hq⟩
  exact vO I (by rw [e]; exact Vn) hs he (Jg hl hd (rel.put k rv) dd')
 ·subst ey eH
  cases (show u=R1 b from ry)
  obtain ⟨z,hd,xs,rel,dd⟩:=nj I (.inl e) hk
  have hz:xs.length<=sizeLine:=by rw [<- To rel]; exact z
  have hl:(qI kvs k b v).length<=sizeLine:=by have:=qJ kvs k b v; lia
  refine wpAny_setItem_heap (hsz:=hz) (Vw hu) (jk I eb) dd λh' dd' hs=>h _ ?_
  obtain ⟨q,es,ep,hq,h2,h3,h4,_,h5⟩:=dd'
  exact vO I (by rw [e]; exact Vn) hs ⟨q,hq⟩ ⟨hl,hd,_,rel.put k rv,q,es,ep,hq,h2,h3,h4,h5⟩
def Jh (i:Expr):Prop:=∀ ov iv,subscripted i false ov iv=operate [ov,iv] (getItem ov iv)
theorem EL {T id:String}
 (hl:typeLookup (.type T) "__getitem__"=pure (some (.builtin id))) (hs:Jh slice)
 (h:wpAny (model prog w) A (eval value env) (λo s₁=>wpAny (model prog w) A (eval slice env) (λi s₂=>s₂.TypeIs o T/\wpAny (model prog w) A (getItem o i) Q E s₂) E s₁) E s) :
 wpAny (model prog w) A (eval (.Subscript value slice pos) env) Q E s:=by
 refine Subscript_ (Sk h (λo s₁ h₁=>Sk h₁ (λi s₂ h₂=>?_) λ_ _ x=>x) λ_ _ x=>x)
 obtain ⟨hT,h₂⟩:=h₂
 unfold subscriptTail
 refine Rq ?_
 rw [getitemInPython_of_ne hT.not_modules]
 refine Rq (wpAny_specialOf hT hl ?_)
 have fin:wpAny (model prog w) A (subscripted slice false o i) (λr s₃=>wpAny (model prog w) A (letTemporaryGo value o r >>= λ_=>pure r) Q E s₃) E s₂:=by
  rw [hs o i]
  exact wpAny_operating (Sk h₂ (λr s₃ h₃=>Rq (wpAny_letTemporaryGo (Rt h₃))) λ_ _ x=>x)
 first
  | exact Rt (Rq fin)
  | exact Rq (Rt (Rq fin))
  | exact Rq fin
theorem qK (I:Inv X aa σ H s) (g:kL X.K H a y o):s.TypeIs (.ref a) "dict":=by
 rcases g with ⟨kvs,k,e,_,_⟩ | ⟨kvs,k,b,e,hk,_,_,_⟩
 ·obtain ⟨_,_,vs,_,dd⟩:=kK I.hok e
  exact dd.typeIs
 ·obtain ⟨_,_,xs,_,dd⟩:=nj I e hk
  exact dd.typeIs
noncomputable def Ms (X:Cx) (td ty:TE):TE:=λσ H Q=>td σ H λx H1=>ty σ H1 λy H2=>∃ a v,x=.ref a/\kL X.K H2 a y (some v)/\Q v H2
noncomputable def PR (X:Cx) (ty td:TE):TE:=λσ H Q=>ty σ H λy H1=>td σ H1 λx H2=>∃ a o,x=.ref a/\kL X.K H2 a y o/\Q (.bl o.isSome) H2
noncomputable def EM (X:Cx) (ty td:TE):TE:=λσ H Q=>ty σ H λy H1=>td σ H1 λx H2=>∃ a o,x=.ref a/\kL X.K H2 a y o/\Q (.bl (!o.isSome)) H2
noncomputable def Mt (X:Cx) (td ty tv:TE):TS:=λD σ H=>tv σ H λv H1=>td σ H1 λx H2=>ty σ H2 λy H3=>∃ a H4,x=.ref a/\EJ X.K H3 a y v H4/\D.nx σ H4
noncomputable def Mu (X:Cx) (td ty tv:TE) (rd:V->V->Hp->VK->Prop):TS:=λD σ H=>td σ H λx H1=>ty σ H1 λy H2=>∃ a v,x=.ref a/\kL X.K H2 a y (some v) /\
 tv σ H2 λy2 H3=>rd v y2 H3 λz H4=>∃ H5,EJ X.K H4 a y z H5/\D.nx σ H5
theorem EN (hu:X.A.units+1<cLine) (ho:PE X o td) (hi:PE X i ty) (hs:Jh i):PE X (.Subscript o i pos) (Ms X td ty):=by
 intro aa s σ H Q I h
 refine EL PySem.F.slot_dict_getitem.lookup hs (bB (ho aa s σ H _ I h) λu s1 ⟨x,H1,I1,rx,q1⟩=>bB (hi aa s1 σ H1 _ I1 q1) λiv s2 ⟨y,H2,I2,ry,a,v,ex,g,q2⟩=>?_)
 subst ex
 obtain rfl:u=R1 a:=rx
 exact ⟨qK I2 g,nk hu I2 g ry λw' s3 I3 rw'=>⟨v,H2,I3,rw',q2⟩⟩
theorem Ji (hu:X.A.units+1<cLine) (hi:PE X i ty) (ho:PE X o td):PC X .In i o (PR X ty td):=by
 intro aa s σ H Q I h
 refine bB (hi aa s σ H _ I h) λiv s1 ⟨y,H1,I1,ry,q1⟩=>bB (ho aa s1 σ H1 _ I1 q1) λu s2 ⟨x,H2,I2,rx,a,ov,ex,g,q2⟩=>?_
 subst ex
 obtain rfl:u=R1 a:=rx
 exact PN hu I2 g ry λs3 I3=>⟨.bl ov.isSome,H2,I3,rfl,q2⟩
theorem yl (hu:X.A.units+1<cLine) (hi:PE X i ty) (ho:PE X o td):PC X .NotIn i o (EM X ty td):=by
 intro aa s σ H Q I h
 refine bB (hi aa s σ H _ I h) λiv s1 ⟨y,H1,I1,ry,q1⟩=>bB (ho aa s1 σ H1 _ I1 q1) λu s2 ⟨x,H2,I2,rx,a,ov,ex,g,q2⟩=>?_
 subst ex
 obtain rfl:u=R1 a:=rx
 exact EK hu I2 g ry λs3 I3=>⟨.bl (!ov.isSome),H2,I3,rfl,q2⟩
theorem EO (hu:X.A.units+1<cLine) (ho:PE X o td) (hi:PE X i ty) (hv:PE X value tv) (hs:swapsWith value (some (.Subscript o i pos')) pos.line X.env=pure false) :
 PS X (.Assign [.Subscript o i pos'] value pos) (Mt X td ty tv):=by
 intro aa s σ H D I h
 refine wpAny_Assign_Subscript (bB (hv aa s σ H _ I h) λr s1 ⟨v,H1,I1,rv,q1⟩=>bB (ho aa s1 σ H1 _ I1 q1) λu s2 ⟨x,H2,I2,rx,q2⟩=>bB (hi aa s2 σ H2 _ I2 q2) λiv s3 ⟨y,H3,I3,ry,a,H4,ex,g,q3⟩=>?_) hs
 subst ex
 obtain rfl:u=R1 a:=rx
 exact nq hu I3 g ry rv λs4 I4=>⟨σ,H4,I4,q3⟩
theorem ER (hu:X.A.units+1<cLine) (ho:PE X o td) (hi:PE X i ty) (hv:PE X value tv) (hop:Ml X op rd)
 (ha:∀ ov iv new,augStore i ov iv new=(do holding [new,ov,iv] (setItem ov iv new); release [new,ov,iv] []; pure .next)):PS X (.AugAssign (.Subscript o i tpos) op value pos) (Mu X td ty tv rd):=by
 intro aa s σ H D I h
 refine wpAny_AugAssign_SubscriptAny (bB (ho aa s σ H _ I h) λu s1 ⟨x,H1,I1,rx,q1⟩=>bB (hi aa s1 σ H1 _ I1 q1) λiv s2 ⟨y,H2,I2,ry,a,v,ex,g,q2⟩=>?_) ha
 subst ex
 obtain rfl:u=R1 a:=rx
 refine nk hu I2 g ry λw' s3 I3 rw'=>bB (hv aa s3 σ H2 _ I3 q2) λw2 s4 ⟨y2,H3,I4,ry2,q3⟩=>bB (hop aa s4 σ H3 v y2 w' w2 _ I4 rw' ry2 q3) λw3 s5 ⟨z,H4,I5,rz,H5,g5,q4⟩=>?_
 exact nq hu I5 g5 ry rz λs6 I6=>⟨σ,H5,I6,q4⟩
theorem AE (h:Heap) (hb:sysModules<h.objs.size):bu P w H (h.push { cls:=.type "dict",data:=.dict #[] }) h.objs.size (.dK []) :=
 ⟨RY _,beq_eq_false_iff_ne.mpr (RS (RW hb)),[],.nil,Heap.DictOf.new h⟩
theorem AG (h:Heap) (hb:sysModules<h.objs.size):bu P w H (h.push { cls:=.type "dict",data:=.dict #[] }) h.objs.size (.dT []) :=
 ⟨RY _,beq_eq_false_iff_ne.mpr (RS (RW hb)),[],.nil,_,#[],0,RK _ rfl,⟨rfl,rfl,rfl⟩,rfl,rfl,List.nodup_nil⟩
noncomputable def Jj:TE:=λ_ H Q=>∀ p,H p=none->Q (.ref p) (upd H p (.dK []))
noncomputable def Jk:TE:=λ_ H Q=>∀ p,H p=none->Q (.ref p) (upd H p (.dT []))
theorem AH:PE X (.Dict [] [] pos) Jj:=λaa s σ H Q I h =>
 wpAny_Dict_empty ⟨.ref s.heap.objs.size,_,I.laid (a:=s.heap.objs.size) (o:=.dK []) (t':=s.toks) (λ_ _ q=>Rx _ q) (Rv _) (AE s.heap I.big),rfl,h _ (I.hok.fresh (Rv _))⟩
theorem AI:PE X (.Dict [] [] pos) Jk:=λaa s σ H Q I h =>
 wpAny_Dict_empty ⟨.ref s.heap.objs.size,_,I.laid (a:=s.heap.objs.size) (o:=.dT []) (t':=s.toks) (λ_ _ q=>Rx _ q) (Rv _) (AG s.heap I.big),rfl,h _ (I.hok.fresh (Rv _))⟩
structure M1 (X:Cx) (o:Expr) (m:Str) (apos:Pos) (e:Expr) (cpos:Pos):Prop where
 base:attributeBase o m X.env (eval o X.env)=eval o X.env
 few:((backTo cpos (starEach [e] X.env)).all (λx=> !x.1) && (backToKw cpos (keywordEach [] X.env)).all (λx=>x.1.isSome)
  && decide (([e]:List Expr).length+([]:List Keyword).length+(if ([]:List Keyword).isEmpty then 0 else 1)<30))=true
 line:(apos.endLine == cpos.line)=true
 trees:backTo cpos (starEach [e] X.env)=[(false,eval e X.env)]
structure M2 (X:Cx) (o:Expr) (m:Str) (apos:Pos) (e f:Expr) (cpos:Pos):Prop where
 base:attributeBase o m X.env (eval o X.env)=eval o X.env
 few:((backTo cpos (starEach [e,f] X.env)).all (λx=> !x.1) && (backToKw cpos (keywordEach [] X.env)).all (λx=>x.1.isSome)
  && decide (([e,f]:List Expr).length+([]:List Keyword).length+(if ([]:List Keyword).isEmpty then 0 else 1)<30))=true
 line:(apos.endLine == cpos.line)=true
 trees:backTo cpos (starEach [e,f] X.env)=[(false,eval e X.env),(false,eval f X.env)]
def PU (H:Hp) (a:Addr):Prop:=(∃ kvs,Rd H a (.dK kvs))\/∃ kvs,Rd H a (.dT kvs)
theorem Jl (I:Inv X aa σ H s) (d:PU H a) :
 s.TypeIs (.ref a) "dict"/\(∀ b,R1 a=.ref b->∃ ob,s.heap.get? b=some ob/\ob.dict=none)/\(a == sysModules)=false:=by
 rcases d with ⟨kvs,e⟩ | ⟨kvs,e⟩
 ·obtain ⟨_,hd,vs,_,dd⟩:=kK I.hok e
  refine ⟨dd.typeIs,λb q=>?_,hd⟩
  cases q
  obtain ⟨ob,_,_,h1,h2,_⟩:=dd
  exact ⟨ob,h1,h2.2.1⟩
 ·obtain ⟨_,hd,xs,_,ob,es,ep,h1,h2,_⟩:=(show bu X.prog X.w H s.heap a (.dT kvs) from AD I.hok e)
  refine ⟨⟨ob,h1,h2.1⟩,λb q=>?_,hd⟩
  cases q
  exact ⟨ob,h1,h2.2.1⟩
theorem Jm (hu:A.units+1<cLine) (I:Inv X aa σ H s) (g:kL X.K H a y o) (ry:RelV y u) (rd:RelV d r) (h:∀ w' s',Inv X aa σ H s'->RelV (o.getD d) w'->Q w' s') :
 wpAny (model X.prog X.w) A (call (.builtin "dict.get") [.ref a,u,r]) Q E s:=by
 rcases g with ⟨kvs,k,e,ey,l⟩ | ⟨kvs,k,b,e,hk,ey,eb,l⟩
 ·subst ey
  obtain ⟨z,hd,vs,rel,dd⟩:=kK I.hok e
  refine call_meetsIn Xb dd.typeIs PySem.F.entry_dict_get (PySem.F.args_dict_get_3 _ _ _) (meets_dict_get_default (bO X.prog X.w) a (nh ry) hd r) ⟨_,dd.mapOf,h _ _ (I.tok _) ?_⟩
  rw [l]
  exact (rel.val k).getD rd
 ·subst ey
  cases (show u=R1 b from ry)
  obtain ⟨z,hd,xs,rel,dd⟩:=nj I e hk
  refine call_meetsIn Xb dd.typeIs PySem.F.entry_dict_get (PySem.F.args_dict_get_3 _ _ _) (meetsH_dict_get_default (tupleKind (bO X.prog X.w)) a b hd r) ⟨Vw hu,k,xs,jk I eb,dd,h _ _ (I.tok _) ?_⟩
  rw [l]
  exact (rel.val k).getD rd
noncomputable def Jo (X:Cx) (td ty tx:TE):TE:=λσ H Q=>td σ H λx H1=>∃ a,x=.ref a/\PU H1 a/\ty σ H1 λy H2=>tx σ H2 λz H3=>∃ o,kL X.K H3 a y o/\Q (o.getD z) H3
theorem AJ (hu:X.A.units+1<cLine) (ho:PE X o td) (he:PE X e ty) (hf:PE X f tx) (m:M2 X o "get" apos e f cpos):PE X (.Call (.Attribute o "get" apos) [e,f] [] cpos) (Jo X td ty tx):=by
 intro aa s σ H Q I h
 refine Xy m.base m.few m.line PySem.F.plainAttrs_dict Xb PySem.F.type_dict_get (bB (ho aa s σ H _ I h) λu s1 ⟨x,H1,I1,rx,a,ex,d,q1⟩=>?_)
 subst ex
 obtain rfl:u=R1 a:=rx
 obtain ⟨t1,t2,_⟩:=Jl I1 d
 refine ⟨t1,t2,?_⟩
 rw [m.trees]
 refine W9 rfl (Calls.evalArgs_plain (Xv (bB (he aa s1 σ H1 _ I1 q1) λiv s2 ⟨y,H2,I2,ry,q2⟩ =>
  Xv (bB (hf aa s2 σ H2 _ I2 q2) λfv s3 ⟨z,H3,I3,rz,ov,g,q3⟩=>Calls.spliced_nil ?_))))
 exact Jm hu I3 g ry rz λw' s4 I4 rw'=>⟨_,H3,I4,rw',q3⟩
end L2
namespace Att
open PySem PySem.W PySem.Calls PyProof.Rows
theorem jQ:∀ (ns:List Int) (vs:List Value),WellAll P h vs (ns.map WData.int)->IntsAre vs ns:=by
 intro ns
 induction ns with
 | nil =>
  intro vs w
  rw [Ud] at w
  cases w
  exact .nil
 | cons n ns ih =>
  intro vs w
  rw [RC] at w
  cases w with
  | cons a b =>
   cases a
   exact .cons _ _ (ih _ b)
theorem ym {l:OpenLaw} (hn:l.most=some n)
 (hpre:l.row.toRowW.claim.pre args=true) (hwl:WellAll P h vals args) :
 ∃ a vs ns,vals=[R1 a]/\args=[WData.list (ns.map WData.int)]/\h.get? a=some { cls:=.type "list",data:=.seq vs.toArray }/\IntsAre vs ns/\ns.length<=n:=by
 have hsh:WShape.hasAll [] args [.list .int]=true:=(pre_splitW hpre).1
 have hc:l.pre.holds [] { args:=args }=true:=(pre_splitW hpre).2
 obtain ⟨d,r,rfl,h1,h2⟩:=hasAllW_cons hsh
 obtain rfl:=hasAllW_nil h2
 obtain ⟨xs,rfl,h3⟩:=hasW_list h1
 obtain ⟨ns,rfl⟩:=items_int h3
 have hlen:ns.length<=n:=by
  unfold OpenLaw.pre at hc
  have h4:(WTm.not (.lt (.lit (.int (n:Int))) (.len (.arg 0)))).holds [] { args:=[.list (ns.map .int)] }=true:=by
   have h4:=(holds_andW hc).1
   rw [hn] at h4
   exact h4
  have h5:=condW_of h4 (w_not (w_lt w_lit (w_len_list (w_arg rfl))))
  rw [RB] at h5
  refine Nat.le_of_not_lt λq=>?_
  have q':(n:Int)<((ns.length:Nat):Int):=by lia
  first
   | (rw [decide_eq_true q'] at h5; exact absurd h5 (by decide))
   | (simp at h5; lia)
 cases hwl with
 | cons w1 w2 =>
  cases w2
  cases w1 with
  | list ho hall=>exact ⟨_,_,ns,rfl,rfl,ho,jQ ns _ hall,hlen⟩
theorem yo (l:OpenLaw) (args):l.row.toRowW.claim.post args (.bool true) args=true :=
 postW_of (r:=l.row.toRowW) (X:=(true == true))
  (show WShape.has [] (.bool true) .bool=true by first | rfl | decide | simp [WShape.has,WShape.arms,WShape.armsAll])
  (show (WTm.eq .res (.lit (.bool true))).value [] { args:=args,res:=some (.bool true),after:=args }=some (.bool (true == true)) from w_eq_bool (w_res rfl) w_lit) rfl
theorem qL {l:OpenLaw}
 (hn:l.most=some n) (hdf:d.params.defaults=[])
 (call:∀ (w:World) (s₀ s₁:Shared) (mg mb:Str->Option Value) (fa:Addr) (o:Obj) (pm cd doc:Value) (a:Addr) (vs:List Value) (ns:List Int),
   Ground q loose [] XP w s₀ mg mb s₁.heap->YP w s₁.heap ->
   s₁.heap.get? fa=some o->o.data=.func (docDef d.name d.params d.body d.scope pm cd doc)->s₁.heap.CodeRec cd d.name->mg d.name=some (.ref fa) ->
   s₁.heap.get? a=some { cls:=.type "list",data:=.seq vs.toArray }->IntsAre vs ns->ns.length<=n->s₁.gens= #[] ->
   codeAny (model l.prog w) callerA (.call (.ref fa) ⟨[.ref a],[]⟩) (λr s'=>r=.ok (.ret (.bool true))/\OldK s₁.heap s'.heap/\s'.os=s₁.os/\AllBare s'.gens) s₁) :
 WalkO q loose XP YP l.row.toRowW d [] (λf vs=>PySem.call f vs):=by
 intro w s₀ s₁ mg mb G Y fa o pm cd doc dV kV ho hd hcd hD hmg hg args vals as hpre hlay hrd hwl hlo
 obtain rfl:dV=.none:=Dflts.none hD hdf
 obtain rfl:kV=.none:=Dflts.noKw hD
 obtain ⟨a,vs,ns,rfl,rfl,hobj,hints,hlen⟩:=ym hn hpre hwl
 refine enter_call (VJ (call w s₀ s₁ mg mb fa o pm cd doc a vs ns G Y ho (fd_plain hd) hcd hmg hobj hints hlen hg) λr s' hq=>?_)
 obtain ⟨rfl,h2,h3,h4⟩:=hq
 exact ⟨.inl ⟨.bool true,.bool true,[],rfl,λ_=>rfl,.bool true,yo l _,λ_=>⟨VA,λ_ hm=>(nomatch hm)⟩⟩,h2,h3,h4⟩
end Att
namespace L2
open PySem PySem.Spec PyProof.Rows
theorem nv:∀ {vs:List Value} {ns:List Int},IntsAre vs ns->Vals (ns.map V.int) vs
 | _,_,.nil=>.nil
 | _,_,.cons n t h=>.cons ⟨t,rfl⟩ (nv h)
def Jp (H:Hp):Prop:=∀ b,H b=none\/∃ o xs,H b=some (.frz o (.lst xs))
theorem AK {K:Rr}
 (KX:K.In s₁.heap) (hns:s₁.heap.Ns mainGlobals mg) (hb:s₁.heap.Ns builtinsNs mb) (hbb:∀ x:Str,x≠"__name__"->mb x=bootBuiltins x) (hlim:s₁.heap.NoLimit) (hg:s₁.gens= #[])
 (ha:s₁.heap.get? a=some { cls:=.type "list",data:=.seq vs.toArray }) (hi:IntsAre vs ns) (hl:ns.length<=sizeLine) (hr:gJ k callerA)
 (F:∀ base:Heap,K.In base->base.Ns mainGlobals mg->aU P w K mg base CX k fa fd [x] sp) (hbind:∀ (s:Shared) (u:Value),BindsTo s fd ⟨[u],[]⟩ [(x,u)])
 (vB:∀ H:Hp,Jp H->fS K H a (ns.map V.int)->sp [.ref a] H (λv _=>v=.bl true) λ_ _ _=>False)
 (hCX:∀ H e s',CX [] H s₁ (λ_ _ _=>False) e s'->False) :
 codeAny (model P w) callerA (.call (.ref fa) ⟨[.ref a],[]⟩) (λr s'=>r=.ok (.ret (.bool true))/\OldK s₁.heap s'.heap/\s'.os=s₁.os/\AllBare s'.gens) s₁:=by
 have rv:=nv hi
 have lenV:=hi.length
 have core:∀ H:Hp,Jp H->fS K H a (ns.map V.int)->jd P w H s₁.heap->(∀ b,H b≠none->b=a)->(H a≠none->K.lookup a=none) ->
  codeAny (model P w) callerA (.call (.ref fa) ⟨[.ref a],[]⟩) (λr s'=>r=.ok (.ret (.bool true))/\OldK s₁.heap s'.heap/\s'.os=s₁.os/\AllBare s'.gens) s₁:=by
  intro H hO hS hok hA hK
  have base_of:∀ {b:Addr} {o:Obj},s₁.heap.get? b=some o->H b=none->(ou s₁.heap H).get? b=some o:=λe n=>zZ e n
  have noA:∀ {b:Addr} {o:Obj} {es:Array DictEntry} {ep:Nat},s₁.heap.get? b=some o->o.data=.dict es ep->H b=none:=λ{b o es ep} e d=>by
   cases q:H b with
   | none=>rfl
   | some u =>
    have e':b=a:=hA b (by rw [q]; simp)
    subst e'
    rw [ha] at e; cases e
    have d':Data.seq vs.toArray _=Data.dict es ep:=d
    cases d'
  have nsK:∀ {b:Addr} {m:Str->Option Value},s₁.heap.Ns b m->(ou s₁.heap H).Ns b m:=λ{b m} ⟨o,es,ep,e,d,r⟩=>⟨o,es,ep,base_of e (noA e d),d,r⟩
  have hKb:K.In (ou s₁.heap H):=λb o e=>base_of (KX b o e) (by
   cases q:H b with
   | none=>rfl
   | some u =>
    have e':b=a:=hA b (by rw [q]; simp)
    subst e'
    rw [hK (by rw [q]; simp)] at e; cases e)
  have hM:Mod K mg (ou s₁.heap H):=⟨hKb,nsK hns,⟨mb,nsK hb,hbb⟩,let ⟨mc,h1,h2⟩:=hlim; ⟨mc,nsK h1,h2⟩⟩
  have e0:Ez P w K mg (ou s₁.heap H) callerA [] s₁ H:=⟨rfl,hM,λb o e=>En e,Nat.le_of_eq (yd _ _),trivial,λb hb=>absurd (show b∈([]:List Addr) from hb) (by simp),hok,.of_eq hg⟩
  refine VJ ((F _ hKb (nsK hns)).run callerA [] s₁ H ⟨[.ref a],[]⟩ [.ref a] [.ref a] _ _ hr e0 (hbind s₁ (.ref a)) (.cons rfl .nil) (vB H hO hS)) λr s' h=>?_
  cases r with
  | error e=>exact (hCX H e s' h).elim
  | ok fl =>
   cases fl with
   | next=>exact SO h
   | brk=>exact SO h
   | cont=>exact SO h
   | ret u =>
    obtain ⟨v,H',os,bare,un,hok',r',q⟩:=h
    have q':v=.bl true:=q
    subst q'
    obtain rfl:u=Value.bool true:=r'
    refine ⟨rfl,OldK.of_keep λb o e=>?_,os,bare⟩
    cases q:H b with
    | none=>exact un.keep b o e q (by intro z; exact absurd (show b∈([]:List Addr) from z) (by simp)) (by simp)
    | some u =>
     rcases hO b with z | ⟨ob,xs,z⟩
     ·rw [q] at z; cases z
     ·have z2:=un.frzs b ob _ z
      obtain ⟨e1,_⟩:=hok b _ z
      obtain ⟨e2,_⟩:=hok' b _ z2
      rw [e] at e1; cases e1
      exact e2
 cases hk:K.lookup a with
 | some o =>
  have e:=KX a o hk
  rw [ha] at e
  cases e
  refine core (λ_=>none) (λ_=>.inl rfl) (.inr ⟨_,vs.toArray,_,hk,rfl,rfl,rfl,by rw [RP,lenV]; exact hl,by simpa using rv⟩) (λb u z=>by have z':(none:Option HO)=some u:=z; cases z') (λb z=>absurd rfl z) λz=>absurd rfl z
 | none =>
  refine core (λb=>if b=a then some (.frz { cls:=.type "list",data:=.seq vs.toArray } (.lst (ns.map V.int))) else none) (λb=>?_) (.inl (.inr ⟨{ cls:=.type "list",data:=.seq vs.toArray },if_pos rfl⟩)) (λb u z=>?_) (λb z=>?_) λ_=>hk
  ·by_cases hb:b=a
   ·exact .inr ⟨_,_,if_pos hb⟩
   ·exact .inl (if_neg hb)
  ·by_cases hb:b=a
   ·have z':=(if_pos hb).symm.trans z
    cases z'
    subst hb
    exact ⟨ha,by rw [RB]; exact hl,vs,_,rv,ha⟩
   ·have z':=(if_neg hb).symm.trans z
    cases z'
  ·by_cases hb:b=a
   ·exact hb
   ·exact absurd (if_neg hb) z
noncomputable abbrev dz {K:Rr} {h:Heap} (_:K.In h):Rr:=K
theorem ES {l:PySem.W.OpenLaw} {K:Params->Rr} {CX:World->Ja} {sp:World->Sp}
 (hn:l.most=some n) (hn2:n<=sizeLine) (hdf:d.params.defaults=[]) (hr:gJ k callerA)
 (hY:∀ (w:World) (h:Heap),YP w h->(K w.params).In h)
 (F:∀ (w:World) (mg:Str->Option Value) (fa:Addr) (h:Heap),(K w.params).In h->h.Ns mainGlobals mg->mg d.name=some (.ref fa) ->
   ∃ fd:FuncData,(∀ (s:Shared) (u:Value),BindsTo s fd ⟨[u],[]⟩ [(x,u)]) /\
    ∀ base:Heap,(K w.params).In base->base.Ns mainGlobals mg->aU l.prog w (K w.params) mg base (CX w) k fa fd [x] (sp w))
 (vB:∀ (w:World) (H:Hp) (a:Addr) (ns:List Int),ns.length<=n->Jp H->fS (K w.params) H a (ns.map V.int)->sp w [.ref a] H (λv _=>v=.bl true) λ_ _ _=>False)
 (hCX:∀ (w:World) (H:Hp) (s:Shared) (e:Value) (s':Shared),CX w [] H s (λ_ _ _=>False) e s'->False) :
 PySem.W.WalkO q loose XP YP l.row.toRowW d [] (λf vs=>PySem.call f vs):=by
 refine Att.qL hn hdf λw s₀ s₁ mg mb fa o pm cd doc a vs ns G Y ho hd hcd hmg hobj hints hlen hg=>?_
 have KX:=hY w _ Y
 obtain ⟨fd,hb,hF⟩:=F w mg fa _ KX G.T.g hmg
 exact AK KX G.T.g G.T.b G.T.builtins G.T.nolimit hg hobj hints (Rz hlen hn2) hr hF hb (λH hO hS=>vB w H a ns hlen hO hS) λH e s'=>hCX w H s₁ e s'
end L2
namespace L2
open PySem PySem.Spec PyProof.Rows
noncomputable def fG (s:Stmt):Arguments:=match s with
 | .FunctionDef _ a _ _ _ _ _ _ _ _=>a
 | _=>{ posonlyargs:=[],args:=[],vararg:=none,kwonlyargs:=[],kw_defaults:=[],kwarg:=none,defaults:=[] }
noncomputable def aj (s:Stmt):List Stmt:=match s with
 | .FunctionDef _ _ b _ _ _ _ _ _ _=>b
 | _=>[]
noncomputable def aR (s:Stmt):Scope:=match s with
 | .FunctionDef _ _ _ _ _ _ sc _ _ _=>sc
 | _=>{ kind:=.function,names:=[],isGenerator:=false,isCoroutine:=false }
structure cU (K:Rr) (x qual:Str) (st:Stmt) (f:Addr) (fd:FuncData):Prop where
 ex:∃ (oc:Value) (od:Option Addr) (kV doc pm:Value) (an:Option Addr) (cdv ct:Value) (osl:Array (Option Value)),
  fd=Ub x qual (fG st) (aj st) (aR st) .none kV doc pm an cdv ct/\K.lookup f=some ⟨oc,od,.func fd,osl⟩/\Wv K cdv qual=true
 kp:TY K (.ref f)=true
section
variable {K:Rr}
theorem cU.binds {st:Stmt} (F:cU K x qual st f fd)
 (h:∀ (kV doc pm:Value) (an:Option Addr) (cdv ct:Value) (us:List Value),us.length=ps.length->bindArgs (Ub x qual (fG st) (aj st) (aR st) .none kV doc pm an cdv ct) ⟨us,[]⟩=pure (ps.zip us)):Binds K fd ps []:=by
 obtain ⟨oc,od,kV,doc,pm,an,cdv,ct,osl,rfl,lk,hcd⟩:=F.ex
 exact .all (h kV doc pm an cdv ct)
theorem Jq {st:Stmt} {kV doc pm cdv ct:Value} (l:K.lookup f=some ⟨oc,od,.func (Ub x qual (fG st) (aj st) (aR st) .none kV doc pm an cdv ct),osl⟩)
 (c:Wv K cdv qual=true) (k:TY K (.ref f)=true):cU K x qual st f (Ub x qual (fG st) (aj st) (aR st) .none kV doc pm an cdv ct):=⟨⟨oc,od,kV,doc,pm,an,cdv,ct,osl,rfl,l,c⟩,k⟩
end
theorem Mw (hr:gJ k A):A.units+1<cLine:=Tc (Nat.add_le_add_left (by decide:1<=64) _) hr.units
theorem yp (h:n<=1000):n<sizeLine:=Tc h (by decide)
def aN (H H':Hp):Prop:=∀ b o,H b=some o->H' b=some o
theorem aN.refl (H):aN H H:=λ_ _ h=>h
theorem aN.trans (a:aN H H1) (b:aN H1 H2):aN H H2:=λc o h=>b c o (a c o h)
theorem aN.free (e:aN H H') (h:H' l=Option.none):H l=Option.none:=by
 cases q:H l with
 | none=>rfl
 | some o =>
  rw [e l o q] at h
  cases h
theorem aN.seq {K:Rr} (e:aN H H') (h:fS K H a xs):fS K H' a xs:=by
 rcases h with (h | ⟨o,h⟩) | h
 ·exact .inl (.inl (e _ _ h))
 ·exact .inl (.inr ⟨o,e _ _ h⟩)
 ·exact .inr h
section
variable {κ:Type} [DecidableEq κ]
end
end L2
namespace EV
open PySem PySem.Spec PyProof.Rows L2
inductive D where
 | non | bl (b:Bool) | int (i:Int) | str (x:Str) | tup (ds:List D) | lst (ds:List D) | exc (C:Addr)
 | fdK (ks:List Key) (ds:List D) | fdT (ks:List (List Key)) (ds:List D) | adr (a:Addr)
noncomputable def Mx (a C:Addr):Heap->Prop:=λh=>∃ o,h.get? a=some o/\o.cls=.ref C/\∃ vs,o.data=.fields vs
mutual
def Rep (K:Rr) (H:Hp):D->V->Prop
 | .non,v=>v=.non
 | .bl b,v=>v=.bl b
 | .int i,v=>v=.int i
 | .str x,v=>v=.str x
 | .tup ds,v=>∃ a xs,v=.ref a/\dG K H a xs/\ay K H ds xs
 | .lst ds,v=>∃ a xs,v=.ref a/\fS K H a xs/\ay K H ds xs
 | .exc C,v=>∃ a,v=.ref a/\H a=some (.ext (Mx a C))
 | .fdK ks ds,v=>∃ a ys o,v=.ref a/\H a=some (.frz o (.dK ys))/\ys.map (·.1)=ks/\ay K H ds (ys.map (·.2))
 | .fdT ks ds,v=>∃ a ys o,v=.ref a/\H a=some (.frz o (.dT ys))/\ys.map (·.1)=ks/\(∀ y∈ys,dG K H y.2.1 (y.1.map kV))/\ay K H ds (ys.map (·.2.2))
 | .adr a,v=>v=.ref a
def ay (K:Rr) (H:Hp):List D->List V->Prop
 | [],xs=>xs=[]
 | d::ds,xs=>∃ x r,xs=x::r/\Rep K H d x/\ay K H ds r
end
theorem aC {K:Rr} (e:aN H H') (h:dG K H a xs):dG K H' a xs:=by
 rcases h with (h | ⟨o,h⟩) | h
 ·exact .inl (.inl (e _ _ h))
 ·exact .inl (.inr ⟨o,e _ _ h⟩)
 ·exact .inr h
mutual
theorem Rep.mono {K:Rr} {H H':Hp} (e:aN H H'):∀ (d:D) {v:V},Rep K H d v->Rep K H' d v
 | .non,_,h=>by simpa [Rep] using h
 | .bl b,_,h=>by simpa [Rep] using h
 | .int i,_,h=>by simpa [Rep] using h
 | .str x,_,h=>by simpa [Rep] using h
 | .tup ds,_,h=>by
  simp only [Rep] at h |-
  obtain ⟨a,xs,e1,h1,h2⟩:=h
  exact ⟨a,xs,e1,aC e h1,ay.mono e ds h2⟩
 | .lst ds,_,h=>by
  simp only [Rep] at h |-
  obtain ⟨a,xs,e1,h1,h2⟩:=h
  exact ⟨a,xs,e1,e.seq h1,ay.mono e ds h2⟩
 | .exc C,_,h=>by
  simp only [Rep] at h |-
  obtain ⟨a,e1,h1⟩:=h
  exact ⟨a,e1,e _ _ h1⟩
 | .fdK ks ds,_,h=>by
  simp only [Rep] at h |-
  obtain ⟨a,ys,o,e1,h1,h2,h3⟩:=h
  exact ⟨a,ys,o,e1,e _ _ h1,h2,ay.mono e ds h3⟩
 | .fdT ks ds,_,h=>by
  simp only [Rep] at h |-
  obtain ⟨a,ys,o,e1,h1,h2,h3,h4⟩:=h
  exact ⟨a,ys,o,e1,e _ _ h1,h2,λy hy=>aC e (h3 y hy),ay.mono e ds h4⟩
 | .adr a,_,h=>by simpa [Rep] using h
theorem ay.mono {K:Rr} {H H':Hp} (e:aN H H'):∀ (ds:List D) {xs:List V},ay K H ds xs->ay K H' ds xs
 | [],_,h=>by simpa [ay] using h
 | d::ds,_,h=>by
  simp only [ay] at h |-
  obtain ⟨x,r,e1,h1,h2⟩:=h
  exact ⟨x,r,e1,Rep.mono e d h1,ay.mono e ds h2⟩
end
section
variable {K:Rr}
theorem az:Rep K H (.int i) v↔v=.int i:=by simp only [Rep]
theorem dh:Rep K H (.bl i) v↔v=.bl i:=by simp only [Rep]
theorem bL:Rep K H .non v↔v=.non:=by simp only [Rep]
theorem fH:Rep K H (.str i) v↔v=.str i:=by simp only [Rep]
theorem aM:Rep K H (.tup ds) v↔∃ a xs,v=.ref a/\dG K H a xs/\ay K H ds xs:=by simp only [Rep]
theorem aZ:Rep K H (.lst ds) v↔∃ a xs,v=.ref a/\fS K H a xs/\ay K H ds xs:=by simp only [Rep]
theorem gy:Rep K H (.fdK ks ds) v↔∃ a ys o,v=.ref a/\H a=some (.frz o (.dK ys))/\ys.map (·.1)=ks/\ay K H ds (ys.map (·.2)):=by simp only [Rep]
theorem j4:Rep K H (.fdT ks ds) v↔∃ a ys o,v=.ref a/\H a=some (.frz o (.dT ys))/\ys.map (·.1)=ks/\(∀ y∈ys,dG K H y.2.1 (y.1.map kV))/\ay K H ds (ys.map (·.2.2)):=by simp only [Rep]
theorem kM:Rep K H (.adr a) v↔v=.ref a:=by simp only [Rep]
theorem ET:Rep K H (.exc C) v↔∃ a,v=.ref a/\H a=some (.ext (Mx a C)):=by simp only [Rep]
theorem aB:ay K H [] xs↔xs=[]:=by simp only [ay]
theorem aH:ay K H (d::ds) xs↔∃ x r,xs=x::r/\Rep K H d x/\ay K H ds r:=by simp only [ay]
theorem ay.length:∀ {ds:List D} {xs:List V},ay K H ds xs->ds.length=xs.length
 | [],_,h=>by rw [aB] at h; subst h; rfl
 | d::ds,_,h=>by
  rw [aH] at h
  obtain ⟨x,r,rfl,_,h2⟩:=h
  simp [ay.length h2]
theorem ay.get:∀ {ds:List D} {xs:List V} {i:Nat} {d:D},ay K H ds xs->ds[i]?=some d->∃ x,xs[i]?=some x/\Rep K H d x
 | [],_,_,_,_,e=>by simp at e
 | d::ds,_,i,d',h,e=>by
  rw [aH] at h
  obtain ⟨x,r,rfl,h1,h2⟩:=h
  cases i with
  | zero=>simp at e; subst e; exact ⟨x,by simp,h1⟩
  | succ i =>
   obtain ⟨y,e2,h3⟩:=ay.get (i:=i) (d:=d') h2 (by simpa using e)
   exact ⟨y,by simpa using e2,h3⟩
theorem ay.get':∀ {ds:List D} {xs:List V} {i:Nat} {x:V},ay K H ds xs->xs[i]?=some x->∃ d,ds[i]?=some d/\Rep K H d x:=λ{ds xs i x} h e=>by
 have hl:=h.length
 have hi:i<xs.length:=(RJ.mp e).1
 obtain ⟨y,e2,h2⟩:=h.get (i:=i) (d:=ds[i]'(by lia)) (by simp)
 rw [e] at e2; cases e2
 exact ⟨_,by simp,h2⟩
theorem ay.append:∀ {ds es:List D} {xs ys:List V},ay K H ds xs->ay K H es ys->ay K H (ds++es) (xs++ys)
 | [],_,_,_,h,g=>by rw [aB] at h; subst h; exact g
 | d::ds,_,_,_,h,g=>by
  rw [aH] at h
  obtain ⟨x,r,rfl,h1,h2⟩:=h
  exact aH.mpr ⟨x,r++_,rfl,h1,ay.append h2 g⟩
theorem ay.drop:∀ (n:Nat) {ds:List D} {xs:List V},ay K H ds xs->ay K H (ds.drop n) (xs.drop n)
 | 0,_,_,h=>h
 | n+1,[],_,h=>by rw [aB] at h; subst h; exact aB.mpr rfl
 | n+1,d::ds,_,h=>by
  rw [aH] at h
  obtain ⟨x,r,rfl,h1,h2⟩:=h
  exact ay.drop n h2
theorem ay.take:∀ (n:Nat) {ds:List D} {xs:List V},ay K H ds xs->ay K H (ds.take n) (xs.take n)
 | 0,_,_,h=>aB.mpr rfl
 | n+1,[],_,h=>by rw [aB] at h; subst h; exact aB.mpr rfl
 | n+1,d::ds,_,h=>by
  rw [aH] at h
  obtain ⟨x,r,rfl,h1,h2⟩:=h
  exact aH.mpr ⟨x,r.take n,rfl,h1,ay.take n h2⟩
theorem ay.dropLast (h:ay K H ds xs):ay K H ds.dropLast xs.dropLast:=by
 rw [Xd,Xd,h.length]; exact h.take _
theorem ay.one (h:Rep K H d v):ay K H [d] [v]:=aH.mpr ⟨v,[],rfl,h,aB.mpr rfl⟩
theorem ay.cons (h:Rep K H d v) (t:ay K H ds xs):ay K H (d::ds) (v::xs):=aH.mpr ⟨v,xs,rfl,h,t⟩
theorem ny:∀ (ns:List Int),ay K H (ns.map D.int) (ns.map V.int)
 | []=>aB.mpr rfl
 | n::ns=>.cons (az.mpr rfl) (ny ns)
end
inductive Sh where
 | v (d:D) | l (ds:List D) | la (a:Addr) (ds:List D) | t (ss:List Sh) | ls (ss:List Sh)
noncomputable def pl (p:Addr) (xs:List V):HO:=.ext λh=>xs.length<=sizeLine/\∃ (its:List Value) (n:Nat),Vals xs its/\h.get? p=some { cls:=.type "list",data:=.seq its.toArray n }
mutual
def dN (K:Rr) (H Hf:Hp):Sh->V->List (Addr×List V)->Prop
 | .v d,v,fp=>Rep K Hf d v/\fp=[]
 | .l ds,v,fp=>∃ p xs,v=.ref p/\H p=some (pl p xs)/\Hf p=none/\ay K Hf ds xs/\fp=[(p,xs)]
 | .la p ds,v,fp=>∃ xs,v=.ref p/\H p=some (pl p xs)/\Hf p=none/\ay K Hf ds xs/\fp=[(p,xs)]
 | .t ss,v,fp=>∃ a xs,v=.ref a/\dG K Hf a xs/\bh K H Hf ss xs fp
 | .ls ss,v,fp=>∃ p xs fq,v=.ref p/\H p=some (pl p xs)/\Hf p=none/\bh K H Hf ss xs fq/\fp=(p,xs)::fq
def bh (K:Rr) (H Hf:Hp):List Sh->List V->List (Addr×List V)->Prop
 | [],xs,fp=>xs=[]/\fp=[]
 | s::ss,xs,fp=>∃ x r f1 f2,xs=x::r/\dN K H Hf s x f1/\bh K H Hf ss r f2/\fp=f1++f2
end
def AL (H:Hp) (q:Addr):Prop:=∃ xs,H q=some (pl q xs)
mutual
theorem dN.mv {K:Rr} {H Hf H' aq:Hp} (sf:aN Hf aq):∀ (s:Sh) {v:V} {fp:List (Addr×List V)},(∀ q∈fp,H q.1=some (pl q.1 q.2)->Hf q.1=none->H' q.1=some (pl q.1 q.2)/\aq q.1=none)->dN K H Hf s v fp->dN K H' aq s v fp
 | .v d,_,_,_,h=>by simp only [dN] at h |-; exact ⟨h.1.mono sf d,h.2⟩
 | .l ds,_,_,hk,h=>by
  simp only [dN] at h |-
  obtain ⟨p,xs,e,h1,h2,h3,rfl⟩:=h
  obtain ⟨q1,q2⟩:=hk _ RD h1 h2
  exact ⟨p,xs,e,q1,q2,h3.mono sf ds,rfl⟩
 | .la p ds,_,_,hk,h=>by
  simp only [dN] at h |-
  obtain ⟨xs,e,h1,h2,h3,rfl⟩:=h
  obtain ⟨q1,q2⟩:=hk _ RD h1 h2
  exact ⟨xs,e,q1,q2,h3.mono sf ds,rfl⟩
 | .t ss,_,_,hk,h=>by
  simp only [dN] at h |-
  obtain ⟨a,xs,e,h1,h2⟩:=h
  exact ⟨a,xs,e,aC sf h1,bh.mv sf ss hk h2⟩
 | .ls ss,_,_,hk,h=>by
  simp only [dN] at h |-
  obtain ⟨p,xs,fq,e,h1,h2,h3,rfl⟩:=h
  obtain ⟨q1,q2⟩:=hk _ RD h1 h2
  exact ⟨p,xs,fq,e,q1,q2,bh.mv sf ss (λq hq=>hk q (RH _ hq)) h3,rfl⟩
theorem bh.mv {K:Rr} {H Hf H' aq:Hp} (sf:aN Hf aq):∀ (ss:List Sh) {xs:List V} {fp:List (Addr×List V)},(∀ q∈fp,H q.1=some (pl q.1 q.2)->Hf q.1=none->H' q.1=some (pl q.1 q.2)/\aq q.1=none)->bh K H Hf ss xs fp->bh K H' aq ss xs fp
 | [],_,_,_,h=>by simpa only [bh] using h
 | s::ss,_,_,hk,h=>by
  simp only [bh] at h |-
  obtain ⟨x,r,f1,f2,e,h1,h2,rfl⟩:=h
  exact ⟨x,r,f1,f2,e,dN.mv sf s (λq hq=>hk q (V8 _ hq)) h1,bh.mv sf ss (λq hq=>hk q (S6 _ hq)) h2,rfl⟩
end
inductive Sl where
 | un
 | va (d:D)
 | ow (ds:List D)
 | oT (kvs:List (List Key×D))
 | oK (kvs:List (Key×D))
 | aw (a:Addr) (ds:List D)
 | aT (a:Addr) (kvs:List (List Key×D))
 | aK (a:Addr) (kvs:List (Key×D))
 | fo (s:Sh)
noncomputable def mq (K:Rr) (H:Hp) {κ:Type}:List (κ×D)->List (κ×V)->Prop:=Paired λa b=>a.1=b.1/\Rep K H a.2 b.2
theorem mq.mono {K:Rr} (e:aN H H') (h:mq K H ks xs):mq K H' ks xs :=
 Paired.Io h λa b z=>⟨z.1,Rep.mono e _ z.2⟩
noncomputable def mw (K:Rr) (H:Hp):List (List Key×D)->List (List Key×Addr×V)->Prop:=Paired λa b=>a.1=b.1/\dG K H b.2.1 (a.1.map kV)/\Rep K H a.2 b.2.2
theorem mw.mono {K:Rr} (e:aN H H') (h:mw K H ks xs):mw K H' ks xs :=
 Paired.Io h λa b z=>⟨z.1,aC e z.2.1,Rep.mono e _ z.2.2⟩
noncomputable def br (K:Rr) (fr:Addr->Prop) (H Hf:Hp):Sl->V->Prop
 | .un,_=>False
 | .va d,v=>Rep K Hf d v
 | .ow ds,v=>∃ p xs,v=.ref p/\fr p/\H p=some (.lst xs)/\Hf p=none/\ay K Hf ds xs
 | .oT kvs,v=>∃ p xs,v=.ref p/\fr p/\H p=some (.dT xs)/\Hf p=none/\mw K Hf kvs xs
 | .oK kvs,v=>∃ p xs,v=.ref p/\fr p/\H p=some (.dK xs)/\Hf p=none/\mq K Hf kvs xs
 | .aw a ds,v=>∃ p xs,v=.ref p/\(fr p/\p=a)/\H p=some (.lst xs)/\Hf p=none/\ay K Hf ds xs
 | .aT a kvs,v=>∃ p xs,v=.ref p/\(fr p/\p=a)/\H p=some (.dT xs)/\Hf p=none/\mw K Hf kvs xs
 | .aK a kvs,v=>∃ p xs,v=.ref p/\(fr p/\p=a)/\H p=some (.dK xs)/\Hf p=none/\mq K Hf kvs xs
 | .fo s,v=>∃ fp,dN K H Hf s v fp/\(fp.map (·.1)).Nodup/\∀ a∈fp,fr a.1
noncomputable def Sl.owned:Sl->Bool
 | .ow _=>true | .oT _=>true | .oK _=>true | .aw _ _=>true | .aT _ _=>true | .aK _ _=>true | _=>false
structure bx (H Hf H' aq:Hp):Prop where
 s:aN H H'
 f:aN Hf aq
 b:aN aq H'
 n:∀ b,Hf b=none->H b≠none->(∀ xs,H b≠some (.tup xs))->aq b=none
theorem bx.refl (b:aN Hf H):bx H Hf H Hf:=⟨.refl _,.refl _,b,λ_ h _ _=>h⟩
theorem bx.trans (a:bx H Hf H1 aQ) (b:bx H1 aQ H2 cL):bx H Hf H2 cL :=
 ⟨a.s.trans b.s,a.f.trans b.f,b.b,λc h1 h2 h3=>by
   cases q:H c with
   | none=>exact absurd q h2
   | some o =>
    have e:=a.s c o q
    exact b.n c (a.n c h1 h2 h3) (by rw [e]; simp) (by intro xs; rw [e,<- q]; exact h3 xs)⟩
theorem bx.new (b:aN Hf H) (hp:H p=none):bx H Hf (upd H p o) (upd Hf p o):=by
 have hf:Hf p=none:=b.free hp
 refine ⟨λc u h=>?_,λc u h=>?_,λc u h=>?_,λc h1 h2 _=>?_⟩
 ·rw [av (aF h hp)]; exact h
 ·rw [av (aF h hf)]; exact h
 ·by_cases e:c=p
  ·subst e; rw [af] at h |-; exact h
  ·rw [av e] at h |-; exact b c u h
 ·by_cases e:c=p
  ·subst e; exact absurd hp h2
  ·rw [av e]; exact h1
theorem bx.fJ (b:aN Hf H) (hp:H p=none):bx H Hf (upd H p o) Hf :=
 ⟨(bx.new b hp (o:=o)).s,.refl _,λc u h=>(bx.new b hp (o:=o)).s c u (b c u h),λ_ h _ _=>h⟩
inductive At {α:Type}:List α->Nat->α->Prop where
 | z {x:α} {l:List α}:At (x::l) 0 x
 | s {x y:α} {l:List α} {i:Nat}:At l i x->At (y::l) (i+1) x
theorem At.get (h:At l i x):l[i]?=some x:=by
 induction h with
 | z=>rfl
 | s _ ih=>simpa using ih
theorem At.mem (h:At l i x):x∈l:=TH h.get
inductive SSet {α:Type}:List α->Nat->α->List α->Prop where
 | z {x r:α} {l:List α}:SSet (x::l) 0 r (r::l)
 | s {r y:α} {l l':List α} {i:Nat}:SSet l i r l'->SSet (y::l) (i+1) r (y::l')
theorem SSet.eq (h:SSet l i r l'):l'=l.set i r:=by
 induction h with
 | z=>rfl
 | s _ ih=>simp [ih]
structure eT (K:Rr) (H₀ eY:Hp) (σ:L2.St) (H Hf:Hp) (ρ:List Sl):Prop where
 bas:bx H₀ eY H Hf
 len:σ.length=ρ.length
 at_:∀ (i:Nat) (r:Sl),ρ[i]?=some r->r≠.un->∃ v,σ[i]?=some (some v)/\br K (λp=>H₀ p=none) H Hf r v
 sep:∀ (i j:Nat) (r r':Sl) (p:Addr),i≠j->ρ[i]?=some r->ρ[j]?=some r'->r.owned=true->r'.owned=true->σ[i]?=some (some (.ref p))->σ[j]?≠some (some (.ref p))
structure Mz (P:Program) (w:World) (outer:List Env) (H:Hp) (s:Shared) (a C:Addr) (H':Hp) (s':Shared):Prop where
 os:s'.os=s.os
 bare:AllBare s'.gens
 un:Un (frs outer) [] H H' s.heap s'.heap
 hok:jd P w H' s'.heap
 new:s.heap.get? a=none
 free:H' a=none
 fly:∃ (t:Addr) (B:Heap),Heap.FlyingW B outer a (.ref C) (.ref t) s'.heap/\(∀ b o,s.heap.get? b=some o->b∉frs outer->∃ o',s'.heap.get? b=some o'/\B.get? b=some o') /\
  ∀ b o,H' b≠none->s'.heap.get? b=some o->B.get? b=some o
noncomputable def cF (P:Program) (w:World):Ja:=λouter H s E e s'=>∃ a C H',e=.ref a/\Mz P w outer H s a C H' s'/\E (.ref C) (some a) H'
set_option genInjectivity false in
structure Ctx (P:Program) (w:World) (K:Rr) (mg:Str->Option Value) (base:Heap) (k:Nat) (N:List Str) (sc:Scope) (bk:Bool) where
 X:Cx
 eP:X.prog=P
 ew:X.w=w
 eK:X.K=K
 emg:X.mg=mg
 eb:X.base=base
 eN:X.N=N
 esc:X.env.scope=sc
 calm:X.calm=true
 top:bk=false->X.stack=X.env::X.outer/\X.env.frame=some X.env.locals/\X.ex=[]
 cb:bk=false->∀ (aa:List (Addr×Obj)) (σ:L2.St) (H:Hp) (s:Shared),Inv X aa σ H s->∀ (x:Str) (c:Addr),X.env.cells.lookup x=some c->X.s₀.heap.objs.size<=c
 fn:∀ x,bk=false\/sc.names.lookup x=some .local->X.fn x=true\/X.env.scope.names.lookup x=some .local
 room:gJ k X.A
 nd:N.Nodup
 vis:∀ x∈N,Loc sc x
 Hf:Hp
 B:Hp
 RX:Addr->List Sl->Prop
 exc:∀ (C a:Addr) (aa:List (Addr×Obj)) (σ:L2.St) (H aq:Hp) (ρ:List Sl) (s:Shared) (H':Hp) (s':Shared),Inv X aa σ H s->eT X.K B Hf σ H aq ρ->RX C ρ->Mz X.prog X.w X.stack H s a C H' s'->aN H H'->X.xe (.ref a) s'
 RM:Addr->List Sl->Prop
 mde:∀ (C a:Addr) (aa:List (Addr×Obj)) (σ:L2.St) (H aq:Hp) (ρ:List Sl) (s:Shared) (h':Heap) (us:List Value),Inv X aa σ H s->eT X.K B Hf σ H aq ρ->RM C ρ->Heap.MadeExcOf s.heap h' a (.ref C) us->X.xe (.ref a) { s with heap:=h' }
noncomputable def Sl.Q9:Sl->Bool | .fo _=>true | _=>false
abbrev qp {α:Type} (fr:Addr->Prop) (H Hf:Hp) (o:α->HO) (R:α->Prop) (v:V):Prop:=∃ (p:Addr) (xs:α),v=.ref p/\fr p/\H p=some (o xs)/\Hf p=none/\R xs
theorem qp.LJ (h:qp fr H Hf o R v) (hk:∀ p,v=.ref p->∀ u,(∀ ys,u≠.tup ys)->H p=some u->Hf p=none->H' p=some u/\aq p=none) (ho:∀ xs ys,o xs≠.tup ys) (hR:∀ xs,R xs->R' xs):qp fr H' aq o R' v:=by
 obtain ⟨p,xs,e,f,h1,h2,h3⟩:=h
 exact ⟨p,xs,e,f,(hk p e _ (ho xs) h1 h2).1,(hk p e _ (ho xs) h1 h2).2,hR xs h3⟩
theorem qp.LK (h:qp fr H Hf o R v) (hf:∀ p,fr p->fr' p):qp fr' H Hf o R v :=
 let ⟨p,xs,e,f,h⟩:=h; ⟨p,xs,e,hf p f,h⟩
theorem br.mv {K:Rr} {B:Addr->Prop} (sf:aN Hf aq) (hk:∀ q o,¬ B q->H q=some o->(∀ xs,o≠.tup xs)->Hf q=none->H' q=some o/\aq q=none):∀ {r:Sl} {v:V},
 (r.Q9=true->∀ q,B q->¬ AL H q)->(r.owned=true->∀ q,v=.ref q->¬ B q)->br K fr H Hf r v->br K fr H' aq r v
 | .un,_,_,_,h=>h
 | .va d,_,_,_,h=>Rep.mono sf d h
 | .ow ds,_,_,hv,h=>qp.LJ h (λp e o z ho hf=>hk p o (hv rfl p e) ho z hf) (λ_ _ z=>by cases z) λ_ h=>h.mono sf
 | .oT kvs,_,_,hv,h=>qp.LJ h (λp e o z ho hf=>hk p o (hv rfl p e) ho z hf) (λ_ _ z=>by cases z) λ_ h=>h.mono sf
 | .oK kvs,_,_,hv,h=>qp.LJ h (λp e o z ho hf=>hk p o (hv rfl p e) ho z hf) (λ_ _ z=>by cases z) λ_ h=>h.mono sf
 | .aw a ds,_,_,hv,h=>qp.LJ h (λp e o z ho hf=>hk p o (hv rfl p e) ho z hf) (λ_ _ z=>by cases z) λ_ h=>h.mono sf
 | .aT a kvs,_,_,hv,h=>qp.LJ h (λp e o z ho hf=>hk p o (hv rfl p e) ho z hf) (λ_ _ z=>by cases z) λ_ h=>h.mono sf
 | .aK a kvs,_,_,hv,h=>qp.LJ h (λp e o z ho hf=>hk p o (hv rfl p e) ho z hf) (λ_ _ z=>by cases z) λ_ h=>h.mono sf
 | .fo s,_,hB,_,⟨fp,h1,h2,h3⟩=>⟨fp,dN.mv sf s (λq _ e1 e2=>hk q.1 _ (λb=>hB rfl q.1 b ⟨q.2,e1⟩) e1 (by intro ys z; cases z) e2) h1,h2,h3⟩
theorem br.cG {K:Rr} (g:bx H Hf H' aq) (h:br K fr H Hf r v):br K fr H' aq r v :=
 br.mv (B:=λ_=>False) g.f (λq o _ e1 e2 e3=>⟨g.s _ _ e1,g.n q e3 (by rw [e1]; simp) λxs z=>e2 xs (by rw [e1] at z; exact TJ z)⟩) (λ_ _ z=>z.elim) (λ_ _ _ z=>z) h
theorem br.weak {K:Rr} (hf:∀ p,fr p->fr' p):∀ {r:Sl} {v:V},br K fr H Hf r v->br K fr' H Hf r v
 | .un,_,h=>h
 | .va d,_,h=>h
 | .ow ds,_,h=>qp.LK h hf
 | .oT ds,_,h=>qp.LK h hf
 | .oK ds,_,h=>qp.LK h hf
 | .aw a ds,_,h=>qp.LK h λp f=>⟨hf p f.1,f.2⟩
 | .aT a ds,_,h=>qp.LK h λp f=>⟨hf p f.1,f.2⟩
 | .aK a ds,_,h=>qp.LK h λp f=>⟨hf p f.1,f.2⟩
 | .fo s,_,⟨fp,h1,h2,h3⟩=>⟨fp,h1,h2,λa ha=>hf _ (h3 a ha)⟩
section
variable {K:Rr}
def Ctx.fr (c:Ctx P w K mg base k N sc bk) (p:Addr):Prop:=c.B p=none
abbrev bw (c:Ctx P w K mg base k N sc bk) (σ:L2.St) (H Hf:Hp) (ρ:List Sl):Prop:=eT c.X.K c.B c.Hf σ H Hf ρ
theorem eT.cG (S:eT K H₀ eY σ H Hf ρ) (g:bx H Hf H' aq):eT K H₀ eY σ H' aq ρ :=
 ⟨S.bas.trans g,S.len,λi r h hr=>let ⟨v,e,q⟩:=S.at_ i r h hr; ⟨v,e,q.cG g⟩,S.sep⟩
theorem eT.sb (S:eT K H₀ eY σ H Hf ρ):aN Hf H:=S.bas.b
theorem eT.va (S:eT K H₀ eY σ H Hf ρ) {i:Nat} (h:ρ[i]?=some (.va d)):∃ v,σ[i]?=some (some v)/\Rep K Hf d v:=S.at_ i _ h (by simp)
theorem eT.set (S:eT K H₀ eY σ H Hf ρ) (g:bx H Hf H1 aQ) (hr:br K (λp=>H p=none) H1 aQ r v) :
 eT K H₀ eY (σ.set i (some v)) H1 aQ (ρ.set i r):=by
 have S1:=S.cG g
 have fr0:∀ p,H p=none->H₀ p=none:=λp h=>S.bas.s.free h
 have fresh:∀ p,r.owned=true->v=.ref p->H p=none:=λp ho e=>by
  subst e
  cases r with
  | un=>cases ho
  | va d=>cases ho
  | ow ds=>obtain ⟨p',xs,e,h,_⟩:=hr; cases e; exact h
  | oT ds=>obtain ⟨p',xs,e,h,_⟩:=hr; cases e; exact h
  | oK ds=>obtain ⟨p',xs,e,h,_⟩:=hr; cases e; exact h
  | aw a ds=>obtain ⟨p',xs,e,h,_⟩:=hr; cases e; exact h.1
  | aT a ds=>obtain ⟨p',xs,e,h,_⟩:=hr; cases e; exact h.1
  | aK a ds=>obtain ⟨p',xs,e,h,_⟩:=hr; cases e; exact h.1
  | fo s=>cases ho
 have old:∀ (j:Nat) (r':Sl) (p:Addr),ρ[j]?=some r'->r'.owned=true->σ[j]?=some (some (.ref p))->H p≠none:=λj r' p h ho hs=>by
  obtain ⟨v',e,q⟩:=S.at_ j r' h (by rintro rfl; cases ho)
  rw [hs] at e; cases e
  cases r' with
  | un=>cases ho
  | va d=>cases ho
  | ow ds=>obtain ⟨p',xs,e,_,h,_⟩:=q; cases e; rw [h]; simp
  | oT ds=>obtain ⟨p',xs,e,_,h,_⟩:=q; cases e; rw [h]; simp
  | oK ds=>obtain ⟨p',xs,e,_,h,_⟩:=q; cases e; rw [h]; simp
  | aw a ds=>obtain ⟨p',xs,e,_,h,_⟩:=q; cases e; rw [h]; simp
  | aT a ds=>obtain ⟨p',xs,e,_,h,_⟩:=q; cases e; rw [h]; simp
  | aK a ds=>obtain ⟨p',xs,e,_,h,_⟩:=q; cases e; rw [h]; simp
  | fo s=>cases ho
 refine ⟨S1.bas,by simp [S.len],λj r' hj hu=>?_,λj j' r1 r2 p hne h1 h2 o1 o2 e1 e2=>?_⟩
 ·by_cases q:j=i
  ·subst q
   have hi:j<ρ.length:=by
    have:=(RJ.mp hj).1
    simpa using this
   rw [SQ hi] at hj; cases hj
   exact ⟨v,SQ (by rw [S.len]; exact hi),hr.weak fr0⟩
  ·rw [SS (RS q)] at hj |-
   exact S1.at_ j r' hj hu
 ·have hlt:∀ {j:Nat} {r:Sl},(ρ.set i r)[j]?=some r->j<ρ.length:=λ{j r} h=>by
   have:=(RJ.mp h).1
   simpa using this
  by_cases q1:j=i
  ·subst q1
   have hi:j<ρ.length:=by have:=(RJ.mp h1).1; simpa using this
   rw [SQ hi] at h1; cases h1
   rw [SQ (by rw [S.len]; exact hi)] at e1
   rw [SS hne] at h2 e2
   exact old j' r2 p h2 o2 e2 (fresh p o1 (by simpa using e1))
  ·by_cases q2:j'=i
   ·subst q2
    have hi:j'<ρ.length:=by have:=(RJ.mp h2).1; simpa using this
    rw [SQ hi] at h2; cases h2
    rw [SQ (by rw [S.len]; exact hi)] at e2
    rw [SS (RS hne)] at h1 e1
    exact old j r1 p h1 o1 e1 (fresh p o2 (by simpa using e2))
   ·rw [SS (RS q1)] at h1 e1
    rw [SS (RS q2)] at h2 e2
    exact S.sep j j' r1 r2 p hne h1 h2 o1 o2 e1 e2
theorem eT.weak (S:eT K H₀ eY σ H Hf ρ) (hl:ρ'.length=ρ.length) (h:∀ (i:Nat) (r:Sl),ρ'[i]?=some r->r≠.un->ρ[i]?=some r):eT K H₀ eY σ H Hf ρ' :=
 ⟨S.bas,by rw [S.len,hl],λi r e hu=>S.at_ i r (h i r e hu) hu,λi j r r' p hne h1 h2 o1 o2=>S.sep i j r r' p hne (h i r h1 (by rintro rfl; cases o1)) (h j r' h2 (by rintro rfl; cases o2)) o1 o2⟩
end
section
variable {P:Program} {w:World} {K:Rr} {mg:Str->Option Value} {base:Heap} {k:Nat} {N:List Str} {sc:Scope} {bk:Bool}
noncomputable def bE (X:Cx) (e:Expr):TE:=λσ H Q=>∀ aa s,Inv X aa σ H s->wpAny (model X.prog X.w) X.A (eval e X.env) (EP X aa σ Q) X.xe s
theorem cQ:PE X e (bE X e):=λaa s σ H Q I h=>h aa s I
theorem bK (h:PE X e t) (q:t σ H Q):bE X e σ H Q:=λaa s I=>h aa s σ H Q I q
noncomputable def bT (X:Cx) (e:Expr):TT:=λσ H Q=>∀ aa s,Inv X aa σ H s->wpAny (model X.prog X.w) X.A (isTrue e X.env (eval e X.env)) (TP X aa σ Q) X.xe s
theorem G6:PT X e (bT X e):=λaa s σ H Q I h=>h aa s I
theorem kN (h:PT X e t) (q:t σ H Q):bT X e σ H Q:=λaa s I=>h aa s σ H Q I q
noncomputable def bA (X:Cx) (es:List Expr):TA:=λσ H Q=>∀ pos aa s,Inv X aa σ H s->wpAny (model X.prog X.w) X.A (spliced (backTo pos (starEach es X.env))) (AP X aa σ Q) X.xe s
theorem Jr:PA X es (bA X es):=λpos aa s σ H Q I h=>h pos aa s I
theorem AM (h:PA X es t) (q:t σ H Q):bA X es σ H Q:=λpos aa s I=>h pos aa s σ H Q I q
noncomputable def bS (X:Cx) (st:Stmt):TS:=λD σ H=>∀ aa s,Inv X aa σ H s->wpAny (model X.prog X.w) X.A (exec st X.env) (SP X aa D) X.xe s
theorem Ra {st:Stmt}:PS X st (bS X st):=λaa s σ H D I h=>h aa s I
theorem eU {st:Stmt} (h:PS X st t) {D:Ends} (q:t D σ H):bS X st D σ H:=λaa s I=>h aa s σ H D I q
noncomputable def LL (X:Cx) (st:List Stmt):TS:=λD σ H=>∀ aa s,Inv X aa σ H s->wpAny (model X.prog X.w) X.A (execs st X.env) (SP X aa D) X.xe s
theorem ud {st:List Stmt}:tQ X st (LL X st):=λaa s σ H D I h=>h aa s I
theorem AN {st:List Stmt} (h:tQ X st t) {D:Ends} (q:t D σ H):LL X st D σ H:=λaa s I=>h aa s σ H D I q
noncomputable def bG (X:Cx) (tg:Expr):TG:=λv σ H Q=>∀ aa s u,Inv X aa σ H s->RelV v u->wpAny (model X.prog X.w) X.A (assign tg X.env u) (λ_ s'=>∃ σ' H',Inv X aa σ' H' s'/\Q σ' H') X.xe s
theorem Rc:PG X tg (bG X tg):=λaa s σ H v u Q I r h=>h aa s u I r
theorem AO (h:PG X tg t) (q:t v σ H Q):bG X tg v σ H Q:=λaa s u I r=>h aa s σ H v u Q I r q
variable (c:Ctx P w K mg base k N sc bk)
def dD (e:Expr) (ρ:List Sl) (R:Sl->Prop):Prop :=
 ∀ (σ:L2.St) (H Hf:Hp) (Q:VK),bw c σ H Hf ρ->(∀ r v H' aq,R r->br c.X.K (λp=>H p=none) H' aq r v->bx H Hf H' aq->Q v H')->bE c.X e σ H Q
def aG (e:Expr) (ρ:List Sl) (R:D->Prop):Prop :=
 ∀ (σ:L2.St) (H Hf:Hp) (Q:VK),bw c σ H Hf ρ->(∀ d v H' aq,R d->Rep c.X.K aq d v->bx H Hf H' aq->Q v H')->bE c.X e σ H Q
def je (e:Expr) (ρ:List Sl) (R:Bool->Prop):Prop :=
 ∀ (σ:L2.St) (H Hf:Hp) (Q:Bool->Hp->Prop),bw c σ H Hf ρ->(∀ b H' aq,R b->bx H Hf H' aq->Q b H')->bT c.X e σ H Q
def qM (es:List Expr) (ρ:List Sl) (R:List D->Prop):Prop :=
 ∀ (σ:L2.St) (H Hf:Hp) (Q:List V->Hp->Prop),bw c σ H Hf ρ->(∀ ds vs H' aq,R ds->ay c.X.K aq ds vs->bx H Hf H' aq->Q vs H')->bA c.X es σ H Q
structure Pt where
 rt:Sl->Prop
 bk:List Sl->Prop:=λ_=>False
 ct:List Sl->Prop:=λ_=>False
structure AQ (nx:List Sl->Prop) (p:Pt) (D:Ends):Prop where
 nx:∀ σ H Hf ρ,bw c σ H Hf ρ->nx ρ->D.nx σ H
 rt:∀ r v H Hf,bx c.B c.Hf H Hf->br c.X.K c.fr H Hf r v->p.rt r->D.rt v H
 bk:∀ σ H Hf ρ,bw c σ H Hf ρ->p.bk ρ->D.bk σ H
 ct:∀ σ H Hf ρ,bw c σ H Hf ρ->p.ct ρ->D.ct σ H
def fX (st:Stmt) (ρ:List Sl) (nx:List Sl->Prop) (p:Pt):Prop :=
 ∀ (σ:L2.St) (H Hf:Hp) (D:Ends),bw c σ H Hf ρ->AQ c nx p D->bS c.X st D σ H
def aE (st:List Stmt) (ρ:List Sl) (nx:List Sl->Prop) (p:Pt):Prop :=
 ∀ (σ:L2.St) (H Hf:Hp) (D:Ends),bw c σ H Hf ρ->AQ c nx p D->LL c.X st D σ H
def oQ (tg:Expr) (d:D) (ρ:List Sl) (R:List Sl->Prop):Prop :=
 ∀ (σ:L2.St) (H Hf:Hp) (v:V) (Q:L2.St->Hp->Prop),bw c σ H Hf ρ->Rep c.X.K Hf d v->(∀ σ' H' aq ρ',bw c σ' H' aq ρ'->bx H Hf H' aq->R ρ'->Q σ' H')->bG c.X tg v σ H Q
variable {c}
noncomputable def Sl.fz:Sl->Option D
 | .va d=>some d
 | .ow ds=>some (.lst ds)
 | _=>none
def G7 (R:D->Prop) (r:Sl):Prop:=∃ d,r.fz=some d/\R d
theorem Js (e:r.fz=some d) (h:br K (λp=>H p=none) H' aq r v) (g:bx H Hf H' aq) :
 ∃ cL,Rep K cL d v/\bx H Hf H' cL:=by
 cases r with
 | un=>cases e
 | va d'=>cases e; exact ⟨aq,h,g⟩
 | oT _=>cases e
 | oK _=>cases e
 | aw _ _=>cases e
 | aT _ _=>cases e
 | aK _ _=>cases e
 | fo _=>cases e
 | ow ds =>
  cases e
  obtain ⟨p,xs,rfl,hp,h1,h2,h3⟩:=h
  have sf:aN aq (upd aq p (.lst xs)):=λb o e=>by rw [av (aF e h2)]; exact e
  have sb:aN (upd aq p (.lst xs)) H':=λb o e=>by
   by_cases q:b=p
   ·subst q; rw [af] at e; rw [h1]; exact e
   ·rw [av q] at e; exact g.b b o e
  refine ⟨upd aq p (.lst xs),aZ.mpr ⟨p,xs,rfl,.inl (.inl af),h3.mono sf⟩,g.s,g.f.trans sf,sb,λb q1 q2 q3=>?_⟩
  have e:=g.n b q1 q2 q3
  by_cases q:b=p
  ·subst q; exact absurd hp q2
  ·rw [av q]; exact e
theorem e_x (h:dD c e ρ (G7 R)):aG c e ρ R:=λσ H Hf Q S q =>
 h σ H Hf Q S λr v H' aq ⟨d,e1,rd⟩ rs g=>let ⟨cL,h1,g2⟩:=Js e1 rs g; q d v H' cL rd h1 g2
theorem ue (h:aG c e ρ λd=>R (.va d)):dD c e ρ R:=λσ H Hf Q S q =>
 h σ H Hf Q S λd v H' aq rd h1 g=>q (.va d) v H' aq rd h1 g
theorem aG.imp (h:aG c e ρ R) (hi:∀ d,R d->R' d):aG c e ρ R':=λσ H Hf Q S q=>h σ H Hf Q S λd v H' aq rd=>q d v H' aq (hi d rd)
theorem dD.imp (h:dD c e ρ R) (hi:∀ d,R d->R' d):dD c e ρ R':=λσ H Hf Q S q=>h σ H Hf Q S λd v H' aq rd=>q d v H' aq (hi d rd)
theorem je.imp (h:je c e ρ R) (hi:∀ d,R d->R' d):je c e ρ R':=λσ H Hf Q S q=>h σ H Hf Q S λd H' aq rd=>q d H' aq (hi d rd)
theorem jH (hN:At N i x) (hs:At ρ i (.va d)) (hR:R d)
 (hd:(x == ("__debug__":Str))=false:=by decide) (hcd:(x == ("__classdict__":Str))=false:=by decide) :
 aG c (.Name x pos) ρ R:=λσ H Hf Q S q=>by
 obtain ⟨v,e,r⟩:=S.va hs.get
 exact bK (oA (X:=c.X) (i:=i) (by rw [c.eN]; exact hN.get) (by rw [c.esc]; rcases c.vis x hN.mem with h | h; exact .inl h; exact .inr (.inl h)) hd hcd) ⟨v,e,q d v H Hf hR r (.refl S.sb)⟩
theorem MA (hR:R (.int i)):aG c (.Constant (.int i) j pos) ρ R:=λσ H Hf Q S q =>
 bK Iq (q _ _ H Hf hR (az.mpr rfl) (.refl S.sb))
theorem PV (hR:R (.bl i)):aG c (.Constant (.bool i) j pos) ρ R:=λσ H Hf Q S q =>
 bK Aa (q _ _ H Hf hR (dh.mpr rfl) (.refl S.sb))
theorem MB (hR:R .non):aG c (.Constant .none j pos) ρ R:=λσ H Hf Q S q =>
 bK Ir (q _ _ H Hf hR (bL.mpr rfl) (.refl S.sb))
theorem oR (hm:mg x=some (.int i t)) (hR:R (.int i)) (hg:sc.names.lookup x=some .globalImplicit:=by walk_at "u") (hd:(x == ("__debug__":Str))=false:=by decide) :
 aG c (.Name x pos) ρ R:=λσ H Hf Q S q =>
 bK (vG (X:=c.X) (v:=.int i) (u:=.int i t) (by unfold Gl Sw; rw [c.esc]; exact hg) (by rw [c.emg]; exact hm) ⟨t,rfl⟩ hd) (q _ _ H Hf hR (az.mpr rfl) (.refl S.sb))
def OI (K:Rr) (r:R2) (p:D->D->(Sl->Prop)->Prop):Prop :=
 ∀ (x y:D) (v u:V) (H Hf:Hp) (Q:VK) (R:Sl->Prop),aN Hf H->Rep K Hf x v->Rep K Hf y u->p x y R ->
  (∀ z v' H' aq,R z->br K (λp=>H p=none) H' aq z v'->bx H Hf H' aq->Q v' H')->r v u H Q
theorem mK (ho:fF c.X (binaryOp op) r) (hd:OI c.X.K r p)
 (h:aG c a ρ λx=>aG c b ρ λy=>p x y R):dD c (.BinOp a op b pos) ρ R:=λσ H Hf Q S q =>
 bK (Aj ho cQ cQ) (h σ H Hf _ S λx v1 H1 aQ h1 r1 g1=>h1 σ H1 aQ _ (S.cG g1) λy v2 H2 cL h2 r2 g2 =>
  hd x y v1 v2 H2 cL Q R g2.b (Rep.mono g2.f x r1) r2 h2 λz v' H' aq hz rz g3 =>
   q z v' H' aq hz (rz.weak λp hp=>(g1.trans g2).s.free hp) ((g1.trans g2).trans g3))
theorem kO {f:Int->Int->Int}:OI K (rI C λi j=>.int (f i j)) λx y R=>∃ i j,x=.int i/\y=.int j/\C i j/\R (.va (.int (f i j))):=by
 rintro x y v u H Hf Q R s rx ry ⟨i,j,rfl,rfl,hC,hR⟩ q
 rw [az] at rx ry
 exact ⟨i,j,rx,ry,hC,q (.va (.int (f i j))) _ H Hf hR (show Rep K Hf (.int (f i j)) _ from az.mpr rfl) (.refl s)⟩
theorem AR {f:Int->Int->Int}:OI K (yi λi j=>.int (f i j)) λx y R=>∃ i j,x=.int i/\y=.int j/\R (.va (.int (f i j))):=by
 rintro x y v u H Hf Q R s rx ry ⟨i,j,rfl,rfl,hR⟩ q
 rw [az] at rx ry
 exact ⟨i,j,rx,ry,q (.va (.int (f i j))) _ H Hf hR (show Rep K Hf (.int (f i j)) _ from az.mpr rfl) (.refl s)⟩
theorem gO (h:dD c e ρ λr=>∃ d,r=.va d/\R d):aG c e ρ R:=e_x (h.imp λr ⟨d,e,hr⟩=>⟨d,by subst e; rfl,hr⟩)
noncomputable def jRZ:D->Nat
 | .non=>0 | .int _=>1 | .bl _=>2 | .str _=>4 | _=>99
noncomputable def jI (x y:D):Bool:=decide (jRZ x<5) && decide (jRZ y<5) && jRZ x+jRZ y != 3
noncomputable instance:DecidableEq D:=λ_ _=>Classical.propDecidable _
inductive mO:Nat->D->D->Prop where
 | sc {n:Nat} {x y:D} (h:jI x y=true):mO n x y
 | tup {n:Nat} {ds es:List D} (h:∀ (i:Nat) (d e:D),ds[i]?=some d->es[i]?=some e->mO n d e):mO (n+1) (.tup ds) (.tup es)
 | lst {n:Nat} {ds es:List D} (h:∀ (i:Nat) (d e:D),ds[i]?=some d->es[i]?=some e->mO n d e):mO (n+1) (.lst ds) (.lst es)
 | ln {n:Nat} {ds:List D}:mO n (.lst ds) .non
 | nl {n:Nat} {ds:List D}:mO n .non (.lst ds)
 | tn {n:Nat} {ds:List D}:mO n (.tup ds) .non
 | nt {n:Nat} {ds:List D}:mO n .non (.tup ds)
def oS (ds es:List D):Prop:=∀ (i:Nat) (d e:D),ds[i]?=some d->es[i]?=some e->mO 40 d e
def MC (x y:D):Prop:=jI x y=true\/∃ ds es,((x=.tup ds/\y=.tup es)\/(x=.lst ds/\y=.lst es))/\oS ds es
section
variable {a b:Expr} {pos:Pos} {ρ:List Sl} {R:D->Prop}
structure Sd (A B:Prop):Prop where
 s:A
 r:B
structure jR (A B:Prop) (x:Bool):Prop where
 t:x=true->A
 f:x=false->B
theorem if2 (h1:x=true->A) (h2:x=false->B):jR A B x:=⟨h1,h2⟩
theorem MD (h1:A):jR A B true:=⟨λ_=>h1,λh=>by cases h⟩
theorem ME (h1:B):jR A B false:=⟨λh=>(by cases h),λ_=>h1⟩
theorem EU (h1:p->A) (h2:¬ p->B):jR A B (@decide p i):=⟨λh=>h1 (of_decide_eq_true h),λh=>h2 (of_decide_eq_false h)⟩
theorem EW (h:jR B A x):jR A B (!x):=⟨λe=>h.f (by simpa using e),λe=>h.t (by simpa using e)⟩
def vP (x y:D) (T:Bool->Prop):Prop:=MC x y/\T (decide (x=y))
theorem EX (h:T (decide (i=j))):vP (.int i) (.int j) T:=⟨.inl rfl,by
 have e:decide (D.int i=D.int j)=decide (i=j):=by simp
 rw [e]; exact h⟩
theorem uf (h:T (decide (i=j))):vP (.bl i) (.bl j) T:=⟨.inl rfl,by
 have e:decide (D.bl i=D.bl j)=decide (i=j):=by simp
 rw [e]; exact h⟩
theorem EY (h:Sd (oS ds es) (T (decide (ds=es)))):vP (.tup ds) (.tup es) T:=⟨.inr ⟨ds,es,.inl ⟨rfl,rfl⟩,h.s⟩,by
 have e:decide (D.tup ds=D.tup es)=decide (ds=es):=by simp
 rw [e]; exact h.r⟩
theorem EZ (h:Sd (oS ds es) (T (decide (ds=es)))):vP (.lst ds) (.lst es) T:=⟨.inr ⟨ds,es,.inr ⟨rfl,rfl⟩,h.s⟩,by
 have e:decide (D.lst ds=D.lst es)=decide (ds=es):=by simp
 rw [e]; exact h.r⟩
noncomputable def I2 (k:Int->Int->Prop):D->D->Prop:=λx y=>∃ i j,x=.int i/\y=.int j/\k i j
theorem i2 {k:Int->Int->Prop} (h:k i j):I2 k (.int i) (.int j):=⟨i,j,rfl,rfl,h⟩
noncomputable def I1 (k:Int->Prop):D->Prop:=λx=>∃ i,x=.int i/\k i
theorem i1 {k:Int->Prop} (h:k i):I1 k (.int i):=⟨i,rfl,h⟩
noncomputable def B1 (k:Bool->Prop):D->Prop:=λx=>∃ i,x=.bl i/\k i
theorem b1 {k:Bool->Prop} (h:k i):B1 k (.bl i):=⟨i,rfl,h⟩
theorem MF (h:aG c a ρ λx=>aG c b ρ λy=>I2 (λi j=>R (.int (i - j))) x y):aG c (.BinOp a .Sub b pos) ρ R :=
 gO (mK IQ AR (h.imp λx hx=>hx.imp λy ⟨i,j,e1,e2,r⟩=>⟨i,j,e1,e2,_,rfl,r⟩))
def MulOk (i j:Int):Prop:=IntMulOk i j
def AU (j:Int):Prop:=0<j/\j.natAbs.log2<9000
theorem E0:fF c.X (binaryOp .Mult) (rI MulOk λi j=>.int (i * j)):=IM λ_ _ _ _ _ _ _ hc q=>mul_int q hc
theorem AV:fF c.X (binaryOp .FloorDiv) (rI (λ_ j=>AU j) λi j=>.int (i / j)):=IM λi j _ _ _ _ _ hc q=>by
 have h1:(0:Int)<j:=hc.1
 exact floordiv_int (by lia) (by rw [VW i (by lia)]; exact q) (.inl (WW hc.2))
theorem AW:fF c.X (binaryOp .FloorDiv) (rI (λ_ j=>j≠0/\j.natAbs.log2<9000) λi j=>.int (i.fdiv j)):=IM λi j _ _ _ _ _ hc q =>
 floordiv_int hc.1 q (.inl (WW hc.2))
theorem MG (h:aG c a ρ λx=>aG c b ρ λy=>I2 (λi j=>Sd (MulOk i j) (R (.int (i * j)))) x y):aG c (.BinOp a .Mult b pos) ρ R :=
 gO (mK E0 kO (h.imp λx hx=>hx.imp λy ⟨i,j,e1,e2,⟨hc,r⟩⟩=>⟨i,j,e1,e2,hc,_,rfl,r⟩))
theorem Jt (h:aG c a ρ λx=>aG c b ρ λy=>I2 (λi j=>Sd (AU j) (R (.int (i / j)))) x y):aG c (.BinOp a .FloorDiv b pos) ρ R :=
 gO (mK AV kO (h.imp λx hx=>hx.imp λy ⟨i,j,e1,e2,⟨hc,r⟩⟩=>⟨i,j,e1,e2,hc,_,rfl,r⟩))
theorem E1 (h:aG c a ρ λx=>aG c b ρ λy=>I2 (λi j=>Sd ((j≠0/\j.natAbs.log2<9000)) (R (.int (i.fdiv j)))) x y):aG c (.BinOp a .FloorDiv b pos) ρ R :=
 gO (mK AW kO (h.imp λx hx=>hx.imp λy ⟨i,j,e1,e2,⟨hc,r⟩⟩=>⟨i,j,e1,e2,hc,_,rfl,r⟩))
theorem MH (h:aG c a ρ λx=>aG c b ρ λy=>I2 (λi j=>Sd (0<j) (R (.int (i % j)))) x y):aG c (.BinOp a .Mod b pos) ρ R :=
 gO (mK IS kO (h.imp λx hx=>hx.imp λy ⟨i,j,e1,e2,⟨hc,r⟩⟩=>⟨i,j,e1,e2,hc,_,rfl,r⟩))
theorem MI (h:aG c a ρ λx=>aG c b ρ λy=>I2 (λi j=>Sd (Al i j) (R (.int (i ^ j.toNat)))) x y):aG c (.BinOp a .Pow b pos) ρ R :=
 gO (mK IT kO (h.imp λx hx=>hx.imp λy ⟨i,j,e1,e2,⟨hc,r⟩⟩=>⟨i,j,e1,e2,hc,_,rfl,r⟩))
theorem MJ (h:aG c a ρ (I1 λi=>R (.int (-i)))):aG c (.UnaryOp .USub a pos) ρ R:=λσ H Hf Q S q =>
 bK (Mb IX cQ) (h σ H Hf _ S λx v H' aq hx r g=>by
  obtain ⟨i,rfl,hR⟩:=hx
  rw [az] at r
  exact ⟨i,r,q _ _ H' aq hR (az.mpr rfl) g⟩)
def AX (K:Rr) (r:R2) (p:D->D->(Bool->Prop)->Prop):Prop :=
 ∀ (x y:D) (v u:V) (H Hf:Hp) (Q:VK) (R:Bool->Prop),aN Hf H->Rep K Hf x v->Rep K Hf y u->p x y R->(∀ b,R b->Q (.bl b) H)->r v u H Q
theorem G8 (ho:fF c.X (compareOp op) r) (hd:AX c.X.K r p) (h:aG c a ρ λx=>aG c b ρ λy=>p x y λz=>R (.bl z))
 (hm:behindInMarks op b=false):aG c (.Compare a [op] [b] pos) ρ R:=λσ H Hf Q S q =>
 bK (Ew ho cQ cQ hm) (h σ H Hf _ S λx v1 H1 aQ h1 r1 g1=>h1 σ H1 aQ _ (S.cG g1) λy v2 H2 cL h2 r2 g2 =>
  hd x y v1 v2 H2 cL Q _ g2.b (Rep.mono g2.f x r1) r2 h2 λz hz=>q _ _ H2 cL hz (dh.mpr rfl) (g1.trans g2))
theorem vQ (ho:fF c.X (compareOp op) r) (hd:AX c.X.K r p) (h:aG c a ρ λx=>aG c b ρ λy=>p x y T)
 (hm:behindInMarks op b=false):je c (.Compare a [op] [b] pos) ρ T:=λσ H Hf Q S q =>
 kN (Ey ho cQ cQ hm) (h σ H Hf _ S λx v1 H1 aQ h1 r1 g1=>h1 σ H1 aQ _ (S.cG g1) λy v2 H2 cL h2 r2 g2 =>
  hd x y v1 v2 H2 cL _ T g2.b (Rep.mono g2.f x r1) r2 h2 λz hz=>⟨z,rfl,q _ H2 cL hz (g1.trans g2)⟩)
theorem G9 {f:Int->Int->Bool}:AX K (yi λi j=>.bl (f i j)) λx y R=>I2 (λi j=>R (f i j)) x y:=by
 rintro x y v u H Hf Q R s rx ry ⟨i,j,rfl,rfl,hR⟩ q
 rw [az] at rx ry
 exact ⟨i,j,rx,ry,q _ hR⟩
theorem vR (h:jI x y=true) (rx:Rep K H x v) (ry:Rep K H y u):Eu v u=true/\decide (v=u)=decide (x=y):=by
 cases x <;> cases y <;> simp [jI,jRZ] at h <;> simp only [az,dh,bL,fH] at rx ry <;> subst rx <;> subst ry <;> simp [Eu,ErZ]
theorem PX (h:aG c a ρ λx=>aG c b ρ λy=>I2 (λi j=>T (decide (i<j))) x y):je c (.Compare a [.Lt] [b] pos) ρ T:=vQ Mg G9 h (ji b)
theorem PY (h:aG c a ρ λx=>aG c b ρ λy=>I2 (λi j=>T (decide (j<i))) x y):je c (.Compare a [.Gt] [b] pos) ρ T:=vQ Mh G9 h (ji b)
end
end
section
variable {K:Rr} {c:Ctx P w K mg base k N sc bk}
variable {es rest:List Expr}
noncomputable def bW (X:Cx) (e:Expr):TT:=λσ H Q=>∀ whole aa s,Inv X aa σ H s->wpAny (model X.prog X.w) X.A (isTrue e X.env whole) (TP X aa σ Q) X.xe s
theorem QE:PW X e (bW X e):=λwhole aa s σ H Q I h=>h whole aa s I
theorem vS (h:PW X e t) (q:t σ H Q):bW X e σ H Q:=λwhole aa s I=>h whole aa s σ H Q I q
def Hg (c:Ctx P w K mg base k N sc bk) (e:Expr) (ρ:List Sl) (R:Bool->Prop):Prop :=
 ∀ (σ:L2.St) (H Hf:Hp) (Q:Bool->Hp->Prop),bw c σ H Hf ρ->(∀ b H' aq,R b->bx H Hf H' aq->Q b H')->bW c.X e σ H Q
theorem QF (h:Hg c e ρ T):je c e ρ T:=λσ H Hf Q S q aa s I=>h σ H Hf Q S q _ aa s I
theorem Ju (h:je c a ρ T):Hg c (.BoolOp .And [a] pos) ρ T:=λσ H Hf Q S q=>vS (pw_and1 G6) (h σ H Hf Q S q)
theorem MK (h:je c a ρ T):Hg c (.BoolOp .Or [a] pos) ρ T:=λσ H Hf Q S q=>vS (pw_or1 G6) (h σ H Hf Q S q)
theorem w_and (h:je c a ρ (jR (Hg c (.BoolOp .And (b::rest) pos) ρ T) (T false))):Hg c (.BoolOp .And (a::b::rest) pos) ρ T:=λσ H Hf Q S q =>
 vS (pw_and G6 QE) (h σ H Hf _ S λx H' aq hx g=>by
  cases x with
  | true=>exact hx.t rfl σ H' aq Q (S.cG g) λy H2 cL hy g2=>q y H2 cL hy (g.trans g2)
  | false=>exact q false H' aq (hx.f rfl) g)
theorem w_or (h:je c a ρ (jR (T true) (Hg c (.BoolOp .Or (b::rest) pos) ρ T))):Hg c (.BoolOp .Or (a::b::rest) pos) ρ T:=λσ H Hf Q S q =>
 vS (pw_or G6 QE) (h σ H Hf _ S λx H' aq hx g=>by
  cases x with
  | false=>exact hx.f rfl σ H' aq Q (S.cG g) λy H2 cL hy g2=>q y H2 cL hy (g.trans g2)
  | true=>exact q true H' aq (hx.t rfl) g)
theorem ML (h:je c a ρ λx=>T (!x)):je c (.UnaryOp .Not a pos) ρ T:=λσ H Hf Q S q =>
 kN (Iv G6) (h σ H Hf _ S λx H' aq hx g=>q _ H' aq hx g)
theorem MM (h:aG c a ρ R):aG c (.BoolOp op [a] pos) ρ R:=λσ H Hf Q S q=>bK (Iw cQ) (h σ H Hf Q S q)
theorem MN (h:aG c a ρ (B1 (jR (aG c (.BoolOp .And (b::rest) pos) ρ R) (R (.bl false))))):aG c (.BoolOp .And (a::b::rest) pos) ρ R:=λσ H Hf Q S q =>
 bK (Iz cQ cQ) (h σ H Hf _ S λx v H' aq ⟨k,e,h1⟩ r g=>by
  subst e
  rw [dh] at r
  refine ⟨k,r,?_⟩
  cases k with
  | true=>rw [if_pos rfl]; exact h1.t rfl σ H' aq Q (S.cG g) λy v2 H2 cL hy r2 g2=>q y v2 H2 cL hy r2 (g.trans g2)
  | false=>rw [if_neg RG]; exact q _ _ H' aq (h1.f rfl) (dh.mpr rfl) g)
theorem PZ (h:aG c a ρ (B1 (jR (R (.bl true)) (aG c (.BoolOp .Or (b::rest) pos) ρ R)))):aG c (.BoolOp .Or (a::b::rest) pos) ρ R:=λσ H Hf Q S q =>
 bK (L0 cQ cQ) (h σ H Hf _ S λx v H' aq ⟨k,e,h1⟩ r g=>by
  subst e
  rw [dh] at r
  refine ⟨k,r,?_⟩
  cases k with
  | false=>rw [if_neg RG]; exact h1.f rfl σ H' aq Q (S.cG g) λy v2 H2 cL hy r2 g2=>q y v2 H2 cL hy r2 (g.trans g2)
  | true=>rw [if_pos rfl]; exact q _ _ H' aq (h1.t rfl) (dh.mpr rfl) g)
theorem E2 {R:Sl->Prop} (h:je c t ρ (jR (dD c a ρ R) (dD c b ρ R))):dD c (.IfExp t a b pos) ρ R:=λσ H Hf Q S q =>
 bK (Ad G6 cQ cQ) (h σ H Hf _ S λx H' aq hx g=>by
  cases x with
  | true=>rw [if_pos rfl]; exact hx.t rfl σ H' aq Q (S.cG g) λy v2 H2 cL hy r2 g2=>q y v2 H2 cL hy (r2.weak λp hp=>g.s.free hp) (g.trans g2)
  | false=>rw [if_neg RG]; exact hx.f rfl σ H' aq Q (S.cG g) λy v2 H2 cL hy r2 g2=>q y v2 H2 cL hy (r2.weak λp hp=>g.s.free hp) (g.trans g2))
theorem E3 (h:je c t ρ (jR (aG c a ρ R) (aG c b ρ R))):aG c (.IfExp t a b pos) ρ R :=
 gO (E2 (h.imp λx hx=>⟨λe=>ue ((hx.t e).imp λd h=>⟨d,rfl,h⟩),λe=>ue ((hx.f e).imp λd h=>⟨d,rfl,h⟩)⟩))
theorem MO (h:aG c e ρ (B1 T)) (he:∀ (env:Env) whole,isTrue e env whole=(do let v <- whole; standAt e.pos; holding [v] (truthy v)):=by intro _ _; walk_at "u"):je c e ρ T:=λσ H Hf Q S q =>
 kN (Iu cQ (he _)) (h σ H Hf _ S λx v H' aq ⟨k,e,h1⟩ r g=>by
  subst e; rw [dh] at r
  exact ⟨k,r,q k H' aq h1 g⟩)
theorem jJ {R:List D->Prop} (h:R []):qM c [] ρ R:=λσ H Hf Q S q=>AM d8 (q [] [] H Hf h (aB.mpr rfl) (.refl S.sb))
theorem bC {R:List D->Prop} (h:aG c e ρ λd=>qM c es ρ λds=>R (d::ds)) (hs:∀ env,starEach (e::es) env=(false,eval e env)::starEach es env:=by intro _; walk_at "u"):qM c (e::es) ρ R:=λσ H Hf Q S q =>
 AM (bQ cQ Jr (hs _)) (h σ H Hf _ S λd v H1 aQ h1 r1 g1=>h1 σ H1 aQ _ (S.cG g1) λds vs H2 cL h2 r2 g2=>q _ _ H2 cL h2 (.cons (Rep.mono g2.f d r1) r2) (g1.trans g2))
theorem gP (h:qM c es ρ λds=>Sd (ds.length<=sizeLine) (R (.tup ds))):aG c (.Tuple es j pos) ρ R:=λσ H Hf Q S q =>
 bK (IZ Jr) (h σ H Hf _ S λds vs H' aq ⟨hl,hR⟩ r g=>⟨by rw [<- r.length]; exact hl,λp hp=>by
  have g2:=bx.new g.b hp (o:=.tup vs)
  exact q _ _ _ _ hR (aM.mpr ⟨p,vs,rfl,.inl (.inl af),r.mono g2.f⟩) (g.trans g2)⟩)
theorem Hh {R:Sl->Prop} (h:qM c es ρ λds=>Sd (ds.length<=sizeLine) (R (.ow ds))):dD c (.List es pos) ρ R:=λσ H Hf Q S q =>
 bK (I0 Jr) (h σ H Hf _ S λds vs H' aq ⟨hl,hR⟩ r g=>⟨by rw [<- r.length]; exact hl,λp hp=>by
  have g2:=bx.fJ g.b hp (o:=.lst vs)
  exact q _ _ _ _ hR ⟨p,vs,rfl,g.s.free hp,af,g.b.free hp,r⟩ (g.trans g2)⟩)
variable {st:Stmt}
theorem Jv (h:nx ρ):aE c [] ρ nx p:=λσ H Hf D S o=>AN Ep (o.nx σ H Hf ρ S h)
theorem aD (h:fX c st ρ (λρ'=>aE c sts ρ' nx p) p):aE c (st::sts) ρ nx p:=λσ H Hf D S o =>
 AN (Ae Ra ud) (h σ H Hf { D with nx:=LL c.X sts D } S ⟨λσ' H' aq ρ' S' q=>q σ' H' aq D S' o,o.rt,o.bk,o.ct⟩)
theorem cC (h:dD c e ρ p.rt):fX c (.Return (some e) pos) ρ nx p:=λσ H Hf D S o =>
 eU (Af cQ) (h σ H Hf _ S λr v H' aq hr rs g=>o.rt r v H' aq (S.bas.trans g) (rs.weak λp hp=>S.bas.s.free hp) hr)
theorem AY (hN:At N i x) (hi:At ρ i r) (hu:r.owned=true) (h:p.rt r)
 (hd:(x == ("__debug__":Str))=false:=by decide) (hcd:(x == ("__classdict__":Str))=false:=by decide) :
 fX c (.Return (some (.Name x pos2)) pos) ρ nx p:=λσ H Hf D S o=>by
 obtain ⟨v,e,rs⟩:=S.at_ i r hi.get (by rintro rfl; cases hu)
 exact eU (Af (oA (X:=c.X) (i:=i) (by rw [c.eN]; exact hN.get) (by rw [c.esc]; rcases c.vis x hN.mem with h | h; exact .inl h; exact .inr (.inl h)) hd hcd)) ⟨v,e,o.rt r v H Hf S.bas rs h⟩
theorem P0 (h:je c t ρ (jR (aE c A ρ nx p) (aE c B ρ nx p))):fX c (.If t A B pos) ρ nx p:=λσ H Hf D S o =>
 eU (L4 G6 ud ud) (h σ H Hf _ S λx H' aq hx g=>by
  cases x with
  | true=>rw [if_pos rfl]; exact hx.t rfl σ H' aq D (S.cG g) o
  | false=>rw [if_neg RG]; exact hx.f rfl σ H' aq D (S.cG g) o)
def Nx (ρ:List Sl) (i:Nat) (R:List Sl->Prop) (r:Sl):Prop:=∃ ρ',SSet ρ i r ρ'/\R ρ'
theorem j5 {R:List Sl->Prop} (h:SSet ρ i r ρ') (hr:R ρ'):Nx ρ i R r:=⟨ρ',h,hr⟩
theorem AZ (hN:At N i x) (h:dD c e ρ (Nx ρ i nx))
 (hs:∀ env,swapsWith e (some (.Name x pos2)) pos.line env=pure false:=by intro _; walk_at "u") (hf:bk=false\/sc.names.lookup x=some .local:=by first | exact .inl rfl | exact .inr (by walk_at "u")):fX c (.Assign [.Name x pos2] e pos) ρ nx p:=λσ H Hf D S o =>
 eU (IF (X:=c.X) (i:=i) (by rw [c.eN]; exact c.nd) (by rw [c.eN]; exact hN.get) (by rw [c.esc]; exact c.vis x hN.mem) cQ (hs _) (c.fn x hf)) (h σ H Hf _ S λr v H' aq ⟨ρ',hs,hx⟩ rs g=>o.nx _ H' aq _ (hs.eq ▸ S.set g rs) hx)
theorem di {R:List Sl->Prop} (hN:At N i x) (h:Nx ρ i R (.va d)) (hf:bk=false\/sc.names.lookup x=some .local:=by first | exact .inl rfl | exact .inr (by walk_at "u")):oQ c (.Name x pos) d ρ R:=λσ H Hf v Q S r q=>by
 obtain ⟨ρ',hs,h⟩:=h
 exact AO (oF (X:=c.X) (i:=i) (by rw [c.eN]; exact c.nd) (by rw [c.eN]; exact hN.get) (by rw [c.esc]; exact c.vis x hN.mem) (c.fn x hf)) (q _ H Hf _ (hs.eq ▸ S.set (.refl S.sb) (r:=.va d) r) (.refl S.sb) h)
def yq (c:Ctx P w K mg base k N sc bk) (ts:List Expr) (ds:List D) (ρ:List Sl) (R:List Sl->Prop):Prop :=
 ∀ (σ:L2.St) (H Hf:Hp) (vs:List V) (Q:L2.St->Hp->Prop),bw c σ H Hf ρ->ay c.X.K Hf ds vs->(∀ σ' H' aq ρ',bw c σ' H' aq ρ'->bx H Hf H' aq->R ρ'->Q σ' H') ->
  ∀ aa s us,Inv c.X aa σ H s->Vals vs us->wpAny (model c.X.prog c.X.w) c.X.A (assignInOrder ((assignEach ts c.X.env).map (·.2)) us) (λ_ s'=>∃ σ' H',Inv c.X aa σ' H' s'/\Q σ' H') c.X.xe s
theorem Jw {R:List Sl->Prop} (h:R ρ):yq c [] [] ρ R:=λσ H Hf vs Q S r q aa s us I rv=>by
 rw [aB] at r; subst r
 exact Er aa s σ H [] us Q I rv ⟨rfl,q σ H Hf ρ S (.refl S.sb) h⟩
theorem E4 {R:List Sl->Prop} (hN:At N i x) (h:Nx ρ i (λρ'=>yq c ts ds ρ' R) (.va d))
 (hs:∀ env,(assignEach (.Name x pos::ts) env).map (·.2)=assign (.Name x pos) env::(assignEach ts env).map (·.2):=by intro _; walk_at "u") (hf:bk=false\/sc.names.lookup x=some .local:=by first | exact .inl rfl | exact .inr (by walk_at "u")):yq c (.Name x pos::ts) (d::ds) ρ R:=λσ H Hf vs Q S r q aa s us I rv=>by
 obtain ⟨ρ',hs',h⟩:=h
 rw [aH] at r
 obtain ⟨v,vr,rfl,r1,r2⟩:=r
 have hp:LH c.X ts (λvs' σ' H' Q'=>∀ aa s us,Inv c.X aa σ' H' s->Vals vs' us->wpAny (model c.X.prog c.X.w) c.X.A (assignInOrder ((assignEach ts c.X.env).map (·.2)) us) (λ_ s'=>∃ σ'' H'',Inv c.X aa σ'' H'' s'/\Q' σ'' H'') c.X.xe s) :=
  λaa s σ H vs us Q I r h=>h aa s us I r
 refine Ag (oF (X:=c.X) (i:=i) (by rw [c.eN]; exact c.nd) (by rw [c.eN]; exact hN.get) (by rw [c.esc]; exact c.vis x hN.mem) (c.fn x hf)) hp (hs _) aa s σ H _ us Q I rv ⟨v,vr,rfl,?_⟩
 have S1:=S.set (i:=i) (.refl S.sb) (r:=.va d) (v:=v) r1
 rw [<- hs'.eq] at S1
 exact h _ H Hf vr Q S1 r2 q
theorem MQ {R:List Sl->Prop} (he:d=.tup ds) (hl:ds.length=ts.length) (h:yq c ts ds ρ R)
 (hn:∀ env,(assignEach ts env).length=ts.length:=by intro _; walk_at "u") (hst:∀ env,(assignEach ts env).findIdx? (·.1)=none:=by intro _; walk_at "u"):oQ c (.Tuple ts j pos) d ρ R:=λσ H Hf v Q S r q=>by
 subst he
 rw [aM] at r
 obtain ⟨a,xs,rfl,h1,h2⟩:=r
 have hp:LH c.X ts (λvs' σ' H' Q'=>∀ aa s us,Inv c.X aa σ' H' s->Vals vs' us->wpAny (model c.X.prog c.X.w) c.X.A (assignInOrder ((assignEach ts c.X.env).map (·.2)) us) (λ_ s'=>∃ σ'' H'',Inv c.X aa σ'' H'' s'/\Q' σ'' H'') c.X.xe s) :=
  λaa s σ H vs us Q I r h=>h aa s us I r
 refine AO (IC (X:=c.X) (k:=j) (n:=ts.length) c.calm hp (hn _) (hst _)) ⟨a,xs,rfl,aC S.sb h1,by rw [<- h2.length,hl],?_⟩
 exact h σ H Hf xs Q S h2 λσ' H' aq ρ' S' g' hR=>q σ' H' aq ρ' S' g' hR
theorem MR (hNi:At N i x) (hNj:At N j y) (hij:i≠j) (h:aG c a ρ λd1=>aG c b ρ λd2=>Nx ρ i (λρ'=>Nx ρ' j nx (.va d2)) (.va d1))
 (hx:sc.names.lookup x=some .local:=by walk_at "u") (hy:sc.names.lookup y=some .local:=by walk_at "u")
 (hw:∀ env:Env,env.scope=sc->swappedStores [.Tuple [.Name x px,.Name y py] kt pt] (.Tuple [a,b] k2 pt2) env=pure (some [x,y]):=by (intro env he; cases env; cases he; walk_at "u"))
 (hs:∀ env,swapsWithSole [.Tuple [.Name x px,.Name y py] kt pt] (.Tuple [a,b] k2 pt2) pos.line env=pure false:=by intro _; walk_at "u")
 (hst:∀ env,starEach [a,b] env=(false,eval a env)::starEach [b] env:=by intro _; walk_at "u") (hst2:∀ env,starEach [b] env=[(false,eval b env)]:=by intro _; walk_at "u") :
 fX c (.Assign [.Tuple [.Name x px,.Name y py] kt pt] (.Tuple [a,b] k2 pt2) pos) ρ nx p:=λσ H Hf D S o =>
 eU (IG (X:=c.X) (i:=i) (j:=j) c.calm (by rw [c.eN]; exact c.nd) (by rw [c.eN]; exact hNi.get) (by rw [c.eN]; exact hNj.get) hij (by rw [c.esc]; exact hx) (by rw [c.esc]; exact hy) (bQ cQ (bQ cQ d8 (hst2 _)) (hst _)) (hw _ c.esc) (hs _))
  (h σ H Hf _ S λd1 v1 H1 aQ h1 r1 g1=>h1 σ H1 aQ _ (S.cG g1) λd2 v2 H2 cL ⟨ρ1,hs1,ρ2,hs2,h2⟩ r2 g2=>⟨v1,v2,rfl,by
    have S2:=(S.cG (g1.trans g2)).set (i:=i) (.refl g2.b) (r:=.va d1) (v:=v1) (Rep.mono g2.f d1 r1)
    rw [<- hs1.eq] at S2
    have S3:=S2.set (i:=j) (.refl g2.b) (r:=.va d2) (v:=v2) r2
    rw [<- hs2.eq] at S3
    exact o.nx _ H2 cL _ S3 h2⟩)
theorem MS {f:Int->Int->Int} (ho:fF c.X (inplaceOp op) (rI C λi j=>.int (f i j))) (hN:At N i x) (hi:At ρ i (.va (.int m)))
 (h:aG c e ρ (I1 λj=>Sd (C m j) (Nx ρ i nx (.va (.int (f m j)))))) (hf:bk=false\/sc.names.lookup x=some .local:=by first | exact .inl rfl | exact .inr (by walk_at "u")):fX c (.AugAssign (.Name x pos2) op e pos) ρ nx p:=λσ H Hf D S o=>by
 obtain ⟨v,e1,r1⟩:=S.va hi.get
 rw [az] at r1; subst r1
 have hip:QB c.X op (rI C λi j=>.int (f i j)):=λaa s σ H x y v u Q I rx ry h=>ho aa s σ H x y v u Q I rx ry h
 refine eU (II (X:=c.X) (i:=i) (by rw [c.eN]; exact c.nd) (by rw [c.eN]; exact hN.get) (by rw [c.esc]; exact c.vis x hN.mem) cQ hip (c.fn x hf)) ⟨_,e1,h σ H Hf _ S λd v H' aq ⟨j,ed,⟨hC,ρ',hs,hn⟩⟩ r g=>?_⟩
 subst ed; rw [az] at r
 have S2:=S.set g (i:=i) (r:=.va (.int (f m j))) (show Rep c.X.K aq (.int (f m j)) (.int (f m j)) from az.mpr rfl)
 rw [<- hs.eq] at S2
 exact ⟨m,j,rfl,r,hC,o.nx _ H' aq _ S2 hn⟩
theorem Jx (hN:At N i x) (hi:At ρ i (.va (.int m))) (h:aG c e ρ (I1 λj=>Nx ρ i nx (.va (.int (m - j))))) (hf:bk=false\/sc.names.lookup x=some .local:=by first | exact .inl rfl | exact .inr (by walk_at "u")) :
 fX c (.AugAssign (.Name x pos2) .Sub e pos) ρ nx p :=
 MS (C:=λ_ _=>True) (f:=λi j=>i - j) (λaa s σ H x y v u Q I rx ry ⟨i,j,e1,e2,_,q⟩=>Et aa s σ H x y v u Q I rx ry ⟨i,j,e1,e2,q⟩) hN hi (h.imp λd ⟨j,e,q⟩=>⟨j,e,trivial,q⟩) hf
theorem iF (hq:c.X.xe=λ_ _=>False) (I:Nat->List Sl->Prop) (h0:I m₀ ρ)
 (h:∀ m ρ',I m ρ'->je c t ρ' (jR (aE c body ρ' (λr=>∃ m',m'<m/\I m' r) { ct:=λr=>∃ m',m'<m/\I m' r,bk:=nx,rt:=p.rt }) (nx ρ'))) :
 fX c (.While t body [] pos) ρ nx p:=λσ H Hf D S o =>
 eU (Ah (by rw [hq]; exact PassesOwn.never) G6 ud) ⟨λm σ H=>∃ Hf ρ',bw c σ H Hf ρ'/\I m ρ',⟨m₀,Hf,ρ,S,h0⟩,λm σ H ⟨Hf,ρ',S,hI⟩=>h m ρ' hI σ H Hf _ S λx H' aq hx g=>by
  cases x with
  | false=>rw [if_neg RG]; exact o.nx σ H' aq ρ' (S.cG g) (hx.f rfl)
  | true =>
   rw [if_pos rfl]
   refine ⟨λσ' H'=>∃ m',m'<m/\∃ Hf ρ',bw c σ' H' Hf ρ'/\I m' ρ',λσ' H' ⟨m',hl,hh⟩=>⟨m',hl,hh⟩,?_⟩
   exact hx.t rfl σ H' aq _ (S.cG g) ⟨λσ H Hf ρ S ⟨m',hl,hi⟩=>⟨m',hl,Hf,ρ,S,hi⟩,o.rt,λσ H Hf ρ S q=>o.nx σ H Hf ρ S q,λσ H Hf ρ S ⟨m',hl,hi⟩=>⟨m',hl,Hf,ρ,S,hi⟩⟩⟩
end
theorem A0 (h:n<=1000):n<=sizeLine:=SY (yp h)
theorem A3 (h:0<j) (h2:j.natAbs.log2<9000):AU j:=⟨h,h2⟩
inductive Res where
 | ok (r:Sl)
 | ex (C:Addr)
noncomputable abbrev Fn:=List D->Res->Prop
noncomputable def cR (K:Rr) (F:Fn):Sp:=λvs H Q E=>∃ Hf ds r,aN Hf H/\ay K Hf ds vs/\F ds r/\match r with
 | .ok sl=>∀ v H' aq,bx H Hf H' aq->br K (λp=>H p=none) H' aq sl v->Q v H'
 | .ex C=>∀ a H',aN H H'->E (.ref C) (some a) H'
structure bN (P:Program) (w:World) (K:Rr) (mg:Str->Option Value) (base:Heap) (k:Nat) (x:Str) (F:Fn):Prop where
 ex:∃ f fd ps,mg x=some (.ref f)/\TY K (.ref f)=true/\Binds K fd ps []/\aU P w K mg base (cF P w) k f fd ps (cR K F)
section
variable {K:Rr} {c:Ctx P w K mg base k N sc bk}
noncomputable def Jy (c:Ctx P w K mg base k N sc bk) (ρ:List Sl) (R:Sl->Prop):Res->Prop
 | .ok sl=>R sl
 | .ex C=>c.RX C ρ
theorem E5 (h:bN P w K mg base j x F) (hj:j<=k):∃ f,mg x=some (.ref f)/\TY K (.ref f)=true /\
 ∀ (aa:List (Addr×Obj)) (σ:L2.St) (H Hf:Hp) (s:Shared) (us:List Value) (vs:List V) (ds:List D) (r:Res) (Q:VK),Inv c.X aa σ H s->bw c σ H Hf ρ->Vals vs us->ay c.X.K Hf ds vs->F ds r ->
  (∀ sl v H' aq,r=.ok sl->br c.X.K (λp=>H p=none) H' aq sl v->bx H Hf H' aq->Q v H')->(∀ C,r=.ex C->c.RX C ρ)->wpAny (model c.X.prog c.X.w) c.X.A (call (.ref f) us) (EP c.X aa σ Q) c.X.xe s:=by
 obtain ⟨f,fd,ps,hm,hk,hb,hF⟩:=h.ex
 refine ⟨f,hm,hk,λaa σ H Hf s us vs ds r Q I S rv rs hr q hx=>?_⟩
 have hF':aU c.X.prog c.X.w c.X.K c.X.mg c.X.base (cF c.X.prog c.X.w) k f fd ps (cR c.X.K F):=by rw [c.eP,c.ew,c.eK,c.emg,c.eb]; exact hF.mono hj
 have vB:cR c.X.K F vs H Q (λcv ao H'=>∃ C,r=.ex C/\cv=.ref C/\aN H H'):=by
  refine ⟨Hf,ds,r,S.bas.b,rs,hr,?_⟩
  cases r with
  | ok sl=>exact λv H' aq g rs2=>q sl v H' aq rfl rs2 g
  | ex C=>exact λa H' s2=>⟨C,rfl,rfl,s2⟩
 have hl:us.length=ps.length:=by rw [<- rv.length]; exact hF'.len _ _ _ _ vB
 have hb':Binds c.X.K fd ps []:=by rw [c.eK]; exact hb
 have hb2:=hb' s us I.Ea (by simpa using hl)
 rw [SJ] at hb2
 refine wpAny_call (VJ (hF'.run c.X.A c.X.stack s H ⟨us,[]⟩ us vs Q _ c.room I.Jb hb2 rv vB) λr' s' hq=>?_)
 cases r' with
 | error e =>
  obtain ⟨a,C,H',rfl,hE,C',e1,e2,sm⟩:=hq
  cases e2
  exact c.exc C a aa σ H Hf ρ s H' s' I S (hx C e1) hE sm
 | ok fl =>
  cases fl with
  | ret u=>exact I.after hq
  | next=>exact SO hq
  | brk=>exact SO hq
  | cont=>exact SO hq
theorem x_call {R:Sl->Prop} (h:bN P w K mg base j x F) (hj:j<=k)
 (ha:qM c (e::es) ρ λds=>∃ r,F ds r/\Jy c ρ R r)
 (hg:sc.names.lookup x=some .globalImplicit:=by walk_at "u") (hdb:(x == ("__debug__":Str))=false:=by decide) (he:∀ env,starEach (e::es) env=(false,eval e env)::starEach es env:=by intro _; walk_at "u")
 (hpl:∀ env,(backTo pos (starEach es env)).any (·.1)=false:=by intro _; walk_at "u"):dD c (.Call (.Name x p) (e::es) [] pos) ρ R:=λσ H Hf Q S q aa s I=>by
 obtain ⟨f,hm,hk,run⟩:=E5 (c:=c) (ρ:=ρ) h hj
 refine T6 (oB I (by unfold Gl Sw; rw [c.esc]; exact hg) (by rw [c.emg]; exact hm) ?_ hdb)
 refine Xp (h₀:=c.X.base) I.ok.mod.kin (by rw [c.eK]; exact hk) (bB (ha σ H Hf (λvs H1=>∃ aQ ds,(∃ r,F ds r/\Jy c ρ R r)/\ay c.X.K aQ ds vs/\bx H Hf H1 aQ) S (λds vs H1 aQ hr rs g=>⟨aQ,ds,hr,rs,g⟩) pos aa s I) λus s1 hh=>z2 hh λvs H1 hh=>w3 hh λI1 rv hh=>z2 hh λaQ ds hh=>w3 hh λhh rs g=>hh.elim λr hh=>w2 hh λhF hR=>⟨I1.Ea,?_⟩) (he _) (hpl _)
 refine run aa σ H1 aQ s1 us vs ds r Q I1 (S.cG g) rv rs hF (λsl v H' aq e1 rs2 g2=>?_) λC e1=>?_
 ·subst e1
  exact q sl v H' aq hR (rs2.weak λp hp=>g.s.free hp) (g.trans g2)
 ·subst e1
  exact hR
theorem ak (h:bN P w K mg base j x F) (hj:j<=k)
 (ha:qM c (e::es) ρ λds=>∃ r,F ds r/\Jy c ρ (G7 R) r)
 (hg:sc.names.lookup x=some .globalImplicit:=by walk_at "u") (hdb:(x == ("__debug__":Str))=false:=by decide) (he:∀ env,starEach (e::es) env=(false,eval e env)::starEach es env:=by intro _; walk_at "u")
 (hpl:∀ env,(backTo pos (starEach es env)).any (·.1)=false:=by intro _; walk_at "u"):aG c (.Call (.Name x p) (e::es) [] pos) ρ R:=e_x (x_call h hj ha hg hdb he hpl)
noncomputable def gS (N:List Str) (ds:List D):List Sl:=ds.map .va++RE (N.length - ds.length) .un
theorem A4 (r:ay K eY ds vs) (sb:aN eY H₀):eT K H₀ eY (L2.start N vs) H₀ eY (gS N ds):=by
 have hl:=r.length
 refine ⟨.refl sb,by simp [L2.start,gS,hl],λi r' h hu=>?_,λi j r1 r2 p hne h1 h2 o1 o2=>?_⟩
 ·by_cases q:i<ds.length
  ·have e:(gS N ds)[i]?=some (.va ds[i]):=by
    unfold gS
    rw [Uz (by simpa using q)]; simp [q]
   rw [e] at h; cases h
   obtain ⟨x,e2,rx⟩:=r.get (i:=i) (d:=ds[i]) (by simp)
   refine ⟨x,?_,rx⟩
   unfold L2.start
   rw [Uz (by simp; lia)]
   simp [e2]
  ·unfold gS at h
   rw [Vq (by simp; lia)] at h
   have:=TH h
   exact absurd (WX this) hu
 ·exfalso
  unfold gS at h1
  by_cases q:i<(ds.map Sl.va).length
  ·rw [Uz q] at h1
   rw [RO] at h1
   cases z:ds[i]? with
   | none=>rw [z] at h1; cases h1
   | some d=>rw [z] at h1; cases h1; cases o1
  ·rw [Vq (by lia)] at h1
   have e3:=WX (TH h1)
   subst e3; cases o1
abbrev FS (N P:List Str) (st:Stmt):Prop:=(aR st).kind=.function/\(aR st).isCoroutine=false/\(aR st).isGenerator=false/\N.Nodup/\N.take P.length=P/\(∀ x∈P,(aR st).names.lookup x=some .local\/(aR st).names.lookup x=some .cell)/\(∀ y∈(aR st).names,y.2≠.free)/\∀ x∈N,(aR st).names.lookup x=some .local\/(aR st).names.lookup x=some .cell
theorem Hi {N P:List Str} {st:Stmt} (h:FS N P st):oG N P (aR st)/\∀ x∈N,Loc (aR st) x:=⟨⟨h.1,h.2.1,h.2.2.1,h.2.2.2.1,h.2.2.2.2.1,h.2.2.2.2.2.1,h.2.2.2.2.2.2.1⟩,h.2.2.2.2.2.2.2⟩
theorem bH {st:Stmt} (Fu:cU K x qual st f fd) (SV:FS N ps st) (ar:∀ ds r,F ds r->ds.length=ps.length)
 (hok:∀ ds r,F ds r->∃ sl,r=.ok sl)
 (body:∀ (c:Ctx P w K mg base k N (aR st) false),c.X.xe=(λ_ _=>False)->∀ ds sl,F ds (.ok sl)->aE c (aj st) (gS N ds) (λ_=>sl=.va .non) { rt:=λr=>r=sl }) :
 aU P w K mg base (cF P w) (k+1) f fd ps (cR K F):=by
 obtain ⟨Sc,Vi⟩:=Hi SV
 obtain ⟨oc,od,kV,doc,pm,an,cdv,ct,osl,rfl,lk,hcd⟩:=Fu.ex
 refine G4 lk hcd Sc (λvs H Q E ⟨Hf,ds,r,_,rs,hF,_⟩=>by rw [<- rs.length]; exact ar _ _ hF) λA outer s H vs Q E hr ⟨Hf,ds,r,sb,rs,hF,hq⟩=>?_
 obtain ⟨sl,rfl⟩:=hok _ _ hF
 let X:Cx:=(tX (cF P w) P w K mg base N qual (aR st) f cdv A outer s H E).LG
 let c:Ctx P w K mg base k N (aR st) false :=
  { X:=X,eP:=rfl,ew:=rfl,eK:=rfl,emg:=rfl,eb:=rfl,eN:=rfl,esc:=rfl,calm:=rfl,top:=λ_=>⟨rfl,rfl,rfl⟩,cb:=λ_ _ _ _ _ I x c h=>I.ok.cab x c rfl h,fn:=λ_ _=>.inl rfl,B:=H,room:=hr,nd:=Sc.nd,vis:=Vi,Hf:=Hf,RX:=λ_ _=>False,
    exc:=λ_ _ _ _ _ _ _ _ _ _ _ _ h _ _=>h.elim,RM:=λ_ _=>False,mde:=λ_ _ _ _ _ _ _ _ _ _ _ _ h _=>h.elim }
 refine ⟨_,tQ.LG (t:=LL X (aj st)) (ud (X:=X)),?_⟩
 refine body c rfl ds sl hF (L2.start N vs) H Hf _ (A4 rs sb) ⟨λσ H' aq ρ S e=>?_,λr v H' aq g rv e=>?_,λ_ _ _ _ _ h=>h.elim,λ_ _ _ _ _ h=>h.elim⟩
 ·subst e
  exact hq .non H' aq S.bas (show Rep K aq .non .non from bL.mpr rfl)
 ·have e:r=sl:=e
  subst e
  exact hq v H' aq g rv
def P1 (K:Rr) (r:List V->Hp->VK->Prop) (p:List D->(Sl->Prop)->Prop):Prop :=
 ∀ (ds:List D) (vs:List V) (H Hf:Hp) (Q:VK) (R:Sl->Prop),aN Hf H->ay K Hf ds vs->p ds R->(∀ z v' H' aq,R z->br K (λp=>H p=none) H' aq z v'->bx H Hf H' aq->Q v' H')->r vs H Q
theorem MT {id:String} {R:Sl->Prop} (hc:fT c.X (.type id) r) (hd:P1 c.X.K r q) (hm:mg x=none) (hv:bootBuiltins x=some (.type id))
 (ha:qM c (e::es) ρ λds=>q ds R) (hg:sc.names.lookup x=some .globalImplicit:=by walk_at "u") (hn:x≠"__name__":=by decide) (hdb:(x == ("__debug__":Str))=false:=by decide)
 (he:∀ env,starEach (e::es) env=(false,eval e env)::starEach es env:=by intro _; walk_at "u") (hpl:∀ env,(backTo pos (starEach es env)).any (·.1)=false:=by intro _; walk_at "u"):dD c (.Call (.Name x p) (e::es) [] pos) ρ R:=λσ H Hf Q S qq =>
 bK (nc hc (by unfold Gl Sw; rw [c.esc]; exact hg) (by rw [c.emg]; exact hm) hv Jr hn hdb (he _) (hpl _))
  (ha σ H Hf _ S λds vs H1 aQ h1 rs g=>hd ds vs H1 aQ Q R g.b rs h1 λz v' H' aq hz rz g2=>qq z v' H' aq hz (rz.weak λp hp=>g.s.free hp) (g.trans g2))
theorem nC (h:ay K H [d] vs):∃ v,vs=[v]/\Rep K H d v:=by
 rw [aH] at h
 obtain ⟨x,r,rfl,h1,h2⟩:=h
 rw [aB] at h2; subst h2
 exact ⟨x,rfl,h1⟩
def yr (K:Rr) (r:List V->Hp->VK->Prop) (p:List D->(D->Prop)->Prop):Prop :=
 ∀ (ds:List D) (vs:List V) (H Hf:Hp) (Q:VK) (R:D->Prop),aN Hf H->ay K Hf ds vs->p ds R->(∀ d v H' aq,R d->Rep K aq d v->bx H Hf H' aq->Q v H')->r vs H Q
theorem qN {id:String} (hc:fT c.X (.builtin id) r) (hd:yr c.X.K r q) (hm:mg x=none) (hv:bootBuiltins x=some (.builtin id))
 (ha:qM c (e::es) ρ λds=>q ds R) (hg:sc.names.lookup x=some .globalImplicit) (hn:x≠"__name__") (hdb:(x == ("__debug__":Str))=false)
 (he:∀ env,starEach (e::es) env=(false,eval e env)::starEach es env) (hpl:∀ env,(backTo pos (starEach es env)).any (·.1)=false):aG c (.Call (.Name x p) (e::es) [] pos) ρ R:=λσ H Hf Q S qq =>
 bK (Aq hc (by unfold Gl Sw; rw [c.esc]; exact hg) (by rw [c.emg]; exact hm) hv Jr hn hdb (he _) (hpl _))
  (ha σ H Hf _ S λds vs H1 aQ h1 rs g=>hd ds vs H1 aQ Q R g.b rs h1 λz v' H' aq hz rz g2=>qq z v' H' aq hz rz (g.trans g2))
theorem MU {id:String} (hc:fT c.X (.type id) r) (hd:yr c.X.K r q) (hm:mg x=none) (hv:bootBuiltins x=some (.type id))
 (ha:qM c (e::es) ρ λds=>q ds R) (hg:sc.names.lookup x=some .globalImplicit) (hn:x≠"__name__") (hdb:(x == ("__debug__":Str))=false)
 (he:∀ env,starEach (e::es) env=(false,eval e env)::starEach es env) (hpl:∀ env,(backTo pos (starEach es env)).any (·.1)=false):aG c (.Call (.Name x p) (e::es) [] pos) ρ R:=λσ H Hf Q S qq =>
 bK (nc hc (by unfold Gl Sw; rw [c.esc]; exact hg) (by rw [c.emg]; exact hm) hv Jr hn hdb (he _) (hpl _))
  (ha σ H Hf _ S λds vs H1 aQ h1 rs g=>hd ds vs H1 aQ Q R g.b rs h1 λz v' H' aq hz rz g2=>qq z v' H' aq hz rz (g.trans g2))
theorem Jz {f:Int->D} {g:Int->V} (hf:∀ i H,Rep K H (f i) (g i)):yr K (λxs H Q=>∃ i,xs=[V.int i]/\Q (g i) H) (λds R=>∃ i,ds=[.int i]/\R (f i)):=by
 rintro ds vs H Hf Q R s rs ⟨i,rfl,hR⟩ q
 obtain ⟨v,rfl,rv⟩:=nC rs
 rw [az] at rv; subst rv
 exact ⟨i,rfl,q _ _ H Hf hR (hf i Hf) (.refl s)⟩
theorem MV (hm:mg "abs"=none) (h:aG c e ρ (I1 λi=>R (.int (if i<0 then -i else i)))) (hg:sc.names.lookup (Rp "abs")=some .globalImplicit:=by walk_at "u")
 (he:∀ env,starEach [e] env=(false,eval e env)::starEach [] env:=by intro _; walk_at "u"):aG c (.Call (.Name "abs" p) [e] [] pos) ρ R :=
 qN Ao (Jz (f:=λi=>.int (if i<0 then -i else i)) λi H=>az.mpr rfl) hm PyProof.Rows.boot_abs (bC (h.imp λd ⟨i,e,r⟩=>jJ ⟨i,by rw [e],r⟩) he) hg (by decide) (by decide) he (by intro _; rfl)
end
end EV
namespace EV
open PySem PySem.Spec PySem.Calls PyProof.Rows L2
theorem JA (x:bu P w H h a o):∃ u,h.get? a=some u:=by
 cases o with
 | lst xs=>obtain ⟨_,_,_,_,e⟩:=x; exact ⟨_,e⟩
 | tup xs=>obtain ⟨_,_,_,ob,e,_⟩:=x; exact ⟨_,e⟩
 | dK kvs=>obtain ⟨_,_,_,_,o,_,_,e,_⟩:=x; exact ⟨_,e⟩
 | dT kvs=>obtain ⟨_,_,_,_,o,_,_,e,_⟩:=x; exact ⟨_,e⟩
 | set S n=>obtain ⟨o,_,_,_,e,_⟩:=x; exact ⟨_,e⟩
 | ins C dx fs=>obtain ⟨_,_,_,e,_⟩:=x; exact ⟨_,e⟩
 | own y=>exact x
 | xd fs=>obtain ⟨_,⟨_,_,_,e,_⟩,_⟩:=x; exact ⟨_,e⟩
 | rng lo hi=>obtain ⟨_,_,_,e⟩:=x; exact ⟨_,e⟩
 | frz ob u=>obtain ⟨e,_⟩:=x; exact ⟨_,e⟩
 | tbl ps=>exact ⟨_,x⟩
 | met f y=>exact ⟨_,x⟩
 | ext φ =>exact x.2.1
section
variable {K:Rr}
end
open PySem.W Builtin Builtin.ObjectAttr Builtin.Getset_descriptor
structure Rf (K:Rr) (C:Addr):Prop where
 ga:Um K (.ref C) "__getattribute__"=some (some (.builtin "BaseException.__getattribute__"))
 hk:Um K (.ref C) "__getattr__"=some none
 ca:Um K (.ref C) "__class__"=some (some (.builtin "object.__class__"))
 gt:XA K (.builtin "object.__class__") "__get__"=some (some (.builtin "getset_descriptor.__get__"))
 tk:PySem.W.takesIn K (.builtin "object.__class__")=some true
 mo:PySem.W.mroIn K C (.type "object")=some true
 mb:PySem.W.mroIn K C (.type "BaseException")=some true
inductive Hj (K:Rr):D->Value->Prop where
 | non:Hj K .non (.type "NoneType")
 | bl {x:Bool}:Hj K (.bl x) (.type "bool")
 | int {i:Int}:Hj K (.int i) (.type "int")
 | str {x:Str}:Hj K (.str x) (.type "str")
 | lst {ds:List EV.D}:Hj K (.lst ds) (.type "list")
 | tup {ds:List EV.D}:Hj K (.tup ds) (.type "tuple")
 | exc {C:Addr} (k:Rf K C):Hj K (.exc C) (.ref C)
section
variable {K:Rr}
end
section
variable {X:Cx}
theorem oU (I:Inv X aa σ H s) (sb:aN Hf H):∀ (n:Nat) (d e:D) (v:V),mO n d e->Rep X.K Hf d v->Rep X.K Hf e v->d=e:=by
 intro n
 induction n with
 | zero =>
  intro d e v h r1 r2
  cases h with
  | sc h=>cases d <;> cases e <;> simp [jI,jRZ] at h <;> simp_all [Rep]
  | ln=>rw [bL] at r2; subst r2; rw [aZ] at r1; obtain ⟨_,_,e,_⟩:=r1; cases e
  | nl=>rw [bL] at r1; subst r1; rw [aZ] at r2; obtain ⟨_,_,e,_⟩:=r2; cases e
  | tn=>rw [bL] at r2; subst r2; rw [aM] at r1; obtain ⟨_,_,e,_⟩:=r1; cases e
  | nt=>rw [bL] at r1; subst r1; rw [aM] at r2; obtain ⟨_,_,e,_⟩:=r2; cases e
 | succ n ih =>
  have els:∀ (ds es:List D) (xs:List V),(∀ (i:Nat) (d e:D),ds[i]?=some d->es[i]?=some e->mO n d e)->ay X.K Hf ds xs->ay X.K Hf es xs->ds=es:=λds es xs h q1 q2=>by
   apply Wd
   intro i
   cases a:ds[i]? with
   | none =>
    have:ds.length<=i:=by simpa using a
    symm
    rw [List.getElem?_eq_none_iff,q2.length,<- q1.length]; exact this
   | some d =>
    obtain ⟨x,ex,rx⟩:=q1.get a
    obtain ⟨e,ee,re⟩:=q2.get' ex
    rw [ee,ih d e x (h i d e a ee) rx re]
  intro d e v h r1 r2
  cases h with
  | sc h=>cases d <;> cases e <;> simp [jI,jRZ] at h <;> simp_all [Rep]
  | ln=>rw [bL] at r2; subst r2; rw [aZ] at r1; obtain ⟨_,_,e,_⟩:=r1; cases e
  | nl=>rw [bL] at r1; subst r1; rw [aZ] at r2; obtain ⟨_,_,e,_⟩:=r2; cases e
  | tn=>rw [bL] at r2; subst r2; rw [aM] at r1; obtain ⟨_,_,e,_⟩:=r1; cases e
  | nt=>rw [bL] at r1; subst r1; rw [aM] at r2; obtain ⟨_,_,e,_⟩:=r2; cases e
  | tup h =>
   rw [aM] at r1 r2
   obtain ⟨a,xs,rfl,p1,q1⟩:=r1
   obtain ⟨a',ys,e',p2,q2⟩:=r2
   cases e'
   have:=I.jg (aC sb p1) (aC sb p2)
   subst this
   rw [els _ _ _ h q1 q2]
  | lst h =>
   rw [aZ] at r1 r2
   obtain ⟨a,xs,rfl,p1,q1⟩:=r1
   obtain ⟨a',ys,e',p2,q2⟩:=r2
   cases e'
   have:=I.ku (sb.seq p1) (sb.seq p2)
   subst this
   rw [els _ _ _ h q1 q2]
theorem oV {α:Type} [BEq α] [LawfulBEq α] {a b:α} {i:Decidable (a=b)}:(a == b)=@decide (a=b) i:=by
 by_cases h:a=b
 ·subst h; simp
 ·simp [h]
theorem all_range {ds es:List D} (hn:ds.length=n) (hm:es.length=m) (h:n=m):((RI n).all λj=>decide (ds[j]?=es[j]?))=decide (ds=es):=by
 rw [VH,List.all_eq_true]
 simp only [List.mem_range,decide_eq_true_eq]
 constructor
 ·intro q
  apply Wd
  intro i
  by_cases hi:i<n
  ·exact q i hi
  ·rw [TF (by lia),TF (by lia)]
 ·rintro rfl; intro _ _; rfl
theorem vU (h:jI x y=true) (r1:Rep X.K Hf x v) (r2:Rep X.K Hf y v') (e1:RelV v u) (e2:RelV v' u'):RT A s u u' (decide (x=y)):=by
 cases x <;> cases y <;> simp [jI,jRZ] at h <;> simp only [az,dh,bL,fH] at r1 r2 <;> subst r1 <;> subst r2
 case non.non=>cases e1; cases e2; simpa using RT.same _
 case non.bl b=>cases e1; cases e2; simpa using RT.none_bool (A:=A) (s:=s) b
 case non.int i=>cases e1; obtain ⟨t,rfl⟩:=e2; simpa using RT.none_int (A:=A) (s:=s) i t
 case non.str i=>cases e1; obtain ⟨t,rfl⟩:=e2; simpa using RT.none_str (A:=A) (s:=s) i t
 case bl.non b=>cases e1; cases e2; simpa using RT.bool_none (A:=A) (s:=s) b
 case bl.bl a b=>cases e1; cases e2; have q:=RT.bool_bool (A:=A) (s:=s) a b; rw [oV (i:=inferInstance)] at q; simpa using q
 case bl.str a b=>cases e1; obtain ⟨t,rfl⟩:=e2; simpa using RT.bool_str (A:=A) (s:=s) a b t
 case int.non a=>obtain ⟨t,rfl⟩:=e1; cases e2; simpa using RT.int_none (A:=A) (s:=s) a t
 case int.int a b=>obtain ⟨t,rfl⟩:=e1; obtain ⟨t',rfl⟩:=e2; have q:=RT.int_int (A:=A) (s:=s) a t b t'; rw [oV (i:=inferInstance)] at q; simpa using q
 case int.str a b=>obtain ⟨t,rfl⟩:=e1; obtain ⟨t',rfl⟩:=e2; simpa using RT.int_str (A:=A) (s:=s) a t b t'
 case str.non a=>obtain ⟨t,rfl⟩:=e1; cases e2; simpa using RT.str_none (A:=A) (s:=s) a t
 case str.bl a b=>obtain ⟨t,rfl⟩:=e1; cases e2; simpa using RT.str_bool (A:=A) (s:=s) a t b
 case str.int a b=>obtain ⟨t,rfl⟩:=e1; obtain ⟨t',rfl⟩:=e2; simpa using RT.str_int (A:=A) (s:=s) a t b t'
 case str.str a b=>obtain ⟨t,rfl⟩:=e1; obtain ⟨t',rfl⟩:=e2; have q:=RT.str_str (A:=A) (s:=s) a t b t'; rw [oV (i:=inferInstance)] at q; simpa using q
theorem in1_units (A:Around):A.in1.units=A.units+1:=rfl
theorem vV:decide (D.tup ds=D.tup es)=decide (ds=es):=by simp
theorem j6:decide (D.lst ds=D.lst es)=decide (ds=es):=by simp
theorem oW (I:Inv X aa σ H s) {A:Around} (h:∀ (i:Nat) (d e:D),ds[i]?=some d->es[i]?=some e->mO n d e)
 (ih:∀ (d e:D) (v v':V) (u u':Value) (A:Around),mO n d e->Rep X.K Hf d v->Rep X.K Hf e v'->RelV v u->RelV v' u'->A.units+n<cLine->RT A s u u' (decide (d=e)))
 (q1:ay X.K Hf ds xs) (q2:ay X.K Hf es ys) (r1:Vals xs us) (r2:Vals ys ws) (hu:A.in1.units+n<cLine) :
 ∀ j (h1:j<us.toArray.size) (h2:j<ws.toArray.size),RT A.in1 s us.toArray[j] ws.toArray[j] (decide (ds[j]?=es[j]?)):=λj h1 h2=>by
 have l1:=q1.length
 have l2:=q2.length
 have m1:=r1.length
 have m2:=r2.length
 simp only [RP] at h1 h2
 have hd:ds[j]?=some ds[j]:=RU (by lia)
 have he:es[j]?=some es[j]:=RU (by lia)
 obtain ⟨x,ex,rx⟩:=q1.get hd
 obtain ⟨y,ey,ry⟩:=q2.get he
 obtain ⟨u,eu,ru⟩:=r1.get ex
 obtain ⟨u',eu',ru'⟩:=r2.get ey
 have z1:us.toArray[j]=u:=by
  have:=RU h1
  rw [this] at eu
  simpa using eu
 have z2:ws.toArray[j]=u':=by
  have:=RU h2
  rw [this] at eu'
  simpa using eu'
 rw [z1,z2,hd,he]
 have q:=ih _ _ x y u u' A.in1 (h j _ _ hd he) rx ry ru ru' hu
 simpa using q
theorem nD (I:Inv X aa σ H s) (sb:aN Hf H):∀ (n:Nat) (d e:D) (v v':V) (u u':Value) (A:Around),mO n d e->Rep X.K Hf d v->Rep X.K Hf e v'->RelV v u->RelV v' u'->A.units+n<cLine->RT A s u u' (decide (d=e)):=by
 have non:∀ (n:Nat) (d e:D) (v v':V) (u u':Value) (A:Around),A.units<cLine->Rep X.K Hf d v->Rep X.K Hf e v'->RelV v u->RelV v' u' ->
  ((∃ ds,d=.lst ds/\e=.non)\/(∃ ds,d=.non/\e=.lst ds)\/(∃ ds,d=.tup ds/\e=.non)\/(∃ ds,d=.non/\e=.tup ds))->RT A s u u' (decide (d=e)):=by
  intro n d e v v' u u' A hu r1 r2 e1 e2 h
  rcases h with ⟨ds,rfl,rfl⟩ | ⟨ds,rfl,rfl⟩ | ⟨ds,rfl,rfl⟩ | ⟨ds,rfl,rfl⟩
  ·rw [bL] at r2; subst r2; rw [aZ] at r1; obtain ⟨a,xs,rfl,p,_⟩:=r1; cases e1; cases e2
   obtain ⟨its,_,q,_⟩:=I.list (sb.seq p)
   simpa using RT.list_none (A:=A) q.isList hu
  ·rw [bL] at r1; subst r1; rw [aZ] at r2; obtain ⟨a,xs,rfl,p,_⟩:=r2; cases e1; cases e2
   obtain ⟨its,_,q,_⟩:=I.list (sb.seq p)
   simpa using RT.none_list (A:=A) q.isList hu
  ·rw [bL] at r2; subst r2; rw [aM] at r1; obtain ⟨a,xs,rfl,p,_⟩:=r1; cases e1; cases e2
   obtain ⟨its,_,q,_⟩:=I.tuple (aC sb p)
   simpa using RT.tuple_none (A:=A) (show s.heap.IsTuple a its.toArray from q) hu
  ·rw [bL] at r1; subst r1; rw [aM] at r2; obtain ⟨a,xs,rfl,p,_⟩:=r2; cases e1; cases e2
   obtain ⟨its,_,q,_⟩:=I.tuple (aC sb p)
   simpa using RT.none_tuple (A:=A) (show s.heap.IsTuple a its.toArray from q) hu
 intro n
 induction n with
 | zero =>
  intro d e v v' u u' A h r1 r2 e1 e2 hu
  cases h with
  | sc h=>exact vU h r1 r2 e1 e2
  | ln=>exact non 0 _ _ _ _ _ _ A (by lia) r1 r2 e1 e2 (.inl ⟨_,rfl,rfl⟩)
  | nl=>exact non 0 _ _ _ _ _ _ A (by lia) r1 r2 e1 e2 (.inr (.inl ⟨_,rfl,rfl⟩))
  | tn=>exact non 0 _ _ _ _ _ _ A (by lia) r1 r2 e1 e2 (.inr (.inr (.inl ⟨_,rfl,rfl⟩)))
  | nt=>exact non 0 _ _ _ _ _ _ A (by lia) r1 r2 e1 e2 (.inr (.inr (.inr ⟨_,rfl,rfl⟩)))
 | succ n ih =>
  intro d e v v' u u' A h r1 r2 e1 e2 hu
  cases h with
  | sc h=>exact vU h r1 r2 e1 e2
  | ln=>exact non 0 _ _ _ _ _ _ A (by lia) r1 r2 e1 e2 (.inl ⟨_,rfl,rfl⟩)
  | nl=>exact non 0 _ _ _ _ _ _ A (by lia) r1 r2 e1 e2 (.inr (.inl ⟨_,rfl,rfl⟩))
  | tn=>exact non 0 _ _ _ _ _ _ A (by lia) r1 r2 e1 e2 (.inr (.inr (.inl ⟨_,rfl,rfl⟩)))
  | nt=>exact non 0 _ _ _ _ _ _ A (by lia) r1 r2 e1 e2 (.inr (.inr (.inr ⟨_,rfl,rfl⟩)))
  | @tup _ ds es h =>
   have hh:=mO.tup h
   have r1':=r1; have r2':=r2
   rw [aM] at r1 r2
   obtain ⟨a,xs,rfl,p1,q1⟩:=r1
   obtain ⟨b,ys,rfl,p2,q2⟩:=r2
   cases e1; cases e2
   by_cases hab:a=b
   ·subst hab
    have:=oU I sb _ _ _ _ hh r1' r2'
    rw [this]
    simpa using RT.same _
   ·obtain ⟨us,v1,t1,_⟩:=I.tuple (aC sb p1)
    obtain ⟨ws,v2,t2,_⟩:=I.tuple (aC sb p2)
    have key:=US.tuples (A:=A) (s:=s) (show s.heap.IsTuple a us.toArray from t1) (show s.heap.IsTuple b ws.toArray from t2) (by lia) (oW I h ih q1 q2 v1 v2 (by rw [in1_units]; lia))
    have hl1:us.toArray.size=ds.length:=by simp [<- v1.length,q1.length]
    have hl2:ws.toArray.size=es.length:=by simp [<- v2.length,q2.length]
    have e:((RI (min us.toArray.size ws.toArray.size)).all (λj=>decide (ds[j]?=es[j]?)) && us.toArray.size == ws.toArray.size)=decide (D.tup ds=D.tup es):=by
     rw [vV,hl1,hl2]
     by_cases hl:ds.length=es.length
     ·rw [hl,Nat.min_self]
      simp only [beq_self_eq_true,Bool.and_true]
      exact all_range hl rfl rfl
     ·have:¬ ds=es:=λz=>hl (by rw [z])
      simp [hl,this]
    rw [e] at key
    exact .of_refs hab key
  | @lst _ ds es h =>
   have hh:=mO.lst h
   have r1':=r1; have r2':=r2
   rw [aZ] at r1 r2
   obtain ⟨a,xs,rfl,p1,q1⟩:=r1
   obtain ⟨b,ys,rfl,p2,q2⟩:=r2
   cases e1; cases e2
   by_cases hab:a=b
   ·subst hab
    have:=oU I sb _ _ _ _ hh r1' r2'
    rw [this]
    simpa using RT.same _
   ·obtain ⟨us,v1,t1,_⟩:=I.list (sb.seq p1)
    obtain ⟨ws,v2,t2,_⟩:=I.list (sb.seq p2)
    have hl1:us.toArray.size=ds.length:=by simp [<- v1.length,q1.length]
    have hl2:ws.toArray.size=es.length:=by simp [<- v2.length,q2.length]
    by_cases hl:ds.length=es.length
    ·have key:=US.lists (A:=A) (s:=s) t1.isList t2.isList (by rw [hl1,hl2,hl]) (by lia) (oW I h ih q1 q2 v1 v2 (by rw [in1_units]; lia))
     rw [hl1,all_range rfl hl.symm rfl,<- j6] at key
     exact .of_refs hab key
    ·have key:=US.lists_lengths (A:=A) (s:=s) t1.isList t2.isList (by rw [hl1,hl2]; simpa using hl) (by lia)
     have e:decide (D.lst ds=D.lst es)=false:=by
      rw [j6]; exact decide_eq_false λz=>hl (by rw [z])
     rw [e]
     exact .of_refs hab key
theorem qO (I:Inv X aa σ H s) (sb:aN Hf H) (hu:A.units+50<cLine) (hk:(d=.tup ds/\e=.tup es)\/(d=.lst ds/\e=.lst es)) (h:oS ds es)
 (r1:Rep X.K Hf d v) (r2:Rep X.K Hf e v') (e1:RelV v u) (e2:RelV v' u'):US A s u u' (decide (d=e))/\WD A s u u' (!decide (d=e)):=by
 have ih:=nD I sb 40
 rcases hk with ⟨rfl,rfl⟩ | ⟨rfl,rfl⟩
 ·rw [aM] at r1 r2
  obtain ⟨a,xs,rfl,p1,q1⟩:=r1
  obtain ⟨b,ys,rfl,p2,q2⟩:=r2
  cases e1; cases e2
  obtain ⟨us,v1,t1,_⟩:=I.tuple (aC sb p1)
  obtain ⟨ws,v2,t2,_⟩:=I.tuple (aC sb p2)
  have els:=oW (A:=A) I h ih q1 q2 v1 v2 (by rw [in1_units]; lia)
  have key:=US.tuples (A:=A) (s:=s) (show s.heap.IsTuple a us.toArray from t1) (show s.heap.IsTuple b ws.toArray from t2) (by lia) els
  have key2:=WD.tuples (A:=A) (s:=s) (show s.heap.IsTuple a us.toArray from t1) (show s.heap.IsTuple b ws.toArray from t2) (by lia) els
  have hl1:us.toArray.size=ds.length:=by simp [<- v1.length,q1.length]
  have hl2:ws.toArray.size=es.length:=by simp [<- v2.length,q2.length]
  have e:((RI (min us.toArray.size ws.toArray.size)).all (λj=>decide (ds[j]?=es[j]?)) && us.toArray.size == ws.toArray.size)=decide (D.tup ds=D.tup es):=by
   rw [vV,hl1,hl2]
   by_cases hl:ds.length=es.length
   ·rw [hl,Nat.min_self]
    simp only [beq_self_eq_true,Bool.and_true]
    exact all_range hl rfl rfl
   ·have:¬ ds=es:=λz=>hl (by rw [z])
    simp [hl,this]
  rw [e] at key key2
  exact ⟨key,key2⟩
 ·rw [aZ] at r1 r2
  obtain ⟨a,xs,rfl,p1,q1⟩:=r1
  obtain ⟨b,ys,rfl,p2,q2⟩:=r2
  cases e1; cases e2
  obtain ⟨us,v1,t1,_⟩:=I.list (sb.seq p1)
  obtain ⟨ws,v2,t2,_⟩:=I.list (sb.seq p2)
  have hl1:us.toArray.size=ds.length:=by simp [<- v1.length,q1.length]
  have hl2:ws.toArray.size=es.length:=by simp [<- v2.length,q2.length]
  by_cases hl:ds.length=es.length
  ·have els:=oW (A:=A) I h ih q1 q2 v1 v2 (by rw [in1_units]; lia)
   have key:=US.lists (A:=A) (s:=s) t1.isList t2.isList (by rw [hl1,hl2,hl]) (by lia) els
   have key2:=WD.lists (A:=A) (s:=s) t1.isList t2.isList (by rw [hl1,hl2,hl]) (by lia) els
   rw [hl1,all_range rfl hl.symm rfl,<- j6] at key key2
   exact ⟨key,key2⟩
  ·have key:=US.lists_lengths (A:=A) (s:=s) t1.isList t2.isList (by rw [hl1,hl2]; simpa using hl) (by lia)
   have key2:=WD.lists_lengths (A:=A) (s:=s) t1.isList t2.isList (by rw [hl1,hl2]; simpa using hl) (by lia)
   have e:decide (D.lst ds=D.lst es)=false:=by
    rw [j6]; exact decide_eq_false λz=>hl (by rw [z])
   rw [e]
   exact ⟨key,key2⟩
end
section
variable {K:Rr} {c:Ctx P w K mg base k N sc bk}
noncomputable def E6 (K:Rr) (neg:Bool):R2:=λv u H Q=>∃ x y Hf,aN Hf H/\Rep K Hf x v/\Rep K Hf y u/\MC x y/\Q (.bl (if neg then !decide (x=y) else decide (x=y))) H
theorem A5:fF c.X (compareOp .Eq) (E6 c.X.K false):=λaa s σ H v u v' u' Q I rv ru ⟨x,y,Hf,sb,rx,ry,ok,q⟩=>by
 rcases ok with h | ⟨ds,es,hk,hi⟩
 ·obtain ⟨z1,z2⟩:=vR h rx ry
  exact Me aa s σ H v u v' u' Q I rv ru ⟨z1,by rw [z2]; exact q⟩
 ·exact (qO I sb (by have:=c.room.un; lia) hk hi rx ry rv ru).1 _ _ _ _ ⟨.bl (decide (x=y)),H,I,rfl,q⟩
theorem A6:fF c.X (compareOp .NotEq) (E6 c.X.K true):=λaa s σ H v u v' u' Q I rv ru ⟨x,y,Hf,sb,rx,ry,ok,q⟩=>by
 rcases ok with h | ⟨ds,es,hk,hi⟩
 ·obtain ⟨z1,z2⟩:=vR h rx ry
  exact Mf aa s σ H v u v' u' Q I rv ru ⟨z1,by rw [z2]; exact q⟩
 ·exact (qO I sb (by have:=c.room.un; lia) hk hi rx ry rv ru).2 _ _ _ _ ⟨.bl (!decide (x=y)),H,I,rfl,q⟩
theorem A7:AX K (E6 K false) λx y R=>vP x y R:=λx y v u H Hf Q R s rx ry ⟨h1,h2⟩ q=>⟨x,y,Hf,s,rx,ry,h1,q _ h2⟩
theorem A8:AX K (E6 K true) λx y R=>vP x y λb=>R (!b):=λx y v u H Hf Q R s rx ry ⟨h1,h2⟩ q=>⟨x,y,Hf,s,rx,ry,h1,q _ h2⟩
theorem P4 (h:aG c a ρ λx=>aG c b ρ λy=>vP x y T):je c (.Compare a [.Eq] [b] pos) ρ T:=vQ A5 A7 h (ji b)
theorem P5 (h:aG c a ρ λx=>aG c b ρ λy=>vP x y λb=>T (!b)):je c (.Compare a [.NotEq] [b] pos) ρ T:=vQ A6 A8 h (ji b)
theorem P6 (h:aG c a ρ λx=>aG c b ρ λy=>vP x y λb=>R (.bl b)):aG c (.Compare a [.Eq] [b] pos) ρ R:=G8 A5 A7 h (ji b)
theorem P7 (h:aG c a ρ λx=>aG c b ρ λy=>vP x y λb=>R (.bl (!b))):aG c (.Compare a [.NotEq] [b] pos) ρ R:=G8 A6 A8 h (ji b)
end
section
variable {P:Program} {w:World} {K:Rr} {mg:Str->Option Value} {base:Heap} {k:Nat} {N:List Str} {sc:Scope} {bk:Bool} {c:Ctx P w K mg base k N sc bk} {ρ:List Sl} {pos:Pos} {a b e:Expr} {es:List Expr} {R:D->Prop} {T:Bool->Prop}
theorem gT:∀ {d:D} {v:V},Rep K H d v->decide (v=.non)=decide (d=.non)
 | .non,_,h=>by rw [bL] at h; subst h; simp
 | .bl _,_,h=>by rw [dh] at h; subst h; simp
 | .int _,_,h=>by rw [az] at h; subst h; simp
 | .str _,_,h=>by rw [fH] at h; subst h; simp
 | .tup _,_,h=>by rw [aM] at h; obtain ⟨_,_,rfl,_⟩:=h; simp
 | .lst _,_,h=>by rw [aZ] at h; obtain ⟨_,_,rfl,_⟩:=h; simp
 | .exc _,_,h=>by rw [ET] at h; obtain ⟨_,rfl,_⟩:=h; simp
 | .fdK _ _,_,h=>by rw [gy] at h; obtain ⟨_,_,_,rfl,_⟩:=h; simp
 | .fdT _ _,_,h=>by rw [j4] at h; obtain ⟨_,_,_,rfl,_⟩:=h; simp
 | .adr _,_,h=>by rw [kM] at h; subst h; simp
def A9 (x:D) (T:Bool->Prop):Prop:=T (decide (x=.non))
theorem MW (h:T true):A9 .non T:=by unfold A9; simpa using h
theorem vW (hx:x≠.non) (h:T false):A9 x T:=by unfold A9; rw [decide_eq_false hx]; exact h
theorem MX (h:aG c a ρ λx=>A9 x λb=>R (.bl b)):aG c (.Compare a [.Is] [.Constant .none j p2] pos) ρ R:=λσ H Hf Q S q =>
 bK (Ac (Ab cQ)) (h σ H Hf _ S λx v H' aq hx r g=>by
  have e:=gT r
  rw [e]
  exact q _ _ H' aq hx (dh.mpr rfl) g)
theorem JB (h:aG c a ρ λx=>A9 x λb=>R (.bl (!b))):aG c (.Compare a [.IsNot] [.Constant .none j p2] pos) ρ R:=λσ H Hf Q S q =>
 bK (Ac (Eo cQ)) (h σ H Hf _ S λx v H' aq hx r g=>by
  have e:=gT r
  rw [e]
  exact q _ _ H' aq hx (dh.mpr rfl) g)
theorem MY (h:aG c a ρ λx=>A9 x T):je c (.Compare a [.Is] [.Constant .none j p2] pos) ρ T:=λσ H Hf Q S q =>
 kN (tR (Ab cQ)) (h σ H Hf _ S λx v H' aq hx r g=>by
  have e:=gT r
  exact ⟨_,rfl,by rw [e]; exact q _ H' aq hx g⟩)
noncomputable def D.row:D->Option (List D)
 | .lst ds=>some ds
 | .tup ds=>some ds
 | _=>none
theorem iG (e:d.row=some ds) (h:Rep K H d v):∃ p xs,v=.ref p/\ay K H ds xs/\((d=.lst ds/\fS K H p xs)\/(d=.tup ds/\dG K H p xs)):=by
 cases d with
 | lst _=>cases e; rw [aZ] at h; obtain ⟨p,xs,rfl,h1,h2⟩:=h; exact ⟨p,xs,rfl,h2,.inl ⟨rfl,h1⟩⟩
 | tup _=>cases e; rw [aM] at h; obtain ⟨p,xs,rfl,h1,h2⟩:=h; exact ⟨p,xs,rfl,h2,.inr ⟨rfl,h1⟩⟩
 | _=>cases e
def LM (x y:D) (R:D->Prop):Prop:=∃ ds i d,x.row=some ds/\y=.int i/\jj ds i=some d/\R d
theorem gQ (h:jj ds i=some d) (hR:R d):LM (.lst ds) (.int i) R:=⟨ds,i,d,rfl,rfl,h,hR⟩
theorem Ba (h:jj ds i=some d) (hR:R d):LM (.tup ds) (.int i) R:=⟨ds,i,d,rfl,rfl,h,hR⟩
theorem Bb (h:ay K H ds xs) (e:jj ds i=some d):∃ x,jj xs i=some x/\Rep K H d x:=by
 unfold jj at e |-
 rw [<- h.length]
 obtain ⟨j,e1,e2⟩:=Option.bind_eq_some_iff.mp e
 obtain ⟨x,e3,rx⟩:=h.get e2
 exact ⟨x,by rw [e1]; exact e3,rx⟩
theorem MZ (h:aG c a ρ λx=>aG c b ρ λy=>LM x y R) (hs:j3 b:=by intro _ _; walk_at "u"):aG c (.Subscript a b pos) ρ R:=λσ H Hf Q S q =>
 bK (Mp (G5.or EF Je) cQ cQ hs) (h σ H Hf _ S λx v H1 aQ h1 r1 g1=>h1 σ H1 aQ _ (S.cG g1) λy u H2 cL ⟨ds,i,d,e1,e2,e3,hR⟩ r2 g2=>by
  subst e2
  rw [az] at r2; subst r2
  obtain ⟨p,xs,rfl,hr,hk⟩:=iG e1 (Rep.mono g2.f x r1)
  obtain ⟨z,ez,rz⟩:=Bb hr e3
  have fin:=q d z H2 cL hR rz (g1.trans g2)
  rcases hk with ⟨_,hk⟩ | ⟨_,hk⟩
  ·exact .inl ⟨p,xs,i,z,rfl,rfl,g2.b.seq hk,ez,fin⟩
  ·exact .inr ⟨p,xs,i,z,rfl,rfl,aC g2.b hk,ez,fin⟩)
theorem vX (sb:aN Hf H) {d:D} (h:(d=.lst ds/\fS K Hf p xs)\/(d=.tup ds/\dG K Hf p xs)):fS K H p xs\/dG K H p xs:=h.elim (λz=>.inl (sb.seq z.2)) λz=>.inr (aC sb z.2)
theorem Bc:yr K (λxs H Q=>∃ p ys,xs=[.ref p]/\(fS K H p ys\/dG K H p ys)/\Q (.int ys.length) H) (λds R=>∃ x,ds=[x]/\∃ ys,x.row=some ys/\R (.int ys.length)):=by
 rintro ds vs H Hf Q R s rs ⟨x,rfl,ys,e,hR⟩ q
 obtain ⟨v,rfl,rv⟩:=nC rs
 obtain ⟨p,xs,rfl,hr,hk⟩:=iG e rv
 exact ⟨p,xs,rfl,vX s hk,q _ _ H Hf hR (by rw [hr.length]; exact az.mpr rfl) (.refl s)⟩
theorem e_len (hm:mg "len"=none) (h:aG c e ρ λx=>∃ ys,x.row=some ys/\R (.int ys.length)) (hg:sc.names.lookup (Rp "len")=some .globalImplicit:=by walk_at "u")
 (he:∀ env,starEach [e] env=(false,eval e env)::starEach [] env:=by intro _; walk_at "u"):aG c (.Call (.Name "len" p) [e] [] pos) ρ R :=
 qN oM Bc hm PySem.boot_len (bC (h.imp λd hd=>jJ ⟨d,rfl,hd⟩) he) hg (by decide) (by decide) he (by intro _; walk_at "u")
theorem JC {R:Sl->Prop} (hm:mg "list"=none) (h:aG c e ρ λx=>∃ ys,x.row=some ys/\R (.ow ys)) (hg:sc.names.lookup (Rp "list")=some .globalImplicit:=by walk_at "u")
 (he:∀ env,starEach [e] env=(false,eval e env)::starEach [] env:=by intro _; walk_at "u"):dD c (.Call (.Name "list" p) [e] [] pos) ρ R :=
 MT oN (q:=λds R=>∃ x ys,ds=[x]/\x.row=some ys/\R (.ow ys)) (λds vs H Hf Q R s rs ⟨x,ys,e1,e2,hR⟩ q=>by
  subst e1
  obtain ⟨v,rfl,rv⟩:=nC rs
  obtain ⟨p,xs,rfl,hr,hk⟩:=iG e2 rv
  exact ⟨p,xs,rfl,vX s hk,λl hl=>by
   have g2:=bx.fJ s hl (o:=.lst xs)
   exact q _ _ _ _ hR ⟨l,xs,rfl,hl,af,s.free hl,hr⟩ g2⟩) hm PyProof.Rows.boot_list (bC (h.imp λd ⟨ys,h1,h2⟩=>jJ ⟨d,ys,rfl,h1,h2⟩) he) hg (by decide) (by decide) he (by intro _; walk_at "u")
theorem oX (hm:mg "tuple"=none) (h:aG c e ρ λx=>∃ ys,x.row=some ys/\R (.tup ys)) (hg:sc.names.lookup (Rp "tuple")=some .globalImplicit:=by walk_at "u")
 (he:∀ env,starEach [e] env=(false,eval e env)::starEach [] env:=by intro _; walk_at "u"):aG c (.Call (.Name "tuple" p) [e] [] pos) ρ R :=
 MU mJ (q:=λds R=>∃ x ys,ds=[x]/\x.row=some ys/\R (.tup ys)) (λds vs H Hf Q R s rs ⟨x,ys,e1,e2,hR⟩ q=>by
  subst e1
  obtain ⟨v,rfl,rv⟩:=nC rs
  obtain ⟨p,xs,rfl,hr,hk⟩:=iG e2 rv
  rcases hk with ⟨_,hk⟩ | ⟨_,hk⟩
  ·exact ⟨p,xs,rfl,.inl ⟨s.seq hk,λl hl=>by
    have g2:=bx.new s hl (o:=.tup xs)
    exact q _ _ _ _ hR (aM.mpr ⟨l,xs,rfl,.inl (.inl af),hr.mono g2.f⟩) g2⟩⟩
  ·exact ⟨p,xs,rfl,.inr ⟨aC s hk,q _ _ H Hf hR (aM.mpr ⟨p,xs,rfl,hk,hr⟩) (.refl s)⟩⟩) hm PyProof.Rows.boot_tuple (bC (h.imp λd ⟨ys,h1,h2⟩=>jJ ⟨d,ys,rfl,h1,h2⟩) he) hg (by decide) (by decide) he (by intro _; walk_at "u")
noncomputable def Hl (K:Rr):R2:=λx y H Q=>∃ l b xs zs,x=.ref l/\y=.ref b/\fS K H l xs/\fS K H b zs/\xs.length+zs.length<=sizeLine/\∀ p,H p=none->Q (.ref p) (upd H p (.lst (xs++zs)))
theorem E7:fF X (binaryOp .Add) (Hl X.K):=by
 intro aa s σ H x y v u Q I rx ry h
 obtain ⟨l,b,xs,zs,rfl,rfl,hH,hB,hz,q⟩:=h
 cases rx
 cases ry
 obtain ⟨its,r,hl,z⟩:=I.list hH
 obtain ⟨its2,r2,hl2,z2⟩:=I.list hB
 have e1:=r.length
 have e2:=r2.length
 obtain ⟨⟨cls,dd,data,sl⟩,n,p1,p2,p3,p4⟩:=hl
 obtain ⟨⟨cls2,dd2,data2,sl2⟩,n',q1,q2,q3,q4⟩:=hl2
 simp only at p2 p3 p4 q2 q3 q4
 subst p2 p3 p4 q2 q3 q4
 have ea:its.toArray++its2.toArray=(its++its2).toArray:=by simp
 refine WC ⟨_,p1,rfl⟩ ⟨_,q1,rfl⟩ noFill_list_add seq_list_add PySem.F.slot_list_add PySem.F.entry_list_add (PySem.F.args_list_add_2 _ _) (list_addW l b its.toArray its2.toArray n n' none none sl sl2 (by simp; lia)) ⟨p1,q1,?_⟩
 rw [ea]
 exact ⟨.ref _,_,I.EH (t':=s.toks) (r.append r2) (by rw [R3]; lia),rfl,q _ I.fresh⟩
noncomputable def Be (K:Rr):R2:=λx y H Q=>∃ a b xs ys,x=.ref a/\y=.ref b/\dG K H a xs/\dG K H b ys/\xs.length+ys.length<=sizeLine /\
 (xs=[]->Q (.ref b) H)/\(ys=[]->Q (.ref a) H)/\∀ p,H p=none->Q (.ref p) (upd H p (.tup (xs++ys)))
theorem Bf:fF X (binaryOp .Add) (Be X.K):=by
 intro aa s σ H x y v u Q I rx ry h
 obtain ⟨t,b,xs,ys,rfl,rfl,hH,hB,hz,c1,c2,q⟩:=h
 cases rx
 cases ry
 obtain ⟨vs,r,ht,z⟩:=I.tuple hH
 obtain ⟨ws,r2,hb,z2⟩:=I.tuple hB
 obtain ⟨⟨cls,dd,data,sl⟩,ho,hc,n,hd⟩:=id ht
 obtain ⟨⟨cls2,dd2,data2,sl2⟩,ho2,hc2,n2,hd2⟩:=id hb
 simp only at hc hd hc2 hd2
 subst hc hd hc2 hd2
 have e:vs.toArray++ws.toArray=(vs++ws).toArray:=by simp
 have e1:=r.length
 have e2:=r2.length
 by_cases hv:vs=[]
 ·exact WC ⟨_,ho,rfl⟩ ⟨_,ho2,rfl⟩ XN seq_tuple_add W7 WZ (WV _ _)
   (tuple_addW0 t b vs.toArray ws.toArray n n2 dd dd2 sl sl2 (by simp [hv])) ⟨ho,ho2,⟨.ref b,H,I,rfl,c1 (by rw [Vals.vM r] at hv; exact hv)⟩⟩
 ·by_cases hw:ws=[]
  ·exact WC ⟨_,ho,rfl⟩ ⟨_,ho2,rfl⟩ XN seq_tuple_add W7 WZ (WV _ _)
    (tuple_addW1 t b vs.toArray ws.toArray n n2 dd dd2 sl sl2 (by simpa using hv) (by simp [hw])) ⟨ho,ho2,⟨.ref t,H,I,rfl,c2 (by rw [Vals.vM r2] at hw; exact hw)⟩⟩
  ·refine WC ⟨_,ho,rfl⟩ ⟨_,ho2,rfl⟩ XN seq_tuple_add W7 WZ (WV _ _)
    (tuple_addW2 t b vs.toArray ws.toArray n n2 dd dd2 sl sl2 (by simpa using hv) (by simpa using hw) (by rw [RP,RP]; lia)) ⟨ho,ho2,?_⟩
   rw [e]
   refine ⟨.ref s.heap.objs.size,_,I.laid (t':=s.toks) (o:=.tup (xs++ys)) (λb ob q=>Rx _ q) (Rv _) ?_,rfl,q _ (I.hok.fresh (Rv _))⟩
   exact ⟨by rw [R3]; exact hz,_,r.append r2,IsTup.new _ _⟩
inductive mP:D->D->(Sl->Prop)->Prop where
 | int {i j:Int} {R:Sl->Prop} (h:R (.va (.int (i+j)))):mP (.int i) (.int j) R
 | lst {ds es:List D} {R:Sl->Prop} (h:Sd (ds.length+es.length<=sizeLine) (R (.ow (ds++es)))):mP (.lst ds) (.lst es) R
 | tup {ds es:List D} {R:Sl->Prop} (h:Sd (ds.length+es.length<=sizeLine) (R (.va (.tup (ds++es))))):mP (.tup ds) (.tup es) R
 | str {x y:Str} {R:Sl->Prop} (h:Sd (x.length+y.length<=sizeLine) (R (.va (.str (x++y))))):mP (.str x) (.str y) R
theorem jK (h:ay K H ds []):ds=[]:=by
 have:=h.length; cases ds with
 | nil=>rfl
 | cons _ _=>simp at this
theorem E8:OI K (λx y H Q=>(((yi λi j=>V.int (i+j)) x y H Q\/Hl K x y H Q)\/Be K x y H Q)\/∃ i j,x=.str i/\y=.str j/\i.length+j.length<=sizeLine/\Q (.str (i++j)) H) mP:=by
 rintro x y v u H Hf Q R s rx ry h q
 cases h with
 | @int i j _ h =>
  rw [az] at rx ry
  exact .inl (.inl (.inl ⟨i,j,rx,ry,q (.va (.int (i+j))) _ H Hf h (show Rep K Hf (.int (i+j)) _ from az.mpr rfl) (.refl s)⟩))
 | @lst ds es _ h =>
  rw [aZ] at rx ry
  obtain ⟨a,xs,rfl,h1,h2⟩:=rx
  obtain ⟨b,ys,rfl,h3,h4⟩:=ry
  refine .inl (.inl (.inr ⟨a,b,xs,ys,rfl,rfl,s.seq h1,s.seq h3,by rw [<- h2.length,<- h4.length]; exact h.s,λp hp=>?_⟩))
  exact q (.ow (ds++es)) _ _ _ h.r ⟨p,xs++ys,rfl,hp,af,s.free hp,h2.append h4⟩ (bx.fJ s hp)
 | @tup ds es _ h =>
  rw [aM] at rx ry
  obtain ⟨a,xs,rfl,h1,h2⟩:=rx
  obtain ⟨b,ys,rfl,h3,h4⟩:=ry
  refine .inl (.inr ⟨a,b,xs,ys,rfl,rfl,aC s h1,aC s h3,by rw [<- h2.length,<- h4.length]; exact h.s,λe=>?_,λe=>?_,λp hp=>?_⟩)
  ·subst e
   have:=jK h2
   subst this
   exact q (.va (.tup ([]++es))) _ H Hf h.r (show Rep K Hf (.tup ([]++es)) _ from aM.mpr ⟨b,ys,rfl,h3,h4⟩) (.refl s)
  ·subst e
   have:=jK h4
   subst this
   exact q (.va (.tup (ds++[]))) _ H Hf h.r (show Rep K Hf (.tup (ds++[])) _ from aM.mpr ⟨a,xs,rfl,h1,by rw [SJ]; exact h2⟩) (.refl s)
  ·have g:=bx.new s hp (o:=.tup (xs++ys))
   exact q (.va (.tup (ds++es))) _ _ _ h.r (show Rep K _ (.tup (ds++es)) _ from aM.mpr ⟨p,xs++ys,rfl,.inl (.inl af),(h2.append h4).mono g.f⟩) g
 | @str x y _ h =>
  rw [fH] at rx ry
  exact .inr ⟨x,y,rx,ry,h.s,q (.va (.str (x++y))) _ H Hf h.r (show Rep K Hf (.str (x++y)) _ from fH.mpr rfl) (.refl s)⟩
theorem Ho {R:Sl->Prop} (h:aG c a ρ λx=>aG c b ρ λy=>mP x y R):dD c (.BinOp a .Add b pos) ρ R :=
 mK (fF.or (fF.or (fF.or IP E7) Bf) tW) E8 h
noncomputable def cutD {α:Type} (xs:List α) (lo hi:Option Int):List α:=(xs.drop (HT.b9 xs.length 0 lo)).take (HT.b9 xs.length xs.length hi - HT.b9 xs.length 0 lo)
theorem qP (h:ay K H ds xs) (lo hi):ay K H (cutD ds lo hi) (oH xs lo hi):=by
 unfold cutD oH
 rw [h.length]
 exact (h.drop _).take _
noncomputable def bP (X:Cx) (e:Option Expr):TO:=λσ H Q=>∀ aa s,Inv X aa σ H s->wpAny (model X.prog X.w) X.A (evalPart e X.env) (λu s'=>∃ o H',Inv X aa σ H' s'/\IsPart u o/\Q o H') X.xe s
theorem M0 {X:Cx} {e:Option Expr}:PO X e (bP X e):=λaa s σ H Q I h=>h aa s I
def Ec (c:Ctx P w K mg base k N sc bk) (e:Option Expr) (ρ:List Sl) (R:Option Int->Prop):Prop :=
 ∀ (σ:L2.St) (H Hf:Hp) (Q:Option Int->Hp->Prop),bw c σ H Hf ρ->(∀ o H' aq,R o->bx H Hf H' aq->Q o H')->bP c.X e σ H Q
theorem JD {R:Option Int->Prop} (h:R none):Ec c none ρ R:=λσ H Hf Q S q aa s I=>EC aa s σ H Q I (q none H Hf h (.refl S.sb))
theorem JE {R:Option Int->Prop} (h:aG c e ρ (I1 λi=>R (some i))):Ec c (some e) ρ R:=λσ H Hf Q S q aa s I =>
 ED cQ aa s σ H Q I (h σ H Hf _ S λd v H' aq ⟨i,e,hR⟩ r g=>by subst e; rw [az] at r; exact ⟨i,r,q _ H' aq hR g⟩)
noncomputable def M3 (K:Rr):V->Option Int->Option Int->Hp->VK->Prop:=λx lo hi H Q=>∃ a xs,x=.ref a/\dG K H a xs /\
 (HT.b9 xs.length 0 lo=0/\HT.b9 xs.length xs.length hi=xs.length)/\Q (.ref a) H
theorem gK {lo hi:Option Int} (ht:IsTup s.heap t items) (hs:s.heap.IsSliceOf sl vl vu .none) (pl:IsPart vl lo) (pu:IsPart vu hi)
 (hw:HT.b9 items.size 0 lo=0/\HT.b9 items.size items.size hi=items.size) (h:Q (.ref t) s):wpAny (model prog w) A (getItem (.ref t) (.ref sl)) Q E s:=by
 obtain ⟨os,hos,hcs,hds⟩:=id hs
 have hTs:s.TypeIs (.ref sl) "slice":=⟨os,hos,hcs⟩
 unfold getItem
 try with_reducible refine Tw ?_
 first | refine Rq (Rt ?_) | skip
 refine Rq (Xw ht.typeIs (by decide) ?_)
 refine Rq (Ug (name:=Rp "__getitem__") ht.typeIs UW
  (TV UW ht.typeIs entry_tuple_getitem ?_ (args_tuple_getitem _ _)))
 show wpAny _ _ (Builtin.Tuple.tupleItemsOf (.ref t) >>= _) _ _ s
 refine Rq (tupleItemsOf_ ht ?_)
 refine Rq (UM hTs ?_)
 rw [if_pos (by decide)]
 refine Rq (HT.fh hs pl pu ?_)
 have hyes:((((HT.b9 items.size 0 lo:Nat):Int) == 0 && (1:Int) == 1 && (HT.b9 items.size items.size hi - HT.b9 items.size 0 lo) == items.size)=true):=by
  rw [hw.1,hw.2]; simp
 show wpAny _ _ (if (((HT.b9 items.size 0 lo:Nat):Int) == 0 && (1:Int) == 1 && (HT.b9 items.size items.size hi - HT.b9 items.size 0 lo) == items.size)=true then _ else _) _ _ s
 rw [if_pos hyes]
 obtain ⟨⟨cls,dd,data,sl'⟩,ho,hc,n,hd⟩:=id ht
 simp only at hc hd
 subst hc hd
 unfold Builtin.Tuple.tupleIsExact
 wp_walk using V2 ho
 exact ⟨_,rfl,Rt h⟩
theorem Bg:Eb X (M3 X.K):=by
 intro aa s σ H x v vl vu lo hi sl Q I rx hs pl pu h
 obtain ⟨a,xs,rfl,hx,hw,q⟩:=h
 cases rx
 obtain ⟨its,r,ht,hz⟩:=I.tuple hx
 have hlen:its.toArray.size=xs.length:=by rw [RP]; exact r.length.symm
 refine ⟨"tuple",_,UW.lookup,ht.typeIs,?_⟩
 exact gK ht hs pl pu (by rw [hlen]; exact hw) ⟨.ref a,H,I,rfl,q⟩
inductive Hq:D->Option Int->Option Int->(Sl->Prop)->Prop where
 | lst {ds:List D} {lo hi:Option Int} {R:Sl->Prop} (h:R (.ow (cutD ds lo hi))):Hq (.lst ds) lo hi R
 | tup {ds:List D} {lo hi:Option Int} {R:Sl->Prop} (h:R (.va (.tup (cutD ds lo hi)))):Hq (.tup ds) lo hi R
theorem yt {lo hi:Option Int} (h:HT.b9 xs.length 0 lo=0/\HT.b9 xs.length xs.length hi=xs.length):cutD xs lo hi=xs:=by
 unfold cutD; rw [h.1,h.2]; simp
theorem vY {lo hi:Option Expr} {R:Sl->Prop} (h:aG c e ρ λx=>Ec c lo ρ λl=>Ec c hi ρ λu=>Hq x l u R):dD c (.Subscript e (.Slice lo hi none p2) pos) ρ R:=λσ H Hf Q S q =>
 bK (Ax (Eb.or (Eb.or EG Jd) Bg) cQ M0 M0) (h σ H Hf _ S λx v H1 aQ h1 r1 g1=>h1 σ H1 aQ _ (S.cG g1) λl H2 cL h2 g2=>h2 σ H2 cL _ (S.cG (g1.trans g2)) λu H3 Hf3 h3 g3=>by
  have r3:=Rep.mono g3.f x (Rep.mono g2.f x r1)
  have g:=(g1.trans g2).trans g3
  cases h3 with
  | lst h =>
   rw [aZ] at r3
   obtain ⟨a,xs,rfl,k1,k2⟩:=r3
   refine .inl (.inl ⟨a,xs,rfl,g3.b.seq k1,λp hp=>?_⟩)
   exact q _ _ _ _ h ⟨p,_,rfl,g.s.free hp,af,g3.b.free hp,qP k2 l u⟩ (g.trans (bx.fJ g3.b hp))
  | tup h =>
   rw [aM] at r3
   obtain ⟨a,xs,rfl,k1,k2⟩:=r3
   by_cases hw:HT.b9 xs.length 0 l=0/\HT.b9 xs.length xs.length u=xs.length
   ·refine .inr ⟨a,xs,rfl,aC g3.b k1,hw,?_⟩
    refine q _ _ _ _ h (show Rep c.X.K Hf3 _ _ from aM.mpr ⟨a,xs,rfl,k1,?_⟩) g
    rw [yt (by rw [k2.length]; exact hw)]; exact k2
   ·refine .inl (.inr ⟨a,xs,rfl,aC g3.b k1,hw,λp hp=>?_⟩)
    have g4:=bx.new g3.b hp (o:=.tup (oH xs l u))
    exact q _ _ _ _ h (show Rep c.X.K _ _ _ from aM.mpr ⟨p,_,rfl,.inl (.inl af),(qP k2 l u).mono g4.f⟩) (g.trans g4))
theorem Bh (a:bx H₀ eY H1 aQ) (b:bx H₀ aQ H Hf):bx H₀ eY H Hf :=
 ⟨b.s,a.f.trans b.f,b.b,λc h1 h2 h3=>b.n c (a.n c h1 h2 h3) h2 h3⟩
theorem eT.re (a:bx H₀ eY H1 aQ) (S:eT K H₀ aQ σ H Hf ρ):eT K H₀ eY σ H Hf ρ:=⟨Bh a S.bas,S.len,S.at_,S.sep⟩
theorem eT.anew (S:eT K H₀ eY σ H Hf ρ):eT K H₀ Hf σ H Hf ρ:=⟨⟨S.bas.s,.refl _,S.bas.b,λ_ h _ _=>h⟩,S.len,S.at_,S.sep⟩
noncomputable def Ctx.at_ (c:Ctx P w K mg base k N sc bk) {H1 aQ:Hp} (a:bx c.B c.Hf H1 aQ):Ctx P w K mg base k N sc bk :=
 { X:=c.X,eP:=c.eP,ew:=c.ew,eK:=c.eK,emg:=c.emg,eb:=c.eb,eN:=c.eN,esc:=c.esc,calm:=c.calm,top:=c.top,cb:=c.cb,fn:=c.fn,room:=c.room,nd:=c.nd,vis:=c.vis,B:=c.B,Hf:=aQ,RX:=c.RX,RM:=c.RM,
   exc:=λC x aa σ H aq ρ s H' s' I S h X sm=>c.exc C x aa σ H aq ρ s H' s' I (S.re a) h X sm,mde:=λC x aa σ H aq ρ s h' us I S h hx=>c.mde C x aa σ H aq ρ s h' us I (S.re a) h hx }
theorem AQ.at_ {nx:List Sl->Prop} {p:Pt} {D:Ends} {H1 aQ:Hp} (a:bx c.B c.Hf H1 aQ) (o:AQ c nx p D):AQ (c.at_ a) nx p D :=
 ⟨λσ H Hf ρ S q=>o.nx σ H Hf ρ (eT.re a S) q,λr v H Hf g rv q=>o.rt r v H Hf (Bh a g) rv q,λσ H Hf ρ S q=>o.bk σ H Hf ρ (eT.re a S) q,λσ H Hf ρ S q=>o.ct σ H Hf ρ (eT.re a S) q⟩
noncomputable def bI (X:Cx) (tg iter:Expr):TI:=λσ H R=>∀ aa s,Inv X aa σ H s->wpAny (model X.prog X.w) X.A (eval iter X.env) (λv s1=>wpAny (model X.prog X.w) X.A (pyIter v) (Pf X aa σ tg R) X.xe s1) X.xe s
theorem Rg {X:Cx} {tg iter:Expr}:PI X tg iter (bI X tg iter):=λaa s σ H R I h=>h aa s I
structure jl (K:Rr) (J:It) (ds:List D) (eY:Hp):Prop where
 go:∀ i d H Hf,aN eY Hf->aN Hf H->ds[i]?=some d->J.go i H/\∀ x H',J.yld i H x H'->∃ aq,bx H Hf H' aq/\Rep K aq d x
 stop:∀ i H Hf,aN eY Hf->aN Hf H->ds.length<=i->J.stop i H
def zV (c:Ctx P w K mg base k N sc bk) (tg iter:Expr) (ρ:List Sl) (R:List D->Prop):Prop :=
 ∀ (σ:L2.St) (H Hf:Hp) (Q:It->Hp->Prop),bw c σ H Hf ρ->(∀ ds J H' aq,R ds->bx H Hf H' aq->jl c.X.K J ds aq->Q J H')->bI c.X tg iter σ H Q
theorem yu {K:Rr} {ds:List D} {xs:List V} {p:Addr} {eY:Hp} (h:fS K eY p xs) (r:ay K eY ds xs):jl K (Pg K p) ds eY where
 go:=λi d H Hf s1 s2 e=>by
  obtain ⟨x,ex,rx⟩:=r.get e
  refine ⟨⟨xs,x,(s1.trans s2).seq h,ex⟩,λy H' ⟨e1,e2⟩=>?_⟩
  subst e1
  have:=e2 xs ((s1.trans s2).seq h)
  rw [ex] at this; cases this
  exact ⟨Hf,.refl s2,Rep.mono s1 d rx⟩
 stop:=λi H Hf s1 s2 e=>⟨xs,(s1.trans s2).seq h,by rw [<- r.length]; exact e⟩
theorem Bj {K:Rr} {ds:List D} {xs:List V} {p:Addr} {eY:Hp} (h:dG K eY p xs) (r:ay K eY ds xs):jl K (Ph K p) ds eY where
 go:=λi d H Hf s1 s2 e=>by
  obtain ⟨x,ex,rx⟩:=r.get e
  refine ⟨⟨xs,x,aC (s1.trans s2) h,ex⟩,λy H' ⟨e1,e2⟩=>?_⟩
  subst e1
  have:=e2 xs (aC (s1.trans s2) h)
  rw [ex] at this; cases this
  exact ⟨Hf,.refl s2,Rep.mono s1 d rx⟩
 stop:=λi H Hf s1 s2 e=>⟨xs,aC (s1.trans s2) h,by rw [<- r.length]; exact e⟩
noncomputable def P8 (K:Rr) (tl:TE):TI:=λσ H R=>tl σ H λx H1=>∃ a,x=.ref a/\(((∃ xs,fS K H1 a xs)/\R (Pg K a) H1)\/((∃ xs,dG K H1 a xs)/\R (Ph K a) H1))
theorem JF (hl:PE X l tl):PI X tg l (P8 X.K tl):=by
 intro aa s σ H R I h
 refine bB (hl aa s σ H _ I h) λv s1 ⟨x,H1,I1,r1,q1⟩=>?_
 obtain ⟨a,e,h⟩:=q1
 subst e
 cases r1
 rcases h with ⟨⟨xs,hq⟩,q⟩ | ⟨⟨xs,hq⟩,q⟩
 ·obtain ⟨its,rv,p,hz⟩:=I1.list hq
  refine Vx p.isList ?_
  refine ⟨s1.heap.objs.size,[s1.heap.objs.size],_,_,H1,rfl,I1.kept (t':=s1.toks) λb o e=>Rx _ e,yf a _,⟨_,RK _ rfl,rfl,rfl⟩,λb hb=>?_,q⟩
  have e:b=s1.heap.objs.size:=by simpa using hb
  subst e
  exact I1.mE (Rv _) (I1.hok.fresh (Rv _))
 ·obtain ⟨its,rv,p,hz⟩:=I1.tuple hq
  refine Xn (show s1.heap.IsTuple a its.toArray from p) ?_
  refine ⟨s1.heap.objs.size,[s1.heap.objs.size],_,_,H1,rfl,I1.kept (t':=s1.toks) λb o e=>Rx _ e,tS a _,⟨_,RK _ rfl,rfl,rfl⟩,λb hb=>?_,q⟩
  have e:b=s1.heap.objs.size:=by simpa using hb
  subst e
  exact I1.mE (Rv _) (I1.hok.fresh (Rv _))
theorem cu {R:List D->Prop} (h:aG c e ρ λd=>∃ ds,d.row=some ds/\R ds):zV c tg e ρ R:=λσ H Hf Q S q aa s I =>
 JF cQ aa s σ H Q I (h σ H Hf _ S λd v H' aq ⟨ds,er,hR⟩ r g=>by
  obtain ⟨p,xs,rfl,hr,hk⟩:=iG er r
  refine ⟨p,rfl,?_⟩
  rcases hk with ⟨_,hk⟩ | ⟨_,hk⟩
  ·exact .inl ⟨⟨xs,g.b.seq hk⟩,q ds _ H' aq hR g (yu hk hr)⟩
  ·exact .inr ⟨⟨xs,aC g.b hk⟩,q ds _ H' aq hR g (Bj hk hr)⟩)
noncomputable def qQ (lo:Int) (n:Nat):List D:=(RI n).map λ(i:Nat)=>D.int (lo+(i:Int))
theorem Bk {K:Rr} {lo:Int} {n:Nat} {eY:Hp}:jl K (OG lo n) (qQ lo n) eY where
 go:=λi d H Hf s1 s2 e=>by
  unfold qQ at e
  rw [RO] at e
  obtain ⟨j,e1,e2⟩:=RV.mp e
  have hi:i<n:=by
   have:=(RJ.mp e1).1
   simpa using this
  have:j=i:=by
   rw [Vv hi] at e1; cases e1; rfl
  subst this
  refine ⟨hi,λx H' ⟨e3,e4⟩=>?_⟩
  subst e3 e4 e2
  exact ⟨Hf,.refl s2,az.mpr rfl⟩
 stop:=λi H Hf s1 s2 e=>by
  show n<=i
  simpa [qQ] using e
def Bl (i:Int):Prop:= -(2 ^ 62)<=i/\i<2 ^ 62
theorem d9 {R:List D->Prop} (hm:mg "range"=none) (h:aG c e ρ (I1 λj=>Sd (Bl j) (R (qQ 0 j.toNat)))) (hg:sc.names.lookup (Rp "range")=some .globalImplicit:=by walk_at "u")
 (hs:∀ env,starEach [e] env=(false,eval e env)::starEach [] env:=by intro _; walk_at "u"):zV c tg (.Call (.Name "range" p) [e] [] pos) ρ R:=λσ H Hf Q S q aa s I =>
 yg (by unfold Gl Sw; rw [c.esc]; exact hg) (by rw [c.emg]; exact hm) (bQ cQ d8 (hs _)) (hs _) aa s σ H Q I (h σ H Hf _ S λd v H' aq ⟨j,ed,⟨hj,hR⟩⟩ r g=>by
  subst ed; rw [az] at r; subst r
  exact ⟨j,rfl,hj.1,hj.2,q _ _ H' aq hR g Bk⟩)
theorem cP {tg iter:Expr} {body:List Stmt} {nx:List Sl->Prop} {p:Pt} (hq:c.X.xe=λ_ _=>False)
 (h:zV c tg iter ρ λds=>∃ I:Nat->List Sl->Prop,I 0 ρ /\
   (∀ c':Ctx P w K mg base k N sc bk,c'.X=c.X->c'.RX=c.RX->c'.RM=c.RM->∀ i d ρ',ds[i]?=some d->I i ρ'->oQ c' tg d ρ' λρ''=>aE c' body ρ'' (I (i+1)) { rt:=p.rt,bk:=nx,ct:=I (i+1) })/\∀ ρ',I ds.length ρ'->nx ρ')
 (hs:∀ env x,foldedSetIterable iter env x=pure x:=by intro _ _; walk_at "u"):fX c (.For tg iter body [] pos) ρ nx p:=λσ H Hf D S o =>
 eU (IK (by rw [hq]; exact PassesOwn.never) c.calm Rg Rc ud (hs _)) (h σ H Hf _ S λds J H1 aQ ⟨I,h0,hb,he⟩ g io=>by
  have S1:=S.cG g
  have gb:bx c.B c.Hf H1 aQ:=S1.bas
  refine ⟨λi m σ H=>m=ds.length - i/\i<=ds.length/\∃ Hf ρ',bw (c.at_ gb) σ H Hf ρ'/\I i ρ',⟨_,rfl,RY _,aQ,ρ,S1.anew,h0⟩,?_⟩
  rintro i m σ H ⟨rfl,hi,Hf,ρ',S',hI⟩
  by_cases hlt:i<ds.length
  ·have ed:ds[i]?=some ds[i]:=RU hlt
   obtain ⟨hgo,hy⟩:=io.go i _ H Hf S'.bas.f S'.bas.b ed
   refine .inr ⟨hgo,λσ' H'=>∃ aq ρ'',bw (c.at_ gb) σ' H' aq ρ''/\I (i+1) ρ'',λσ' H' ⟨aq,ρ'',S'',hI'⟩=>⟨_,by omega,rfl,hlt,aq,ρ'',S'',hI'⟩,λx H' hx=>?_⟩
   obtain ⟨aq,g',rx⟩:=hy x H' hx
   refine hb (c.at_ gb) rfl rfl rfl i _ ρ' ed hI σ H' aq x _ (S'.cG g') rx λσ2 H2 cL ρ2 S2 _ hbody=>?_
   exact hbody σ2 H2 cL _ S2 ⟨λσ H Hf ρ S q=>⟨Hf,ρ,S,q⟩,(o.at_ gb).rt,λσ H Hf ρ S q=>(o.at_ gb).nx σ H Hf ρ S q,λσ H Hf ρ S q=>⟨Hf,ρ,S,q⟩⟩
  ·have e:i=ds.length:=by omega
   subst e
   exact .inl ⟨io.stop _ H Hf S'.bas.f S'.bas.b (Rv _),(o.at_ gb).nx σ H Hf ρ' S' (he ρ' hI)⟩)
end
section
variable {K:Rr}
end
section
variable {K:Rr}
theorem aJ (h:R d):G7 R (.va d):=⟨d,rfl,h⟩
theorem bF (h:R (.lst ds)):G7 R (.ow ds):=⟨.lst ds,rfl,h⟩
theorem JG (h:aG c a ρ λx=>aG c b ρ λy=>mP x y (G7 R)):aG c (.BinOp a .Add b pos) ρ R:=e_x (Ho h)
theorem qM.imp {R R':List D->Prop} (h:qM c es ρ R) (hi:∀ d,R d->R' d):qM c es ρ R':=λσ H Hf Q S q=>h σ H Hf Q S λd v H' aq rd=>q d v H' aq (hi d rd)
theorem JH (h:qM c es ρ λds=>Sd (ds.length<=sizeLine) (R (.lst ds))):aG c (.List es pos) ρ R:=e_x (Hh (h.imp λds hd=>⟨hd.s,bF hd.r⟩))
theorem qR {lo hi:Option Expr} (h:aG c e ρ λx=>Ec c lo ρ λl=>Ec c hi ρ λu=>Hq x l u (G7 R)):aG c (.Subscript e (.Slice lo hi none p2) pos) ρ R:=e_x (vY h)
theorem Bm {R:Sl->Prop} (h:R (.va (.int (i+j)))):mP (.int i) (.int j) R:=.int h
theorem Bo {ds es:List D} {R:Sl->Prop} (h:Sd (ds.length+es.length<=sizeLine) (R (.ow (ds++es)))):mP (.lst ds) (.lst es) R:=.lst h
theorem iH (h:aG c a ρ λx=>aG c b ρ λy=>LM x y R) (hs:j3 b:=by with_unfolding_all exact λ_ _=>rfl):aG c (.Subscript a b pos) ρ R:=MZ h hs
theorem M4 {x:D} {Q:List D->Prop} (e:x.row=some ds) (h:Q ds):∃ ys,x.row=some ys/\Q ys:=⟨ds,e,h⟩
theorem ah {F:Fn} {R:Sl->Prop} (h:F ds (.ok sl)) (r:R sl):∃ r,F ds r/\Jy c ρ R r:=⟨_,h,r⟩
end
section
variable {K:Rr}
end
noncomputable def del (H:Hp) (p:Addr):Hp:=λb=>if b=p then none else H b
theorem iI:del H p p=none:=if_pos rfl
theorem bU (h:b≠p):del H p b=H b:=if_neg h
theorem Bp (h:H₀ p=none) (s:aN H₀ H):aN H₀ (del H p):=λb o e=>by
 rw [bU (aF e h)]; exact s b o e
theorem iJ (h:del H p b=some o):b≠p/\H b=some o:=by
 by_cases e:b=p
 ·subst e; rw [iI] at h; cases h
 ·rw [bU e] at h; exact ⟨e,h⟩
theorem gz (sb:aN Hf H) (hp:Hf p=none):bx (del H p) Hf (upd H p o) Hf :=
 ⟨λb u e=>by obtain ⟨h1,h2⟩:=iJ e; rw [av h1]; exact h2,.refl _,λb u e=>by rw [av (aF e hp)]; exact sb b u e,λ_ h _ _=>h⟩
section
variable {K:Rr}
theorem br.Hr (ho:r.owned=true) (h:br K fr H Hf r v):∃ p o,v=.ref p/\fr p/\H p=some o/\Hf p=none/\¬ AL H p:=by
 have nf:∀ {p:Addr} {u:HO},H p=some u->(∀ φ,u≠.ext φ)->¬ AL H p:=λe k ⟨z,e2⟩=>by rw [e] at e2; exact k _ (TJ e2)
 cases r with
 | un=>cases ho
 | va d=>cases ho
 | fo s=>cases ho
 | ow ds=>obtain ⟨p,xs,rfl,f,h1,h2,_⟩:=h; exact ⟨p,_,rfl,f,h1,h2,nf h1 (by intro _ z; cases z)⟩
 | oT ds=>obtain ⟨p,xs,rfl,f,h1,h2,_⟩:=h; exact ⟨p,_,rfl,f,h1,h2,nf h1 (by intro _ z; cases z)⟩
 | oK ds=>obtain ⟨p,xs,rfl,f,h1,h2,_⟩:=h; exact ⟨p,_,rfl,f,h1,h2,nf h1 (by intro _ z; cases z)⟩
 | aw a ds=>obtain ⟨p,xs,rfl,f,h1,h2,_⟩:=h; exact ⟨p,_,rfl,f.1,h1,h2,nf h1 (by intro _ z; cases z)⟩
 | aT a ds=>obtain ⟨p,xs,rfl,f,h1,h2,_⟩:=h; exact ⟨p,_,rfl,f.1,h1,h2,nf h1 (by intro _ z; cases z)⟩
 | aK a ds=>obtain ⟨p,xs,rfl,f,h1,h2,_⟩:=h; exact ⟨p,_,rfl,f.1,h1,h2,nf h1 (by intro _ z; cases z)⟩
theorem br.qS (ho:r.owned=true) (h:br K fr H Hf r v):∃ p o,v=.ref p/\fr p/\H p=some o/\Hf p=none :=
 let ⟨p,o,a,b,c,d,_⟩:=h.Hr ho; ⟨p,o,a,b,c,d⟩
theorem br.M5 (nf:¬ AL H p) (hv:r.owned=true->v≠.ref p) (h:br K fr H Hf r v):br K fr (del H p) Hf r v :=
 br.mv (B:=λq=>q=p) (.refl _) (λq o hq e1 _ e3=>⟨by rw [bU hq]; exact e1,e3⟩) (λ_ q e=>by subst e; exact nf) (λho q z e=>by subst e; exact hv ho z) h
theorem eT.own (S:eT K H₀ eY σ H Hf ρ) {i:Nat} (hi:ρ[i]?=some r) (ho:r.owned=true):∃ p,σ[i]?=some (some (.ref p))/\br K (λp=>H₀ p=none) H Hf r (.ref p):=by
 obtain ⟨v,e,q⟩:=S.at_ i r hi (by rintro rfl; cases ho)
 obtain ⟨p,o,rfl,_⟩:=q.qS ho
 exact ⟨p,e,q⟩
theorem eT.upd (S:eT K H₀ eY σ H Hf ρ) (hi:ρ[i]?=some r) (ho:r.owned=true) (hp:σ[i]?=some (some (.ref p))) (g:bx (del H p) Hf H1 aQ)
 (hr:br K (λq=>q=p) H1 aQ r' (.ref p)) (ho':r'.owned=true):eT K H₀ eY σ H1 aQ (ρ.set i r'):=by
 obtain ⟨p',ep,q⟩:=S.own hi ho
 rw [hp] at ep; cases ep
 obtain ⟨_,o,e,fp,hHp,hfp,nfz⟩:=q.Hr ho
 cases e
 have hlt:i<ρ.length:=(RJ.mp hi).1
 refine ⟨⟨(Bp fp S.bas.s).trans g.s,S.bas.f.trans g.f,g.b,λb h1 h2 h3=>?_⟩,by simp [S.len],λj r1 hj hu=>?_,λj j' r1 r2 q' hne h1 h2 o1 o2=>?_⟩
 ·have hb:b≠p:=λz=>by subst z; exact h2 fp
  cases z:H₀ b with
  | none=>exact absurd z h2
  | some o1 =>
   have e1:=S.bas.s b o1 z
   refine g.n b (S.bas.n b h1 h2 h3) (by rw [bU hb,e1]; simp) λxs=>?_
   rw [bU hb,e1,<- z]; exact h3 xs
 ·by_cases e:j=i
  ·subst e
   rw [SQ hlt] at hj; cases hj
   exact ⟨_,hp,hr.weak λq' z=>by subst z; exact fp⟩
  ·rw [SS (RS e)] at hj
   obtain ⟨v,e1,e2⟩:=S.at_ j r1 hj hu
   exact ⟨v,e1,(e2.M5 (p:=p) nfz λow z=>by subst z; exact S.sep i j _ _ p (RS e) hi hj ho ow hp e1).cG g⟩
 ·have out:∀ {j:Nat} {r1:Sl},(ρ.set i r')[j]?=some r1->r1.owned=true->∃ r2,ρ[j]?=some r2/\r2.owned=true:=λ{j r1} hj how=>by
   by_cases e:j=i
   ·subst e; exact ⟨r,hi,ho⟩
   ·rw [SS (RS e)] at hj; exact ⟨r1,hj,how⟩
  obtain ⟨r3,a1,a2⟩:=out h1 o1
  obtain ⟨r4,b1,b2⟩:=out h2 o2
  exact S.sep j j' r3 r4 q' hne a1 b1 a2 b2
end
section
variable {K:Rr} {c:Ctx P w K mg base k N sc bk}
theorem Ctx.mQ (c:Ctx P w K mg base k N sc bk) (hN:At N i x) (hd:(x == ("__debug__":Str))=false) (hcd:(x == ("__classdict__":Str))=false):PE c.X (.Name x px) (LX i) :=
 oA (X:=c.X) (i:=i) (by rw [c.eN]; exact hN.get) (by rw [c.esc]; rcases c.vis x hN.mem with h | h; exact .inl h; exact .inr (.inl h)) hd hcd
noncomputable def Sl.getL:Sl->Option (List D) | .ow ds=>some ds | .aw _ ds=>some ds | _=>none
noncomputable def Sl.putL:Sl->List D->Sl | .ow _,es=>.ow es | .aw a _,es=>.aw a es | s,_=>s
theorem dw {r:Sl} (h:r.getL=some ds):r.owned=true:=by cases r <;> first | rfl | cases h
theorem gU {r:Sl} {ds es:List D} (h:r.getL=some ds):(r.putL es).owned=true:=by cases r <;> first | rfl | cases h
theorem JI {p:Addr} (h:r.getL=some ds) (q:br K fr H Hf r (.ref p)):∃ xs,H p=some (.lst xs)/\Hf p=none/\ay K Hf ds xs:=by
 cases r with
 | ow es=>cases h; obtain ⟨_,xs,e,_,h1,h2,h3⟩:=q; cases e; exact ⟨xs,h1,h2,h3⟩
 | aw a es=>cases h; obtain ⟨_,xs,e,_,h1,h2,h3⟩:=q; cases e; exact ⟨xs,h1,h2,h3⟩
 | _=>cases h
theorem kP {ds es:List D} {p:Addr} (h:r.getL=some ds) (q:br K fr H Hf r (.ref p)) (h1:H1 p=some (.lst ys)) (h2:aQ p=none) (h3:ay K aQ es ys) :
 br K (λq=>q=p) H1 aQ (r.putL es) (.ref p):=by
 cases r with
 | ow _=>exact ⟨p,ys,rfl,rfl,h1,h2,h3⟩
 | aw a _=>obtain ⟨_,xs,e,f,_⟩:=q; cases e; exact ⟨p,ys,rfl,⟨rfl,f.2⟩,h1,h2,h3⟩
 | _=>cases h
theorem ug (hN:At N i x) (hi:At ρ i r) (hr:r.getL=some ds) (h:aG c e ρ λd=>Sd (ds.length<sizeLine) (Nx ρ i nx (r.putL (ds++[d]))))
 (hs:∀ env,swapsWith (.Call (.Attribute (.Name x px) "append" ap) [e] [] cp) none pos.line env=pure false:=by intro _; walk_at "u") (hd:(x == ("__debug__":Str))=false:=by decide) (hcd:(x == ("__classdict__":Str))=false:=by decide)
 (hbase:∀ env,attributeBase (.Name x px) "append" env (eval (.Name x px) env)=eval (.Name x px) env:=by intro _; walk_at "u")
 (hfew:∀ env,((backTo cp (starEach [e] env)).all (λx=> !x.1) && (backToKw cp (keywordEach [] env)).all (λx=>x.1.isSome)
   && decide (([e]:List Expr).length+([]:List Keyword).length+(if ([]:List Keyword).isEmpty then 0 else 1)<30))=true:=by intro _; walk_at "u")
 (hline:(ap.endLine == cp.line)=true:=by walk_at "u") (he:∀ env,starEach [e] env=(false,eval e env)::starEach [] env:=by intro _; walk_at "u") (hpl:∀ env,(backTo cp (starEach [] env)).any (·.1)=false:=by intro _; walk_at "u") :
 fX c (.Expr (.Call (.Attribute (.Name x px) "append" ap) [e] [] cp) pos) ρ nx p:=λσ H Hf D S o=>by
 obtain ⟨q,eq,rq⟩:=S.own hi.get (dw hr)
 obtain ⟨xs,h1,h2,h3⟩:=JI hr rq
 refine eU (oE (Mq PySem.F.plainAttrs_list PySem.F.slot_list_append PySem.F.type_list_append ng (c.mQ hN hd hcd) (bQ cQ d8 (he _)) (hbase _) (hfew _) hline (he _) (hpl _)) (hs _)) ⟨_,eq,.inl ⟨rfl,xs,.inl (.inl h1)⟩,?_⟩
 refine h σ H Hf _ S λd v H' aq ⟨hz,ρ',hs',hn⟩ rd g=>?_
 have S':=S.cG g
 have e1:H' q=some (.lst xs):=g.s _ _ h1
 have e2:aq q=none:=g.n q h2 (by rw [h1]; simp) (by intro ys; rw [h1]; simp)
 refine ⟨q,xs,v,rfl,rfl,e1,by rw [<- h3.length]; exact hz,?_⟩
 refine o.nx _ _ aq ρ' ?_ hn
 rw [hs'.eq]
 have rq':=rq.cG g
 exact S'.upd hi.get (dw hr) eq (gz g.b e2) (kP hr rq' af e2 ((h3.mono g.f).append (.one rd))) (gU hr)
end
section
variable {κ β:Type} [DecidableEq κ]
noncomputable def aY (kvs:List (κ×β)) (k:κ):Option β:=(kvs.find? λkv=>decide (kv.1=k)).map (·.2)
noncomputable def putD (kvs:List (κ×β)) (k:κ) (v:β):List (κ×β) :=
 if (aY kvs k).isSome=true then kvs.map (λkv=>if kv.1=k then (kv.1,v) else kv) else kvs++[(k,v)]
theorem bq {q:κ×β} {r:List (κ×β)} {k:κ} (e:q.1=k):aY (q::r) k=some q.2:=by simp [aY,Th,e]
theorem aV {q:κ×β} {r:List (κ×β)} {k:κ} (e:¬ q.1=k):aY (q::r) k=aY r k:=by simp [aY,Th,e]
end
noncomputable def D.yv:D->Option Key | .int i=>some (.inl i) | .str x=>some (.inr x) | _=>none
noncomputable def D.keys:List D->Option (List Key)
 | []=>some []
 | d::r=>match d.yv,D.keys r with | some k,some ks=>some (k::ks) | _,_=>none
theorem iK {K:Rr} (h:d.yv=some k) (r:Rep K H d v):v=kV k:=by
 cases d with
 | int i=>cases h; exact az.mp r
 | str x=>cases h; exact fH.mp r
 | _=>cases h
theorem jm {K:Rr}:∀ {ds:List D} {ks:List Key} {xs:List V},D.keys ds=some ks->ay K H ds xs->xs=ks.map kV
 | [],ks,xs,h,r=>by cases h; rw [aB.mp r]; rfl
 | d::ds,ks,xs,h,r=>by
  obtain ⟨x,t,rfl,r1,r2⟩:=aH.mp r
  unfold D.keys at h
  cases e1:d.yv with
  | none=>rw [e1] at h; cases h
  | some k =>
   cases e2:D.keys ds with
   | none=>rw [e1,e2] at h; cases h
   | some ks' =>
    rw [e1,e2] at h; cases h
    rw [iK e1 r1,jm e2 r2]; rfl
noncomputable def Sl.Hs:Sl->Bool | .oK _=>true | .aK _ _=>true | .oT _=>true | .aT _ _=>true | _=>false
theorem qT {r:Sl} (h:r.Hs=true):r.owned=true:=by cases r <;> first | rfl | cases h
noncomputable def Sl.uh:Sl->Option (List (Key×D)) | .oK kvs=>some kvs | .aK _ kvs=>some kvs | _=>none
noncomputable def Sl.qU:Sl->List (Key×D)->Sl | .oK _,es=>.oK es | .aK a _,es=>.aK a es | s,_=>s
noncomputable def Sl.yw:Sl->Option (List (List Key×D)) | .oT kvs=>some kvs | .aT _ kvs=>some kvs | _=>none
noncomputable def Sl.Bq:Sl->List (List Key×D)->Sl | .oT _,es=>.oT es | .aT a _,es=>.aT a es | s,_=>s
theorem kQ {r:Sl} (h:r.uh=some kvs):r.owned=true:=by cases r <;> first | rfl | cases h
theorem kR {r:Sl} (h:r.uh=some kvs):(r.qU es).owned=true:=by cases r <;> first | rfl | cases h
theorem um {r:Sl} (h:r.yw=some kvs):(r.Bq es).owned=true:=by cases r <;> first | rfl | cases h
section
variable {K:Rr} {fr:Addr->Prop} {H Hf H1 aQ:Hp} {r:Sl} {p:Addr}
theorem yx (h:r.uh=some kvs) (q:br K fr H Hf r (.ref p)):∃ xs,H p=some (.dK xs)/\Hf p=none/\mq K Hf kvs xs:=by
 cases r with
 | oK es=>cases h; obtain ⟨_,xs,e,_,h1,h2,h3⟩:=q; cases e; exact ⟨xs,h1,h2,h3⟩
 | aK a es=>cases h; obtain ⟨_,xs,e,_,h1,h2,h3⟩:=q; cases e; exact ⟨xs,h1,h2,h3⟩
 | _=>cases h
theorem E9 (h:r.yw=some kvs) (q:br K fr H Hf r (.ref p)):∃ xs,H p=some (.dT xs)/\Hf p=none/\mw K Hf kvs xs:=by
 cases r with
 | oT es=>cases h; obtain ⟨_,xs,e,_,h1,h2,h3⟩:=q; cases e; exact ⟨xs,h1,h2,h3⟩
 | aT a es=>cases h; obtain ⟨_,xs,e,_,h1,h2,h3⟩:=q; cases e; exact ⟨xs,h1,h2,h3⟩
 | _=>cases h
theorem qV (h:r.uh=some kvs) (q:br K fr H Hf r (.ref p)) (h1:H1 p=some (.dK ys)) (h2:aQ p=none) (h3:mq K aQ es ys):br K (λq=>q=p) H1 aQ (r.qU es) (.ref p):=by
 cases r with
 | oK _=>exact ⟨p,ys,rfl,rfl,h1,h2,h3⟩
 | aK a _=>obtain ⟨_,xs,e,f,_⟩:=q; cases e; exact ⟨p,ys,rfl,⟨rfl,f.2⟩,h1,h2,h3⟩
 | _=>cases h
theorem Br (h:r.yw=some kvs) (q:br K fr H Hf r (.ref p)) (h1:H1 p=some (.dT ys)) (h2:aQ p=none) (h3:mw K aQ es ys):br K (λq=>q=p) H1 aQ (r.Bq es) (.ref p):=by
 cases r with
 | oT _=>exact ⟨p,ys,rfl,rfl,h1,h2,h3⟩
 | aT a _=>obtain ⟨_,xs,e,f,_⟩:=q; cases e; exact ⟨p,ys,rfl,⟨rfl,f.2⟩,h1,h2,h3⟩
 | _=>cases h
noncomputable def Bt (K:Rr) (Hf:Hp):Option D->Option V->Prop
 | none,none=>True
 | some d,some v=>Rep K Hf d v
 | _,_=>False
theorem mq.val (h:mq K Hf kvs xs) (k:Key):Bt K Hf (aY kvs k) (kH xs k):=by
 unfold mq at h
 induction h with
 | nil=>exact Vn
 | @cons a b as bs h t ih =>
  by_cases e:a.1=k
  ·rw [bq e,kI (h.1.symm.trans e)]; exact h.2
  ·rw [aV e,kJ (λz=>e (h.1.trans z))]; exact ih
theorem Bt.isSome (h:Bt K Hf o u):o.isSome=u.isSome:=by
 cases o <;> cases u <;> first | rfl | exact h.elim
theorem mq.put (h:mq K Hf kvs xs) (k:Key) (rd:Rep K Hf d v):mq K Hf (putD kvs k d) (putK xs k v):=by
 have e:=(h.val k).isSome
 unfold putD putK
 rw [e,qG]
 by_cases q:(kH xs k).isSome=true
 ·rw [if_pos q,if_pos q]
  unfold mq at h |-
  clear e q
  induction h with
  | nil=>exact .nil
  | @cons a b as bs h t ih =>
   rw [RC,RC]
   refine .cons ?_ ih
   by_cases e:a.1=k
   ·rw [if_pos e,if_pos (h.1.symm.trans e)]; exact ⟨h.1,rd⟩
   ·rw [if_neg e,if_neg (λz=>e (h.1.trans z))]; exact h
 ·rw [if_neg q,if_neg q]; exact WN h ⟨rfl,rd⟩
theorem mw.val (h:mw K Hf kvs xs) (k):Bt K Hf (aY kvs k) (atT xs k):=by
 unfold mw at h
 induction h with
 | nil=>exact Vn
 | @cons a b as bs h t ih =>
  by_cases e:a.1=k
  ·have z:L2.atT (b::bs) k=some b.2.2:=by simp [L2.atT,Th,h.1.symm.trans e]
   rw [bq e,z]; exact h.2.2
  ·have z:L2.atT (b::bs) k=L2.atT bs k:=by
    have:¬ b.1=k:=λz=>e (h.1.trans z)
    simp [L2.atT,Th,this]
   rw [aV e,z]; exact ih
theorem mw.put (h:mw K Hf kvs xs) (k) (hb:dG K Hf b (k.map kV)) (rd:Rep K Hf d v):mw K Hf (putD kvs k d) (qI xs k b v):=by
 have e:=(h.val k).isSome
 unfold putD qI
 rw [e]
 by_cases q:(atT xs k).isSome=true
 ·rw [if_pos q,if_pos q]
  unfold mw at h |-
  clear e q
  induction h with
  | nil=>exact .nil
  | @cons a b' as bs h t ih =>
   rw [RC,RC]
   refine .cons ?_ ih
   unfold oO
   by_cases e:a.1=k
   ·rw [if_pos e,if_pos (h.1.symm.trans e)]; exact ⟨h.1,h.2.1,rd⟩
   ·rw [if_neg e,if_neg (λz=>e (h.1.trans z))]; exact h
 ·rw [if_neg q,if_neg q]; exact WN h ⟨rfl,hb,rd⟩
theorem mw.Bu (h:mw K Hf kvs xs):∀ x∈xs,dG K Hf x.2.1 (x.1.map kV):=by
 unfold mw at h
 induction h with
 | nil=>intro x hx; cases hx
 | @cons a b as bs h t ih =>
  intro x hx
  rcases RL.mp hx with e | hx
  ·subst e; rw [<- h.1]; exact h.2.1
  ·exact ih x hx
inductive Fb:Sl->D->Option D->Prop
 | k {r:Sl} {kvs:List (Key×D)} {d:D} {k:Key} (h:r.uh=some kvs) (hk:d.yv=some k):Fb r d (aY kvs k)
 | t {r:Sl} {kvs:List (List Key×D)} {ds:List D} {k:List Key} (h:r.yw=some kvs) (hk:D.keys ds=some k):Fb r (.tup ds) (aY kvs k)
inductive Fc:Sl->D->D->Sl->Prop
 | k {r:Sl} {kvs:List (Key×D)} {d e:D} {k:Key} (h:r.uh=some kvs) (hk:d.yv=some k) (hz:kvs.length<sizeLine):Fc r d e (r.qU (putD kvs k e))
 | t {r:Sl} {kvs:List (List Key×D)} {ds:List D} {e:D} {k:List Key} (h:r.yw=some kvs) (hk:D.keys ds=some k) (hz:kvs.length<sizeLine):Fc r (.tup ds) e (r.Bq (putD kvs k e))
theorem Fc.owned' (h:Fc r d e r'):r'.owned=true:=by cases h with | k h _ _=>exact kR h | t h _ _=>exact um h
theorem Fb.get (h:Fb r d o) (q:br K fr H Hf r (.ref p)) (rv:Rep K Hf d v) (sb:aN Hf H):∃ u,kL K H p v u/\Bt K Hf o u:=by
 cases h with
 | k h hk =>
  obtain ⟨xs,h1,_,h3⟩:=yx h q
  rw [iK hk rv]
  exact ⟨_,.inl ⟨xs,_,.inl h1,rfl,rfl⟩,h3.val _⟩
 | t h hk =>
  obtain ⟨xs,h1,_,h3⟩:=E9 h q
  obtain ⟨a,ys,rfl,h4,h5⟩:=aM.mp rv
  have:=jm hk h5
  subst this
  exact ⟨_,.inr ⟨xs,_,a,.inl h1,λx hx=>aC sb (h3.Bu x hx),rfl,aC sb h4,rfl⟩,h3.val _⟩
theorem mq.length (h:mq K Hf kvs xs):kvs.length=xs.length:=To h
theorem mw.length (h:mw K Hf kvs xs):kvs.length=xs.length:=To h
theorem Fc.put (h:Fc r d e r') (q:br K fr H Hf r (.ref p)) (rv:Rep K Hf d v) (ry:Rep K Hf e y) (sb:aN Hf H) :
 ∃ o,EJ K H p v y (upd H p o)/\br K (λq=>q=p) (upd H p o) Hf r' (.ref p):=by
 cases h with
 | k h hk hz =>
  obtain ⟨xs,h1,h2,h3⟩:=yx h q
  rw [iK hk rv]
  exact ⟨_,.inl ⟨xs,_,h1,rfl,by rw [<- h3.length]; exact hz,rfl⟩,qV h q af h2 (h3.put _ ry)⟩
 | t h hk hz =>
  obtain ⟨xs,h1,h2,h3⟩:=E9 h q
  obtain ⟨a,ys,rfl,h4,h5⟩:=aM.mp rv
  have:=jm hk h5
  subst this
  exact ⟨_,.inr ⟨xs,_,a,h1,λx hx=>aC sb (h3.Bu x hx),rfl,aC sb h4,by rw [<- h3.length]; exact hz,rfl⟩,Br h q af h2 (h3.put _ h4 ry)⟩
end
section
variable {K:Rr} {c:Ctx P w K mg base k N sc bk}
theorem Ctx.hu (c:Ctx P w K mg base k N sc bk):c.X.A.units+1<cLine:=Mw c.room
theorem oY {R:Sl->Prop} (h:R (.oK [])):dD c (.Dict [] [] pos) ρ R:=λσ H Hf Q S q =>
 bK AH λp hp=>q (.oK []) (.ref p) _ Hf h ⟨p,[],rfl,hp,af,S.sb.free hp,.nil⟩ (bx.fJ S.sb hp)
theorem Fd {R:Sl->Prop} (h:R (.oT [])):dD c (.Dict [] [] pos) ρ R:=λσ H Hf Q S q =>
 bK AI λp hp=>q (.oT []) (.ref p) _ Hf h ⟨p,[],rfl,hp,af,S.sb.free hp,.nil⟩ (bx.fJ S.sb hp)
theorem JJ (hN:At N i x) (hi:At ρ i r) (h:aG c e ρ λdk=>aG c f ρ λdf=>∃ o,Fb r dk o/\R (o.getD df)) (hd:(x == ("__debug__":Str))=false:=by decide) (hcd:(x == ("__classdict__":Str))=false:=by decide) (ho:r.Hs=true:=by rfl)
 (m1:∀ env,attributeBase (.Name x px) "get" env (eval (.Name x px) env)=eval (.Name x px) env:=by intro _; walk_at "u")
 (m2:∀ env,((backTo cp (starEach [e,f] env)).all (λx=> !x.1) && (backToKw cp (keywordEach [] env)).all (λx=>x.1.isSome)
   && decide (([e,f]:List Expr).length+([]:List Keyword).length+(if ([]:List Keyword).isEmpty then 0 else 1)<30))=true:=by intro _; walk_at "u")
 (m3:(ap.endLine == cp.line)=true:=by walk_at "u") (m4:∀ env,backTo cp (starEach [e,f] env)=[(false,eval e env),(false,eval f env)]:=by intro _; walk_at "u") :
 aG c (.Call (.Attribute (.Name x px) "get" ap) [e,f] [] cp) ρ R:=λσ H Hf Q S q=>by
 obtain ⟨p,ep,rp⟩:=S.own hi.get (qT ho)
 have isd:PU H p:=by
  cases r with
  | oK kvs=>obtain ⟨xs,h1,_⟩:=yx (r:=.oK kvs) rfl rp; exact .inl ⟨xs,.inl h1⟩
  | aK a kvs=>obtain ⟨xs,h1,_⟩:=yx (r:=.aK a kvs) rfl rp; exact .inl ⟨xs,.inl h1⟩
  | oT kvs=>obtain ⟨xs,h1,_⟩:=E9 (r:=.oT kvs) rfl rp; exact .inr ⟨xs,.inl h1⟩
  | aT a kvs=>obtain ⟨xs,h1,_⟩:=E9 (r:=.aT a kvs) rfl rp; exact .inr ⟨xs,.inl h1⟩
  | _=>cases ho
 refine bK (AJ c.hu (c.mQ hN hd hcd) cQ cQ ⟨m1 _,m2 _,m3,m4 _⟩) ⟨_,ep,p,rfl,isd,h σ H Hf _ S λdk v H1 aQ h1 rv g1=>h1 σ H1 aQ _ (S.cG g1) λdf y H2 cL ⟨o,lk,hR⟩ ry g2=>?_⟩
 obtain ⟨u,dg,rel⟩:=lk.get (rp.cG (g1.trans g2)) (Rep.mono g2.f _ rv) g2.b
 refine ⟨u,dg,?_⟩
 cases o with
 | none=>cases u with
  | none=>exact q df y H2 cL hR ry (g1.trans g2)
  | some _=>exact rel.elim
 | some d=>cases u with
  | none=>exact rel.elim
  | some v'=>exact q d v' H2 cL hR rel (g1.trans g2)
theorem JK (hN:At N i x) (hi:At ρ i r) (h:aG c e ρ λdv=>aG c b ρ λdk=>∃ r',Fc r dk dv r'/\Nx ρ i nx r') (ho:r.owned=true:=by rfl)
 (hs:∀ env,swapsWith e (some (.Subscript (.Name x px) b tp)) pos.line env=pure false:=by intro _; walk_at "u") (hd:(x == ("__debug__":Str))=false:=by decide) (hcd:(x == ("__classdict__":Str))=false:=by decide) :
 fX c (.Assign [.Subscript (.Name x px) b tp] e pos) ρ nx p:=λσ H Hf D S o=>by
 obtain ⟨p,ep,rp⟩:=S.own hi.get ho
 refine eU (EO c.hu (c.mQ hN hd hcd) cQ cQ (hs _)) (h σ H Hf _ S λdv v H1 aQ h1 rv g1=>⟨_,ep,h1 σ H1 aQ _ (S.cG g1) λdk y H2 cL ⟨r',pt,ρ',hs',hn⟩ ry g2=>?_⟩)
 have g:=g1.trans g2
 obtain ⟨ob,dp,rp'⟩:=pt.put (rp.cG g) ry (Rep.mono g2.f _ rv) g.b
 refine ⟨p,_,rfl,dp,o.nx _ _ cL ρ' ?_ hn⟩
 rw [hs'.eq]
 obtain ⟨_,_,e0,_,_,hf⟩:=(rp.cG g).qS ho
 cases e0
 exact (S.cG g).upd hi.get ho ep (gz g.b hf) rp' pt.owned'
theorem vZ (hN:At N i x) (hi:At ρ i r) (h:aG c b ρ λdk=>∃ m:Int,Fb r dk (some (.int m))/\aG c e ρ (I1 λj=>∃ r',Fc r dk (.int (m+j)) r'/\Nx ρ i nx r')) (ho:r.owned=true:=by rfl)
 (ha:∀ ov iv new,augStore b ov iv new=(do holding [new,ov,iv] (setItem ov iv new); release [new,ov,iv] []; pure .next):=by intro _ _ _; walk_at "u") (hd:(x == ("__debug__":Str))=false:=by decide) (hcd:(x == ("__classdict__":Str))=false:=by decide) :
 fX c (.AugAssign (.Subscript (.Name x px) b tp) .Add e pos) ρ nx p:=λσ H Hf D S o=>by
 obtain ⟨p,ep,rp⟩:=S.own hi.get ho
 have hop:Ml c.X .Add (yi λi j=>.int (i+j)):=Es
 refine eU (ER c.hu (c.mQ hN hd hcd) cQ cQ hop ha) ⟨_,ep,h σ H Hf _ S λdk y H1 aQ ⟨m,lk,h1⟩ ry g1=>?_⟩
 obtain ⟨u,dg,rel⟩:=lk.get (rp.cG g1) ry g1.b
 cases u with
 | none=>exact rel.elim
 | some u =>
  have eu:u=V.int m:=(az (K:=c.X.K) (H:=aQ)).mp rel
  subst eu
  refine ⟨p,_,rfl,dg,h1 σ H1 aQ _ (S.cG g1) λdj y2 H2 cL ⟨j,ej,r',pt,ρ',hs',hn⟩ ry2 g2=>?_⟩
  subst ej
  rw [az.mp ry2]
  have g:=g1.trans g2
  obtain ⟨ob,dp,rp'⟩:=pt.put (rp.cG g) (Rep.mono g2.f _ ry) (v:=y) (y:=.int (m+j)) (az.mpr rfl) g.b
  refine ⟨m,j,rfl,rfl,_,dp,o.nx _ _ cL ρ' ?_ hn⟩
  rw [hs'.eq]
  obtain ⟨_,_,e0,_,_,hf⟩:=(rp.cG g).qS ho
  cases e0
  exact (S.cG g).upd hi.get ho ep (gz g.b hf) rp' pt.owned'
theorem Ht (hN:At N i x) (hi:At ρ i r) (h:aG c e ρ λdk=>∃ o,Fb r dk o/\T o.isSome) (ho:r.owned=true:=by rfl) (hm:behindInMarks CmpOp.In (.Name x px)=false:=by walk_at "u")
 (hd:(x == ("__debug__":Str))=false:=by decide) (hcd:(x == ("__classdict__":Str))=false:=by decide):je c (.Compare e [.In] [.Name x px] pos) ρ T:=λσ H Hf Q S q=>by
 obtain ⟨p,ep,rp⟩:=S.own hi.get ho
 refine kN (tR (Ji c.hu cQ (c.mQ hN hd hcd)) hm) (h σ H Hf _ S λdk y H1 aQ ⟨o,lk,hT⟩ ry g=>⟨_,ep,?_⟩)
 obtain ⟨u,dg,rel⟩:=lk.get (rp.cG g) ry g.b
 refine ⟨p,u,rfl,dg,u.isSome,rfl,q _ H1 aQ ?_ g⟩
 rw [<- rel.isSome]; exact hT
theorem qW (hN:At N i x) (hi:At ρ i r) (h:aG c e ρ λdk=>∃ o,Fb r dk o/\T (!o.isSome)) (ho:r.owned=true:=by rfl) (hm:behindInMarks CmpOp.NotIn (.Name x px)=false:=by walk_at "u")
 (hd:(x == ("__debug__":Str))=false:=by decide) (hcd:(x == ("__classdict__":Str))=false:=by decide):je c (.Compare e [.NotIn] [.Name x px] pos) ρ T:=λσ H Hf Q S q=>by
 obtain ⟨p,ep,rp⟩:=S.own hi.get ho
 refine kN (tR (yl c.hu cQ (c.mQ hN hd hcd)) hm) (h σ H Hf _ S λdk y H1 aQ ⟨o,lk,hT⟩ ry g=>⟨_,ep,?_⟩)
 obtain ⟨u,dg,rel⟩:=lk.get (rp.cG g) ry g.b
 refine ⟨p,u,rfl,dg,!u.isSome,rfl,q _ H1 aQ ?_ g⟩
 rw [<- rel.isSome]; exact hT
end
noncomputable abbrev iB:Value->Shared->Prop:=λ_ _=>False
section
variable {prog:Program} {w:World} {A:Around} {R:Result->Shared->Prop} {s:Shared}
theorem oZ {elt target iter:Expr} {ifs:List Expr} {scope:Scope} {pos:Pos} {it acc:Value} {env:Env} (I:Nat->Shared->Prop)
 (turn:∀ n s,I n s->wpAny (model prog w) A (pyNext it) (λr s₁=>match r with
   | none=>R (.ok .next) s₁
   | some v=>wpAny (model prog w) A (letOwnedTupleGo target it v) (λ_ s₁'=>wpAny (model prog w) A (assign target env v) (λ_ s₂ =>
    wpAny (model prog w) A (forIn ifs true λc r=>if r=true then do let ok <- isTrue c env (eval c env); pure (Su ok) else pure (Su r)) (λok s₃ =>
     if ok=true then wpAny (model prog w) A (eval elt env) (λx s₄ =>
      wpAny (model prog w) A (call (.builtin "list.append") [acc,x]) (λ_ s₅=>∃ m,m<n/\I m s₅) iB s₄) iB s₃
     else ∃ m,m<n/\I m s₃) iB s₂) iB s₁') iB s₁) iB s)
 (n:Nat) (h:I n s) :
 codeAny (model prog w) A (.compLoop (.ListComp elt [⟨target,iter,ifs,0⟩] scope pos) 0 it acc env) R s:=by
 refine codeAny_loop rfl I (λn s hI=>?_) n h
 show wpAny _ A ((compTurn (.ListComp elt [⟨target,iter,ifs,0⟩] scope pos) 0 it acc env).onRaise (λx=>do noteFrame x env; theTreesLotGoes x)) _ _ s
 refine wpAny_noted ?_
 rw [compTurn_list]
 refine Rq (Wx (Rq (Sk (turn n s hI) (λr s₁ h₁=>?_) λ_ _ f=>f.elim)))
 cases r with
 | none=>exact Rt h₁
 | some v =>
  refine Rq (Sk h₁ (λ_ s₁' h₁'=>?_) λ_ _ f=>f.elim)
  refine Rq (Sk h₁' (λ_ s₂ h₂=>Rq (Sk h₂ (λok s₃ h₃=>?_) λ_ _ f=>f.elim)) λ_ _ f=>f.elim)
  cases ok with
  | false=>exact Rt ⟨rfl,h₃⟩
  | true =>
   exact Rq (Rq (Sk h₃ (λx s₄ h₄=>Rq (Sk h₄ (λ_ s₅ h₅=>Rt (Rt ⟨rfl,h₅⟩)) λ_ _ f=>f.elim)) λ_ _ f=>f.elim))
theorem jL:∀ (ifs:List Expr),Q false s ->
 wpAny (model prog w) A (forIn ifs false λc r=>if r=true then do let ok <- isTrue c env (eval c env); pure (Su ok) else pure (Su r)) Q E s
 | [],h=>Rt h
 | t::ts,h=>by
  simp only [UI,Sn,if_false]
  exact Rq (Rt (jL ts h))
theorem uo
 (h:wpAny (model prog w) A (isTrue t env (eval t env)) (λb s'=>if b=true then wpAny (model prog w) A (forIn ts true λc r=>if r=true then do let ok <- isTrue c env (eval c env); pure (Su ok) else pure (Su r)) Q E s' else Q false s') E s) :
 wpAny (model prog w) A (forIn (t::ts) true λc r=>if r=true then do let ok <- isTrue c env (eval c env); pure (Su ok) else pure (Su r)) Q E s:=by
 simp only [UI,if_true]
 refine Rq (Rq (Sk h (λb s' hb=>Rt ?_) λ_ _ x=>x))
 cases b with
 | true=>exact hb
 | false=>exact jL ts hb
end
noncomputable def bV (scope sc:Scope):Scope:={ scope with names:=scope.names.map λ(n,k)=>if (k == .free && sc.kind == .function && sc.names.lookup n == some .cell) then (n,.cell) else (n,k) }
theorem qX (h:env.scope=sc):relabel scope env=bV scope sc:=by
 subst h; rfl
noncomputable def Sl.tag (a:Addr):Sl->Sl
 | .ow ds=>.aw a ds | .oT ds=>.aT a ds | .oK ds=>.aK a ds
 | .aw b ds=>.aw b ds | .aT b ds=>.aT b ds | .aK b ds=>.aK b ds | .fo s=>.fo s
 | .un=>.un | .va d=>.va d
inductive yy (t:Str->Addr) (nm:List (Str×NameKind)) (N:List Str) (ρ:List Sl):List Str->List Sl->Prop
 | nil:yy t nm N ρ [] []
 | un {y:Str} {M:List Str} {r:List Sl}:yy t nm N ρ M r->yy t nm N ρ (y::M) (.un::r)
 | fr {y:Str} {i:Nat} {s s':Sl} {M:List Str} {r:List Sl} (hN:At N i y) (hs:At ρ i s) (hy:(y,Ua)∈nm) (ht:s.tag (t y)=s'):yy t nm N ρ M r->yy t nm N ρ (y::M) (s'::r)
theorem yy.len (h:yy t nm N ρ M r):M.length=r.length:=by
 induction h with
 | nil=>rfl
 | un t ih=>simp [ih]
 | fr hN hs hy ht t ih=>simp [ih]
inductive Ed:List Sl->List Sl->Prop
 | nil:Ed [] []
 | un {r:Sl} {a b:List Sl}:Ed a b->Ed (.un::a) (r::b)
 | same {r:Sl} {a b:List Sl}:Ed a b->Ed (r::a) (r::b)
theorem Ed.weak (h:Ed a b):a.length=b.length/\∀ (i:Nat) (r:Sl),a[i]?=some r->r≠.un->b[i]?=some r:=by
 induction h with
 | nil=>exact ⟨rfl,λi r e=>by simp at e⟩
 | un t ih=>exact ⟨by simp [ih.1],λi r e hu=>by cases i with | zero=>simp at e; exact absurd e.symm hu | succ i=>simpa using ih.2 i r (by simpa using e) hu⟩
 | same t ih=>exact ⟨by simp [ih.1],λi r e hu=>by cases i with | zero=>simpa using e | succ i=>simpa using ih.2 i r (by simpa using e) hu⟩
section
variable {K:Rr}
noncomputable def kT (c:Ctx P w K mg base k N sc bk):List Expr->List Sl->(Bool->Prop)->Prop
 | [],_,T=>T true
 | t::ts,ρ,T=>je c t ρ (jR (kT c ts ρ T) (T false))
theorem nE (hq:c.X.xe=iB):∀ (ifs:List Expr) {H Hf:Hp} {s:Shared},bw c σ H Hf ρ->kT c ifs ρ T->(∀ b H' aq,T b->bx H Hf H' aq->Q b H')->Inv c.X aa σ H s ->
 wpAny (model c.X.prog c.X.w) c.X.A (forIn ifs true λt r=>if r=true then do let ok <- isTrue t c.X.env (eval t c.X.env); pure (Su ok) else pure (Su r)) (TP c.X aa σ Q) iB s
 | [],H,Hf,s,S,h,q,I=>wpAny_tests_nil ⟨H,I,q true H Hf h (.refl S.sb)⟩
 | t::ts,H,Hf,s,S,h,q,I=>by
  have h0:=h σ H Hf (λb H'=>∃ aq,jR (kT c ts ρ T) (T false) b/\bx H Hf H' aq) S (λb H' aq hb g=>⟨aq,hb,g⟩) aa s I
  rw [hq] at h0
  refine uo (bB h0 λb s' ⟨H',I',aq,hb,g⟩=>?_)
  cases b with
  | true=>exact nE hq ts (S.cG g) (hb.t rfl) (λb H2 cL hT g2=>q b H2 cL hT (g.trans g2)) I'
  | false=>exact ⟨H',I',q false H' aq (hb.f rfl) g⟩
end
theorem kU:∀ (names:List (Str×NameKind)) (cs:List (Str×Addr)),(∀ x∈names,x.2=.free->∃ a,env.cells.lookup x.1=some a) ->
 ∃ cl,(forIn names cs (λ(x:Str×NameKind) (r:List (Str×Addr))=>(if (x.2 == Ua)=true then do let a <- cellOf env x.1; pure (Su ((x.1,a)::r)) else pure (Su r):Sem (ForInStep (List (Str×Addr))))))=(pure cl:Sem (List (Str×Addr))) /\
  (∀ y a,cl.lookup y=some a->cs.lookup y=some a\/env.cells.lookup y=some a/\(y,Ua)∈names)/\(∀ y a,(y,Ua)∈names\/(∃ b,cs.lookup y=some b/\env.cells.lookup y=some b)->env.cells.lookup y=some a->cl.lookup y=some a)
 | [],cs,_=>⟨cs,rfl,λy a e=>.inl e,λy a h e=>by
  rcases h with h | ⟨b,h1,h2⟩
  ·cases h
  ·rw [e] at h2; cases h2; exact h1⟩
 | (n,kd)::r,cs,h=>by
  by_cases hk:kd=.free
  ·subst hk
   obtain ⟨a,ea⟩:=h (n,.free) RD rfl
   obtain ⟨cl,e1,e2,e3⟩:=kU r ((n,a)::cs) λx hx=>h x (RH _ hx)
   refine ⟨cl,?_,λy b e=>?_,λy b hy e=>?_⟩
   ·rw [UI]
    simp only [beq_self_eq_true,if_true,cellOf,ea,pure_bind]
    exact e1
   ·rcases e2 y b e with z | ⟨z1,z2⟩
    ·rw [XR] at z
     cases q:(y == n) with
     | true =>
      rw [q] at z; cases z
      have:y=n:=by simpa using q
      subst this
      exact .inr ⟨ea,RD⟩
     | false=>rw [q] at z; exact .inl z
    ·exact .inr ⟨z1,RH _ z2⟩
   ·refine e3 y b ?_ e
    rcases hy with hy | ⟨b',h1,h2⟩
    ·rcases RL.mp hy with z | z
     ·cases z; exact .inr ⟨a,by simp,ea⟩
     ·exact .inl z
    ·refine .inr ⟨b',?_,h2⟩
     rw [XR]
     cases q:(y == n) with
     | true =>
      have:y=n:=by simpa using q
      subst this
      rw [ea] at h2; exact h2
     | false=>exact h1
  ·have hb:(kd == Ua)=false:=by simpa using hk
   obtain ⟨cl,e1,e2,e3⟩:=kU r cs λx hx=>h x (RH _ hx)
   refine ⟨cl,?_,λy b e=>?_,λy b hy e=>?_⟩
   ·rw [UI]
    simp only [hb,Sn,if_false,pure_bind]
    exact e1
   ·rcases e2 y b e with z | ⟨z1,z2⟩
    ·exact .inl z
    ·exact .inr ⟨z1,RH _ z2⟩
   ·refine e3 y b ?_ e
    rcases hy with hy | hy
    ·rcases RL.mp hy with z | z
     ·cases z; exact absurd rfl hk
     ·exact .inl z
    ·exact .inr hy
theorem Fe (h:∀ x∈scope.names,x.2=.free->∃ a,env.cells.lookup x.1=some a) :
 ∃ cl,closureFor scope env=pure cl/\(∀ y a,cl.lookup y=some a->env.cells.lookup y=some a/\(y,Ua)∈scope.names)/\(∀ y a,(y,Ua)∈scope.names->env.cells.lookup y=some a->cl.lookup y=some a):=by
 obtain ⟨cl,e1,e2,e3⟩:=kU scope.names [] h
 refine ⟨cl,?_,λy a e=>?_,λy a hy e=>e3 y a (.inl hy) e⟩
 ·unfold closureFor
  have e1':=congrArg (· >>= λcs=>(pure cs:Sem _)) e1
  simp only [pure_bind] at e1'
  exact e1'
 ·rcases e2 y a e with z | z
  ·simp at z
  ·exact z
section
variable {P:Program} {w:World} {K:Rr} {mg:Str->Option Value} {base:Heap} {k:Nat} {N:List Str} {sc:Scope} {bk:Bool} {c:Ctx P w K mg base k N sc bk} {ρ:List Sl} {pos:Pos}
def v5 (c:Ctx P w K mg base k N sc bk) (tg:Expr) (ifs:List Expr) (elt:Expr) (ρ0:List Sl) (d:D) (o:Option D):Prop :=
 oQ c tg d ρ0 λρ1=>Ed ρ0 ρ1/\kT c ifs ρ1 (jR (aG c elt ρ1 λe=>o=some e) (o=none))
theorem iL {nm:List (Str×NameKind)}:∀ {y:Str} {kd:NameKind},(nm.map λ(x:Str×NameKind)=>match x with | (n,k)=>(if (k == .free && sc.kind == .function && sc.names.lookup n == some .cell)=true then (n,NameKind.cell) else (n,k))).lookup y=some kd->∃ k0,(y,k0)∈nm/\(kd=k0\/kd=.cell/\k0=.free):=by
 induction nm with
 | nil=>intro y kd h; simp at h
 | cons x r ih =>
  obtain ⟨n,k0⟩:=x
  intro y kd h
  rw [RC,XR] at h
  by_cases e:(k0 == .free && sc.kind == .function && sc.names.lookup n == some .cell)=true
  ·simp only [e,if_true] at h
   cases q:(y == n) with
   | true =>
    rw [q] at h; cases h
    have:y=n:=by simpa using q
    subst this
    have hf:k0=.free:=by simp only [Vd,beq_iff_eq] at e; exact e.1.1
    exact ⟨k0,RD,.inr ⟨rfl,hf⟩⟩
   | false=>rw [q] at h; obtain ⟨k1,h1,h2⟩:=ih h; exact ⟨k1,RH _ h1,h2⟩
  ·simp only [e,Sn,if_false] at h
   cases q:(y == n) with
   | true =>
    rw [q] at h; cases h
    have:y=n:=by simpa using q
    subst this
    exact ⟨k0,RD,.inl rfl⟩
   | false=>rw [q] at h; obtain ⟨k1,h1,h2⟩:=ih h; exact ⟨k1,RH _ h1,h2⟩
theorem yy.start {σ:L2.St} (h:yy t nm N ρ M r) (hσ:∀ (i:Nat) (s:Sl),ρ[i]?=some s->s≠.un->∃ v,σ[i]?=some (some v)) :
 ∃ σ0:L2.St,σ0.length=r.length/\∀ (j:Nat) (s:Sl),r[j]?=some s->(s=.un/\σ0[j]?=some none)\/∃ (i:Nat) (y:Str) (v:V) (s0:Sl),M[j]?=some y/\(y,Ua)∈nm/\N[i]?=some y/\ρ[i]?=some s0/\s=s0.tag (t y)/\s0≠.un/\σ[i]?=some (some v)/\σ0[j]?=some (some v):=by
 induction h with
 | nil=>exact ⟨[],rfl,λj s e=>by simp at e⟩
 | un t ih =>
  obtain ⟨σ0,hl,h0⟩:=ih
  refine ⟨none::σ0,by simp [hl],λj s e=>?_⟩
  cases j with
  | zero=>simp at e; exact .inl ⟨e.symm,by simp⟩
  | succ j =>
   rcases h0 j s (by simpa using e) with ⟨h1,h2⟩ | ⟨i,y,v,s0,h1,h2,h3,h4,h5,h6,h7,h8⟩
   ·exact .inl ⟨h1,by simpa using h2⟩
   ·exact .inr ⟨i,y,v,s0,by simpa using h1,h2,h3,h4,h5,h6,h7,by simpa using h8⟩
 | @fr y i s' s'' M r hN hs hy ht t ih =>
  obtain ⟨σ0,hl,h0⟩:=ih
  by_cases hu:s'=.un
  ·refine ⟨none::σ0,by simp [hl],λj s e=>?_⟩
   cases j with
   | zero=>simp at e; subst hu; exact .inl ⟨e.symm.trans ht.symm,by simp⟩
   | succ j =>
    rcases h0 j s (by simpa using e) with ⟨h1,h2⟩ | ⟨i,y,v,s0,h1,h2,h3,h4,h5,h6,h7,h8⟩
    ·exact .inl ⟨h1,by simpa using h2⟩
    ·exact .inr ⟨i,y,v,s0,by simpa using h1,h2,h3,h4,h5,h6,h7,by simpa using h8⟩
  ·obtain ⟨v,ev⟩:=hσ i s' hs.get hu
   refine ⟨some v::σ0,by simp [hl],λj s e=>?_⟩
   cases j with
   | zero=>simp at e; subst e; exact .inr ⟨i,y,v,s',by simp,hy,hN.get,hs.get,ht.symm,hu,ev,by simp⟩
   | succ j =>
    rcases h0 j s (by simpa using e) with ⟨h1,h2⟩ | ⟨i,y,v,s0,h1,h2,h3,h4,h5,h6,h7,h8⟩
    ·exact .inl ⟨h1,by simpa using h2⟩
    ·exact .inr ⟨i,y,v,s0,by simpa using h1,h2,h3,h4,h5,h6,h7,by simpa using h8⟩
noncomputable def Sl.adr:Sl->Option Addr | .aw a _=>some a | .aT a _=>some a | .aK a _=>some a | _=>none
theorem nF {s:Sl}:(s.tag a).owned=s.owned:=by cases s <;> rfl
theorem Ff {s:Sl} (h:s.owned=true):∃ b,(s.tag a).adr=some b:=by cases s <;> first | exact ⟨_,rfl⟩ | cases h
theorem v7 (hv:s.owned=true->v=.ref a) (h:br K fr H Hf s v):br K fr H Hf (s.tag a) v:=by
 cases s with
 | ow ds=>obtain ⟨p,xs,e,f,r⟩:=h; exact ⟨p,xs,e,⟨f,by have:=hv rfl; rw [e] at this; cases this; rfl⟩,r⟩
 | oT ds=>obtain ⟨p,xs,e,f,r⟩:=h; exact ⟨p,xs,e,⟨f,by have:=hv rfl; rw [e] at this; cases this; rfl⟩,r⟩
 | oK ds=>obtain ⟨p,xs,e,f,r⟩:=h; exact ⟨p,xs,e,⟨f,by have:=hv rfl; rw [e] at this; cases this; rfl⟩,r⟩
 | _=>exact h
theorem v8 (hb:s.adr=some b) (h:br K fr H Hf s (.ref p)):p=b:=by
 cases s with
 | aw a ds=>cases hb; obtain ⟨q,xs,e,f,r⟩:=h; cases e; exact f.2
 | aT a ds=>cases hb; obtain ⟨q,xs,e,f,r⟩:=h; cases e; exact f.2
 | aK a ds=>cases hb; obtain ⟨q,xs,e,f,r⟩:=h; cases e; exact f.2
 | _=>cases hb
theorem eT.apart (S:eT K H₀ eY σ H Hf ρ) (h0:H₀ a=none) (hf:Hf a=none) (nf:¬ AL H a) (ha:∀ (i:Nat) (r:Sl),ρ[i]?=some r->r.owned=true->σ[i]?≠some (some (.ref a))):eT K H₀ eY σ (L2.upd H a o) Hf ρ :=
 ⟨⟨λb u e=>by rw [L2.av (aF e h0)]; exact S.bas.s b u e,S.bas.f,λb u e=>by rw [L2.av (aF e hf)]; exact S.bas.b b u e,S.bas.n⟩,S.len,λi r hi hu=>by
   obtain ⟨v,e,q⟩:=S.at_ i r hi hu
   refine ⟨v,e,?_⟩
   have hg:bx (del H a) Hf (L2.upd H a o) Hf:=gz S.bas.b hf
   exact (q.M5 (p:=a) nf λow z=>by subst z; exact ha i r hi ow e).cG hg,S.sep⟩
theorem v9 (g:bx H1 aQ H' aq) (h1:H1 a=none) (hf:aq a=none):bx H1 aQ (upd H' a o) aq :=
 ⟨λb u e=>by rw [av (aF e h1)]; exact g.s b u e,g.f,λb u e=>by rw [av (aF e hf)]; exact g.b b u e,g.n⟩
section
variable {K:Rr} {H Hf H' aq:Hp}
noncomputable abbrev Fp:=List (Addr×List V)
mutual
theorem dN.fz:∀ (s:Sh) {v:V} {fp:Fp},dN K H Hf s v fp->∀ a∈fp,H a.1=some (pl a.1 a.2)/\Hf a.1=none
 | .v d,_,_,h=>by simp only [dN] at h; obtain ⟨_,rfl⟩:=h; intro a ha; cases ha
 | .l ds,_,_,h=>by
  simp only [dN] at h
  obtain ⟨p,xs,e,h1,h2,h3,rfl⟩:=h
  intro a ha
  obtain rfl:=RN.mp ha
  exact ⟨h1,h2⟩
 | .la p ds,_,_,h=>by
  simp only [dN] at h
  obtain ⟨xs,e,h1,h2,h3,rfl⟩:=h
  intro a ha
  obtain rfl:=RN.mp ha
  exact ⟨h1,h2⟩
 | .t ss,_,_,h=>by
  simp only [dN] at h
  obtain ⟨a,xs,e,h1,h2⟩:=h
  exact bh.fz ss h2
 | .ls ss,_,_,h=>by
  simp only [dN] at h
  obtain ⟨p,xs,fq,e,h1,h2,h3,rfl⟩:=h
  intro a ha
  rcases RL.mp ha with rfl | ha
  ·exact ⟨h1,h2⟩
  ·exact bh.fz ss h3 a ha
theorem bh.fz:∀ (ss:List Sh) {xs:List V} {fp:Fp},bh K H Hf ss xs fp->∀ a∈fp,H a.1=some (pl a.1 a.2)/\Hf a.1=none
 | [],_,_,h=>by simp only [bh] at h; obtain ⟨_,rfl⟩:=h; intro a ha; cases ha
 | s::ss,_,_,h=>by
  simp only [bh] at h
  obtain ⟨x,r,f1,f2,e,h1,h2,rfl⟩:=h
  intro a ha
  rcases R5.mp ha with ha | ha
  ·exact dN.fz s h1 a ha
  ·exact bh.fz ss h2 a ha
end
end
noncomputable def Sl.sh:Sl->Option Sh | .va d=>some (.v d) | .fo s=>some s | _=>none
theorem JL {H H' aq:Hp} (e:r.sh=some s) (h:br K (λp=>H p=none) H' aq r v):∃ fp,dN K H' aq s v fp/\(fp.map (·.1)).Nodup/\∀ a∈fp,H a.1=none:=by
 cases r with
 | va d=>cases e; exact ⟨[],by simp only [dN]; exact ⟨h,trivial⟩,by simp,by intro a ha; cases ha⟩
 | fo s=>cases e; exact h
 | _=>cases e
theorem bh.snoc (h:dN K H Hf s v fp):∀ {ss:List Sh} {vs:List V} {fq:Fp},bh K H Hf ss vs fq->bh K H Hf (ss++[s]) (vs++[v]) (fq++fp)
 | [],_,_,q=>by
  simp only [bh] at q
  obtain ⟨rfl,rfl⟩:=q
  simp only [Wo,bh]
  exact ⟨v,[],fp,[],rfl,h,⟨rfl,rfl⟩,(SJ _).symm⟩
 | s'::ss,_,_,q=>by
  simp only [bh] at q
  obtain ⟨x,r,f1,f2,rfl,h1,h2,rfl⟩:=q
  have:=bh.snoc h h2
  simp only [Uk,bh]
  exact ⟨x,r++[v],f1,f2++fp,rfl,h1,this,R4 _ _ _⟩
def Bv (c:Ctx P w K mg base k N sc bk) (tg:Expr) (ifs:List Expr) (elt:Expr) (ρ0:List Sl) (d:D) (o:Option Sh):Prop :=
 oQ c tg d ρ0 λρ1=>Ed ρ0 ρ1/\kT c ifs ρ1 (jR (dD c elt ρ1 λr=>∃ z,o=some z/\r.sh=some z) (o=none))
abbrev OJ (scope sc:Scope) (N':List Str):Prop:=scope.kind=.function/\(∀ x∈scope.names,x.2≠.cell)/\(∀ x∈scope.names,x.2=.local->scope.names.lookup x.1=some .local)/\(∀ x∈scope.names,x.2=.free->sc.names.lookup x.1=some .cell)/\N'.Nodup/\(∀ x∈N',(bV scope sc).names.lookup x=some .local\/(bV scope sc).names.lookup x=some .cell)/\∀ x∈scope.names,x.2=.free->(bV scope sc).names.lookup x.1=some .cell
theorem Fg {elt tg iter:Expr} {ifs:List Expr} {scope:Scope} {N':List Str} {ρ0:(Str->Addr)->List Sl} {R:List Sh->Prop} (hq:c.X.xe=iB) (hfr:∀ t,yy t scope.names N ρ N' (ρ0 t))
 (h:zV c tg iter ρ λds=>Sd (ds.length<=sizeLine) (∃ os:List (Option Sh),os.length=ds.length /\
   (∀ c':Ctx P w K mg base k N' (bV scope sc) true,c'.X.xe=iB->∀ (t:Str->Addr) (i:Nat) (d:D) (o:Option Sh),ds[i]?=some d->os[i]?=some o->Bv c' tg ifs elt (ρ0 t) d o)/\R (os.filterMap id)))
 (hcp:OJ scope sc N':=by decide +kernel)
 (hs:∀ env v,foldedSetIterable iter env v=pure v:=by intro _ _; walk_at "u")
 {σ:L2.St} {H Hf:Hp} (S:bw c σ H Hf ρ) {aa:List (Addr×Obj)} {s:Shared} (I:Inv c.X aa σ H s) {use:Option (Value->Sem Unit)} {QQ:Value->Shared->Prop}
 (kont:∀ (s':Shared) (H' aq:Hp) (a C:Addr) (ss:List Sh) (vs:List V) (fq:Fp),R ss->(∃ m,s'.heap.Ns C m)->C∉c.X.fs->eZ c.X aa H' C->H a=none->H' a=some (.lst vs)->aq a=none->bh c.X.K H' aq ss vs fq->(fq.map (·.1)).Nodup->(∀ b∈fq,H b.1=none)->bx H Hf H' aq->(∀ h5,Tt C s'.heap h5->Inv c.X aa σ H' { s' with heap:=h5 })->compPost (model c.X.prog c.X.w) c.X.A iB use QQ (.ref a) C (.ok .next) s') :
 wpAny (model c.X.prog c.X.w) c.X.A (comprehension (.ListComp elt [⟨tg,iter,ifs,0⟩] scope pos) scope c.X.env (firstIterPos [⟨tg,iter,ifs,0⟩] pos) (newList []) (firstAsync [⟨tg,iter,ifs,0⟩]) (firstIter [⟨tg,iter,ifs,0⟩] c.X.env) use) QQ iB s:=by
 obtain ⟨hk,hnc,hnl,hfree,hnd,hv,hvf⟩:=hcp
 have hI:=h σ H Hf (λJ H1=>∃ ds aQ,Sd (ds.length<=sizeLine) (∃ os:List (Option Sh),os.length=ds.length /\
  (∀ c':Ctx P w K mg base k N' (bV scope sc) true,c'.X.xe=iB->∀ (t:Str->Addr) (i:Nat) (d:D) (o:Option Sh),ds[i]?=some d->os[i]?=some o->Bv c' tg ifs elt (ρ0 t) d o)/\R (os.filterMap id))/\bx H Hf H1 aQ/\jl c.X.K J ds aQ) S (λds J H' aq hR g io=>⟨ds,aq,hR,g,io⟩) aa s I
 rw [hq] at hI
 have hcells:∀ x∈scope.names,x.2=.free->∃ a,c.X.env.cells.lookup x.1=some a:=λx hx hf=>I.ok.has x.1 (.inl (by unfold Sw; rw [c.esc]; exact hfree x hx hf))
 obtain ⟨cl,hclos,zT,hcl2⟩:=Fe hcells
 refine wpAny_comprehension_free (cl:=cl) (use:=use) rfl (hs _) hclos hk hnl ?_
 refine bB (show wpAny _ _ (eval iter c.X.env) _ _ _ from hI) λv s1 h1=>bB h1 λitv s2 hh=>z5 hh λit fp tn J H1 hh=>w6 hh λe0 I1 Tn t0 hfp hh=>z2 hh λds aQ hh=>w3 hh λhz g io=>?_
 obtain ⟨hz,os,hh⟩:=hz
 refine w3 hh λhol hb hR=>?_
 subst e0
 have hcell':∀ y∈scope.names,y.2≠.cell:=hnc
 refine Td (wpAny_newFunctionEnv hcell' (by intro y hy; simp at hy) (λh4 hns hsb=>?_) hk)
 dsimp only at hns hsb |-
 generalize hDe:s2.heap.objs.size=Da at *
 have k3:∀ b u,s2.heap.get? b=some u->(s2.heap.push { cls:=.type "list",dict:=none,data:=.seq ([]:List Value).toArray }).get? b=some u:=λb u e=>Rx _ e
 generalize hH3:s2.heap.push { cls:=.type "list",dict:=none,data:=.seq ([]:List Value).toArray }=h3 at *
 have hCe:h3.objs.size=Da+1:=by rw [<- hH3,Tu,hDe]
 have hgD:h3.get? Da=some { cls:=.type "list",dict:=none,data:=.seq ([]:List Value).toArray }:=by rw [<- hH3,<- hDe]; exact RK _ rfl
 have vD:H1 Da=none:=by rw [<- hDe]; exact I1.hok.fresh (Rv _)
 have I3:Inv c.X aa σ (upd H1 Da (.lst [])) { s2 with heap:=h3,toks:=s2.toks }:=I1.laid (a:=Da) (o:=.lst []) (t':=s2.toks) k3 (by rw [hDe]; exact Rv _) ⟨RY _,[],0,.nil,hgD⟩
 have fpne:∀ b∈fp,b≠Da:=λb hb z=>by
  obtain ⟨o,e,_⟩:=Tn.obj _ _ t0 b hb
  subst z
  exact absurd (Ry e) (by rw [hDe]; exact Tp _)
 have fplt:∀ b∈fp,b<h3.objs.size:=λb hb=>by
  obtain ⟨o,e,_⟩:=Tn.obj _ _ t0 b hb
  exact Ry (k3 b o e)
 let s3:Shared:={ s2 with heap:=h3,toks:=s2.toks }
 let H2:Hp:=upd H1 Da (.lst [])
 let X':Cx:={ prog:=c.X.prog,w:=c.X.w,K:=c.X.K,mg:=c.X.mg,base:=c.X.base,A:=c.X.A,N:=N',s₀:=s3,H₀:=H2,env:=compEnvC scope cl h3.objs.size c.X.env,outer:=c.X.stack,stack:=c.X.stack,ex:=fp,fn:=λ_=>false,calm:=true,pn:=[],xe:=iB }
 have S1:=S.cG g
 have S2:bw c σ H2 aQ ρ:=S1.cG (bx.fJ g.b vD)
 obtain ⟨t,ht⟩:∃ t:Str->Addr,∀ (i:Nat) (y:Str) (p:Addr),N[i]?=some y->σ[i]?=some (some (.ref p))->t y=p:=by
  classical
  refine ⟨λy=>if h:∃ (i:Nat) (p:Addr),N[i]?=some y/\σ[i]?=some (some (.ref p)) then h.choose_spec.choose else 0,λi y p e1 e2=>?_⟩
  have h:∃ (i:Nat) (p:Addr),N[i]?=some y/\σ[i]?=some (some (.ref p)):=⟨i,p,e1,e2⟩
  show (if h:_ then _ else _)=p
  rw [dif_pos h]
  obtain ⟨e3,e4⟩:=h.choose_spec.choose_spec
  have hi:h.choose<N.length:=(RJ.mp e3).1
  have e5:h.choose=i:=(List.getElem?_inj hi c.nd).mp (e3.trans e1.symm)
  have e6:=(congrArg (λz=>σ[z]?) e5).symm.trans e4
  rw [show σ[i]?=some (some (.ref p)) from e2] at e6
  have e4:=e6
  exact (V.ref.inj (TJ (TJ e4))).symm
 have hfr:=hfr t
 generalize hρ:ρ0 t=ρt at hfr
 obtain ⟨σ0,hσl,hσ0⟩:=hfr.start (σ:=σ) λi s e hu=>let ⟨v,e2,_⟩:=S2.at_ i s e hu; ⟨v,e2⟩
 have k4:∀ b u,h3.get? b=some u->h4.get? b=some u:=λb u e=>hsb.extBut b u (RW (Ry e)) (Rx _ e)
 have hsc:X'.env.scope=bV scope sc:=qX c.esc
 have okX:X'.Ok:={
  mod:=I3.ok.mod
  kind:=hk
  glob:=I3.ok.glob
  blt:=I3.ok.blt
  above:=Rv _
  inj:=λx y a e1 e2=>I3.ok.inj x y a (zT x a e1).1 (zT y a e2).1
  has:=λx hx=>by
   have key:(x,Ua)∈scope.names:=by
    have hx':(bV scope sc).names.lookup x=some .cell\/(bV scope sc).names.lookup x=some .free:=by
     unfold Sw at hx; rw [hsc] at hx; exact hx
    rcases hx' with hx' | hx'
    ·obtain ⟨k0,h1,h2⟩:=iL hx'
     rcases h2 with h2 | ⟨_,h2⟩
     ·subst h2; exact absurd rfl (hnc _ h1)
     ·subst h2; exact h1
    ·obtain ⟨k0,h1,h2⟩:=iL hx'
     rcases h2 with h2 | ⟨h2,_⟩
     ·subst h2; exact h1
     ·cases h2
   obtain ⟨a,ea⟩:=hcells _ key rfl
   exact ⟨a,hcl2 x a key ea⟩
  cab:=λx a hf=>by cases hf
  hd:=λ_=>I3.ok.hd c.calm
  frames:=I3.ok.frames
  stk:=.inl rfl
  exf:=λb hb=>⟨RW (fplt b hb),λx a ea=>(hfp b hb).2.2.2.2.1 x a (zT x a ea).1⟩
  bs:=I3.bs
  bsz:=Rz I3.ok.bsz I3.sz
  noex:=λb o e hb=>by
   rcases (hfp b hb).2.2.2.1 with z | z
   ·exact I3.ok.noex b o e z
   ·exact absurd (R8 (Ry e) (Rz I3.ok.bsz z)) (Tp _)
  exfs:=λb hb m=>by
   rcases RL.mp (I3.tP b m) with z | z
   ·exact (hfp b hb).2.1 z
   ·exact (hfp b hb).2.2.1 z
  jf:=I3.stack
  frf:=I3.vE }
 have I4:Inv X' [] σ0 H2 { s2 with heap:=h4,toks:=s2.toks+([]:List (Str×Value)).length }:={
  ok:=okX
  os:=rfl
  bare:=I3.bare
  base:=Un.kept k4
  loc:=⟨_,hns,λj y v hy hv' _=>by
   have hj:j<ρt.length:=by
    have:=(RJ.mp hv').1
    rw [hσl] at this; exact this
   rcases hσ0 j ρt[j] (RU hj) with ⟨_,z⟩ | hh
   ·rw [z] at hv'; cases hv'
   ·refine z4 hh λi y' v' s0 hh=>w8 hh λh1 h2 h3' h4' hs5 hs6 h5 h6=>?_
    rw [h6] at hv'; cases hv'
    have hy':N'[j]?=some y:=hy
    rw [h1] at hy'; cases hy'
    obtain ⟨m0,hm0,hl⟩:=I3.loc
    have hkc:c.X.env.kindOf y=some .cell:=by unfold Sw; rw [c.esc]; exact hfree _ h2 rfl
    obtain ⟨u,r,lk⟩:=hl i y v (by rw [c.eN]; exact h3') h5 (.inr (.inl hkc))
    refine ⟨u,r,?_⟩
    rcases lk with ⟨q1,_⟩ | ⟨_,a,e1,e2⟩
    ·rw [hkc] at q1; cases q1
    ·refine .inr ⟨.inl ?_,a,hcl2 _ a h2 e1,?_⟩
     ·show List.lookup y X'.env.scope.names=_
      rw [hsc]; exact hvf _ h2 rfl
     ·obtain ⟨oc,e3,e4⟩:=e2
      exact ⟨oc,k4 _ _ e3,e4⟩⟩
  cell:=λx a ea=>by
   obtain ⟨v',oc,e3,e4⟩:=I3.cell x a (zT x a ea).1
   exact ⟨v',oc,k4 _ _ e3,e4⟩
  free:=I3.hok.fresh (Rv _)
  freeC:=λx a ea=>I3.freeC x a (zT x a ea).1
  pin:=λq hq'=>by simp at hq'; cases hq'
  hok:=I3.hok.kept k4
  len:=by rw [hσl]; exact hfr.len.symm }
 let c':Ctx P w K mg base k N' (bV scope sc) true :=
  { X:=X',eP:=c.eP,ew:=c.ew,eK:=c.eK,emg:=c.emg,eb:=c.eb,eN:=rfl,esc:=hsc,calm:=rfl,top:=λz=>(by cases z),cb:=λz=>(by cases z),fn:=λx hx=>.inr (by rw [hsc]; exact hx.resolve_left (λz=>by cases z)),room:=c.room,nd:=hnd,vis:=hv,
    Hf:=c.Hf,B:=c.B,RX:=λ_ _=>False,exc:=λ_ _ _ _ _ _ _ _ _ _ _ _ h _ _=>h.elim,RM:=λ_ _=>False,mde:=λ_ _ _ _ _ _ _ _ _ _ _ _ h _=>h.elim }
 have hN0:N'.length=ρt.length:=hfr.len
 have S4:bw c' σ0 H2 aQ ρt:=by
  refine ⟨S2.bas,hσl,λj r hj hu=>?_,λj j' r r' p hne e1 e2 o1 o2 f1 f2=>?_⟩
  ·rcases hσ0 j r hj with ⟨z,_⟩ | hh
   ·exact absurd z hu
   ·refine z4 hh λi y v s0 hh=>w8 hh λh1 h2 h3' h4' hs5 hs6 h5 h6=>?_
    obtain ⟨v',e3,q3⟩:=S2.at_ i s0 h4' hs6
    rw [h5] at e3; cases e3
    subst hs5
    exact ⟨v,h6,v7 (λow=>by
     obtain ⟨p,_,rfl,_⟩:=q3.qS ow
     rw [ht i y p h3' h5]) q3⟩
  ·have u1:r≠.un:=by rintro rfl; cases o1
   have u2:r'≠.un:=by rintro rfl; cases o2
   rcases hσ0 j r e1 with ⟨z,_⟩ | hh
   ·exact u1 z
   rcases hσ0 j' r' e2 with ⟨z,_⟩ | hh'
   ·exact u2 z
   refine z4 hh λi y v s0 hh=>w8 hh λh1 h2 h3' h4' hs5 hs6 h5 h6=>z4 hh' λi' y' v' s0' hh'=>w8 hh' λh1' h2' h3'' h4'' hs5' hs6' h5' h6'=>?_
   rw [f1] at h6; cases h6
   rw [f2] at h6'; cases h6'
   have hii:i≠i':=λz=>by
    subst z
    rw [h3'] at h3''; cases h3''
    have a1:j<N'.length:=(RJ.mp h1).1
    exact hne ((List.getElem?_inj a1 hnd).mp (h1.trans h1'.symm))
   subst hs5; subst hs5'
   rw [nF] at o1 o2
   exact S2.sep i i' s0 s0' p hii h4' h4'' o1 o2 h5 h5'
 have howA:∀ (j:Nat) (r:Sl),ρt[j]?=some r->r.owned=true->∃ b,r.adr=some b/\b≠Da:=λj r hj ho=>by
  rcases hσ0 j r hj with ⟨z,_⟩ | hh
  ·subst z; cases ho
  ·refine z4 hh λi y v s0 hh=>w8 hh λh1 h2 h3' h4' hs5 hs6 h5 h6=>?_
   subst hs5
   rw [nF] at ho
   obtain ⟨b,eb⟩:=Ff (a:=t y) ho
   refine ⟨b,eb,λz=>?_⟩
   obtain ⟨v',e3,q3⟩:=S1.at_ i s0 h4' hs6
   obtain ⟨p,o,e4,_,e5,_⟩:=q3.qS ho
   subst e4
   have q4:=v7 (a:=t y) (λ_=>by rw [ht i y p h3' e3]) q3
   have:=v8 eb q4
   rw [this,z,vD] at e5; cases e5
 have hB0:c.B Da=none:=S1.bas.s.free vD
 have fps:∀ {H':Hp},(∀ b∈fp,H' b=none)->∀ b∈fp,eZ X' [] H' b:=λhn b hb =>
  ⟨hn b hb,RW (fplt b hb),okX.exfs b hb,.inl hb,λx a ea=>(hfp b hb).2.2.2.2.1 x a (zT x a ea).1,λp hp=>by cases hp⟩
 have fin:∀ (s':Shared) (σ':L2.St) (H' aq:Hp) (vs:List V) (fq:Fp),Inv X' [] σ' H' s'->bx H1 aQ H' aq->H' Da=some (.lst vs)->aq Da=none->bh c.X.K H' aq (os.filterMap id) vs fq->(fq.map (·.1)).Nodup->(∀ b∈fq,H1 b.1=none) ->
  compPost (model c.X.prog c.X.w) c.X.A iB use QQ (.ref Da) h3.objs.size (.ok .next) s':=λs' σ' H' aq vs fq I' g' hD hfD hr hnd2 hfr2=>by
  obtain ⟨m,hm,_⟩:=I'.loc
  have hCX:h3.objs.size∉c.X.fs:=I3.LW (Rv _)
  have hCf:eZ c.X aa H' h3.objs.size:=by
   refine ⟨I'.free,λz=>?_,hCX,.inr I3.sz,λx a ea z=>?_,λp hp z=>?_⟩
   ·obtain ⟨m0,hm0,_⟩:=I3.loc
    obtain ⟨o,_,_,e,_⟩:=hm0
    exact absurd (Ry e) (by rw [<- z]; exact Tp _)
   ·obtain ⟨v',oc,e,_⟩:=I3.cell x a ea
    exact absurd (Ry e) (by rw [z]; exact Tp _)
   ·exact absurd (Ry (I3.pin p hp).1) (by rw [z]; exact Tp _)
  refine kont s' H' aq Da h3.objs.size (os.filterMap id) vs fq hR ⟨m,hm⟩ hCX hCf (g.s.free vD) hD hfD hr hnd2 (λb hb=>g.s.free (hfr2 b hb)) (g.trans g') λh5 zU=>?_
  have ub:Un (frs c.X.stack) fp H2 H' s3.heap h5:=by
   have u:=I'.base
   have ne:∀ b o,s3.heap.get? b=some o->b≠h3.objs.size:=λb o e=>RW (Ry e)
   refine ⟨λb o e n hf hx=>(zU.2 b (ne b o e)).trans (u.keep b o e n hf hx),λb o e n hf hx=>?_,u.free,λb o e hx=>?_,u.tups,u.frzs,u.tbls⟩
   ·obtain ⟨sl,e2⟩:=u.slot b o e n hf hx
    exact ⟨sl,(zU.2 b (ne b o e)).trans e2⟩
   ·obtain ⟨o',e2⟩:=u.there b o e hx
    exact ⟨o',(zU.2 b (ne b o e)).trans e2⟩
  have hokf:jd c.X.prog c.X.w H' h5:=λb u e=>(I'.hok b u e).stay (λa o ha e2=>by
   refine (zU.2 a ?_).trans e2
   intro z; subst z
   have hfree':H' h3.objs.size=none:=I'.free
   rcases ha with z | z
   ·subst z; rw [hfree'] at e; cases e
   ·rw [hfree'] at z; cases z) (λ_ z=>z) λ_ _ z=>z
  exact I3.G2 (ch:=fp) I'.os ub hokf I'.bare λb hb=>⟨(hfp b hb).2.2.2.1,(hfp b hb).2.1,(hfp b hb).2.2.2.2.1,(hfp b hb).2.2.2.2.2⟩
 have loop:codeAny (model c.X.prog c.X.w) c.X.A (.compLoop (.ListComp elt [⟨tg,iter,ifs,0⟩] scope pos) 0 (.ref it) (.ref Da) X'.env) (compPost (model c.X.prog c.X.w) c.X.A iB use QQ (.ref Da) h3.objs.size) { s2 with heap:=h4,toks:=s2.toks+([]:List (Str×Value)).length }:=by
  refine oZ (λn s'=>∃ (i:Nat) (σ':L2.St) (H' aq:Hp) (vs:List V) (fq:Fp),n=ds.length - i/\i<=ds.length/\Inv X' [] σ' H' s'/\tn i s'.heap/\bw c' σ' H' aq ρt/\bx H1 aQ H' aq/\H' Da=some (.lst vs)/\aq Da=none/\bh c.X.K H' aq ((os.take i).filterMap id) vs fq/\(fq.map (·.1)).Nodup/\(∀ b∈fq,H1 b.1=none)/\vs.length<=i/\∀ b∈fp,H' b=none) ?_ ds.length
   ⟨0,σ0,H2,aQ,[],[],by simp,RY _,I4,Tn.keep _ _ _ t0 λb hb o e=>k4 b o (k3 b o e),S4,bx.fJ g.b vD,af,g.b.free vD,by simp [bh],List.nodup_nil,(λb hb=>by cases hb),Rv _,λb hb=>by show upd H1 Da _ b=none; rw [av (fpne b hb)]; exact (hfp b hb).1⟩
  refine λn s5 hh=>z5 hh λi σ5 H5 Hf5 vs hh=>hh.elim λfq hh=>w6 hh λen hi I5 t5 S5 hh=>w6 hh λg5 hD5 hfD5 hr5 hnd5 hh=>w3 hh λhfr5 hlv fr5=>?_
  subst en
  by_cases hlt:i<ds.length
  ·have ed:ds[i]?=some ds[i]:=RU hlt
   have eo:os[i]?=some (os[i]'(by rw [hol]; exact hlt)):=RU _
   generalize ds[i]=d at ed
   generalize os[i]'(by rw [hol]; exact hlt)=o at eo
   obtain ⟨hgo,hy⟩:=io.go i d H5 Hf5 g5.f g5.b ed
   refine bB (Tn.item X' rfl rfl rfl rfl i [] s5 σ5 H5 iB I5 (fps fr5) t5 hgo) λr s6 hh=>hh.elim λu hh=>w2 hh λhr h6=>?_
   subst hr
   refine bB h6 λ_ s7 hh=>z2 hh λx H7 hh=>w5 hh λI7 rx y7 t7 fr7=>?_
   obtain ⟨Hf7,g7,rx7⟩:=hy x H7 y7
   have I7':=I7.pinned (fps fr7) (Tn.obj _ _ t7)
   have S7:bw c' σ5 H7 Hf7 ρt:=S5.cG g7
   have hasg0:=hb c' rfl t i d o ed eo
   rw [hρ] at hasg0
   have hasg:=hasg0 σ5 H7 Hf7 x (λσ2 H2'=>∃ cL ρ1,bw c' σ2 H2' cL ρ1/\bx H7 Hf7 H2' cL/\Ed ρt ρ1/\kT c' ifs ρ1 (jR (dD c' elt ρ1 λr=>∃ z,o=some z/\r.sh=some z) (o=none))) S7 rx7 (λσ2 H2' cL ρ1 S' g' hw=>⟨cL,ρ1,S',g',hw⟩) _ s7 u I7' rx
   refine bB (show wpAny _ _ _ _ iB _ from hasg) λ_ s8 hh=>z2 hh λσ8 H8 hh=>w2 hh λI8 hh=>z2 hh λHf8 ρ8 hh=>w4 hh λS8 g8 w8 hC8=>?_
   refine bB (nE (c:=c') rfl ifs S8 hC8 (Q:=λb H'=>∃ aq,jR (dD c' elt ρ8 λr=>∃ z,o=some z/\r.sh=some z) (o=none) b/\bx H8 Hf8 H' aq) (λb H' aq hb' g'=>⟨aq,hb',g'⟩) I8) λb s9 hh=>hh.elim λH9 hh=>w2 hh λI9 hh=>hh.elim λHf9 hh=>w2 hh λhb9 g9=>?_
   have g79:=(g7.trans g8).trans g9
   have hD9:H9 Da=some (.lst vs):=g79.s _ _ hD5
   have hfD9:Hf9 Da=none:=g79.n Da hfD5 (by rw [hD5]; simp) (by intro ys; rw [hD5]; simp)
   have keepT:∀ {σ':L2.St} {H':Hp} {s':Shared},Inv X' ([]++jh fp s7.heap) σ' H' s'->tn (i+1) s'.heap/\∀ b∈fp,H' b=none:=λ{σ' H' s'} I' =>
    ⟨Tn.keep _ _ _ t7 λb hb' ob e=>(I'.pin (b,ob) (S6 _ (S6 _ (d7 hb' e)))).1,λb hb'=>by
      obtain ⟨ob,e,_⟩:=Tn.obj _ _ t7 b hb'
      exact (I'.pin (b,ob) (S6 _ (S6 _ (d7 hb' e)))).2.1⟩
   have wk:∀ {σ':L2.St} {H' aq:Hp},bw c' σ' H' aq ρ8->bw c' σ' H' aq ρt:=λS'=>eT.weak S' w8.weak.1 w8.weak.2
   have tk:(os.take (i+1)).filterMap id=(os.take i).filterMap id++o.toList:=by
    rw [XF,eo,List.filterMap_append]
    cases o <;> rfl
   cases b with
   | false =>
    have eo':=hb9.f rfl
    subst eo'
    rw [if_neg RG]
    obtain ⟨t9,fr9⟩:=keepT I9
    have hr9:bh c.X.K H9 Hf9 ((os.take i).filterMap id) vs fq:=bh.mv g79.f _ (λa _ e1 e2=>⟨g79.s _ _ e1,g79.n a.1 e2 (by rw [e1]; simp) (by intro ys z; rw [e1] at z; cases z)⟩) hr5
    exact ⟨_,Nat.sub_lt_sub_left hlt (T7 i),i+1,σ8,H9,Hf9,vs,fq,rfl,hlt,I9.fc,t9,wk (S8.cG g9),g5.trans g79,hD9,hfD9,by rw [tk]; simpa using hr9,hnd5,hfr5,XE hlv,fr9⟩
   | true =>
    rw [if_pos rfl]
    have hev:=hb9.t rfl σ8 H9 Hf9 (λv H'=>∃ aq r,(∃ z,o=some z/\r.sh=some z)/\br c.X.K (λp=>H9 p=none) H' aq r v/\bx H9 Hf9 H' aq) (S8.cG g9) (λr v H' aq he r' g'=>⟨aq,r,he,r',g'⟩) _ s9 I9
    refine bB (show wpAny _ _ _ _ iB _ from hev) λu2 s10 hh=>z2 hh λv2 H10 hh=>w3 hh λI10 r10 hh=>z2 hh λHf10 r hh=>w3 hh λeo0 re g10=>?_
    obtain ⟨z,rfl,eo'⟩:=eo0
    obtain ⟨f1,rf1,nd1,fr1⟩:=JL eo' re
    have z1:=dN.fz z rf1
    have z0:=bh.fz _ hr5
    have g510:=g79.trans g10
    have hr10:bh c.X.K H10 Hf10 ((os.take i).filterMap id) vs fq:=bh.mv g510.f _ (λa _ e1 e2=>⟨g510.s _ _ e1,g510.n a.1 e2 (by rw [e1]; simp) (by intro ys z; rw [e1] at z; cases z)⟩) hr5
    have hD10:H10 Da=some (.lst vs):=g10.s _ _ hD9
    have hfD10:Hf10 Da=none:=g10.n Da hfD9 (by rw [hD9]; simp) (by intro ys; rw [hD9]; simp)
    have app:=ng (X:=X') _ s10 σ8 H10 (.ref Da) [v2] (.ref Da) [u2] (λ_ H'=>H'=upd H10 Da (.lst (vs++[v2]))) I10 rfl (.cons r10 .nil) ⟨Da,vs,v2,rfl,rfl,hD10,R8 (Tc hlv hlt) hz,rfl⟩
    refine bB (show wpAny _ _ _ _ iB _ from app) λ_ s11 ⟨_,H11,I11,_,e11⟩=>?_
    subst e11
    obtain ⟨t11,fr11⟩:=keepT I11
    have S10:bw c' σ8 H10 Hf10 ρ8:=(S8.cG g9).cG g10
    have gA:bx H1 aQ (upd H10 Da (.lst (vs++[v2]))) Hf10:=v9 ((g5.trans g79).trans g10) vD hfD10
    refine ⟨_,Nat.sub_lt_sub_left hlt (T7 i),i+1,σ8,_,Hf10,vs++[v2],fq++f1,rfl,hlt,I11.fc,t11,?_,gA,af,hfD10,?_,?_,?_,by rw [R3]; exact VB hlv,fr11⟩
    ·refine (wk S10).apart hB0 hfD10 (λ⟨_,z⟩=>by rw [hD10] at z; cases z) λj r hj ho=>λz=>?_
     obtain ⟨b,eb,nb⟩:=howA j r hj ho
     obtain ⟨v',e3,q3⟩:=(wk S10).at_ j r hj (by rintro rfl; cases ho)
     rw [z] at e3; cases e3
     exact nb (v8 eb q3).symm
    ·rw [tk]
     refine bh.mv (.refl _) _ (λa ha e1 e2=>⟨?_,e2⟩) (bh.snoc rf1 hr10)
     rw [av λz=>by rw [z,hD10] at e1; cases e1]; exact e1
    ·rw [Si,List.nodup_append]
     refine ⟨hnd5,nd1,λa ha b hb z=>?_⟩
     subst z
     obtain ⟨p,hp,ep⟩:=Sb.mp ha
     obtain ⟨q,hq',eq⟩:=Sb.mp hb
     have e1:=g79.s _ _ (z0 p hp).1
     have e2:=fr1 q hq'
     rw [eq,<- ep,e1] at e2; cases e2
    ·intro b hb
     rcases R5.mp hb with hb | hb
     ·exact hfr5 b hb
     ·exact (g5.trans g79).s.free (fr1 b hb)
  ·have e:i=ds.length:=Nat.le_antisymm hi (Nat.le_of_not_lt hlt)
   subst e
   refine bB (Tn.done X' rfl rfl rfl rfl ds.length [] s5 σ5 H5 iB I5 (fps fr5) t5 (io.stop _ H5 Hf5 g5.f g5.b (Rv _))) λr s6 ⟨hr,I6⟩=>?_
   subst hr
   refine fin s6 σ5 H5 Hf5 vs fq I6 g5 hD5 hfD5 ?_ hnd5 hfr5
   rw [UB (by rw [hol]; exact Rv _)] at hr5
   exact hr5
 exact codeAny_compStart_list loop (Tn.self _ 0 _ _ _ (Tn.keep _ _ _ t0 λb hb o e=>k4 b o (k3 b o e)) loop)
theorem wc:∀ {ds:List D} {vs:List V} {fq:Fp},bh K H Hf (ds.map .v) vs fq->ay K Hf ds vs
 | [],_,_,h=>by simp only [Ud,bh] at h; exact aB.mpr h.1
 | d::ds,_,_,h=>by
  simp only [RC,bh,dN] at h
  obtain ⟨x,r,f1,f2,rfl,h1,h2,-⟩:=h
  exact ay.cons h1.1 (wc h2)
theorem JM:∀ os:List (Option D),(os.map (Option.map Sh.v)).filterMap id=(os.filterMap id).map Sh.v
 | []=>rfl
 | none::os=>JM os
 | some d::os=>congrArg (Sh.v d:: ·) (JM os)
theorem kT.imp (h:∀ b,T b->T' b):∀ {ifs:List Expr} {ρ:List Sl},kT c ifs ρ T->kT c ifs ρ T'
 | [],_,q=>h _ q
 | _::_,_,q=>λσ H Hf Q S z=>q σ H Hf Q S λb H' aq hb g=>z b H' aq ⟨λe=>kT.imp h (hb.t e),λe=>h _ (hb.f e)⟩ g
theorem Bw (h:v5 c tg ifs elt ρ0 d o):Bv c tg ifs elt ρ0 d (o.map .v):=λσ H Hf v Q S r q=>h σ H Hf v Q S r λσ' H' aq ρ' S' g hw=>q σ' H' aq ρ' S' g ⟨hw.1,kT.imp (λb hb=>⟨λe=>λσ2 H2 cL Q2 S2 q2=>hb.t e σ2 H2 cL Q2 S2 λd2 v2 H3 Hf3 ed rv g3=>q2 (.va d2) v2 H3 Hf3 ⟨.v d2,by rw [ed]; rfl,rfl⟩ rv g3,λe=>by rw [hb.f e]; rfl⟩) hw.2⟩
theorem we {elt tg iter:Expr} {ifs:List Expr} {scope:Scope} {N':List Str} {ρ0:(Str->Addr)->List Sl} {R:Sl->Prop} (hq:c.X.xe=iB) (hfr:∀ t,yy t scope.names N ρ N' (ρ0 t))
 (h:zV c tg iter ρ λds=>Sd (ds.length<=sizeLine) (∃ os:List (Option D),os.length=ds.length /\
   (∀ c':Ctx P w K mg base k N' (bV scope sc) true,c'.X.xe=iB->∀ (t:Str->Addr) (i:Nat) (d:D) (o:Option D),ds[i]?=some d->os[i]?=some o->v5 c' tg ifs elt (ρ0 t) d o)/\R (.ow (os.filterMap id))))
 (hcp:OJ scope sc N':=by decide +kernel)
 (hs:∀ env v,foldedSetIterable iter env v=pure v:=by intro _ _; walk_at "u")
 {σ:L2.St} {H Hf:Hp} (S:bw c σ H Hf ρ) {aa:List (Addr×Obj)} {s:Shared} (I:Inv c.X aa σ H s) {use:Option (Value->Sem Unit)} {QQ:Value->Shared->Prop}
 (kont:∀ (s':Shared) (H' aq:Hp) (a C:Addr) (r:Sl),R r->(∃ m,s'.heap.Ns C m)->C∉c.X.fs->eZ c.X aa H' C->br c.X.K (λp=>H p=none) H' aq r (.ref a)->bx H Hf H' aq->(∀ h5,Tt C s'.heap h5->Inv c.X aa σ H' { s' with heap:=h5 })->compPost (model c.X.prog c.X.w) c.X.A iB use QQ (.ref a) C (.ok .next) s') :
 wpAny (model c.X.prog c.X.w) c.X.A (comprehension (.ListComp elt [⟨tg,iter,ifs,0⟩] scope pos) scope c.X.env (firstIterPos [⟨tg,iter,ifs,0⟩] pos) (newList []) (firstAsync [⟨tg,iter,ifs,0⟩]) (firstIter [⟨tg,iter,ifs,0⟩] c.X.env) use) QQ iB s:=by
 refine Fg (R:=λss=>∃ os:List D,ss=os.map .v/\R (.ow os)) hq hfr (λσ' H' aq Q S' q=>h σ' H' aq Q S' λds J H1 aQ hd=>q ds J H1 aQ ⟨hd.1,hd.2.elim λos ho=>⟨os.map (Option.map .v),by rw [RB]; exact ho.1,λc' hc t i d o e1 e2=>?_,os.filterMap id,?_,ho.2.2⟩⟩) hcp hs S I λs' H' aq a C ss vs fq hR hC1 hC2 zS ha h1 h2 r nd fr g hJ=>?_
 ·rw [RO,RV] at e2
  obtain ⟨o',e3,rfl⟩:=e2
  exact Bw (ho.2.1 c' hc t i d o' e1 e3)
 ·exact JM os
 ·obtain ⟨os,rfl,hR⟩:=hR
  exact kont s' H' aq a C (.ow os) hR hC1 hC2 zS ⟨a,vs,rfl,ha,h1,h2,wc r⟩ g hJ
theorem gW {elt tg iter:Expr} {ifs:List Expr} {scope:Scope} {N':List Str} {ρ0:(Str->Addr)->List Sl} {R:Sl->Prop} (hq:c.X.xe=iB) (hfr:∀ t,yy t scope.names N ρ N' (ρ0 t))
 (h:zV c tg iter ρ λds=>Sd (ds.length<=sizeLine) (∃ os:List (Option D),os.length=ds.length /\
   (∀ c':Ctx P w K mg base k N' (bV scope sc) true,c'.X.xe=iB->∀ (t:Str->Addr) (i:Nat) (d:D) (o:Option D),ds[i]?=some d->os[i]?=some o->v5 c' tg ifs elt (ρ0 t) d o)/\R (.ow (os.filterMap id))))
 (hcp:OJ scope sc N':=by decide +kernel)
 (hs:∀ env v,foldedSetIterable iter env v=pure v:=by intro _ _; walk_at "u"):dD c (.ListComp elt [⟨tg,iter,ifs,0⟩] scope pos) ρ R:=λσ H Hf Q S q aa s I=>by
 rw [hq]
 rw [show (eval (.ListComp elt [⟨tg,iter,ifs,0⟩] scope pos) c.X.env)=comprehension (.ListComp elt [⟨tg,iter,ifs,0⟩] scope pos) scope c.X.env (firstIterPos [⟨tg,iter,ifs,0⟩] pos) (newList []) (firstAsync [⟨tg,iter,ifs,0⟩]) (firstIter [⟨tg,iter,ifs,0⟩] c.X.env) from rfl]
 exact we hq hfr h hcp hs S I λs' H' aq a C r hr ⟨m,hm⟩ _ _ hrep g hJ=>⟨m,hm,λh5 zU=>⟨.ref a,H',hJ h5 zU,rfl,q r _ H' aq hr hrep g⟩⟩
theorem o6:Tt a h h:=⟨rfl,λ_ _=>rfl⟩
theorem Fi (I:Inv X aa σ H s) (hC:eZ X aa H C) (hsb:Tt C s.heap h5):Inv X aa σ H { s with heap:=h5 }:=by
 refine I.G2 (ch:=[C]) rfl ⟨λb o e _ _ hx=>?_,λb o e _ _ hx=>⟨o.slots,?_⟩,λb o e n _=>n,λb o e hx=>⟨o,?_⟩,λb xs e=>e,λb o u e=>e,λb ps e=>⟨#[],by simpa using e⟩⟩ (λb u e=>(I.hok b u e).stay (λa o ha e2=>?_) (λ_ z=>z) λ_ _ z=>z) I.bare λb hb=>?_
 ·exact (hsb.2 b (λz=>hx (by rw [z]; exact RD))).trans e
 ·exact (hsb.2 b (λz=>hx (by rw [z]; exact RD))).trans e
 ·exact (hsb.2 b (λz=>hx (by rw [z]; exact RD))).trans e
 ·refine (hsb.2 a ?_).trans e2
  intro z; subst z
  rcases ha with z | z
  ·subst z; rw [hC.1] at e; cases e
  ·rw [hC.1] at z; cases z
 ·have:b=C:=by simpa using hb
  subst this
  exact ⟨hC.2.2.2.1,hC.2.1,hC.2.2.2.2.1,hC.2.2.2.2.2⟩
theorem fY {elt tg iter:Expr} {ifs:List Expr} {scope:Scope} {N':List Str} {ρ0:(Str->Addr)->List Sl} {nx:List Sl->Prop} {p:Pt} {x:Str} {pos2 posA:Pos} {i:Nat} (hN:At N i x) (hq:c.X.xe=iB) (hfr:∀ t,yy t scope.names N ρ N' (ρ0 t))
 (h:zV c tg iter ρ λds=>Sd (ds.length<=sizeLine) (∃ os:List (Option D),os.length=ds.length /\
   (∀ c':Ctx P w K mg base k N' (bV scope sc) true,c'.X.xe=iB->∀ (t:Str->Addr) (i:Nat) (d:D) (o:Option D),ds[i]?=some d->os[i]?=some o->v5 c' tg ifs elt (ρ0 t) d o)/\Nx ρ i nx (.ow (os.filterMap id))))
 (hsw:(pos2.line == pos.line && !scope.names.any λ(n,k)=>n == x && (k == NameKind.local || k == NameKind.cell))=true:=by decide +kernel) (hl:sc.names.lookup x=some .local:=by walk_at "u")
 (hcp:OJ scope sc N':=by decide +kernel)
 (hs:∀ env v,foldedSetIterable iter env v=pure v:=by intro _ _; walk_at "u"):fX c (.Assign [.Name x pos2] (.ListComp elt [⟨tg,iter,ifs,0⟩] scope pos) posA) ρ nx p:=λσ H Hf D S o aa s I=>by
 have hsw':swapsWith (.ListComp elt [⟨tg,iter,ifs,0⟩] scope pos) (some (.Name x pos2)) posA.line c.X.env=pure true:=by
  have e1:c.X.env.blockKind=.function:=by unfold Env.blockKind; rw [show c.X.env.scope.kind=.function from I.ok.kind]; rfl
  have e2:c.X.env.kindOf x=some .local:=by unfold Sw; rw [c.esc]; exact hl
  show pure (c.X.env.blockKind == ScopeKind.function && c.X.env.kindOf x == some NameKind.local && pos2.line == pos.line && !scope.names.any λ(n,k)=>n == x && (k == NameKind.local || k == NameKind.cell))=pure true
  rw [e1,e2]; exact congrArg pure hsw
 rw [hq,exec_Assign_Name_used x pos2 _ posA hsw']
 refine Rq (Wx ?_)
 refine Rq ?_
 rw [show (evalThenUse (.ListComp elt [⟨tg,iter,ifs,0⟩] scope pos) c.X.env (assign (.Name x pos2) c.X.env))=(do let _ <- comprehension (.ListComp elt [⟨tg,iter,ifs,0⟩] scope pos) scope c.X.env (firstIterPos [⟨tg,iter,ifs,0⟩] pos) (newList []) (firstAsync [⟨tg,iter,ifs,0⟩]) (firstIter [⟨tg,iter,ifs,0⟩] c.X.env) (some (assign (.Name x pos2) c.X.env)); pure ()) from rfl]
 refine Rq (we hq hfr h hcp hs S I λs' H' aq a C r hr ⟨m,hm⟩ hCX hCf hrep g hJ=>?_)
 have J:=hJ s'.heap o6
 obtain ⟨oC,es,ep,e1,e2,e3,e4⟩:=hm
 have fps:∀ b∈[C],eZ c.X aa H' b:=λb hb=>by rw [RN.mp hb]; exact hCf
 have hob:∀ b∈[C],∃ o,s'.heap.get? b=some o/\∀ v:Option Value,o.data≠.cell v:=λb hb=>by
  rw [RN.mp hb]; exact ⟨oC,e1,λv z=>by rw [e2] at z; cases z⟩
 have J2:=J.pinned fps hob
 have hmem:(C,oC)∈jh [C] s'.heap:=d7 RD e1
 obtain ⟨ρ',hset,hx⟩:=hr
 have st:=AO (oF (X:=c.X) (i:=i) (pos:=pos2) (by rw [c.eN]; exact c.nd) (by rw [c.eN]; exact hN.get) (by rw [c.esc]; exact c.vis x hN.mem) (c.fn x (.inr hl))) (v:=.ref a) (σ:=σ) (H:=H') (Q:=λσ' H''=>D.nx σ' H'') (o.nx _ H' aq _ (hset.eq ▸ S.set g hrep) hx) _ s' (.ref a) J2 rfl
 rw [hq] at st
 refine bB st λ_ s'' ⟨σ',H'',I'',dn⟩=>?_
 have pC:=I''.pin (C,oC) (S6 _ (S6 _ hmem))
 refine ⟨m,⟨oC,es,ep,pC.1,e2,e3,e4⟩,λh' hsb=>?_⟩
 have I3:Inv c.X aa σ' H'' s'':=I''.fc
 have I4:=Fi I3 (C:=C) ⟨pC.2.1,hCf.2⟩ hsb
 exact Rt (Rt ⟨_,_,I4,dn⟩)
end
mutual
def D.nl:D->Prop
 | .lst _=>False
 | .fdK _ _=>False
 | .fdT _ _=>False
 | .tup ds=>D.o7 ds
 | _=>True
def D.o7:List D->Prop
 | []=>True
 | d::ds=>d.nl/\D.o7 ds
end
theorem wg:∀ {ds:List D},D.o7 ds↔∀ d∈ds,d.nl
 | []=>by simp [D.o7]
 | d::ds=>by simp [D.o7,wg (ds:=ds)]
theorem gB {α:Type} {f:α->D} {l:List α} (h:∀ x∈l,(f x).nl):D.o7 (l.map f):=wg.mpr λd hd=>by
 obtain ⟨x,hx,rfl⟩:=Sb.mp hd
 exact h x hx
theorem jn:(D.int i).nl:=by simp [D.nl]
theorem iM (l:List Int):D.o7 (l.map D.int):=gB λx _=>jn
theorem o8 (h:D.o7 ds):(D.tup ds).nl:=by simpa [D.nl] using h
noncomputable def HO.mt:HO->Prop | .lst _=>True | .dK _=>True | .dT _=>True | _=>False
theorem nG {K:Rr} (hp:Hf p=some o) (hm:HO.mt o) (h:dG K Hf a xs):dG K (del Hf p) a xs:=by
 rcases h with (h | ⟨o',h⟩) | h
 ·exact .inl (.inl (by rw [bU (by rintro rfl; rw [hp] at h; cases h; exact hm)]; exact h))
 ·exact .inl (.inr ⟨o',by rw [bU (by rintro rfl; rw [hp] at h; cases h; exact hm)]; exact h⟩)
 ·exact .inr h
mutual
theorem uq {K:Rr} {Hf:Hp} {p:Addr} {o:HO} (hp:Hf p=some o) (hm:HO.mt o):∀ (d:D) {v:V},d.nl->Rep K Hf d v->Rep K (del Hf p) d v
 | .non,_,_,h=>by simpa [Rep] using h
 | .bl _,_,_,h=>by simpa [Rep] using h
 | .int _,_,_,h=>by simpa [Rep] using h
 | .str _,_,_,h=>by simpa [Rep] using h
 | .adr _,_,_,h=>by simpa [Rep] using h
 | .tup ds,v,f,h=>by
  simp only [Rep] at h |-
  obtain ⟨a,xs,e,h1,h2⟩:=h
  exact ⟨a,xs,e,nG hp hm h1,o9 hp hm ds (by simpa [D.nl] using f) h2⟩
 | .lst _,_,f,_=>by simp [D.nl] at f
 | .fdK _ _,_,f,_=>by simp [D.nl] at f
 | .fdT _ _,_,f,_=>by simp [D.nl] at f
 | .exc C,_,_,h=>by
  simp only [Rep] at h |-
  obtain ⟨a,e,h⟩:=h
  exact ⟨a,e,by rw [bU (by rintro rfl; rw [hp] at h; cases h; exact hm)]; exact h⟩
theorem o9 {K:Rr} {Hf:Hp} {p:Addr} {o:HO} (hp:Hf p=some o) (hm:HO.mt o):∀ (ds:List D) {xs:List V},D.o7 ds->ay K Hf ds xs->ay K (del Hf p) ds xs
 | [],_,_,h=>by simpa [ay] using h
 | d::ds,xs,f,h=>by
  simp only [ay] at h |-
  simp only [D.o7] at f
  obtain ⟨x,r,e,h1,h2⟩:=h
  exact ⟨x,r,e,uq hp hm d f.1 h1,o9 hp hm ds f.2 h2⟩
end
noncomputable def Sl.nl:Sl->Prop
 | .va d=>d.nl
 | .ow ds=>D.o7 ds
 | _=>False
theorem br.P9 {K:Rr} {H H' aq:Hp} (hp:aq p=some oz) (hm:HO.mt oz) (h0:H p=some o) (f:r.nl) (h:br K (λp=>H p=none) H' aq r v):br K (λp=>H p=none) H' (del aq p) r v:=by
 cases r with
 | va d=>exact uq hp hm d f h
 | ow ds =>
  obtain ⟨q,xs,rfl,fq,h1,h2,h3⟩:=h
  refine ⟨q,xs,rfl,fq,h1,?_,o9 hp hm ds f h3⟩
  rw [bU (by rintro rfl; rw [h0] at fq; cases fq)]; exact h2
 | _=>exact f.elim
section
variable {P:Program} {w:World} {K:Rr} {mg:Str->Option Value} {base:Heap} {k:Nat} {N:List Str} {sc:Scope} {bk:Bool} {c:Ctx P w K mg base k N sc bk} {ρ ρ':List Sl} {pos ap cp px tp:Pos} {a b e f:Expr} {es:List Expr} {R:D->Prop} {T:Bool->Prop} {nx:List Sl->Prop} {p:Pt} {x:Str} {i:Nat} {r:Sl} {ds:List D}
noncomputable def Sl.jS:Sl->Option D
 | .ow ds=>some (.lst ds) | .aw _ ds=>some (.lst ds)
 | _=>none
theorem kW (h:r.jS=some d):r.owned=true:=by cases r <;> first | rfl | cases h
theorem iN {κ:Type} {Hf:Hp} {kvs:List (κ×D)} {xs:List (κ×V)} (h:mq K Hf kvs xs):xs.map (·.1)=kvs.map (·.1)/\ay K Hf (kvs.map (·.2)) (xs.map (·.2)):=by
 unfold mq at h
 induction h with
 | nil=>exact ⟨rfl,aB.mpr rfl⟩
 | cons h t ih=>exact ⟨by rw [RC,RC,ih.1,h.1],.cons h.2 ih.2⟩
theorem fk (h:mw K Hf kvs xs):xs.map (·.1)=kvs.map (·.1)/\(∀ y∈xs,dG K Hf y.2.1 (y.1.map kV))/\ay K Hf (kvs.map (·.2)) (xs.map (·.2.2)):=by
 refine ⟨?_,h.Bu,?_⟩
 ·unfold mw at h
  induction h with
  | nil=>rfl
  | cons h t ih=>rw [RC,RC,ih,h.1]
 ·unfold mw at h
  induction h with
  | nil=>exact aB.mpr rfl
  | cons h t ih=>exact .cons h.2.2 ih
theorem br.jS (h:r.jS=some d) (q:br K fr H Hf r v):∃ p o,v=.ref p/\fr p/\H p=some o/\Hf p=none/\HO.mt o/\Rep K (upd Hf p o) d v:=by
 have sf:∀ {p:Addr} {o:HO},Hf p=none->aN Hf (upd Hf p o):=λhp b u e=>by rw [av (aF e hp)]; exact e
 cases r with
 | ow ds=>cases h; obtain ⟨p,xs,rfl,f,h1,h2,h3⟩:=q; exact ⟨p,_,rfl,f,h1,h2,trivial,aZ.mpr ⟨p,xs,rfl,.inl (.inl af),h3.mono (sf h2)⟩⟩
 | aw a ds=>cases h; obtain ⟨p,xs,rfl,f,h1,h2,h3⟩:=q; exact ⟨p,_,rfl,f.1,h1,h2,trivial,aZ.mpr ⟨p,xs,rfl,.inl (.inl af),h3.mono (sf h2)⟩⟩
 | _=>cases h
theorem eT.j7 (S:eT K H₀ eY σ H Hf ρ) (h:ρ[i]?=some r) (hr:r.jS=some d) :
 ∃ q o,H q=some o/\Hf q=none/\HO.mt o/\eT K H₀ eY σ H (L2.upd Hf q o) (ρ.set i (.va d)):=by
 obtain ⟨q,ev,rq⟩:=S.own h (kW hr)
 obtain ⟨_,o,e0,fq,hq,qx,hm,rd⟩:=rq.jS hr
 cases e0
 have hi:i<ρ.length:=(RJ.mp h).1
 have hown:=kW hr
 have sf:aN Hf (L2.upd Hf q o):=λb u e=>by rw [L2.av (aF e qx)]; exact e
 have sb:aN (L2.upd Hf q o) H:=λb u e=>by
  by_cases z:b=q
  ·subst z; rw [L2.af] at e; rw [hq]; exact e
  ·rw [L2.av z] at e; exact S.sb b u e
 refine ⟨q,o,hq,qx,hm,⟨S.bas.s,S.bas.f.trans sf,sb,λb h1 h2 h3=>?_⟩,by simp [S.len],λj r' hj hu=>?_,λj j' r1 r2 q' hne h1 h2 o1 o2=>?_⟩
 ·have e:=S.bas.n b h1 h2 h3
  by_cases z:b=q
  ·subst z; exact absurd fq h2
  ·rw [L2.av z]; exact e
 ·by_cases z:j=i
  ·subst z
   rw [SQ hi] at hj
   cases hj
   exact ⟨_,ev,rd⟩
  ·rw [SS (RS z)] at hj
   obtain ⟨v,e1,e2⟩:=S.at_ j r' hj hu
   refine ⟨v,e1,?_⟩
   have key:r'.owned=true->v≠.ref q:=λho z=>by
    subst z
    exact S.sep i j _ _ q (RS ‹_›) h hj hown ho ev e1
   exact br.mv (B:=λz=>z=q) sf (λz u hz e1 _ e3=>⟨e1,by rw [L2.av hz]; exact e3⟩) (by rintro _ z rfl ⟨ys,e9⟩; rw [hq] at e9; cases e9; exact hm) (λho z e=>by rintro rfl; exact key ho e) e2
 ·have out:∀ {j:Nat} {r:Sl},(ρ.set i (.va d))[j]?=some r->r.owned=true->ρ[j]?=some r:=λ{j r} hj ho=>by
   by_cases z:j=i
   ·subst z; rw [SQ hi] at hj; cases hj; cases ho
   ·rw [SS (RS z)] at hj; exact hj
  exact S.sep j j' r1 r2 q' hne (out h1 o1) (out h2 o2) o1 o2
theorem kX (sb:aN Hf H) (hq:H q=some o) (qx:Hf q=none) (g:bx H (upd Hf q o) H' aq):bx H Hf H' (del aq q) :=
 ⟨g.s,λb o e=>by rw [bU (aF e qx)]; exact g.f b o (by rw [av (aF e qx)]; exact e),λb o e=>by obtain ⟨_,e2⟩:=iJ e; exact g.b b o e2,λb h1 h2 h3=>by
   by_cases z:b=q
   ·subst z; exact iI
   ·rw [bU z]; exact g.n b (by rw [av z]; exact h1) h2 h3⟩
theorem Bx (i) (hi:At ρ i r) (hr:r.jS=some d0) (hs:SSet ρ i (.va d0) ρ') (h:aG c e ρ' λd=>Sd d.nl (R d)):aG c e ρ R:=λσ H Hf Q S q=>by
 obtain ⟨a,o,ha,vC,hm,S1⟩:=S.j7 hi.get hr
 rw [<- hs.eq] at S1
 exact h σ H _ Q S1 λd v H' aq ⟨fl,rd⟩ rv g=>q d v H' _ rd (uq (g.f a _ af) hm d fl rv) (kX S.sb ha vC g)
theorem M6 (i) {R:Sl->Prop} (hi:At ρ i r) (hr:r.jS=some d0) (hs:SSet ρ i (.va d0) ρ') (h:dD c e ρ' λd=>Sd d.nl (R d)):dD c e ρ R:=λσ H Hf Q S q=>by
 obtain ⟨a,o,ha,vC,hm,S1⟩:=S.j7 hi.get hr
 rw [<- hs.eq] at S1
 exact h σ H _ Q S1 λd v H' aq ⟨fl,rd⟩ rv g=>q d v H' _ rd (rv.P9 (g.f a _ af) hm ha fl) (kX S.sb ha vC g)
theorem cE {st:List Stmt} (i) (hi:At ρ i r) (hr:r.jS=some d0) (hs:SSet ρ i (.va d0) ρ') (h:aE c st ρ' nx p):aE c st ρ nx p:=λσ H Hf D S o=>by
 obtain ⟨a,ob,ha,vC,hm,S1⟩:=S.j7 hi.get hr
 rw [<- hs.eq] at S1
 exact h σ H _ D S1 o
theorem Hu {st:Stmt} (i) (hi:At ρ i r) (hr:r.jS=some d0) (hs:SSet ρ i (.va d0) ρ') (h:fX c st ρ' nx p):fX c st ρ nx p:=λσ H Hf D S o=>by
 obtain ⟨a,ob,ha,vC,hm,S1⟩:=S.j7 hi.get hr
 rw [<- hs.eq] at S1
 exact h σ H _ D S1 o
theorem M7 (hN:At N i x) (hi:At ρ i r) (hr:r.jS=some (.lst ds)) (hs:SSet ρ i (.va (.lst ds)) ρ') (h:aG c b ρ' λy=>Sd y.nl (∃ j d,y=.int j/\jj ds j=some d/\Sd d.nl (R d))) (hx:At ρ' i (.va (.lst ds)))
 (hd:(x == ("__debug__":Str))=false:=by decide) (hcd:(x == ("__classdict__":Str))=false:=by decide) (hp:j3 b:=by with_unfolding_all exact λ_ _=>rfl):aG c (.Subscript (.Name x p2) b pos) ρ R :=
 Bx i hi hr hs (MZ (jH hN hx (h.imp λy ⟨_,j,d,e1,e2,e3⟩=>⟨ds,j,d,rfl,e1,e2,e3⟩) hd hcd) hp)
theorem SSet.at (h:SSet l i r l'):At l' i r:=by
 induction h with
 | z=>exact .z
 | s _ ih=>exact .s ih
theorem JN (hm:mg "len"=none) (hN:At N i x) (hi:At ρ i r) (hr:r.jS=some (.lst ds)) (hs:SSet ρ i (.va (.lst ds)) ρ') (h:R (.int ds.length)) (hg:sc.names.lookup (Rp "len")=some .globalImplicit:=by walk_at "u")
 (hd:(x == ("__debug__":Str))=false:=by decide) (hcd:(x == ("__classdict__":Str))=false:=by decide)
 (he:∀ env,starEach [.Name x p2] env=(false,eval (.Name x p2) env)::starEach [] env:=by intro _; walk_at "u"):aG c (.Call (.Name "len" p1) [.Name x p2] [] pos) ρ R :=
 Bx i hi hr hs (e_len hm (jH hN hs.at ⟨ds,rfl,jn,h⟩ hd hcd) hg he)
theorem By (hm:mg "tuple"=none) (hN:At N i x) (hi:At ρ i r) (hr:r.jS=some (.lst ds)) (hs:SSet ρ i (.va (.lst ds)) ρ') (h:Sd (D.o7 ds) (R (.tup ds))) (hg:sc.names.lookup (Rp "tuple")=some .globalImplicit:=by walk_at "u")
 (hd:(x == ("__debug__":Str))=false:=by decide) (hcd:(x == ("__classdict__":Str))=false:=by decide)
 (he:∀ env,starEach [.Name x p2] env=(false,eval (.Name x p2) env)::starEach [] env:=by intro _; walk_at "u"):aG c (.Call (.Name "tuple" p1) [.Name x p2] [] pos) ρ R :=
 Bx i hi hr hs (oX hm (jH hN hs.at ⟨ds,rfl,o8 h.s,h.r⟩ hd hcd) hg he)
theorem M8 (h:dD c e ρ (G7 R)):aG c e ρ R:=e_x h
end
end EV
set_option maxHeartbeats 0
namespace EV
open PySem PySem.Spec PyProof.Rows L2
section
variable {P:Program} {w:World} {K:Rr} {mg:Str->Option Value} {base h:Heap}
def ai (K:Rr) (mg:Str->Option Value) (x:Str) (st:Stmt):Prop:=∃ f fd,mg x=some (.ref f)/\cU K x x st f fd
theorem JO {st:Stmt} {kV doc pm cdv ct:Value} (KX:K.In h) (G:h.Ns mainGlobals mg) (a:SA K mainGlobals x=some (some (.ref f)))
 (l:K.lookup f=some ⟨oc,od,.func (Ub x x (fG st) (aj st) (aR st) .none kV doc pm an cdv ct),osl⟩) (c:Wv K cdv x=true) (k:TY K (.ref f)=true):ai K mg x st :=
 ⟨f,_,PySem.W.mg_of KX G a,Jq l c k⟩
theorem JP (e:(t == SN T)=false) (m:PySem.W.kitMeta T=true) (s:PySem.W.subIn K t (.type T)=some b):PySem.W.kitOne K t (.type T)=some b:=by
 unfold PySem.W.kitOne PySem.W.kitCls
 simp [e,m,s]
structure Txt (K:Rr) (mg:Str->Option Value):Prop where
 abs:mg "abs"=none
 len:mg "len"=none
 isin:mg "isinstance"=none
 range:mg "range"=none
 int:mg "int"=none
 bool:mg "bool"=none
 tuple:mg "tuple"=none
 list:mg "list"=none
 max:mg "max"=none
 min:mg "min"=none
 sum:mg "sum"=none
 sorted:mg "sorted"=none
 zip:mg "zip"=none
 enum:mg "enumerate"=none
 all:mg "all"=none
 any:mg "any"=none
 dict:mg "dict"=none
 ib:PySem.W.kitOne K (.type "int") (.type "bool")=some false
theorem JQ (KX:K.In h) (G:h.Ns mainGlobals mg)
 (z1:SA K mainGlobals "abs"=some none)
 (z2:SA K mainGlobals "len"=some none)
 (z3:SA K mainGlobals "isinstance"=some none)
 (z4:SA K mainGlobals "range"=some none)
 (z5:SA K mainGlobals "int"=some none)
 (z6:SA K mainGlobals "bool"=some none)
 (z7:SA K mainGlobals "tuple"=some none)
 (z8:SA K mainGlobals "list"=some none)
 (z9:SA K mainGlobals "max"=some none)
 (z10:SA K mainGlobals "min"=some none)
 (z11:SA K mainGlobals "sum"=some none)
 (z12:SA K mainGlobals "sorted"=some none)
 (z13:SA K mainGlobals "zip"=some none)
 (z14:SA K mainGlobals "enumerate"=some none)
 (z15:SA K mainGlobals "all"=some none)
 (z16:SA K mainGlobals "any"=some none)
 (z17:SA K mainGlobals "dict"=some none)
 (sib:PySem.W.subIn K (.type "int") (.type "bool")=some false):Txt K mg :=
 ⟨SH KX G z1,SH KX G z2,SH KX G z3,SH KX G z4,SH KX G z5,SH KX G z6,SH KX G z7,SH KX G z8,
  SH KX G z9,SH KX G z10,SH KX G z11,SH KX G z12,SH KX G z13,SH KX G z14,SH KX G z15,SH KX G z16,SH KX G z17,
  JP (by decide) (by decide) sib⟩
theorem M9 {α:Type} (us:List α) (h:us.length=1):∃ a,us=[a]:=by match us,h with | [a],_=>exact ⟨a,rfl⟩
theorem Na {α:Type} (us:List α) (h:us.length=2):∃ a b,us=[a,b]:=by match us,h with | [a,b],_=>exact ⟨a,b,rfl⟩
theorem Nb {α:Type} (us:List α) (h:us.length=3):∃ a b c,us=[a,b,c]:=by match us,h with | [a,b,c],_=>exact ⟨a,b,c,rfl⟩
theorem Nc {α:Type} (us:List α) (h:us.length=4):∃ a b c d,us=[a,b,c,d]:=by match us,h with | [a,b,c,d],_=>exact ⟨a,b,c,d,rfl⟩
theorem Nd {α:Type} (us:List α) (h:us.length=5):∃ a b c d e,us=[a,b,c,d,e]:=by match us,h with | [a,b,c,d,e],_=>exact ⟨a,b,c,d,e,rfl⟩
theorem aI (P) (w) (base) {st:Stmt} (D:ai K mg x st) (ok:∀ {f:Addr} {fd:FuncData},cU K x x st f fd->aU P w K mg base (cF P w) k f fd ps (cR K F))
 (hb:∀ (kV doc pm:Value) (an:Option Addr) (cdv ct:Value) (us:List Value),us.length=ps.length->bindArgs (Ub x x (fG st) (aj st) (aR st) .none kV doc pm an cdv ct) ⟨us,[]⟩=pure (ps.zip us):=by intro _ _ _ _ _ _ us hl; first | (obtain ⟨a,rfl⟩:=M9 us hl; rfl) | (obtain ⟨a,b,rfl⟩:=Na us hl; rfl) | (obtain ⟨a,b,c,rfl⟩:=Nb us hl; rfl) | (obtain ⟨a,b,c,d,rfl⟩:=Nc us hl; rfl) | (obtain ⟨a,b,c,d,e,rfl⟩:=Nd us hl; rfl) | (obtain ⟨a,b,c,d,e,f,rfl⟩:=len6 us hl; rfl) | (obtain rfl:=len0 us hl; rfl)):bN P w K mg base k x F :=
 let ⟨f,fd,m,Fu⟩:=D; ⟨f,fd,ps,m,Fu.kp,Fu.binds hb,ok Fu⟩
noncomputable def BA:Fn:=λds r=>∃ ns:List Int,ns.length<=63/\ds=[.lst (ns.map D.int)]/\r=.ok (.va (.bl true))
theorem JR (H) (a) (ns:List Int) (hl:ns.length<=63) (hS:fS K H a (ns.map V.int)):cR K BA [.ref a] H (λv _=>v=.bl true) λ_ _ _=>False :=
 ⟨H,[.lst (ns.map D.int)],.ok (.va (.bl true)),.refl H,.cons (aZ.mpr ⟨a,_,rfl,hS,ny ns⟩) (aB.mpr rfl),⟨ns,hl,rfl,rfl⟩,λv H' aq _ r=>(dh (K:=K) (H:=aq)).mp r⟩
theorem walk {l:PySem.W.OpenLaw} {K:Params->Rr} (hk:k<=20) (hn:l.most=some 63) (hdf:d.params.defaults=[])
 (hY:∀ (w:World) (h:Heap),YP w h->(K w.params).In h)
 (F:∀ (w:World) (mg:Str->Option Value) (fa:Addr) (h:Heap),(K w.params).In h->h.Ns mainGlobals mg->mg d.name=some (.ref fa) ->
   ∃ fd:FuncData,(∀ (s:Shared) (u:Value),BindsTo s fd ⟨[u],[]⟩ [("_law_script",u)])/\∀ base:Heap,(K w.params).In base->base.Ns mainGlobals mg->aU l.prog w (K w.params) mg base (cF l.prog w) 20 fa fd ["_law_script"] (cR (K w.params) BA)) :
 PySem.W.WalkO q loose XP YP l.row.toRowW d [] (λf vs=>PySem.call f vs) :=
 L2.ES (n:=63) (k:=20) (x:="_law_script") (CX:=λw=>cF l.prog w) (sp:=λw=>cR (K w.params) BA) hn (by decide) hdf ⟨rfl,by decide,by decide⟩ hY F (λ_ H a ns hl _ hS=>JR H a ns hl hS) λ_ _ _ _ _ ⟨_,_,_,_,_,q⟩=>q
end
theorem qY (x y):RA y (x % y)=RA x y:=by
 have h:RA y (y * (x / y)+x % y)=RA y (x % y):=by simp
 rw [Int.mul_ediv_add_emod] at h
 rw [<- h,Int.gcd_comm]
theorem nH {j:Int} (h:j.natAbs<10 ^ n) (hn:n<=2700):j.natAbs.log2<9000:=by
 by_cases z:j.natAbs=0
 ·rw [z]; decide
 ·refine (WO z).mpr (R8 h ?_)
  calc 10 ^ n<=10 ^ 2700:=SD (by decide) hn
   _<=2 ^ 9000:=by decide +kernel
@[irreducible] def Zs (n:Nat) (a:Int):Prop:=a.natAbs<10 ^ n
theorem fZ:Zs n a↔a.natAbs<10 ^ n:=by unfold Zs; exact Iff.rfl
abbrev Pz (a:Int):Prop:=Zs 2600 a
abbrev Sz (a:Int):Prop:=Zs 1299 a
noncomputable def cV (a b:Int):Int:=if b<0 then 0 - (RA a b:Int) else RA a b
noncomputable def nT (a b:Int):Int:=a.fdiv (cV a b)
noncomputable def nB (a b:Int):Int:=b.fdiv (cV a b)
noncomputable abbrev dH (a b:Int):D:=.tup [.int (nT a b),.int (nB a b)]
theorem wj (h:Pz b) (hb:b≠0):(RA a b:Int).natAbs.log2<9000:=by
 refine nH (n:=2600) ?_ (by decide)
 have:RA a b<=b.natAbs:=Nat.le_of_dvd (by lia) (Int.gcd_dvd_natAbs_right a b)
 simp only [Int.natAbs_natCast]
 have h:=fZ.mp h
 lia
theorem BB (h:b<0):D.tup [.int ((-a) / (RA (-a) (-b))),.int ((-b) / (RA (-a) (-b)))]=dH a b:=by
 have hp:(0:Int)<RA a b:=by have:=UY a (show b≠0 by lia); lia
 have key:∀ x:Int,(RA a b:Int) ∣ x->(-x) / (RA a b:Int)=x.fdiv (0 - (RA a b:Int)):=λx ⟨q,hq⟩=>by
  rw [hq,show (0:Int) - (RA a b:Int)= -(RA a b:Int) by lia]
  rw [show -((RA a b:Int) * q)=(RA a b:Int) * (-q) by rw [Int.mul_neg],Int.mul_ediv_cancel_left _ (by lia)]
  rw [show (RA a b:Int) * q=(-q) * (-(RA a b:Int)) by rw [Int.neg_mul_neg,Us],Xl _ (by lia)]
 unfold dH nT nB cV
 rw [if_pos h]
 simp only [VQ,VP]
 rw [key a (XU ..),key b (XI ..)]
theorem BC (h:0<b):D.tup [.int (a / (RA a b)),.int (b / (RA a b))]=dH a b:=by
 unfold dH nT nB cV
 rw [if_neg (by lia),VW _ (by lia),VW _ (by lia)]
theorem uu (a b):cV a b ∣ a:=by
 unfold cV; split
 ·rw [show (0:Int) - (RA a b:Int)= -(RA a b:Int) by lia]; exact Int.neg_dvd.mpr (XU ..)
 ·exact XU ..
theorem uv (a b):cV a b ∣ b:=by
 unfold cV; split
 ·rw [show (0:Int) - (RA a b:Int)= -(RA a b:Int) by lia]; exact Int.neg_dvd.mpr (XI ..)
 ·exact XI ..
theorem j8 (hb:b≠0):cV a b≠0:=by
 have hp:0<RA a b:=UY a hb
 unfold cV; split <;> lia
theorem uw (hb:b≠0):a=cV a b * nT a b:=by
 obtain ⟨q,hq⟩:=uu a b
 have h0:=j8 (a:=a) hb
 have:nT a b=q:=by
  unfold nT
  rw [show a.fdiv (cV a b)=(q * cV a b).fdiv (cV a b) by rw [Us q,<- hq],Xl _ h0]
 rw [this]; exact hq
theorem pe (hb:b≠0):b=cV a b * nB a b:=by
 obtain ⟨q,hq⟩:=uv a b
 have h0:=j8 (a:=a) hb
 have:nB a b=q:=by
  unfold nB
  rw [show b.fdiv (cV a b)=(q * cV a b).fdiv (cV a b) by rw [Us q,<- hq],Xl _ h0]
 rw [this]; exact hq
theorem uz (hb:b≠0):0<nB a b:=by
 have h:=pe (a:=a) hb
 have hp:(0:Int)<RA a b:=by have:=UY a hb; lia
 by_cases s:b<0
 ·have e:cV a b= -(RA a b:Int):=by unfold cV; rw [if_pos s]; lia
  rw [e] at h
  by_cases z:0<nB a b
  ·exact z
  ·exfalso
   have:=Vf (TL hp) (show 0<= -nB a b by lia)
   have e2:(RA a b:Int) * -nB a b= -(RA a b:Int) * nB a b:=by rw [Int.mul_neg,WR]
   lia
 ·have e:cV a b=(RA a b:Int):=by unfold cV; rw [if_neg s]
  rw [e] at h
  by_cases z:0<nB a b
  ·exact z
  ·exfalso
   have:=Vf (TL hp) (show 0<= -nB a b by lia)
   have e2:(RA a b:Int) * -nB a b= -((RA a b:Int) * nB a b):=by rw [Int.mul_neg]
   lia
theorem wm (hb:b≠0):nT a b * b=a * nB a b:=by
 have h1:=uw (a:=a) hb
 have h2:=pe (a:=a) hb
 generalize nT a b=t at *
 generalize nB a b=u at *
 generalize cV a b=g at *
 subst h1; subst h2
 rw [Us g t,Vh t g u]
theorem BD (hb:b≠0):RA (nT a b) (nB a b)=1:=by
 have h1:=uw (a:=a) hb
 have h2:=pe (a:=a) hb
 have hp:0<RA a b:=UY a hb
 have hg:(cV a b).natAbs=RA a b:=by unfold cV; split <;> lia
 have e:RA a b=(cV a b).natAbs * RA (nT a b) (nB a b):=by
  have z:RA a b=RA (cV a b * nT a b) (cV a b * nB a b):=by rw [<- h1,<- h2]
  rw [z,Int.gcd_mul_left]
 rw [hg] at e
 exact Nat.eq_of_mul_eq_mul_left hp (by lia)
theorem pq (hb:b≠0):(nT a b).natAbs<=a.natAbs:=by
 have h:=uw (a:=a) hb
 have h0:=j8 (a:=a) hb
 conv=>rhs; rw [h,Uo]
 exact Nat.le_mul_of_pos_left _ (by lia)
theorem pA (hb:b≠0):(nB a b).natAbs<=b.natAbs:=by
 have h:=pe (a:=a) hb
 have h0:=j8 (a:=a) hb
 conv=>rhs; rw [h,Uo]
 exact Nat.le_mul_of_pos_left _ (by lia)
theorem BE (g:RA p q=1) (h:q ∣ p * x):q ∣ x:=by
 have h2:q.natAbs ∣ p.natAbs * x.natAbs:=by rw [<- Uo]; exact Int.natAbs_dvd_natAbs.mpr h
 have c:Nat.Coprime q.natAbs p.natAbs:=by rw [Nat.coprime_comm]; exact g
 exact Int.natAbs_dvd_natAbs.mp (c.dvd_of_dvd_mul_left h2)
theorem wo (hq:0<q) (hq':0<q') (g:RA p q=1) (g':RA p' q'=1) (h:p * q'=p' * q):p=p'/\q=q':=by
 have d1:q ∣ q':=by
  have:q ∣ p * q':=⟨p',by rw [h,Us]⟩
  exact BE g this
 have d2:q' ∣ q:=by
  have:q' ∣ p' * q:=⟨p,by rw [<- h,Us]⟩
  exact BE g' this
 have e:q=q':=by
  have a1:=Int.le_of_dvd hq' d1
  have a2:=Int.le_of_dvd hq d2
  lia
 subst e
 exact ⟨Int.eq_of_mul_eq_mul_right (by lia) h,rfl⟩
theorem qZ {a b c d e f:Int} (hd:d≠0) (h1:a * d=c * b) (h2:c * f=e * d):a * f=e * b:=by
 refine Int.eq_of_mul_eq_mul_right hd ?_
 calc a * f * d=a * d * f:=by rw [Xs]
  _=c * b * f:=by rw [h1]
  _=c * f * b:=by rw [Xs]
  _=e * d * b:=by rw [h2]
  _=e * b * d:=by rw [Xs]
theorem iO (f:α->β) (xs) (lo hi):EV.cutD (xs.map f) lo hi=(EV.cutD xs lo hi).map f:=by
 unfold EV.cutD; simp only [RB,List.map_take,List.map_drop]
theorem gC (h0:0<=j) (h1:j<xs.length):jj xs j=xs[j.toNat]?:=by
 unfold jj LI
 rw [if_pos h0,if_pos h1]; rfl
theorem wu {j:Int} (h0:j<0) (h1:0<=j+xs.length):jj xs j=xs[(j+xs.length).toNat]?:=by
 unfold jj LI
 rw [if_neg (by lia)]
 rw [if_pos (by lia)]; rfl
theorem BF (h:a.natAbs<2 ^ 63):SE a<=64:=by
 unfold SE
 by_cases z:a=0
 ·subst z; decide
 ·have e:(a == 0)=false:=by simpa using z
  rw [e,if_neg RG]
  have:=(WO (n:=a.natAbs) (k:=63) (by lia)).mpr h
  lia
theorem q8 (h:a.natAbs<2 ^ 63):EV.MulOk a b:=IntMulOk.of_left (BF h)
theorem fK (h:(qQ 0 n)[i]?=some d):i<n/\d=.int (i:Int):=by
 unfold qQ at h
 simp only [RO,RV] at h
 obtain ⟨j,h1,rfl⟩:=h
 obtain ⟨hj,rfl⟩:=RJ.mp h1
 simp at hj
 exact ⟨hj,by simp⟩
section
variable {K:Rr}
end
end EV
namespace EV
open PySem PySem.Spec PySem.Calls PyProof.Rows L2
noncomputable def HO.dct:HO->Prop | .dK _=>True | .dT _=>True | _=>False
theorem BG (I:Inv X aa σ H s) (hu:H a=some u) (nu:∀ xs,u≠.tup xs) (nw:∀ y,u≠.own y) (nt:∀ ps,u≠.tbl ps) (nf:∀ o z,X.H₀ a≠some (.frz o z))
 (hv:bu X.prog X.w H s.heap a v):Inv X aa σ (upd H a v) s:=by
 have hne:∀ {b:Addr} {z:HO},H b=some z->z≠u->b≠a:=λe d q=>by subst q; rw [hu] at e; cases e; exact d rfl
 have hno:∀ {b:Addr},H b=none->b≠a:=λe q=>by subst q; rw [hu] at e; cases e
 have hst:∀ {b:Addr} {z:HO},bu X.prog X.w H s.heap b z->bu X.prog X.w (upd H a v) s.heap b z:=λq =>
  q.stay (λ_ _ _ e=>e) (λb e=>by rw [av (hne e (RS (nw _)))]; exact e) λb xs e=>by rw [av (hne e (RS (nu xs)))]; exact e
 have fr:=I.free
 exact {
  ok:=I.ok,os:=I.os,bare:=I.bare,loc:=I.loc,cell:=I.cell,len:=I.len
  base:=⟨I.base.keep,I.base.slot,λb o h1 h2 h3=>by have e:=I.base.free b o h1 h2 h3; rw [av (hno e)]; exact e,I.base.there,
   λb xs e=>by have q:=I.base.tups b xs e; rw [av (hne q (RS (nu xs)))]; exact q,
   λb o z e=>by
    have q:=I.base.frzs b o z e
    by_cases w:b=a
    ·subst w; exact absurd e (nf o z)
    ·rw [av w]; exact q,
   λb ps e=>by obtain ⟨m,q⟩:=I.base.tbls b ps e; exact ⟨m,by rw [av (hne q (RS (nt _)))]; exact q⟩⟩
  free:=by rw [av (hno I.free)]; exact I.free
  freeC:=λx c e=>by have q:=I.freeC x c e; rw [av (hno q)]; exact q
  pin:=λq hq=>by obtain ⟨h1,h2,h3⟩:=I.pin q hq; exact ⟨h1,by rw [av (hno h2)]; exact h2,h3⟩
  hok:=λb z e=>by
   by_cases w:b=a
   ·subst w; rw [af] at e; cases e; exact hst hv
   ·rw [av w] at e; exact hst (I.hok b z e) }
theorem wz (I:Inv X aa σ H s) (hu:H a=some u) (hd:HO.dct u) :
 ∃ o,Inv X aa σ (upd H a (.frz o u)) s/\∀ o z,X.H₀ a≠some (.frz o z):=by
 obtain ⟨o,ho⟩:=JA (I.hok a u hu)
 have nf:∀ o z,X.H₀ a≠some (.frz o z):=λo z e=>by
  have q:=I.base.frzs a o z e
  rw [hu] at q; cases q; exact hd
 exact ⟨o,BG I hu (by rintro xs rfl; exact hd) (by rintro y rfl; exact hd) (by rintro ps rfl; exact hd) nf ⟨ho,I.hok a u hu⟩,nf⟩
theorem BH (I:Inv X aa σ H s) (hu:H a=some (.frz o u)) (nf:∀ o z,X.H₀ a≠some (.frz o z)):Inv X aa σ (upd H a u) s :=
 BG I hu (by intro xs z; cases z) (by intro y z; cases z) (by intro ps z; cases z) nf (I.hok a _ hu).2
noncomputable def Sl.pB:Sl->Option D
 | .oK kvs=>some (.fdK (kvs.map (·.1)) (kvs.map (·.2))) | .aK _ kvs=>some (.fdK (kvs.map (·.1)) (kvs.map (·.2)))
 | .oT kvs=>some (.fdT (kvs.map (·.1)) (kvs.map (·.2))) | .aT _ kvs=>some (.fdT (kvs.map (·.1)) (kvs.map (·.2)))
 | _=>none
theorem kY {r:Sl} (h:r.pB=some d):r.owned=true:=by cases r <;> first | rfl | cases h
section
variable {K:Rr}
theorem br.pB (h:r.pB=some d) (q:br K fr H Hf r v):∃ p u,v=.ref p/\fr p/\H p=some u/\Hf p=none/\HO.dct u/\∀ o,Rep K (L2.upd Hf p (.frz o u)) d v:=by
 have sf:∀ {p:Addr} {o:HO},Hf p=none->aN Hf (L2.upd Hf p o):=λhp b u e=>by rw [av (aF e hp)]; exact e
 cases r with
 | oK ds=>cases h; obtain ⟨p,xs,rfl,f,h1,h2,h3⟩:=q; exact ⟨p,_,rfl,f,h1,h2,trivial,λo=>gy.mpr ⟨p,xs,o,rfl,af,(iN h3).1,(iN h3).2.mono (sf h2)⟩⟩
 | aK a ds=>cases h; obtain ⟨p,xs,rfl,f,h1,h2,h3⟩:=q; exact ⟨p,_,rfl,f.1,h1,h2,trivial,λo=>gy.mpr ⟨p,xs,o,rfl,af,(iN h3).1,(iN h3).2.mono (sf h2)⟩⟩
 | oT ds=>cases h; obtain ⟨p,xs,rfl,f,h1,h2,h3⟩:=q; exact ⟨p,_,rfl,f,h1,h2,trivial,λo=>j4.mpr ⟨p,xs,o,rfl,af,(fk h3).1,λy hy=>aC (sf h2) ((fk h3).2.1 y hy),(fk h3).2.2.mono (sf h2)⟩⟩
 | aT a ds=>cases h; obtain ⟨p,xs,rfl,f,h1,h2,h3⟩:=q; exact ⟨p,_,rfl,f.1,h1,h2,trivial,λo=>j4.mpr ⟨p,xs,o,rfl,af,(fk h3).1,λy hy=>aC (sf h2) ((fk h3).2.1 y hy),(fk h3).2.2.mono (sf h2)⟩⟩
 | _=>cases h
theorem eT.wA (S:eT K H₀ eY σ H Hf ρ) (h:ρ[i]?=some r) (hr:r.pB=some d) :
 ∃ q u,H q=some u/\Hf q=none/\HO.dct u/\∀ o,eT K H₀ eY σ (L2.upd H q (.frz o u)) (L2.upd Hf q (.frz o u)) (ρ.set i (.va d)):=by
 obtain ⟨q,ev,rq⟩:=S.own h (kY hr)
 obtain ⟨_,u,e0,fq,hq,qx,hd,rd⟩:=rq.pB hr
 cases e0
 have hi:i<ρ.length:=(RJ.mp h).1
 have hown:=kY hr
 refine ⟨q,u,hq,qx,hd,λo=>⟨⟨λb z e=>?_,λb z e=>?_,λb z e=>?_,λb h1 h2 h3=>?_⟩,by simp [S.len],λj r' hj hu=>?_,λj j' r1 r2 q' hne h1 h2 o1 o2=>?_⟩⟩
 ·rw [L2.av (aF e fq)]; exact S.bas.s b z e
 ·have e2:=S.bas.f b z e
  rw [L2.av (aF e2 qx)]; exact e2
 ·by_cases w:b=q
  ·subst w; rw [L2.af] at e |-; exact e
  ·rw [L2.av w] at e |-; exact S.sb b z e
 ·have e:=S.bas.n b h1 h2 h3
  by_cases z:b=q
  ·subst z; exact absurd fq h2
  ·rw [L2.av z]; exact e
 ·have sf:aN Hf (L2.upd Hf q (.frz o u)):=λb z e=>by rw [L2.av (aF e qx)]; exact e
  by_cases z:j=i
  ·subst z
   rw [SQ hi] at hj
   cases hj
   exact ⟨_,ev,rd o⟩
  ·rw [SS (RS z)] at hj
   obtain ⟨v,e1,e2⟩:=S.at_ j r' hj hu
   refine ⟨v,e1,?_⟩
   have key:r'.owned=true->v≠.ref q:=λho z=>by
    subst z
    exact S.sep i j _ _ q (RS ‹_›) h hj hown ho ev e1
   exact br.mv (B:=λz=>z=q) sf (λz w hz e1 _ e3=>⟨by rw [L2.av hz]; exact e1,by rw [L2.av hz]; exact e3⟩) (by rintro _ z rfl ⟨ys,e9⟩; rw [hq] at e9; cases e9; exact hd) (λho z e=>by rintro rfl; exact key ho e) e2
 ·have out:∀ {j:Nat} {r:Sl},(ρ.set i (.va d))[j]?=some r->r.owned=true->ρ[j]?=some r:=λ{j r} hj ho=>by
   by_cases z:j=i
   ·subst z; rw [SQ hi] at hj; cases hj; cases ho
   ·rw [SS (RS z)] at hj; exact hj
  exact S.sep j j' r1 r2 q' hne (out h1 o1) (out h2 o2) o1 o2
end
theorem yz (sb:aN Hf H) (hq:H q=some u) (qx:Hf q=none) (g:bx (upd H q (.frz o u)) (upd Hf q (.frz o u)) H' aq):bx H Hf (upd H' q u) (del aq q) :=
 ⟨λb z e=>by
   by_cases w:b=q
   ·subst w; rw [af]; rw [hq] at e; exact e
   ·rw [av w]; exact g.s b z (by rw [av w]; exact e),
   λb z e=>by rw [bU (aF e qx)]; exact g.f b z (by rw [av (aF e qx)]; exact e),
   λb z e=>by obtain ⟨w,e2⟩:=iJ e; rw [av w]; exact g.b b z e2,λb h1 h2 h3=>by
   by_cases w:b=q
   ·subst w; exact iI
   ·rw [bU w]; exact g.n b (by rw [av w]; exact h1) (by rw [av w]; exact h2) λxs=>by rw [av w]; exact h3 xs⟩
theorem Fj {K:Rr} (hp:Hf p=some (.frz o u)) (hd:HO.dct u) (h:dG K Hf a xs):dG K (del Hf p) a xs:=by
 rcases h with (h | ⟨o',h⟩) | h
 ·exact .inl (.inl (by rw [bU (by rintro rfl; rw [hp] at h; cases h)]; exact h))
 ·exact .inl (.inr ⟨o',by rw [bU (by rintro rfl; rw [hp] at h; cases h; exact hd)]; exact h⟩)
 ·exact .inr h
mutual
theorem BI {K:Rr} {Hf:Hp} {p:Addr} {o:Obj} {u:HO} (hp:Hf p=some (.frz o u)) (hd:HO.dct u):∀ (d:D) {v:V},d.nl->Rep K Hf d v->Rep K (del Hf p) d v
 | .non,_,_,h=>by simpa [Rep] using h
 | .bl _,_,_,h=>by simpa [Rep] using h
 | .int _,_,_,h=>by simpa [Rep] using h
 | .str _,_,_,h=>by simpa [Rep] using h
 | .adr _,_,_,h=>by simpa [Rep] using h
 | .tup ds,v,f,h=>by
  simp only [Rep] at h |-
  obtain ⟨a,xs,e,h1,h2⟩:=h
  exact ⟨a,xs,e,Fj hp hd h1,pD hp hd ds (by simpa [D.nl] using f) h2⟩
 | .lst _,_,f,_=>by simp [D.nl] at f
 | .fdK _ _,_,f,_=>by simp [D.nl] at f
 | .fdT _ _,_,f,_=>by simp [D.nl] at f
 | .exc C,_,_,h=>by
  simp only [Rep] at h |-
  obtain ⟨a,e,h⟩:=h
  exact ⟨a,e,by rw [bU (by rintro rfl; rw [hp] at h; cases h)]; exact h⟩
theorem pD {K:Rr} {Hf:Hp} {p:Addr} {o:Obj} {u:HO} (hp:Hf p=some (.frz o u)) (hd:HO.dct u):∀ (ds:List D) {xs:List V},D.o7 ds->ay K Hf ds xs->ay K (del Hf p) ds xs
 | [],_,_,h=>by simpa [ay] using h
 | d::ds,xs,f,h=>by
  simp only [ay] at h |-
  simp only [D.o7] at f
  obtain ⟨x,r,e,h1,h2⟩:=h
  exact ⟨x,r,e,BI hp hd d f.1 h1,pD hp hd ds f.2 h2⟩
end
section
variable {K:Rr}
theorem BJ (S:bw c σ H Hf ρ) (hi:At ρ i r) (hr:r.pB=some d0) (hs:SSet ρ i (.va d0) ρ')
 (h:∀ q u o,H q=some u->Hf q=none->HO.dct u->bw c σ (upd H q (.frz o u)) (upd Hf q (.frz o u)) ρ'->bE c.X e σ (upd H q (.frz o u)) λv H'=>∃ aq,bx (upd H q (.frz o u)) (upd Hf q (.frz o u)) H' aq/\Q v (upd H' q u)):bE c.X e σ H Q:=by
 obtain ⟨q,u,hq,qx,hd,S1⟩:=S.wA hi.get hr
 intro aa s I
 obtain ⟨o,I1,nf⟩:=wz I hq hd
 have S2:=S1 o
 rw [<- hs.eq] at S2
 refine bB (h q u o hq qx hd S2 aa s I1) λv s' ⟨x,H',I',rv,aq,g,hQ⟩=>⟨x,_,BH I' (g.s q _ af) nf,rv,hQ⟩
theorem uA (i) {R:Sl->Prop} (hi:At ρ i r) (hr:r.pB=some d0) (hs:SSet ρ i (.va d0) ρ') (h:dD c e ρ' λd=>Sd d.nl (R d)):dD c e ρ R:=λσ H Hf Q S q=>by
 refine BJ S hi hr hs λa u o ha vC hd S1=>h σ _ _ _ S1 λr1 v H' aq ⟨fl,rd⟩ rv g=>⟨aq,g,?_⟩
 have hp:=g.f a _ af
 refine q r1 v _ (del aq a) rd ?_ (yz S.sb ha vC g)
 have hH:H' a=some (.frz o u):=g.s a _ af
 cases r1 with
 | va d=>exact BI hp hd d fl rv
 | ow ds =>
  obtain ⟨b,xs,rfl,fb,h1,h2,h3⟩:=rv
  have nb:b≠a:=by rintro rfl; rw [show (upd H b (.frz o u)) b=_ from af] at fb; cases fb
  exact ⟨b,xs,rfl,by rw [av nb] at fb; exact fb,by rw [av nb]; exact h1,by rw [bU nb]; exact h2,pD hp hd ds fl h3⟩
 | _=>exact fl.elim
end
def BK (h:Heap) (it d:Addr) (i n ep:Nat):Prop :=
 ∃ (x:Value) (f:Bool) (k v:Value),h.get? it=some { cls:=.type "dict_itemiterator",dict:=none,data:=.fields #[x,.bool f,.ref d,.int i 0,.int n 0,.int ep 0,k,v],slots:= #[] }/\(x=.none\/∃ a:Addr,x=rawInt a)
section
variable {s:Shared} {i n ep:Nat}
theorem pF:Builtin.Dict_items.ownsTuple "dict_itemiterator"=true:=by decide
theorem q9 (h:Q (s.heap.get? a) s):wpAny M A (loadIfAlive a) Q E s:=λΓ p z=>by
 show Sem.wp M Γ (Sem.loadIfAlive a Sem.pure) _ _ p s
 rw [Sem.wp_loadIfAlive,Sem.wp]
 exact h
theorem BL (hs:s.heap=h) (hit:h.get? it=some { cls:=.type "dict_itemiterator",dict:=none,data:=.fields #[x,.bool f,.ref d,.int i 0,.int n 0,.int ep 0,k,v],slots:= #[] }) (hx:x=.none\/∃ a:Addr,x=rawInt a)
 (hQ:∀ h',BK h' it d i n ep->h'.get? h.objs.size=some { cls:=.type "tuple",data:=.seq #[a,b] }->h'.objs.size=h.objs.size+1->(∀ c o,c≠it->h.get? c=some o->h'.get? c=some o)->Q (.ref h.objs.size) { s with heap:=h' }) :
 wpAny (model prog w) A (WS (.ref it) 6 a b) Q E s:=by
 subst hs
 have lt:it<s.heap.objs.size:=Ry hit
 have ne:s.heap.objs.size≠it:=Uq lt
 unfold WS
 refine Rq (Ws ?_)
 have tN:=Rx ({ cls:=.type "tuple",data:=.seq [a,b].toArray }:Obj) hit
 have htu:(s.heap.push { cls:=.type "tuple",data:=.seq [a,b].toArray }).get? s.heap.objs.size=some { cls:=.type "tuple",data:=.seq #[a,b] }:=RK _ rfl
 have hsz:(s.heap.push { cls:=.type "tuple",data:=.seq [a,b].toArray }).objs.size=s.heap.objs.size+1:=Tu ..
 have hold:∀ c o,s.heap.get? c=some o->(s.heap.push { cls:=.type "tuple",data:=.seq [a,b].toArray }).get? c=some o:=λc o e=>Rx _ e
 generalize (s.heap.push { cls:=.type "tuple",data:=.seq [a,b].toArray })=h2 at tN htu hsz hold |-
 have free:wpAny (model prog w) A (do
  let old:=[<- field (.ref it) 6,<- field (.ref it) (6+1)]
  setField (.ref it) 6 a; setField (.ref it) (6+1) b
  setField (.ref it) 0 (rawInt s.heap.objs.size); setField (.ref it) 1 (.bool false)
  letGo old [.ref s.heap.objs.size]
  pure (R1 s.heap.objs.size)) Q E { s with heap:=h2 }:=by
  refine Rq (SG tN rfl (x:=k) rfl (Rq (SG tN rfl (x:=v) rfl ?_)))
  refine Rq (S9 tN (by simp) λh3 e3 s3=>?_)
  refine Rq (S9 e3 (by simp) λh4 e4 s4=>?_)
  refine Rq (S9 e4 (by simp) λh5 e5 s5=>?_)
  refine Rq (S9 e5 (by simp) λh6 e6 s6=>?_)
  have keep:∀ c o,c≠it->h2.get? c=some o->h6.get? c=some o:=λc o hc e=>s6.extBut c o hc (s5.extBut c o hc (s4.extBut c o hc (s3.extBut c o hc e)))
  refine Rq (UQ (Rt (hQ h6 ⟨_,_,_,_,e6,.inr ⟨_,rfl⟩⟩ (keep _ _ ne htu) ?_ λc o hc e=>keep c o hc (hold c o e))))
  rw [s6.1,s5.1,s4.1,s3.1,hsz]
 have told:∀ (h3:Heap) (x:Value) (f:Bool),h3.get? it=some { cls:=.type "dict_itemiterator",dict:=none,data:=.fields #[x,.bool f,.ref d,.int i 0,.int n 0,.int ep 0,k,v],slots:= #[] }->(x=.none\/∃ a:Addr,x=rawInt a) ->
  Tt it h2 h3->Q (.ref s.heap.objs.size) { s with heap:=h3 }:=λh3 x f e hx' s3 =>
  hQ h3 ⟨x,f,k,v,e,hx'⟩ (s3.extBut _ _ ne htu) (by rw [s3.1,hsz]) λc o hc e=>s3.extBut c o hc (hold c o e)
 show wpAny _ _ (X3 (.ref it) >>= _) _ _ _
 unfold X3
 refine Rq (Rq (SG tN rfl (x:=x) rfl ?_))
 rcases hx with rfl | ⟨a0,rfl⟩
 ·exact Rt free
 ·show wpAny _ _ (loadIfAlive (a0:Int).toNat >>= _) _ _ _
  refine Rq (q9 ?_)
  split
  ·exact Rt free
  ·refine Rq ?_
   refine SG tN rfl (x:=.bool f) rfl ?_
   cases f with
   | true =>
    dsimp only
    rw [if_neg (by decide)]
    exact Rt (Rt (told h2 _ _ tN (.inr ⟨a0,rfl⟩) (.refl ..)))
   | false =>
    dsimp only
    rw [if_pos (by decide)]
    refine Rq (S9 tN (by simp) λh3 e3 s3=>?_)
    exact Rt (Rt (told h3 _ true e3 (.inr ⟨a0,rfl⟩) s3))
theorem BK.JS (h:BK s.heap it d i n ep):s.TypeIs (.ref it) "dict_itemiterator":=let ⟨_,_,_,_,e,_⟩:=h; ⟨_,e,rfl⟩
theorem next_item (hit:BK s.heap it d i es.size ep) (hod:s.heap.get? d=some od) (hdd:od.data=.dict es ep) (hx:es[i]?=some e)
 (hQ:∀ h',BK h' it d (i+1) es.size ep->h'.get? s.heap.objs.size=some { cls:=.type "tuple",data:=.seq #[e.key,e.val] }->h'.objs.size=s.heap.objs.size+1->(∀ c o,c≠it->s.heap.get? c=some o->h'.get? c=some o)->Q (some (.ref s.heap.objs.size)) { s with heap:=h' }) :
 wpAny (model prog w) A (pyNext (.ref it)) Q E s:=by
 have hT:=hit.JS
 obtain ⟨x,f,k,v,hat,hxx⟩:=hit
 have hlt:i<es.size:=(U3.mp hx).1
 unfold pyNext
 refine Rq (Vg (Ug (name:=Rp "__next__") hT UX (TV UX hT X8 ?_ (X5 _))))
 refine Rq (Rt (Rq (Rq ?_)))
 first | refine Rq (VU hT (Rt ?_)) | refine Rq (VX hT (Rt ?_))
 refine Rq (wpAny_fieldsOf hat rfl ?_)
 simp only [pF,if_true]
 show wpAny _ _ (if (R1 d == Tq)=true then _ else _) _ _ _
 rw [if_neg (show ¬ (R1 d == Tq)=true from RG)]
 refine Rq (Rt (Rq (Xx hod hdd ?_)))
 rw [if_neg (by simp)]
 refine Rq (Rt (Rq (wpAny_dictEpoch hod hdd ?_)))
 rw [if_neg (by simp)]
 refine Rt ?_
 simp only [show ¬ ((i:Int)<0) from by lia,if_false,So,hx]
 refine Rq ?_
 first | refine Rq (VU hT (Rt ?_)) | refine Rq (VX hT (Rt ?_))
 refine Rq (W5 hT ?_)
 show wpAny _ _ (setField (.ref it) 3 (rawInt ((i:Int)+1)) >>= _) _ _ s
 refine Rq (S9 hat (by simp) λh1 e1 s1=>?_)
 have e1':h1.get? it=some { cls:=.type "dict_itemiterator",dict:=none,data:=.fields #[x,.bool f,.ref d,.int ((i+1:Nat):Int) 0,.int es.size 0,.int ep 0,k,v],slots:= #[] }:=by
  have q:((i+1:Nat):Int)=(i:Int)+1:=by lia
  rw [q]; simpa [rawInt] using e1
 have hT1:Shared.TypeIs { s with heap:=h1 } (.ref it) "dict_itemiterator":=⟨_,e1',rfl⟩
 refine Rq (Tw ?_)
 refine Rq (W5 hT1 (Rq (W5 hT1 ?_)))
 show wpAny _ _ (WS (.ref it) 6 e.key e.val) _ _ { s with heap:=h1 }
 have z1:h1.objs.size=s.heap.objs.size:=s1.1
 refine BL (s:={ s with heap:=h1 }) rfl e1' hxx λh2 g2 t2 z2 k2=>?_
 rw [z1] at t2 z2 |-
 exact Rt ⟨_,rfl,Rt (hQ h2 g2 t2 z2 λc o hc q=>k2 c o hc (s1.extBut c o hc q))⟩
theorem next_end (hh:A.handled=none) (hit:BK s.heap it d i es.size ep) (hod:s.heap.get? d=some od) (hdd:od.data=.dict es ep) (hx:es.size<=i)
 (hQ:∀ h',Uu it s.heap h'->Q none { s with heap:=h' }):wpAny (model prog w) A (pyNext (.ref it)) Q E s:=by
 have hT:=hit.JS
 obtain ⟨x,f,k,v,hat,hxx⟩:=hit
 unfold pyNext
 refine Rq (Vg (Ug (name:=Rp "__next__") hT UX (TV UX hT X8 ?_ (X5 _))))
 refine Rq (Rt (Rq (Rq ?_)))
 first | refine Rq (VU hT (Rt ?_)) | refine Rq (VX hT (Rt ?_))
 refine Rq (wpAny_fieldsOf hat rfl ?_)
 simp only [pF,if_true]
 show wpAny _ _ (if (R1 d == Tq)=true then _ else _) _ _ _
 rw [if_neg (show ¬ (R1 d == Tq)=true from RG)]
 refine Rq (Rt (Rq (Xx hod hdd ?_)))
 rw [if_neg (by simp)]
 refine Rq (Rt (Rq (wpAny_dictEpoch hod hdd ?_)))
 rw [if_neg (by simp)]
 refine Rt ?_
 simp only [show ¬ ((i:Int)<0) from by lia,if_false,So,Xa hx]
 refine Rq ?_
 first | refine Rq (VU hT (Rt ?_)) | refine Rq (VX hT (Rt ?_))
 show wpAny _ _ (setField (.ref it) 2 .none >>= _) _ _ s
 refine Rq (wpAny_setField hat rfl (by simp) (Rq ?_))
 simp only [newExc,newTuple]
 refine Rq (Td ?_ (by size_fits))
 refine Rq (m:=firstArgMember _ _) (wpAny_of_eq (a:=Tq) (by first | rfl | (simp only [firstArgMember]; rfl)) ?_)
 refine Td ?_ (by size_fits)
 simp only [raiseNew]
 refine Rq (wpAny_handled ?_)
 rw [show A.in1.handled=none from hh]
 refine Rq (Rt (wpAny_throw ?_))
 refine Rq (Wf (T:="StopIteration") (b:=true) ⟨_,RK _ rfl,rfl⟩ isSubtype_stop ?_)
 exact Rt (hQ _ (((Xm ..).extBut.push _).push _))
theorem Fl (hit:BK s.heap it d i n ep) (h:∀ h',BK h' it d i n ep->Tt it s.heap h'->Q () { s with heap:=h' }):wpAny (model prog w) A (letOwnedTupleGo tg (.ref it) (.ref a)) Q E s:=by
 have stay:Q () s:=h s.heap hit (.refl ..)
 obtain ⟨x,f,k,v,hat,hxx⟩:=hit
 have part:wpAny (model prog w) A (do
  let o <- load it
  match o.cls,o.data with
  | .type n,.fields vs =>
   if (["enumerate","zip","dict_itemiterator","dict_reverseitemiterator","odict_iterator","itertools.zip_longest","itertools.pairwise"].contains n && vs[0]? == some (rawInt a))=true then do
    rule "for.unpacks-the-owned-tuple"
    updateField it 0 .none
   else pure ()
  | _,_=>pure ()) Q E s:=by
  refine Rq (wpAny_load hat ?_)
  dsimp only
  split
  ·refine Rq (SM ?_)
   show wpAny _ _ (setField (.ref it) 0 .none) Q E s
   exact S9 hat (by simp) λh' e' s'=>h h' ⟨_,_,_,_,e',.inl rfl⟩ s'
  ·exact Rt stay
 unfold letOwnedTupleGo
 cases tg <;> first
  | exact Rt stay
  | exact part
end
noncomputable def cM:HO->List (V×V)
 | .dK ys=>ys.map λy=>(kV y.1,y.2)
 | .dT ys=>ys.map λy=>(.ref y.2.1,y.2.2)
 | _=>[]
theorem wB (h:kr k v=true):RelV (kV k) v:=by
 rcases bJ h with ⟨i,t,rfl,rfl⟩ | ⟨x,t,rfl,rfl⟩
 ·exact ⟨t,rfl⟩
 ·exact ⟨t,rfl⟩
theorem dI (ok:bu P w H h d u) (hd:HO.dct u) (ho:h.get? d=some o) :
 o.ExactDict/\∃ es ep,o.data=.dict es ep/\Paired (λ(a:V×V) (e:DictEntry)=>RelV a.1 e.key/\RelV a.2 e.val) (cM u) es.toList/\(d == sysModules)=false/\(cM u).length<=sizeLine:=by
 cases u with
 | dK ys =>
  obtain ⟨z,y,vs,kv,o',es,ep,h1,h2,h3,h4,h5,h6⟩:=ok
  rw [ho] at h1; cases h1
  refine ⟨h2,es,ep,h3,?_,y,by simpa [cM] using z⟩
  show Paired _ (ys.map _) _
  clear h3 h4 h6 z
  generalize es.toList=l at h5 |-
  unfold KV at kv
  induction kv generalizing l with
  | nil=>cases h5; exact .nil
  | @cons a b as bs q t ih =>
   cases h5 with
   | cons r t' t''=>exact .cons ⟨by show L2.RelV (kV a.1) _; rw [q.1]; exact wB r,by rw [t']; exact q.2⟩ (ih hd _ t'')
 | dT ys =>
  obtain ⟨z,y,xs,kv,o',es,ep,h1,h2,h3,h4,h5⟩:=ok
  rw [ho] at h1; cases h1
  refine ⟨h2,es,ep,h3,?_,y,by simpa [cM] using z⟩
  rw [h4]
  show Paired _ (ys.map _) _
  clear h3 h4 h5 z
  induction kv with
  | nil=>exact .nil
  | @cons a b as bs q t ih =>
   rw [RC,RC]
   refine .cons ⟨?_,q.2.2⟩ (ih hd)
   show R1 b.2.1=R1 a.2.1
   rw [q.2.1]
 | _=>exact hd.elim
theorem fL:∀ {l:List α} {m:List β} {i:Nat} {a:α},Paired F l m->l[i]?=some a->∃ b,m[i]?=some b/\F a b
 | _,_,_,_,.nil,e=>by simp at e
 | _,_,0,_,.cons r _,e=>by simp at e; subst e; exact ⟨_,rfl,r⟩
 | _,_,i+1,a,.cons _ t,e=>by
  obtain ⟨b,h1,h2⟩:=fL (i:=i) t (by simpa using e)
  exact ⟨b,by simpa using h1,h2⟩
noncomputable def OL (d:Addr) (o:Obj) (u:HO):It :=
 ⟨λi H=>H d=some (.frz o u)/\i<(cM u).length,λi H x H'=>∃ p kv,(cM u)[i]?=some kv/\x=.ref p/\H p=none/\H'=upd H p (.tup [kv.1,kv.2]),λi H=>H d=some (.frz o u)/\(cM u).length<=i⟩
theorem yC:entryFor table "dict_itemiterator.__iter__"=some Builtin.«dict_keyiterator.__iter__» :=entryFor_alias (id':="dict_keyiterator.__iter__") (by kernel_rfl) rfl (by decide +kernel) (by kernel_rfl)
theorem kZ {P:Program} {w:World} {K:Rr} {tg:Expr} {d it:Addr} {o:Obj} {u:HO} {es:Array DictEntry} {ep:Nat} (hd:HO.dct u) (hod:o.data=.dict es ep) (hne:it≠d) (hes:es.size=(cM u).length) :
 Turn P w K tg (OL d o u) [it] it (λi h=>BK h it d i es.size ep) where
 mem:=by simp
 obj:=λi h st b hb=>by
  have e:b=it:=by simpa using hb
  subst e
  obtain ⟨x,f,k,v,e,_⟩:=st
  exact ⟨_,e,λv z=>by
   have z':VR _=UU v:=z
   cases z'⟩
 keep:=λi h h' st k=>by
  obtain ⟨x,f,kk,v,e,hx⟩:=st
  exact ⟨x,f,kk,v,k it (by simp) _ e,hx⟩
 item:=by
  intro X hP hw hK hc i aa s σ H E I hf st hg
  subst hP hw hK
  obtain ⟨hH,hi⟩:=hg
  obtain ⟨f0,f1,f2,f3,f4,f5⟩:=hf it (by simp)
  obtain ⟨ho,ok⟩:=(show bu X.prog X.w H s.heap d (.frz o u) from I.hok d _ hH)
  obtain ⟨_,es',ep',e1,e2,_⟩:=dI ok hd ho
  rw [hod] at e1; cases e1
  obtain ⟨e,he,re⟩:=fL e2 (RU hi)
  have he':es[i]?=some e:=by simpa using he
  refine next_item st ho hod he' λh1 g1 t1 z1 k1=>?_
  have hil:it<s.heap.objs.size:=by
   obtain ⟨_,_,_,_,q,_⟩:=st
   exact Ry q
  have Hp:H s.heap.objs.size=none:=I.hok.fresh (Rv _)
  have hit0:it≠s.heap.objs.size:=RW hil
  generalize hkv:(cM u)[i]=kv at re
  have IA:Inv X aa σ (upd H s.heap.objs.size (.tup [kv.1,kv.2])) { s with heap:=s.heap.push { cls:=.type "tuple",data:=.seq #[e.key,e.val] },toks:=s.toks } :=
   I.laid (a:=s.heap.objs.size) (o:=.tup [kv.1,kv.2]) (λ_ _ q=>Rx _ q) (Rv _) ⟨by show 2<=sizeLine; decide,[e.key,e.val],.cons re.1 (.cons re.2 .nil),_,RK _ rfl,rfl,0,rfl⟩
  have g0:upd H s.heap.objs.size (.tup [kv.1,kv.2]) it=none:=by rw [av hit0]; exact f0
  have I1:Inv X aa σ (upd H s.heap.objs.size (.tup [kv.1,kv.2])) { s with heap:=h1,toks:=s.toks }:=IA.turned (λb o hb q=>by
   by_cases z:b=s.heap.objs.size
   ·subst z
    rw [RK _ rfl] at q; cases q; exact t1
   ·have lt:b<s.heap.objs.size:=by
     have:=Ry q
     rw [Tu] at this
     exact Nat.lt_of_le_of_ne (Nat.le_of_lt_succ this) z
    refine k1 b o hb ?_
    rw [XJ _ _ _ z] at q; exact q) g0 f1 f3 f4 f5
  refine ⟨_,rfl,Fl (s:={ s with heap:=h1 }) g1 λh2 g2 s2=>?_⟩
  refine ⟨.ref s.heap.objs.size,_,I1.turned (t':=s.toks) (λb o hb q=>(s2.2 b hb).trans q) g0 f1 f3 f4 f5,rfl,⟨_,kv,by rw [RU hi,hkv],rfl,Hp,rfl⟩,g2,λb hb=>?_⟩
  have e:b=it:=by simpa using hb
  rw [e]; exact g0
 done:=by
  intro X hP hw hK hc i aa s σ H E I hf st hg
  subst hP hw hK
  obtain ⟨hH,hi⟩:=hg
  obtain ⟨f0,f1,f2,f3,f4,f5⟩:=hf it (by simp)
  obtain ⟨ho,ok⟩:=(show bu X.prog X.w H s.heap d (.frz o u) from I.hok d _ hH)
  exact next_end (I.ok.hd hc) st ho hod (by lia) λh' eb=>⟨rfl,I.turned (t':=s.toks) (λb o hb e=>eb b o hb e) f0 f1 f3 f4 f5⟩
 self:=by
  intro A i s Q E st h
  have hT:=st.JS
  refine wpAny_pyIter_slot hT Yb (TV Yb hT yC ?_ (F.args_dict_itemiterator_iter_1 _))
  show wpAny _ _ (ret (.ref it)) _ _ s
  exact Rt ⟨_,rfl,"dict_itemiterator",_,hT,UX.lookup,h⟩
theorem jM (d) (hd:(d == sysModules)=false) :
 MeetsIn prog w (Builtin.«dict.items» ⟨[.ref d],[]⟩) (λ_ R s=>s.TypeIs (.ref d) "dict"/\R (.ok (.ret (.ref s.heap.objs.size))) { s with heap:=s.heap.push { cls:=.type "dict_items",data:=.fields #[.ref d] } }) :=
 .of_wp λA R s ⟨hT,h⟩=>by
  unfold Builtin.«dict.items»
  refine Rq ?_
  unfold Builtin.Dict.noArgs
  refine Rq (wpAny_notOrdered_dict hT (show wpAny _ _ (pure d) _ _ s from Rt ?_))
  show wpAny _ _ (Builtin.Dict.showsAll d >>= _) _ _ s
  unfold Builtin.Dict.showsAll
  rw [if_neg (by rw [hd]; exact RG)]
  exact Rq (Rt (Rq (Td (Rt ⟨_,rfl,h⟩))))
theorem nI (hv:s.heap.IsItemsView v d) (hod:s.heap.get? d=some od) (hdd:od.data=.dict es ep)
 (hQ:Q (.ref s.heap.objs.size) { s with heap:=s.heap.push { cls:=.type "dict_itemiterator",data:=.fields #[.none,.bool false,.ref d,.int 0 0,.int es.size 0,.int ep 0,.none,.none] } }) :
 wpAny (model prog w) A (pyIter (.ref v)) Q E s:=by
 obtain ⟨ov,hov,hcv,hdv⟩:=id hv
 refine wpAny_pyIter_slot hv.typeIs F.slot_dict_items_iter (TV F.slot_dict_items_iter hv.typeIs F.entry_dict_items_iter ?_ (F.args_dict_items_iter_1 _))
 unfold Builtin.«dict_items.__iter__»
 refine Rq (Rt (Rq ?_))
 unfold Builtin.Dict_items.dictOf
 refine Rq (SG hov hdv (x:=.ref d) rfl (Rt (Rq ?_)))
 unfold Builtin.Dict_items.newIterator
 refine Rq (Xx hod hdd (Rq (wpAny_dictEpoch hod hdd ?_)))
 simp only [pF,if_true]
 refine Td (Rt ⟨_,rfl,"dict_itemiterator",_,⟨_,RK _ rfl,rfl⟩,UX.lookup,?_⟩)
  (by simp only [sizeOk,X4,RP,R3,Sf,TX,sizeLine_eq]; lia)
 simpa [rawInt,X4] using hQ
noncomputable def yD:Key->D | .inl i=>.int i | .inr x=>.str x
noncomputable def D.pairs:D->Option (List D)
 | .fdK ks ds=>some (VM (λk d=>D.tup [yD k,d]) ks ds)
 | .fdT ks ds=>some (VM (λk d=>D.tup [.tup (k.map yD),d]) ks ds)
 | _=>none
noncomputable def JT (te:TE):TI:=λσ H R=>te σ H λx H1=>∃ d o u,x=.ref d/\H1 d=some (.frz o u)/\HO.dct u/\∀ v,H1 v=none->R (OL d o u) (upd H1 v (.ext λh=>h.IsItemsView v d))
theorem BN (he:PE X e te) (hbase:attributeBase e "items" X.env (eval e X.env)=eval e X.env) (hline:(ap.endLine == cp.line)=true):PI X tg (.Call (.Attribute e "items" ap) [] [] cp) (JT te):=by
 intro aa s σ H R I h
 refine Xy (T:="dict") (id:="dict.items") hbase rfl hline F.plainAttrs_dict We F.type_dict_items (bB (he aa s σ H _ I h) λv s1 hh=>z2 hh λx H1 hh=>w3 hh λI1 r1 hh=>z3 hh λd o u hh=>w4 hh λex hH hd q=>?_)
 subst ex
 cases r1
 obtain ⟨ho,ok⟩:=(show bu X.prog X.w H1 s1.heap d (.frz o u) from I1.hok d _ hH)
 obtain ⟨hx,es,ep,hod,hp,hs,hz⟩:=dI ok hd ho
 have hT:s1.TypeIs (.ref d) "dict":=⟨o,ho,hx.1⟩
 refine ⟨hT,λb z=>by cases z; exact ⟨o,ho,hx.2.1⟩,?_⟩
 show wpAny _ _ (callWith cp (.builtin "dict.items") [.ref d] [] []) _ _ s1
 refine method_meetsIn We F.entry_dict_items rfl (Xi ⟨rfl,hT,F.args_dict_items_1 _,_,jM d hs,hT,?_⟩)
 have Hv:H1 s1.heap.objs.size=none:=I1.hok.fresh (Rv _)
 have hve:(s1.heap.push { cls:=.type "dict_items",data:=.fields #[.ref d] }).IsItemsView s1.heap.objs.size d:=⟨_,RK _ rfl,rfl,rfl⟩
 have I2:Inv X aa σ (upd H1 s1.heap.objs.size (.ext λh=>h.IsItemsView s1.heap.objs.size d)) { s1 with heap:=s1.heap.push { cls:=.type "dict_items",data:=.fields #[.ref d] },toks:=s1.toks } :=
  I1.laid (a:=s1.heap.objs.size) (λ_ _ q=>Rx _ q) (Rv _) ⟨hve,⟨_,RK _ rfl⟩,λh1 h2 ⟨o,e,r⟩ k=>⟨o,k o e,r⟩⟩
 refine nI hve (Rx _ ho) hod ?_
 have hsz:es.size=(cM u).length:=by rw [To hp]; simp
 have I3:=I2.kept (t':=s1.toks) (h':=(s1.heap.push { cls:=.type "dict_items",data:=.fields #[.ref d] }).push { cls:=.type "dict_itemiterator",data:=.fields #[.none,.bool false,.ref d,.int 0 0,.int es.size 0,.int ep 0,.none,.none] }) λb o e=>Rx _ e
 refine ⟨_,[_],_,_,_,rfl,I3,kZ (o:=o) (u:=u) (es:=es) (ep:=ep) hd hod (λz=>?_) hsz,⟨.none,false,.none,.none,RK _ rfl,.inl rfl⟩,λb hb=>?_,q _ Hv⟩
 ·have lt:=Ry (Rx ({ cls:=.type "dict_items",data:=.fields #[.ref d] }:Obj) ho)
  rw [z] at lt
  exact absurd lt (Tp _)
 ·have e:b=(s1.heap.push { cls:=.type "dict_items",data:=.fields #[.ref d] }).objs.size:=by simpa using hb
  subst e
  exact I2.mE (Rv _) (I2.hok.fresh (Rv _))
section
variable {K:Rr} {Hf:Hp}
theorem rg:Rep K Hf (yD k) (kV k):=by
 cases k with
 | inl i=>exact az.mpr rfl
 | inr x=>exact fH.mpr rfl
theorem nJ:∀ {ks:List Key},ay K Hf (ks.map yD) (ks.map kV)
 | []=>aB.mpr rfl
 | k::ks=>.cons rg nJ
def nK (K:Rr) (Hf:Hp) (d:D) (kv:V×V):Prop:=∃ k e,d=.tup [k,e]/\Rep K Hf k kv.1/\Rep K Hf e kv.2
theorem wC:∀ {ys:List (Key×V)} {vs:List D},ay K Hf vs (ys.map (·.2))->Paired (nK K Hf) (VM (λk d=>D.tup [yD k,d]) (ys.map (·.1)) vs) (ys.map λy=>(kV y.1,y.2))
 | [],vs,h=>by
  cases vs with
  | nil=>exact .nil
  | cons d ds=>obtain ⟨x,r,e,_⟩:=aH.mp h; cases e
 | y::ys,vs,h=>by
  cases vs with
  | nil=>rw [aB] at h; cases h
  | cons d ds =>
   obtain ⟨x,r,e,h1,h2⟩:=aH.mp h
   cases e
   exact .cons ⟨_,_,rfl,rg,h1⟩ (wC h2)
theorem wD:∀ {ys:List (List Key×Addr×V)} {vs:List D},(∀ y∈ys,dG K Hf y.2.1 (y.1.map kV))->ay K Hf vs (ys.map (·.2.2))->Paired (nK K Hf) (VM (λk d=>D.tup [.tup (k.map yD),d]) (ys.map (·.1)) vs) (ys.map λy=>(.ref y.2.1,y.2.2))
 | [],vs,_,h=>by
  cases vs with
  | nil=>exact .nil
  | cons d ds=>obtain ⟨x,r,e,_⟩:=aH.mp h; cases e
 | y::ys,vs,hk,h=>by
  cases vs with
  | nil=>rw [aB] at h; cases h
  | cons d ds =>
   obtain ⟨x,r,e,h1,h2⟩:=aH.mp h
   cases e
   exact .cons ⟨_,_,rfl,aM.mpr ⟨_,_,rfl,hk y RD,nJ⟩,h1⟩ (wD (λz hz=>hk z (RH _ hz)) h2)
theorem nL (hp:d.pairs=some ds) (h:Rep K Hf d v):∃ a o u,v=.ref a/\Hf a=some (.frz o u)/\HO.dct u/\Paired (nK K Hf) ds (cM u):=by
 cases d with
 | fdK ks vs =>
  cases hp
  obtain ⟨a,ys,o,rfl,h1,h2,h3⟩:=gy.mp h
  subst h2
  exact ⟨a,o,_,rfl,h1,trivial,wC h3⟩
 | fdT ks vs =>
  cases hp
  obtain ⟨a,ys,o,rfl,h1,h2,h3,h4⟩:=j4.mp h
  subst h2
  exact ⟨a,o,_,rfl,h1,trivial,wD h3 h4⟩
 | _=>cases hp
theorem k9 {ds:List D} {a:Addr} {o:Obj} {u:HO} (h:Hf a=some (.frz o u)) (hp:Paired (nK K Hf) ds (cM u)):jl K (OL a o u) ds Hf where
 go:=λi d H aQ s1 s2 e=>by
  obtain ⟨kv,ekv,k,dd,rfl,r1,r2⟩:=fL hp e
  refine ⟨⟨s2 _ _ (s1 _ _ h),(RJ.mp ekv).1⟩,λx H' ⟨p,kv',e1,e2,e3,e4⟩=>?_⟩
  rw [ekv] at e1; cases e1
  subst e2 e4
  have g:=bx.new s2 e3 (o:=.tup [kv.1,kv.2])
  exact ⟨upd aQ p (.tup [kv.1,kv.2]),g,aM.mpr ⟨p,_,rfl,.inl (.inl af),.cons (Rep.mono (s1.trans g.f) _ r1) (.cons (Rep.mono (s1.trans g.f) _ r2) (aB.mpr rfl))⟩⟩
 stop:=λi H aQ s1 s2 e=>⟨s2 _ _ (s1 _ _ h),by rw [<- To hp]; exact e⟩
end
section
variable {K:Rr}
theorem Fo (h:aG c e ρ λd=>∃ ds,d.pairs=some ds/\R ds)
 (hb:∀ env,attributeBase e "items" env (eval e env)=eval e env:=by intro _; walk_at "u") (hl:(ap.endLine == cp.line)=true:=by walk_at "u") :
 zV c tg (.Call (.Attribute e "items" ap) [] [] cp) ρ R:=λσ H Hf Q S q aa s I =>
 BN (cQ (X:=c.X)) (hb _) hl aa s σ H Q I (h σ H Hf _ S λd v H1 aQ ⟨ds,hp,hR⟩ rv g=>by
  obtain ⟨a,o,u,e1,e2,e3,e4⟩:=nL hp rv
  refine ⟨a,o,u,e1,g.b _ _ e2,e3,λvw hv=>?_⟩
  exact q ds _ _ aQ hR (g.trans (bx.fJ g.b hv)) (k9 e2 e4))
theorem JU {x:D} {Q:List D->Prop} (e:x.pairs=some ds) (h:Q ds):∃ ys,x.pairs=some ys/\Q ys:=⟨ds,e,h⟩
end
end EV
namespace SR
open PySem PyProof.Rows
noncomputable def cW:Bool->Keyed->Array Keyed->Nat->Nat->Nat->StateT SortSt Sem (Option Nat):=sortPriv% PySem.Builtin.gallop
noncomputable def cH:Nat->StateT SortSt Sem Unit:=sortPriv% PySem.Builtin.setMinGallop
noncomputable def dW (left:Bool) (key:Keyed) (arr:Array Keyed) (base i:Nat):StateT SortSt Sem (Option Bool):=do
 let x <- elem' arr (base+i)
 if left then lt' x key else return (<- lt' key x).map (!·)
noncomputable abbrev rm:=Option (Option Nat)×Nat×Nat
noncomputable def lg (bey:Nat->StateT SortSt Sem (Option Bool)) (n lo hi:Nat):StateT SortSt Sem (Option Nat):=do
 let __s <- forIn [0:n] ((none,lo,hi):rm) λ_ __s =>
  if __s.snd.fst>=__s.snd.snd then pure (Ti (none,__s.snd.fst,__s.snd.snd))
  else do
   let __x <- bey (__s.snd.fst+(__s.snd.snd - __s.snd.fst) / 2)
   match __x with
   | some more=>if more=true then pure (Su (none,__s.snd.fst+(__s.snd.snd - __s.snd.fst) / 2+1,__s.snd.snd)) else pure (Su (none,__s.snd.fst,__s.snd.fst+(__s.snd.snd - __s.snd.fst) / 2))
   | _=>pure (Ti (some none,__s.snd.fst,__s.snd.snd))
 match __s.fst with
 | some r=>pure r
 | none=>pure (some __s.snd.snd)
noncomputable def BO (bey:Nat->StateT SortSt Sem (Option Bool)) (n hint maxofs:Nat):StateT SortSt Sem rm :=
 forIn [0:n] ((none,0,1):rm) λ_ __s =>
  if __s.snd.snd>=maxofs then pure (Ti (none,__s.snd.fst,__s.snd.snd))
  else do
   let __x <- bey (hint+__s.snd.snd)
   match __x with
   | some more=>if (!more)=true then pure (Ti (none,__s.snd.fst,__s.snd.snd)) else pure (Su (none,__s.snd.snd,2 * __s.snd.snd+1))
   | _=>pure (Ti (some none,__s.snd.fst,__s.snd.snd))
noncomputable def BP (bey:Nat->StateT SortSt Sem (Option Bool)) (n hint maxofs:Nat):StateT SortSt Sem rm :=
 forIn [0:n] ((none,0,1):rm) λ_ __s =>
  if __s.snd.snd>=maxofs then pure (Ti (none,__s.snd.fst,__s.snd.snd))
  else do
   let __x <- bey (hint - __s.snd.snd)
   match __x with
   | some found=>if found=true then pure (Ti (none,__s.snd.fst,__s.snd.snd)) else pure (Su (none,__s.snd.snd,2 * __s.snd.snd+1))
   | _=>pure (Ti (some none,__s.snd.fst,__s.snd.snd))
local macro_rules | `(tactic| walk_at "dl gallop")=>do
 let i:=UO (UC `PySem.Builtin.List.W1All `PySem.Builtin.gallop)
 `(tactic| delta $i)
theorem uB (left) (key) (arr) (base n hint):cW left key arr base n hint=(do
 let __x <- dW left key arr base hint
 match __x with
 | some right =>
  if right=true then do
   let __s <- BO (dW left key arr base) n hint (n - hint)
   match __s.fst with
   | some r=>pure r
   | none=>lg (dW left key arr base) n (hint+__s.snd.fst+1) (hint+min __s.snd.snd (n - hint))
  else do
   let __s <- BP (dW left key arr base) n hint (hint+1)
   match __s.fst with
   | some r=>pure r
   | none=>lg (dW left key arr base) n (hint+1 - min __s.snd.snd (hint+1)) (hint - __s.snd.fst)
 | _=>pure none):=by
 unfold cW
 walk_at "dl gallop"
 unfold BO BP lg dW
 dsimp only
 congr 1
 funext x
 cases x with
 | none=>rfl
 | some right =>
  dsimp only
  cases right with
  | true =>
   rw [if_pos rfl,if_pos rfl]
   congr 1
   funext c
   obtain ⟨r,l,o⟩:=c
   cases r with
   | some r=>rfl
   | none =>
    dsimp only
    congr 1
    funext c
    obtain ⟨r,l,o⟩:=c
    cases r <;> rfl
  | false =>
   rw [if_neg RG,if_neg RG]
   congr 1
   funext c
   obtain ⟨r,l,o⟩:=c
   cases r with
   | some r=>rfl
   | none =>
    dsimp only
    congr 1
    funext c
    obtain ⟨r,l,o⟩:=c
    cases r <;> rfl
def iC (prog:Program) (w:World) (A:Around) (s:Shared) (κ:SortKind) (rk:Keyed->Int) (L:List Keyed):Prop :=
 ∀ x∈L,∀ y∈L,∀ (E:Value->Shared->Prop) (Q:Bool->Shared->Prop),Q (decide (rk x<rk y)) s->wpAny (model prog w) A (keyLt' κ x.1 y.1) Q E s
noncomputable def R (rk:Keyed->Int) (xs:Array Keyed) (i:Nat):Int:=match xs[i]? with | some p=>rk p | none=>0
theorem dX (h:xs[i]?=some p):R rk xs i=rk p:=by unfold R; rw [h]
theorem cj (h:xs[i]?=ys[j]?):R rk xs i=R rk ys j:=by unfold R; rw [h]
theorem lu {st:SortSt} (hC:iC prog w A s κ rk L) (hk:kindOf st=κ) (hx:x∈L) (hy:y∈L) (h:Q (some (decide (rk x<rk y))) st):wpS (model prog w) A E s (lt' x y) Q st:=by
 rw [lt'_eq]
 refine Ru (Tr ?_)
 rw [hk]
 refine Ru (Ux (Vg (hC x hx y hy _ _ ⟨rfl,?_⟩)))
 exact Rw h
theorem aS {st:SortSt} (hi:arr[i]?=some p) (h:Q p st):wpS (model prog w) A E s (elem' arr i) Q st:=by
 rw [elem'_eq,hi]; exact Rw h
theorem yE {st:SortSt} (hC:iC prog w A s κ rk L) (hk:kindOf st=κ) (hi:(arrOf st)[i]?=some p) (hj:(arrOf st)[j]?=some q) (hp:p∈L) (hq:q∈L)
 (h:Q (some (decide (R rk (arrOf st) i<R rk (arrOf st) j))) st):wpS (model prog w) A E s (ltAt' i j) Q st:=by
 rw [ltAt'_eq]
 refine Ru (Tr ?_)
 show wpS _ _ _ _ (do let x <- elem' (arrOf st) i; let y <- elem' (arrOf st) j; lt' x y) Q st
 refine Ru (aS hi (Ru (aS hj (lu hC hk hp hq ?_))))
 rw [dX hi,dX hj] at h
 exact h
theorem uC {st:SortSt} (hC:iC prog w A s κ rk L) (hk:kindOf st=κ) (hkey:key∈L) (hi:arr[base+i]?=some p) (hp:p∈L)
 (hb:(if left=true then rk p<rk key else rk p<=rk key)↔i<k) (h:Q (some (decide (i<k))) st):wpS (model prog w) A E s (dW left key arr base i) Q st:=by
 unfold dW
 refine Ru (aS hi ?_)
 cases left with
 | true =>
  simp only [if_true] at hb |-
  refine lu hC hk hp hkey ?_
  rw [decide_eq_decide.mpr hb]; exact h
 | false =>
  simp only [Sn,if_false] at hb |-
  refine Ru (lu hC hk hkey hp (Rw ?_))
  have e:(!decide (rk key<rk p))=decide (i<k):=by
   rw [<- decide_not]; exact decide_eq_decide.mpr (by rw [<- hb]; omega)
  rw [Option.map_some,e]; exact h
theorem ly {st:SortSt} {n lo hi k:Nat} (hb:∀ i,i<n->∀ (Q:Option Bool->SortSt->Prop),Q (some (decide (i<k))) st->wpS (model prog w) A E s (bey i) Q st)
 (h1:lo<=k) (h2:k<=hi) (h3:hi<=n) (h:Q (some k) st):wpS (model prog w) A E s (lg bey n lo hi) Q st:=by
 unfold lg
 refine Ru (R9 (SI (I:=λx c st'=>st'=st/\∃ l r,c=(none,l,r)/\l<=k/\k<=r/\r<=n/\r - l<=n - x) (Q:=λc st'=>st'=st/\∃ l,c=(none,l,k)) ?step ?fin ⟨rfl,lo,hi,rfl,h1,h2,h3,by omega⟩) ?post)
 case fin =>
  rintro c st' ⟨rfl,l,r,rfl,a1,a2,a3,a4⟩
  have:r=k:=by omega
  subst this
  exact ⟨rfl,l,rfl⟩
 case step =>
  rintro x c st' _ hx ⟨rfl,l,r,rfl,a1,a2,a3,a4⟩
  dsimp only
  by_cases hge:l>=r
  ·rw [if_pos hge]
   have:r=k:=by omega
   subst this
   exact Rw ⟨rfl,l,rfl⟩
  ·rw [if_neg hge]
   refine Ru (hb _ (by omega) _ ?_)
   dsimp only
   by_cases hm:l+(r - l) / 2<k
   ·rw [decide_eq_true hm,if_pos rfl]
    exact Rw ⟨rfl,_,_,rfl,by omega,by omega,by omega,by omega⟩
   ·rw [decide_eq_false hm,if_neg RG]
    exact Rw ⟨rfl,_,_,rfl,by omega,by omega,by omega,by omega⟩
 case post =>
  rintro c st' ⟨rfl,l,rfl⟩
  exact Rw h
theorem fM {st:SortSt} (hC:iC prog w A s κ rk L) (hk:kindOf st=κ) (hkey:key∈L) (harr:∀ i,i<n->∃ p,arr[base+i]?=some p/\p∈L)
 (hb:∀ i,i<n->((if left=true then R rk arr (base+i)<rk key else R rk arr (base+i)<=rk key)↔i<k)) (hkn:k<=n) (hh:hint<n) (h:Q (some k) st):wpS (model prog w) A E s (cW left key arr base n hint) Q st:=by
 have bey:∀ i,i<n->∀ (Q:Option Bool->SortSt->Prop),Q (some (decide (i<k))) st->wpS (model prog w) A E s (dW left key arr base i) Q st:=λi hi Q hQ=>by
  obtain ⟨p,e,hp⟩:=harr i hi
  refine uC hC hk hkey e hp ?_ hQ
  have:=hb i hi
  rw [dX e] at this
  exact this
 rw [uB]
 refine Ru (bey hint hh _ ?_)
 dsimp only
 by_cases hr:hint<k
 ·rw [decide_eq_true hr,if_pos rfl]
  unfold BO
  refine Ru (R9 (SI (I:=λx c st'=>st'=st/\∃ l o,c=(none,l,o)/\hint+l<k/\x<o) (Q:=λc st'=>st'=st/\∃ l o,c=(none,l,o)/\hint+l<k/\(k<=hint+o\/n - hint<=o)) ?step ?fin ⟨rfl,0,1,rfl,hr,by omega⟩) ?post)
  case fin =>
   rintro c st' ⟨rfl,l,o,rfl,a1,a2⟩
   exact ⟨rfl,l,o,rfl,a1,.inr (by omega)⟩
  case step =>
   rintro x c st' _ hx ⟨rfl,l,o,rfl,a1,a2⟩
   dsimp only
   by_cases hge:o>=n - hint
   ·rw [if_pos hge]; exact Rw ⟨rfl,l,o,rfl,a1,.inr hge⟩
   ·rw [if_neg hge]
    refine Ru (bey _ (by omega) _ ?_)
    dsimp only
    by_cases hm:hint+o<k
    ·rw [decide_eq_true hm]; simp only [UL,Sn,if_false]
     exact Rw ⟨rfl,o,2 * o+1,rfl,hm,by omega⟩
    ·rw [decide_eq_false hm]; simp only [Bool.not_false,if_true]
     exact Rw ⟨rfl,l,o,rfl,a1,.inl (by omega)⟩
  case post =>
   rintro c st' ⟨rfl,l,o,rfl,a1,a2⟩
   dsimp only
   exact ly bey (by omega) (by omega) (by omega) h
 ·rw [decide_eq_false hr,if_neg RG]
  unfold BP
  refine Ru (R9 (SI (I:=λx c st'=>st'=st/\∃ l o,c=(none,l,o)/\l<=hint/\k<=hint - l/\x<o) (Q:=λc st'=>st'=st/\∃ l o,c=(none,l,o)/\l<=hint/\k<=hint - l/\(hint+1<=k+o\/hint+1<=o)) ?step ?fin ⟨rfl,0,1,rfl,by omega,by omega,by omega⟩) ?post)
  case fin =>
   rintro c st' ⟨rfl,l,o,rfl,a1,a2,a3⟩
   exact ⟨rfl,l,o,rfl,a1,a2,.inr (by omega)⟩
  case step =>
   rintro x c st' _ hx ⟨rfl,l,o,rfl,a1,a2,a3⟩
   dsimp only
   by_cases hge:o>=hint+1
   ·rw [if_pos hge]; exact Rw ⟨rfl,l,o,rfl,a1,a2,.inr hge⟩
   ·rw [if_neg hge]
    refine Ru (bey _ (by omega) _ ?_)
    dsimp only
    by_cases hm:hint - o<k
    ·rw [decide_eq_true hm,if_pos rfl]
     exact Rw ⟨rfl,l,o,rfl,a1,a2,.inl (by omega)⟩
    ·rw [decide_eq_false hm,if_neg RG]
     exact Rw ⟨rfl,o,2 * o+1,rfl,by omega,by omega,by omega⟩
  case post =>
   rintro c st' ⟨rfl,l,o,rfl,a1,a2,a3⟩
   dsimp only
   exact ly bey (by omega) (by omega) (by omega) h
noncomputable def lz:Array Keyed->Array Keyed->StateT SortSt Sem (Array Keyed):=sortPriv% PySem.Builtin.mergeLo
theorem fN {st:SortSt} (h:Q () (Uv (kindOf st) (arrOf st) (pendingOf st) g (failedOf st))):wpS M A E s (cH g) Q st :=
 TM (f:=λst=>Uv (kindOf st) (arrOf st) (pendingOf st) g (failedOf st)) h
section
variable {rk:Keyed->Int} {a b:Array Keyed}
def BQ (rk:Keyed->Int) (xs:List Keyed):Prop:=xs.Pairwise λp q=>rk p<=rk q
theorem wF (h:xs.length<=1):BQ rk xs:=by
 cases xs with
 | nil=>exact VA
 | cons x xs =>
  cases xs with
  | nil=>exact U4 _ _
  | cons y ys=>simp at h
def Res (rk:Keyed->Int) (a b r:Array Keyed):Prop:=r.toList.Perm (a.toList++b.toList)/\BQ rk r.toList
structure WL (rk:Keyed->Int) (a b:Array Keyed) (out:Array Keyed) (ia ib:Nat):Prop where
 pa:ia<=a.size
 pb:ib<=b.size
 pm:out.toList.Perm (a.toList.take ia++b.toList.take ib)
 sr:BQ rk out.toList
 ha:∀ p∈out.toList,∀ (j:Nat) (q:Keyed),ia<=j->a[j]?=some q->rk p<=rk q
 hb:∀ p∈out.toList,∀ (j:Nat) (q:Keyed),ib<=j->b[j]?=some q->rk p<=rk q
def Up (rk:Keyed->Int) (a:Array Keyed):Prop:=∀ (i j:Nat) (p q:Keyed),i<=j->a[i]?=some p->a[j]?=some q->rk p<=rk q
theorem jo (h:Up rk a):BQ rk a.toList:=by
 unfold BQ
 rw [WT]
 intro i j hi hj hij
 exact h i j _ _ (SY hij) (by simp at hi |-) (by simp at hj |-)
theorem JV (h:BQ rk a.toList):Up rk a:=λi j p q hij e1 e2=>by
 rw [<- Sm] at e1 e2
 obtain ⟨h1,r1⟩:=RJ.mp e1
 obtain ⟨h2,r2⟩:=RJ.mp e2
 subst r1 r2
 rcases Nat.lt_or_eq_of_le hij with z | z
 ·exact (WT.mp h) i j h1 h2 z
 ·subst z; exact SK _
theorem bM (h1:BQ rk xs) (h2:BQ rk ys) (h3:∀ p∈xs,∀ q∈ys,rk p<=rk q):BQ rk (xs++ys):=List.pairwise_append.mpr ⟨h1,h2,h3⟩
theorem eB (xs:Array Keyed) (i j):(xs.extract i j).toList=(xs.toList.take j).drop i:=by
 rw [List.drop_take]; simp [List.extract_eq_take_drop]
theorem gD (xs:Array Keyed) (i):(xs.extract i xs.size).toList=xs.toList.drop i:=by
 rw [eB,UB (by simp)]
theorem iP (xs:Array Keyed) (i):(xs.extract i i).toList=[]:=by
 rw [eB,List.drop_take]; simp
theorem wG {xs:Array Keyed} (h:q∈(xs.extract i j).toList):∃ k,i<=k/\k<j/\xs[k]?=some q:=by
 obtain ⟨n,hn⟩:=U7 h
 rw [Sm,V6] at hn
 split at hn
 ·rename_i z
  exact ⟨i+n,by lia,by lia,hn⟩
 ·cases hn
theorem WL.jq (h:WL rk a b out ia ib) (ua:Up rk a) (e:ib=b.size):Res rk a b (out++a.extract ia a.size++b.extract ib b.size):=by
 subst e
 have e0:(out++a.extract ia a.size++b.extract b.size b.size).toList=out.toList++a.toList.drop ia:=by
  rw [SW,SW,gD,gD,List.drop_of_length_le (show b.toList.length<=b.size by simp),SJ]
 refine ⟨?_,?_⟩
 ·rw [e0]
  have hp:=h.pm
  rw [UB (show b.toList.length<=b.size by simp)] at hp
  refine (hp.append_right _).trans ?_
  have:(a.toList.take ia++b.toList++a.toList.drop ia).Perm (a.toList.take ia++a.toList.drop ia++b.toList):=by
   rw [R4,R4]
   exact U5 _ UE
  rw [T4] at this
  exact this
 ·rw [e0]
  refine bM h.sr ((jo ua).sublist (XH _ _)) λp hp q hq=>?_
  obtain ⟨n,hn⟩:=U7 hq
  rw [Va] at hn
  exact h.ha p hp (ia+n) q (by lia) (by rw [<- Sm]; exact hn)
theorem WL.jr (h:WL rk a b out ia ib) (ub:Up rk b) (e:ia=a.size):Res rk a b (out++a.extract ia a.size++b.extract ib b.size):=by
 subst e
 have e0:(out++a.extract a.size a.size++b.extract ib b.size).toList=out.toList++b.toList.drop ib:=by
  rw [SW,SW,gD,gD,List.drop_of_length_le (show a.toList.length<=a.size by simp),SJ]
 refine ⟨?_,?_⟩
 ·rw [e0]
  have hp:=h.pm
  rw [UB (show a.toList.length<=a.size by simp)] at hp
  refine (hp.append_right _).trans ?_
  rw [R4,T4]
 ·rw [e0]
  refine bM h.sr ((jo ub).sublist (XH _ _)) λp hp q hq=>?_
  obtain ⟨n,hn⟩:=U7 hq
  rw [Va] at hn
  exact h.hb p hp (ib+n) q (by lia) (by rw [<- Sm]; exact hn)
theorem WL.last (h:WL rk a b out ia ib) (ub:Up rk b) (e:ia+1=a.size) (hl:∀ (j:Nat) (p q:Keyed),a[ia]?=some p->b[j]?=some q->rk q<=rk p) :
 Res rk a b (out++b.extract ib b.size++a.extract ia a.size):=by
 have e0:(out++b.extract ib b.size++a.extract ia a.size).toList=out.toList++(b.toList.drop ib++a.toList.drop ia):=by
  rw [SW,SW,gD,gD,R4]
 refine ⟨?_,?_⟩
 ·rw [e0]
  refine (h.pm.append_right _).trans ?_
  have:(a.toList.take ia++b.toList.take ib++(b.toList.drop ib++a.toList.drop ia)).Perm (a.toList.take ia++a.toList.drop ia++(b.toList.take ib++b.toList.drop ib)):=by
   rw [R4,R4]
   refine U5 _ ?_
   rw [<- R4]
   exact UE
  rw [T4,T4] at this
  exact this
 ·rw [e0]
  have ml:∀ q∈b.toList.drop ib,∃ j,ib<=j/\b[j]?=some q:=λq hq=>by
   obtain ⟨n,hn⟩:=U7 hq
   rw [Va] at hn
   exact ⟨ib+n,by lia,by rw [<- Sm]; exact hn⟩
  have ml2:∀ q∈a.toList.drop ia,a[ia]?=some q:=λq hq=>by
   obtain ⟨n,hn⟩:=U7 hq
   rw [Va] at hn
   have:=(RJ.mp hn).1
   have hn0:n=0:=by simp at this; lia
   subst hn0
   rw [<- Sm]; exact hn
  refine bM h.sr (bM ((jo ub).sublist (XH _ _)) ?_ λp hp q hq=>?_) λp hp q hq=>?_
  ·exact wF (by simp; lia)
  ·obtain ⟨j,_,e1⟩:=ml p hp
   exact hl j q p (ml2 q hq) e1
  ·rcases R5.mp hq with z | z
   ·obtain ⟨j,h1,e1⟩:=ml q z
    exact h.hb p hp j q h1 e1
   ·exact h.ha p hp ia q (Rv _) (ml2 q z)
theorem cX {xs:Array Keyed} (h:xs[i]?=some p):xs.toList.take (i+1)=xs.toList.take i++[p]:=by
 rw [XF,Sm,h]; rfl
theorem WL.f6 {out:Array Keyed} {ia ib:Nat} {p:Keyed} (h:WL rk a b out ia ib) (ub:Up rk b) (e:b[ib]?=some p) (hl:∀ (j:Nat) (q:Keyed),ia<=j->a[j]?=some q->rk p<=rk q):WL rk a b (out.push p) ia (ib+1) where
 pa:=h.pa
 pb:=(U3.mp e).1
 pm:=by
  rw [Sa,cX e,<- R4]
  exact h.pm.append_right _
 sr:=by
  rw [Sa]
  exact bM h.sr (U4 _ _) λq hq r hr=>by
   rw [RN.mp hr]; exact h.hb q hq ib p (Rv _) e
 ha:=λq hq j r hj er=>by
  rw [Sa] at hq
  rcases R5.mp hq with z | z
  ·exact h.ha q z j r hj er
  ·rw [RN.mp z]; exact hl j r hj er
 hb:=λq hq j r hj er=>by
  rw [Sa] at hq
  rcases R5.mp hq with z | z
  ·exact h.hb q z j r (by lia) er
  ·rw [RN.mp z]; exact ub ib j p r (by lia) e er
theorem WL.f7 {out:Array Keyed} {ia ib:Nat} {p:Keyed} (h:WL rk a b out ia ib) (ua:Up rk a) (e:a[ia]?=some p) (hl:∀ (j:Nat) (q:Keyed),ib<=j->b[j]?=some q->rk p<=rk q):WL rk a b (out.push p) (ia+1) ib where
 pa:=(U3.mp e).1
 pb:=h.pb
 pm:=by
  rw [Sa,cX e]
  refine (h.pm.append_right _).trans ?_
  rw [R4,R4]
  exact U5 _ UE
 sr:=by
  rw [Sa]
  exact bM h.sr (U4 _ _) λq hq r hr=>by
   rw [RN.mp hr]; exact h.ha q hq ia p (Rv _) e
 hb:=λq hq j r hj er=>by
  rw [Sa] at hq
  rcases R5.mp hq with z | z
  ·exact h.hb q z j r hj er
  ·rw [RN.mp z]; exact hl j r hj er
 ha:=λq hq j r hj er=>by
  rw [Sa] at hq
  rcases R5.mp hq with z | z
  ·exact h.ha q z j r (by lia) er
  ·rw [RN.mp z]; exact ua ia j p r (by lia) e er
theorem WL.rA (h:WL rk a b out ia ib) (ua:Up rk a):∀ (k:Nat),ia+k<=a.size->(∀ (i j:Nat) (p q:Keyed),ia<=i->i<ia+k->ib<=j->a[i]?=some p->b[j]?=some q->rk p<=rk q)->WL rk a b (out++a.extract ia (ia+k)) (ia+k) ib
 | 0,_,_=>by
  have:out++a.extract ia (ia+0)=out:=by
   apply Uw
   rw [SW,Nat.add_zero,iP,SJ]
  rw [this]; exact h
 | k+1,hk,hl=>by
  have ih:=h.rA ua k (by lia) λi j p q h1 h2=>hl i j p q h1 (by lia)
  have e:a[ia+k]?=some (a[ia+k]'(by lia)):=RZ _
  have z:=ih.f7 ua e λj q hj eq=>hl _ j _ q (by lia) (by lia) hj e eq
  have:out++a.extract ia (ia+(k+1))=(out++a.extract ia (ia+k)).push (a[ia+k]'(by lia)):=by
   apply Uw
   simp only [SW,Sa,eB]
   rw [show ia+(k+1)=(ia+k)+1 by lia,cX e,X9 (by simp; lia),R4]
  rw [this]; exact z
theorem WL.rB (h:WL rk a b out ia ib) (ub:Up rk b):∀ (k:Nat),ib+k<=b.size->(∀ (i j:Nat) (p q:Keyed),ib<=i->i<ib+k->ia<=j->b[i]?=some p->a[j]?=some q->rk p<=rk q)->WL rk a b (out++b.extract ib (ib+k)) ia (ib+k)
 | 0,_,_=>by
  have:out++b.extract ib (ib+0)=out:=by
   apply Uw
   rw [SW,Nat.add_zero,iP,SJ]
  rw [this]; exact h
 | k+1,hk,hl=>by
  have ih:=h.rB ub k (by lia) λi j p q h1 h2=>hl i j p q h1 (by lia)
  have e:b[ib+k]?=some (b[ib+k]'(by lia)):=RZ _
  have z:=ih.f6 ub e λj q hj eq=>hl _ j _ q (by lia) (by lia) hj e eq
  have:out++b.extract ib (ib+(k+1))=(out++b.extract ib (ib+k)).push (b[ib+k]'(by lia)):=by
   apply Uw
   simp only [SW,Sa,eB]
   rw [show ib+(k+1)=(ib+k)+1 by lia,cX e,X9 (by simp; lia),R4]
  rw [this]; exact z
end
section
variable {prog:Program} {w:World} {A:Around} {E:Value->Shared->Prop} {s:Shared} {L:List Keyed} {κ:SortKind} {rk:Keyed->Int} {a b:Array Keyed}
theorem lB (f:Nat->Int) (c):∀ n,(∀ i j,i<=j->j<n->f i<=f j)->∃ k,k<=n/\∀ i,i<n->(f i<=c↔i<k)
 | 0,_=>⟨0,Rv _,λi hi=>by lia⟩
 | n+1,hm=>by
  obtain ⟨k,h1,h2⟩:=lB f c n λi j hij hj=>hm i j hij (by lia)
  by_cases hc:f n<=c
  ·refine ⟨n+1,Rv _,λi hi=>⟨λ_=>hi,λ_=>?_⟩⟩
   exact R6 (hm i n (by lia) (by lia)) hc
  ·refine ⟨k,by lia,λi hi=>?_⟩
   by_cases hin:i<n
   ·exact h2 i hin
   ·have:i=n:=by lia
    subst this
    exact ⟨λz=>absurd z hc,λz=>by lia⟩
theorem lC (f:Nat->Int) (c):∀ n,(∀ i j,i<=j->j<n->f i<=f j)->∃ k,k<=n/\∀ i,i<n->(f i<c↔i<k)
 | 0,_=>⟨0,Rv _,λi hi=>by lia⟩
 | n+1,hm=>by
  obtain ⟨k,h1,h2⟩:=lC f c n λi j hij hj=>hm i j hij (by lia)
  by_cases hc:f n<c
  ·refine ⟨n+1,Rv _,λi hi=>⟨λ_=>hi,λ_=>?_⟩⟩
   exact Wa (hm i n (by lia) (by lia)) hc
  ·refine ⟨k,by lia,λi hi=>?_⟩
   by_cases hin:i<n
   ·exact h2 i hin
   ·have:i=n:=by lia
    subst this
    exact ⟨λz=>absurd z hc,λz=>by lia⟩
theorem Nf (h:Up rk a) (hij:i<=j) (hj:j<a.size):R rk a i<=R rk a j:=by
 have e1:a[i]?=some (a[i]'(by lia)):=RZ _
 have e2:a[j]?=some a[j]:=RZ _
 rw [dX e1,dX e2]
 exact h i j _ _ hij e1 e2
structure cY (st st':SortSt):Prop where
 k:kindOf st'=kindOf st
 a:arrOf st'=arrOf st
 p:pendingOf st'=pendingOf st
 f:failedOf st'=failedOf st
theorem cY.refl (st:SortSt):cY st st:=⟨rfl,rfl,rfl,rfl⟩
theorem cY.min {st st':SortSt} (h:cY st st') (g):cY st (Uv (kindOf st') (arrOf st') (pendingOf st') g (failedOf st')):=⟨h.k,h.a,h.p,h.f⟩
theorem cY.trans (h:cY s1 s2) (g:cY s2 s3):cY s1 s3:=⟨g.k.trans h.k,g.a.trans h.a,g.p.trans h.p,g.f.trans h.f⟩
theorem rC {st:SortSt} (hC:iC prog w A s κ rk L) (hk:kindOf st=κ) (hkey:key∈L) (mx:∀ (i:Nat) (p:Keyed),xs[i]?=some p->p∈L) (ux:Up rk xs) (n) (hn:base+n<=xs.size) (hh:hint<n)
 (h:∀ k,k<=n->(∀ (i:Nat) (p:Keyed),i<k->xs[base+i]?=some p->rk p<=rk key)->(∀ (i:Nat) (p:Keyed),k<=i->base+i<base+n->xs[base+i]?=some p->rk key<rk p)->Q (some k) st) :
 wpS (model prog w) A E s (cW false key xs base n hint) Q st:=by
 obtain ⟨k,h1,h2⟩:=lB (λi=>R rk xs (base+i)) (rk key) n λi j hij hj=>Nf ux (by lia) (by lia)
 refine fM hC hk hkey (λi hi=>⟨xs[base+i]'(by lia),RZ _,mx _ _ (RZ _)⟩) (λi hi=>by simp only [Sn,if_false]; exact h2 i hi) h1 hh (h k h1 (λi p hi e=>?_) λi p hi hb e=>?_)
 ·have:=(h2 i (by lia)).mpr hi
  rw [dX e] at this; exact this
 ·have:=mt (h2 i (by lia)).mp (by lia)
  rw [dX e] at this; lia
theorem rD {st:SortSt} (hC:iC prog w A s κ rk L) (hk:kindOf st=κ) (hkey:key∈L) (mx:∀ (i:Nat) (p:Keyed),xs[i]?=some p->p∈L) (ux:Up rk xs) (n) (hn:base+n<=xs.size) (hh:hint<n)
 (h:∀ k,k<=n->(∀ (i:Nat) (p:Keyed),i<k->xs[base+i]?=some p->rk p<rk key)->(∀ (i:Nat) (p:Keyed),k<=i->base+i<base+n->xs[base+i]?=some p->rk key<=rk p)->Q (some k) st) :
 wpS (model prog w) A E s (cW true key xs base n hint) Q st:=by
 obtain ⟨k,h1,h2⟩:=lC (λi=>R rk xs (base+i)) (rk key) n λi j hij hj=>Nf ux (by lia) (by lia)
 refine fM hC hk hkey (λi hi=>⟨xs[base+i]'(by lia),RZ _,mx _ _ (RZ _)⟩) (λi hi=>by simp only [if_true]; exact h2 i hi) h1 hh (h k h1 (λi p hi e=>?_) λi p hi hb e=>?_)
 ·have:=(h2 i (by lia)).mpr hi
  rw [dX e] at this; exact this
 ·have:=mt (h2 i (by lia)).mp (by lia)
  rw [dX e] at this; lia
structure mR (rk:Keyed->Int) (a b out:Array Keyed) (ia ib:Nat):Prop where
 w:WL rk a b out ia ib
 la:ia+1<a.size
 lb:ib<b.size
end
section
local macro_rules | `(tactic| walk_at "dl mergeLo")=>do
 let i:=UO (UC `PySem.Builtin.List.W1All `PySem.Builtin.mergeLo)
 `(tactic| delta $i)
noncomputable abbrev BR:=Option (Array Keyed)×Array Keyed×Nat×Nat×Nat×Nat×Nat
noncomputable def Hw (a b out:Array Keyed) (ia ib:Nat):Array Keyed:=out++a.extract ia a.size++b.extract ib b.size
noncomputable def Ef (a b out:Array Keyed) (ia ib:Nat):Array Keyed:=out++b.extract ib b.size++a.extract ia a.size
noncomputable def wH (a b:Array Keyed) (mg ac bc ia ib:Nat) (out:Array Keyed):StateT SortSt Sem (ForInStep BR):=do
 let p <- elem' a ia
 if (ia+1+1 == a.size)=true then pure (.done (some (Ef a b (out.push p) (ia+1) ib),out.push p,ia+1,ib,mg,ac,bc))
 else if (decide (ac<7) && decide (bc<7))=true then pure (.done (none,out.push p,ia+1,ib,mg,ac,bc))
 else pure (.yield (none,out.push p,ia+1,ib,mg,ac,bc))
noncomputable def wI (a b:Array Keyed) (mg ac bc ia ib:Nat) (out:Array Keyed):StateT SortSt Sem (ForInStep BR):=do
 let q <- elem' b ib
 if (ib+1 == b.size)=true then pure (.done (some (Hw a b (out.push q) ia (ib+1)),out.push q,ia,ib+1,mg,ac,bc))
 else do
  let p <- elem' a ia
  let x <- cW true p b (ib+1) (b.size - (ib+1)) 0
  match x with
  | some k=>(if k>0 then
   (if (ib+1+k == b.size)=true then pure (.done (some (Hw a b (out.push q++b.extract (ib+1) (ib+1+k)) ia (ib+1+k)),out.push q++b.extract (ib+1) (ib+1+k),ia,ib+1+k,mg,ac,k))
    else wH a b mg ac k ia (ib+1+k) (out.push q++b.extract (ib+1) (ib+1+k)))
   else wH a b mg ac k ia (ib+1) (out.push q))
  | _=>pure (.done (some (Hw a b (out.push q) ia (ib+1)),out.push q,ia,ib+1,mg,ac,bc))
noncomputable def wJ (a b:Array Keyed) (mg ac bc ia ib:Nat) (out:Array Keyed):StateT SortSt Sem (ForInStep BR):=do
 cH mg
 let q <- elem' b ib
 let x <- cW false q a ia (a.size - ia) 0
 match x with
 | some k=>(if k>0 then
  (if (ia+k+1 == a.size)=true then pure (.done (some (Ef a b (out++a.extract ia (ia+k)) (ia+k) ib),out++a.extract ia (ia+k),ia+k,ib,mg,k,bc))
   else if (ia+k == a.size)=true then pure (.done (some (Hw a b (out++a.extract ia (ia+k)) (ia+k) ib),out++a.extract ia (ia+k),ia+k,ib,mg,k,bc))
   else wI a b mg k bc (ia+k) ib (out++a.extract ia (ia+k)))
  else wI a b mg k bc ia ib out)
 | _=>pure (.done (some (Hw a b out ia ib),out,ia,ib,mg,ac,bc))
noncomputable def BS (a b:Array Keyed) (c:BR):StateT SortSt Sem (ForInStep BR) :=
 if c.2.2.2.2.1>1 then wJ a b (c.2.2.2.2.1 - 1) c.2.2.2.2.2.1 c.2.2.2.2.2.2 c.2.2.1 c.2.2.2.1 c.2.1 else wJ a b c.2.2.2.2.1 c.2.2.2.2.2.1 c.2.2.2.2.2.2 c.2.2.1 c.2.2.2.1 c.2.1
noncomputable abbrev JW:=Option (Array Keyed)×Array Keyed×Nat×Nat×Nat×Nat
noncomputable def BU (a b:Array Keyed) (mg:Nat) (c:JW):StateT SortSt Sem (ForInStep JW):=do
 let q <- elem' b c.2.2.2.1
 let p <- elem' a c.2.2.1
 let x <- lt' q p
 match x with
 | some y=>(if y=true then (do
  let q <- elem' b c.2.2.2.1
  if (c.2.2.2.1+1 == b.size)=true then pure (.done (some (Hw a b (c.2.1.push q) c.2.2.1 (c.2.2.2.1+1)),c.2.1.push q,c.2.2.1,c.2.2.2.1+1,0,c.2.2.2.2.2+1))
  else if c.2.2.2.2.2+1>=mg then pure (.done (none,c.2.1.push q,c.2.2.1,c.2.2.2.1+1,0,c.2.2.2.2.2+1))
  else pure (.yield (none,c.2.1.push q,c.2.2.1,c.2.2.2.1+1,0,c.2.2.2.2.2+1)))
  else (do
   let p <- elem' a c.2.2.1
   if (c.2.2.1+1+1 == a.size)=true then pure (.done (some (Ef a b (c.2.1.push p) (c.2.2.1+1) c.2.2.2.1),c.2.1.push p,c.2.2.1+1,c.2.2.2.1,c.2.2.2.2.1+1,0))
   else if c.2.2.2.2.1+1>=mg then pure (.done (none,c.2.1.push p,c.2.2.1+1,c.2.2.2.1,c.2.2.2.2.1+1,0))
   else pure (.yield (none,c.2.1.push p,c.2.2.1+1,c.2.2.2.1,c.2.2.2.2.1+1,0))))
 | _=>pure (.done (some (Hw a b c.2.1 c.2.2.1 c.2.2.2.1),c.2.1,c.2.2.1,c.2.2.2.1,c.2.2.2.2.1,c.2.2.2.2.2))
noncomputable abbrev Fq:=Option (Array Keyed)×Array Keyed×Nat×Nat×Nat
noncomputable def pG (a b:Array Keyed) (c:Fq):StateT SortSt Sem (ForInStep Fq):=do
 let s <- forIn [:a.size+b.size] ((none,c.2.1,c.2.2.1,c.2.2.2.1,0,0):JW) λ_ s=>BU a b c.2.2.2.2 s
 match s.1 with
 | some r=>pure (.done (some r,s.2.1,s.2.2.1,s.2.2.2.1,c.2.2.2.2))
 | none=>do
  liftM (rule "list.sort.gallop")
  let t <- forIn [:a.size+b.size] ((none,s.2.1,s.2.2.1,s.2.2.2.1,c.2.2.2.2+1,s.2.2.2.2.1,s.2.2.2.2.2):BR) λ_ t=>BS a b t
  match t.1 with
  | some r=>pure (.done (some r,t.2.1,t.2.2.1,t.2.2.2.1,t.2.2.2.2.1))
  | none=>do
   cH (t.2.2.2.2.1+1)
   pure (.yield (none,t.2.1,t.2.2.1,t.2.2.2.1,t.2.2.2.2.1+1))
theorem rE (a b):lz a b=(do
 liftM (rule "list.sort.merge-lo")
 let p <- elem' b 0
 if (1 == b.size)=true then pure (Hw a b #[p] 0 1)
 else if (0+1 == a.size)=true then pure (Ef a b #[p] 0 1)
 else do
  let st <- get
  let s <- forIn [:a.size+b.size] ((none,#[p],0,1,gallopOf st):Fq) λ_ c=>pG a b c
  match s.1 with
  | some r=>pure r
  | none=>liftM (unsupported (α:=Array Keyed) "internal:list.sort.merge-bound")):=by
 unfold lz
 walk_at "dl mergeLo"
 dsimp only
 refine congrArg _ (funext λ_=>?_)
 refine congrArg _ (funext λp=>?_)
 refine congrArg _ (congrArg _ ?_)
 refine congrArg _ (funext λst=>?_)
 have e:∀ (f g:Nat->Fq->StateT SortSt Sem (ForInStep Fq)) (c:Fq) (k:Fq->StateT SortSt Sem (Array Keyed)),f=g->(forIn [:a.size+b.size] c f >>= k)=(forIn [:a.size+b.size] c g >>= k):=λ_ _ _ _ h=>by rw [h]
 refine (e _ _ _ _ (funext λ_=>funext λc=>?_)).trans (congrArg _ (funext λs=>?_))
 ·obtain ⟨o,out,ia,ib,mg⟩:=c
  unfold pG
  dsimp only
  have e2:∀ (f g:Nat->JW->StateT SortSt Sem (ForInStep JW)) (c:JW) (k l:JW->StateT SortSt Sem (ForInStep Fq)),f=g->k=l->(forIn [:a.size+b.size] c f >>= k)=(forIn [:a.size+b.size] c g >>= l):=λ_ _ _ _ _ h h2=>by rw [h,h2]
  refine e2 _ _ _ _ _ (funext λ_=>funext λc=>?_) (funext λs=>?_)
  ·rfl
  ·obtain ⟨o,out,ia,ib,ac,bc⟩:=s
   cases o with
   | some r=>rfl
   | none =>
    dsimp only
    refine congrArg _ (funext λ_=>?_)
    have e3:∀ (f g:Nat->BR->StateT SortSt Sem (ForInStep BR)) (c:BR) (k l:BR->StateT SortSt Sem (ForInStep Fq)),f=g->k=l->(forIn [:a.size+b.size] c f >>= k)=(forIn [:a.size+b.size] c g >>= l):=λ_ _ _ _ _ h h2=>by rw [h,h2]
    refine e3 _ _ _ _ _ (funext λ_=>funext λc=>?_) (funext λs=>?_)
    ·rfl
    ·obtain ⟨o,s⟩:=s
     cases o <;> rfl
 ·obtain ⟨o,s⟩:=s
  cases o <;> rfl
end
theorem some_at {xs:Array Keyed} (h:i<xs.size):∃ p,xs[i]?=some p:=⟨xs[i],RZ h⟩
def Ft (rk:Keyed->Int) (a b:Array Keyed) (n:Nat) (o:Option (Array Keyed)) (ia ib:Nat) (out:Array Keyed):Prop:=(∃ r,o=some r/\Res rk a b r)\/(o=none/\mR rk a b out ia ib/\n<=ia+ib)
noncomputable def Fv (rk:Keyed->Int) (a b:Array Keyed) (n:Nat):ForInStep BR->Prop
 | .done c=>Ft rk a b n c.1 c.2.2.1 c.2.2.2.1 c.2.1
 | .yield c=>c.1=none/\mR rk a b c.2.1 c.2.2.1 c.2.2.2.1/\n<=c.2.2.1+c.2.2.2.1
theorem nM {st:SortSt} (lA:∀ {out:Array Keyed} {ia ib:Nat},WL rk a b out ia ib->ia+1=a.size->Res rk a b (Ef a b out ia ib)) (W:WL rk a b out ia ib) (ua:Up rk a) (la:ia+1<a.size) (lb:ib<b.size) (ep:a[ia]?=some p)
 (hl:∀ (j:Nat) (r:Keyed),ib<=j->b[j]?=some r->rk p<=rk r) (hn:n<=ia+1+ib) (hQ:∀ x,Fv rk a b n x->Q x st):wpS (model prog w) A E s (wH a b mg ac bc ia ib out) Q st:=by
 unfold wH
 have W4:=W.f7 ua ep hl
 refine Ru (aS ep ?_)
 by_cases e9:ia+1+1=a.size
 ·rw [if_pos (by simpa using e9)]
  exact Rw (hQ _ (.inl ⟨_,rfl,lA W4 e9⟩))
 rw [if_neg (by simpa using e9)]
 have hL:mR rk a b (out.push p) (ia+1) ib:=⟨W4,Nat.lt_of_le_of_ne la e9,lb⟩
 split
 ·exact Rw (hQ _ (.inr ⟨rfl,hL,hn⟩))
 ·exact Rw (hQ _ ⟨rfl,hL,hn⟩)
theorem pH {xs:Array Keyed} {i j:Nat} (h:i<=j) (e:xs[j]?=some p):xs[i+(j - i)]?=some p:=by rw [Xj h]; exact e
theorem nN {st:SortSt} (hC:iC prog w A s κ rk L) (hk:kindOf st=κ) (ma:∀ (i:Nat) (p:Keyed),a[i]?=some p->p∈L) (mb:∀ (i:Nat) (p:Keyed),b[i]?=some p->p∈L)
 (lA:∀ {out:Array Keyed} {ia ib:Nat},WL rk a b out ia ib->ia+1=a.size->Res rk a b (Ef a b out ia ib)) (W:WL rk a b out ia ib) (ua:Up rk a) (ub:Up rk b) (la:ia+1<a.size) (lb:ib<b.size) (eq:b[ib]?=some q)
 (hl:∀ (j:Nat) (r:Keyed),ia<=j->a[j]?=some r->rk q<=rk r) (hn:n<=ia+ib+2) (hQ:∀ x,Fv rk a b n x->Q x st):wpS (model prog w) A E s (wI a b mg ac bc ia ib out) Q st:=by
 unfold wI
 have W2:=W.f6 ub eq hl
 refine Ru (aS eq ?_)
 by_cases e5:ib+1=b.size
 ·rw [if_pos (by simpa using e5)]
  exact Rw (hQ _ (.inl ⟨_,rfl,W2.jq ua e5⟩))
 rw [if_neg (by simpa using e5)]
 obtain ⟨p,ep⟩:=some_at (xs:=a) (i:=ia) (by lia)
 refine Ru (aS ep ?_)
 refine Ru (rD hC hk (ma _ _ ep) mb ub _ (by lia) (by lia) λk hj1 hj2 hj3=>?_)
 dsimp only
 have W3:=W2.rB ub k (by lia) λi j r p' z1 z2 z3 e6 e7=>R6 (TL (hj2 (i - (ib+1)) r (by lia) (pH z1 e6))) (ua ia j p p' z3 ep e7)
 have bwd:∀ (j:Nat) (r:Keyed),ib+1+k<=j->b[j]?=some r->rk p<=rk r:=λj r hj e6=>hj3 (j - (ib+1)) r (by lia) (by have:=(U3.mp e6).1; lia) (pH (Rz (T8 _ _) hj) e6)
 by_cases hj0:k>0
 ·rw [if_pos hj0]
  by_cases e8:ib+1+k=b.size
  ·rw [if_pos (by simpa using e8)]
   exact Rw (hQ _ (.inl ⟨_,rfl,W3.jq ua e8⟩))
  rw [if_neg (by simpa using e8)]
  exact nM lA W3 ua la (by lia) ep bwd (by lia) hQ
 ·rw [if_neg hj0]
  exact nM lA W2 ua la (by lia) ep (λj r hj e6=>bwd j r (by lia) e6) (by lia) hQ
theorem nO {st:SortSt} (hC:iC prog w A s κ rk L) (hk:kindOf st=κ) (ma:∀ (i:Nat) (p:Keyed),a[i]?=some p->p∈L) (mb:∀ (i:Nat) (p:Keyed),b[i]?=some p->p∈L)
 (lA:∀ {out:Array Keyed} {ia ib:Nat},WL rk a b out ia ib->ia+1=a.size->Res rk a b (Ef a b out ia ib)) (ua:Up rk a) (ub:Up rk b) (hL:mR rk a b out ia ib) (hn:n<=ia+ib) (hQ:∀ x st',cY st st'->Fv rk a b n x->Q x st') :
 wpS (model prog w) A E s (wJ a b mg ac bc ia ib out) Q st:=by
 unfold wJ
 have W:=hL.w
 have la:=hL.la
 have lb:=hL.lb
 obtain ⟨q,eq⟩:=some_at (xs:=b) lb
 refine Ru (fN ?_)
 have Ii:=λx=>hQ x _ ((cY.refl st).min mg)
 refine Ru (aS eq ?_)
 refine Ru (rC hC (by exact hk) (mb _ _ eq) ma ua _ (by lia) (by lia) λk hk1 hk2 hk3=>?_)
 dsimp only
 have Wk:=W.rA ua k (by lia) λi j p r z1 z2 z3 e3 e4=>R6 (hk2 (i - ia) p (by lia) (pH z1 e3)) (ub ib j q r z3 eq e4)
 have fwd:∀ (j:Nat) (r:Keyed),ia+k<=j->a[j]?=some r->rk q<=rk r:=λj r hj e3=>TL (hk3 (j - ia) r (by lia) (by have:=(U3.mp e3).1; lia) (pH (Rz (T8 _ _) hj) e3))
 by_cases hk0:k>0
 ·rw [if_pos hk0]
  by_cases e3:ia+k+1=a.size
  ·rw [if_pos (by simpa using e3)]
   exact Rw (Ii _ (.inl ⟨_,rfl,lA Wk e3⟩))
  rw [if_neg (by simpa using e3)]
  by_cases e4:ia+k=a.size
  ·rw [if_pos (by simpa using e4)]
   exact Rw (Ii _ (.inl ⟨_,rfl,Wk.jr ub e4⟩))
  rw [if_neg (by simpa using e4)]
  exact nN hC (by exact hk) ma mb lA Wk ua ub (by lia) lb eq fwd (by lia) Ii
 ·rw [if_neg hk0]
  exact nN hC (by exact hk) ma mb lA W ua ub la lb eq (λj r hj e3=>fwd j r (by lia) e3) (by lia) Ii
theorem yF {st:SortSt} (hC:iC prog w A s κ rk L) (hk:kindOf st=κ) (ma:∀ (i:Nat) (p:Keyed),a[i]?=some p->p∈L) (mb:∀ (i:Nat) (p:Keyed),b[i]?=some p->p∈L)
 (lA:∀ {out:Array Keyed} {ia ib:Nat},WL rk a b out ia ib->ia+1=a.size->Res rk a b (Ef a b out ia ib)) (ua:Up rk a) (ub:Up rk b) (hL:mR rk a b c.2.1 c.2.2.1 c.2.2.2.1) (hn:n<=c.2.2.1+c.2.2.2.1+1)
 (hQ:∀ o ia ib out z y,Ft rk a b n o ia ib out->Q (.done (o,out,ia,ib,z)) st/\(o=none->Q (.yield (none,out,ia,ib,y)) st)):wpS (model prog w) A E s (BU a b mg c) Q st:=by
 obtain ⟨_,out,ia,ib,ac,bc⟩:=c
 unfold BU
 dsimp only at hL hn |-
 have W:=hL.w
 have la:=hL.la
 have lb:=hL.lb
 obtain ⟨q,eq⟩:=some_at (xs:=b) lb
 obtain ⟨p,ep⟩:=some_at (xs:=a) (Nat.lt_of_succ_lt la)
 refine Ru (aS eq (Ru (aS ep (Ru (lu hC hk (mb _ _ eq) (ma _ _ ep) ?_)))))
 dsimp only
 by_cases hw:rk q<rk p
 ·rw [decide_eq_true hw,if_pos rfl]
  have W1:=W.f6 ub eq λj r hj e=>R6 (TL hw) (ua ia j p r hj ep e)
  refine Ru (aS eq ?_)
  by_cases e3:ib+1=b.size
  ·rw [if_pos (by simpa using e3)]
   exact Rw (hQ _ _ _ _ _ (0,0) (.inl ⟨_,rfl,W1.jq ua e3⟩)).1
  rw [if_neg (by simpa using e3)]
  have z:=hQ none ia (ib+1) (out.push q) (0,bc+1) (0,bc+1) (.inr ⟨rfl,⟨W1,la,by lia⟩,by lia⟩)
  split
  ·exact Rw z.1
  ·exact Rw (z.2 rfl)
 ·rw [decide_eq_false hw,if_neg RG]
  have W1:=W.f7 ua ep λj r hj e=>R6 (Int.not_lt.mp hw) (ub ib j q r hj eq e)
  refine Ru (aS ep ?_)
  by_cases e3:ia+1+1=a.size
  ·rw [if_pos (by simpa using e3)]
   exact Rw (hQ _ _ _ _ _ (0,0) (.inl ⟨_,rfl,lA W1 e3⟩)).1
  rw [if_neg (by simpa using e3)]
  have z:=hQ none (ia+1) ib (out.push p) (ac+1,0) (ac+1,0) (.inr ⟨rfl,⟨W1,by lia,lb⟩,by lia⟩)
  split
  ·exact Rw z.1
  ·exact Rw (z.2 rfl)
theorem uD {st:SortSt} (hC:iC prog w A s κ rk L) (hk:kindOf st=κ) (ma:∀ (i:Nat) (p:Keyed),a[i]?=some p->p∈L) (mb:∀ (i:Nat) (p:Keyed),b[i]?=some p->p∈L)
 (lA:∀ {out:Array Keyed} {ia ib:Nat},WL rk a b out ia ib->ia+1=a.size->Res rk a b (Ef a b out ia ib)) (ua:Up rk a) (ub:Up rk b) (hL:mR rk a b c.2.1 c.2.2.1 c.2.2.2.1) (hn:n<=c.2.2.1+c.2.2.2.1+1)
 (h1:∀ r z st',cY st st'->Res rk a b r->Q (.done (some r,z)) st') (h2:∀ ia ib out g st',cY st st'->mR rk a b out ia ib->n<=ia+ib->Q (.yield (none,out,ia,ib,g)) st'):wpS (model prog w) A E s (pG a b c) Q st:=by
 unfold pG
 refine Ru (R9 (SI (I:=λy c st'=>st'=st/\c.1=none/\mR rk a b c.2.1 c.2.2.1 c.2.2.2.1/\n+y<=c.2.2.1+c.2.2.2.1+1) (Q:=λc st'=>st'=st/\Ft rk a b n c.1 c.2.2.1 c.2.2.2.1 c.2.1) ?step ?fin ⟨rfl,rfl,hL,hn⟩) ?post)
 case fin =>
  rintro c st' ⟨rfl,hc,hL',hx⟩
  exact ⟨rfl,.inr ⟨hc,hL',by have:=hL'.la; have:=hL'.lb; lia⟩⟩
 case step =>
  rintro y c st' _ hy ⟨rfl,_,hL',hx⟩
  refine yF (n:=n+y) hC hk ma mb lA ua ub hL' hx λo ia ib out z y hR=>⟨?_,?_⟩
  ·refine ⟨rfl,?_⟩
   rcases hR with hR | ⟨q1,q2,q3⟩
   ·exact .inl hR
   ·exact .inr ⟨q1,q2,Rz (T8 _ _) q3⟩
  ·rintro rfl
   rcases hR with ⟨_,q,_⟩ | ⟨q1,q2,q3⟩
   ·cases q
   ·exact ⟨rfl,rfl,q2,VB q3⟩
 case post =>
  rintro ⟨o,out,ia,ib,ac,bc⟩ st' ⟨rfl,hR⟩
  dsimp only at hR |-
  rcases hR with ⟨r,rfl,hr⟩ | ⟨rfl,hL2,hn2⟩
  ·exact Rw (h1 r _ _ (.refl _) hr)
  refine Ru (Ux (SM ⟨rfl,?_⟩))
  refine Ru (R9 (SI (I:=λy c st''=>cY st' st''/\c.1=none/\mR rk a b c.2.1 c.2.2.1 c.2.2.2.1/\n<=c.2.2.1+c.2.2.2.1) (Q:=λc st''=>cY st' st''/\Ft rk a b n c.1 c.2.2.1 c.2.2.2.1 c.2.1) ?gstep ?gfin ⟨.refl _,rfl,hL2,hn2⟩) ?gpost)
  case gfin=>exact λc st'' ⟨q1,q2,q3,q4⟩=>⟨q1,.inr ⟨q2,q3,q4⟩⟩
  case gstep =>
   rintro y c st'' _ _ ⟨q1,q2,q3,q4⟩
   have key:wpS (model prog w) A E s (BS a b c) (λx st3=>cY st'' st3/\Fv rk a b n x) st'':=by
    unfold BS
    split
    ·exact nO hC (q1.k.trans hk) ma mb lA ua ub q3 q4 λx st3 k h=>⟨k,h⟩
    ·exact nO hC (q1.k.trans hk) ma mb lA ua ub q3 q4 λx st3 k h=>⟨k,h⟩
   refine R9 key λx st3 ⟨k,h⟩=>?_
   cases x with
   | done c=>exact ⟨q1.trans k,h⟩
   | yield c=>exact ⟨q1.trans k,h⟩
  case gpost =>
   rintro ⟨o,out,ia,ib,g,ac,bc⟩ st'' ⟨q1,hR⟩
   dsimp only at hR |-
   rcases hR with ⟨r,rfl,hr⟩ | ⟨rfl,hL3,hn3⟩
   ·exact Rw (h1 r _ _ q1 hr)
   ·exact Ru (fN (Rw (h2 _ _ _ _ _ (q1.min _) hL3 hn3)))
theorem rF {st:SortSt} (hC:iC prog w A s κ rk L) (hk:kindOf st=κ) (ma:∀ (i:Nat) (p:Keyed),a[i]?=some p->p∈L) (mb:∀ (i:Nat) (p:Keyed),b[i]?=some p->p∈L) (ua:Up rk a) (ub:Up rk b) (na:1<=a.size) (nb:1<=b.size)
 (h0:∀ p q,a[0]?=some p->b[0]?=some q->rk q<=rk p) (hl:∀ (j:Nat) (p q:Keyed),a[a.size - 1]?=some p->b[j]?=some q->rk q<=rk p) (h:∀ r st',Res rk a b r->cY st st'->Q r st'):wpS (model prog w) A E s (lz a b) Q st:=by
 have lastA:∀ {out:Array Keyed} {ia ib:Nat},WL rk a b out ia ib->ia+1=a.size->Res rk a b (Ef a b out ia ib):=λhw e=>hw.last ub e λj p q e1 e2=>hl j p q (by rw [<- e]; exact e1) e2
 obtain ⟨q0,eq0⟩:=some_at (xs:=b) (i:=0) nb
 obtain ⟨p0,ep0⟩:=some_at (xs:=a) (i:=0) na
 have W0:WL rk a b #[q0] 0 1:=by
  have z:WL rk a b #[] 0 0:=⟨RY _,RY _,by simp,VA,by simp,by simp⟩
  exact z.f6 ub eq0 λj q _ e=>R6 (h0 p0 q0 ep0 eq0) (ua 0 j p0 q (RY _) ep0 e)
 rw [rE]
 refine Ru (Ux (SM ⟨rfl,?_⟩))
 refine Ru (aS eq0 ?_)
 by_cases e1:1=b.size
 ·rw [if_pos (by simpa using e1)]
  exact Rw (h _ _ (W0.jq ua e1) (.refl _))
 rw [if_neg (by simpa using e1)]
 by_cases e2:0+1=a.size
 ·rw [if_pos (by simpa using e2)]
  exact Rw (h _ _ (lastA W0 e2) (.refl _))
 rw [if_neg (by simpa using e2)]
 refine Ru (Tr ?_)
 refine Ru (R9 (SI (I:=λx c st'=>cY st st'/\c.1=none/\mR rk a b c.2.1 c.2.2.1 c.2.2.2.1/\x+1<=c.2.2.1+c.2.2.2.1) (Q:=λc st'=>cY st st'/\∃ r,c.1=some r/\Res rk a b r) ?step ?fin ⟨.refl _,rfl,⟨W0,by dsimp only; lia,by dsimp only; lia⟩,by dsimp only; lia⟩) ?post)
 case fin =>
  rintro c st' ⟨hK,hc,hL,hx⟩
  have h1:=hL.la
  have h2:=hL.lb
  lia
 case post =>
  rintro c st' ⟨hK,r,hc,hr⟩
  rw [hc]
  exact Rw (h r st' hr hK)
 case step =>
  rintro x c st1 _ hx ⟨hK,_,hL,hn⟩
  exact uD (n:=x+2) hC (hK.k.trans hk) ma mb lastA ua ub hL (VB hn) (λr z st' k hr=>⟨hK.trans k,r,rfl,hr⟩) λia ib out g st' k q1 q2=>⟨hK.trans k,rfl,q1,q2⟩
noncomputable def lD:Array Keyed->Array Keyed->StateT SortSt Sem (Array Keyed):=sortPriv% PySem.Builtin.mergeHi
local macro_rules | `(tactic| walk_at "dl mergeHi")=>do
 let i:=UO (UC `PySem.Builtin.List.W1All `PySem.Builtin.mergeHi)
 `(tactic| delta $i)
section
variable {rk:Keyed->Int} {a b:Array Keyed}
structure WH (rk:Keyed->Int) (a b:Array Keyed) (out:Array Keyed) (na nb:Nat):Prop where
 pa:na<=a.size
 pb:nb<=b.size
 pm:out.toList.Perm (a.toList.drop na++b.toList.drop nb)
 sr:BQ rk out.toList.reverse
 ha:∀ p∈out.toList,∀ (j:Nat) (q:Keyed),j<na->a[j]?=some q->rk q<=rk p
 hb:∀ p∈out.toList,∀ (j:Nat) (q:Keyed),j<nb->b[j]?=some q->rk q<=rk p
theorem dJ (xs:Array Keyed) (i):(xs.extract 0 i).toList=xs.toList.take i:=by rw [eB,List.drop_zero]
theorem iQ {xs:Array Keyed} (h:q∈xs.toList.take i):∃ j,j<i/\xs[j]?=some q:=by
 obtain ⟨n,hn⟩:=U7 h
 have hl:=(RJ.mp hn).1
 rw [Sq] at hl
 rw [V0 (by lia)] at hn
 exact ⟨n,by lia,by rw [<- Sm]; exact hn⟩
theorem WH.res (h:WH rk a b out na nb) (x) (hx:x.toList.Perm (a.toList.take na++b.toList.take nb)) (hs:BQ rk x.toList):Res rk a b (x++out.reverse):=by
 have e0:(x++out.reverse).toList=x.toList++out.toList.reverse:=by simp
 refine ⟨?_,?_⟩
 ·rw [e0]
  refine (hx.append ((XG _).trans h.pm)).trans ?_
  have:(a.toList.take na++b.toList.take nb++(a.toList.drop na++b.toList.drop nb)).Perm (a.toList.take na++a.toList.drop na++(b.toList.take nb++b.toList.drop nb)):=by
   rw [R4,R4]
   refine U5 _ ?_
   rw [<- R4,<- R4]
   exact List.Perm.append_right _ UE
  rw [T4,T4] at this
  exact this
 ·rw [e0]
  refine bM hs h.sr λp hp q hq=>?_
  have hq':q∈out.toList:=by simpa using hq
  rcases R5.mp (hx.mem_iff.mp hp) with z | z
  ·obtain ⟨j,h1,e⟩:=iQ z
   exact h.ha q hq' j p h1 e
  ·obtain ⟨j,h1,e⟩:=iQ z
   exact h.hb q hq' j p h1 e
theorem WH.jr (h:WH rk a b out na nb) (ub:Up rk b) (e:na=0):Res rk a b (a.extract 0 na++b.extract 0 nb++out.reverse):=by
 subst e
 refine h.res _ ?_ ?_
 ·simp [dJ]
 ·have:(a.extract 0 0++b.extract 0 nb).toList=b.toList.take nb:=by rw [SW,dJ,dJ]; simp
  rw [this]; exact (jo ub).sublist (Wb _ _)
theorem WH.jq (h:WH rk a b out na nb) (ua:Up rk a) (e:nb=0):Res rk a b (a.extract 0 na++b.extract 0 nb++out.reverse):=by
 subst e
 refine h.res _ ?_ ?_
 ·simp [dJ]
 ·have:(a.extract 0 na++b.extract 0 0).toList=a.toList.take na:=by rw [SW,dJ,dJ]; simp
  rw [this]; exact (jo ua).sublist (Wb _ _)
theorem WH.first (h:WH rk a b out na nb) (ua:Up rk a) (e:nb=1) (hf:∀ (j:Nat) (p q:Keyed),a[j]?=some p->b[0]?=some q->rk q<=rk p) :
 Res rk a b (b.extract 0 nb++a.extract 0 na++out.reverse):=by
 subst e
 have e1:(b.extract 0 1++a.extract 0 na).toList=b.toList.take 1++a.toList.take na:=by rw [SW,dJ,dJ]
 refine h.res _ ?_ ?_
 ·rw [e1]; exact UE
 ·rw [e1]
  refine bM ?_ ((jo ua).sublist (Wb _ _)) λp hp q hq=>?_
  ·exact wF (by simp; lia)
  ·obtain ⟨j,h1,e2⟩:=iQ hp
   obtain ⟨j2,h2,e3⟩:=iQ hq
   have:j=0:=by lia
   subst this
   exact hf j2 q p e3 e2
theorem nP {xs:Array Keyed} (hi:1<=i) (h:xs[i - 1]?=some p):xs.toList.drop (i - 1)=p::xs.toList.drop i:=by
 rw [<- Sm] at h
 obtain ⟨h1,h2⟩:=RJ.mp h
 rw [List.drop_eq_getElem_cons h1,h2,show i - 1+1=i by lia]
theorem WH.f7 {out:Array Keyed} {na nb:Nat} {p:Keyed} (h:WH rk a b out na nb) (ua:Up rk a) (hn:1<=na) (e:a[na - 1]?=some p) (hl:∀ (j:Nat) (q:Keyed),j<nb->b[j]?=some q->rk q<=rk p):WH rk a b (out.push p) (na - 1) nb where
 pa:=by have:=h.pa; lia
 pb:=h.pb
 pm:=by
  rw [Sa,nP hn e]
  refine (h.pm.append_right _).trans ?_
  rw [Uk]
  exact UE
 sr:=by
  rw [Sa,Xk]
  exact bM (U4 _ _) h.sr λr hr q hq=>by
   have hr':r=p:=by simpa using hr
   rw [hr']
   exact h.ha q (by simpa using hq) (na - 1) p (by lia) e
 ha:=λq hq j r hj er=>by
  rw [Sa] at hq
  rcases R5.mp hq with z | z
  ·exact h.ha q z j r (by lia) er
  ·rw [RN.mp z]; exact ua j (na - 1) r p (by lia) er e
 hb:=λq hq j r hj er=>by
  rw [Sa] at hq
  rcases R5.mp hq with z | z
  ·exact h.hb q z j r hj er
  ·rw [RN.mp z]; exact hl j r hj er
theorem WH.f6 {out:Array Keyed} {na nb:Nat} {p:Keyed} (h:WH rk a b out na nb) (ub:Up rk b) (hn:1<=nb) (e:b[nb - 1]?=some p) (hl:∀ (j:Nat) (q:Keyed),j<na->a[j]?=some q->rk q<=rk p):WH rk a b (out.push p) na (nb - 1) where
 pa:=h.pa
 pb:=by have:=h.pb; lia
 pm:=by
  rw [Sa,nP hn e]
  refine (h.pm.append_right _).trans ?_
  rw [R4]
  exact U5 _ UE
 sr:=by
  rw [Sa,Xk]
  exact bM (U4 _ _) h.sr λr hr q hq=>by
   have hr':r=p:=by simpa using hr
   rw [hr']
   exact h.hb q (by simpa using hq) (nb - 1) p (by lia) e
 hb:=λq hq j r hj er=>by
  rw [Sa] at hq
  rcases R5.mp hq with z | z
  ·exact h.hb q z j r (by lia) er
  ·rw [RN.mp z]; exact ub j (nb - 1) r p (by lia) er e
 ha:=λq hq j r hj er=>by
  rw [Sa] at hq
  rcases R5.mp hq with z | z
  ·exact h.ha q z j r hj er
  ·rw [RN.mp z]; exact hl j r hj er
theorem wK {xs:Array Keyed} (h:m<n) (e:xs[m]?=some p):(xs.extract m n).reverse=(xs.extract (m+1) n).reverse.push p:=by
 apply Uw
 rw [Sa,U8,U8,eB,eB]
 rw [<- Sm] at e
 obtain ⟨h1,h2⟩:=RJ.mp e
 have h3:m<(xs.toList.take n).length:=by rw [Sq]; lia
 rw [List.drop_eq_getElem_cons h3,List.reverse_cons,List.getElem_take,h2]
theorem rG (xs ys:Array Keyed) (p):xs++ys.push p=(xs++ys).push p:=by
 apply Uw; simp
theorem WH.rA (h:WH rk a b out na nb) (ua:Up rk a):∀ (k m:Nat),m+k=na->(∀ (i j:Nat) (p q:Keyed),m<=i->i<na->j<nb->a[i]?=some p->b[j]?=some q->rk q<=rk p)->WH rk a b (out++(a.extract m na).reverse) m nb
 | 0,m,hm,_=>by
  have e:m=na:=by lia
  subst e
  have:out++(a.extract m m).reverse=out:=by
   apply Uw
   rw [SW,U8,iP,List.reverse_nil,SJ]
  rw [this]; exact h
 | k+1,m,hm,hl=>by
  have hp:=h.pa
  have ih:=h.rA ua k (m+1) (by lia) λi j p q h1 h2=>hl i j p q (by lia) h2
  have e:a[m+1 - 1]?=some (a[m]'(by lia)):=RZ (show m<a.size by lia)
  have z:=ih.f7 ua (by lia) e λj q hj eq=>hl m j _ q (Rv _) (by lia) hj (RZ (show m<a.size by lia)) eq
  rw [wK (show m<na by lia) (RZ (show m<a.size by lia)),rG]
  exact z
theorem WH.rB (h:WH rk a b out na nb) (ub:Up rk b):∀ (k m:Nat),m+k=nb->(∀ (i j:Nat) (p q:Keyed),m<=i->i<nb->j<na->b[i]?=some p->a[j]?=some q->rk q<=rk p)->WH rk a b (out++(b.extract m nb).reverse) na m
 | 0,m,hm,_=>by
  have e:m=nb:=by lia
  subst e
  have:out++(b.extract m m).reverse=out:=by
   apply Uw
   rw [SW,U8,iP,List.reverse_nil,SJ]
  rw [this]; exact h
 | k+1,m,hm,hl=>by
  have hp:=h.pb
  have ih:=h.rB ub k (m+1) (by lia) λi j p q h1 h2=>hl i j p q (by lia) h2
  have e:b[m+1 - 1]?=some (b[m]'(by lia)):=RZ (show m<b.size by lia)
  have z:=ih.f6 ub (by lia) e λj q hj eq=>hl m j _ q (Rv _) (by lia) hj (RZ (show m<b.size by lia)) eq
  rw [wK (show m<nb by lia) (RZ (show m<b.size by lia)),rG]
  exact z
structure gR (rk:Keyed->Int) (a b out:Array Keyed) (na nb:Nat):Prop where
 w:WH rk a b out na nb
 la:1<=na
 lb:2<=nb
end
noncomputable abbrev BV:=Option (Array Keyed)×Nat×Nat×Array Keyed×Nat×Nat×Nat
noncomputable def Hx (a b out:Array Keyed) (na nb:Nat):Array Keyed:=a.extract 0 na++b.extract 0 nb++out.reverse
noncomputable def Fx (a b out:Array Keyed) (na nb:Nat):Array Keyed:=b.extract 0 nb++a.extract 0 na++out.reverse
noncomputable def wL (a b:Array Keyed) (mg ac bc na nb:Nat) (out:Array Keyed):StateT SortSt Sem (ForInStep BV):=do
 let p <- elem' a (na - 1)
 if (na - 1 == 0)=true then pure (.done (some (Hx a b (out.push p) (na - 1) nb),na - 1,nb,out.push p,mg,ac,bc))
 else if (decide (ac<7) && decide (bc<7))=true then pure (.done (none,na - 1,nb,out.push p,mg,ac,bc))
 else pure (.yield (none,na - 1,nb,out.push p,mg,ac,bc))
noncomputable def wM (a b:Array Keyed) (mg ac bc na nb:Nat) (out:Array Keyed):StateT SortSt Sem (ForInStep BV):=do
 let q <- elem' b (nb - 1)
 if (nb - 1 == 1)=true then pure (.done (some (Fx a b (out.push q) na (nb - 1)),na,nb - 1,out.push q,mg,ac,bc))
 else do
  let p <- elem' a (na - 1)
  let x <- cW true p b 0 (nb - 1) (nb - 1 - 1)
  match x with
  | some k=>(if nb - 1 - k>0 then
   (if (k == 1)=true then pure (.done (some (Fx a b (out.push q++(b.extract k (nb - 1)).reverse) na k),na,k,out.push q++(b.extract k (nb - 1)).reverse,mg,ac,nb - 1 - k))
    else if (k == 0)=true then pure (.done (some (Hx a b (out.push q++(b.extract k (nb - 1)).reverse) na k),na,k,out.push q++(b.extract k (nb - 1)).reverse,mg,ac,nb - 1 - k))
    else wL a b mg ac (nb - 1 - k) na k (out.push q++(b.extract k (nb - 1)).reverse))
   else wL a b mg ac (nb - 1 - k) na (nb - 1) (out.push q))
  | _=>pure (.done (some (Hx a b (out.push q) na (nb - 1)),na,nb - 1,out.push q,mg,ac,bc))
noncomputable def wN (a b:Array Keyed) (mg ac bc na nb:Nat) (out:Array Keyed):StateT SortSt Sem (ForInStep BV):=do
 cH mg
 let q <- elem' b (nb - 1)
 let x <- cW false q a 0 na (na - 1)
 match x with
 | some k=>(if na - k>0 then
  (if (k == 0)=true then pure (.done (some (Hx a b (out++(a.extract k na).reverse) k nb),k,nb,out++(a.extract k na).reverse,mg,na - k,bc))
   else wM a b mg (na - k) bc k nb (out++(a.extract k na).reverse))
  else wM a b mg (na - k) bc na nb out)
 | _=>pure (.done (some (Hx a b out na nb),na,nb,out,mg,ac,bc))
noncomputable def BW (a b:Array Keyed) (c:BV):StateT SortSt Sem (ForInStep BV) :=
 if c.2.2.2.2.1>1 then wN a b (c.2.2.2.2.1 - 1) c.2.2.2.2.2.1 c.2.2.2.2.2.2 c.2.1 c.2.2.1 c.2.2.2.1 else wN a b c.2.2.2.2.1 c.2.2.2.2.2.1 c.2.2.2.2.2.2 c.2.1 c.2.2.1 c.2.2.2.1
noncomputable abbrev JX:=Option (Array Keyed)×Nat×Nat×Array Keyed×Nat×Nat
noncomputable def BX (a b:Array Keyed) (mg:Nat) (c:JX):StateT SortSt Sem (ForInStep JX):=do
 let q <- elem' b (c.2.2.1 - 1)
 let p <- elem' a (c.2.1 - 1)
 let x <- lt' q p
 match x with
 | some y=>(if y=true then (do
  let p <- elem' a (c.2.1 - 1)
  if (c.2.1 - 1 == 0)=true then pure (.done (some (Hx a b (c.2.2.2.1.push p) (c.2.1 - 1) c.2.2.1),c.2.1 - 1,c.2.2.1,c.2.2.2.1.push p,c.2.2.2.2.1+1,0))
  else if c.2.2.2.2.1+1>=mg then pure (.done (none,c.2.1 - 1,c.2.2.1,c.2.2.2.1.push p,c.2.2.2.2.1+1,0))
  else pure (.yield (none,c.2.1 - 1,c.2.2.1,c.2.2.2.1.push p,c.2.2.2.2.1+1,0)))
  else (do
   let q <- elem' b (c.2.2.1 - 1)
   if (c.2.2.1 - 1 == 1)=true then pure (.done (some (Fx a b (c.2.2.2.1.push q) c.2.1 (c.2.2.1 - 1)),c.2.1,c.2.2.1 - 1,c.2.2.2.1.push q,0,c.2.2.2.2.2+1))
   else if c.2.2.2.2.2+1>=mg then pure (.done (none,c.2.1,c.2.2.1 - 1,c.2.2.2.1.push q,0,c.2.2.2.2.2+1))
   else pure (.yield (none,c.2.1,c.2.2.1 - 1,c.2.2.2.1.push q,0,c.2.2.2.2.2+1))))
 | _=>pure (.done (some (Hx a b c.2.2.2.1 c.2.1 c.2.2.1),c.2.1,c.2.2.1,c.2.2.2.1,c.2.2.2.2.1,c.2.2.2.2.2))
noncomputable abbrev Eg:=Option (Array Keyed)×Nat×Nat×Array Keyed×Nat
noncomputable def ju (a b:Array Keyed) (c:Eg):StateT SortSt Sem (ForInStep Eg):=do
 let s <- forIn [:a.size+b.size] ((none,c.2.1,c.2.2.1,c.2.2.2.1,0,0):JX) λ_ s=>BX a b c.2.2.2.2 s
 match s.1 with
 | some r=>pure (.done (some r,s.2.1,s.2.2.1,s.2.2.2.1,c.2.2.2.2))
 | none=>do
  liftM (rule "list.sort.gallop")
  let t <- forIn [:a.size+b.size] ((none,s.2.1,s.2.2.1,s.2.2.2.1,c.2.2.2.2+1,s.2.2.2.2.1,s.2.2.2.2.2):BV) λ_ t=>BW a b t
  match t.1 with
  | some r=>pure (.done (some r,t.2.1,t.2.2.1,t.2.2.2.1,t.2.2.2.2.1))
  | none=>do
   cH (t.2.2.2.2.1+1)
   pure (.yield (none,t.2.1,t.2.2.1,t.2.2.2.1,t.2.2.2.2.1+1))
theorem rH (a b):lD a b=(do
 liftM (rule "list.sort.merge-hi")
 let p <- elem' a (a.size - 1)
 if (a.size - 1 == 0)=true then pure (Hx a b #[p] (a.size - 1) b.size)
 else if (b.size == 1)=true then pure (Fx a b #[p] (a.size - 1) b.size)
 else do
  let st <- get
  let s <- forIn [:a.size+b.size] ((none,a.size - 1,b.size,#[p],gallopOf st):Eg) λ_ c=>ju a b c
  match s.1 with
  | some r=>pure r
  | none=>liftM (unsupported (α:=Array Keyed) "internal:list.sort.merge-bound")):=by
 unfold lD
 walk_at "dl mergeHi"
 dsimp only
 refine congrArg _ (funext λ_=>?_)
 refine congrArg _ (funext λp=>?_)
 refine congrArg _ (congrArg _ ?_)
 refine congrArg _ (funext λst=>?_)
 have h1:∀ (c:Eg),ju a b c=ju a b c:=λ_=>rfl
 have e:∀ (f g:Nat->Eg->StateT SortSt Sem (ForInStep Eg)) (c:Eg) (k:Eg->StateT SortSt Sem (Array Keyed)),f=g->(forIn [:a.size+b.size] c f >>= k)=(forIn [:a.size+b.size] c g >>= k):=λ_ _ _ _ h=>by rw [h]
 refine (e _ _ _ _ (funext λ_=>funext λc=>?_)).trans (congrArg _ (funext λs=>?_))
 ·obtain ⟨o,na,nb,out,mg⟩:=c
  unfold ju
  dsimp only
  have e2:∀ (f g:Nat->JX->StateT SortSt Sem (ForInStep JX)) (c:JX) (k l:JX->StateT SortSt Sem (ForInStep Eg)),f=g->k=l->(forIn [:a.size+b.size] c f >>= k)=(forIn [:a.size+b.size] c g >>= l):=λ_ _ _ _ _ h h2=>by rw [h,h2]
  refine e2 _ _ _ _ _ (funext λ_=>funext λc=>?_) (funext λs=>?_)
  ·rfl
  ·obtain ⟨o,na,nb,out,ac,bc⟩:=s
   cases o with
   | some r=>rfl
   | none =>
    dsimp only
    refine congrArg _ (funext λ_=>?_)
    have e3:∀ (f g:Nat->BV->StateT SortSt Sem (ForInStep BV)) (c:BV) (k l:BV->StateT SortSt Sem (ForInStep Eg)),f=g->k=l->(forIn [:a.size+b.size] c f >>= k)=(forIn [:a.size+b.size] c g >>= l):=λ_ _ _ _ _ h h2=>by rw [h,h2]
    refine e3 _ _ _ _ _ (funext λ_=>funext λc=>?_) (funext λs=>?_)
    ·rfl
    ·obtain ⟨o,s⟩:=s
     cases o <;> rfl
 ·obtain ⟨o,s⟩:=s
  cases o <;> rfl
def Fy (rk:Keyed->Int) (a b:Array Keyed) (n:Nat) (o:Option (Array Keyed)) (na nb:Nat) (out:Array Keyed):Prop:=(∃ r,o=some r/\Res rk a b r)\/(o=none/\gR rk a b out na nb/\na+nb<=n)
noncomputable def Fz (rk:Keyed->Int) (a b:Array Keyed) (n:Nat):ForInStep BV->Prop
 | .done c=>Fy rk a b n c.1 c.2.1 c.2.2.1 c.2.2.2.1
 | .yield c=>c.1=none/\gR rk a b c.2.2.2.1 c.2.1 c.2.2.1/\c.2.1+c.2.2.1<=n
theorem nQ {st:SortSt} (W:WH rk a b out na nb) (ua:Up rk a) (ub:Up rk b) (la:1<=na) (lb:2<=nb) (ep:a[na - 1]?=some p)
 (hl:∀ (j:Nat) (r:Keyed),j<nb->b[j]?=some r->rk r<=rk p) (hn:na - 1+nb<=n) (hQ:∀ x,Fz rk a b n x->Q x st):wpS (model prog w) A E s (wL a b mg ac bc na nb out) Q st:=by
 unfold wL
 have W4:=W.f7 ua la ep hl
 refine Ru (aS ep ?_)
 by_cases e9:na - 1=0
 ·rw [if_pos (by simpa using e9)]
  exact Rw (hQ _ (.inl ⟨_,rfl,W4.jr ub e9⟩))
 rw [if_neg (by simpa using e9)]
 have hL:gR rk a b (out.push p) (na - 1) nb:=⟨W4,W8.mpr e9,lb⟩
 split
 ·exact Rw (hQ _ (.inr ⟨rfl,hL,hn⟩))
 ·exact Rw (hQ _ ⟨rfl,hL,hn⟩)
theorem nR {st:SortSt} (hC:iC prog w A s κ rk L) (hk:kindOf st=κ) (ma:∀ (i:Nat) (p:Keyed),a[i]?=some p->p∈L) (mb:∀ (i:Nat) (p:Keyed),b[i]?=some p->p∈L)
 (fB:∀ {out:Array Keyed} {na nb:Nat},WH rk a b out na nb->nb=1->Res rk a b (Fx a b out na nb)) (W:WH rk a b out na nb) (ua:Up rk a) (ub:Up rk b) (la:1<=na) (lb:2<=nb) (eq:b[nb - 1]?=some q)
 (hl:∀ (j:Nat) (r:Keyed),j<na->a[j]?=some r->rk r<=rk q) (hn:na+nb<=n+2) (hQ:∀ x,Fz rk a b n x->Q x st):wpS (model prog w) A E s (wM a b mg ac bc na nb out) Q st:=by
 unfold wM
 have W2:=W.f6 ub (Nat.le_of_succ_le lb) eq hl
 have hpa:=W.pa
 have hpb:=W.pb
 refine Ru (aS eq ?_)
 by_cases e5:nb - 1=1
 ·rw [if_pos (by simpa using e5)]
  exact Rw (hQ _ (.inl ⟨_,rfl,fB W2 e5⟩))
 rw [if_neg (by simpa using e5)]
 have lb1:2<=nb - 1:=by lia
 obtain ⟨p,ep⟩:=some_at (xs:=a) (i:=na - 1) (by lia)
 refine Ru (aS ep ?_)
 refine Ru (rD hC hk (ma _ _ ep) mb ub _ (by lia) (by lia) λk hj1 hj2 hj3=>?_)
 dsimp only
 have dn2:∀ (i:Nat) (r:Keyed),i<k->b[i]?=some r->rk r<rk p:=λi r z1 e6=>hj2 i r z1 (by rw [Uc]; exact e6)
 by_cases hj0:nb - 1 - k>0
 ·rw [if_pos hj0]
  have W3:=W2.rB ub (nb - 1 - k) k (Xj hj1) λi j r p' z1 z2 z3 e6 e7=>R6 (ua j (na - 1) p' p (V7 z3) e7 ep) (hj3 i r z1 (Nat.add_lt_add_left z2 0) (by rw [Uc]; exact e6))
  by_cases e8:k=1
  ·rw [if_pos (by simpa using e8)]
   exact Rw (hQ _ (.inl ⟨_,rfl,fB W3 e8⟩))
  rw [if_neg (by simpa using e8)]
  by_cases e10:k=0
  ·rw [if_pos (by simpa using e10)]
   exact Rw (hQ _ (.inl ⟨_,rfl,W3.jq ua e10⟩))
  rw [if_neg (by simpa using e10)]
  exact nQ W3 ua ub la (by lia) ep (λj r hj e6=>TL (dn2 j r hj e6)) (by lia) hQ
 ·rw [if_neg hj0]
  exact nQ W2 ua ub la lb1 ep (λj r hj e6=>TL (dn2 j r (by lia) e6)) (by lia) hQ
theorem nS {st:SortSt} (hC:iC prog w A s κ rk L) (hk:kindOf st=κ) (ma:∀ (i:Nat) (p:Keyed),a[i]?=some p->p∈L) (mb:∀ (i:Nat) (p:Keyed),b[i]?=some p->p∈L)
 (fB:∀ {out:Array Keyed} {na nb:Nat},WH rk a b out na nb->nb=1->Res rk a b (Fx a b out na nb)) (ua:Up rk a) (ub:Up rk b) (hL:gR rk a b out na nb) (hn:na+nb<=n) (hQ:∀ x st',cY st st'->Fz rk a b n x->Q x st') :
 wpS (model prog w) A E s (wN a b mg ac bc na nb out) Q st:=by
 unfold wN
 have W:=hL.w
 have la:=hL.la
 have lb:=hL.lb
 have hpa:=W.pa
 have hpb:=W.pb
 obtain ⟨q,eq⟩:=some_at (xs:=b) (i:=nb - 1) (by lia)
 refine Ru (fN ?_)
 have Ii:=λx=>hQ x _ ((cY.refl st).min mg)
 refine Ru (aS eq ?_)
 refine Ru (rC hC (by exact hk) (mb _ _ eq) ma ua _ (by lia) (by lia) λk hk1 hk2 hk3=>?_)
 dsimp only
 have dn1:∀ (i:Nat) (p:Keyed),i<k->a[i]?=some p->rk p<=rk q:=λi p z1 e3=>hk2 i p z1 (by rw [Uc]; exact e3)
 by_cases hk0:na - k>0
 ·rw [if_pos hk0]
  have Wk:=W.rA ua (na - k) k (Xj hk1) λi j p r z1 z2 z3 e3 e4=>R6 (ub j (nb - 1) r q (V7 z3) e4 eq) (TL (hk3 i p z1 (Nat.add_lt_add_left z2 0) (by rw [Uc]; exact e3)))
  by_cases e4:k=0
  ·rw [if_pos (by simpa using e4)]
   exact Rw (Ii _ (.inl ⟨_,rfl,Wk.jr ub e4⟩))
  rw [if_neg (by simpa using e4)]
  exact nR hC (by exact hk) ma mb fB Wk ua ub (W8.mpr e4) lb eq dn1 (by lia) Ii
 ·rw [if_neg hk0]
  exact nR hC (by exact hk) ma mb fB W ua ub la lb eq (λj r hj e3=>dn1 j r (by lia) e3) (by lia) Ii
theorem yG {st:SortSt} (hC:iC prog w A s κ rk L) (hk:kindOf st=κ) (ma:∀ (i:Nat) (p:Keyed),a[i]?=some p->p∈L) (mb:∀ (i:Nat) (p:Keyed),b[i]?=some p->p∈L)
 (fB:∀ {out:Array Keyed} {na nb:Nat},WH rk a b out na nb->nb=1->Res rk a b (Fx a b out na nb)) (ua:Up rk a) (ub:Up rk b) (hL:gR rk a b c.2.2.2.1 c.2.1 c.2.2.1) (hn:c.2.1+c.2.2.1<=n+1)
 (hQ:∀ o na nb out z y,Fy rk a b n o na nb out->Q (.done (o,na,nb,out,z)) st/\(o=none->Q (.yield (none,na,nb,out,y)) st)):wpS (model prog w) A E s (BX a b mg c) Q st:=by
 obtain ⟨_,na,nb,out,ac,bc⟩:=c
 unfold BX
 dsimp only at hL hn |-
 have W:=hL.w
 have la:=hL.la
 have lb:=hL.lb
 have hpa:=W.pa
 have hpb:=W.pb
 obtain ⟨q,eq⟩:=some_at (xs:=b) (i:=nb - 1) (by lia)
 obtain ⟨p,ep⟩:=some_at (xs:=a) (i:=na - 1) (by lia)
 refine Ru (aS eq (Ru (aS ep (Ru (lu hC hk (mb _ _ eq) (ma _ _ ep) ?_)))))
 dsimp only
 by_cases hw:rk q<rk p
 ·rw [decide_eq_true hw,if_pos rfl]
  have W1:=W.f7 ua la ep λj r hj e=>R6 (ub j (nb - 1) r q (V7 hj) e eq) (TL hw)
  refine Ru (aS ep ?_)
  by_cases e3:na - 1=0
  ·rw [if_pos (by simpa using e3)]
   exact Rw (hQ _ _ _ _ _ (0,0) (.inl ⟨_,rfl,W1.jr ub e3⟩)).1
  rw [if_neg (by simpa using e3)]
  have z:=hQ none (na - 1) nb (out.push p) (ac+1,0) (ac+1,0) (.inr ⟨rfl,⟨W1,W8.mpr e3,lb⟩,by lia⟩)
  split
  ·exact Rw z.1
  ·exact Rw (z.2 rfl)
 ·rw [decide_eq_false hw,if_neg RG]
  have W1:=W.f6 ub (Nat.le_of_succ_le lb) eq λj r hj e=>R6 (ua j (na - 1) r p (V7 hj) e ep) (Int.not_lt.mp hw)
  refine Ru (aS eq ?_)
  by_cases e3:nb - 1=1
  ·rw [if_pos (by simpa using e3)]
   exact Rw (hQ _ _ _ _ _ (0,0) (.inl ⟨_,rfl,fB W1 e3⟩)).1
  rw [if_neg (by simpa using e3)]
  have z:=hQ none na (nb - 1) (out.push q) (0,bc+1) (0,bc+1) (.inr ⟨rfl,⟨W1,la,by lia⟩,by lia⟩)
  split
  ·exact Rw z.1
  ·exact Rw (z.2 rfl)
theorem uE {st:SortSt} (hC:iC prog w A s κ rk L) (hk:kindOf st=κ) (ma:∀ (i:Nat) (p:Keyed),a[i]?=some p->p∈L) (mb:∀ (i:Nat) (p:Keyed),b[i]?=some p->p∈L)
 (fB:∀ {out:Array Keyed} {na nb:Nat},WH rk a b out na nb->nb=1->Res rk a b (Fx a b out na nb)) (ua:Up rk a) (ub:Up rk b) (hL:gR rk a b c.2.2.2.1 c.2.1 c.2.2.1) (hn:c.2.1+c.2.2.1<=n+1) (hm:n+1<=a.size+b.size)
 (h1:∀ r z st',cY st st'->Res rk a b r->Q (.done (some r,z)) st') (h2:∀ na nb out g st',cY st st'->gR rk a b out na nb->na+nb<=n->Q (.yield (none,na,nb,out,g)) st'):wpS (model prog w) A E s (ju a b c) Q st:=by
 unfold ju
 refine Ru (R9 (SI (I:=λy c st'=>st'=st/\c.1=none/\gR rk a b c.2.2.2.1 c.2.1 c.2.2.1/\y+c.2.1+c.2.2.1<=n+1) (Q:=λc st'=>st'=st/\Fy rk a b n c.1 c.2.1 c.2.2.1 c.2.2.2.1) ?step ?fin ⟨rfl,rfl,hL,by dsimp only; lia⟩) ?post)
 case fin =>
  rintro c st' ⟨rfl,hc,hL',hx⟩
  exact ⟨rfl,.inr ⟨hc,hL',by lia⟩⟩
 case step =>
  rintro y c st' _ hy ⟨rfl,_,hL',hx⟩
  refine yG (n:=n - y) hC hk ma mb fB ua ub hL' (by have:=hL'.la; have:=hL'.lb; lia) λo na nb out z y hR=>⟨?_,?_⟩
  ·refine ⟨rfl,?_⟩
   rcases hR with hR | ⟨q1,q2,q3⟩
   ·exact .inl hR
   ·exact .inr ⟨q1,q2,by dsimp only; lia⟩
  ·rintro rfl
   rcases hR with ⟨_,q,_⟩ | ⟨q1,q2,q3⟩
   ·cases q
   ·exact ⟨rfl,rfl,q2,by have:=q2.la; have:=q2.lb; dsimp only; lia⟩
 case post =>
  rintro ⟨o,na,nb,out,ac,bc⟩ st' ⟨rfl,hR⟩
  dsimp only at hR |-
  rcases hR with ⟨r,rfl,hr⟩ | ⟨rfl,hL2,hn2⟩
  ·exact Rw (h1 r _ _ (.refl _) hr)
  refine Ru (Ux (SM ⟨rfl,?_⟩))
  refine Ru (R9 (SI (I:=λy c st''=>cY st' st''/\c.1=none/\gR rk a b c.2.2.2.1 c.2.1 c.2.2.1/\c.2.1+c.2.2.1<=n) (Q:=λc st''=>cY st' st''/\Fy rk a b n c.1 c.2.1 c.2.2.1 c.2.2.2.1) ?gstep ?gfin ⟨.refl _,rfl,hL2,hn2⟩) ?gpost)
  case gfin=>exact λc st'' ⟨q1,q2,q3,q4⟩=>⟨q1,.inr ⟨q2,q3,q4⟩⟩
  case gstep =>
   rintro y c st'' _ _ ⟨q1,q2,q3,q4⟩
   have key:wpS (model prog w) A E s (BW a b c) (λx st3=>cY st'' st3/\Fz rk a b n x) st'':=by
    unfold BW
    split
    ·exact nS hC (q1.k.trans hk) ma mb fB ua ub q3 q4 λx st3 k h=>⟨k,h⟩
    ·exact nS hC (q1.k.trans hk) ma mb fB ua ub q3 q4 λx st3 k h=>⟨k,h⟩
   refine R9 key λx st3 ⟨k,h⟩=>?_
   cases x with
   | done c=>exact ⟨q1.trans k,h⟩
   | yield c=>exact ⟨q1.trans k,h⟩
  case gpost =>
   rintro ⟨o,na,nb,out,g,ac,bc⟩ st'' ⟨q1,hR⟩
   dsimp only at hR |-
   rcases hR with ⟨r,rfl,hr⟩ | ⟨rfl,hL3,hn3⟩
   ·exact Rw (h1 r _ _ q1 hr)
   ·exact Ru (fN (Rw (h2 _ _ _ _ _ (q1.min _) hL3 hn3)))
theorem rJ {st:SortSt} (hC:iC prog w A s κ rk L) (hk:kindOf st=κ) (ma:∀ (i:Nat) (p:Keyed),a[i]?=some p->p∈L) (mb:∀ (i:Nat) (p:Keyed),b[i]?=some p->p∈L) (ua:Up rk a) (ub:Up rk b) (na1:1<=a.size) (nb1:1<=b.size)
 (h0:∀ p q,a[0]?=some p->b[0]?=some q->rk q<=rk p) (hl:∀ (j:Nat) (p q:Keyed),a[a.size - 1]?=some p->b[j]?=some q->rk q<=rk p) (h:∀ r st',Res rk a b r->cY st st'->Q r st'):wpS (model prog w) A E s (lD a b) Q st:=by
 obtain ⟨p0,ep0⟩:=some_at (xs:=a) (i:=0) na1
 have firstB:∀ {out:Array Keyed} {na nb:Nat},WH rk a b out na nb->nb=1->Res rk a b (Fx a b out na nb):=λhw e=>hw.first ua e λj p q e1 e2=>R6 (h0 p0 q ep0 e2) (ua 0 j p0 p (RY _) ep0 e1)
 obtain ⟨pl,epl⟩:=some_at (xs:=a) (i:=a.size - 1) (by lia)
 have W0:WH rk a b #[pl] (a.size - 1) b.size:=by
  have z:WH rk a b #[] a.size b.size:=⟨Rv _,Rv _,by simp,VA,by simp,by simp⟩
  exact z.f7 ua na1 epl λj q _ e=>hl j pl q epl e
 rw [rH]
 refine Ru (Ux (SM ⟨rfl,?_⟩))
 refine Ru (aS epl ?_)
 by_cases e1:a.size - 1=0
 ·rw [if_pos (by simpa using e1)]
  exact Rw (h _ _ (W0.jr ub e1) (.refl _))
 rw [if_neg (by simpa using e1)]
 by_cases e2:b.size=1
 ·rw [if_pos (by simpa using e2)]
  exact Rw (h _ _ (firstB W0 e2) (.refl _))
 rw [if_neg (by simpa using e2)]
 refine Ru (Tr ?_)
 refine Ru (R9 (SI (I:=λx c st'=>cY st st'/\c.1=none/\gR rk a b c.2.2.2.1 c.2.1 c.2.2.1/\x+c.2.1+c.2.2.1<a.size+b.size) (Q:=λc st'=>cY st st'/\∃ r,c.1=some r/\Res rk a b r) ?step ?fin ⟨.refl _,rfl,⟨W0,by dsimp only; lia,by dsimp only; lia⟩,by dsimp only; lia⟩) ?post)
 case fin =>
  rintro c st' ⟨hK,hc,hL,hx⟩
  have h1:=hL.la
  lia
 case post =>
  rintro c st' ⟨hK,r,hc,hr⟩
  rw [hc]
  exact Rw (h r st' hr hK)
 case step =>
  rintro x c st1 _ hx ⟨hK,_,hL,hn⟩
  have l1:=hL.la
  have l2:=hL.lb
  exact uE (n:=a.size+b.size - x - 2) hC (hK.k.trans hk) ma mb firstB ua ub hL (by lia) (by lia) (λr z st' k hr=>⟨hK.trans k,r,rfl,hr⟩) λna nb out g st' k q1 q2=>⟨hK.trans k,rfl,q1,by have:=q1.la; dsimp only; lia⟩
def Seg (rk:Keyed->Int) (xs:Array Keyed) (lo hi:Nat):Prop:=∀ i j,lo<=i->i<=j->j<hi->R rk xs i<=R rk xs j
def Hy (rk:Keyed->Int) (xs:Array Keyed) (lo hi:Nat):Prop:=∀ i j,lo<=i->i<=j->j<hi->R rk xs j<=R rk xs i
structure Bs (κ:SortKind) (L:List Keyed) (st:SortSt):Prop where
 perm:(arrOf st).toList.Perm L
 kind:kindOf st=κ
 failed:failedOf st=none
structure Mv (st st':SortSt) (lo hi:Nat):Prop where
 out:∀ i,i<lo\/hi<=i->(arrOf st')[i]?=(arrOf st)[i]?
 pend:pendingOf st'=pendingOf st
section
variable {st st' st'':SortSt} {lo hi:Nat}
theorem Bs.size (h:Bs κ L st):(arrOf st).size=L.length:=by simpa using h.perm.length_eq
theorem Bs.at (h:Bs κ L st) (hi:i<L.length):∃ p,(arrOf st)[i]?=some p/\p∈L:=by
 have hs:=h.size
 refine ⟨(arrOf st)[i]'(by lia),RZ _,h.perm.mem_iff.mp ?_⟩
 rw [Xh]; exact XM _
theorem Bs.arr (h:Bs κ L st) (hp:xs.toList.Perm (arrOf st).toList):Bs κ L (setArr st xs):=⟨hp.trans h.perm,h.kind,h.failed⟩
theorem Mv.refl:Mv st st lo hi:=⟨λ_ _=>rfl,rfl⟩
theorem Mv.trans (a:Mv st st' lo hi) (b:Mv st' st'' lo hi):Mv st st'' lo hi:=⟨λi h=>(b.out i h).trans (a.out i h),b.pend.trans a.pend⟩
theorem BY (hj:j<=xs.size) (k):R rk (mirror xs i j ((j - i) / 2)) k=if i<=k/\k<j then R rk xs (i+j - 1 - k) else R rk xs k:=by
 have e:=getElem?_mirror_all (i:=i) hj k
 by_cases h:i<=k/\k<j
 ·rw [if_pos h] at e |-; exact cj e
 ·rw [if_neg h] at e |-; exact cj e
theorem lE (hj:j<=(arrOf st).size) (h1:lo<=i) (h2:j<=hi):Mv st (setArr st (mirror (arrOf st) i j ((j - i) / 2))) lo hi :=
 ⟨λk hk=>by
   have e:=getElem?_mirror_all (i:=i) hj k
   rw [if_neg (by lia)] at e; exact e,rfl⟩
theorem FA (i) (xs):Seg rk xs i (i+1):=λa b h1 h2 h3=>by
 have:a=b:=by lia
 subst this; exact SK _
theorem BZ (h:Seg rk xs lo (lo+n)) (hn:1<=n) (hl:¬ R rk xs (lo+n)<R rk xs (lo+n - 1)):Seg rk xs lo (lo+(n+1)):=λa b h1 h2 h3=>by
 by_cases hb:b<lo+n
 ·exact h a b h1 h2 hb
 ·have e:b=lo+n:=by lia
  subst e
  by_cases ha:a=lo+n
  ·subst ha; exact SK _
  ·exact R6 (h a (lo+n - 1) h1 (by lia) (by lia)) (Int.not_lt.mp hl)
theorem f9 (h:Hy rk xs lo (lo+n)) (hn:1<=n) (hl:R rk xs (lo+n)<=R rk xs (lo+n - 1)):Hy rk xs lo (lo+(n+1)):=λa b h1 h2 h3=>by
 by_cases hb:b<lo+n
 ·exact h a b h1 h2 hb
 ·have e:b=lo+n:=by lia
  subst e
  by_cases ha:a=lo+n
  ·subst ha; exact SK _
  ·exact R6 hl (h a (lo+n - 1) h1 (by lia) (by lia))
end
section
variable {st:SortSt} {lo nrem:Nat}
theorem lF (hC:iC prog w A s κ rk L) (hB:Bs κ L st) (hi:i<L.length) (hj:j<L.length) (h:Q (some (decide (R rk (arrOf st) i<R rk (arrOf st) j))) st):wpS (model prog w) A E s (ltAt' i j) Q st:=by
 obtain ⟨p,ep,hp⟩:=hB.at hi
 obtain ⟨q,eq,hq⟩:=hB.at hj
 exact yE hC hB.kind ep eq hp hq h
theorem eV (h:Q () (setArr st (mirror (arrOf st) i j ((j - i) / 2)))):wpS (model prog w) A E s (reverseSlice' i j) Q st :=
 TM (f:=λs=>setArr s (mirror (arrOf s) i j ((j - i) / 2))) h
noncomputable abbrev Ng:=Option (Option Nat)×Nat
noncomputable def asc (lo a nrem:Nat):StateT SortSt Sem Ng :=
 forIn [a:nrem] ((none,a):Ng) λ_ c=>ltAt' (lo+c.2) (lo+c.2 - 1) >>= λx=>match x with
  | some smaller=>if smaller=true then pure (Ti (none,c.2)) else pure (Su (none,c.2+1))
  | _=>pure (Ti (some none,c.2))
theorem wO (hC:iC prog w A s κ rk L) (hB:Bs κ L st) (hn:lo+nrem<=L.length) (h1:1<=a) (h2:a<=nrem) (hs:Seg rk (arrOf st) lo (lo+a))
 (h:∀ n,a<=n->n<=nrem->Seg rk (arrOf st) lo (lo+n)->(n=nrem\/R rk (arrOf st) (lo+n)<R rk (arrOf st) (lo+n - 1))->Q (none,n) st):wpS (model prog w) A E s (asc lo a nrem) Q st:=by
 unfold asc
 refine SI (I:=λx c st'=>st'=st/\c=(none,x)/\Seg rk (arrOf st) lo (lo+x)) ?step ?fin ⟨rfl,rfl,hs⟩
 case fin =>
  rintro c st' ⟨rfl,rfl,hs'⟩
  rw [show max a nrem=nrem by lia] at hs' |-
  exact h nrem h2 (Rv _) hs' (.inl rfl)
 case step =>
  rintro x c st' hax hxn ⟨rfl,rfl,hs'⟩
  refine Ru (lF hC hB (by dsimp only; lia) (by dsimp only; lia) ?_)
  dsimp only
  by_cases hl:R rk (arrOf st') (lo+x)<R rk (arrOf st') (lo+x - 1)
  ·rw [decide_eq_true hl,if_pos rfl]
   exact Rw (h x hax (by lia) hs' (.inr hl))
  ·rw [decide_eq_false hl,if_neg RG]
   exact Rw ⟨rfl,rfl,BZ hs' (by lia) hl⟩
noncomputable abbrev Nh:=Option (Option Nat)×Nat×Nat
noncomputable def Ni (lo n nrem:Nat):StateT SortSt Sem Nh :=
 forIn [n:nrem] ((none,n,0):Nh) λ_ c=>ltAt' (lo+c.2.1) (lo+c.2.1 - 1) >>= λx=>match x with
  | some smaller=>if smaller=true then
   (if c.2.2>0 then reverseSlice' (lo+c.2.1 - (c.2.2+1)) (lo+c.2.1) >>= λ_=>pure (Su (none,c.2.1+1,0)) else pure (Su (none,c.2.1+1,0)))
   else ltAt' (lo+c.2.1 - 1) (lo+c.2.1) >>= λy=>match y with
    | some larger=>if larger=true then pure (Ti (none,c.2.1,c.2.2)) else pure (Su (none,c.2.1+1,c.2.2+1))
    | _=>pure (Ti (some none,c.2.1,c.2.2))
  | _=>pure (Ti (some none,c.2.1,c.2.2))
theorem iR (hj:j<=xs.size) (he:∀ k,i<=k->k<j->R rk xs k=R rk xs (j - 1)) (k):R rk (mirror xs i j ((j - i) / 2)) k=R rk xs k:=by
 rw [BY hj]
 split
 ·rw [he _ (by lia) (by lia),he k (by lia) (by lia)]
 ·rfl
theorem FD (hC:iC prog w A s κ rk L) (hB:Bs κ L st) (hn:lo+nrem<=L.length) (h1:1<=n) (h2:n<=nrem) (hs:Hy rk (arrOf st) lo (lo+n))
 (h:∀ m neq st',Bs κ L st'->Mv st st' lo (lo+nrem)->n<=m->m<=nrem->Hy rk (arrOf st') lo (lo+m)->neq+1<=m->(∀ i,lo+m - (neq+1)<=i->i<lo+m->R rk (arrOf st') i=R rk (arrOf st') (lo+m - 1))->Q (none,m,neq) st') :
 wpS (model prog w) A E s (Ni lo n nrem) Q st:=by
 unfold Ni
 refine SI (I:=λx c st'=>∃ neq,c=(none,x,neq)/\Bs κ L st'/\Mv st st' lo (lo+nrem)/\Hy rk (arrOf st') lo (lo+x)/\neq+1<=x/\(∀ i,lo+x - (neq+1)<=i->i<lo+x->R rk (arrOf st') i=R rk (arrOf st') (lo+x - 1))) ?step ?fin
  ⟨0,rfl,hB,.refl,hs,h1,λi a1 a2=>by congr 1; lia⟩
 case fin =>
  rintro c st' ⟨neq,rfl,jF,hM',hs',hq,he⟩
  rw [show max n nrem=nrem by lia] at hs' hq he |-
  exact h nrem neq st' jF hM' h2 (Rv _) hs' hq he
 case step =>
  rintro x c st' hax hxn ⟨neq,rfl,jF,hM',hs',hq,he⟩
  have hsz:=jF.size
  refine Ru (lF hC jF (by dsimp only; lia) (by dsimp only; lia) ?_)
  dsimp only
  by_cases hl:R rk (arrOf st') (lo+x)<R rk (arrOf st') (lo+x - 1)
  ·rw [decide_eq_true hl,if_pos rfl]
   by_cases hq0:neq>0
   ·rw [if_pos hq0]
    have key:=iR (rk:=rk) (xs:=arrOf st') (i:=lo+x - (neq+1)) (j:=lo+x) (by lia) he
    refine Ru (eV (Rw ⟨0,rfl,jF.arr (U1.mp (VO _ _ _ _)),hM'.trans (lE (by lia) (by lia) (by lia)),?_,by lia,λi a1 a2=>by congr 1; lia⟩))
    refine f9 (λa b z1 z2 z3=>?_) (by lia) ?_
    ·show R rk (mirror _ _ _ _) b<=R rk (mirror _ _ _ _) a
     rw [key,key]; exact hs' a b z1 z2 z3
    ·show R rk (mirror _ _ _ _) _<=R rk (mirror _ _ _ _) _
     rw [key,key]; lia
   ·rw [if_neg hq0]
    exact Rw ⟨0,rfl,jF,hM',f9 hs' (by lia) (by lia),by lia,λi a1 a2=>by congr 1; lia⟩
  ·rw [decide_eq_false hl,if_neg RG]
   refine Ru (lF hC jF (by lia) (by lia) ?_)
   dsimp only
   by_cases hg:R rk (arrOf st') (lo+x - 1)<R rk (arrOf st') (lo+x)
   ·rw [decide_eq_true hg,if_pos rfl]
    exact Rw (h x neq st' jF hM' hax (by lia) hs' hq he)
   ·rw [decide_eq_false hg,if_neg RG]
    have heq:R rk (arrOf st') (lo+x)=R rk (arrOf st') (lo+x - 1):=by lia
    refine Rw ⟨neq+1,rfl,jF,hM',f9 hs' (by lia) (by lia),by lia,λi a1 a2=>?_⟩
    rw [show lo+(x+1) - 1=lo+x by lia]
    by_cases hi:i=lo+x
    ·rw [hi]
    ·rw [heq]; exact he i (by lia) (by lia)
noncomputable def countRun':Nat->Nat->StateT SortSt Sem (Option Nat):=sortPriv% PySem.Builtin.countRun
theorem iS {Q:Option Nat->SortSt->Prop} (hC:iC prog w A s κ rk L) (hB:Bs κ L st) (hn:lo+nrem<=L.length) (h1:1<=n) (h2:n<=nrem) (hs:Hy rk (arrOf st) lo (lo+n))
 (h:∀ m st',Bs κ L st'->Mv st st' lo (lo+nrem)->1<=m->m<=nrem->Seg rk (arrOf st') lo (lo+m)->Q (some m) st') :
 wpS (model prog w) A E s (asc lo n nrem) (λc st'=>c.1=none/\Q (some c.2) st') (setArr st (mirror (arrOf st) lo (lo+n) ((lo+n - lo) / 2))):=by
 have hsz:=hB.size
 have jF:=hB.arr (U1.mp (VO (arrOf st) lo (lo+n) ((lo+n - lo) / 2)))
 refine wO hC jF hn h1 h2 (λa b z1 z2 z3=>?_) λm m1 m2 ms _=>⟨rfl,h m _ jF (lE (by lia) (Rv _) (by lia)) (by lia) m2 ms⟩
 show R rk (mirror _ _ _ _) a<=R rk (mirror _ _ _ _) b
 rw [BY (by lia),BY (by lia),if_pos (by lia),if_pos (by lia)]
 exact hs _ _ (by lia) (by lia) (by lia)
local macro_rules | `(tactic| walk_at "dl countRun")=>do
 let i:=UO (UC `PySem.Builtin.List.W1All `PySem.Builtin.countRun)
 `(tactic| delta $i)
theorem wpS_countRun (hC:iC prog w A s κ rk L) (hB:Bs κ L st) (hn:lo+nrem<=L.length) (h1:1<=nrem)
 (h:∀ m st',Bs κ L st'->Mv st st' lo (lo+nrem)->1<=m->m<=nrem->Seg rk (arrOf st') lo (lo+m)->Q (some m) st'):wpS (model prog w) A E s (countRun' lo nrem) Q st:=by
 unfold countRun'
 walk_at "dl countRun"
 dsimp only
 have hsz:=hB.size
 refine Ru (show wpS _ _ _ _ (asc lo 1 nrem) _ _ from wO hC hB hn (Rv _) h1 (FA lo _) λn n1 n2 ns nor=>?_)
 dsimp only
 by_cases hnn:n=nrem
 ·rw [if_pos (by simpa using hnn)]
  exact Rw (h n st hB .refl n1 n2 ns)
 rw [if_neg (by simpa using hnn)]
 have hlt:=nor.resolve_left hnn
 have rest:∀ (st1:SortSt),Bs κ L st1->Mv st st1 lo (lo+nrem)->Hy rk (arrOf st1) lo (lo+(n+1))->wpS (model prog w) A E s (Ni lo (n+1) nrem) (λc st2=>Bs κ L st2/\Mv st st2 lo (lo+nrem)/\c.1=none/\n+1<=c.2.1/\c.2.1<=nrem/\Hy rk (arrOf st2) lo (lo+c.2.1)/\c.2.2+1<=c.2.1/\(∀ i,lo+c.2.1 - (c.2.2+1)<=i->i<lo+c.2.1->R rk (arrOf st2) i=R rk (arrOf st2) (lo+c.2.1 - 1))) st1 :=
  λst1 hB1 hM1 hs1=>FD hC hB1 hn (by lia) (by lia) hs1 λm neq st2 a1 a2 a3 a4 a5 a6 a7=>⟨a1,hM1.trans a2,rfl,a3,a4,a5,a6,a7⟩
 by_cases hgt:n>1
 ·rw [if_pos hgt]
  refine Ru (lF hC hB (by lia) (by lia) ?_)
  dsimp only
  by_cases hrose:R rk (arrOf st) lo<R rk (arrOf st) (lo+n - 1)
  ·rw [decide_eq_true hrose,if_pos rfl]
   exact Rw (h n st hB .refl n1 n2 ns)
  ·rw [decide_eq_false hrose,if_neg RG]
   have hall:∀ k,lo<=k->k<lo+n->R rk (arrOf st) k=R rk (arrOf st) (lo+n - 1):=λk z1 z2=>by
    have a1:=ns lo k (Rv _) z1 z2
    have a2:=ns k (lo+n - 1) z1 (by lia) (by lia)
    lia
   have key:=iR (rk:=rk) (xs:=arrOf st) (i:=lo) (j:=lo+n) (by lia) hall
   refine Ru (eV ?_)
   refine Ru (Ux (SM ⟨rfl,?_⟩))
   refine Ru (R9 (show wpS _ _ _ _ (Ni lo (n+1) nrem) _ _ from rest _ (hB.arr (U1.mp (VO _ _ _ _))) (lE (by lia) (Rv _) (by lia)) (f9 (λa b z1 z2 z3=>?_) (by lia) ?_)) λc st2 hc=>?_)
   ·show R rk (mirror _ _ _ _) b<=R rk (mirror _ _ _ _) a
    rw [key,key,hall b (by lia) z3,hall a z1 (by lia)]; exact SK _
   ·show R rk (mirror _ _ _ _) _<=R rk (mirror _ _ _ _) _
    rw [key,key]; lia
   ·obtain ⟨r,m,neq⟩:=c
    obtain ⟨b1,b2,b3,b4,b5,b6,b7,b8⟩:=hc
    dsimp only at b3 b4 b5 b6 b7 b8 |-
    rw [b3]
    dsimp only
    by_cases hq0:neq>0
    ·rw [if_pos hq0]
     have hsz2:=b1.size
     have key2:=iR (rk:=rk) (xs:=arrOf st2) (i:=lo+m - (neq+1)) (j:=lo+m) (by lia) b8
     refine Ru (eV (Ru (eV (Ru (R9 (show wpS _ _ _ _ (asc lo m nrem) _ _ from iS (Q:=Q) hC (b1.arr (U1.mp (VO _ _ _ _))) hn (by lia) b5 (λa b z1 z2 z3=>?_) λk st3 c1 c2 c3 c4 c5=>h k st3 c1 ((b2.trans (lE (by lia) (by lia) (by lia))).trans c2) c3 c4 c5) λc st4 hc=>?_)))))
     ·show R rk (mirror _ _ _ _) b<=R rk (mirror _ _ _ _) a
      rw [key2,key2]; exact b6 a b z1 z2 z3
     ·obtain ⟨r,k⟩:=c
      obtain ⟨e,hQ⟩:=hc
      dsimp only at e hQ |-
      rw [e]
      exact Rw hQ
    ·rw [if_neg hq0]
     refine Ru (eV (Ru (R9 (show wpS _ _ _ _ (asc lo m nrem) _ _ from iS (Q:=Q) hC b1 hn (by lia) b5 b6 λk st3 c1 c2 c3 c4 c5=>h k st3 c1 (b2.trans c2) c3 c4 c5) λc st4 hc=>?_)))
     obtain ⟨r,k⟩:=c
     obtain ⟨e,hQ⟩:=hc
     dsimp only at e hQ |-
     rw [e]
     exact Rw hQ
 ·rw [if_neg hgt]
  have e1:n=1:=by lia
  subst e1
  refine Ru (Ux (SM ⟨rfl,?_⟩))
  refine Ru (R9 (show wpS _ _ _ _ (Ni lo (1+1) nrem) _ _ from rest st hB .refl (f9 (λa b z1 z2 z3=>?_) (Rv _) (TL hlt))) λc st2 hc=>?_)
  ·have:a=b:=by lia
   subst this; exact SK _
  ·obtain ⟨r,m,neq⟩:=c
   obtain ⟨b1,b2,b3,b4,b5,b6,b7,b8⟩:=hc
   dsimp only at b3 b4 b5 b6 b7 b8 |-
   rw [b3]
   dsimp only
   by_cases hq0:neq>0
   ·rw [if_pos hq0]
    have hsz2:=b1.size
    have key2:=iR (rk:=rk) (xs:=arrOf st2) (i:=lo+m - (neq+1)) (j:=lo+m) (by lia) b8
    refine Ru (eV (Ru (eV (Ru (R9 (show wpS _ _ _ _ (asc lo m nrem) _ _ from iS (Q:=Q) hC (b1.arr (U1.mp (VO _ _ _ _))) hn (by lia) b5 (λa b z1 z2 z3=>?_) λk st3 c1 c2 c3 c4 c5=>h k st3 c1 ((b2.trans (lE (by lia) (by lia) (by lia))).trans c2) c3 c4 c5) λc st4 hc=>?_)))))
    ·show R rk (mirror _ _ _ _) b<=R rk (mirror _ _ _ _) a
     rw [key2,key2]; exact b6 a b z1 z2 z3
    ·obtain ⟨r,k⟩:=c
     obtain ⟨e,hQ⟩:=hc
     dsimp only at e hQ |-
     rw [e]
     exact Rw hQ
   ·rw [if_neg hq0]
    refine Ru (eV (Ru (R9 (show wpS _ _ _ _ (asc lo m nrem) _ _ from iS (Q:=Q) hC b1 hn (by lia) b5 b6 λk st3 c1 c2 c3 c4 c5=>h k st3 c1 (b2.trans c2) c3 c4 c5) λc st4 hc=>?_)))
    obtain ⟨r,k⟩:=c
    obtain ⟨e,hQ⟩:=hc
    dsimp only at e hQ |-
    rw [e]
    exact Rw hQ
end
section
variable {st:SortSt} {lo:Nat}
theorem Hz (hs:src<xs.size) (hd:d<=src) (k):R rk (bubble xs src d) k=if k=src - d then R rk xs src else if src - d<k/\k<=src then R rk xs (k - 1) else R rk xs k:=by
 have e:=getElem?_bubble hs d hd k
 by_cases h1:k=src - d
 ·rw [if_pos h1] at e |-; exact cj e
 ·rw [if_neg h1] at e |-
  by_cases h2:src - d<k/\k<=src
  ·rw [if_pos h2] at e |-; exact cj e
  ·rw [if_neg h2] at e |-; exact cj e
theorem B0 (h:Q () (setArr st (bubble (arrOf st) i (i - j)))):wpS (model prog w) A E s (moveDown' i j) Q st :=
 TM (f:=λs=>setArr s (bubble (arrOf s) i (i - j))) h
noncomputable def binarySort':Nat->Nat->Nat->StateT SortSt Sem Bool:=sortPriv% PySem.Builtin.binarySort
local macro_rules | `(tactic| walk_at "dl binarySort")=>do
 let i:=UO (UC `PySem.Builtin.List.W1All `PySem.Builtin.binarySort)
 `(tactic| delta $i)
theorem wpS_binarySort (hC:iC prog w A s κ rk L) (hB:Bs κ L st) (hn:lo+n<=L.length) (hok:ok<=n) (hs:Seg rk (arrOf st) lo (lo+ok))
 (h:∀ st',Bs κ L st'->Mv st st' lo (lo+n)->Seg rk (arrOf st') lo (lo+n)->Q true st'):wpS (model prog w) A E s (binarySort' lo n ok) Q st:=by
 unfold binarySort'
 walk_at "dl binarySort"
 dsimp only
 refine Ru (R9 (SI (I:=λk c st'=>c.1=none/\Bs κ L st'/\Mv st st' lo (lo+n)/\Seg rk (arrOf st') lo (lo+min k n)) (Q:=λc st'=>c.1=none/\Bs κ L st'/\Mv st st' lo (lo+n)/\Seg rk (arrOf st') lo (lo+n)) ?step ?fin ?init) ?post)
 case post =>
  rintro ⟨c,u⟩ st' ⟨hc,jF,hM',hs'⟩
  dsimp only at hc |-
  rw [hc]
  exact Rw (h st' jF hM' hs')
 case init =>
  refine ⟨rfl,hB,.refl,λa b z1 z2 z3=>?_⟩
  by_cases h1:ok=0
  ·have:a=b:=by lia
   subst this; exact SK _
  ·exact hs a b z1 z2 (by lia)
 case fin =>
  rintro c st' ⟨hc,jF,hM',hs'⟩
  rw [show min (max (max ok 1) n) n=n by lia] at hs'
  exact ⟨hc,jF,hM',hs'⟩
 case step =>
  rintro k ⟨c,u⟩ st' hak hkn ⟨rfl,jF,hM',hs'⟩
  rw [show min k n=k by lia] at hs'
  have hsz:=jF.size
  refine Ru (R9 (SI (I:=λx c st2=>st2=st'/\∃ l r,c=(none,l,r)/\l<=r/\r<=k/\r - l<=k - x/\(∀ i,i<l->R rk (arrOf st') (lo+i)<=R rk (arrOf st') (lo+k))/\(∀ i,r<=i->i<k->R rk (arrOf st') (lo+k)<R rk (arrOf st') (lo+i)))
   (Q:=λc st2=>st2=st'/\∃ l r,c=(none,l,r)/\l<=k/\(∀ i,i<l->R rk (arrOf st') (lo+i)<=R rk (arrOf st') (lo+k))/\(∀ i,l<=i->i<k->R rk (arrOf st') (lo+k)<R rk (arrOf st') (lo+i))) ?istep ?ifin ⟨rfl,0,k,rfl,by lia,by lia,by lia,λi hi=>by lia,λi h1 h2=>by lia⟩) ?ipost)
  case ifin =>
   rintro c st2 ⟨rfl,l,r,rfl,a1,a2,a3,a4,a5⟩
   have:l=r:=by lia
   subst this
   exact ⟨rfl,l,l,rfl,a2,a4,a5⟩
  case istep =>
   rintro x c st2 _ hx ⟨rfl,l,r,rfl,a1,a2,a3,a4,a5⟩
   dsimp only
   by_cases hge:l>=r
   ·rw [if_pos hge]
    have:l=r:=by lia
    subst this
    exact Rw ⟨rfl,l,l,rfl,a2,a4,a5⟩
   ·rw [if_neg hge]
    refine Ru (lF hC jF (by lia) (by lia) ?_)
    dsimp only
    by_cases hl:R rk (arrOf st2) (lo+k)<R rk (arrOf st2) (lo+(l+r) / 2)
    ·rw [decide_eq_true hl,if_pos rfl]
     refine Rw ⟨rfl,l,(l+r) / 2,rfl,by lia,by lia,by lia,a4,λi h1 h2=>?_⟩
     exact Int.lt_of_lt_of_le hl (hs' _ _ (by lia) (by lia) (by lia))
    ·rw [decide_eq_false hl,if_neg RG]
     refine Rw ⟨rfl,(l+r) / 2+1,r,rfl,by lia,by lia,by lia,λi h1=>?_,a5⟩
     exact R6 (hs' (lo+i) (lo+(l+r) / 2) (by lia) (by lia) (by lia)) (Int.not_lt.mp hl)
  case ipost =>
   rintro c st2 ⟨rfl,l,r,rfl,hlk,a4,a5⟩
   dsimp only
   have e1:lo+k - (lo+l)=k - l:=by lia
   refine Ru (B0 (Rw ⟨rfl,jF.arr (U1.mp (bubble_perm _ _ _)),?_,?_⟩))
   ·refine hM'.trans ⟨λi hi=>?_,rfl⟩
    have e:=getElem?_bubble (xs:=arrOf st2) (src:=lo+k) (by lia) (lo+k - (lo+l)) (by lia) i
    rw [if_neg (by lia),if_neg (by lia)] at e
    exact e
   ·rw [show min (k+1) n=k+1 by lia]
    intro i j hi hij hj
    show R rk (bubble (arrOf st2) (lo+k) (lo+k - (lo+l))) i<=R rk (bubble (arrOf st2) (lo+k) (lo+k - (lo+l))) j
    rw [Hz (by lia) (by lia),Hz (by lia) (by lia),e1]
    have sub:∀ i,lo<=i->lo+(i - lo)=i:=λi hi=>by lia
    have f4:∀ i,lo<=i->i<lo+l->R rk (arrOf st2) i<=R rk (arrOf st2) (lo+k):=λi h1 h2=>by have:=a4 (i - lo) (by lia); rwa [sub i h1] at this
    have f5:∀ i,lo+l<=i->i<lo+k->R rk (arrOf st2) (lo+k)<R rk (arrOf st2) i:=λi h1 h2=>by have:=a5 (i - lo) (by lia) (by lia); rwa [sub i (by lia)] at this
    repeat' split
    all_goals first
     | (exfalso; lia)
     | exact SK _
     | exact f4 _ (by lia) (by lia)
     | exact TL (f5 _ (by lia) (by lia))
     | exact hs' _ _ (by lia) (by lia) (by lia)
theorem nU:∀ (l:List Keyed) (k sa:Nat) (A:Array Keyed),sa+k+l.length<=A.size->((l.zipIdx k).foldl (λa (x:Keyed×Nat)=>a.setIfInBounds (sa+x.2) x.1) A).size=A.size /\
 ∀ i:Nat,((l.zipIdx k).foldl (λa (x:Keyed×Nat)=>a.setIfInBounds (sa+x.2) x.1) A)[i]?=if sa+k<=i/\i<sa+k+l.length then l[i - (sa+k)]? else A[i]?
 | [],k,sa,A,h=>⟨rfl,λi=>by rw [if_neg (by simp only [TX]; lia)]; rfl⟩
 | x::l,k,sa,A,h=>by
  rw [Sf] at h
  obtain ⟨h1,h2⟩:=nU l (k+1) sa (A.setIfInBounds (sa+k) x) (by rw [Array.size_setIfInBounds]; lia)
  rw [XO,Tg]
  refine ⟨by rw [h1,Array.size_setIfInBounds],λi=>?_⟩
  rw [h2 i,Sf]
  by_cases c1:sa+(k+1)<=i/\i<sa+(k+1)+l.length
  ·rw [if_pos c1,if_pos (by lia),show i - (sa+k)=i - (sa+(k+1))+1 by lia,List.getElem?_cons_succ]
  ·rw [if_neg c1]
   by_cases c2:i=sa+k
   ·subst c2
    rw [if_pos (by lia),Nat.sub_self,List.getElem?_cons_zero,Array.getElem?_setIfInBounds_self_of_lt (by lia)]
   ·rw [if_neg (by lia),Array.getElem?_setIfInBounds_ne (by lia)]
end
noncomputable def gX:Nat->StateT SortSt Sem Bool:=sortPriv% PySem.Builtin.mergeAt
local macro_rules | `(tactic| walk_at "dl mergeAt")=>do
 let i:=UO (UC `PySem.Builtin.List.W1All `PySem.Builtin.mergeAt)
 `(tactic| delta $i)
section
variable {st:SortSt}
theorem FE (h:Q ⟨⟩ st1):wpS M A E s (set st1:StateT SortSt Sem PUnit) Q st:=by
 unfold wpS; rw [StateT.run_set]; exact Rt ⟨rfl,h⟩
theorem yH (hC:iC prog w A s κ rk L) (hk:kindOf st=κ) (hkey:key∈L) (mx:∀ (i:Nat) (p:Keyed),xs[i]?=some p->p∈L) (hn:base+n<=xs.size) (us:Seg rk xs base (base+n)) (hh:hint<n)
 (h:∀ k,k<=n->(∀ i,base<=i->i<base+k->R rk xs i<=rk key)->(∀ i,base+k<=i->i<base+n->rk key<R rk xs i)->Q (some k) st):wpS (model prog w) A E s (cW false key xs base n hint) Q st:=by
 obtain ⟨k,h1,h2⟩:=lB (λi=>R rk xs (base+i)) (rk key) n λi j hij hj=>us _ _ (by lia) (by lia) (by lia)
 refine fM hC hk hkey (λi hi=>⟨xs[base+i]'(by lia),RZ _,mx _ _ (RZ _)⟩) (λi hi=>by simp only [Sn,if_false]; exact h2 i hi) h1 hh (h k h1 (λi hi hk=>?_) λi hi hk=>?_)
 ·have:=(h2 (i - base) (by lia)).mpr (by lia)
  rwa [show base+(i - base)=i by lia] at this
 ·have:=mt (h2 (i - base) (by lia)).mp (by lia)
  rw [show base+(i - base)=i by lia] at this
  lia
theorem yI (hC:iC prog w A s κ rk L) (hk:kindOf st=κ) (hkey:key∈L) (mx:∀ (i:Nat) (p:Keyed),xs[i]?=some p->p∈L) (hn:base+n<=xs.size) (us:Seg rk xs base (base+n)) (hh:hint<n)
 (h:∀ k,k<=n->(∀ i,base<=i->i<base+k->R rk xs i<rk key)->(∀ i,base+k<=i->i<base+n->rk key<=R rk xs i)->Q (some k) st):wpS (model prog w) A E s (cW true key xs base n hint) Q st:=by
 obtain ⟨k,h1,h2⟩:=lC (λi=>R rk xs (base+i)) (rk key) n λi j hij hj=>us _ _ (by lia) (by lia) (by lia)
 refine fM hC hk hkey (λi hi=>⟨xs[base+i]'(by lia),RZ _,mx _ _ (RZ _)⟩) (λi hi=>by simp only [if_true]; exact h2 i hi) h1 hh (h k h1 (λi hi hk=>?_) λi hi hk=>?_)
 ·have:=(h2 (i - base) (by lia)).mpr (by lia)
  rwa [show base+(i - base)=i by lia] at this
 ·have:=mt (h2 (i - base) (by lia)).mp (by lia)
  rw [show base+(i - base)=i by lia] at this
  lia
theorem eX {xs:Array Keyed} (h:(xs.extract i j)[m]?=some p):xs[i+m]?=some p/\i+m<j:=by
 rw [V6] at h
 split at h
 ·exact ⟨h,by lia⟩
 ·cases h
theorem wQ {lo hi i j:Nat} (h:Seg rk xs lo hi) (h1:lo<=i) (h2:j<=hi):Up rk (xs.extract i j):=λa b p q hab e1 e2=>by
 obtain ⟨f1,g1⟩:=eX e1
 obtain ⟨f2,g2⟩:=eX e2
 have:=h (i+a) (i+b) (by lia) (by lia) (by lia)
 rwa [dX f1,dX f2] at this
theorem rK (hC:iC prog w A s κ rk L) (hB:Bs κ L st) (p1:(pendingOf st)[i]?=some (sa,na,pw)) (p2:(pendingOf st)[i+1]?=some (sa+na,nb,pw2)) (h1:1<=na) (h2:1<=nb) (hz:sa+na+nb<=L.length)
 (s1:Seg rk (arrOf st) sa (sa+na)) (s2:Seg rk (arrOf st) (sa+na) (sa+na+nb))
 (h:∀ st',Bs κ L st'->(∀ j,j<sa\/sa+na+nb<=j->(arrOf st')[j]?=(arrOf st)[j]?)->pendingOf st'=((pendingOf st).setIfInBounds i (sa,na+nb,pw)).eraseIdxIfInBounds (i+1)->Seg rk (arrOf st') sa (sa+na+nb)->Q true st') :
 wpS (model prog w) A E s (gX i) Q st:=by
 unfold gX
 walk_at "dl mergeAt"
 dsimp only
 refine Ru (Tr ?_)
 rw [p1,p2]
 dsimp only
 have hsz:=hB.size
 have mL:∀ (i:Nat) (p:Keyed),(arrOf st)[i]?=some p->p∈L:=λi p e=>hB.perm.mem_iff.mp (by
  obtain ⟨h1,h2⟩:=U3.mp e
  rw [<- h2,Xh]; exact XM _)
 refine Ru (FE ?_)
 obtain ⟨key,ek,hkL⟩:=hB.at (i:=sa+na) (by lia)
 refine Ru (aS ek ?_)
 have rkey:R rk (arrOf st) (sa+na)=rk key:=dX ek
 refine Ru (yH hC hB.kind hkL mL (by show _<=(arrOf st).size; lia) s1 (by lia) λk k1 k2 k3=>?_)
 dsimp only
 by_cases e0:na - k=0
 ·rw [if_pos (by simpa using e0)]
  refine Rw (h _ ⟨hB.perm,hB.kind,hB.failed⟩ (λ_ _=>rfl) rfl λa b z1 z2 z3=>?_)
  by_cases hb:b<sa+na
  ·exact s1 a b z1 z2 hb
  ·by_cases ha:sa+na<=a
   ·exact s2 a b ha z2 z3
   ·refine R6 (k2 a z1 (by lia)) ?_
    rw [<- rkey]; exact s2 (sa+na) b (Rv _) (by lia) z3
 rw [if_neg (by simpa using e0)]
 obtain ⟨key2,ek2,hk2L⟩:=hB.at (i:=sa+k+(na - k) - 1) (by lia)
 have rkey2:R rk (arrOf st) (sa+na - 1)=rk key2:=by rw [<- dX (rk:=rk) ek2]; congr 1; lia
 refine Ru (aS ek2 ?_)
 refine Ru (yI hC (by exact hB.kind) hk2L mL (by show _<=(arrOf st).size; lia) s2 (by lia) λm m1 m2 m3=>?_)
 dsimp only
 by_cases e1:m=0
 ·exfalso
  have a1:=m3 (sa+na) (by lia) (by lia)
  have a2:=k3 (sa+na - 1) (by lia) (by lia)
  rw [rkey2] at a2; rw [rkey] at a1; lia
 rw [if_neg (by simpa using e1)]
 have mx:∀ (i:Nat) (p:Keyed),((arrOf st).extract (sa+k) (sa+na))[i]?=some p->p∈L:=λi p e=>mL _ p (eX e).1
 have my:∀ (i:Nat) (p:Keyed),((arrOf st).extract (sa+na) (sa+na+m))[i]?=some p->p∈L:=λi p e=>mL _ p (eX e).1
 have ux:Up rk ((arrOf st).extract (sa+k) (sa+na)):=wQ s1 (by lia) (Rv _)
 have uy:Up rk ((arrOf st).extract (sa+na) (sa+na+m)):=wQ s2 (Rv _) (by lia)
 have zx:((arrOf st).extract (sa+k) (sa+na)).size=na - k:=by rw [Array.size_extract]; lia
 have zy:((arrOf st).extract (sa+na) (sa+na+m)).size=m:=by rw [Array.size_extract]; lia
 have h0:∀ p q,((arrOf st).extract (sa+k) (sa+na))[0]?=some p->((arrOf st).extract (sa+na) (sa+na+m))[0]?=some q->rk q<=rk p:=λp q e2 e3=>by
  obtain ⟨f1,g1⟩:=eX e2
  obtain ⟨f2,g2⟩:=eX e3
  have a1:=k3 (sa+k+0) (by lia) (by lia)
  rw [dX f1] at a1
  have a2:rk q=rk key:=by rw [<- rkey,<- dX (rk:=rk) f2]; rfl
  lia
 have hl:∀ (j:Nat) (p q:Keyed),((arrOf st).extract (sa+k) (sa+na))[((arrOf st).extract (sa+k) (sa+na)).size - 1]?=some p->((arrOf st).extract (sa+na) (sa+na+m))[j]?=some q->rk q<=rk p:=λj p q e2 e3=>by
  rw [zx] at e2
  obtain ⟨f1,g1⟩:=eX e2
  obtain ⟨f2,g2⟩:=eX e3
  have a1:=m2 (sa+na+j) (by lia) (by lia)
  rw [dX f2] at a1
  have a2:rk p=rk key2:=by rw [<- rkey2,<- dX (rk:=rk) f1]; congr 1; lia
  lia
 have fin:∀ (r:Array Keyed) (st2:SortSt),Res rk ((arrOf st).extract (sa+k) (sa+na)) ((arrOf st).extract (sa+na) (sa+na+m)) r->kindOf st2=kindOf st->arrOf st2=arrOf st->pendingOf st2=((pendingOf st).setIfInBounds i (sa,na+nb,pw)).eraseIdxIfInBounds (i+1)->failedOf st2=failedOf st ->
  Q true (setArr st2 (VS (λa (x:Keyed×Nat)=>a.setIfInBounds (sa+k+x.2) x.1) (arrOf st2) r.toList.zipIdx)):=λr st2 hr e2 e3 e4 e5=>by
  have hlen:r.toList.length=na - k+m:=by
   have:=hr.1.length_eq
   simp only [R3,Sy,zx,zy] at this |-
   exact this
  obtain ⟨w1,w2⟩:=nU r.toList 0 (sa+k) (arrOf st) (by lia)
  generalize hW:VS (λa (x:Keyed×Nat)=>a.setIfInBounds (sa+k+x.2) x.1) (arrOf st) r.toList.zipIdx=W at w1 w2
  rw [e3,hW]
  have rW:∀ i,sa+k<=i->i<sa+na+m->R rk W i=R rk r (i - (sa+k)):=λi z1 z2=>by
   refine cj ?_
   rw [w2,if_pos (by lia),Sm]; rfl
  have rO:∀ i,(i<sa+k\/sa+na+m<=i)->R rk W i=R rk (arrOf st) i:=λi z=>by
   refine cj ?_
   rw [w2,if_neg (by lia)]
  have elt:∀ i,sa+k<=i->i<sa+na+m->∃ t,sa+k<=t/\t<sa+na+m/\R rk W i=R rk (arrOf st) t:=λi z1 z2=>by
   have hi:i - (sa+k)<r.size:=by rw [<- Sy]; lia
   have e6:r[i - (sa+k)]?=some r[i - (sa+k)]:=RZ hi
   have hm:r[i - (sa+k)]∈r.toList:=by rw [Xh]; exact XM _
   rw [rW i z1 z2,dX e6]
   rcases R5.mp (hr.1.mem_iff.mp hm) with z | z
   ·obtain ⟨t,t1,t2,t3⟩:=wG z
    exact ⟨t,t1,by lia,(dX t3).symm⟩
   ·obtain ⟨t,t1,t2,t3⟩:=wG z
    exact ⟨t,by lia,by lia,(dX t3).symm⟩
  have ur:=JV hr.2
  refine h _ ⟨?_,e2.trans hB.kind,e5.trans hB.failed⟩ (λj hj=>?_) e4 λa b z1 z2 z3=>?_
  ·
   refine List.Perm.trans ?_ hB.perm
   have eW:W.toList=(arrOf st).toList.take (sa+k)++r.toList++(arrOf st).toList.drop (sa+na+m):=by
    apply Wd
    intro j
    rw [Sm,w2,R4,Vt,Vt,Sq,Va,VC (by rw [Sy]; lia)]
    by_cases c1:j<sa+k
    ·rw [if_neg (by lia),if_pos c1,V0 c1,Sm]
    ·rw [if_neg c1]
     by_cases c2:j - (sa+k)<r.toList.length
     ·rw [if_pos (by lia),if_pos c2]; rfl
     ·rw [if_neg (by lia),if_neg c2,Sm]; congr 1; lia
   have eA:(arrOf st).toList=(arrOf st).toList.take (sa+k)++(((arrOf st).extract (sa+k) (sa+na)).toList++((arrOf st).extract (sa+na) (sa+na+m)).toList)++(arrOf st).toList.drop (sa+na+m):=by
    apply Wd
    intro j
    rw [R4,R4,Vt,Vt,Vt,Sq,Sy,Sy,Sy,zx,zy,Va,VC (by lia)]
    by_cases c1:j<sa+k
    ·rw [if_pos c1,V0 c1]
    ·rw [if_neg c1]
     by_cases c2:j - (sa+k)<na - k
     ·rw [if_pos c2,Sm,Sm,V6,if_pos (by lia)]; congr 1; lia
     ·rw [if_neg c2]
      by_cases c3:j - (sa+k) - (na - k)<m
      ·rw [if_pos c3,Sm,Sm,V6,if_pos (by lia)]; congr 1; lia
      ·rw [if_neg c3]; congr 1; lia
   show W.toList.Perm _
   rw [eW]
   conv=>rhs; rw [eA]
   exact (U5 _ hr.1).append_right _
  ·show W[j]?=_
   rw [w2,if_neg (by lia)]
  ·show R rk W a<=R rk W b
   have kk:∀ t,sa+na<=t->t<sa+na+nb->rk key<=R rk (arrOf st) t:=λt t1 t2=>by rw [<- rkey]; exact s2 _ t (Rv _) t1 t2
   have kk2:∀ t,sa<=t->t<sa+na->R rk (arrOf st) t<=rk key2:=λt t1 t2=>by rw [<- rkey2]; exact s1 t _ t1 (by lia) (by lia)
   by_cases c1:a<sa+k
   ·rw [rO a (.inl c1)]
    have la:=k2 a z1 c1
    by_cases d1:b<sa+k
    ·rw [rO b (.inl d1)]; exact s1 a b z1 z2 (by lia)
    ·by_cases d2:b<sa+na+m
     ·obtain ⟨t,t1,t2,t3⟩:=elt b (by lia) d2
      rw [t3]
      by_cases d3:t<sa+na
      ·exact s1 a t z1 (by lia) d3
      ·exact R6 la (kk t (by lia) (by lia))
     ·rw [rO b (.inr (by lia))]
      exact R6 la (kk b (by lia) z3)
   ·by_cases c2:a<sa+na+m
    ·by_cases d2:b<sa+na+m
     ·rw [rW a (by lia) c2,rW b (by lia) d2]
      have f1:r[a - (sa+k)]?=some (r[a - (sa+k)]'(by rw [<- Sy]; lia)):=RZ _
      have f2:r[b - (sa+k)]?=some (r[b - (sa+k)]'(by rw [<- Sy]; lia)):=RZ _
      rw [dX f1,dX f2]
      exact ur _ _ _ _ (by lia) f1 f2
     ·obtain ⟨t,t1,t2,t3⟩:=elt a (by lia) c2
      rw [t3,rO b (.inr (by lia))]
      by_cases d3:t<sa+na
      ·exact R6 (kk2 t (by lia) d3) (m3 b (by lia) z3)
      ·exact s2 t b (by lia) (by lia) z3
    ·rw [rO a (.inr (by lia)),rO b (.inr (by lia))]
     exact s2 a b (by lia) z2 z3
 have post:∀ (r:Array Keyed) (st2:SortSt),failedOf st2=failedOf st->(failedOf st2).isNone=true:=λr st2 e=>by rw [e,hB.failed]; rfl
 by_cases hle:na - k<=m
 ·rw [if_pos hle]
  refine Ru (rF hC (by exact hB.kind) mx my ux uy (by show 1<=((arrOf st).extract (sa+k) (sa+na)).size; lia) (by show 1<=((arrOf st).extract (sa+na) (sa+na+m)).size; lia) h0 hl λr st2 hr hK=>?_)
  refine Ru (TM (Ru (Tr ?_)))
  have e9:failedOf st2=none:=hK.f.trans hB.failed
  have z:=fin r st2 hr hK.k hK.a hK.p hK.f
  refine Rw ?_
  show Q (failedOf st2).isNone _
  rw [e9]; exact z
 ·rw [if_neg hle]
  refine Ru (rJ hC (by exact hB.kind) mx my ux uy (by show 1<=((arrOf st).extract (sa+k) (sa+na)).size; lia) (by show 1<=((arrOf st).extract (sa+na) (sa+na+m)).size; lia) h0 hl λr st2 hr hK=>?_)
  refine Ru (TM (Ru (Tr ?_)))
  have e9:failedOf st2=none:=hK.f.trans hB.failed
  have z:=fin r st2 hr hK.k hK.a hK.p hK.f
  refine Rw ?_
  show Q (failedOf st2).isNone _
  rw [e9]; exact z
end
noncomputable abbrev Nj:Nat->Nat->Nat->Nat:=sortPriv% PySem.Builtin.minRun
noncomputable def rL:StateT SortSt Sem Unit:=sortPriv% PySem.Builtin.sortRuns
local macro_rules | `(tactic| walk_at "dl sortRuns")=>do
 let i:=UO (UC `PySem.Builtin.List.W1All `PySem.Builtin.sortRuns)
 `(tactic| delta $i)
noncomputable def fm (rk:Keyed->Int) (xs:Array Keyed):Nat->List (Nat×Nat×Nat)->Nat->Prop
 | a,[],b=>a=b
 | a,p::r,b=>p.1=a/\1<=p.2.1/\Seg rk xs a (a+p.2.1)/\fm rk xs (a+p.2.1) r b
theorem fm.le:∀ {ps:List (Nat×Nat×Nat)} {a b:Nat},fm rk xs a ps b->a+ps.length<=b
 | [],a,b,h=>by have:a=b:=h; simp; lia
 | p::r,a,b,h=>by
  obtain ⟨_,h1,_,h2⟩:=h
  have:=h2.le
  rw [Sf]; lia
theorem fm.app:∀ {ps qs:List (Nat×Nat×Nat)} {a b:Nat},fm rk xs a (ps++qs) b↔∃ m,fm rk xs a ps m/\fm rk xs m qs b
 | [],qs,a,b=>⟨λh=>⟨a,rfl,h⟩,λ⟨m,h1,h2⟩=>by have:a=m:=h1; subst this; exact h2⟩
 | p::r,qs,a,b=>by
  constructor
  ·rintro ⟨h1,h2,h3,h4⟩
   obtain ⟨m,h5,h6⟩:=fm.app.mp h4
   exact ⟨m,⟨h1,h2,h3,h5⟩,h6⟩
  ·rintro ⟨m,⟨h1,h2,h3,h5⟩,h6⟩
   exact ⟨h1,h2,h3,fm.app.mpr ⟨m,h5,h6⟩⟩
theorem fm.congr:∀ {ps:List (Nat×Nat×Nat)} {a b:Nat},fm rk xs a ps b->(∀ i,a<=i->i<b->R rk ys i=R rk xs i)->fm rk ys a ps b
 | [],a,b,h,_=>h
 | p::r,a,b,h,e=>by
  obtain ⟨h1,h2,h3,h4⟩:=h
  have hl:=h4.le
  refine ⟨h1,h2,λi j z1 z2 z3=>?_,h4.congr λi z1 z2=>e i (by lia) z2⟩
  rw [e i z1 (by lia),e j (by lia) (by lia)]
  exact h3 i j z1 z2 z3
theorem fm.mod (f) (hf:∀ p,(f p).1=p.1/\(f p).2.1=p.2.1):∀ {ps:List (Nat×Nat×Nat)} {a b:Nat} (i:Nat),fm rk xs a ps b->fm rk xs a (ps.modify i f) b
 | [],a,b,i,h=>by simpa using h
 | p::r,a,b,0,h=>by
  obtain ⟨h1,h2,h3,h4⟩:=h
  rw [List.modify_zero_cons]
  refine ⟨(hf p).1.trans h1,by rw [(hf p).2]; exact h2,by rw [(hf p).2]; exact h3,by rw [(hf p).2]; exact h4⟩
 | p::r,a,b,i+1,h=>by
  obtain ⟨h1,h2,h3,h4⟩:=h
  rw [List.modify_succ_cons]
  exact ⟨h1,h2,h3,h4.mod f hf i⟩
theorem fm.two:∀ {ps:List (Nat×Nat×Nat)} {a b:Nat} (i:Nat),fm rk xs a ps b->i+1<ps.length->∃ s n pw m pw2,ps[i]?=some (s,n,pw)/\ps[i+1]?=some (s+n,m,pw2)/\1<=n/\1<=m/\a<=s/\s+n+m<=b/\Seg rk xs s (s+n)/\Seg rk xs (s+n) (s+n+m) /\
 ∀ ys:Array Keyed,(∀ j,j<s\/s+n+m<=j->R rk ys j=R rk xs j)->Seg rk ys s (s+n+m)->fm rk ys a ((ps.set i (s,n+m,pw)).eraseIdx (i+1)) b
 | [],a,b,i,h,hi=>by simp at hi
 | [p],a,b,i,h,hi=>by simp at hi
 | p::q::r,a,b,0,h,hi=>by
  obtain ⟨h1,h2,h3,h4,h5,h6,h7⟩:=h
  obtain ⟨s,n,pw⟩:=p
  obtain ⟨s',m,pw2⟩:=q
  dsimp only at h1 h2 h3 h4 h5 h6 h7
  subst h1; subst h4
  have hl:=h7.le
  refine ⟨s,n,pw,m,pw2,rfl,rfl,h2,h5,Rv _,by lia,h3,h6,λys e hs=>?_⟩
  refine ⟨rfl,by dsimp only; lia,by dsimp only; rw [<- VI]; exact hs,?_⟩
  dsimp only
  rw [<- VI]
  exact h7.congr λi z1 z2=>e i (.inr z1)
 | p::q::r,a,b,i+1,h,hi=>by
  obtain ⟨h1,h2,h3,h4⟩:=h
  obtain ⟨s,n,pw,m,pw2,e1,e2,a1,a2,a3,a4,a5,a6,a7⟩:=h4.two i (by simpa using hi)
  refine ⟨s,n,pw,m,pw2,by simpa using e1,by simpa using e2,a1,a2,by lia,a4,a5,a6,λys e hs=>?_⟩
  rw [List.set_cons_succ,List.eraseIdx_cons_succ]
  refine ⟨h1,h2,λj j' z1 z2 z3=>?_,a7 ys e hs⟩
  rw [e j (.inl (by lia)),e j' (.inl (by lia))]
  exact h3 j j' z1 z2 z3
section
variable {st:SortSt}
theorem gY (hC:iC prog w A s κ rk L) (hB:Bs κ L st) (hc:fm rk (arrOf st) 0 (pendingOf st).toList b) (hb:b<=L.length) (hi:i+1<(pendingOf st).size)
 (h:∀ st',Bs κ L st'->fm rk (arrOf st') 0 (pendingOf st').toList b->(∀ j,b<=j->(arrOf st')[j]?=(arrOf st)[j]?)->(pendingOf st').size+1=(pendingOf st).size->Q true st'):wpS (model prog w) A E s (gX i) Q st:=by
 obtain ⟨sa,n,pw,m,pw2,e1,e2,a1,a2,a3,a4,a5,a6,a7⟩:=hc.two i (by rw [Sy]; exact hi)
 rw [Sm] at e1 e2
 refine rK hC hB e1 e2 a1 a2 (by lia) a5 a6 λst' b1 b2 b3 b4=>h st' b1 ?_ (λj hj=>b2 j (.inr (by lia))) ?_
 ·rw [b3,X6,Array.toList_setIfInBounds]
  exact a7 _ (λj hj=>cj (b2 j hj)) b4
 ·rw [b3,<- Sy,X6,Array.toList_setIfInBounds,List.length_eraseIdx,List.length_set,Sy,if_pos hi]; lia
theorem wpS_sortRuns (hC:iC prog w A s κ rk L) (hB:Bs κ L st) (hp:pendingOf st= #[]) (h:∀ st',Bs κ L st'->Seg rk (arrOf st') 0 L.length->Q () st'):wpS (model prog w) A E s rL Q st:=by
 unfold rL
 walk_at "dl sortRuns"
 dsimp only
 refine Ru (Tr ?_)
 have hsz:=hB.size
 rw [hsz]
 obtain ⟨mr,hmr⟩:∃ mr,Nj L.length L.length 0=mr:=⟨_,rfl⟩
 delta Nj at hmr
 rw [hmr]
 refine Ru (R9 (SI (I:=λx c st'=>c.1=none/\Bs κ L st'/\fm rk (arrOf st') 0 (pendingOf st').toList c.2/\c.2<=L.length/\(x<=c.2\/L.length<=c.2)) (Q:=λc st'=>c.1=none/\Bs κ L st'/\fm rk (arrOf st') 0 (pendingOf st').toList L.length) ?step ?fin ?init) ?post)
 case init=>exact ⟨rfl,hB,by rw [hp]; rfl,RY _,.inl (Rv _)⟩
 case fin =>
  rintro ⟨c,lo⟩ st' ⟨rfl,jF,hC',h1,h2⟩
  dsimp only at hC' h1 h2 |-
  have e:lo=L.length:=by
   rcases h2 with z | z
   ·lia
   ·lia
  subst e
  exact ⟨rfl,jF,hC'⟩
 case step =>
  rintro x ⟨c,lo⟩ st' _ hx ⟨rfl,jF,hC',h1,h2⟩
  dsimp only at hC' h1 h2 |-
  by_cases hge:lo>=L.length
  ·rw [if_pos hge]
   have e:lo=L.length:=by lia
   subst e
   exact Rw ⟨rfl,jF,hC'⟩
  rw [if_neg hge]
  refine Ru (show wpS _ _ _ _ (countRun' lo (L.length - lo)) _ _ from wpS_countRun hC jF (by lia) (by lia) λm st1 hB1 hM1 m1 m2 ms=>?_)
  have hC1:fm rk (arrOf st1) 0 (pendingOf st1).toList lo:=by
   rw [hM1.pend]; exact hC'.congr λi _ z=>cj (hM1.out i (.inl z))
  dsimp only
  by_cases hmin:m<mr
  ·rw [if_pos (show m<_ from hmin)]
   refine Ru (Ux (SM ⟨rfl,?_⟩))
   have hf1:m<=min (L.length - lo) mr:=by lia
   have hf2:lo+min (L.length - lo) mr<=L.length:=by lia
   refine Ru (show wpS _ _ _ _ (binarySort' lo (min (L.length - lo) mr) m) _ _ from wpS_binarySort hC hB1 hf2 hf1 ms λst2 hB2 hM2 hS2=>?_)
   have hC2:fm rk (arrOf st2) 0 (pendingOf st2).toList lo:=by
    rw [hM2.pend]; exact hC1.congr λi _ z=>cj (hM2.out i (.inl z))
   simp only [UL,Sn,if_false]
   generalize hF:min (L.length - lo) mr=F at hf1 hf2 hS2
   have hF':=hF
   clear hM2 hM1
   refine Ru (Tr ?_)
   rcases hbk:(pendingOf st2).back? with _ | ⟨q1,q2,q3⟩
   ·dsimp only
    refine Ru (TM (Rw ⟨rfl,⟨hB2.perm,hB2.kind,hB2.failed⟩,?_,by dsimp only; lia,by dsimp only; lia⟩))
    show fm rk (arrOf st2) 0 ((pendingOf st2).push (lo,F,0)).toList (lo+(F))
    rw [Sa]
    exact fm.app.mpr ⟨lo,hC2,rfl,by dsimp only; lia,hS2,rfl⟩
   ·dsimp only
    refine Ru (R9 (SI (I:=λy c st'=>c.1=none/\Bs κ L st'/\fm rk (arrOf st') 0 (pendingOf st').toList lo/\Seg rk (arrOf st') lo (lo+(F))) (Q:=λc st'=>c.1=none/\Bs κ L st'/\fm rk (arrOf st') 0 (pendingOf st').toList lo/\Seg rk (arrOf st') lo (lo+(F))) ?_ (λ_ _ z=>z) ⟨rfl,hB2,hC2,hS2⟩) ?_)
    ·rintro y ⟨c,u⟩ st3 _ hy ⟨rfl,vA,zS,D0⟩
     refine Ru (Tr ?_)
     by_cases hs1:(pendingOf st3).size>1
     ·rw [if_pos hs1]
      obtain ⟨⟨r1,r2,r3⟩,er⟩:∃ t,(pendingOf st3)[(pendingOf st3).size - 2]?=some t:=⟨_,RZ (show (pendingOf st3).size - 2<(pendingOf st3).size by lia)⟩
      rw [er]
      dsimp only
      split
      ·exact Rw ⟨rfl,vA,zS,D0⟩
      ·refine Ru (show wpS _ _ _ _ (gX ((pendingOf st3).size - 2)) _ _ from gY hC vA zS (by lia) (by lia) λst4 hB4 hC4 ho4 hz4=>?_)
       simp only [UL,Sn,if_false]
       exact Rw ⟨rfl,hB4,hC4,λa b z1 z2 z3=>by rw [cj (ho4 a z1),cj (ho4 b (by lia))]; exact D0 a b z1 z2 z3⟩
     ·rw [if_neg hs1]
      exact Rw ⟨rfl,vA,zS,D0⟩
    ·rintro ⟨c,u⟩ st3 ⟨hc,vA,zS,D0⟩
     dsimp only at hc |-
     rw [hc]
     dsimp only
     refine Ru (TM (Ru (TM (Rw ⟨rfl,⟨vA.perm,vA.kind,vA.failed⟩,?_,by dsimp only; lia,by dsimp only; lia⟩))))
     show fm rk (arrOf st3) 0 (((pendingOf st3).modify ((pendingOf st3).size - 1) _).push (lo,F,0)).toList (lo+(F))
     rw [Sa,Array.toList_modify]
     refine fm.app.mpr ⟨lo,?_,rfl,by dsimp only; lia,D0,rfl⟩
     refine fm.mod _ (λp=>?_) _ zS
     exact ⟨rfl,rfl⟩
  ·rw [if_neg (show ¬ m<_ from hmin)]
   refine Ru (Tr ?_)
   rcases hbk:(pendingOf st1).back? with _ | ⟨q1,q2,q3⟩
   ·dsimp only
    refine Ru (TM (Rw ⟨rfl,⟨hB1.perm,hB1.kind,hB1.failed⟩,?_,by dsimp only; lia,by dsimp only; lia⟩))
    show fm rk (arrOf st1) 0 ((pendingOf st1).push (lo,m,0)).toList (lo+(m))
    rw [Sa]
    exact fm.app.mpr ⟨lo,hC1,rfl,by dsimp only; lia,ms,rfl⟩
   ·dsimp only
    refine Ru (R9 (SI (I:=λy c st'=>c.1=none/\Bs κ L st'/\fm rk (arrOf st') 0 (pendingOf st').toList lo/\Seg rk (arrOf st') lo (lo+(m))) (Q:=λc st'=>c.1=none/\Bs κ L st'/\fm rk (arrOf st') 0 (pendingOf st').toList lo/\Seg rk (arrOf st') lo (lo+(m))) ?_ (λ_ _ z=>z) ⟨rfl,hB1,hC1,ms⟩) ?_)
    ·rintro y ⟨c,u⟩ st3 _ hy ⟨rfl,vA,zS,D0⟩
     refine Ru (Tr ?_)
     by_cases hs1:(pendingOf st3).size>1
     ·rw [if_pos hs1]
      obtain ⟨⟨r1,r2,r3⟩,er⟩:∃ t,(pendingOf st3)[(pendingOf st3).size - 2]?=some t:=⟨_,RZ (show (pendingOf st3).size - 2<(pendingOf st3).size by lia)⟩
      rw [er]
      dsimp only
      split
      ·exact Rw ⟨rfl,vA,zS,D0⟩
      ·refine Ru (show wpS _ _ _ _ (gX ((pendingOf st3).size - 2)) _ _ from gY hC vA zS (by lia) (by lia) λst4 hB4 hC4 ho4 hz4=>?_)
       simp only [UL,Sn,if_false]
       exact Rw ⟨rfl,hB4,hC4,λa b z1 z2 z3=>by rw [cj (ho4 a z1),cj (ho4 b (by lia))]; exact D0 a b z1 z2 z3⟩
     ·rw [if_neg hs1]
      exact Rw ⟨rfl,vA,zS,D0⟩
    ·rintro ⟨c,u⟩ st3 ⟨hc,vA,zS,D0⟩
     dsimp only at hc |-
     rw [hc]
     dsimp only
     refine Ru (TM (Ru (TM (Rw ⟨rfl,⟨vA.perm,vA.kind,vA.failed⟩,?_,by dsimp only; lia,by dsimp only; lia⟩))))
     show fm rk (arrOf st3) 0 (((pendingOf st3).modify ((pendingOf st3).size - 1) _).push (lo,m,0)).toList (lo+(m))
     rw [Sa,Array.toList_modify]
     refine fm.app.mpr ⟨lo,?_,rfl,by dsimp only; lia,D0,rfl⟩
     refine fm.mod _ (λp=>?_) _ zS
     exact ⟨rfl,rfl⟩
 case post =>
  rintro ⟨c,lo⟩ st' ⟨hc,jF,hC'⟩
  dsimp only at hc |-
  rw [hc]
  dsimp only
  have hl0:=hC'.le
  rw [Sy] at hl0
  refine Ru (R9 (SI (I:=λx c st2=>c.1=none/\Bs κ L st2/\fm rk (arrOf st2) 0 (pendingOf st2).toList L.length/\((pendingOf st2).size<=1\/(pendingOf st2).size+x<=L.length)) (Q:=λc st2=>c.1=none/\Bs κ L st2/\fm rk (arrOf st2) 0 (pendingOf st2).toList L.length/\(pendingOf st2).size<=1) ?mstep ?mfin ⟨rfl,jF,hC',.inr (by lia)⟩) ?mpost)
  case mfin =>
   rintro c2 st2 ⟨a1,a2,a3,a4⟩
   exact ⟨a1,a2,a3,by lia⟩
  case mpost =>
   rintro ⟨c2,u⟩ st2 ⟨a1,a2,a3,a4⟩
   dsimp only at a1 |-
   rw [a1]
   refine Rw (h st2 a2 ?_)
   rw [<- Sy] at a4
   match e:(pendingOf st2).toList,a4 with
   | [],_ =>
    rw [e] at a3
    have z:0=L.length:=a3
    intro i j _ _ hj; lia
   | [p],_ =>
    rw [e] at a3
    obtain ⟨b1,b2,b3,b4⟩:=a3
    have z:0+p.2.1=L.length:=b4
    rw [<- z]; exact b3
  case mstep =>
   rintro x ⟨c2,u⟩ st2 _ hx ⟨a1,a2,a3,a4⟩
   refine Ru (Tr ?_)
   by_cases hs1:(pendingOf st2).size<=1
   ·rw [if_pos hs1]
    exact Rw ⟨rfl,a2,a3,hs1⟩
   ·rw [if_neg hs1]
    have key:∀ i,i+1<(pendingOf st2).size->wpS (model prog w) A E s (gX i) (λr st3=>r=true/\Bs κ L st3/\fm rk (arrOf st3) 0 (pendingOf st3).toList L.length/\(pendingOf st3).size+1=(pendingOf st2).size) st2:=λi hi =>
     gY hC a2 a3 (Rv _) hi λst3 b1 b2 _ b3=>⟨rfl,b1,b2,b3⟩
    refine Ru (R9 (show wpS _ _ _ _ (gX _) _ _ from key _ ?_) λr st3 hr=>?_)
    ·unfold pendingOf at hs1 |-
     repeat' split
     all_goals lia
    ·obtain ⟨rfl,b1,b2,b3⟩:=hr
     simp only [UL,Sn,if_false]
     exact Rw ⟨rfl,b1,b2,.inr (by lia)⟩
end
end SR
namespace SR
open PySem PyProof.Rows
noncomputable def dup (vs:List Value):List Keyed:=vs.map λv=>(v,v)
theorem wR (vs):(vs.toArray.zip vs.toArray).toList=dup vs:=by
 unfold dup
 rw [Array.toList_zip]
 induction vs with
 | nil=>rfl
 | cons v vs ih=>simpa using ih
def Ord (rk:Keyed->Int) (b:Bool) (out:List Value):Prop:=out.Pairwise λx y=>if b then rk (y,y)<=rk (x,x) else rk (x,x)<=rk (y,y)
theorem rM {xs:Array Keyed} (h:xs.toList.Perm (dup vs)):(xs.toList.map (·.2)).Perm vs/\∀ p∈xs.toList,p=(p.2,p.2):=by
 refine ⟨?_,λp hp=>?_⟩
 ·have q:=h.map (·.2)
  have e:(dup vs).map (·.2)=vs:=by
   unfold dup
   rw [Sv]
   exact List.map_id' vs
  rwa [e] at q
 ·have:=h.mem_iff.mp hp
  simp only [dup,Sb] at this
  obtain ⟨v,_,rfl⟩:=this
  rfl
theorem FF {st:SortSt} (hp:(arrOf st).toList.Perm (dup vs)) (hs:Seg rk (arrOf st) 0 (dup vs).length) (b) :
 ((if b=true then ((arrOf st).map (·.2)).reverse else (arrOf st).map (·.2)).toList).Perm vs/\Ord rk b (if b=true then ((arrOf st).map (·.2)).reverse else (arrOf st).map (·.2)).toList:=by
 obtain ⟨h1,h2⟩:=rM hp
 have up:((arrOf st).toList.map (·.2)).Pairwise λx y=>rk (x,x)<=rk (y,y):=by
  rw [Vy]
  refine WT.mpr λi j hi hj hij=>?_
  have l:=hp.length_eq
  simp only [Sy] at hi hj l
  have z:=hs i j (RY _) (SY hij) (by lia)
  have ei:(arrOf st)[i]?=some ((arrOf st).toList[i]'(by simpa using hi)):=by simp [hi]
  have ej:(arrOf st)[j]?=some ((arrOf st).toList[j]'(by simpa using hj)):=by simp [hj]
  rw [dX ei,dX ej] at z
  have e1:=h2 _ (Sg (show i<(arrOf st).toList.length by simpa using hi))
  have e2:=h2 _ (Sg (show j<(arrOf st).toList.length by simpa using hj))
  rw [e1,e2] at z
  exact z
 cases b with
 | false=>simp only [Sn,if_false,XX]; exact ⟨h1,up.imp λh=>by simpa using h⟩
 | true =>
  simp only [if_true,U8,XX]
  refine ⟨(XG _).trans h1,?_⟩
  unfold Ord
  rw [List.pairwise_reverse]
  exact up.imp λh=>by simpa using h
def Qa (prog:Program) (w:World) (A:Around) (s:Shared) (a:Addr) (vs:List Value) (κ:SortKind) (rk:Keyed->Int):Prop :=
 ∀ h':Heap,(∀ c o,c≠a->s.heap.get? c=some o->h'.get? c=some o) ->
  (∀ (Q:SortKind->Shared->Prop) (E:Value->Shared->Prop),2<=vs.length->Q κ { s with heap:=h' }->wpAny (model prog w) A (keyKind' vs.toArray) Q E { s with heap:=h' })/\iC prog w A { s with heap:=h' } κ rk (dup vs)
theorem yJ (ho:s.heap.get? a=some (seqObj "list" vs.toArray n)) (hk:Qa prog w A s a vs κ rk) (hz:vs.length<=sizeLine)
 (h:∀ out:Array Value,out.toList.Perm vs->Ord rk b out.toList->P (.done (.ret .none)) { s with heap:=sortedHeap s.heap a vs out }) :
 wpAny (model prog w) A (Builtin.«list.sort» ⟨[.ref a],[(Rp "reverse",.bool b)]⟩) P E s:=by
 rw [list_sort_rev]
 have lta:a<s.heap.objs.size:=Ry ho
 refine Rq (UN ho rfl (Rq (Tj ho rfl ?_ (by simpa using hz))))
 obtain ⟨e1,ho1⟩:∃ e1,(s.heap.update a (R7 λ_=> #[])).get? a=some (seqObj "list" #[] e1):=⟨_,Wh ho (λ_=> #[])⟩
 have oth:∀ c o,c≠a->s.heap.get? c=some o->(s.heap.update a (R7 λ_=> #[])).get? c=some o:=λc o hc q=>by rw [T5 _ _ _ _ hc]; exact q
 have sz1:(s.heap.update a (R7 λ_=> #[])).objs.size=s.heap.objs.size:=XW ..
 refine Rq (Vk ho1 rfl (Rq (Ws ?_ (by simpa using hz))))
 refine Rq (Wz (Tw ?_))
 show wpAny (model prog w) A _ P E { s with heap:=((s.heap.update a (R7 λ_=> #[])).push (seqObj "tuple" vs.toArray 0)).push (seqObj "list" #[] 0) }
 have ho6:(((s.heap.update a (R7 λ_=> #[])).push (seqObj "tuple" vs.toArray 0)).push (seqObj "list" #[] 0)).get? a=some (seqObj "list" #[] e1):=Rx _ (Rx _ ho1)
 obtain ⟨hkk,hC⟩:=hk (((s.heap.update a (R7 λ_=> #[])).push (seqObj "tuple" vs.toArray 0)).push (seqObj "list" #[] 0)) λc o hc q=>Rx _ (Rx _ (oth c o hc q))
 have fin:∀ st':SortSt,(arrOf st').toList.Perm (dup vs)->Seg rk (arrOf st') 0 (dup vs).length ->
  P (.done (.ret .none)) { s with heap:=sortedHeap s.heap a vs (if b then ((arrOf st').map (·.2)).reverse else (arrOf st').map (·.2)) }:=λst' hp hs =>
  let ⟨q1,q2⟩:=FF hp hs b; h _ q1 q2
 have hstart:(if b=true then (vs.toArray.zip vs.toArray).reverse else vs.toArray.zip vs.toArray).toList.Perm (dup vs):=by
  cases b with
  | false=>rw [if_neg RG,wR]
  | true=>rw [if_pos rfl,U8,wR]; exact XG _
 dsimp only
 have told:∀ t:Sem Fin,wpAny (model prog w) A t P E { s with heap:=((s.heap.update a (R7 λ_=> #[])).push (seqObj "tuple" vs.toArray 0)).push (seqObj "list" #[] 0) } ->
  wpAny (model prog w) A (if b=true then (do let _ <- rule "list.sort.reverse"; t) else t) P E { s with heap:=((s.heap.update a (R7 λ_=> #[])).push (seqObj "tuple" vs.toArray 0)).push (seqObj "list" #[] 0) }:=λt ht=>by
  split
  ·exact Rq (SM ht)
  ·exact ht
 refine told _ ?_
 have hlen:∀ {xs:Array Keyed},xs.toList.Perm (dup vs)->(if b=true then (Array.map (λx=>x.snd) xs).reverse else Array.map (λx=>x.snd) xs).size<=sizeLine+1:=λ{xs} hp=>by
  have l:=hp.length_eq
  simp only [Sy,dup,RB] at l
  split
  ·rw [Array.size_reverse,Array.size_map]; lia
  ·rw [Array.size_map]; lia
 by_cases h2:vs.toArray.size<2
 ·rw [if_pos h2,if_pos h2]
  refine Rq (Rt ?_)
  rw [StateT.run_pure]
  refine Rq (Rt ?_)
  dsimp only
  refine Rq (Vk ho6 rfl (Rq (Tj ho6 rfl ?_ (hsz2:=hlen hstart))))
  simp only [bne_self_eq_false,Sn,if_false]
  refine Rt (fin (Uv general' (if b=true then (vs.toArray.zip vs.toArray).reverse else vs.toArray.zip vs.toArray) #[] 7 none) hstart ?_)
  intro i j _ hij hj
  have hl:(dup vs).length<2:=by simpa [dup] using h2
  have:i=j:=by lia
  subst this; exact SK _
 ·rw [if_neg h2,if_neg h2]
  refine Rq (hkk _ _ (by simpa using h2) ?_)
  refine Rq (Sk (wpS_sortRuns (κ:=κ) (rk:=rk) (L:=dup vs) (st:=Uv κ (if b=true then (vs.toArray.zip vs.toArray).reverse else vs.toArray.zip vs.toArray) #[] 7 none)
   (Q:=λ_ st'=>(arrOf st').toList.Perm (dup vs)/\failedOf st'=none/\Seg rk (arrOf st') 0 (dup vs).length) hC ⟨hstart,rfl,rfl⟩ rfl λst' a1 a2=>⟨a1.perm,a1.failed,a2⟩) ?_ λ_ _ e=>e)
  rintro ⟨⟨⟩,st'⟩ s' ⟨rfl,hp,hf,hs⟩
  dsimp only
  refine Rq (Vk ho6 rfl (Rq (Tj ho6 rfl ?_ (hsz2:=hlen hp))))
  rw [hf]
  simp only [bne_self_eq_false,Sn,if_false]
  exact Rt (fin st' hp hs)
section
variable {α:Type} {lt:α->α->Bool} {L:List α}
theorem filter_le:∀ {l:List α},(∀ z∈l,p z=true->q z=true)->(l.filter p).length<=(l.filter q).length
 | [],_=>Rv _
 | x::l,h=>by
  have ih:=filter_le (l:=l) λz hz=>h z (RH _ hz)
  have hx:=h x RD
  cases e:p x with
  | false =>
   rw [Vr (by simp [e])]
   by_cases e2:q x=true
   ·rw [UA e2]; exact XE ih
   ·rw [Vr e2]; exact ih
  | true =>
   rw [UA e,UA (hx e)]
   exact VB ih
theorem filter_lt:∀ {l:List α},(∀ z∈l,p z=true->q z=true)->(∃ z∈l,q z=true/\p z=false)->(l.filter p).length<(l.filter q).length
 | [],_,h=>by obtain ⟨z,h,_⟩:=h; cases h
 | x::l,h,g=>by
  have h':∀ z∈l,p z=true->q z=true:=λz hz=>h z (RH _ hz)
  have hx:=h x RD
  by_cases e:p x=true
  ·rw [UA e,UA (hx e)]
   obtain ⟨z,hz,z1,z2⟩:=g
   rcases RL.mp hz with rfl | hz
   ·rw [e] at z2; cases z2
   ·exact Nat.succ_lt_succ (filter_lt h' ⟨z,hz,z1,z2⟩)
  ·rw [Vr e]
   by_cases e2:q x=true
   ·rw [UA e2]; exact Nat.lt_succ_of_le (filter_le h')
   ·rw [Vr e2]
    obtain ⟨z,hz,z1,z2⟩:=g
    rcases RL.mp hz with rfl | hz
    ·exact absurd z1 e2
    ·exact filter_lt h' ⟨z,hz,z1,z2⟩
structure LN (lt:α->α->Bool) (L:List α):Prop where
 irr:∀ x∈L,lt x x=false
 tr:∀ x∈L,∀ y∈L,∀ z∈L,lt x y=true->lt y z=true->lt x z=true
 tot:∀ x∈L,∀ y∈L,x≠y->lt x y=true\/lt y x=true
noncomputable def rank (lt:α->α->Bool) (L:List α) (x:α):Int:=((L.filter λz=>lt z x).length:Int)
theorem j9 (h:LN lt L) (hx:x∈L) (hy:y∈L) (e:lt x y=true):rank lt L x<rank lt L y:=by
 have q:=filter_lt (l:=L) (p:=λz=>lt z x) (q:=λz=>lt z y) (λz hz hzx=>h.tr z hz x hx y hy hzx e) ⟨x,hx,e,h.irr x hx⟩
 unfold rank; lia
theorem FG (h:LN lt L) (hx:x∈L) (hy:y∈L):decide (rank lt L x<rank lt L y)=lt x y:=by
 classical
 cases e:lt x y with
 | true=>exact decide_eq_true (j9 h hx hy e)
 | false =>
  refine decide_eq_false λz=>?_
  by_cases w:x=y
  ·subst w; exact absurd z (Int.lt_irrefl _)
  ·rcases h.tot x hx y hy w with q | q
   ·rw [e] at q; cases q
   ·have:=j9 h hy hx q; lia
theorem gc (hp:n.Perm m):∀ {l:List α},Paired S l m->∃ l',l'.Perm l/\Paired S l' n:=by
 induction hp with
 | nil=>intro l h; exact ⟨l,.refl _,h⟩
 | cons x _ ih =>
  intro l h
  cases h with
  | cons r t=>obtain ⟨l',h1,h2⟩:=ih t; exact ⟨_::l',h1.cons _,.cons r h2⟩
 | swap x y l' =>
  intro l h
  cases h with
  | cons r t=>cases t with | cons r2 t2=>exact ⟨_,.swap _ _ _,.cons r2 (.cons r t2)⟩
 | trans _ _ ih1 ih2 =>
  intro l h
  obtain ⟨l1,h1,h2⟩:=ih2 h
  obtain ⟨l2,h3,h4⟩:=ih1 h2
  exact ⟨l2,h3.trans h1,h4⟩
theorem gZ (h:Paired S l m):∀ u∈m,∃ x∈l,S x u:=by
 induction h with
 | nil=>intro u hu; cases hu
 | cons r t ih =>
  intro u hu
  rcases RL.mp hu with rfl | hu
  ·exact ⟨_,RD,r⟩
  ·obtain ⟨x,h1,h2⟩:=ih u hu; exact ⟨x,RH _ h1,h2⟩
open Classical in
noncomputable def B3 {β:Type} (S:α->Value->Prop) (lt:α->α->Bool) (L:List α) (p:Value×β):Int:=if h:∃ x,x∈L/\S x p.1 then rank lt L h.choose else 0
theorem kc (inj:∀ x y u,S x u->S y u->x=y) (hx:x∈L) (h:S x p.1):B3 S lt L p=rank lt L x:=by
 have e:∃ x,x∈L/\S x p.1:=⟨x,hx,h⟩
 unfold B3
 rw [dif_pos e,inj _ _ _ e.choose_spec.2 h]
theorem B4 (inj:∀ x y u,S x u->S y u->x=y) (h:LN lt L) (nd:L.Nodup) (hL:Paired S L us) (hp:out.Perm us) (ho:Ord (B3 S lt L) b out) :
 ∃ L',L'.Perm L/\L'.Pairwise (λx y=>if b then lt y x=true else lt x y=true)/\Paired S L' out:=by
 obtain ⟨L',h1,h2⟩:=gc hp hL
 refine ⟨L',h1,?_,h2⟩
 have hm:∀ x∈L',x∈L:=λx hx=>h1.mem_iff.mp hx
 have nd':L'.Nodup:=h1.nodup_iff.mpr nd
 clear h1 hp hL nd
 unfold Ord at ho
 induction h2 with
 | nil=>exact .nil
 | @cons x u xs us r t ih =>
  obtain ⟨q1,q2⟩:=U9.mp ho
  obtain ⟨n1,n2⟩:=Ul.mp nd'
  refine .cons (λy hy=>?_) (ih q2 (λz hz=>hm z (RH _ hz)) n2)
  have hx:=hm x RD
  have hyL:=hm y (RH _ hy)
  obtain ⟨v,hv,sv⟩:∃ v∈us,S y v:=by
   clear ih ho q1 q2 n1 n2 hm nd'
   induction t with
   | nil=>cases hy
   | cons r t ih2 =>
    rcases RL.mp hy with rfl | hy
    ·exact ⟨_,RD,r⟩
    ·obtain ⟨v,h1,h2⟩:=ih2 hy; exact ⟨v,RH _ h1,h2⟩
  have q:=q1 v hv
  rw [kc inj hx (p:=(u,u)) r,kc inj hyL (p:=(v,v)) sv] at q
  have ne:x≠y:=λz=>n1 (z ▸ hy)
  cases b with
  | true =>
   simp only [if_true] at q |-
   rcases h.tot x hx y hyL ne with w | w
   ·have:=j9 h hx hyL w; lia
   ·exact w
  | false =>
   simp only [Sn,if_false] at q |-
   rcases h.tot x hx y hyL ne with w | w
   ·exact w
   ·have:=j9 h hyL hx w; lia
end
theorem JY (inj:∀ x y u,S x u->S y u->x=y) (h:LN lt L) (hL:Paired S L us)
 (hk:∀ x∈L,∀ y∈L,∀ u v,S x u->S y v->∀ (E:Value->Shared->Prop) (Q:Bool->Shared->Prop),Q (lt x y) s->wpAny (model prog w) A (keyLt' κ u v) Q E s):iC prog w A s κ (B3 S lt L) (dup us):=by
 intro p hp q hq E Q hQ
 simp only [dup,Sb] at hp hq
 obtain ⟨u,hu,rfl⟩:=hp
 obtain ⟨v,hv,rfl⟩:=hq
 obtain ⟨x,hx,sx⟩:=gZ hL u hu
 obtain ⟨y,hy,sy⟩:=gZ hL v hv
 refine hk x hx y hy u v sx sy E Q ?_
 rw [kc inj hx (p:=(u,u)) sx,kc inj hy (p:=(v,v)) sy,FG h hx hy] at hQ
 exact hQ
end SR
namespace SR
open PySem PySem.Calls PyProof.Rows L2 EV
theorem mS (a):Builtin.«list.sort» ⟨[.ref a],[(Rp "key",.builtin "len")]⟩=(do
 let items <- UD (.ref a)
 Uh (.ref a) λ_=> #[]
 let before <- seqEpoch a
 let held <- newTuple items.toList
 let keyStore <- newList []
 holding [held,keyStore] do
  rule "list.sort.key"
  for x in items do
   match <- (call (.builtin "len") [x]).attempt with
   | .ok k=>Uh keyStore (·.push k)
   | .error e =>
    rule "list.sort.key-raised"
    let made <- UD keyStore
    Uh keyStore λ_=> #[]
    letGo made.toList.reverse [e]
    Uh (.ref a) λ_=>items; throw e
  let keys <- UD keyStore
  let kind <- if items.size<2 then pure general' else keyKind' keys
  let ((),s) <- (if items.size<2 then pure () else sortRuns').run (Uv kind (keys.zip items) #[] 7 none)
  Uh keyStore λ_=> #[]
  letGo ((arrOf s).map (·.1)).toList (failedOf s).toList
  let touched:=(<- seqEpoch a) != before
  Uh (.ref a) λ_=>(arrOf s).map (·.2)
  if let some e:=failedOf s then rule "list.sort.comparison-raised"; throw e
  if touched then rule "list.sort.modified"; raiseError "ValueError" "list modified during sort"
  ret .none):=by
 rfl
theorem g6 (a v):argsOk "list.sort" ⟨[a],[(Rp "key",v)]⟩:=by unfold argsOk; kernel_rfl
theorem jT (a v):argsOk "sorted" ⟨[a],[(Rp "key",v)]⟩:=by unfold argsOk; kernel_rfl
noncomputable def intOf (p:Keyed):Int:=match p.1 with | .int m _=>m | _=>0
theorem wU:∀ {ks vs:List Value},ks.length=vs.length->(ks.zip vs).map (·.2)=vs
 | [],[],_=>rfl
 | k::ks,v::vs,h=>by rw [Xq,RC,wU (by simpa using h)]
 | [],_::_,h=>by simp at h
 | _::_,[],h=>by simp at h
theorem wV {ks vs:List Value} {ms:List Int} (h:IntsAre ks ms) {p:Keyed} (hp:p∈ks.zip vs):∃ m t,p.1=.int m t:=by
 obtain ⟨k,v⟩:=p
 exact h.all k (Wn hp).1
theorem B5 (ho:s.heap.get? a=some (seqObj "list" vs.toArray n)) (hz:vs.length<=sizeLine)
 (hv:∀ v∈vs,∃ (l:Addr) (items:Array Value),v=.ref l/\l≠a/\s.heap.IsList l items/\items.size<=sizeLine)
 (h:∀ (out:Array Value) (h':Heap) (tk e:Nat),out.toList.Perm vs->h'.get? a=some (seqObj "list" out e)->(∀ c o,c≠a->s.heap.get? c=some o->h'.get? c=some o)->P (.done (.ret .none)) { s with heap:=h',toks:=tk }) :
 wpAny (model prog w) A (Builtin.«list.sort» ⟨[.ref a],[(Rp "key",.builtin "len")]⟩) P E s:=by
 rw [mS]
 have lta:a<s.heap.objs.size:=Ry ho
 refine Rq (UN ho rfl (Rq (Tj ho rfl ?_ (by simpa using hz))))
 obtain ⟨e1,ho1⟩:∃ e1,(s.heap.update a (R7 λ_=> #[])).get? a=some (seqObj "list" #[] e1):=⟨_,Wh ho (λ_=> #[])⟩
 have oth:∀ c o,c≠a->s.heap.get? c=some o->(s.heap.update a (R7 λ_=> #[])).get? c=some o:=λc o hc q=>by rw [T5 _ _ _ _ hc]; exact q
 refine Rq (Vk ho1 rfl (Rq (Ws ?_ (by simpa using hz))))
 refine Rq (Wz (Tw ?_))
 generalize hkS:((s.heap.update a (R7 λ_=> #[])).push (seqObj "tuple" vs.toArray 0)).objs.size=kS
 have hks:(((s.heap.update a (R7 λ_=> #[])).push (seqObj "tuple" vs.toArray 0)).push (seqObj "list" #[] 0)).get? kS=some (seqObj "list" #[] 0):=by rw [<- hkS]; exact RK _ rfl
 have kne:∀ c,c<s.heap.objs.size->c≠kS:=λc hc e=>by
  rw [<- hkS,size_push',XW] at e; lia
 have k1:∀ c o,c≠a->s.heap.get? c=some o->(((s.heap.update a (R7 λ_=> #[])).push (seqObj "tuple" vs.toArray 0)).push (seqObj "list" #[] 0)).get? c=some o:=λc o hc q=>Rx _ (Rx _ (oth c o hc q))
 have ho6:(((s.heap.update a (R7 λ_=> #[])).push (seqObj "tuple" vs.toArray 0)).push (seqObj "list" #[] 0)).get? a=some (seqObj "list" #[] e1):=Rx _ (Rx _ ho1)
 dsimp only
 generalize (((s.heap.update a (R7 λ_=> #[])).push (seqObj "tuple" vs.toArray 0)).push (seqObj "list" #[] 0))=h1 at hks k1 ho6 |-
 have hak:a≠kS:=kne a lta
 refine Rq (SM ?_)
 refine Rq (Sk (wpAny_forIn_array' _ (λrest _ s'=>∃ (dn:List Value) (ks:List Value) (ms:List Int) (hh:Heap) (tk e:Nat),vs=dn++rest/\s'={ s with heap:=hh,toks:=tk }/\IntsAre ks ms/\ks.length=dn.length/\hh.get? kS=some (seqObj "list" ks.toArray e)/\∀ c o,c≠kS->h1.get? c=some o->hh.get? c=some o)
  (λ_ s'=>∃ (ks:List Value) (ms:List Int) (hh:Heap) (tk e:Nat),s'={ s with heap:=hh,toks:=tk }/\IntsAre ks ms/\ks.length=vs.length/\hh.get? kS=some (seqObj "list" ks.toArray e)/\∀ c o,c≠kS->h1.get? c=some o->hh.get? c=some o) ?turn ?fin _ _ ?beg) ?rest λ_ _ e=>e)
 case beg=>exact ⟨[],[],[],h1,_,0,rfl,rfl,.nil,rfl,hks,λ_ _ _ q=>q⟩
 case fin =>
  rintro _ s' ⟨dn,ks,ms,hh,tk,e,e1,e2,e3,e4,e5,e6⟩
  rw [SJ] at e1
  exact ⟨ks,ms,hh,tk,e,e2,e3,by rw [e4,e1],e5,e6⟩
 case turn =>
  rintro v rest _ s' ⟨dn,ks,ms,hh,tk,e,ev,rfl,e3,e4,e5,e6⟩
  obtain ⟨l,items,rfl,hla,hli,hsz⟩:=hv v (by rw [ev]; simp)
  obtain ⟨o,q1,q2,q3⟩:=hli
  have hl':hh.IsList l items:=⟨o,e6 l o (kne l (Ry q1)) (k1 l o hla q1),q2,q3⟩
  refine Rq (Vg (call_len_list hl' (by have:=kC; lia) ?_))
  dsimp only
  have hkl:ks.length<=sizeLine:=by rw [e4]; have:=congrArg Vl ev; simp at this; lia
  refine Rq (Tj e5 rfl ?_ (by simpa using hkl) (by simp; lia))
  refine Rt ⟨dn++[.ref l],ks++[.int items.size (tk+1)],ms++[(items.size:Int)],_,_,e+1,by rw [ev]; simp,rfl,e3.append (.cons _ _ .nil),by simp [e4],?_,λc o hc q=>?_⟩
  ·have:=Wh e5 (λa=>a.push (.int items.size (tk+1)))
   simpa using this
  ·rw [T5 _ _ _ _ hc]; exact e6 c o hc q
 case rest =>
  rintro _ s' ⟨ks,ms,hh,tk,e,rfl,e3,e4,e5,e6⟩
  refine Rq (UN e5 rfl ?_)
  have zl:(ks.toArray.zip vs.toArray).toList=ks.zip vs:=by rw [Array.toList_zip]
  have hoa:=e6 a _ hak ho6
  have pl:∀ {st':SortSt},(arrOf st').toList.Perm (ks.zip vs)->((arrOf st').map (·.2)).toList.Perm vs:=λ{st'} hp=>by
   rw [XX]
   have:=hp.map (·.2)
   rwa [wU e4] at this
  have ho7:(hh.update kS (R7 λ_=>(#[]:Array Value))).get? a=some (seqObj "list" #[] e1):=by rw [T5 _ _ _ _ hak]; exact hoa
  have fin:∀ (out:Array Value),out.toList.Perm vs->P (.done (.ret .none)) { s with heap:=(hh.update kS (R7 λ_=>(#[]:Array Value))).update a (R7 λ_=>out),toks:=tk }:=λout hp =>
   h out _ _ _ hp (Wh ho7 (λ_=>out)) λc o hc q=>by
    have lc:=Ry q
    rw [T5 _ _ _ _ hc,T5 _ _ _ _ (kne c lc)]
    exact e6 c o (kne c lc) (k1 c o hc q)
  have hkz:(ks.toArray:Array Value).size<=sizeLine:=by rw [RP,e4]; exact hz
  have oz:∀ {out:Array Value},out.toList.Perm vs->out.size<=sizeLine+1:=λ{out} hp=>by
   have l:=hp.length_eq
   rw [Sy] at l; lia
  by_cases h2:vs.toArray.size<2
  ·rw [if_pos h2,if_pos h2]
   refine Rq (Rt ?_)
   rw [StateT.run_pure]
   refine Rq (Rt ?_)
   dsimp only
   have p0:=pl (st':=Uv general' (ks.toArray.zip vs.toArray) #[] 7 none) (by show (ks.toArray.zip vs.toArray).toList.Perm _; rw [zl])
   refine Rq (Tj e5 rfl ?_ hkz)
   refine Rq (UQ ?_)
   refine Rq (Vk ho7 rfl (Rq (Tj ho7 rfl ?_ (hsz2:=oz p0))))
   simp only [bne_self_eq_false,Sn,if_false]
   exact Rt (fin _ p0)
  ·rw [if_neg h2,if_neg h2]
   rw [ksk_kind (kz:=ms) e3 (by rw [RP,e4]; simpa using h2)]
   refine Rq (Rt ?_)
   have hC:iC prog w A { s with heap:=hh,toks:=tk } oneType' intOf (ks.zip vs):=λx hx y hy E Q hQ=>by
    obtain ⟨m,t,ex⟩:=wV e3 hx
    obtain ⟨m',t',ey⟩:=wV e3 hy
    unfold intOf at hQ
    rw [ex,ey] at hQ |-
    rw [keyLt'_oneType]
    exact oneLt_int hQ
   refine Rq (Sk (wpS_sortRuns (κ:=oneType') (rk:=intOf) (L:=ks.zip vs) (st:=Uv oneType' (ks.toArray.zip vs.toArray) #[] 7 none)
    (Q:=λ_ st'=>(arrOf st').toList.Perm (ks.zip vs)/\failedOf st'=none) hC ⟨(by show (ks.toArray.zip vs.toArray).toList.Perm _; rw [zl]),rfl,rfl⟩ rfl λst' a1 a2=>⟨a1.perm,a1.failed⟩) ?_ λ_ _ e=>e)
   rintro ⟨⟨⟩,st'⟩ s' ⟨rfl,hp,hf⟩
   dsimp only
   refine Rq (Tj e5 rfl ?_ hkz)
   refine Rq (UQ ?_)
   refine Rq (Vk ho7 rfl (Rq (Tj ho7 rfl ?_ (hsz2:=oz (pl hp)))))
   rw [hf]
   simp only [bne_self_eq_false,Sn,if_false]
   exact Rt (fin _ (pl hp))
end SR
namespace EV
open PySem PySem.Spec PySem.Calls PyProof.Rows L2
theorem yK (b) (x y):keyLt' (tuples' b) x y=(do
 let xs <- UD x
 let ys <- UD y
 for ((p,q),i) in (xs.toList.zip ys.toList).zipIdx do
  if !(<- eqBool p q) then return <- oneLt' (b && i == 0) p q
 return decide (xs.size<ys.size)):=rfl
theorem wX:∀ l:List Int,HT.lexLt l l=false
 | []=>rfl
 | x::l=>by rw [HT.c9,if_pos rfl]; exact wX l
theorem B6:∀ {a b c:List Int},HT.lexLt a b=true->HT.lexLt b c=true->HT.lexLt a c=true
 | [],[],_,h,_=>by cases h
 | [],_::_,[],_,h=>by cases h
 | [],_::_,_::_,_,_=>rfl
 | _::_,[],_,h,_=>by cases h
 | _::_,_::_,[],_,h=>by cases h
 | x::a,y::b,z::c,h,g=>by
  rw [HT.c9] at h g |-
  by_cases e:x=y
  ·subst e
   rw [if_pos rfl] at h
   by_cases f:x=z
   ·subst f; rw [if_pos rfl] at g |-; exact B6 h g
   ·rw [if_neg f] at g |-; exact g
  ·rw [if_neg e] at h
   have h:=of_decide_eq_true h
   by_cases f:y=z
   ·subst f; rw [if_neg e]; exact decide_eq_true h
   ·rw [if_neg f] at g
    have g:=of_decide_eq_true g
    rw [if_neg (by lia)]; exact decide_eq_true (by lia)
theorem pI:∀ {a b:List Int},a≠b->HT.lexLt a b=true\/HT.lexLt b a=true
 | [],[],h=>absurd rfl h
 | [],_::_,_=>.inl rfl
 | _::_,[],_=>.inr rfl
 | x::a,y::b,h=>by
  rw [HT.c9,HT.c9]
  by_cases e:x=y
  ·subst e
   rw [if_pos rfl,if_pos rfl]
   exact pI λz=>h (by rw [z])
  ·rw [if_neg e,if_neg (RS e)]
   rcases Int.lt_or_gt_of_ne e with z | z
   ·exact .inl (decide_eq_true z)
   ·exact .inr (decide_eq_true z)
noncomputable abbrev aL:=List Int×Int
noncomputable def cZ (x y:aL):Bool:=if x.1=y.1 then decide (x.2<y.2) else HT.lexLt x.1 y.1
theorem kg (L:List aL):SR.LN cZ L where
 irr:=λx _=>by unfold cZ; rw [if_pos rfl]; exact decide_eq_false (Int.lt_irrefl _)
 tr:=λx _ y _ z _ h g=>by
  unfold cZ at *
  by_cases e:x.1=y.1
  ·rw [if_pos e] at h
   by_cases f:y.1=z.1
   ·rw [if_pos f] at g; rw [if_pos (e.trans f)]
    exact decide_eq_true (Int.lt_trans (of_decide_eq_true h) (of_decide_eq_true g))
   ·rw [if_neg f] at g; rw [if_neg (λw=>f (e.symm.trans w)),e]; exact g
  ·rw [if_neg e] at h
   by_cases f:y.1=z.1
   ·rw [if_neg (λw=>e (w.trans f.symm)),<- f]; exact h
   ·rw [if_neg f] at g
    have q:=B6 h g
    rw [if_neg λw=>by rw [w,wX] at q; cases q]; exact q
 tot:=λx _ y _ h=>by
  unfold cZ
  by_cases e:x.1=y.1
  ·rw [if_pos e,if_pos e.symm]
   have:x.2≠y.2:=λz=>h (Prod.ext e z)
   rcases Int.lt_or_gt_of_ne this with z | z
   ·exact .inl (decide_eq_true z)
   ·exact .inr (decide_eq_true z)
  ·rw [if_neg e,if_neg (RS e)]
   exact pI e
noncomputable abbrev aW (t:aL):D:=.tup [.tup (t.1.map .int),.int t.2]
section
variable {X:Cx}
def pJ (K:Rr) (Hf:Hp) (d:D) (u:Value):Prop:=∃ v,RelV v u/\Rep K Hf d v
theorem rN (l m:List Int):mO 1 (.tup (l.map .int)) (.tup (m.map .int)):=.tup λi d e h1 h2=>by
 simp only [RO,RV] at h1 h2
 obtain ⟨x,_,rfl⟩:=h1
 obtain ⟨y,_,rfl⟩:=h2
 exact .sc rfl
theorem FH (x y):mO 2 (aW x) (aW y):=.tup λi d e h1 h2=>by
 rcases i with _ | _ | i
 ·simp at h1 h2; subst h1 h2; exact rN _ _
 ·simp at h1 h2; subst h1 h2; exact .sc rfl
 ·simp at h1
theorem B7 (h:aW x=aW y):x=y:=by
 simp only [D.tup.injEq,List.cons.injEq,D.int.injEq,and_true] at h
 have e:x.1=y.1:=by
  exact (List.map_inj_right (f:=D.int) (λa b e=>by injection e)).mp h.1
 exact Prod.ext e h.2
theorem iT:∀ {l:List Int} {ys:List V},ay X.K Hf (l.map D.int) ys->ys=l.map V.int
 | [],ys,h=>aB.mp h
 | n::l,ys,h=>by
  obtain ⟨y,r,rfl,z1,z2⟩:=aH.mp h
  rw [az] at z1; subst z1
  rw [iT z2]; rfl
theorem FI (I:Inv X aa σ H s) (sb:aN Hf H) (h1:pJ X.K Hf (aW x) u) (h2:pJ X.K Hf (aW y) u):x=y:=by
 obtain ⟨v,r1,q1⟩:=h1
 obtain ⟨v',r2,q2⟩:=h2
 have:=r1.inj r2
 subst this
 exact B7 (oU I sb 2 _ _ _ (FH x y) q1 q2)
theorem pK (I:Inv X aa σ H s) (sb:aN Hf H) (h:pJ X.K Hf (aW x) u):∃ a b its t,u=.ref a/\IsTup s.heap a #[.ref b,.int x.2 t]/\IsTup s.heap b its/\IntsAre its.toList x.1/\pJ X.K Hf (.tup (x.1.map .int)) (.ref b):=by
 obtain ⟨v,rv,q⟩:=h
 obtain ⟨a,xs,rfl,h1,h2⟩:=aM.mp q
 cases rv
 obtain ⟨p,r,rfl,q1,q2⟩:=aH.mp h2
 obtain ⟨p2,r2,rfl,q3,q4⟩:=aH.mp q2
 rw [aB] at q4; subst q4
 rw [az] at q3; subst q3
 obtain ⟨its,rel,tu,_⟩:=I.tuple (aC sb h1)
 cases rel with
 | cons r1 t1=>cases t1 with
  | cons r2 t2 =>
   cases t2
   obtain ⟨t,rfl⟩:=r2
   obtain ⟨b,ys,rfl,h3,h4⟩:=aM.mp q1
   cases r1
   obtain ⟨its2,rel2,tu2,_⟩:=I.tuple (aC sb h3)
   refine ⟨a,b,its2.toArray,t,rfl,tu,tu2,?_,.ref b,rfl,aM.mpr ⟨b,ys,rfl,h3,h4⟩⟩
   have e:=iT h4
   subst e
   exact intsAre_of rel2
theorem ic:∀ (l:List α) (r:List β) {Q:List β->Shared->Prop},Paired (λa b=>∀ (Q:β->Shared->Prop),Q b s->wpAny M A (f a) Q E s) l r->Q r s->wpAny M A (l.mapM f) Q E s
 | _,_,Q,.nil,h=>by rw [List.mapM_nil]; exact Rt h
 | _,_,Q,.cons q t,h=>by
  rw [List.mapM_cons]
  exact Rq (q _ (Rq (ic _ _ t (Rt h))))
theorem B8 (I:Inv X aa σ H s) (sb:aN Hf H) (h:Paired (λx u=>pJ X.K Hf (aW x) u) L us) (h2:2<=us.length) (hQ:Q (tuples' false) s):wpAny (model X.prog X.w) A (keyKind' us.toArray) Q E s:=by
 have key:∃ fs:List Value,fs.length=us.length/\(∀ f∈fs,s.TypeIs f "tuple")/\Paired (λu o=>∀ (Q:Option Value->Shared->Prop),Q o s->wpAny (model X.prog X.w) A (firstOfTuple' u) Q E s) us (fs.map some):=by
  clear h2 hQ
  induction h with
  | nil=>exact ⟨[],rfl,by simp,.nil⟩
  | @cons x u L us r t ih =>
   obtain ⟨fs,e1,e2,e3⟩:=ih
   obtain ⟨a,b,its,tk,rfl,t1,t2,_⟩:=pK I sb r
   refine ⟨.ref b::fs,by simp [e1],λf hf=>?_,.cons (λQ hQ=>?_) e3⟩
   ·rcases RL.mp hf with rfl | hf
    ·obtain ⟨o,ho,hc,_⟩:=t2; exact ⟨o,ho,hc⟩
    ·exact e2 f hf
   ·obtain ⟨o,ho,hc,n,hd⟩:=t1
    show wpAny _ _ (do
     if (<- typeOf (.ref a)) != .type "tuple" then return none
     return (<- UD (.ref a))[0]?) _ _ _
    refine Rq (UM (T:="tuple") ⟨o,ho,hc⟩ ?_)
    rw [if_neg (by simp)]
    exact Rq (UN ho hd (Rt hQ))
 obtain ⟨fs,e1,e2,e3⟩:=key
 rw [keyKind'_eq,List.mapM_toArray]
 simp only [bind_map_left]
 refine Rq (ic _ _ e3 ?_)
 rw [if_pos (by simp)]
 refine Rq (SM ?_)
 have e4:(List.map some fs).toArray.filterMap id=fs.toArray:=by simp
 rw [e4,oneTypeOnly'_eq,List.mapM_toArray]
 simp only [bind_map_left]
 have e5:Paired (λu o=>∀ (Q:Value->Shared->Prop),Q o s->wpAny (model X.prog X.w) A (typeOf u) Q E s) fs (fs.map λ_=>SN "tuple"):=by
  clear e1 e3 e4
  induction fs with
  | nil=>exact .nil
  | cons f fs ih=>exact .cons (λQ hQ=>UM (e2 f RD) hQ) (ih λg hg=>e2 g (RH _ hg))
 refine Rq (Rq (ic _ _ e5 ?_))
 obtain ⟨f,fs',rfl⟩:∃ f fs',fs=f::fs':=by
  match fs,e1 with
  | [],e1=>simp at e1; lia
  | f::fs',_=>exact ⟨f,fs',rfl⟩
 have h0:(List.map (λ_=>SN "tuple") (f::fs')).toArray[0]?=some (SN "tuple"):=by simp
 rw [h0]
 dsimp only
 rw [if_pos (by simp)]
 refine Rt (Rt ?_)
 have e6:(some (SN "tuple")).any (λx=>x != SN "tuple")=false:=by simp
 rw [e6]
 exact hQ
theorem JZ (I:Inv X aa σ H s) (sb:aN Hf H) (hA:A.units+10<cLine) (hx:pJ X.K Hf (aW x) u) (hy:pJ X.K Hf (aW y) v) (hQ:Q (cZ x y) s):wpAny (model X.prog X.w) A (keyLt' (tuples' false) u v) Q E s:=by
 obtain ⟨a,b,its,t,rfl,⟨o,ho,hc,n,hd⟩,t2,i2,z1⟩:=pK I sb hx
 obtain ⟨a',b',its',t',rfl,⟨o',ho',hc',n',hd'⟩,t2',i2',z2⟩:=pK I sb hy
 rw [yK]
 refine Rq (UN ho hd (Rq (UN ho' hd' ?_)))
 obtain ⟨w1,r1,q1⟩:=z1
 obtain ⟨w2,r2,q2⟩:=z2
 have e1:RT A s (.ref b) (.ref b') (decide (D.tup (x.1.map .int)=D.tup (y.1.map .int))):=nD I sb 1 _ _ _ _ _ _ A (rN x.1 y.1) q1 q2 r1 r2 (by lia)
 have e2:decide (D.tup (x.1.map D.int)=D.tup (y.1.map D.int))=decide (x.1=y.1):=by
  by_cases z:x.1=y.1
  ·rw [z]; simp
  ·have:¬ D.tup (x.1.map D.int)=D.tup (y.1.map D.int):=λw=>by
    injection w with w
    exact z ((List.map_inj_right (f:=D.int) (λa b e=>by injection e)).mp w)
   rw [decide_eq_false this,decide_eq_false z]
 rw [e2] at e1
 have ez:((#[R1 b,UT x.2 t]:Array Value).toList.zip (#[R1 b',UT y.2 t']:Array Value).toList).zipIdx=[((R1 b,R1 b'),0),((UT x.2 t,UT y.2 t'),1)]:=rfl
 rw [ez]
 have lti:∀ (bb:Bool) (m n:Int) (t u:Tok) (Q:Bool->Shared->Prop),Q (decide (m<n)) s->wpAny (model X.prog X.w) A (oneLt' (false && bb) (.int m t) (.int n u)) Q E s:=λbb m n t u Q h=>by
  rw [Bool.false_and,oneLt'_eq,if_neg RG]
  exact Rq (lt_int (Rt h))
 simp only [UI,List.forIn_nil]
 refine Rq (Rq (Rq (e1 _ _ _ _ ?_)))
 unfold cZ at hQ
 by_cases z:x.1=y.1
 ·rw [if_pos z] at hQ
  rw [decide_eq_true z]
  simp only [UL,Sn,if_false]
  refine Rt ?_
  dsimp only
  refine Rq (Rq ?_)
  refine wpAny_eqBool_int ?_
  by_cases w:x.2=y.2
  ·rw [show (x.2 == y.2)=true by simpa using w]
   simp only [UL,Sn,if_false]
   refine Rt (Rt ?_)
   dsimp only
   refine Rt ?_
   rw [w] at hQ
   simpa using hQ
  ·rw [show (x.2 == y.2)=false by simpa using w]
   simp only [Bool.not_false,if_true]
   refine Rq (lti _ _ _ _ _ _ (Rt ?_))
   dsimp only
   exact Rt (Rt hQ)
 ·rw [if_neg z] at hQ
  rw [decide_eq_false z]
  simp only [Bool.not_false,if_true]
  refine Rq ?_
  rw [Bool.false_and,oneLt'_eq,if_neg RG]
  refine Rq (HT.tY (s:=s) t2 t2' i2 i2' (by lia) ?_)
  refine Rt (Rt ?_)
  dsimp only
  exact Rt (Rt hQ)
end
noncomputable abbrev HA (X:Cx) (A:Around):Cx:={ X with A:=A }
theorem Nk (ok:X.Ok) (h1:X.calm=true->A.handled=none) (h2:A.frames=some X.stack):(HA X A).Ok :=
 ⟨ok.mod,ok.kind,ok.glob,ok.blt,ok.above,ok.inj,ok.has,ok.cab,h1,h2,ok.stk,ok.exf,ok.bs,ok.bsz,ok.noex,ok.exfs,ok.jf,ok.frf⟩
theorem lG (I:Inv X aa σ H s) (h1:X.calm=true->A.handled=none) (h2:A.frames=some X.stack):Inv (HA X A) aa σ H s :=
 ⟨Nk I.ok h1 h2,I.os,I.bare,I.base,I.loc,I.cell,I.free,I.freeC,I.pin,I.hok,I.len⟩
theorem iU (ok:X.Ok) (I:Inv (HA X A) aa σ H s):Inv X aa σ H s :=
 ⟨ok,I.os,I.bare,I.base,I.loc,I.cell,I.free,I.freeC,I.pin,I.hok,I.len⟩
theorem FJ {fp:List Addr} (h:∀ b∈fp,eZ X aa H b) (n:∀ b∈fp,H' b=none):∀ b∈fp,eZ X aa H' b:=λb hb=>⟨n b hb,(h b hb).2⟩
theorem B9 (hc:X.calm=true) (Tn:Turn X.prog X.w X.K (.Name nm np) J fp it tn) (io:jl X.K J ds Em)
 (hS0:Hb S=none) (hSf:S∉fp) (hn:ds.length<=sizeLine) (okX:X.Ok) (h1:X.A.in1.handled=none) (h2:X.A.in1.frames=some X.stack)
 (fin:∀ (s':Shared) (H' aq:Hp) (xs:List V),Inv X aa σ H' s'->H' S=some (.lst xs)->aq S=none->ay X.K aq ds xs->bx Hb Em H' aq->R (.ok (.ret res)) s') :
 ∀ (k i:Nat) (s:Shared) (H Hf:Hp) (xs:List V),ds.length - i=k->i<=ds.length->Inv X aa σ H s->tn i s.heap->(∀ b∈fp,eZ X aa H b)->H S=some (.lst xs)->Hf S=none->ay X.K Hf (ds.take i) xs->bx Hb Em H Hf ->
  codeAny (model X.prog X.w) X.A (.builtin "list.extend.loop" ⟨[.ref S,.ref it,res],[]⟩) R s:=by
 intro k
 induction k with
 | zero =>
  intro i s H Hf xs hk hi I t hf hS hfS hr g
  have e:i=ds.length:=by omega
  subst e
  rw [SX] at hr
  refine Wi PySem.F.entry_extend_loop ?_
  rw [V9 VY _]
  show wpAny _ X.A.in1 (pyNext (.ref it) >>= _) _ _ s
  refine Rq (Sk (Tn.done (HA X X.A.in1) rfl rfl rfl hc _ aa s σ H _ (lG I (λ_=>h1) h2) hf t (io.stop _ H Hf g.f g.b (Rv _))) (λr s' ⟨e,I'⟩=>?_) λ_ _ x=>x)
  subst e
  exact Rt (fin s' H Hf xs (iU okX I') hS hfS hr g)
 | succ k ih =>
  intro i s H Hf xs hk hi I t hf hS hfS hr g
  have lt:i<ds.length:=by omega
  have ed:ds[i]?=some ds[i]:=RU lt
  obtain ⟨hgo,hy⟩:=io.go i ds[i] H Hf g.f g.b ed
  refine Wi PySem.F.entry_extend_loop ?_
  rw [V9 VY _]
  show wpAny _ X.A.in1 (pyNext (.ref it) >>= _) _ _ s
  refine Rq (Sk (Tn.item (HA X X.A.in1) rfl rfl rfl hc i aa s σ H _ (lG I (λ_=>h1) h2) hf t hgo) (λr s1 ⟨u,e,hu⟩=>?_) λ_ _ x=>x)
  subst e
  show wpAny _ X.A.in1 (letOwnedTupleGo (.Name nm np) (.ref it) u >>= λ_=>(Uh (.ref S) (·.push u) >>= λ_=>again (.builtin "list.extend.loop" ⟨[.ref S,.ref it,res],[]⟩))) _ _ s1
  refine Rq (Sk hu (λ_ s2 ⟨x,H',I2,rx,y,t2,n2⟩=>?_) λ_ _ x=>x)
  have I2:=iU okX I2
  obtain ⟨aq,g',rd⟩:=hy x H' y
  have hS':H' S=some (.lst xs):=g'.s _ _ hS
  have hfS':aq S=none:=g'.n S hfS (by rw [hS]; simp) (by intro ys; rw [hS]; simp)
  obtain ⟨z,its,n,rv,el,eo⟩:=I2.qF hS'
  have hx:xs.length=i:=by rw [<- hr.length,Sq]; omega
  have hz:(xs++[x]).length<=sizeLine:=by simp only [R3,Sf,TX]; omega
  refine Rq (Tj eo rfl ?_ (by simp; omega) (by simp; omega))
  have ef:(λa:Array Value=>a.push u) its.toArray=(its++[u]).toArray:=by simp
  have I3:=I2.uc (f:=λa=>a.push u) (t':=s2.toks) hS' eo ef (rv.append (.cons rx .nil)) hz
  refine Rt ⟨plainId_quiet VY _,ih (i+1) _ (upd H' S (.lst (xs++[x]))) aq (xs++[x]) (by omega) lt I3 (Tn.keep _ _ _ t2 λb hb o e=>?_) (FJ hf λb hb=>?_) af hfS' ?_ (v9 (g.trans g') hS0 hfS')⟩
  ·exact (V5 _ _ (λw:S=b=>hSf (w ▸ hb))).trans e
  ·rw [av (λw:b=S=>hSf (w ▸ hb))]; exact n2 b hb
  ·rw [XF,ed]
   exact (hr.mono g'.f).append (ay.one rd)
theorem yL (hT:s.TypeIs (.ref v) "dict_items") (hQ:Q false s):wpAny (model prog w) A (U0 (.ref v)) Q E s:=by
 unfold U0
 refine Rq (wpAny_specialOf hT PySem.F.slot_dict_items_len.lookup ?_)
 have e:splitId "dict_items.__len__"=some ("dict_items","__len__"):=by decide +kernel
 dsimp only
 rw [e]
 dsimp only
 refine Rq (Wf (b:=true) hT (by rw [isSubtype_type]; kernel_rfl) ?_)
 rw [if_neg (by decide)]
 exact Rq (UM hT (Rt hQ))
theorem FL (I:Inv X aa σ H s) (hv:s.heap.IsItemsView v d) (hH:H d=some (.frz o u)) (hd:HO.dct u) :
 wpAny (model X.prog X.w) A (pyIter (.ref v)) (λitv s2=>∃ (it:Addr) (es:Array DictEntry) (ep:Nat),itv=.ref it/\s.heap.objs.size<=it/\Inv X aa σ H s2/\Turn X.prog X.w X.K tg (OL d o u) [it] it (λi h=>BK h it d i es.size ep)/\BK s2.heap it d 0 es.size ep/\(∀ b∈[it],eZ X aa H b) /\
  (∀ b o,s.heap.get? b=some o->s2.heap.get? b=some o)) E s:=by
 obtain ⟨ho,ok⟩:=(show bu X.prog X.w H s.heap d (.frz o u) from I.hok d _ hH)
 obtain ⟨hx,es,ep,hod,hp,hs,hz⟩:=dI ok hd ho
 refine nI hv ho hod ?_
 have hsz:es.size=(cM u).length:=by rw [To hp]; simp
 refine ⟨_,es,ep,rfl,Rv _,I.kept (t':=s.toks) λb o e=>Rx _ e,kZ (o:=o) (u:=u) (es:=es) (ep:=ep) hd hod (λz=>?_) hsz,⟨.none,false,.none,.none,RK _ rfl,.inl rfl⟩,λb hb=>?_,λb o e=>Rx _ e⟩
 ·have lt:=Ry ho
  rw [<- z] at lt
  exact absurd lt (Tp _)
 ·have e:b=s.heap.objs.size:=by simpa using hb
  subst e
  exact I.mE (Rv _) (I.hok.fresh (Rv _))
theorem nV (hc:X.calm=true) (h1:X.A.in1.handled=none) (h2:X.A.in1.frames=some X.stack) (I1:Inv X aa σ (upd H S (.lst [])) s) (sb:aN Hf H) (HS:H S=none) (hvS:S≠src) (hltS:S<s.heap.objs.size) (hn:ds.length<=sizeLine)
 (hT:(false || SN T == SN "list" || SN T == SN "tuple")=false) (ty:∀ s':Shared,(∀ b o,s.heap.get? b=some o->s'.heap.get? b=some o)->s'.TypeIs (.ref src) T)
 (hint:∀ (A:Around) (s':Shared) (Q:Bool->Shared->Prop) (E:Value->Shared->Prop),s'.TypeIs (.ref src) T->Q false s'->wpAny (model X.prog X.w) A (U0 (.ref src)) Q E s')
 (iter:wpAny (model X.prog X.w) X.A.in1 (pyIter (.ref src)) (λitv s2=>∃ (it:Addr) (tn:Nat->Heap->Prop) (J:It),itv=.ref it /\
   s.heap.objs.size<=it/\Inv X aa σ (upd H S (.lst [])) s2/\Turn X.prog X.w X.K (.Name "x" ⟨0,0,0,0⟩) J [it] it tn/\tn 0 s2.heap/\(∀ b∈[it],eZ X aa (upd H S (.lst [])) b)/\(∀ b o,s.heap.get? b=some o->s2.heap.get? b=some o)/\jl X.K J ds Hf) E s)
 (hR:∀ (s':Shared) (H' aq:Hp) (xs:List V),Inv X aa σ H' s'->H' S=some (.lst xs)->aq S=none->ay X.K aq ds xs->bx H Hf H' aq->R (.ok (.ret res)) s') :
 wpAny (model X.prog X.w) X.A.in1 (VV (.ref S) (.ref src) res) (λfin s'=>match fin with | .done f=>R (.ok f) s' | .again c=>c.quiet=true/\codeAny (model X.prog X.w) X.A c R s') E s:=by
 unfold VV
 have ne:Builtin.List.listSameRef (.ref S) (.ref src)=false:=by simp [Builtin.List.listSameRef,hvS]
 refine Rq (UM (ty s λ_ _ e=>e) ?_)
 rw [if_neg (by rw [ne,hT]; decide)]
 refine Rq (Sk iter (λitv s2 hh=>z3 hh λit tn J hh=>w8 hh λe hit I2 Tn t0 hf k2 io=>?_) λ_ _ x=>x)
 subst e
 refine Rq (Tw (hint _ s2 _ _ (ty s2 k2) ?_))
 have hSne:it≠S:=Uq (R8 hltS hit)
 have g0:bx H Hf (upd H S (.lst [])) Hf:=bx.fJ sb HS
 have fin:∀ s3:Shared,Inv X aa σ (upd H S (.lst [])) s3->tn 0 s3.heap->wpAny (model X.prog X.w) X.A.in1 (again (.builtin "list.extend.loop" ⟨[.ref S,.ref it,res],[]⟩)) (λfin s'=>match fin with | .done f=>R (.ok f) s' | .again c=>c.quiet=true/\codeAny (model X.prog X.w) X.A c R s') E s3:=λs3 I3 t3 =>
  Rt ⟨plainId_quiet VY _,B9 (X:=X) (Hb:=H) (Em:=Hf) hc Tn io HS (λm=>hSne (RN.mp m).symm) hn I1.ok h1 h2 hR ds.length 0 s3 _ Hf [] (by simp) (RY _) I3 t3 hf af (sb.free HS) (aB.mpr rfl) g0⟩
 obtain ⟨_,its,n,rv,el,eo⟩:=I2.qF (l:=S) (xs:=[]) af
 cases rv
 split
 ·refine Rq (SM ?_)
  unfold Builtin.List.listTouch
  refine Rq (Rq (Tj eo rfl ?_))
  have I3:=I2.uc (f:=λa=>a.push .none) (its':=[.none]) (ys:=[.non]) (t':=s2.toks) af eo (by simp) (.cons rfl .nil) (by show 1<=sizeLine; decide)
  obtain ⟨_,its3,n3,rv3,el3,eo3⟩:=I3.qF (l:=S) (xs:=[.non]) af
  cases rv3 with
  | cons r3 t3 =>
   cases t3
   cases r3
   refine Tj eo3 rfl ?_
   have I4:=I3.uc (f:=λa=>a.pop) (its':=[]) (ys:=[]) (t':=s2.toks) af eo3 (by simp) .nil (RY _)
   rw [oq,oq] at I4
   refine fin _ I4 (Tn.keep 0 _ _ t0 λb hb o e=>?_)
   have hbS:S≠b:=λw=>hSne (by rw [RN.mp hb] at w; exact w.symm)
   exact (V5 _ _ hbS).trans ((V5 _ _ hbS).trans e)
 ·exact fin s2 I2 t0
theorem uF (hc:X.calm=true) (h1:X.A.in1.handled=none) (h2:X.A.in1.frames=some X.stack) (I:Inv X aa σ H s) (sb:aN Hf H) (hlt:src<s.heap.objs.size) (hn:ds.length<=sizeLine) (hT:(false || SN T == SN "list" || SN T == SN "tuple")=false)
 (ty:∀ s':Shared,(∀ b o,s.heap.get? b=some o->s'.heap.get? b=some o)->s'.TypeIs (.ref src) T)
 (hint:∀ (A:Around) (s':Shared) (Q:Bool->Shared->Prop) (E:Value->Shared->Prop),s'.TypeIs (.ref src) T->Q false s'->wpAny (model X.prog X.w) A (U0 (.ref src)) Q E s')
 (iter:∀ (A:Around) (s1:Shared) (H1:Hp) (E:Value->Shared->Prop),Inv X aa σ H1 s1->aN Hf H1->(∀ b o,s.heap.get? b=some o->s1.heap.get? b=some o)->wpAny (model X.prog X.w) A (pyIter (.ref src)) (λitv s2=>∃ (it:Addr) (tn:Nat->Heap->Prop) (J:It),itv=.ref it /\
   s1.heap.objs.size<=it/\Inv X aa σ H1 s2/\Turn X.prog X.w X.K (.Name "x" ⟨0,0,0,0⟩) J [it] it tn/\tn 0 s2.heap/\(∀ b∈[it],eZ X aa H1 b)/\(∀ b o,s1.heap.get? b=some o->s2.heap.get? b=some o)/\jl X.K J ds Hf) E s1)
 (hQ:∀ (us:List Value) (s':Shared) (H' aq:Hp) (xs:List V),Inv X aa σ H' s'->Vals xs us->ay X.K aq ds xs->bx H Hf H' aq->ds.length<=sizeLine->Q us s'):wpAny (model X.prog X.w) X.A (collect (.ref src)) Q E s:=by
 unfold collect
 refine Rq (wpAny_runValue (Wi PySem.F.entry_proto_collect ?_))
 rw [V9 PySem.F.plain_proto_collect _]
 show wpAny _ X.A.in1 (newList [] >>= λl=>again (.builtin "list.__iadd__" ⟨[l,.ref src],[]⟩)) _ _ s
 have HS:H s.heap.objs.size=none:=I.hok.fresh (Rv _)
 have hvS:s.heap.objs.size≠src:=Uq hlt
 refine Rq (Td (Rt ⟨plainId_quiet PySem.F.plain_list_iadd _,Wi PySem.F.entry_list_iadd ?_⟩))
 rw [V9 PySem.F.plain_list_iadd _]
 generalize hS:s.heap.objs.size=S at *
 have I1:Inv X aa σ (upd H S (.lst [])) { s with heap:=s.heap.push { cls:=.type "list",data:=.seq ([]:List Value).toArray },toks:=s.toks }:=by
  have:=I.EH (t':=s.toks) (ys:=[]) (its:=[]) .nil (RY _)
  rw [hS] at this
  exact this
 show wpAny _ X.A.in1 (VV (.ref S) (.ref src) (.ref S)) _ _ { s with heap:=s.heap.push { cls:=.type "list",data:=.seq ([]:List Value).toArray } }
 have k1:∀ b o,s.heap.get? b=some o->(s.heap.push { cls:=.type "list",data:=.seq ([]:List Value).toArray }).get? b=some o:=λb o e=>Rx _ e
 generalize hs1:({ s with heap:=s.heap.push { cls:=.type "list",data:=.seq ([]:List Value).toArray } }:Shared)=s1
 replace I1:Inv X aa σ (upd H S (.lst [])) s1:=by rw [<- hs1]; exact I1
 replace k1:∀ b o,s.heap.get? b=some o->s1.heap.get? b=some o:=by rw [<- hs1]; exact k1
 have hltS:S<s1.heap.objs.size:=by rw [<- hs1,<- hS]; show _<(Heap.push _ _).objs.size; rw [Tu]; exact T7 _
 refine nV (R:=λr s'=>match r with
  | .ok (.ret v)=>wpAny (model X.prog X.w) X.A (do
   let .ref a:=v | unsupported "internal:collect"
   let o <- load a
   match o.data with
   | .seq xs _=>pure xs.toList
   | _=>unsupported "internal:collect") Q E s'
  | .ok _=>False
  | .error e=>E e s') hc h1 h2 I1 sb HS hvS hltS hn hT (λs' k=>ty s' λb o e=>k b o (k1 b o e)) hint (iter _ s1 _ _ I1 (bx.fJ sb HS (o:=.lst [])).b k1) λs' H' aq xs I' hS' _ hr g=>?_
 obtain ⟨_,its,n,rv,el,eo⟩:=I'.qF hS'
 exact Rq (wpAny_load eo (Rt (hQ its s' H' aq xs I' rv hr g hn)))
noncomputable def J0 (te:TE):TE:=λσ H Q=>te σ H λx H1=>∃ d o u,x=.ref d/\H1 d=some (.frz o u)/\HO.dct u/\∀ v,H1 v=none->Q (.ref v) (upd H1 v (.ext λh=>h.IsItemsView v d))
theorem Ca (he:PE X e te) (hbase:attributeBase e "items" X.env (eval e X.env)=eval e X.env) (hline:(ap.endLine == cp.line)=true):PE X (.Call (.Attribute e "items" ap) [] [] cp) (J0 te):=by
 intro aa s σ H Q I h
 refine Xy (T:="dict") (id:="dict.items") hbase rfl hline F.plainAttrs_dict We F.type_dict_items (bB (he aa s σ H _ I h) λv s1 ⟨x,H1,I1,r1,d,o,u,ex,hH,hd,q⟩=>?_)
 subst ex
 cases r1
 obtain ⟨ho,ok⟩:=(show bu X.prog X.w H1 s1.heap d (.frz o u) from I1.hok d _ hH)
 obtain ⟨hx,es,ep,hod,hp,hs,hz⟩:=dI ok hd ho
 have hT:s1.TypeIs (.ref d) "dict":=⟨o,ho,hx.1⟩
 refine ⟨hT,λb z=>by cases z; exact ⟨o,ho,hx.2.1⟩,?_⟩
 show wpAny _ _ (callWith cp (.builtin "dict.items") [.ref d] [] []) _ _ s1
 refine method_meetsIn We F.entry_dict_items rfl (Xi ⟨rfl,hT,F.args_dict_items_1 _,_,jM d hs,hT,?_⟩)
 have Hv:H1 s1.heap.objs.size=none:=I1.hok.fresh (Rv _)
 have hve:(s1.heap.push { cls:=.type "dict_items",data:=.fields #[.ref d] }).IsItemsView s1.heap.objs.size d:=⟨_,RK _ rfl,rfl,rfl⟩
 have I2:Inv X aa σ (upd H1 s1.heap.objs.size (.ext λh=>h.IsItemsView s1.heap.objs.size d)) { s1 with heap:=s1.heap.push { cls:=.type "dict_items",data:=.fields #[.ref d] },toks:=s1.toks } :=
  I1.laid (a:=s1.heap.objs.size) (λ_ _ q=>Rx _ q) (Rv _) ⟨hve,⟨_,RK _ rfl⟩,λh1 h2 ⟨o,e,r⟩ k=>⟨o,k o e,r⟩⟩
 exact ⟨.ref s1.heap.objs.size,_,I2,rfl,q _ Hv⟩
section
variable {X:Cx} {aa:List (Addr×Obj)} {σ:L2.St} {H Hf:Hp} {s:Shared} {E:Value->Shared->Prop} {α:Type} {enc:α->D} {lt:α->α->Bool} {κ:SortKind}
theorem rP {K:Rr}:∀ {L:List α} {xs:List V} {us:List Value},ay K Hf (L.map enc) xs->Vals xs us->Paired (λx u=>pJ K Hf (enc x) u) L us
 | [],xs,us,h,v=>by rw [Ud,aB] at h; subst h; cases v; exact .nil
 | t::L,xs,us,h,v=>by
  rw [RC] at h
  obtain ⟨x,r,rfl,h1,h2⟩:=aH.mp h
  cases v with
  | cons r1 r2=>exact .cons ⟨x,r1,h1⟩ (rP h2 r2)
theorem rQ {K:Rr}:∀ {L:List α} {us:List Value},Paired (λx u=>pJ K Hf (enc x) u) L us->∃ xs,ay K Hf (L.map enc) xs/\Vals xs us
 | _,_,.nil=>⟨[],aB.mpr rfl,.nil⟩
 | _,_,.cons ⟨x,r1,h1⟩ t=>by
  obtain ⟨xs,h2,h3⟩:=rQ t
  exact ⟨x::xs,.cons h1 h2,.cons r1 h3⟩
structure J1 (X:Cx) (enc:α->D) (lt:α->α->Bool) (κ:SortKind):Prop where
 lin:∀ L:List α,SR.LN lt L
 inj:∀ (aa:List (Addr×Obj)) (σ:L2.St) (H Hf:Hp) (s:Shared),Inv X aa σ H s->aN Hf H->∀ x y u,pJ X.K Hf (enc x) u->pJ X.K Hf (enc y) u->x=y
 kind:∀ (aa:List (Addr×Obj)) (σ:L2.St) (H Hf:Hp) (s:Shared) (A:Around) (E:Value->Shared->Prop),Inv X aa σ H s->aN Hf H->∀ (L:List α) (us:List Value),Paired (λx u=>pJ X.K Hf (enc x) u) L us->2<=us.length->∀ Q:SortKind->Shared->Prop,Q κ s->wpAny (model X.prog X.w) A (keyKind' us.toArray) Q E s
 cmp:∀ (aa:List (Addr×Obj)) (σ:L2.St) (H Hf:Hp) (s:Shared) (A:Around) (E:Value->Shared->Prop),Inv X aa σ H s->aN Hf H->A.units+10<cLine->∀ (x y:α) (u v:Value),pJ X.K Hf (enc x) u->pJ X.K Hf (enc y) v->∀ Q:Bool->Shared->Prop,Q (lt x y) s->wpAny (model X.prog X.w) A (keyLt' κ u v) Q E s
theorem FN:J1 X aW cZ (tuples' false) :=
 ⟨kg,λ_ _ _ _ _ I sb _ _ _ h1 h2=>FI I sb h1 h2,λ_ _ _ _ _ _ _ I sb _ _ p h2 _ hQ=>B8 I sb p h2 hQ,λ_ _ _ _ _ _ _ I sb hA _ _ _ _ hx hy _ hQ=>JZ I sb hA hx hy hQ⟩
def jU (lt:α->α->Bool) (b:Bool) (L:List α):Prop:=L.Pairwise λx y=>if b then lt y x=true else lt x y=true
abbrev iV (b:Bool) (L:List aL):Prop:=jU cZ b L
theorem rR {Q:Value->Shared->Prop} (hs:J1 X enc lt κ) (I:Inv X aa σ H s) (sb:aN Hf H) (hA:A.units+20<cLine) (hr:ay X.K Hf (L.map enc) xs) (hv:Vals xs us) (hz:us.length<=sizeLine) (nd:L.Nodup)
 (hQ:∀ (L':List α) (xs':List V) (s':Shared),L'.Perm L->jU lt b L'->ay X.K Hf (L'.map enc) xs'->xs'.length<=sizeLine->Inv X aa σ (upd H s.heap.objs.size (.lst xs')) s'->Q (.ref s.heap.objs.size) s') :
 wpAny (model X.prog X.w) A (newList us >>= λl=>(holding [l] (call (.builtin "list.sort") [l] [(Rp "reverse",.bool b)]) >>= λ_=>ret l)) (λfin s'=>∃ v,fin=.done (.ret v)/\Q v s') E s:=by
 refine Rq (Wz ?_ hz)
 have ha:(s.heap.push (seqObj "list" us.toArray 0)).get? s.heap.objs.size=some (seqObj "list" us.toArray 0):=RK _ rfl
 have I1:Inv X aa σ H { s with heap:=s.heap.push (seqObj "list" us.toArray 0),toks:=s.toks }:=I.kept λb o e=>Rx _ e
 have Ha:H s.heap.objs.size=none:=I.hok.fresh (Rv _)
 obtain ⟨f0,f1,f2,f3,f4,f5⟩:=I.mE (H':=H) (Rv _) Ha
 have pL:=rP hr hv
 refine Rq (Tw (wpAny_call_entry_kw slot_list_sort ⟨_,ha,rfl⟩ entry_list_sort (SR.yJ (κ:=κ) (rk:=SR.B3 (λx u=>pJ X.K Hf (enc x) u) lt L) (b:=b) ha ?_ hz λout hp ho=>⟨_,rfl,?_⟩) (args_list_sort_rev _ _)))
 ·intro h' k
  have I2:=I1.turned (h':=h') (t':=s.toks) (it:=s.heap.objs.size) (λb o hb e=>k b o hb e) f0 f1 f3 f4 f5
  refine ⟨λQ E h2 hQ=>hs.kind _ _ _ _ _ _ _ I2 sb _ _ pL h2 _ hQ,SR.JY (λx y u h1 h2=>hs.inj _ _ _ _ _ I2 sb x y u h1 h2) (hs.lin L) pL λx _ y _ u v hx hy E Q hQ=>hs.cmp _ _ _ _ _ _ _ I2 sb ?_ _ _ _ _ hx hy _ hQ⟩
  show A.units+1+10<cLine
  lia
 ·obtain ⟨L',p1,p2,p3⟩:=SR.B4 (S:=λx u=>pJ X.K Hf (enc x) u) (λx y u h1 h2=>hs.inj _ _ _ _ _ I sb x y u h1 h2) (hs.lin L) nd pL hp ho
  obtain ⟨xs',r',v'⟩:=rQ p3
  obtain ⟨e,he⟩:=sortedHeap_at (vs:=us) (out:=out) ha
  have hl:out.toList.length=us.length:=hp.length_eq
  refine Rt ⟨_,rfl,hQ L' xs' _ p1 p2 r' ?_ ?_⟩
  ·have:=v'.length; lia
  ·refine I.laid (t':=s.toks) (λb o q=>?_) (Rv _) ⟨by have:=v'.length; lia,out.toList,e,v',by simpa using he⟩
   have lt:=Ry q
   rw [sortedHeap_old (RW lt) (by rw [size_push']; exact XD lt)]
   exact Rx _ q
end
section
variable {K:Rr}
end
theorem pM (hc:X.calm=true) (I:Inv X aa σ H s) (sb:aN Hf H) (hA:X.A.units+60<cLine) (hl:fS X.K Hf l ys) (hr:ay X.K Hf (L.map aW) ys) (nd:L.Nodup)
 (hQ:∀ (L':List aL) (xs':List V) (s':Shared) (a:Addr),L'.Perm L->iV b L'->ay X.K Hf (L'.map aW) xs'->H a=none->Inv X aa σ (upd H a (.lst xs')) s'->Q (.ref a) s') :
 wpAny (model X.prog X.w) X.A (call (.builtin "sorted") [.ref l] [(Rp "reverse",.bool b)]) Q E s:=by
 refine W6 kind_sorted plain_sorted entry_sorted (args_sorted_rev _ _) ?_
 unfold Builtin.«sorted»
 refine Rq (m:=checkCount "sorted" 1 1 _) (Rt ?_)
 obtain ⟨its,rv,p,hz⟩:=I.list (sb.seq hl)
 have el:=rv.length
 refine Rq (collect_list p.isList ?_ (by lia))
 have I2:Inv X aa σ H { s with heap:=(s.heap.push (seqObj "list" #[] 0)).update s.heap.objs.size (R7 (· ++its.toArray)),toks:=s.toks }:=I.kept λc o e=>by
  rw [T5 _ _ _ _ (RW (Ry e))]
  exact Rx _ e
 refine rR (b:=b) FN I2 sb ?_ hr rv (by lia) nd λL' xs' s2 p1 p2 p3 p4 I3=>hQ L' xs' s2 _ p1 p2 p3 (I2.hok.fresh (Rv _)) I3
 show X.A.units+1+20<cLine
 lia
section
variable {K:Rr} {c:Ctx P w K mg base k N sc bk}
theorem uG (hm:mg "sorted"=none) (h:aG c e ρ λd=>∃ L:List aL,d=.lst (L.map aW)/\Sd L.Nodup (∀ L':List aL,L'.Perm L->iV true L'->R (.ow (L'.map aW))))
 (hg:sc.names.lookup (Rp "sorted")=some .globalImplicit:=by walk_at "u")
 (he:∀ env,starEach [e] env=(false,eval e env)::starEach [] env:=by intro _; walk_at "u")
 (hpl:∀ env,(backTo pos (starEach [e] env)).any (·.1)=false:=by intro _; walk_at "u") :
 dD c (.Call (.Name "sorted" np) [e] [⟨some "reverse",.Constant (.bool true) j kp1,kp⟩] pos) ρ R:=λσ H Hf Q S q aa s I=>by
 have hgl:Gl c.X "sorted":=by unfold Gl Sw; rw [c.esc]; exact hg
 refine T6 (dZ I hgl (by rw [c.emg]; exact hm) (show bootBuiltins "sorted"=some (.builtin "sorted") by decide +kernel) ?_ (by decide) (by decide))
 refine callWith_kw ?_ (by rw [he]; rfl) (hpl _)
 have hpa:=bQ (X:=c.X) (e:=e) (es:=[]) cQ d8 (he _)
 refine bB (hpa pos aa s σ H (λvs H1=>∃ x,vs=[x]/\∃ (L:List aL) (aQ:Hp),Rep c.X.K aQ (.lst (L.map aW)) x/\L.Nodup/\bx H Hf H1 aQ/\∀ L':List aL,L'.Perm L->iV true L'->R (.ow (L'.map aW))) I ?_) λus s1 hh=>z2 hh λvs H1 hh=>w3 hh λI1 r1 hh=>hh.elim λx hh=>w2 hh λex hh=>z2 hh λL aQ hh=>w4 hh λe1 e7 e8 e9=>?_
 ·exact h σ H Hf _ S λd v H1 aQ ⟨L,hp,⟨hn,hR⟩⟩ rv g=>⟨_,rfl,L,aQ,by rw [<- hp]; exact rv,hn,g,hR⟩
 ·subst ex
  obtain ⟨a0,ys,rfl,hs,hr⟩:=aZ.mp e1
  have eu:us=[.ref a0]:=by
   cases r1 with
   | cons q1 q2=>cases q2; cases q1; rfl
  subst eu
  refine kws_cons (bB (Aa (X:=c.X) (b:=true) (j:=j) (pos:=kp1) aa s1 σ _ (λx H2=>x=.bl true/\H2=H1) I1 ⟨rfl,rfl⟩) λkv s2 ⟨x,H2,I2,rx,e10,e11⟩=>kws_nil ?_)
  subst e10 e11
  have ek:kv=.bool true:=rx
  subst ek
  refine pM (b:=true) c.calm I2 e8.b ?_ hs hr e7 λL' xs' s' a p1 p2 p3 na I3=>?_
  ·have:=c.room.un
   lia
  ·exact ⟨.ref a,_,I3,rfl,q (.ow (L'.map aW)) _ _ aQ (e9 L' p1 p2) ⟨a,xs',rfl,e8.s.free na,af,e8.b.free na,p3⟩ (e8.trans (bx.fJ e8.b na))⟩
end
end EV
namespace EV
open PySem PySem.Spec PyProof.Rows L2
noncomputable def trim (l:List Int):List Int:=(l.reverse.dropWhile λx=>x == 0).reverse
theorem gE (l):trim (l++[0])=trim l:=by simp [trim]
theorem nW (l) (h:x≠0):trim (l++[x])=l++[x]:=by simp [trim,List.dropWhile_cons,h]
theorem jv {l:List Int} (h:m<l.length):l.take (m+1)=l.take m++[l.getD m 0]:=by
 rw [S0 h]; simp [Sj,h]
theorem nX (h:m<l.length) (z:l.getD m 0=0) (e:trim (l.take (m+1))=trim l):trim (l.take m)=trim l:=by
 rw [jv h,z,gE] at e; exact e
theorem nY (h:m<l.length) (z:l.getD m 0≠0) (e:trim (l.take (m+1))=trim l):l.take (m+1)=trim l:=by
 rw [<- e,jv h,nW _ z]
theorem gh (l):(trim l).length<=l.length:=by
 unfold trim
 rw [List.length_reverse]
 exact Rz (List.dropWhile_sublist _).length_le (by simp)
theorem cA (l):trim (trim l)=trim l:=by
 unfold trim
 rw [Xf]
 congr 1
 generalize l.reverse=r
 induction r with
 | nil=>rfl
 | cons x r ih=>by_cases h:x == 0 <;> simp [List.dropWhile_cons,h,ih]
theorem Cb (l:List α) (h:m<=l.length):EV.cutD l none (some (m:Int))=l.take m:=by
 unfold EV.cutD HT.b9
 have e:¬ (m:Int)<0:=by lia
 simp only [e,if_false,So]
 simp [VC h]
section
variable {K:Rr} {c:Ctx P w K mg base k N sc bk}
theorem s_pop (hN:At N i x) (hi:At ρ i r) (hr:r.getL=some ds) (h:Sd (ds≠[]) (Nx ρ i nx (r.putL ds.dropLast)))
 (hs:∀ env,swapsWith (.Call (.Attribute (.Name x px) "pop" ap) [] [] cp) none pos.line env=pure false:=by intro _; walk_at "u") (hd:(x == ("__debug__":Str))=false:=by decide) (hcd:(x == ("__classdict__":Str))=false:=by decide)
 (hbase:∀ env,attributeBase (.Name x px) "pop" env (eval (.Name x px) env)=eval (.Name x px) env:=by intro _; walk_at "u")
 (hline:(ap.endLine == cp.line)=true:=by walk_at "u") :
 fX c (.Expr (.Call (.Attribute (.Name x px) "pop" ap) [] [] cp) pos) ρ nx p:=λσ H Hf D S o=>by
 obtain ⟨q,eq,rq⟩:=S.own hi.get (dw hr)
 obtain ⟨xs,h1,h2,h3⟩:=JI hr rq
 obtain ⟨hz,ρ',hs',hn⟩:=h
 have hl:=h3.length
 have hlen:0<xs.length:=by
  rw [<- hl]; exact List.length_pos_iff.mpr hz
 obtain ⟨y,hy⟩:∃ y,xs[xs.length - 1]?=some y:=⟨_,RU (by omega)⟩
 refine eU (oE (Az PySem.F.plainAttrs_list PySem.F.slot_list_pop PySem.F.type_list_pop Jf (c.mQ hN hd hcd) (hbase _) hline) (hs _)) ⟨_,eq,.inl ⟨rfl,xs,.inl (.inl h1)⟩,?_⟩
 refine ⟨q,xs,y,rfl,rfl,h1,hy,?_⟩
 refine o.nx _ _ Hf ρ' ?_ hn
 rw [hs'.eq]
 exact S.upd hi.get (dw hr) eq (gz S.sb h2) (kP hr rq af h2 h3.dropLast) (gU hr)
end
noncomputable def encA (A:List aL):List (List Key×D):=A.map λt=>(t.1.map R0,.int t.2)
theorem pN:∀ {l m:List Int},(l.map (R0:Int->Key))=m.map R0->l=m
 | [],[],_=>rfl
 | x::l,y::m,h=>by
  simp only [RC,List.cons.injEq,R0.injEq] at h
  rw [h.1,pN h.2]
 | [],_::_,h=>by simp at h
 | _::_,[],h=>by simp at h
theorem wY (A) (l):aY (encA A) (l.map R0)=(aY A l).map D.int:=by
 induction A with
 | nil=>rfl
 | cons t A ih =>
  by_cases e:t.1=l
  ·rw [bq e]
   show aY ((t.1.map R0,D.int t.2)::encA A) _=_
   rw [bq (by rw [e])]; rfl
  ·rw [aV e,<- ih]
   show aY ((t.1.map R0,D.int t.2)::encA A) _=_
   rw [aV λz=>e (pN z)]
theorem FO (A) (l) (n):putD (encA A) (l.map R0) (.int n)=encA (putD A l n):=by
 unfold putD
 rw [wY]
 by_cases h:(aY A l).isSome=true
 ·rw [if_pos h,if_pos (by rw [Uj]; exact h)]
  unfold encA
  rw [Sv,Sv]
  refine Ui λt _=>?_
  simp only [WB]
  by_cases e:t.1=l
  ·rw [if_pos e,if_pos (by rw [e])]
  ·rw [if_neg e,if_neg λz=>e (pN z)]
 ·rw [if_neg h,if_neg (by rw [Uj]; exact h)]
  unfold encA
  simp
theorem jw:∀ l:List Int,D.keys (l.map D.int)=some (l.map R0)
 | []=>rfl
 | x::l=>by
  simp only [RC]
  unfold D.keys
  rw [jw l]; rfl
theorem FP (A:List aL) (l:List Int) (n:Int):(putD A l n).length<=A.length+1:=by
 unfold putD; split <;> simp
theorem FQ (A):(encA A).length=A.length:=by simp [encA]
theorem rS (l:List Int) (n:Int) (h:(A.map (·.1)).Nodup):((putD A l n).map (·.1)).Nodup:=by
 unfold putD
 split
 ·rw [Sv]
  have e:(A.map ((·.1)∘λkv:aL=>if kv.1=l then (kv.1,n) else kv))=A.map (·.1):=Ui λt _=>by
   simp only [WB]; split <;> rfl
  rw [e]; exact h
 ·rename_i q
  rw [Si,List.nodup_append]
  refine ⟨h,by simp,?_⟩
  intro a ha b hb
  simp at hb
  subst hb
  intro z
  subst z
  apply q
  obtain ⟨t,ht,e⟩:=Sb.mp ha
  unfold aY
  rw [Uj,List.find?_isSome]
  exact ⟨t,ht,decide_eq_true e⟩
theorem keys_nodup {A:List aL} (h:(A.map (·.1)).Nodup):A.Nodup:=by
 unfold List.Nodup at *
 rw [Vy] at h
 exact h.imp λq z=>q (by rw [z])
noncomputable def fO (A:List aL) (t:aL):List aL:=putD A (trim t.1) ((aY A (trim t.1)).getD 0+t.2)
noncomputable def aX (ts:List aL):List aL:=ts.foldl fO []
theorem rT (ts) (t):aX (ts++[t])=fO (aX ts) t:=by simp [aX]
theorem pO (ts:List aL) (A):(ts.foldl fO A).length<=A.length+ts.length:=by
 induction ts generalizing A with
 | nil=>simp
 | cons t ts ih =>
  have h1:=ih (fO A t)
  have h2:=FP A (trim t.1) ((aY A (trim t.1)).getD 0+t.2)
  simp only [Tg,Sf]
  unfold fO at *
  lia
theorem gF (ts):(aX ts).length<=ts.length:=by
 have:=pO ts []
 simpa [aX] using this
theorem fu (ts):((aX ts).map (·.1)).Nodup:=by
 unfold aX
 have:∀ A:List aL,(A.map (·.1)).Nodup->((ts.foldl fO A).map (·.1)).Nodup:=by
  induction ts with
  | nil=>exact λA h=>h
  | cons t ts ih=>exact λA h=>ih _ (rS _ _ h)
 exact this [] (by simp)
theorem FT (x):cZ x x=false:=(kg [x]).irr x (by simp)
theorem Cc (h:cZ x y=true) (g:cZ y z=true):cZ x z=true:=(kg [x,y,z]).tr x (by simp) y (by simp) z (by simp) h g
theorem rV:∀ {L M:List aL},L.Perm M->iV true L->iV true M->L=M
 | [],M,h,_,_=>by rw [List.nil_perm] at h; exact h.symm
 | x::L,[],h,_,_=>by simp at h
 | x::L,y::M,h,h1,h2=>by
  unfold iV jU at h1 h2
  rw [U9] at h1 h2
  by_cases e:x=y
  ·subst e
   rw [rV ((List.perm_cons _).mp h) h1.2 h2.2]
  ·exfalso
   have hx:x∈M:=by
    have:=h.subset (RD)
    rcases RL.mp this with z | z
    ·exact absurd z e
    ·exact z
   have hy:y∈L:=by
    have:=h.symm.subset (RD)
    rcases RL.mp this with z | z
    ·exact absurd z.symm e
    ·exact z
   have a:=h1.1 y hy
   have b:=h2.1 x hx
   simp only [if_true] at a b
   have:=Cc a b
   rw [FT] at this; cases this
noncomputable def yM (t:aL):List aL->List aL
 | []=>[t]
 | x::r=>if cZ x t=true then t::x::r else x::yM t r
noncomputable def jx (L:List aL):List aL:=L.foldr yM []
theorem lH (t):∀ L:List aL,(yM t L).Perm (t::L)
 | []=>.refl _
 | x::r=>by
  unfold yM
  split
  ·exact .refl _
  ·exact ((lH t r).cons x).trans (.swap _ _ _)
theorem bZ:∀ L:List aL,(jx L).Perm L
 | []=>.refl _
 | t::L=>(lH t (jx L)).trans ((bZ L).cons t)
theorem FU (h:x≠y):cZ x y=true\/cZ y x=true:=(kg [x,y]).tot x (by simp) y (by simp) h
theorem wZ (t):∀ L:List aL,t∉L->iV true L->iV true (yM t L)
 | [],_,_=>U4 _ _
 | x::r,hn,h=>by
  have h':=h
  unfold iV jU at h'
  rw [U9] at h'
  unfold yM
  by_cases e:cZ x t=true
  ·rw [if_pos e]
   unfold iV jU
   rw [U9]
   refine ⟨λy hy=>?_,h⟩
   simp only [if_true]
   rcases RL.mp hy with rfl | z
   ·exact e
   ·have:=h'.1 y z
    simp only [if_true] at this
    exact Cc this e
  ·rw [if_neg e]
   unfold iV jU
   rw [U9]
   refine ⟨λy hy=>?_,wZ t r (λz=>hn (RH _ z)) h'.2⟩
   rcases RL.mp ((lH t r).subset hy) with rfl | z
   ·simp only [if_true]
    rcases FU (x:=x) (y:=y) (λz=>hn (by rw [z]; exact RD)) with q | q
    ·exact absurd q e
    ·exact q
   ·exact h'.1 y z
theorem iW:∀ {L:List aL},L.Nodup->iV true (jx L)
 | [],_=>VA
 | t::L,h=>by
  rw [Ul] at h
  exact wZ t _ (λz=>h.1 ((bZ L).subset z)) (iW h.2)
theorem uH (hn:L.Nodup) (hp:L'.Perm L) (hs:iV true L'):L'=jx L:=rV (hp.trans (bZ L).symm) hs (iW hn)
noncomputable def nz (L:List aL):List aL:=L.filter λt=>t.2 != 0
theorem J3 (hn:L.Nodup):nz (jx L)=jx (nz L) :=
 uH (Xg _ hn) ((bZ L).filter _) ((iW hn).filter _)
theorem encK (A):(Sl.oT (encA A)).pB=some (.fdT (A.map λt=>t.1.map R0) (A.map λt=>.int t.2)):=by
 show some _=some _
 unfold encA
 rw [Sv,Sv]; rfl
theorem yN (A:List aL):(D.fdT (A.map λt=>t.1.map R0) (A.map λt=>.int t.2)).pairs=some (A.map aW):=by
 show some _=some _
 congr 1
 rw [List.zipWith_map,List.zipWith_self]
 refine Ui λt _=>?_
 unfold aW
 congr 3
 rw [Sv]; rfl
theorem J4 (h:r.yw=some (encA A)) (l):Fb r (.tup (l.map .int)) ((aY A l).map D.int):=by
 rw [<- wY]; exact .t h (jw l)
theorem J5 (hz:A.length<sizeLine):Fc (.oT (encA A)) (.tup (l.map .int)) (.int n) (.oT (encA (putD A l n))):=by
 rw [<- FO]
 exact .t (r:=.oT (encA A)) rfl (jw l) (by rw [FQ]; exact hz)
theorem Cd (o:Option Int):(o.map D.int).getD (.int 0)=.int (o.getD 0):=by cases o <;> rfl
end EV
namespace EV
open PySem PySem.Spec PySem.Calls PyProof.Rows L2
theorem gG {L:List Addr} (I:Inv X aa σ H s) (k:∀ b o,b∉L->s.heap.get? b=some o->h'.get? b=some o) (hf:∀ b∈L,eZ X aa H b):Inv X aa σ H { s with heap:=h',toks:=t' }:=by
 have nit:∀ b u,H b=some u->b∉L:=λb u e z=>by rw [(hf b z).1] at e; cases e
 refine I.step (g':=s.gens) (d':=s.drawn) (ch:=L) (λb hb=>?_) (λb o _ _ hc e _=>k b o hc e) (λb o _ _ hc e _=>⟨o.slots,k b o hc e⟩) (λ_ _ _ _ n=>n)
  (λb o hc e=>⟨o,k b o hc e⟩) (λ_ _ e=>e) (λ_ _ _ e=>e) (λb ps e=>⟨#[],by rw [e]; simp⟩) (λm hm=>?_) (λb u e=>?_) I.bare
 ·obtain ⟨_,f1,_,f3,f4,f5⟩:=hf b hb
  exact ⟨f3,f1,f4,f5⟩
 ·obtain ⟨o,es,ep,ho,r⟩:=hm
  exact ⟨o,es,ep,k _ o (λz=>(hf _ z).2.1 rfl) ho,r⟩
 ·refine (I.hok b u e).stay (λc v hc q=>k c v ?_ q) (λ_ q=>q) λ_ _ q=>q
  rcases hc with z | z
  ·rw [z]; exact nit b u e
  ·exact nit c _ z
noncomputable def Ce (ds es:List D):List D:=VM (λx y=>D.tup [x,y]) ds es
theorem boot_zip:bootBuiltins "zip"=some (.type "zip"):=by decide +kernel
section
variable {K:Rr}
end
end EV
namespace EV
open PySem PySem.Spec PyProof.Rows L2
theorem pP {A:List aL} {l:List Int} {n:Int} {t:aL} (h:t∈putD A l n):t.1=l\/t∈A:=by
 unfold putD at h
 split at h
 ·obtain ⟨u,hu,e⟩:=Sb.mp h
  split at e
  ·rename_i q; subst e; exact .inl q
  ·subst e; exact .inr hu
 ·rcases R5.mp h with q | q
  ·exact .inr q
  ·simp at q; subst q; exact .inl rfl
theorem pQ (hl:∀ t∈ts,t.1.length<=n):∀ t∈aX ts,trim t.1=t.1/\t.1.length<=n:=by
 unfold aX
 suffices H:∀ A:List aL,(∀ t∈A,trim t.1=t.1/\t.1.length<=n)->∀ t∈ts.foldl fO A,trim t.1=t.1/\t.1.length<=n from H [] (by simp)
 induction ts with
 | nil=>exact λA h=>h
 | cons u ts ih =>
  refine λA h=>ih (λt ht=>hl t (RH _ ht)) _ λt ht=>?_
  rcases pP ht with e | e
  ·rw [e,cA]
   exact ⟨rfl,Rz (gh _) (hl u RD)⟩
  ·exact h t e
noncomputable def bX (ts:List aL):List aL:=jx (nz (aX ts))
theorem w9 (h:(A.map (·.1)).Nodup):((nz A).map (·.1)).Nodup:=List.Nodup.sublist (List.filter_sublist.map _) h
theorem nZ (ts):(bX ts).Perm (nz (aX ts)):=bZ _
theorem rX (h:t∈bX ts):t∈aX ts/\t.2≠0:=by
 have:=(nZ ts).subset h
 unfold nz at this
 rw [VE] at this
 exact ⟨this.1,by simpa using this.2⟩
theorem rY (ts):(bX ts).length<=ts.length:=by
 rw [(nZ ts).length_eq]
 exact Rz (List.length_filter_le _ _) (gF ts)
end EV
namespace EV
open PySem PySem.Spec PySem.Calls PyProof.Rows L2
theorem FW {K:Rr} {f:Int->Int->Int}:yr K (λxs H Q=>∃ i j,xs=[.int i,.int j]/\Q (.int (f i j)) H) (λds R=>∃ i j:Int,ds=[.int i,.int j]/\R (.int (f i j))):=by
 rintro ds vs H Hf Q R s rs ⟨i,j,rfl,hR⟩ q
 obtain ⟨v,r,rfl,r1,r2⟩:=aH.mp rs
 obtain ⟨v',r',rfl,r1',r2'⟩:=aH.mp r2
 rw [aB] at r2'
 subst r2'
 rw [az] at r1 r1'
 subst r1 r1'
 exact ⟨i,j,rfl,q _ _ H Hf hR (az.mpr rfl) (.refl s)⟩
section
variable {K:Rr} {c:Ctx P w K mg base k N sc bk}
theorem boot_max:bootBuiltins "max"=some (.builtin "max"):=by decide +kernel
theorem J6 (hm:mg "max"=none) (h:aG c a ρ λx=>aG c b ρ λy=>I2 (λi j=>R (.int (if j>i then j else i))) x y) (hg:sc.names.lookup (Rp "max")=some .globalImplicit:=by walk_at "u")
 (he:∀ env,starEach [a,b] env=(false,eval a env)::starEach [b] env:=by intro _; walk_at "u") (he2:∀ env,starEach [b] env=(false,eval b env)::starEach [] env:=by intro _; walk_at "u")
 (hpl:∀ env,(backTo pos (starEach [b] env)).any (·.1)=false:=by intro _; walk_at "u"):aG c (.Call (.Name "max" p) [a,b] [] pos) ρ R :=
 qN (yj c.calm) (FW (f:=λi j=>if j>i then j else i)) hm boot_max (bC (h.imp λx h1=>bC (h1.imp λy ⟨i,j,e1,e2,hR⟩=>jJ ⟨i,j,by rw [e1,e2],hR⟩) he2) he) hg (by decide) (by decide) he hpl
theorem HB (h:aG c a ρ λx=>aG c b ρ λy=>I2 (λi j=>Sd (Al i j) (R (.int (i * 2 ^ j.toNat)))) x y):aG c (.BinOp a .LShift b pos) ρ R :=
 gO (mK IU kO (h.imp λx hx=>hx.imp λy ⟨i,j,e1,e2,⟨hc,r⟩⟩=>⟨i,j,e1,e2,hc,_,rfl,r⟩))
theorem Cf (h:aG c a ρ λx=>aG c b ρ λy=>I2 (λi j=>Sd (0<=j) (R (.int (i / 2 ^ j.toNat)))) x y):aG c (.BinOp a .RShift b pos) ρ R :=
 gO (mK IV kO (h.imp λx hx=>hx.imp λy ⟨i,j,e1,e2,⟨hc,r⟩⟩=>⟨i,j,e1,e2,hc,_,rfl,r⟩))
theorem uI (h:aG c a ρ λx=>aG c b ρ λy=>I2 (λi j=>R (.int (Ww i j))) x y):aG c (.BinOp a .BitAnd b pos) ρ R :=
 gO (mK IW AR (h.imp λx hx=>hx.imp λy ⟨i,j,e1,e2,r⟩=>⟨i,j,e1,e2,_,rfl,r⟩))
end
noncomputable abbrev OM:=List (Key×D)->List D->(List (Key×D)->Prop)->Prop
noncomputable def J7 (K:Rr) (F:OM):Sp:=λvs H Q _=>∃ Hf p kvs xs us ds B,vs=.ref p::us/\aN Hf H/\H p=some (.dK xs)/\Hf p=none/\mq K Hf kvs xs/\ay K Hf ds us/\F kvs ds B /\
 ∀ kvs' H' aq xs',B kvs'->bx (del H p) Hf H' aq->H' p=some (.dK xs')->aq p=none->mq K aq kvs' xs'->Q .non H'
structure FY (P:Program) (w:World) (K:Rr) (mg:Str->Option Value) (base:Heap) (k:Nat) (x:Str) (F:OM):Prop where
 ex:∃ f fd ps,mg x=some (.ref f)/\TY K (.ref f)=true/\Binds K fd ps []/\aU P w K mg base (cF P w) k f fd ps (J7 K F)
noncomputable def startM (q:Addr) (kvs:List (Key×D)) (N:List Str) (ds:List D):List Sl:=.aK q kvs::(ds.map .va++RE (N.length - (ds.length+1)) .un)
theorem yO {K:Rr} (r:ay K Hf ds us) (sb:aN Hf H) (h1:H q=some (.dK xs)) (h2:Hf q=none) (h3:mq K Hf kvs xs) :
 eT K (del H q) Hf (L2.start N (.ref q::us)) H Hf (startM q kvs N ds):=by
 have hl:=r.length
 have rest:∀ (i:Nat) (r':Sl),(startM q kvs N ds)[i+1]?=some r'->r'≠.un->∃ d,ds[i]?=some d/\r'=.va d:=λi r' h hu=>by
  have h':(ds.map Sl.va++RE (N.length - (ds.length+1)) Sl.un)[i]?=some r':=by simpa [startM] using h
  by_cases w:i<ds.length
  ·rw [Uz (by simpa using w),RO,RU w] at h'
   cases h'
   exact ⟨_,by simp,rfl⟩
  ·rw [Vq (by simp; lia)] at h'
   exact absurd (WX (TH h')) hu
 refine ⟨⟨λb o e=>(iJ e).2,.refl _,sb,λ_ h _ _=>h⟩,by simp [L2.start,startM,hl],λi r' h hu=>?_,λi j r1 r2 p hne e1 e2 o1 o2=>?_⟩
 ·cases i with
  | zero =>
   have:r'=.aK q kvs:=by simpa [startM] using h.symm
   subst this
   exact ⟨.ref q,by simp [L2.start],q,xs,rfl,⟨iI,rfl⟩,h1,h2,h3⟩
  | succ i =>
   obtain ⟨d,hd,rfl⟩:=rest i r' h hu
   obtain ⟨x,e2,rx⟩:=r.get hd
   refine ⟨x,?_,rx⟩
   have hi:i<us.length:=(RJ.mp e2).1
   unfold L2.start
   rw [Uz (by simp; lia)]
   simp [e2]
 ·exfalso
  have own:∀ {i:Nat} {r:Sl},(startM q kvs N ds)[i]?=some r->r.owned=true->i=0:=λ{i r} h ho=>by
   cases i with
   | zero=>rfl
   | succ i =>
    obtain ⟨d,_,rfl⟩:=rest i r h (by rintro rfl; cases ho)
    cases ho
  exact hne ((own e1 o1).trans (own e2 o2).symm)
section
variable {K:Rr} {c:Ctx P w K mg base k N sc bk}
theorem Nl {st:Stmt} (Fu:cU K x qual st f fd) (SV:FS N ps st) (ar:∀ kvs ds B,F kvs ds B->ds.length+1=ps.length)
 (body:∀ (c:Ctx P w K mg base k N (aR st) false),c.X.xe=(λ_ _=>False)->∀ q kvs ds B,F kvs ds B->aE c (aj st) (startM q kvs N ds) (λρ=>∃ kvs' r,B kvs'/\ρ=.aK q kvs'::r) { rt:=λ_=>False }) :
 aU P w K mg base (cF P w) (k+1) f fd ps (J7 K F):=by
 obtain ⟨Sc,Vi⟩:=Hi SV
 obtain ⟨oc,od,kV,doc,pm,an,cdv,ct,osl,rfl,lk,hcd⟩:=Fu.ex
 refine G4 lk hcd Sc (λvs H Q E hh=>z4 hh λHf q kvs xs hh=>z3 hh λus ds B hh=>w8 hh λe _ _ _ _ rs hF _=>by rw [e,Sf,<- rs.length]; exact ar _ _ _ hF) λA outer s H vs Q E hr hh=>z4 hh λHf q kvs xs hh=>z3 hh λus ds B hh=>w8 hh λe sb h1 h2 h3 rs hF hq=>?_
 subst e
 let X:Cx:=(tX (cF P w) P w K mg base N qual (aR st) f cdv A outer s H E).LG
 let c:Ctx P w K mg base k N (aR st) false :=
  { X:=X,eP:=rfl,ew:=rfl,eK:=rfl,emg:=rfl,eb:=rfl,eN:=rfl,esc:=rfl,calm:=rfl,top:=λ_=>⟨rfl,rfl,rfl⟩,cb:=λ_ _ _ _ _ I x c h=>I.ok.cab x c rfl h,fn:=λ_ _=>.inl rfl,B:=del H q,room:=hr,nd:=Sc.nd,vis:=Vi,Hf:=Hf,RX:=λ_ _=>False,
    exc:=λ_ _ _ _ _ _ _ _ _ _ _ _ h _ _=>h.elim,RM:=λ_ _=>False,mde:=λ_ _ _ _ _ _ _ _ _ _ _ _ h _=>h.elim }
 refine ⟨_,tQ.LG (t:=LL X (aj st)) (ud (X:=X)),?_⟩
 refine body c rfl q kvs ds B hF (L2.start N (.ref q::us)) H Hf _ (yO rs sb h1 h2 h3) ⟨λσ H' aq ρ S ⟨kvs',r,hB,e⟩=>?_,λr v H' aq g rv e=>e.elim,λ_ _ _ _ _ h=>h.elim,λ_ _ _ _ _ h=>h.elim⟩
 subst e
 obtain ⟨v,_,q',xs',_,⟨_,rfl⟩,a1,a2,a3⟩:=S.at_ 0 _ rfl (by simp)
 exact hq kvs' H' aq xs' hB S.bas a1 a2 a3
theorem xg (h:FY P w K mg base j x F) (hj:j<=k) (hN:At N i y) (hi:At ρ i r) (hr:r.uh=some kvs)
 (ha:qM c es ρ λds=>∃ B,F kvs ds B/\∀ kvs',B kvs'->Nx ρ i nx (r.qU kvs'))
 (hg:sc.names.lookup x=some .globalImplicit:=by walk_at "u") (hdb:(x == ("__debug__":Str))=false:=by decide) (hd:(y == ("__debug__":Str))=false:=by decide) (hcd:(y == ("__classdict__":Str))=false:=by decide)
 (he:∀ env,starEach (.Name y py::es) env=(false,eval (.Name y py) env)::starEach es env:=by intro _; walk_at "u")
 (hpl:∀ env,(backTo cp (starEach es env)).any (·.1)=false:=by intro _; walk_at "u")
 (hs:∀ env,swapsWith (.Call (.Name x px) (.Name y py::es) [] cp) none pos.line env=pure false:=by intro _; walk_at "u"):fX c (.Expr (.Call (.Name x px) (.Name y py::es) [] cp) pos) ρ nx p:=λσ H Hf D S o=>by
 obtain ⟨q,eq,rq⟩:=S.own hi.get (kQ hr)
 obtain ⟨xs,h1,h2,h3⟩:=yx hr rq
 refine eU (oE cQ (hs _)) (show bE c.X _ σ H (λ_ H'=>D.nx σ H') from λaa s I=>?_)
 obtain ⟨f,fd,ps,hm,hk,hb,hF⟩:=h.ex
 refine T6 (oB I (by unfold Gl Sw; rw [c.esc]; exact hg) (by rw [c.emg]; exact hm) ?_ hdb)
 have hA:bA c.X (.Name y py::es) σ H (λvs H1=>∃ us aQ ds B,vs=.ref q::us/\F kvs ds B/\(∀ kvs',B kvs'->Nx ρ i nx (r.qU kvs'))/\ay c.X.K aQ ds us/\bx H Hf H1 aQ) :=
  AM (bQ (c.mQ hN hd hcd) Jr (he _)) ⟨_,eq,ha σ H Hf _ S λds vs H1 aQ ⟨B,hF,hn⟩ rs g=>⟨vs,aQ,ds,B,rfl,hF,hn,rs,g⟩⟩
 refine Xp (h₀:=c.X.base) I.ok.mod.kin (by rw [c.eK]; exact hk) (bB (hA cp aa s I) λus s1 hh=>z2 hh λvs H1 hh=>w3 hh λI1 rv hh=>z4 hh λus' aQ ds B hh=>w5 hh λev hF' hn rs g=>⟨I1.Ea,?_⟩) (he _) (hpl _)
 subst ev
 have S1:=S.cG g
 have rq1:=rq.cG g
 obtain ⟨xs1,a1,a2,a3⟩:=yx hr rq1
 have hF2:aU c.X.prog c.X.w c.X.K c.X.mg c.X.base (cF c.X.prog c.X.w) k f fd ps (J7 c.X.K F):=by rw [c.eP,c.ew,c.eK,c.emg,c.eb]; exact hF.mono hj
 have vB:J7 c.X.K F (.ref q::us') H1 (λ_ H'=>D.nx σ H') (λ_ _ _=>False):=by
  refine ⟨aQ,q,kvs,xs1,us',ds,B,rfl,g.b,a1,a2,a3,rs,hF',λkvs' H' aq xs' hB g2 b1 b2 b3=>?_⟩
  obtain ⟨ρ',hs',hn⟩:=hn kvs' hB
  refine o.nx σ H' aq ρ' ?_ hn
  rw [hs'.eq]
  exact S1.upd hi.get (kQ hr) eq g2 (qV hr rq1 b1 b2 b3) (kR hr)
 have hl:us.length=ps.length:=by rw [<- rv.length]; exact hF2.len _ _ _ _ vB
 have hb':Binds c.X.K fd ps []:=by rw [c.eK]; exact hb
 have hb2:=hb' s1 us I1.Ea (by simpa using hl)
 rw [SJ] at hb2
 refine wpAny_call (VJ (hF2.run c.X.A c.X.stack s1 H1 ⟨us,[]⟩ us _ _ _ c.room I1.Jb hb2 rv vB) λr' s' hq=>?_)
 cases r' with
 | error e =>
  obtain ⟨a,C,H',rfl,hE,h⟩:=hq
  exact h.elim
 | ok fl =>
  cases fl with
  | ret u=>exact I1.after hq
  | next=>exact SO hq
  | brk=>exact SO hq
  | cont=>exact SO hq
end
theorem ay.many {K:Rr} (h:ay K H ds xs):∀ k:Nat,ay K H (RE k ds).flatten (RE k xs).flatten
 | 0=>aB.mpr rfl
 | k+1=>by
  rw [TR,TR,UG,UG]
  exact h.append (ay.many h k)
theorem ay.set {K:Rr}:∀ {ds:List D} {xs:List V} (i:Nat) {d:D} {v:V},ay K H ds xs->Rep K H d v->ay K H (ds.set i d) (xs.set i v)
 | [],_,i,_,_,h,_=>by rw [aB] at h; subst h; exact aB.mpr rfl
 | e::ds,_,i,d,v,h,q=>by
  obtain ⟨x,r,rfl,h1,h2⟩:=aH.mp h
  cases i with
  | zero=>exact .cons q h2
  | succ i=>exact .cons h1 (ay.set i h2 q)
theorem Cg {n k:Nat} {i:Int} (hi:i=k) (e:s.heap.get? l=some { cls:=.type "list",data:=.seq items n }) (hk:k<items.size) (hf:items.size<2 ^ 63)
 (hQ:Q () { s with heap:=s.heap.update l (R7 λxs=>xs.setIfInBounds k v) }):wpAny (model prog w) A (setItem (.ref l) (.int i t) v) Q E s:=by
 have ht:s.TypeIs (.ref l) "list":=⟨_,e,rfl⟩
 have hx:items[k]?=some items[k]:=RZ hk
 unfold setItem
 refine Tw (Rq (Xw ht (by decide) ?_))
 refine Rq (Ug (name:=Rp "__setitem__") ht PySem.slot_list_setitem (TV PySem.slot_list_setitem ht PySem.entry_list_setitem ?_ (PySem.args_list_setitem _ _ _)))
 show wpAny _ _ (Builtin.List.listSubscript? (.int i t) >>= _) _ _ s
 refine Rq (wpAny_listSubscript_int (fitsIndex_of (show 0<=i by lia) (show i<2 ^ 63 by lia)) ?_)
 clear hf
 subst hi
 show wpAny _ _ ((seqItemAt l k >>= λr=>pure (r.map λx=>(k,x))) >>= _) _ _ s
 refine Rq (Rq (wpAny_seqItemAt e rfl (Rt ?_)))
 rw [hx]
 show wpAny _ _ (setSeqItemAt l k v >>= _) _ _ s
 refine Rq (wpAny_setSeqItemAt e rfl ?_)
 first
  | exact Rq (Rt (Rt ⟨Tq,rfl,Rt hQ⟩))
  | exact Rt ⟨Tq,rfl,Rt hQ⟩
noncomputable def Nm:IB:=λo i v H Q=>∃ l xs k,o=.ref l/\i=.int (k:Nat)/\H l=some (.lst xs)/\k<xs.length/\Q (upd H l (.lst (xs.set k v)))
theorem Ci:L6 X Nm:=by
 intro aa s σ H o i v ov iv u Q I r1 r2 r3 h
 obtain ⟨l,xs,k,rfl,rfl,hH,hk,q⟩:=h
 cases r1
 obtain ⟨t,rfl⟩:=r2
 obtain ⟨z,its,n,r,hl,e⟩:=I.qF hH
 have hbig:xs.length<2 ^ 63:=Tc z (by decide)
 refine Cg rfl e (by rw [RP,<- hl]; exact hk) (by rw [RP,<- hl]; exact hbig) ⟨_,I.uc (its':=its.set k u) (t':=s.toks) hH e ?_ (Vals.set r3 k r) (by rw [List.length_set]; exact z),q⟩
 show its.toArray.setIfInBounds k u=(its.set k u).toArray
 simp
theorem FZ:Pw X "int.bit_length" (λx vs H Q=>∃ i,x=.int i/\vs=[]/\Q (.int (SE i:Nat)) H):=by
 intro aa s σ H x xs v us Q I r1 r2 h
 obtain ⟨i,rfl,rfl,q⟩:=h
 obtain ⟨t,rfl⟩:=r1
 cases r2
 exact PyProof.Rows.call_int_bit_length ⟨.int (SE i:Nat),H,I.tok _,⟨_,rfl⟩,q⟩
section
variable {K:Rr} {c:Ctx P w K mg base k N sc bk}
theorem J8 (h:aG c e ρ (I1 λi=>R (.int (SE i:Nat)))) (hbase:∀ env,attributeBase e "bit_length" env (eval e env)=eval e env:=by intro _; walk_at "u") (hline:(ap.endLine == cp.line)=true:=by walk_at "u") :
 aG c (.Call (.Attribute e "bit_length" ap) [] [] cp) ρ R:=λσ H Hf Q S q =>
 bK (Az PySem.F.plainAttrs_int PySem.F.slot_int_bit_length PySem.F.type_int_bit_length FZ cQ (hbase _) hline) (h σ H Hf _ S λd v H' aq ⟨i,e,hR⟩ r g=>by
  subst e
  rw [az] at r; subst r
  exact ⟨rfl,i,rfl,rfl,q _ _ H' aq hR (az.mpr rfl) g⟩)
theorem HC {R:Sl->Prop} (h:dD c a ρ λr=>∃ ds,r=.ow ds/\aG c b ρ (I1 λn=>Sd ((0<=n/\n<2 ^ 63)/\ds.length * n.toNat<=sizeLine) (R (.ow (RE n.toNat ds).flatten)))):dD c (.BinOp a .Mult b pos) ρ R:=λσ H Hf Q S q =>
 bK (Aj AB cQ cQ) (h σ H Hf _ S λr v H1 aQ ⟨ds,er,h1⟩ rr g1=>h1 σ H1 aQ _ (S.cG g1) λdn u H2 cL ⟨n,en,⟨⟨n0,n1⟩,hz⟩,hR⟩ rn g2=>by
  subst er en
  rw [az] at rn; subst rn
  obtain ⟨l,xs,rfl,fl,k1,k2,k3⟩:=rr
  have k1':=g2.s _ _ k1
  refine ⟨l,n,xs,rfl,rfl,k1',by lia,n1,by rw [<- k3.length]; exact hz,λp hp=>?_⟩
  have g3:=bx.fJ (o:=.lst (RE n.toNat xs).flatten) g2.b hp
  exact q _ _ _ _ hR ⟨p,_,rfl,(g1.trans g2).s.free hp,af,g2.b.free hp,(k3.mono g2.f).many _⟩ ((g1.trans g2).trans g3))
theorem J9 (hN:At N i x) (hi:At ρ i r) (hr:r.getL=some ds) (h:aG c e ρ λdv=>aG c b ρ λdk=>∃ m:Nat,dk=.int m/\Sd (m<ds.length) (Nx ρ i nx (r.putL (ds.set m dv))))
 (hs:∀ env,swapsWithSole [.Subscript (.Name x px) b tp] e pos.line env=pure false:=by intro _; walk_at "u") (hw:∀ env,swappedStores [.Subscript (.Name x px) b tp] e env=pure none:=by intro _; walk_at "u")
 (h1:∀ env,(assignEach [.Subscript (.Name x px) b tp] env).map (·.2)=[assign (.Subscript (.Name x px) b tp) env]:=by intro _; walk_at "u")
 (ha:∀ env v,assign (.Subscript (.Name x px) b tp) env v=(do
   let ov <- holding [v] (eval (.Name x px) env)
   let iv <- holding [v,ov] (eval b env)
   standAt tp
   holding [v,ov,iv] (setItem ov iv v)
   release [v,ov,iv] []):=by intro _ _; walk_at "u")
 (hd:(x == ("__debug__":Str))=false:=by decide) (hcd:(x == ("__classdict__":Str))=false:=by decide):fX c (.Assign [.Subscript (.Name x px) b tp] e pos) ρ nx p:=λσ H Hf D S o=>by
 obtain ⟨q,eq,rq⟩:=S.own hi.get (dw hr)
 refine eU (IE cQ (ID (c.mQ hN hd hcd) cQ Ci (ha _)) (hs _) (hw _) (h1 _)) (h σ H Hf _ S λdv v H1 aQ h2 rv g1=>⟨_,eq,h2 σ H1 aQ _ (S.cG g1) λdk y H2 cL ⟨m,em,hm,ρ',hs',hn⟩ ry g2=>?_⟩)
 subst em
 rw [az] at ry; subst ry
 have g:=g1.trans g2
 obtain ⟨xs,k1,k2,k3⟩:=JI hr (rq.cG g)
 refine ⟨q,xs,m,rfl,rfl,k1,by rw [<- k3.length]; exact hm,o.nx _ _ cL ρ' ?_ hn⟩
 rw [hs'.eq]
 exact (S.cG g).upd hi.get (dw hr) eq (gz g.b k2) (kP hr (rq.cG g) af k2 (k3.set m (Rep.mono g2.f _ rv))) (gU hr)
end
theorem ie {K:Rr}:∀ {ns:List Int} {xs:List V},ay K H (ns.map D.int) xs->xs=ns.map V.int
 | [],xs,h=>by rw [Ud,aB] at h; subst h; rfl
 | b::bs,xs,h=>by
  rw [RC,aH] at h
  obtain ⟨x,r,rfl,h1,h2⟩:=h
  rw [az] at h1
  rw [h1,ie h2]; rfl
theorem gi {ns:List Int} {us:List Value} (h:Vals (ns.map V.int) us) (i:Nat) (v:Value) (e:us.toArray[i]?=some v):∃ t,v=.int (ns.getD i 0) t:=by
 have e':us[i]?=some v:=by simpa using e
 have hi:i<ns.length:=by
  have:=(RJ.mp e').1
  have l:=h.length
  rw [RB] at l
  omega
 obtain ⟨u,hu,r⟩:=h.get (i:=i) (x:=.int (ns.getD i 0)) (by simp [Sj,hi])
 rw [e'] at hu; cases hu
 exact r
theorem lI (I:Inv X aa σ H s) (hq:fS X.K H p xs) :
 ∃ its:List Value,Vals xs its/\s.heap.IsList p its.toArray/\p<s.heap.objs.size:=by
 obtain ⟨its,rv,pl,hz⟩:=I.list hq
 exact ⟨its,rv,pl.isList,by obtain ⟨o,e,_⟩:=pl.isList; exact Ry e⟩
theorem n5 (I:Inv X aa σ H s) (hk:∀ b o,b∉[s.heap.objs.size]->(s.heap.push ob).get? b=some o->h'.get? b=some o):Inv X aa σ H { s with heap:=h',toks:=tk } :=
 I.kept (h':=h') (t':=tk) λb u e=>hk b u (by simpa using RW (Ry e)) (Rx _ e)
theorem yP (hc:X.calm=true):fT X (.builtin "max") (λxs H Q=>∃ (p:Addr) (ns:List Int),xs=[.ref p]/\ns≠[]/\fS X.K H p (ns.map V.int)/\∀ m∈ns,(∀ n∈ns,n<=m)->Q (.int m) H):=by
 intro aa s σ H xs us Q I r h
 obtain ⟨p,ns,rfl,hne,hq,q⟩:=h
 obtain ⟨u,rfl,rx⟩:=vals1 r
 cases rx
 obtain ⟨its,rv,pl,hlt⟩:=lI I hq
 have hn:its.toArray.size=ns.length:=by have l:=rv.length; rw [RB] at l; simp [l]
 have hpos:0<ns.length:=List.length_pos_iff.mpr hne
 refine call_max_walk (Vx pl ?_)
 have hh:X.A.in1.handled=none:=I.ok.hd hc
 refine ⟨_,_,_,_,_,_,_,rfl,Walks.list hh s.heap.objs.size p (RW hlt) its.toArray,⟨⟨_,RK _ rfl,rfl,rfl⟩,pl.at λo e=>Rx _ e⟩,?_,by rw [hn]; exact hpos,CmpOf.ints_gt (λi=>ns.getD i 0) (gi rv),?_⟩
 ·intro b hb
  show b<(s.heap.push _).objs.size
  rw [Tu]
  simp only [RL,Te,or_false] at hb
  rcases hb with rfl | rfl
  ·exact T7 _
  ·exact XD hlt
 ·intro v h' tk hP hk
  obtain ⟨t,rfl⟩:=gi rv _ _ hP
  obtain ⟨b1,b2⟩:=argBest_gt (λi=>ns.getD i 0) (its.toArray.size - 1)
  rw [hn] at b1 b2 |-
  have J:=n5 (s:=s) (tk:=tk) I hk
  refine ⟨.int _,H,J,⟨_,rfl⟩,q _ ?_ λn hm=>?_⟩
  ·rw [Sj,RU (by omega)]
   exact Sg _
  ·obtain ⟨j,hj,rfl⟩:=List.getElem_of_mem hm
   have:=b2 j (by omega)
   rw [show ns.getD j 0=ns[j] by simp [Sj,hj]] at this
   exact this
theorem xh (ns:List Int):∀ j,j<=ns.length->preSum (λi=>ns.getD i 0) j=(ns.take j).sum
 | 0,_=>rfl
 | j+1,h=>by
  show preSum (λi=>ns.getD i 0) j+ns.getD j 0=_
  rw [xh ns j (by omega),S0 (by omega),Ve]
  simp [Sj,show j<ns.length by omega]
theorem yQ (hc:X.calm=true):fT X (.builtin "sum") (λxs H Q=>∃ (p:Addr) (ns:List Int),xs=[.ref p]/\fS X.K H p (ns.map V.int)/\Q (.int ns.sum) H):=by
 intro aa s σ H xs us Q I r h
 obtain ⟨p,ns,rfl,hq,q⟩:=h
 obtain ⟨u,rfl,rx⟩:=vals1 r
 cases rx
 obtain ⟨its,rv,pl,hlt⟩:=lI I hq
 have hn:its.toArray.size=ns.length:=by have l:=rv.length; rw [RB] at l; simp [l]
 refine call_sum_walkG (Vx pl ?_)
 have hh:X.A.in1.handled=none:=I.ok.hd hc
 refine ⟨_,_,_,_,_,_,λi=>ns.getD i 0,rfl,Walks.list hh s.heap.objs.size p (RW hlt) its.toArray,⟨⟨_,RK _ rfl,rfl,rfl⟩,pl.at λo e=>Rx _ e⟩,?_,gi rv,?_⟩
 ·intro b hb
  show b<(s.heap.push _).objs.size
  rw [Tu]
  simp only [RL,Te,or_false] at hb
  rcases hb with rfl | rfl
  ·exact T7 _
  ·exact XD hlt
 ·intro h' tk t' hk
  rw [hn,xh ns _ (Rv _),SX]
  have J:=n5 (s:=s) (tk:=tk) I hk
  exact ⟨.int ns.sum,H,J,⟨_,rfl⟩,q⟩
section
variable {K:Rr} {c:Ctx P w K mg base k N sc bk}
theorem boot_sum:bootBuiltins "sum"=some (.builtin "sum"):=by decide +kernel
theorem yR {Z:List Int->Int->Prop} (hr:∀ (p:Addr) (ns:List Int) H Q,fS K H p (ns.map V.int)->(∀ m,Z ns m->Q (.int m) H)->ns≠[]->r [.ref p] H Q) :
 yr K r (λds R=>∃ ns:List Int,ns≠[]/\ds=[.lst (ns.map D.int)]/\∀ m,Z ns m->R (.int m)):=by
 rintro ds vs H Hf Q R s rs ⟨ns,hne,rfl,hR⟩ q
 obtain ⟨v,rfl,rv⟩:=nC rs
 rw [aZ] at rv
 obtain ⟨a,xs,rfl,h1,h2⟩:=rv
 rw [ie h2] at h1
 exact hr a ns H Q (s.seq h1) (λm hm=>q _ _ H Hf (hR m hm) (az.mpr rfl) (.refl s)) hne
theorem Ka (hm:mg "max"=none) (h:aG c e ρ λx=>∃ ns:List Int,ns≠[]/\x=.lst (ns.map D.int)/\∀ m,(m∈ns/\∀ n∈ns,n<=m)->R (.int m)) (hg:sc.names.lookup (Rp "max")=some .globalImplicit:=by walk_at "u")
 (he:∀ env,starEach [e] env=(false,eval e env)::starEach [] env:=by intro _; walk_at "u"):aG c (.Call (.Name "max" p) [e] [] pos) ρ R :=
 qN (yP c.calm) (yR (Z:=λns m=>m∈ns/\∀ n∈ns,n<=m) λp ns H Q h q hne=>⟨p,ns,rfl,hne,h,λm h1 h2=>q m ⟨h1,h2⟩⟩) hm boot_max
  (bC (h.imp λd ⟨ns,hne,e,hR⟩=>jJ ⟨ns,hne,by rw [e],hR⟩) he) hg (by decide) (by decide) he (by intro _; walk_at "u")
theorem Kc (hm:mg "sum"=none) (h:aG c e ρ λx=>∃ ns:List Int,x=.lst (ns.map D.int)/\R (.int ns.sum)) (hg:sc.names.lookup (Rp "sum")=some .globalImplicit:=by walk_at "u")
 (he:∀ env,starEach [e] env=(false,eval e env)::starEach [] env:=by intro _; walk_at "u"):aG c (.Call (.Name "sum" p) [e] [] pos) ρ R :=
 qN (yQ c.calm) (q:=λds R=>∃ ns:List Int,ds=[.lst (ns.map D.int)]/\R (.int ns.sum)) (by
  rintro ds vs H Hf Q R s rs ⟨ns,rfl,hR⟩ q
  obtain ⟨v,rfl,rv⟩:=nC rs
  rw [aZ] at rv
  obtain ⟨a,xs,rfl,h1,h2⟩:=rv
  rw [ie h2] at h1
  exact ⟨a,ns,rfl,s.seq h1,q _ _ H Hf hR (az.mpr rfl) (.refl s)⟩) hm boot_sum (bC (h.imp λd ⟨ns,e,hR⟩=>jJ ⟨ns,by rw [e],hR⟩) he) hg (by decide) (by decide) he (by intro _; walk_at "u")
end
section
variable {prog:Program} {w:World} {A:Around} {E:Value->Shared->Prop} {s:Shared}
variable {jt tp:Addr} {i:Nat} {items:Array Value}
theorem nextT (hh:A.handled=none) (h1:s.heap.IsTupleIter jt tp i) (h2:s.heap.IsTuple tp items)
 (hv:∀ v,items[i]?=some v->∀ h',h'.IsTupleIter jt tp (i+1)->Tt jt s.heap h'->Q v { s with heap:=h' })
 (hn:items[i]?=none->∀ h' e,Uu jt s.heap h'->(∃ o,h'.get? e=some o/\o.cls=.type "StopIteration")->E (.ref e) { s with heap:=h' }) :
 wpAny (model prog w) A (TN (.ref jt)) Q E s:=by
 obtain ⟨ob,hob,hcb,hdb⟩:=id h1
 obtain ⟨ot,hot,_,m,hdt⟩:=id h2
 unfold TN
 refine Rq (Ug (name:=Rp "__next__") h1.typeIs F.slot_tuple_iterator_next (TV F.slot_tuple_iterator_next h1.typeIs F.entry_tuple_iterator_next ?_ (F.args_tuple_iterator_next_1 _)))
 show wpAny _ _ (field (.ref jt) 0 >>= _) _ _ s
 refine Rq (SG hob hdb (x:=.ref tp) rfl ?_)
 show wpAny _ _ (if (R1 tp == Tq)=true then _ else _) _ _ s
 rw [if_neg (show ¬ ((R1 tp == Tq)=true) from RG)]
 show wpAny _ _ (field (.ref jt) 1 >>= _) _ _ s
 refine Rq (SG hob hdb (x:=.int i 0) rfl ?_)
 show wpAny _ _ (seqItems? (.ref tp) >>= _) _ _ s
 refine Rq (UJ hot hdt ?_)
 rw [So]
 dsimp only
 cases hx:items[i]? with
 | some v =>
  have q:=hv v hx (s.heap.update jt (Obj.mapFields λvs=>vs.setIfInBounds 1 (rawInt ((i:Int)+1)))) ⟨_,Heap.get?_update_self _ hob (Obj.isFreed_of_fields (Obj.data_mapFields hdb _)),(Obj.cls_mapFields ..).trans hcb,by rw [Obj.data_mapFields hdb]; simp [rawInt]⟩ (Xm ..)
  dsimp only
  exact Rq (wpAny_setField hob hdb (by simp) (Rt ⟨v,rfl,Rt q⟩))
 | none =>
  dsimp only
  refine Rq (SM (Rq (wpAny_setField hob hdb (by simp) (show wpAny _ _ (newExc (.type "StopIteration") [] >>= _) _ _ _ from Rq ?_))))
  simp only [newExc,newTuple]
  refine Rq (Td (Rq (m:=firstArgMember _ _) (wpAny_of_eq (a:=Tq) (by first | rfl | (simp only [firstArgMember]; rfl)) (Td ?_ (by size_fits)))) (by size_fits))
  simp only [raiseNew]
  refine Rq (wpAny_handled ?_)
  rw [show A.in1.handled=none from hh]
  exact Rq (Rt (wpAny_throw (hn hx _ _ (((Xm ..).extBut.push _).push _) ⟨_,RK _ rfl,rfl⟩)))
theorem Kd (hh:A.handled=none) (jt tp:Addr) (hne:tp≠jt) (items:Array Value) :
 Draws prog w A jt [jt,tp] items.size (λi v=>items[i]?=some v) (λi h=>h.IsTupleIter jt tp i/\h.IsTuple tp items) where
 live:=λ_ _ ⟨⟨o,ho,_⟩,_⟩=>⟨o,ho⟩
 frame:=λ_ _ _ ⟨⟨o,e,r⟩,⟨o',e',r'⟩⟩ hk=>⟨⟨o,hk jt (by simp) o e,r⟩,o',hk tp (by simp) o' e',r'⟩
 item:=λi s Q E hi ⟨s1,s2⟩ q=>nextT hh s1 s2 (λv hv h' a b=>q v h' s.toks hv ⟨a,s2.extBut b.extBut hne⟩ b) λhx=>by
  rw [RZ hi] at hx; cases hx
 done:=λs Q E ⟨s1,s2⟩ q=>nextT hh s1 s2 (λv hv=>by simp at hv) λ_=>q
end
set_option maxHeartbeats 1000000 in
theorem rZ (tp) (items) (n) (dc) (sl) :
 Meets (Builtin.«enumerate.__new__» ⟨[.type "enumerate",.ref tp],[]⟩) (λ_ R s=>s.heap.get? tp=some { cls:=.type "tuple",dict:=dc,data:=.seq items n,slots:=sl } /\
  R (.ok (.ret (.ref (s.heap.push { cls:=.type "tuple_iterator",data:=.fields #[.ref tp,.int 0 0] }).objs.size)))
   { s with heap:=(s.heap.push { cls:=.type "tuple_iterator",data:=.fields #[.ref tp,.int 0 0] }).push { cls:=.type "enumerate",data:=.fields #[.none,.bool false,.ref s.heap.objs.size,rawInt 0,.none,.none] } }) :=
 .of_wp λprog w A R ⟨hp,g,d,tk,os⟩ ⟨hl,h⟩=>by
  have hz:=sub_enumerate
  have hT:Heap.IsTuple (Shared.heap ⟨hp,g,d,tk,os⟩) tp items:=⟨_,hl,rfl,n,rfl⟩
  wp_walk using V2 hl
  refine wpAny_stack_any λst=>Rt ?_
  split
  ·rename_i k _ _ _ _ _
   cases (k == SN "enumerate") <;> (wp_walk using V2 hl,Xn hT; exact ⟨_,rfl,h⟩)
  ·wp_walk using V2 hl,Xn hT; exact ⟨_,rfl,h⟩
theorem uJ (hT:s.heap.IsTuple tp items)
 (h:∀ h',IsEnum h' (s.heap.objs.size+1) s.heap.objs.size 0 .none->h'.IsTupleIter s.heap.objs.size tp 0->(∀ b o,s.heap.get? b=some o->h'.get? b=some o)->Q (.ref (s.heap.objs.size+1)) { s with heap:=h' }) :
 wpAny (model prog w) A (call (.type "enumerate") [.ref tp]) Q E s:=by
 obtain ⟨⟨c,dc,dt,sl⟩,hl,hc,n,hd⟩:=hT
 obtain rfl:c=.type "tuple":=hc
 obtain rfl:dt=.seq items n:=hd
 refine callType_new F.called_enumerate (by decide) (F.typeCall_enumerate_1 _) (F.newCall_enumerate_1 _) (λob=>F.args_object_init_2 ob _) F.entry_enumerate_new (rZ tp items n dc sl) ⟨hl,?_⟩
 generalize e1:s.heap.push { cls:=.type "tuple_iterator",data:=.fields #[.ref tp,.int 0 0] }=g1
 have hz:g1.objs.size=s.heap.objs.size+1:=by rw [<- e1]; exact Tu ..
 have hi:g1.get? s.heap.objs.size=some { cls:=.type "tuple_iterator",data:=.fields #[.ref tp,.int 0 0] }:=by rw [<- e1]; exact RK _ rfl
 have hb:∀ b o,s.heap.get? b=some o->g1.get? b=some o:=λb o q=>by rw [<- e1]; exact Rx _ q
 have he:IsEnum (g1.push { cls:=.type "enumerate",data:=.fields #[.none,.bool false,.ref s.heap.objs.size,rawInt 0,.none,.none] }) g1.objs.size s.heap.objs.size 0 .none:=RK _ rfl
 rw [hz] at he
 show _/\_
 rw [hz]
 exact ⟨⟨_,he,rfl⟩,h _ he ⟨_,Rx _ hi,rfl,rfl⟩ λb o q=>Rx _ (hb b o q)⟩
noncomputable def lJ (ds:List D):List D:=ds.zipIdx.map λx=>D.tup [.int x.2,x.1]
noncomputable def Qc (K:Rr) (t:Addr):It :=
 ⟨λi H=>∃ xs x,dG K H t xs/\xs[i]?=some x,
  λi H v H'=>∃ p x,v=.ref p/\H p=none/\H'=upd H p (.tup [.int (i:Nat),x])/\∀ xs,dG K H t xs->xs[i]?=some x,
  λi H=>∃ xs,dG K H t xs/\xs.length<=i⟩
theorem F0 (I:Inv X aa σ H s) (h1:dG X.K H a xs) (h2:dG X.K H a ys):xs=ys:=I.jg h1 h2
theorem Cj {prog:Program} {w:World} {A:Around} (hh:A.handled=none) (j t:Addr) (items:Array Value) (i:Nat) (hx:items[i]?=none) :
 Draws prog w A j [j,t] i (λ_ _=>False) (λk h=>k=i/\h.IsTupleIter j t i/\h.IsTuple t items) where
 live:=λ_ _ ⟨_,⟨o,ho,_⟩,_⟩=>⟨o,ho⟩
 frame:=λ_ _ _ ⟨ek,⟨o,e,r⟩,⟨o',e',r'⟩⟩ hk=>⟨ek,⟨o,hk j (by simp) o e,r⟩,o',hk t (by simp) o' e',r'⟩
 item:=λk s Q E hi ⟨ek,_⟩ _=>absurd ek (RW hi)
 done:=λs Q E ⟨_,s1,s2⟩ q=>nextT hh s1 s2 (λv hv=>by rw [hx] at hv; cases hv) λ_=>q
theorem yS {P:Program} {w:World} {K:Rr} {elts:List Expr} {k:Nat} {pos:Pos} {e j t:Addr} (hne:e≠j) :
 Turn P w K (.Tuple elts k pos) (Qc K t) [e,j] e (λi h=>(∃ old,IsEnum h e j i old)/\h.IsTupleIter j t i) where
 mem:=by simp
 obj:=λi h ⟨⟨old,he⟩,⟨o1,e1,_,d1⟩⟩ b hb=>by
  simp only [RL,Te,or_false] at hb
  rcases hb with rfl | rfl
  ·exact ⟨_,he,λv q=>by have q':VR _=UU v:=q; cases q'⟩
  ·exact ⟨_,e1,λv q=>by rw [d1] at q; cases q⟩
 keep:=λi h h' ⟨⟨old,he⟩,⟨o1,e1,r1⟩⟩ hk=>⟨⟨old,hk e (by simp) _ he⟩,⟨o1,hk j (by simp) _ e1,r1⟩⟩
 item:=by
  intro X hP hw hK hc i aa s σ H E I hf st hg
  subst hP hw hK
  obtain ⟨⟨old,he⟩,hj⟩:=st
  obtain ⟨xs,x,q1,hx⟩:=hg
  obtain ⟨its,rv,p1,z1⟩:=I.tuple q1
  obtain ⟨u,hu,ru⟩:=rv.get hx
  have pT:s.heap.IsTuple t its.toArray:=by obtain ⟨o,ho,hc',n,hd⟩:=p1; exact ⟨o,ho,hc',n,hd⟩
  have hjt:t≠j:=by
   obtain ⟨o,ho,hc',n,hd⟩:=pT
   obtain ⟨o',ho',hc'',_⟩:=hj
   rintro rfl
   rw [ho] at ho'; cases ho'
   rw [hc'] at hc''; exact absurd hc'' (by simp)
  have het:e≠t:=by
   obtain ⟨o,ho,hc',n,hd⟩:=pT
   rintro rfl
   rw [he] at ho; cases ho
   exact absurd hc' (by simp)
  have hi:i<its.toArray.size:=by
   have:i<its.length:=(RJ.mp hu).1
   simpa using this
  have hh:X.A.in1.handled=none:=I.ok.hd hc
  refine wpAny_pyNext_enum_itemD (Kd hh j t hjt its.toArray) he ⟨hj,pT⟩ hi hne (by simp; exact ⟨hne,het⟩) λx' h' tk hPx a1 a2 a3 a4 hk=>?_
  have ex:x'=u:=by
   have:its[i]?=some x':=by simpa using hPx
   rw [hu] at this; cases this; rfl
  subst ex
  have Hp:H s.heap.objs.size=none:=I.hok.fresh (Rv _)
  have IA:Inv X aa σ (upd H s.heap.objs.size (.tup [.int (i:Nat),x])) { s with heap:=s.heap.push { cls:=.type "tuple",data:=.seq #[.int (i:Nat) tk,x'] },toks:=tk+1 } :=
   I.laid (a:=s.heap.objs.size) (o:=.tup [.int (i:Nat),x]) (λ_ _ q=>Rx _ q) (Rv _) ⟨by show 2<=sizeLine; decide,[.int (i:Nat) tk,x'],.cons ⟨tk,rfl⟩ (.cons ru .nil),_,RK _ rfl,rfl,0,rfl⟩
  have lt:∀ b∈[e,j],b<s.heap.objs.size:=λb hb=>by
   obtain ⟨o1,e1,_⟩:=hj
   simp only [RL,Te,or_false] at hb
   rcases hb with rfl | rfl
   ·exact Ry he
   ·exact Ry e1
  have gf:∀ b∈[e,j],eZ X aa (upd H s.heap.objs.size (.tup [.int (i:Nat),x])) b:=λb hb=>⟨by rw [av (RW (lt b hb))]; exact (hf b hb).1,(hf b hb).2⟩
  have I1:Inv X aa σ (upd H s.heap.objs.size (.tup [.int (i:Nat),x])) { s with heap:=h',toks:=tk+1 } :=
   gG (s:={ s with heap:=s.heap.push { cls:=.type "tuple",data:=.seq #[.int (i:Nat) tk,x'] },toks:=tk+1 }) (t':=tk+1) (h':=h') (L:=[e,j]) IA (λb o hb q=>by
    simp only [RL,Te,or_false,not_or] at hb
    by_cases z:b=s.heap.objs.size
    ·subst z
     rw [RK _ rfl] at q; cases q; exact a3
    ·refine hk b o hb.1 hb.2 ?_
     rw [XJ _ _ _ z] at q; exact q) gf
  refine ⟨_,rfl,wpAny_letOwnedTupleGo_enum (s:={ s with heap:=h',toks:=tk+1 }) a1 λh2' hz' hs'=>?_⟩
  refine ⟨.ref s.heap.objs.size,_,gG (s:={ s with heap:=h',toks:=tk+1 }) (t':=tk+1) (h':=h2') (L:=[e,j]) I1 (λb o hb q=>hs'.extBut b o (λz=>hb (by simp [z])) q) gf,rfl,
   ⟨_,x,rfl,Hp,rfl,λxs' h=>by rw [F0 I h q1]; exact hx⟩,⟨⟨x',?_⟩,a2.1.extBut hs'.extBut (RS hne)⟩,λb hb=>(gf b hb).1⟩
  have hz2:=hz'
  rw [show ((i:Int)+1)=((i+1:Nat):Int) by lia] at hz2
  exact hz2
 done:=by
  intro X hP hw hK hc i aa s σ H E I hf st hg
  subst hP hw hK
  obtain ⟨⟨old,he⟩,hj⟩:=st
  obtain ⟨xs,q1,hend⟩:=hg
  obtain ⟨its,rv,p1,z1⟩:=I.tuple q1
  have pT:s.heap.IsTuple t its.toArray:=by obtain ⟨o,ho,hc',n,hd⟩:=p1; exact ⟨o,ho,hc',n,hd⟩
  have hl:=rv.length
  have hx:its.toArray[i]?=none:=by simp; lia
  have hh:X.A.in1.handled=none:=I.ok.hd hc
  exact wpAny_pyNext_enum_endD (Cj hh j t its.toArray i hx) he ⟨rfl,hj,pT⟩ λh' hk=>⟨rfl,gG (t':=s.toks) (L:=[e,j]) I (λb o hb q=>hk b o (λz=>hb (by simp [z])) q) hf⟩
 self:=λA i s Q E ⟨⟨old,he⟩,_⟩ h=>wpAny_pyIter_enum he h
theorem yT {K:Rr} {Hf:Hp} {ds:List D} {xs:List V} {t:Addr} (h1:dG K Hf t xs) (r1:ay K Hf ds xs):jl K (Qc K t) (lJ ds) Hf where
 go:=λi d H aQ s1 s2 e=>by
  unfold lJ at e
  rw [RO,RV] at e
  obtain ⟨⟨x,m⟩,ex,rfl⟩:=e
  rw [List.getElem?_zipIdx,RV] at ex
  obtain ⟨x',ex,ee⟩:=ex
  cases ee
  obtain ⟨v1,f1,g1⟩:=r1.get ex
  have q1:=aC (s1.trans s2) h1
  refine ⟨⟨xs,v1,q1,f1⟩,λv H' ⟨p,y,e1,e2,e3,e4⟩=>?_⟩
  have z1:=e4 xs q1
  rw [f1] at z1; cases z1
  subst e1 e3
  have g:=bx.new s2 e2 (o:=.tup [.int (i:Nat),v1])
  rw [Uc]
  exact ⟨upd aQ p (.tup [.int (i:Nat),v1]),g,aM.mpr ⟨p,_,rfl,.inl (.inl af),.cons (az.mpr rfl) (.cons (Rep.mono (s1.trans g.f) _ g1) (aB.mpr rfl))⟩⟩
 stop:=λi H aQ s1 s2 e=>⟨xs,aC (s1.trans s2) h1,by
  rw [<- r1.length]
  simpa [lJ] using e⟩
theorem yU:bootBuiltins "enumerate"=some (.type "enumerate"):=by decide +kernel
noncomputable def Np (K:Rr) (ta:TA):TI:=λσ H R=>ta σ H λvs H1=>∃ t xs,vs=[.ref t]/\dG K H1 t xs/\R (Qc K t) H1
theorem F1 (hg:Gl X "enumerate") (hm:X.mg "enumerate"=none) (ha:PA X [a] ta) (hs:starEach [a] X.env=[(false,eval a X.env)]) :
 PI X (.Tuple elts kt tpos) (.Call (.Name "enumerate" p) [a] [] pos) (Np X.K ta):=by
 intro aa s σ H R I h
 refine Call_ (dZ I hg hm yU (UZ (bB (ha pos aa s σ H _ I h) λus s1 ⟨vs,H1,I1,r1,q1⟩=>?_) hs (by rfl)))
 obtain ⟨t,xs,e,q1,q⟩:=q1
 subst e
 obtain ⟨u,rfl,rx⟩:=vals1 r1
 cases rx
 obtain ⟨its,rv,p1,z1⟩:=I1.tuple q1
 have pT:s1.heap.IsTuple t its.toArray:=by obtain ⟨o,ho,hc',n,hd⟩:=p1; exact ⟨o,ho,hc',n,hd⟩
 refine uJ pT λh' a1 a2 hk=>wpAny_pyIter_enum a1 ?_
 refine ⟨s1.heap.objs.size+1,[s1.heap.objs.size+1,s1.heap.objs.size],_,_,H1,rfl,I1.kept (t':=s1.toks) hk,yS (Uq (T7 _)),⟨⟨.none,a1⟩,a2⟩,λb hb=>?_,q⟩
 have hb':s1.heap.objs.size<=b:=by
  simp only [RL,Te,or_false] at hb
  rcases hb with rfl | rfl
  ·exact T8 _ _
  ·exact Rv _
 exact I1.mE hb' (I1.hok.fresh hb')
section
variable {K:Rr} {c:Ctx P w K mg base k N sc bk}
theorem Ke (hm:mg "enumerate"=none) (h:aG c a ρ λx=>∃ ds,x=.tup ds/\R (lJ ds)) (hg:sc.names.lookup (Rp "enumerate")=some .globalImplicit:=by walk_at "u")
 (hs:∀ env,starEach [a] env=(false,eval a env)::starEach [] env:=by intro _; walk_at "u"):zV c (.Tuple elts kt tpos) (.Call (.Name "enumerate" p) [a] [] pos) ρ R:=λσ H Hf Q S q aa s I =>
 F1 (by unfold Gl Sw; rw [c.esc]; exact hg) (by rw [c.emg]; exact hm) (bQ cQ d8 (hs _)) (by rw [hs]; rfl) aa s σ H Q I
  (h σ H Hf _ S λx v1 H1 aQ ⟨ds,e1,hR⟩ r1 g1=>by
    subst e1
    rw [aM] at r1
    obtain ⟨t,xs,rfl,s1,t1⟩:=r1
    exact ⟨t,xs,rfl,aC g1.b s1,q _ _ H1 aQ hR g1 (yT s1 t1)⟩)
end
noncomputable def Kf (lo:Int) (n:Nat):It:=⟨λi _=>i<n,λi H x H'=>H'=H/\x=.int (lo - i),λi _=>n<=i⟩
noncomputable def Ck (lo:Int) (n:Nat):List D:=(RI n).map λ(i:Nat)=>D.int (lo - (i:Int))
theorem yV {P:Program} {w:World} {K:Rr} {tg:Expr} (j:Addr) (lo:Int) (n:Nat):Turn P w K tg (Kf lo n) [j] j (λi h=>IsRangeIter h j (lo+(i:Nat) * -1) ((n:Int) - (i:Nat)) (-1)) where
 mem:=RN.mpr rfl
 obj:=λi h st b hb=>by
  obtain rfl:b=j:=RN.mp hb
  exact ⟨_,st,λv z=>by have q:VR _=UU v:=z; cases q⟩
 keep:=λi h h' st k=>k j (RN.mpr rfl) _ st
 item:=by
  intro X hP hw hK hc i aa s σ H E I hf st hg
  subst hP hw hK
  obtain ⟨f0,f1,f2,f3,f4,f5⟩:=hf j (RN.mpr rfl)
  have W:=Walks.range (prog:=X.prog) (w:=X.w) (I.ok.hd hc) j lo (-1) n
  refine W.item i s _ _ hg st λv h' tk hv st' kk=>?_
  obtain ⟨t,rfl⟩:=hv
  have I1:Inv X aa σ H { s with heap:=h',toks:=tk }:=I.turned (λb o hb e=>kk b o (by simpa using hb) e) f0 f1 f3 f4 f5
  have e:lo+(i:Int) * -1=lo - i:=by lia
  exact ⟨_,rfl,qD (s:={ s with heap:=h',toks:=tk }) (n:="range_iterator") st' rfl rfl (by decide) ⟨.int (lo - i),H,I1,⟨t,by rw [e]⟩,⟨rfl,rfl⟩,st',λb hb=>(hf b hb).1⟩⟩
 done:=by
  intro X hP hw hK hc i aa s σ H E I hf st hg
  subst hP hw hK
  obtain ⟨f0,f1,f2,f3,f4,f5⟩:=hf j (RN.mpr rfl)
  exact wpAny_pyNext_range_end (I.ok.hd hc) st (by have:n<=i:=hg; lia) λh' eb=>⟨rfl,I.turned (t':=s.toks) (λb o hb e=>eb b o hb e) f0 f1 f3 f4 f5⟩
 self:=λ_ _ _ _ _ st h=>wpAny_pyIter_rangeiter st h
theorem lK {lo hi:Int}:V4 lo hi (-1)=((lo - hi).toNat:Int):=by
 unfold V4
 rw [if_neg (by decide)]
 split
 ·rw [show - (-1:Int)=1 by decide,Int.ediv_one]; lia
 ·lia
theorem small_down (ha: -(2 ^ 62)<=a) (ha':a<2 ^ 62) (hb: -(2 ^ 62)<=b) (hb':b<2 ^ 62):Builtin.Range.small a b (-1)=true:=by
 unfold Builtin.Range.small
 rw [lK]
 simp only [Builtin.Range.rangeFitsLong,Vd,Bool.or_eq_true,decide_eq_true_eq,beq_iff_eq,show ¬ (-1:Int)>0 by decide,if_false]
 lia
noncomputable def Nq (ta:TA):TI:=λσ H R=>ta σ H λvs H1=>∃ i j:Int,vs=[.int i,.int j,.int (-1)]/\(-(2 ^ 62)<=i/\i<2 ^ 62/\ -(2 ^ 62)<=j/\j<2 ^ 62)/\R (Kf i (i - j).toNat) H1
theorem F2 (hg:Gl X "range") (hm:X.mg "range"=none) (ha:PA X [a,b,c] ta) (hs:starEach [a,b,c] X.env=[(false,eval a X.env),(false,eval b X.env),(false,eval c X.env)])
 (hs2:starEach [b,c] X.env=[(false,eval b X.env),(false,eval c X.env)]):PI X tg (.Call (.Name "range" p) [a,b,c] [] pos) (Nq ta):=by
 intro aa s σ H R I h
 refine Call_ (dZ I hg hm boot_range (UZ (bB (ha pos aa s σ H _ I h) λus s1 ⟨vs,H1,I1,r1,q1⟩=>?_) (by rw [hs,hs2]) (by rw [hs2]; rfl)))
 obtain ⟨i,j,e,⟨q1,q2,q3,q4⟩,q⟩:=q1
 subst e
 cases r1 with
 | cons r rr=>cases rr with
  | cons r' rr=>cases rr with
   | cons r'' rr =>
    cases rr
    obtain ⟨t,rfl⟩:=r
    obtain ⟨t',rfl⟩:=r'
    obtain ⟨t'',rfl⟩:=r''
    refine call_range_3 (by decide) ?_ (.inl (WW (by decide +kernel)))
    refine wpAny_pyIter_range (IsRange.new ..) (small_down q1 q2 q3 q4) ?_
    have I2:Inv X aa σ H1 { s1 with heap:=s1.heap.push { cls:=.type "range",data:=.fields #[.int i t,.int j t',.int (-1) t''] },toks:=s1.toks }:=I1.kept λb o e=>Rx _ e
    generalize s1.heap.push { cls:=.type "range",data:=.fields #[.int i t,.int j t',.int (-1) t''] }=g at I2 |-
    refine ⟨g.objs.size,[g.objs.size],_,_,H1,rfl,I2.kept (t':=s1.toks) λb o e=>Rx _ e,yV _ i (i - j).toNat,?_,λb hb=>?_,q⟩
    ·show IsRangeIter _ _ (i+((0:Nat):Int) * -1) ((((i - j).toNat:Nat):Int) - ((0:Nat):Int)) (-1)
     rw [show i+((0:Nat):Int) * -1=i by simp,show (((i - j).toNat:Nat):Int) - ((0:Nat):Int)=V4 i j (-1) by rw [lK]; lia]
     exact RK _ rfl
    ·obtain rfl:b=g.objs.size:=RN.mp hb
     exact I2.mE (Rv _) (I2.hok.fresh (Rv _))
theorem Cm {K:Rr} {lo:Int} {n:Nat} {eY:Hp}:jl K (Kf lo n) (Ck lo n) eY where
 go:=λi d H Hf s1 s2 e=>by
  unfold Ck at e
  rw [RO] at e
  obtain ⟨j,e1,e2⟩:=RV.mp e
  have hi:i<n:=by simpa using (RJ.mp e1).1
  have:j=i:=by rw [Vv hi] at e1; cases e1; rfl
  subst this
  refine ⟨hi,λx H' ⟨e3,e4⟩=>?_⟩
  subst e3 e4 e2
  exact ⟨Hf,.refl s2,az.mpr rfl⟩
 stop:=λi H Hf s1 s2 e=>show n<=i by simpa [Ck] using e
section
variable {K:Rr} {c:Ctx P w K mg base k N sc bk}
theorem Kg (hm:mg "range"=none) (h:aG c a ρ λx=>aG c b ρ λy=>aG c e ρ λz=>∃ i j:Int,x=.int i/\y=.int j/\z=.int (-1)/\Sd (Bl i) (Sd (Bl j) (R (Ck i (i - j).toNat))))
 (hg:sc.names.lookup (Rp "range")=some .globalImplicit:=by walk_at "u")
 (hs:∀ env,starEach [a,b,e] env=(false,eval a env)::starEach [b,e] env:=by intro _; walk_at "u") (hs2:∀ env,starEach [b,e] env=(false,eval b env)::starEach [e] env:=by intro _; walk_at "u")
 (hs3:∀ env,starEach [e] env=(false,eval e env)::starEach [] env:=by intro _; walk_at "u"):zV c tg (.Call (.Name "range" p) [a,b,e] [] pos) ρ R:=λσ H Hf Q S q aa s I =>
 F2 (by unfold Gl Sw; rw [c.esc]; exact hg) (by rw [c.emg]; exact hm) (bQ cQ (bQ cQ (bQ cQ d8 (hs3 _)) (hs2 _)) (hs _)) (by rw [hs,hs2,hs3]; rfl) (by rw [hs2,hs3]; rfl) aa s σ H Q I
  (h σ H Hf _ S λx v1 H1 aQ h1 r1 g1=>h1 σ H1 aQ _ (S.cG g1) λy v2 H2 cL h2 r2 g2=>h2 σ H2 cL _ (S.cG (g1.trans g2)) λz v3 H3 Hf3 ⟨i,j,e1,e2,e3,⟨hi,⟨hj,hR⟩⟩⟩ r3 g3=>by
    subst e1 e2 e3; rw [az] at r1 r2 r3; subst r1 r2 r3
    exact ⟨i,j,rfl,⟨hi.1,hi.2,hj.1,hj.2⟩,q _ _ H3 Hf3 hR ((g1.trans g2).trans g3) Cm⟩)
end
noncomputable abbrev ltI (x y:Int):Bool:=decide (x<y)
noncomputable def QG (d:Addr) (o:Obj) (ys:List (Key×V)):It :=
 ⟨λi H=>H d=some (.frz o (.dK ys))/\i<ys.length,λi H x H'=>H'=H/\∃ y,ys[i]?=some y/\x=kV y.1,λi H=>H d=some (.frz o (.dK ys))/\ys.length<=i⟩
theorem pR (I:Inv X aa σ H s) (hH:H d=some (.frz o (.dK ys))):∃ (vs:List (Key×Value)) (es:Array DictEntry) (ep:Nat),o.data=.dict es ep/\KV ys vs/\s.heap.DictAt (bO X.prog X.w) d vs ep/\(d == sysModules)=false/\ys.length<=sizeLine:=by
 obtain ⟨ho,ok⟩:=(show bu X.prog X.w H s.heap d (.frz o (.dK ys)) from I.hok d _ hH)
 obtain ⟨z,y,vs,kv,o',es,ep,h1,h2,h3,h4,h5,h6⟩:=ok
 rw [ho] at h1; cases h1
 exact ⟨vs,es,ep,h3,kv,⟨o,es,ho,h2,h3,h4,h5,h6⟩,y,z⟩
theorem yW {P:Program} {w:World} {K:Rr} {tg:Expr} {d j:Addr} {o:Obj} {ys:List (Key×V)} {es:Array DictEntry} {ep:Nat} (hod:o.data=.dict es ep):Turn P w K tg (QG d o ys) [j] j (λi h=>h.IsKeyIter j d i ys.length ep) where
 mem:=RN.mpr rfl
 obj:=λi h ⟨q,e,_,hd⟩ b hb=>by
  obtain rfl:b=j:=RN.mp hb
  exact ⟨_,e,λv z=>by rw [hd] at z; cases z⟩
 keep:=λi h h' ⟨q,e,r⟩ k=>⟨q,k j (RN.mpr rfl) _ e,r⟩
 item:=by
  intro X hP hw hK hc i aa s σ H E I hf st hg
  subst hP hw hK
  obtain ⟨f0,f1,f2,f3,f4,f5⟩:=hf j (RN.mpr rfl)
  obtain ⟨hH,hi⟩:=hg
  obtain ⟨vs,es',ep',e1,kv,da,_⟩:=pR I hH
  rw [hod] at e1; cases e1
  have hl:ys.length=vs.length:=To kv
  obtain ⟨⟨ky,v⟩,hv,r1,r2⟩:=fL kv (RU hi)
  rw [hl] at st
  refine wpAny_pyNext_dict_item st da hv λkey h' hkey hit' hs'=>?_
  have I1:Inv X aa σ H { s with heap:=h',toks:=s.toks }:=I.turned (λb o hb e=>hs'.extBut b o hb e) f0 f1 f3 f4 f5
  obtain ⟨q,e,qc,qd⟩:=id hit'
  rw [<- hl] at hit'
  exact ⟨_,rfl,qD (s:={ s with heap:=h',toks:=s.toks }) (n:="dict_keyiterator") e qc qd (by decide) ⟨kV ky,H,I1,wB hkey,⟨rfl,_,RU hi,by rw [r1]⟩,hit',λb hb=>(hf b hb).1⟩⟩
 done:=by
  intro X hP hw hK hc i aa s σ H E I hf st hg
  subst hP hw hK
  obtain ⟨f0,f1,f2,f3,f4,f5⟩:=hf j (RN.mpr rfl)
  obtain ⟨hH,hi⟩:=hg
  obtain ⟨vs,es',ep',e1,kv,da,_⟩:=pR I hH
  rw [hod] at e1; cases e1
  have hl:ys.length=vs.length:=To kv
  rw [hl] at st
  exact wpAny_pyNext_dict_end (I.ok.hd hc) st da (TF (by lia)) λh' eb=>⟨rfl,I.turned (t':=s.toks) (λb o hb e=>eb b o hb e) f0 f1 f3 f4 f5⟩
 self:=λ_ _ _ _ _ st h=>wpAny_pyIter_keyiter st h
theorem yX {K:Rr} {Hf:Hp} {d:Addr} {o:Obj} {ys:List (Key×V)} {ns:List Int} (hH:Hf d=some (.frz o (.dK ys))) (hk:ys.map (·.1)=ns.map R0):jl K (QG d o ys) (ns.map D.int) Hf where
 go:=λi x H aQ s1 s2 e=>by
  rw [RO,RV] at e
  obtain ⟨n,hn,rfl⟩:=e
  have hq:=congrArg (λl=>l[i]?) hk
  simp only [RO,hn,Option.map_some] at hq
  obtain ⟨y,hy,ey⟩:=RV.mp hq
  refine ⟨⟨s2 _ _ (s1 _ _ hH),(RJ.mp hy).1⟩,λv H' ⟨e1,y',e2,e3⟩=>?_⟩
  rw [hy] at e2; cases e2
  subst e1 e3
  exact ⟨aQ,.refl s2,by rw [ey]; exact az.mpr rfl⟩
 stop:=λi H aQ s1 s2 e=>⟨s2 _ _ (s1 _ _ hH),by
  have:=congrArg Vl hk
  simp only [RB] at this e
  lia⟩
theorem yY (hT:s.TypeIs (.ref v) "dict") (hQ:Q false s):wpAny (model prog w) A (U0 (.ref v)) Q E s:=by
 unfold U0
 refine Rq (wpAny_specialOf hT PySem.F.slot_dict_len.lookup ?_)
 have e:splitId "dict.__len__"=some ("dict","__len__"):=by decide +kernel
 dsimp only
 rw [e]
 dsimp only
 refine Rq (Wf (b:=true) hT (by rw [isSubtype_type]; kernel_rfl) ?_)
 rw [if_neg (by decide)]
 exact Rq (UM hT (Rt hQ))
section
variable {X:Cx} {aa:List (Addr×Obj)} {σ:L2.St} {H Hf:Hp} {s:Shared} {E:Value->Shared->Prop}
theorem r6 {K:Rr}:∀ {L:List Int} {us:List Value},Paired (λx u=>pJ K Hf (D.int x) u) L us->IntsAre us L
 | _,_,.nil=>.nil
 | _,_,.cons ⟨x,r1,h1⟩ t=>by
  rw [az] at h1; subst h1
  obtain ⟨tk,rfl⟩:=r1
  exact .cons _ _ (r6 t)
theorem F3:J1 X D.int ltI oneType' where
 lin:=λL=>⟨λx _=>by simp,λx _ y _ z _ h g=>by simp only [decide_eq_true_eq] at *; lia,λx _ y _ h=>by simp only [decide_eq_true_eq]; lia⟩
 inj:=λ_ _ _ _ _ _ _ x y u ⟨v,r1,h1⟩ ⟨v',r2,h2⟩=>by
  rw [az] at h1 h2; subst h1 h2
  obtain ⟨t,rfl⟩:=r1
  obtain ⟨t',e⟩:=r2
  cases e; rfl
 kind:=λ_ _ _ _ _ _ _ _ _ L us p h2 Q hQ=>by
  rw [ksk_kind (kz:=L) (r6 p) (by simpa using h2)]
  exact Rt hQ
 cmp:=λ_ _ _ _ _ _ _ _ _ _ x y u v ⟨a,r1,h1⟩ ⟨b,r2,h2⟩ Q hQ=>by
  rw [az] at h1 h2; subst h1 h2
  obtain ⟨t,rfl⟩:=r1
  obtain ⟨t',rfl⟩:=r2
  rw [keyLt'_oneType]
  exact oneLt_int hQ
theorem r8 (hc:X.calm=true) (I:Inv X aa σ H s) (sb:aN Hf H) (hA:X.A.units+60<cLine) (hH:Hf d=some (.frz o (.dK ys))) (hk:ys.map (·.1)=ns.map R0) (nd:ns.Nodup)
 (hQ:∀ (L':List Int) (xs':List V) (s':Shared) (H' aq:Hp) (a:Addr),L'.Perm ns->jU ltI b L'->ay X.K aq (L'.map D.int) xs'->bx H Hf H' aq->H' a=none->Inv X aa σ (upd H' a (.lst xs')) s'->Q (.ref a) s') :
 wpAny (model X.prog X.w) X.A (call (.builtin "sorted") [.ref d] [(Rp "reverse",.bool b)]) Q E s:=by
 refine W6 kind_sorted plain_sorted entry_sorted (args_sorted_rev _ _) ?_
 unfold Builtin.«sorted»
 refine Rq (m:=checkCount "sorted" 1 1 _) (Rt ?_)
 have h1:X.A.in1.handled=none:=I.ok.hd hc
 have h2:X.A.in1.frames=some X.stack:=I.ok.frames
 obtain ⟨vs,es,ep,e1,kv,da,hs,hz⟩:=pR I (sb _ _ hH)
 have hl:ys.length=vs.length:=To kv
 have hn:(ns.map D.int).length=ys.length:=by have:=congrArg Vl hk; simp only [RB] at this |-; lia
 refine Rq (uF (X:=HA X X.A.in1) (H:=H) (Hf:=Hf) (ds:=ns.map D.int) (T:="dict") hc h1 h2 (lG I (λ_=>h1) h2) sb da.lt_size (by lia) (by decide) (λs' k=>(da.keep k).dictOf.typeIs) (λA s' Q E q h=>yY q h) (λA s1 H1 E I1 sb1 k1=>?_) λus s' H' aq xs I' rv rr g hz'=>?_)
 ·refine wpAny_pyIter_dict hs (da.keep k1) ?_
  refine ⟨_,_,_,rfl,Rv _,I1.kept (t':=s1.toks) λb o e=>Rx _ e,yW e1,⟨_,RK _ rfl,rfl,?_⟩,λb hb=>?_,λb o e=>Rx _ e,yX hH hk⟩
  ·rw [hl]; rfl
  ·obtain rfl:b=s1.heap.objs.size:=RN.mp hb
   exact I1.mE (Rv _) (I1.hok.fresh (Rv _))
 ·have I2:=iU I.ok I'
  have el:=rr.length
  have el2:=rv.length
  refine rR (b:=b) F3 I2 g.b ?_ rr rv (by lia) nd λL' xs' s2 p1 p2 p3 p4 I3=>hQ L' xs' s2 H' aq _ p1 p2 p3 g (I2.hok.fresh (Rv _)) I3
  show X.A.units+1+20<cLine
  lia
end
section
variable {K:Rr} {c:Ctx P w K mg base k N sc bk}
theorem uK (hm:mg "sorted"=none) (h:aG c e ρ λd=>∃ (ns:List Int) (ds:List D),d=.fdK (ns.map R0) ds/\Sd ns.Nodup (∀ L':List Int,L'.Perm ns->jU ltI true L'->R (.ow (L'.map D.int))))
 (hg:sc.names.lookup (Rp "sorted")=some .globalImplicit:=by walk_at "u")
 (he:∀ env,starEach [e] env=(false,eval e env)::starEach [] env:=by intro _; walk_at "u")
 (hpl:∀ env,(backTo pos (starEach [e] env)).any (·.1)=false:=by intro _; walk_at "u") :
 dD c (.Call (.Name "sorted" np) [e] [⟨some "reverse",.Constant (.bool true) j kp1,kp⟩] pos) ρ R:=λσ H Hf Q S q aa s I=>by
 have hgl:Gl c.X "sorted":=by unfold Gl Sw; rw [c.esc]; exact hg
 refine T6 (dZ I hgl (by rw [c.emg]; exact hm) (show bootBuiltins "sorted"=some (.builtin "sorted") by decide +kernel) ?_ (by decide) (by decide))
 refine callWith_kw ?_ (by rw [he]; rfl) (hpl _)
 have hpa:=bQ (X:=c.X) (e:=e) (es:=[]) cQ d8 (he _)
 refine bB (hpa pos aa s σ H (λvs H1=>∃ x,vs=[x]/\∃ (ns:List Int) (ds:List D) (aQ:Hp),Rep c.X.K aQ (.fdK (ns.map R0) ds) x/\ns.Nodup/\bx H Hf H1 aQ/\∀ L':List Int,L'.Perm ns->jU ltI true L'->R (.ow (L'.map D.int))) I ?_) λus s1 hh=>z2 hh λvs H1 hh=>w3 hh λI1 r1 hh=>hh.elim λx hh=>w2 hh λex hh=>z3 hh λns ds aQ hh=>w4 hh λe1 e7 e8 e9=>?_
 ·exact h σ H Hf _ S λd v H1 aQ ⟨ns,ds,hp,⟨hn,hR⟩⟩ rv g=>⟨_,rfl,ns,ds,aQ,by rw [<- hp]; exact rv,hn,g,hR⟩
 ·subst ex
  obtain ⟨a0,ys,o,rfl,hs,hk,hr⟩:=gy.mp e1
  have eu:us=[.ref a0]:=by
   cases r1 with
   | cons q1 q2=>cases q2; cases q1; rfl
  subst eu
  refine kws_cons (bB (Aa (X:=c.X) (b:=true) (j:=j) (pos:=kp1) aa s1 σ _ (λx H2=>x=.bl true/\H2=H1) I1 ⟨rfl,rfl⟩) λkv s2 ⟨x,H2,I2,rx,e10,e11⟩=>kws_nil ?_)
  subst e10 e11
  have ek:kv=.bool true:=rx
  subst ek
  refine r8 (b:=true) c.calm I2 e8.b ?_ hs hk e7 λL' xs' s' H' aq a p1 p2 p3 g na I3=>?_
  ·have:=c.room.un
   lia
  ·have gg:=e8.trans g
   exact ⟨.ref a,_,I3,rfl,q (.ow (L'.map D.int)) _ _ aq (e9 L' p1 p2) ⟨a,xs',rfl,gg.s.free na,af,g.b.free na,p3⟩ (gg.trans (bx.fJ g.b na))⟩
end
section
variable {K:Rr}
end
section
variable {K:Rr}
end
end EV
namespace EV
open PySem PySem.Spec PyProof.Rows L2
noncomputable def dig (b:Int):Nat->(Nat->Int)->Int
 | 0,_=>0
 | m+1,f=>f 0 * b ^ m+dig b m (λi=>f (i+1))
noncomputable abbrev bz (p:List Int) (i:Nat):Int:=p.getD i 0
noncomputable def pk (b:Int) (p:List Int):Int:=dig b 6 (bz p)
theorem iX:∀ {m:Nat} {f g:Nat->Int},(∀ i,i<m->f i=g i)->dig b m f=dig b m g
 | 0,_,_,_=>rfl
 | m+1,f,g,h=>by
  unfold dig
  rw [h 0 (by lia),iX (m:=m) λi hi=>h (i+1) (by lia)]
theorem xj:∀ (m:Nat) (f g:Nat->Int),dig b m (λi=>f i+g i)=dig b m f+dig b m g
 | 0,_,_=>rfl
 | m+1,f,g=>by
  unfold dig
  rw [xj m (λi=>f (i+1)) (λi=>g (i+1)),Ut]
  lia
theorem iY:∀ (m:Nat),dig b m (λ_=>0)=0
 | 0=>rfl
 | m+1=>by unfold dig; rw [iY m,UP]; rfl
theorem ig (hb:0<b):∀ (m:Nat) (f:Nat->Int),(∀ i,i<m->0<=f i/\f i<b)->0<=dig b m f/\dig b m f<b ^ m
 | 0,_,_=>⟨SK _,by show (0:Int)<b ^ 0; rw [Int.pow_zero]; decide⟩
 | m+1,f,h=>by
  have h0:=h 0 (by lia)
  have ih:=ig hb m (λi=>f (i+1)) λi hi=>h (i+1) (by lia)
  have hp:0<b ^ m:=Ue hb
  unfold dig
  rw [WI]
  have a1:0<=f 0 * b ^ m:=Vf h0.1 (by lia)
  have a2:(f 0+1) * b ^ m<=b * b ^ m:=X7 (by lia) (by lia)
  rw [Ut,Vm] at a2
  rw [Us (b ^ m) b]
  lia
theorem xm (hb:0<b):∀ (m:Nat) (f:Nat->Int),(∀ i,i<m->0<=f i/\f i<b)->∀ i,i<m->dig b m f / b ^ (m - 1 - i) % b=f i
 | 0,_,_,_,hi=>absurd hi (Nat.not_lt_zero _)
 | m+1,f,h,i,hi=>by
  have ih:=xm hb m (λi=>f (i+1)) λi hi=>h (i+1) (by lia)
  have bd:=ig hb m (λi=>f (i+1)) λi hi=>h (i+1) (by lia)
  have hp:0<b ^ m:=Ue hb
  unfold dig
  cases i with
  | zero =>
   rw [show m+1 - 1 - 0=m by lia,WK,Int.add_mul_ediv_right _ _ (by lia),Int.ediv_eq_zero_of_lt bd.1 bd.2,VN]
   exact Int.emod_eq_of_lt (h 0 (by lia)).1 (h 0 (by lia)).2
  | succ i =>
   have e:b ^ m=b ^ (i+1) * b ^ (m - 1 - i):=by rw [<- WQ]; congr 1; lia
   have hq:0<b ^ (m - 1 - i):=Ue hb
   rw [show m+1 - 1 - (i+1)=m - 1 - i by lia,e,<- Vh,WK,Int.add_mul_ediv_right _ _ (by lia),WI,<- Vh,Int.add_mul_emod_self_right]
   exact ih i (by lia)
theorem jy (h:trim (x::p)=x::p):trim p=p:=by
 rcases List.eq_nil_or_concat p with rfl | ⟨r,z,rfl⟩
 ·rfl
 ·rw [List.concat_eq_append] at h |-
  by_cases e:z=0
  ·subst e
   rw [<- Uk,gE] at h
   have:=congrArg Vl h
   have l:=gh (x::r)
   simp only [Sf,R3,TX] at this l
   lia
  ·exact nW r e
theorem r9:∀ {p:List Int},trim p=p->p≠[]->(∀ x∈p,0<=x)->∃ i,i<p.length/\0<bz p i
 | [],_,h,_=>absurd rfl h
 | [x],h,_,h0=>by
  refine ⟨0,by simp,?_⟩
  have:x≠0:=by rintro rfl; simp [trim] at h
  have:=h0 x (by simp)
  show 0<x
  lia
 | x::y::p,h,_,h0=>by
  obtain ⟨i,hi,hq⟩:=r9 (jy h) (by simp) λz hz=>h0 z (RH _ hz)
  exact ⟨i+1,by simp only [Sf] at *; lia,by simpa [bz] using hq⟩
theorem xo (hb:0<b):∀ (m:Nat) (f:Nat->Int),(∀ i,i<m->0<=f i/\f i<b)->(∃ i,i<m/\0<f i)->0<dig b m f
 | 0,_,_,h=>by obtain ⟨i,hi,_⟩:=h; lia
 | m+1,f,h,⟨i,hi,hq⟩=>by
  have bd:=ig hb m (λi=>f (i+1)) λi hi=>h (i+1) (by lia)
  have hp:0<b ^ m:=Ue hb
  unfold dig
  cases i with
  | zero =>
   have:=Int.mul_pos hq hp
   lia
  | succ i =>
   have:=xo hb m (λi=>f (i+1)) (λi hi=>h (i+1) (by lia)) ⟨i,by lia,hq⟩
   have:=Vf (h 0 (by lia)).1 (show 0<=b ^ m by lia)
   lia
theorem Cn (hb:0<b):∀ (m:Nat) (p q:List Int),trim p=p->trim q=q->p.length<=m->q.length<=m->(∀ x∈p,0<=x/\x<b)->(∀ x∈q,0<=x/\x<b)->HT.lexLt p q=true->dig b m (bz p)<dig b m (bz q)
 | m,[],[],_,_,_,_,_,_,h=>by cases h
 | m,[],y::q,_,tq,_,lq,_,hq,_=>by
  have e:dig b m (bz [])=0:=by
   rw [show bz ([]:List Int)=λ_=>0 from funext λi=>by simp [bz]]; exact iY m
  rw [e]
  obtain ⟨i,hi,h0⟩:=r9 tq (by simp) λx hx=>(hq x hx).1
  refine xo hb m _ (λj hj=>?_) ⟨i,by lia,h0⟩
  by_cases z:j<(y::q).length
  ·have:bz (y::q) j=(y::q)[j]:=by unfold bz; rw [Sj,RU z]; rfl
   rw [this]; exact hq _ (Sg _)
  ·have:bz (y::q) j=0:=by simp only [bz,Sj,TF (by lia:(y::q).length<=j)]; rfl
   rw [this]; lia
 | m,x::p,[],_,_,_,_,_,_,h=>by cases h
 | 0,x::p,y::q,_,_,lp,_,_,_,_=>by simp at lp
 | m+1,x::p,y::q,tp,tq,lp,lq,hp,hq,h=>by
  simp only [Sf] at lp lq
  rw [HT.c9] at h
  have rd:∀ (r:List Int),(∀ z∈r,0<=z/\z<b)->∀ j,0<=bz r j/\bz r j<b:=λr hr j=>by
   by_cases z:j<r.length
   ·have:bz r j=r[j]:=by unfold bz; rw [Sj,RU z]; rfl
    rw [this]; exact hr _ (Sg _)
   ·have:bz r j=0:=by simp only [bz,Sj,TF (by lia:r.length<=j)]; rfl
    rw [this]; lia
  have hp':∀ z∈p,0<=z/\z<b:=λz hz=>hp z (RH _ hz)
  have hq':∀ z∈q,0<=z/\z<b:=λz hz=>hq z (RH _ hz)
  unfold dig
  show x * b ^ m+dig b m (bz p)<y * b ^ m+dig b m (bz q)
  by_cases e:x=y
  ·rw [if_pos e] at h
   subst e
   have:=Cn hb m p q (jy tp) (jy tq) (by lia) (by lia) hp' hq' h
   lia
  ·rw [if_neg e] at h
   have hxy:x<y:=of_decide_eq_true h
   have b1:=ig hb m (bz p) λi _=>rd p hp' i
   have b2:=ig hb m (bz q) λi _=>rd q hq' i
   have a2:(x+1) * b ^ m<=y * b ^ m:=X7 (by lia) (by have hh:0<b ^ m:=Ue hb; lia)
   rw [Ut,Vm] at a2
   lia
def Bd (b:Int) (p:List Int):Prop:=p.length<=6/\∀ x∈p,0<=x/\x<b
theorem cO (z:j<p.length):bz p j=p[j]:=by unfold bz; rw [Sj,RU z]; rfl
theorem cy (z:p.length<=j):bz p j=0:=by unfold bz; rw [Sj,TF z]; rfl
theorem HD (hb:0<b) (h:Bd b p) (i):0<=bz p i/\bz p i<b:=by
 by_cases z:i<p.length
 ·rw [cO z]; exact h.2 _ (Sg _)
 ·rw [cy (by lia)]; lia
theorem se (p):∃ m,p=trim p++RE m 0:=by
 suffices H:∀ r:List Int,∃ m,r=RE m 0++r.dropWhile λx=>x == 0 by
  obtain ⟨m,h⟩:=H p.reverse
  refine ⟨m,?_⟩
  have:=congrArg List.reverse h
  rw [Xf,Xk,List.reverse_replicate] at this
  exact this
 intro r
 induction r with
 | nil=>exact ⟨0,rfl⟩
 | cons x r ih =>
  by_cases e:x=0
  ·subst e
   obtain ⟨m,h⟩:=ih
   refine ⟨m+1,?_⟩
   rw [TR,List.dropWhile_cons_of_pos (by simp),Uk,<- h]
  ·exact ⟨0,by rw [List.dropWhile_cons_of_neg (by simpa using e)]; rfl⟩
theorem dM (p) (i):bz (trim p) i=bz p i:=by
 obtain ⟨m,h⟩:=se p
 by_cases z:i<(trim p).length
 ·have e:bz p i=bz (trim p++RE m 0) i:=by rw [<- h]
  rw [e]
  unfold bz
  simp only [Sj]
  rw [Uz z]
 ·rw [cy (by lia)]
  have e:bz p i=bz (trim p++RE m 0) i:=by rw [<- h]
  rw [e]
  unfold bz
  simp only [Sj]
  rw [Vq (by lia),List.getElem?_replicate]
  split <;> rfl
theorem F5 (b) (p):pk b (trim p)=pk b p:=iX λi _=>dM p i
theorem sj (h:x∈trim p):x∈p:=by
 obtain ⟨m,e⟩:=se p
 rw [e]; exact V8 _ h
theorem pS (h:Bd b p):Bd b (trim p):=⟨Rz (gh p) h.1,λx hx=>h.2 x (sj hx)⟩
theorem Co (hb:0<b) (hp:Bd b p) (hq:Bd b q) (tp:trim p=p) (tq:trim q=q) (h:HT.lexLt p q=true):pk b p<pk b q:=Cn hb 6 p q tp tq hp.1 hq.1 hp.2 hq.2 h
theorem uL (hb:0<b) (hp:Bd b p) (hq:Bd b q) (tp:trim p=p) (tq:trim q=q) (h:pk b p=pk b q):p=q:=by
 by_cases e:p=q
 ·exact e
 ·exfalso
  rcases pI e with z | z
  ·have:=Co hb hp hq tp tq z; lia
  ·have:=Co hb hq hp tq tp z; lia
noncomputable def ON (b:Int) (key:Int):List Int:=trim ((RI 6).map λ(i:Nat)=>key / b ^ (5 - i) % b)
theorem Kh (hb:0<b) (h:Bd b p):ON b (pk b p)=trim p:=by
 have e:((RI 6).map λ(i:Nat)=>pk b p / b ^ (5 - i) % b)=p++RE (6 - p.length) 0:=by
  refine XT (by simp; have:=h.1; lia) λi h1 h2=>?_
  have hi:i<6:=by simpa using h1
  rw [List.getElem_map,List.getElem_range]
  have:=xm hb 6 (bz p) (λj _=>HD hb h j) i hi
  rw [show 6 - 1 - i=5 - i by lia] at this
  rw [show pk b p=dig b 6 (bz p) from rfl,this]
  by_cases z:i<p.length
  ·rw [cO z,List.getElem_append_left z]
  ·rw [cy (by lia),List.getElem_append_right (by lia),List.getElem_replicate]
 unfold ON
 rw [e]
 generalize 6 - p.length=m
 induction m with
 | zero=>simp
 | succ m ih=>rw [List.replicate_succ',<- R4,gE]; exact ih
noncomputable def ck (B:List (Int×Int)):List (Key×D):=B.map λx=>(.inl x.1,.int x.2)
theorem fy (B) (k):aY (ck B) (.inl k)=(aY B k).map D.int:=by
 induction B with
 | nil=>rfl
 | cons t B ih =>
  by_cases e:t.1=k
  ·rw [bq e]
   show aY ((R0 t.1,D.int t.2)::ck B) _=_
   rw [bq (by rw [e])]; rfl
  ·rw [aV e,<- ih]
   show aY ((R0 t.1,D.int t.2)::ck B) _=_
   rw [aV λz=>e (R0.inj z)]
theorem lM (B) (k n):putD (ck B) (.inl k) (.int n)=ck (putD B k n):=by
 unfold putD
 rw [fy]
 by_cases h:(aY B k).isSome=true
 ·rw [if_pos h,if_pos (by rw [Uj]; exact h)]
  unfold ck
  rw [Sv,Sv]
  refine Ui λt _=>?_
  simp only [WB]
  by_cases e:t.1=k
  ·rw [if_pos e,if_pos (by rw [e])]
  ·rw [if_neg e,if_neg λz=>e (R0.inj z)]
 ·rw [if_neg h,if_neg (by rw [Uj]; exact h)]
  unfold ck
  simp
noncomputable def gj (b:Int) (t:aL):Int×Int:=(pk b t.1,t.2)
def Gd (b:Int) (A:List aL):Prop:=∀ t∈A,Bd b t.1/\trim t.1=t.1
theorem uM (hb:0<b) (h:Gd b A) (hp:Bd b p) (tp:trim p=p):aY (A.map (gj b)) (pk b p)=aY A p:=by
 induction A with
 | nil=>rfl
 | cons t A ih =>
  have ih:=ih λx hx=>h x (RH _ hx)
  have ht:=h t RD
  by_cases e:t.1=p
  ·rw [bq e,RC,bq (show (gj b t).1=pk b p by unfold gj; rw [e])]; rfl
  ·rw [aV e,RC,aV λz=>e (uL hb ht.1 hp ht.2 tp z),ih]
theorem Kl (hb:0<b) (h:Gd b A) (hp:Bd b p) (tp:trim p=p):putD (A.map (gj b)) (pk b p) n=(putD A p n).map (gj b):=by
 unfold putD
 rw [uM hb h hp tp]
 split
 ·rw [Sv,Sv]
  refine Ui λt ht=>?_
  simp only [WB]
  by_cases e:t.1=p
  ·rw [if_pos e,if_pos (show (gj b t).1=pk b p by unfold gj; rw [e])]; rfl
  ·rw [if_neg e,if_neg (show ¬ (gj b t).1=pk b p from λz=>e (uL hb (h t ht).1 hp (h t ht).2 tp z))]
 ·simp [gj]
theorem Km (h:Gd b A) (hp:Bd b p) (tp:trim p=p):Gd b (putD A p n):=λt ht=>by
 rcases pP ht with e | e
 ·rw [e]; exact ⟨hp,tp⟩
 ·exact h t e
theorem pU (h:∀ t∈ts,Bd b t.1):Gd b (aX ts):=by
 unfold aX
 suffices H:∀ A,Gd b A->Gd b (ts.foldl fO A) from H [] (λ_ h=>by cases h)
 induction ts with
 | nil=>exact λA h=>h
 | cons u ts ih=>exact λA hA=>ih (λt ht=>h t (RH _ ht)) _ (Km hA (pS (h u RD)) (cA _))
theorem Kn (hb:0<b) (h:∀ t∈ts,Bd b t.1) (ht:Bd b t.1) :
 putD ((aX ts).map (gj b)) (pk b t.1) ((aY ((aX ts).map (gj b)) (pk b t.1)).getD 0+t.2)=(aX (ts++[t])).map (gj b):=by
 rw [rT]
 unfold fO
 rw [<- F5 b t.1,uM hb (pU h) (pS ht) (cA _),Kl hb (pU h) (pS ht) (cA _)]
theorem su:∀ {L M:List Int},L.Perm M->L.Pairwise (λx y=>y<x)->M.Pairwise (λx y=>y<x)->L=M
 | [],M,h,_,_=>by rw [List.nil_perm] at h; exact h.symm
 | x::L,[],h,_,_=>by simp at h
 | x::L,y::M,h,h1,h2=>by
  rw [U9] at h1 h2
  by_cases e:x=y
  ·subst e
   rw [su ((List.perm_cons _).mp h) h1.2 h2.2]
  ·exfalso
   have hx:x∈M:=(RL.mp (h.subset RD)).resolve_left e
   have hy:y∈L:=(RL.mp (h.symm.subset RD)).resolve_left (RS e)
   have a:=h1.1 y hy
   have b:=h2.1 x hx
   lia
theorem xq {A:List aL} (hk:(A.map (·.1)).Nodup) {t:aL} (h:t∈A):aY A t.1=some t.2:=by
 induction A with
 | nil=>cases h
 | cons u A ih =>
  rw [RC,Ul] at hk
  rcases RL.mp h with rfl | h
  ·exact bq rfl
  ·rw [aV λe=>hk.1 (by rw [e]; exact List.mem_map_of_mem h)]
   exact ih hk.2 h
theorem Cp (hb:0<b) (h:∀ t∈ts,Bd b t.1) (hp:L'.Perm (((aX ts).map (gj b)).map (·.1))) (hs:L'.Pairwise λx y=>y<x):L'=(jx (aX ts)).map λt=>pk b t.1:=by
 have hg:=pU h
 have hk:=fu ts
 generalize aX ts=A at *
 refine su (hp.trans ?_) hs ?_
 ·rw [Sv]
  exact ((bZ A).map _).symm
 ·rw [Vy]
  have hs2:=iW (keys_nodup hk)
  have hm:∀ t∈jx A,t∈A:=λt ht=>(bZ A).subset ht
  have hk2:(jx A).Pairwise λx y=>x.1≠y.1:=by
   have:=((bZ A).map (·.1)).nodup_iff.mpr hk
   unfold List.Nodup at this
   rwa [Vy] at this
  unfold iV jU at hs2
  refine XY.imp_of_mem (R:=λx y=>(if true then cZ y x=true else cZ x y=true)/\x.1≠y.1) (λ{x y} hx hy q=>?_) (hs2.and hk2)
  obtain ⟨q1,q2⟩:=q
  rw [if_pos rfl] at q1
  unfold cZ at q1
  rw [if_neg (RS q2)] at q1
  exact Co hb (hg _ (hm _ hy)).1 (hg _ (hm _ hx)).1 (hg _ (hm _ hy)).2 (hg _ (hm _ hx)).2 q1
noncomputable def F6 (b:Int) (p:List Int):Int:=p.foldl (λa x=>a * b+x) 0
theorem Cq (b) (p) (x):F6 b (p++[x])=F6 b p * b+x:=by unfold F6; rw [Vz]; rfl
theorem sA (b):∀ (p:List Int) (a:Int),p.foldl (λa x=>a * b+x) a=a * b ^ p.length+dig b p.length (bz p)
 | [],a=>by simp [dig]
 | x::p,a=>by
  rw [Tg,sA b p]
  show (a * b+x) * b ^ p.length+_=a * b ^ (p.length+1)+(x * b ^ p.length+dig b p.length (bz p))
  rw [Ut,WI,Vh,Us b (b ^ p.length)]
  lia
theorem xr (b) (p):F6 b p=dig b p.length (bz p):=by unfold F6; rw [sA]; lia
theorem sC (k):∀ (m:Nat) (f:Nat->Int),(∀ i,m<=i->f i=0)->dig b (m+k) f=dig b m f * b ^ k
 | 0,f,h=>by
  rw [Uc,iX (g:=λ_=>0) λi _=>h i (RY _),iY]
  show 0=0 * b ^ k
  rw [UP]
 | m+1,f,h=>by
  rw [show m+1+k=(m+k)+1 by lia]
  unfold dig
  rw [sC k m (λi=>f (i+1)) λi hi=>h (i+1) (by lia),Ut,WQ,Vh]
theorem Ko (h:p.length<=6):F6 b p * b ^ (6 - p.length)=pk b p:=by
 rw [xr,<- sC (6 - p.length) p.length (bz p) λi hi=>cy hi]
 rw [show p.length+(6 - p.length)=6 by lia]
 rfl
theorem Cr (hb:0<b) (h:∀ x∈p,0<=x/\x<b):0<=F6 b p/\F6 b p<b ^ p.length:=by
 rw [xr]
 exact ig hb _ _ λi hi=>by rw [cO hi]; exact h _ (Sg _)
theorem Nr (hb:0<b) (h:Bd b p):0<=pk b p/\pk b p<b ^ 6:=ig hb _ _ λi _=>HD hb h i
theorem two_pos (W):(0:Int)<2 ^ W:=Ue (by decide)
theorem gH (W):((2:Int) ^ W)=((2 ^ W:Nat):Int):=by rw [Int.natCast_pow]; rfl
theorem Cs (hW:W<=10) (hn:n<=6):((2:Int) ^ W) ^ n<=2 ^ 60:=by
 rw [<- Int.pow_mul,gH,gH]
 exact Int.ofNat_le.mpr (SD (by decide) (Rz (TZ hW hn) (by decide)))
theorem xu (hW:W<=10) (hn:n<=6) (h0:0<=x) (h:x<((2:Int) ^ W) ^ n):x.natAbs<2 ^ 64:=by
 have:=Cs hW hn
 have h60:(2:Int) ^ 60<2 ^ 64:=by decide
 have:x<((2 ^ 64:Nat):Int):=by rw [<- gH]; lia
 lia
theorem n6 (W) (h:0<=x):Ww x (1 * 2 ^ W - 1)=x % 2 ^ W:=by
 have hp:=two_pos W
 have e0:(1:Int) * 2 ^ W - 1=((2 ^ W - 1:Nat):Int):=by
  have:0<2 ^ W:=Nat.pow_pos (by decide)
  rw [Vm,gH]; lia
 rw [e0]
 show (match decide (0<=x),decide (0<=((2 ^ W - 1:Nat):Int)) with
  | true,true=>(((x.toNat &&& (((2 ^ W - 1:Nat):Int)).toNat:Nat)):Int)
  | true,false=>_ | false,true=>_ | false,false=>_)=_
 rw [decide_eq_true h,decide_eq_true (Xr _)]
 show ((x.toNat &&& (2 ^ W - 1):Nat):Int)=_
 rw [Nat.and_two_pow_sub_one_eq_mod,gH,Int.natCast_emod,Int.toNat_of_nonneg h]
noncomputable def cI (p q:List Int):List Int:=(RI (max p.length q.length)).map λk=>bz p k+bz q k
noncomputable def fP (l r:aL):aL:=(cI l.1 r.1,l.2 * r.2)
noncomputable def aP (A B:List aL):List aL:=A.flatMap λl=>B.map (fP l)
theorem lN (p q):(cI p q).length=max p.length q.length:=by simp [cI]
theorem bY (p q) (i):bz (cI p q) i=bz p i+bz q i:=by
 by_cases z:i<max p.length q.length
 ·rw [cO (by rw [lN]; exact z)]; simp [cI]
 ·rw [cy (by rw [lN]; lia),cy (by lia),cy (by lia)]; rfl
theorem F7 (b) (p q):pk b (cI p q)=pk b p+pk b q:=by
 unfold pk
 rw [<- xj]
 exact iX λi _=>bY p q i
theorem gm (h:t∈aP A B):∃ l∈A,∃ r∈B,t=fP l r:=by
 unfold aP at h
 obtain ⟨l,hl,h⟩:=XQ.mp h
 obtain ⟨r,hr,rfl⟩:=Sb.mp h
 exact ⟨l,hl,r,hr,rfl⟩
theorem yZ (A B) (l):aP (A++[l]) B=aP A B++B.map (fP l):=by
 unfold aP
 rw [List.flatMap_append,Vc,List.flatMap_nil,SJ]
theorem fC (A B):(aP A B).length=A.length * B.length:=by
 induction A with
 | nil=>simp [aP]
 | cons a A ih =>
  unfold aP at *
  rw [Vc,R3,ih,RB,Sf,Vj]
  lia
end EV
namespace EV
open PySem PySem.Spec PySem.Calls PyProof.Rows L2
theorem Ct {K:Rr}:∀ {kvs:List (Key×D)} {ys:List (Key×V)},ys.map (·.1)=kvs.map (·.1)->ay K H (kvs.map (·.2)) (ys.map (·.2))->mq K H kvs ys
 | [],[],_,_=>.nil
 | [],y::ys,h,_=>by simp at h
 | x::kvs,[],h,_=>by simp at h
 | x::kvs,y::ys,h,r=>by
  rw [RC,RC] at h r
  obtain ⟨v,t,e,r1,r2⟩:=aH.mp r
  injection e with e1 e2
  injection h with h1 h2
  subst e1 e2
  exact .cons ⟨h1.symm,r1⟩ (Ct h2 r2)
section
variable {K:Rr}
theorem Cu (h:aG c a ρ λx=>aG c b ρ λy=>∃ (kvs:List (Key×D)) (kk:Key) (d:D),x=.fdK (kvs.map (·.1)) (kvs.map (·.2))/\y.yv=some kk/\aY kvs kk=some d/\R d) (hs:Jh b:=by with_unfolding_all exact λ_ _=>rfl):aG c (.Subscript a b pos) ρ R:=λσ H Hf Q S q =>
 bK (EN c.hu cQ cQ hs) (h σ H Hf _ S λx v H1 aQ h1 r1 g1=>h1 σ H1 aQ _ (S.cG g1) λy u H2 cL ⟨kvs,kk,d,e1,e2,e3,hR⟩ r2 g2=>by
  subst e1
  obtain ⟨p,ys,o,rfl,k1,k2,k3⟩:=gy.mp r1
  have kv:=(Ct k2 k3).mono g2.f
  have rel:=kv.val kk
  rw [e3] at rel
  rw [iK e2 r2]
  cases z:kH ys kk with
  | none=>rw [z] at rel; exact rel.elim
  | some v =>
   rw [z] at rel
   exact ⟨p,v,rfl,.inl ⟨ys,kk,.inr ⟨o,g2.b _ _ (g2.f _ _ k1)⟩,rfl,z.symm⟩,q d v H2 cL hR rel (g1.trans g2)⟩)
end
end EV
namespace EV
open PySem PySem.Spec PyProof.Rows L2
theorem sD {A:List aL} {l:List Int} {n:Int} {t:aL} (h:t∈putD A l n):t=(l,n)\/t∈A:=by
 unfold putD at h
 split at h
 ·obtain ⟨u,hu,e⟩:=Sb.mp h
  split at e
  ·rename_i q; subst e; exact .inl (by rw [q])
  ·subst e; exact .inr hu
 ·rcases R5.mp h with q | q
  ·exact .inr q
  ·simp at q; exact .inl q
theorem Kp {A:List aL} (h:∀ t∈A,t.2.natAbs<=c) (l):((aY A l).getD 0).natAbs<=c:=by
 unfold aY
 cases e:A.find? (λkv=>decide (kv.1=l)) with
 | none=>exact RY _
 | some u=>exact h u (List.mem_of_find?_eq_some e)
theorem xw:∀ (ts A:List aL) (c:Nat),(∀ t∈A,t.2.natAbs<=c)->(∀ t∈ts,t.2.natAbs<=m)->∀ t∈ts.foldl fO A,t.2.natAbs<=c+ts.length * m
 | [],A,c,h,_,t,ht=>by simpa using h t ht
 | u::ts,A,c,h,g,t,ht=>by
  have:=xw (m:=m) ts (fO A u) (c+m) (λt' ht'=>by
   rcases sD ht' with rfl | q
   ·have a:=Kp h (trim u.1)
    have b:=g u RD
    show ((aY A (trim u.1)).getD 0+u.2).natAbs<=c+m
    omega
   ·have:=h t' q; omega) (λt h=>g t (RH _ h)) t ht
  rw [Sf,Vj]
  omega
theorem Kq (h:∀ t∈ts,t.2.natAbs<=m):∀ t∈aX ts,t.2.natAbs<=ts.length * m:=λt ht=>by
 have:=xw ts [] 0 (by simp) h t ht
 omega
theorem Cv (es):oS [] es:=λi d e h _=>by simp at h
theorem n8 (h:mO 40 d e) (t:oS ds es):oS (d::ds) (e::es):=λi a b h1 h2=>by
 cases i with
 | zero=>simp at h1 h2; subst h1 h2; exact h
 | succ i=>exact t i a b (by simpa using h1) (by simpa using h2)
section
variable {K:Rr}
theorem int_mk (KX:K.In h) (G:h.Ns mainGlobals mg) (a:SA K mainGlobals x=some (some (.int i tk))):∃ tk:Tok,mg x=some (.int i tk):=⟨tk,PySem.W.mg_of KX G a⟩
theorem xx (P) (w) (base) {st:Stmt} (D:ai K mg x st) (ok:∀ {f:Addr} {fd:FuncData},cU K x x st f fd->aU P w K mg base (cF P w) k f fd ps (J7 K F))
 (hb:∀ (kV doc pm:Value) (an:Option Addr) (cdv ct:Value) (us:List Value),us.length=ps.length->bindArgs (Ub x x (fG st) (aj st) (aR st) .none kV doc pm an cdv ct) ⟨us,[]⟩=pure (ps.zip us):=by intro _ _ _ _ _ _ us hl; first | (obtain ⟨a,rfl⟩:=M9 us hl; rfl) | (obtain ⟨a,b,rfl⟩:=Na us hl; rfl) | (obtain ⟨a,b,c,rfl⟩:=Nb us hl; rfl) | (obtain ⟨a,b,c,d,rfl⟩:=Nc us hl; rfl) | (obtain ⟨a,b,c,d,e,rfl⟩:=Nd us hl; rfl) | (obtain ⟨a,b,c,d,e,f,rfl⟩:=len6 us hl; rfl) | (obtain rfl:=len0 us hl; rfl)):FY P w K mg base k x F :=
 let ⟨f,fd,m,Fu⟩:=D; ⟨f,fd,ps,m,Fu.kp,Fu.binds hb,ok Fu⟩
end
structure Cw (P:Program) (w:World) (K:Rr) (mg:Str->Option Value) (base:Heap) (k:Nat) (f:Addr) (F:Fn):Prop where
 ex:∃ fd ps,TY K (.ref f)=true/\Binds K fd ps []/\aU P w K mg base (cF P w) k f fd ps (cR K F)
section
variable {K:Rr} {c:Ctx P w K mg base k N sc bk}
theorem bN.at_ (h:bN P w K mg base j x F):∃ f,mg x=some (.ref f)/\Cw P w K mg base j f F:=by
 obtain ⟨f,fd,ps,a,b,c,d⟩:=h.ex
 exact ⟨f,a,fd,ps,b,c,d⟩
theorem fQ (hm:mg x=some (.ref f)) (hR:R (.adr f)) (hg:sc.names.lookup x=some .globalImplicit:=by walk_at "u") (hd:(x == ("__debug__":Str))=false:=by decide) :
 aG c (.Name x pos) ρ R:=λσ H Hf Q S q =>
 bK (vG (X:=c.X) (v:=.ref f) (u:=.ref f) (by unfold Gl Sw; rw [c.esc]; exact hg) (by rw [c.emg]; exact hm) rfl hd) (q _ _ H Hf hR (kM.mpr rfl) (.refl S.sb))
theorem Cy (h:Cw P w K mg base j f F) (hj:j<=k):TY K (.ref f)=true /\
 ∀ (aa:List (Addr×Obj)) (σ:L2.St) (H Hf:Hp) (s:Shared) (us:List Value) (vs:List V) (ds:List D) (r:Res) (Q:VK),Inv c.X aa σ H s->bw c σ H Hf ρ->Vals vs us->ay c.X.K Hf ds vs->F ds r ->
  (∀ sl v H' aq,r=.ok sl->br c.X.K (λp=>H p=none) H' aq sl v->bx H Hf H' aq->Q v H')->(∀ C,r=.ex C->c.RX C ρ)->wpAny (model c.X.prog c.X.w) c.X.A (call (.ref f) us) (EP c.X aa σ Q) c.X.xe s:=by
 obtain ⟨fd,ps,hk,hb,hF⟩:=h.ex
 refine ⟨hk,λaa σ H Hf s us vs ds r Q I S rv rs hr q hx=>?_⟩
 have hF':aU c.X.prog c.X.w c.X.K c.X.mg c.X.base (cF c.X.prog c.X.w) k f fd ps (cR c.X.K F):=by rw [c.eP,c.ew,c.eK,c.emg,c.eb]; exact hF.mono hj
 have vB:cR c.X.K F vs H Q (λcv ao H'=>∃ C,r=.ex C/\cv=.ref C/\aN H H'):=by
  refine ⟨Hf,ds,r,S.bas.b,rs,hr,?_⟩
  cases r with
  | ok sl=>exact λv H' aq g rs2=>q sl v H' aq rfl rs2 g
  | ex C=>exact λa H' s2=>⟨C,rfl,rfl,s2⟩
 have hl:us.length=ps.length:=by rw [<- rv.length]; exact hF'.len _ _ _ _ vB
 have hb':Binds c.X.K fd ps []:=by rw [c.eK]; exact hb
 have hb2:=hb' s us I.Ea (by simpa using hl)
 rw [SJ] at hb2
 refine wpAny_call (VJ (hF'.run c.X.A c.X.stack s H ⟨us,[]⟩ us vs Q _ c.room I.Jb hb2 rv vB) λr' s' hq=>?_)
 cases r' with
 | error e =>
  obtain ⟨a,C,H',rfl,hE,C',e1,e2,sm⟩:=hq
  cases e2
  exact c.exc C a aa σ H Hf ρ s H' s' I S (hx C e1) hE sm
 | ok fl =>
  cases fl with
  | ret u=>exact I.after hq
  | next=>exact SO hq
  | brk=>exact SO hq
  | cont=>exact SO hq
theorem xy {R:Sl->Prop} (h:Cw P w K mg base j f F) (hj:j<=k) (hN:At N i x) (hi:At ρ i (.va (.adr f)))
 (ha:qM c (e::es) ρ λds=>∃ r,F ds r/\Jy c ρ R r)
 (hdb:(x == ("__debug__":Str))=false:=by decide) (hcd:(x == ("__classdict__":Str))=false:=by decide) (he:∀ env,starEach (e::es) env=(false,eval e env)::starEach es env:=by intro _; walk_at "u")
 (hpl:∀ env,(backTo pos (starEach es env)).any (·.1)=false:=by intro _; walk_at "u"):dD c (.Call (.Name x p) (e::es) [] pos) ρ R:=λσ H Hf Q S q aa s I=>by
 obtain ⟨hk,run⟩:=Cy (c:=c) (ρ:=ρ) h hj
 obtain ⟨v0,e0,r0⟩:=S.va hi.get
 rw [kM] at r0
 subst r0
 refine T6 (bB (c.mQ hN hdb hcd aa s σ H (λv H1=>v=.ref f/\H1=H) I ⟨_,e0,rfl,rfl⟩) λfv s1 ⟨v,H1,I1,rv,e1,e2⟩=>?_)
 subst e1 e2
 have ef:fv=.ref f:=rv
 subst ef
 refine Xp (h₀:=c.X.base) I1.ok.mod.kin (by rw [c.eK]; exact hk) (bB (ha σ _ Hf (λvs H1=>∃ aQ ds,(∃ r,F ds r/\Jy c ρ R r)/\ay c.X.K aQ ds vs/\bx _ Hf H1 aQ) S (λds vs H1 aQ hr rs g=>⟨aQ,ds,hr,rs,g⟩) pos aa s1 I1) λus s2 ⟨vs,H2,I2,rv,aQ,ds,⟨r,hF,hR⟩,rs,g⟩=>⟨I2.Ea,?_⟩) (he _) (hpl _)
 refine run aa σ H2 aQ s2 us vs ds r Q I2 (S.cG g) rv rs hF (λsl v H' aq e1 rs2 g2=>?_) λC e1=>?_
 ·subst e1
  exact q sl v H' aq hR (rs2.weak λp hp=>g.s.free hp) (g.trans g2)
 ·subst e1
  exact hR
end
end EV
namespace EV
open PySem PySem.Spec PySem.Calls PyProof.Rows L2
theorem y9 (hc:X.calm=true) (I:Inv X aa σ H s) (sb:aN Hf H) (hv:s.heap.IsItemsView v d) (hH:Hf d=some (.frz o u)) (hd:HO.dct u) (hp:Paired (nK X.K Hf) ds (cM u))
 (hQ:∀ (a:Addr) (s':Shared) (H' aq:Hp) (xs:List V),Inv X aa σ H' s'->H' a=some (.lst xs)->H a=none->aq a=none->ay X.K aq ds xs->bx H Hf H' aq->Q (.ref a) s'):wpAny (model X.prog X.w) X.A (call (.type "list") [.ref v]) Q E s:=by
 obtain ⟨ho,ok⟩:=(show bu X.prog X.w H s.heap d (.frz o u) from I.hok d _ (sb _ _ hH))
 obtain ⟨_,_,_,_,_,_,hz⟩:=dI ok hd ho
 have h1:X.A.in1.handled=none:=I.ok.hd hc
 have h2:X.A.in1.frames=some X.stack:=I.ok.frames
 refine callType_codes (Q₁:=λobj s₁=>obj=.ref s.heap.objs.size/\s₁={ s with heap:=s.heap.push { cls:=.type "list",data:=.seq #[] } }) F.called_list (F.typeCall_list_1 _) F.entry_list_init
  (code_list_new _ ⟨rfl,rfl⟩) λobj s₁ h₁=>?_
 obtain ⟨rfl,rfl⟩:=h₁
 have hS:(s.heap.push { cls:=.type "list",data:=.seq #[] }).get? s.heap.objs.size=some { cls:=.type "list",data:=.seq #[] }:=RK _ rfl
 refine ⟨⟨_,hS,rfl⟩,F.args_list_init_2 _ _,?_⟩
 show wpAny _ X.A.in1.in1 (do let old <- UD (.ref s.heap.objs.size); Uh (.ref s.heap.objs.size) (λ_=> #[]); letGo old.toList.reverse; VV (.ref s.heap.objs.size) (.ref v) .none) _ _ _
 refine Rq (UN hS rfl ?_)
 have HS:H s.heap.objs.size=none:=I.hok.fresh (Rv _)
 have I1:Inv X aa σ (upd H s.heap.objs.size (.lst [])) { s with heap:=s.heap.push { cls:=.type "list",data:=.seq ([]:List Value).toArray },toks:=s.toks }:=I.EH (t':=s.toks) (ys:=[]) (its:=[]) .nil (RY _)
 refine Rq (Tj hS rfl ?_)
 have I2:=I1.uc (f:=λ_=>(#[]:Array Value)) (its':=[]) (ys:=[]) (t':=s.toks) af (n:=0) hS (by simp) .nil (RY _)
 rw [oq] at I2
 refine Rq (UQ ?_)
 have k1:∀ b o,s.heap.get? b=some o->((s.heap.push { cls:=.type "list",data:=.seq ([]:List Value).toArray }).update s.heap.objs.size (R7 λ_=>(#[]:Array Value))).get? b=some o:=λb o e=>by
  rw [T5 _ _ _ _ (RW (Ry e))]
  exact Rx _ e
 have up:∀ s':Shared,(∀ b o,s.heap.get? b=some o->s'.heap.get? b=some o)->s'.heap.IsItemsView v d:=λs' k=>by obtain ⟨q,q1,q2⟩:=hv; exact ⟨q,k _ _ q1,q2⟩
 have hne:s.heap.objs.size≠v:=Uq (by obtain ⟨_,q,_⟩:=hv; exact Ry q)
 have g0:bx H Hf (upd H s.heap.objs.size (.lst [])) Hf:=bx.fJ sb HS
 refine nV (X:=HA X X.A.in1) (T:="dict_items") (ds:=ds) (H:=H) (Hf:=Hf) (R:=wants (λr s₂=>r=.none/\Q (.ref s.heap.objs.size) s₂) E) hc h1 h2 (lG I2 (λ_=>h1) h2) sb HS hne ?_ (by rw [To hp]; exact hz) (by decide) (λs' k=>(up s' λb o e=>k b o (k1 b o e)).typeIs) (λA s' Q E q h=>yL q h) ?_ λs' H' aq xs I' hS' hfS hr g=>⟨rfl,hQ _ s' H' aq xs (iU I.ok I') hS' HS hfS hr g⟩
 ·show _<(Heap.update _ _ _).objs.size
  rw [XW]
  show _<(Heap.push _ _).objs.size
  rw [Tu]; exact T7 _
 ·refine Sk (FL (X:=HA X X.A.in1) (tg:=.Name "x" ⟨0,0,0,0⟩) (lG I2 (λ_=>h1) h2) (up _ k1) (g0.b _ _ hH) hd) (λitv s2 hh=>z3 hh λit es ep hh=>w7 hh λe hit I3 Tn t0 hf k2=>?_) λ_ _ x=>x
  exact ⟨it,_,_,e,hit,I3,Tn,t0,hf,k2,k9 hH hp⟩
section
variable {K:Rr} {c:Ctx P w K mg base k N sc bk}
theorem sE (hm:mg "list"=none) (h:aG c e ρ λd=>∃ ds,d.pairs=some ds/\R (.ow ds)) (hg:sc.names.lookup (Rp "list")=some .globalImplicit:=by walk_at "u")
 (hb:∀ env,attributeBase e "items" env (eval e env)=eval e env:=by intro _; walk_at "u") (hl:(ap.endLine == cp.line)=true:=by walk_at "u") :
 dD c (.Call (.Name "list" np) [.Call (.Attribute e "items" ap) [] [] cp] [] pos) ρ R:=λσ H Hf Q S q aa s I=>by
 have hgl:Gl c.X "list":=by unfold Gl Sw; rw [c.esc]; exact hg
 refine T6 (dZ I hgl (by rw [c.emg]; exact hm) (show bootBuiltins "list"=some (.type "list") by decide +kernel) ?_ (by decide) (by decide))
 have hpa:=bQ (X:=c.X) (e:=.Call (.Attribute e "items" ap) [] [] cp) (es:=[]) (Ca cQ (hb _) hl) d8 (by rfl)
 refine UZ (bB (hpa pos aa s σ H (λvs H1=>∃ x,vs=[x]/\∃ (v d:Addr) (o:Obj) (u:HO) (ds:List D) (H0 Em:Hp),x=.ref v/\H1=upd H0 v (.ext λh=>h.IsItemsView v d)/\H0 v=none/\Em d=some (.frz o u)/\HO.dct u/\Paired (nK c.X.K Em) ds (cM u)/\bx H Hf H0 Em/\R (.ow ds)) I ?_) λus s1 hh=>z2 hh λvs H1 hh=>w3 hh λI1 r1 hh=>hh.elim λx hh=>w2 hh λex hh=>z4 hh λv d o u hh=>z3 hh λds H0 Em hh=>w8 hh λe1 e2 e3 e4 e5 e6 e8 e9=>?_) (by rfl) (by rfl)
 ·exact h σ H Hf _ S λd v H1 aQ ⟨ds,hp,hR⟩ rv g=>by
   obtain ⟨a,o,u,e1,e2,e3,e4⟩:=nL hp rv
   exact ⟨a,o,u,e1,g.b _ _ e2,e3,λvw hv=>⟨_,rfl,vw,a,o,u,ds,H1,aQ,rfl,rfl,hv,e2,e3,e4,g,hR⟩⟩
 ·subst ex e1 e2
  have eu:us=[.ref v]:=by
   cases r1 with
   | cons q1 q2=>cases q2; cases q1; rfl
  subst eu
  have g1:bx H0 Em (upd H0 v (.ext λh=>h.IsItemsView v d)) Em:=bx.fJ e8.b e3
  obtain ⟨hvw,_⟩:=(show bu c.X.prog c.X.w _ s1.heap v (.ext λh=>h.IsItemsView v d) from I1.hok v _ af)
  refine y9 c.calm I1 g1.b hvw e4 e5 e6 λa s' H' aq xs I' hS' na vC hr g=>?_
  have gg:=(e8.trans g1).trans g
  exact ⟨.ref a,H',I',rfl,q (.ow ds) _ _ aq e9 ⟨a,xs,rfl,e8.s.free (g1.s.free na),hS',vC,hr⟩ gg⟩
end
theorem Cz {K:Rr}:∀ {ds:List D} {xs:List V} {us:List Value},ay K Hf ds xs->Vals xs us->Paired (λd u=>pJ K Hf d u) ds us
 | [],xs,us,h,v=>by rw [aB] at h; subst h; cases v; exact .nil
 | t::L,xs,us,h,v=>by
  obtain ⟨x,r,rfl,h1,h2⟩:=aH.mp h
  cases v with
  | cons r1 r2=>exact .cons ⟨x,r1,h1⟩ (Cz h2 r2)
theorem CA {K:Rr}:∀ {ds:List D} {us:List Value},Paired (λd u=>pJ K Hf d u) ds us->∃ xs,ay K Hf ds xs/\Vals xs us
 | _,_,.nil=>⟨[],aB.mpr rfl,.nil⟩
 | _,_,.cons ⟨x,r1,h1⟩ t=>by
  obtain ⟨xs,h2,h3⟩:=CA t
  exact ⟨x::xs,.cons h1 h2,.cons r1 h3⟩
theorem uN (hc:X.calm=true) (I:Inv X aa σ H s) (sb:aN Hf H) (hl:fS X.K Hf l ys) (hr:ay X.K Hf ds ys) (hd:∀ d∈ds,∃ es,d=.lst es)
 (hQ:∀ (ds':List D) (xs':List V) (s':Shared) (a:Addr),ds'.Perm ds->ay X.K Hf ds' xs'->H a=none->Inv X aa σ (upd H a (.lst xs')) s'->Q (.ref a) s') :
 wpAny (model X.prog X.w) X.A (call (.builtin "sorted") [.ref l] [(Rp "key",.builtin "len")]) Q E s:=by
 refine W6 kind_sorted plain_sorted entry_sorted (SR.jT _ _) ?_
 unfold Builtin.«sorted»
 refine Rq (m:=checkCount "sorted" 1 1 _) (Rt ?_)
 obtain ⟨its,rv,p,hz⟩:=I.list (sb.seq hl)
 have el:=rv.length
 refine Rq (collect_list p.isList ?_ (by lia))
 have I2:Inv X aa σ H { s with heap:=(s.heap.push (seqObj "list" #[] 0)).update s.heap.objs.size (R7 (· ++its.toArray)),toks:=s.toks }:=I.kept λc o e=>by
  rw [T5 _ _ _ _ (RW (Ry e))]
  exact Rx _ e
 generalize (s.heap.push (seqObj "list" #[] 0)).update s.heap.objs.size (R7 (· ++its.toArray))=h0 at I2 |-
 refine Rq (Wz ?_ (by lia))
 have ha:(h0.push (seqObj "list" its.toArray 0)).get? h0.objs.size=some (seqObj "list" its.toArray 0):=RK _ rfl
 have Ha:H h0.objs.size=none:=I2.hok.fresh (Rv _)
 have k2:∀ b o,h0.get? b=some o->(h0.push (seqObj "list" its.toArray 0)).get? b=some o:=λb o e=>Rx _ e
 have I3:Inv X aa σ H { s with heap:=h0.push (seqObj "list" its.toArray 0),toks:=s.toks }:=I2.kept (t':=s.toks) k2
 have pL:=Cz hr rv
 refine Rq (Tw (wpAny_call_entry_kw slot_list_sort ⟨_,ha,rfl⟩ entry_list_sort (SR.B5 ha (by lia) (λv hv=>?_) λout h' tk e hp he hk=>⟨_,rfl,?_⟩) (SR.g6 _ _)))
 ·obtain ⟨d,hd',x,r1,h1⟩:=SR.gZ pL v hv
  obtain ⟨es,rfl⟩:=hd d hd'
  obtain ⟨b,zs,rfl,q1,q2⟩:=aZ.mp h1
  cases r1
  obtain ⟨its',rv',p',hz'⟩:=I3.list (sb.seq q1)
  have e':=rv'.length
  refine ⟨b,its'.toArray,rfl,?_,p'.isList,by simp only [RP]; lia⟩
  rintro rfl
  obtain ⟨_,_,p2,_⟩:=I2.list (sb.seq q1)
  obtain ⟨o,q,_⟩:=p2.isList
  exact Tp _ (Ry q)
 ·obtain ⟨ds',p1,p2⟩:=SR.gc hp pL
  obtain ⟨xs',r',v'⟩:=CA p2
  have hlen:out.toList.length=its.length:=hp.length_eq
  refine Rt ⟨_,rfl,hQ ds' xs' _ _ p1 r' Ha ?_⟩
  refine I2.laid (t':=tk) (a:=h0.objs.size) (λb o q=>hk b o (RW (Ry q)) (k2 b o q)) (Rv _) ⟨by have:=v'.length; lia,out.toList,e,v',by simpa using he⟩
section
variable {K:Rr} {c:Ctx P w K mg base k N sc bk}
theorem za (hm:mg "sorted"=none) (hml:mg "len"=none) (h:aG c e ρ λd=>∃ ds,d=.lst ds/\Sd (∀ x∈ds,∃ es,x=.lst es) (∀ ds':List D,ds'.Perm ds->R (.ow ds')))
 (hg:sc.names.lookup (Rp "sorted")=some .globalImplicit:=by walk_at "u") (hgl:sc.names.lookup (Rp "len")=some .globalImplicit:=by walk_at "u")
 (he:∀ env,starEach [e] env=(false,eval e env)::starEach [] env:=by intro _; walk_at "u")
 (hpl:∀ env,(backTo pos (starEach [e] env)).any (·.1)=false:=by intro _; walk_at "u") :
 dD c (.Call (.Name "sorted" np) [e] [⟨some "key",.Name "len" kp1,kp⟩] pos) ρ R:=λσ H Hf Q S q aa s I=>by
 have hgs:Gl c.X "sorted":=by unfold Gl Sw; rw [c.esc]; exact hg
 have hgl':Gl c.X "len":=by unfold Gl Sw; rw [c.esc]; exact hgl
 refine T6 (dZ I hgs (by rw [c.emg]; exact hm) (show bootBuiltins "sorted"=some (.builtin "sorted") by decide +kernel) ?_ (by decide) (by decide))
 refine callWith_kw ?_ (by rw [he]; rfl) (hpl _)
 have hpa:=bQ (X:=c.X) (e:=e) (es:=[]) cQ d8 (he _)
 refine bB (hpa pos aa s σ H (λvs H1=>∃ x,vs=[x]/\∃ (ds:List D) (aQ:Hp),Rep c.X.K aQ (.lst ds) x/\(∀ x∈ds,∃ es,x=.lst es)/\bx H Hf H1 aQ/\∀ ds':List D,ds'.Perm ds->R (.ow ds')) I ?_) λus s1 hh=>z2 hh λvs H1 hh=>w3 hh λI1 r1 hh=>hh.elim λx hh=>w2 hh λex hh=>z2 hh λds aQ hh=>w4 hh λe1 e7 e8 e9=>?_
 ·exact h σ H Hf _ S λd v H1 aQ ⟨ds,hp,⟨hn,hR⟩⟩ rv g=>⟨_,rfl,ds,aQ,by rw [<- hp]; exact rv,hn,g,hR⟩
 ·subst ex
  obtain ⟨a0,ys,rfl,hs,hr⟩:=aZ.mp e1
  have eu:us=[.ref a0]:=by
   cases r1 with
   | cons q1 q2=>cases q2; cases q1; rfl
  subst eu
  refine kws_cons (dZ I1 hgl' (by rw [c.emg]; exact hml) (show bootBuiltins "len"=some (.builtin "len") by decide +kernel) ?_ (by decide) (by decide))
  refine kws_nil ?_
  exact uN c.calm I1 e8.b hs hr e7 λds' xs' s' a p1 p3 na I3=>⟨.ref a,_,I3,rfl,q (.ow ds') _ _ aQ (e9 ds' p1) ⟨a,xs',rfl,e8.s.free na,af,e8.b.free na,p3⟩ (e8.trans (bx.fJ e8.b na))⟩
end
end EV
namespace EV
open PySem PySem.Spec PyProof.Rows L2
noncomputable def zb (t:aL):aL:=(t.1,-t.2)
theorem F8 (h:trim m=m) (hn:m≠[]):bz m (m.length - 1)≠0:=by
 rcases List.eq_nil_or_concat m with rfl | ⟨l,x,rfl⟩
 ·exact absurd rfl hn
 ·rw [List.concat_eq_append] at h |-
  intro z
  have e:bz (l++[x]) ((l++[x]).length - 1)=x:=by
   rw [cO (by simp)]; simp
  rw [e] at z; subst z
  rw [gE] at h
  have:=gh l
  rw [h,R3,Tz] at this
  lia
theorem zc (hl:trim l=l) (hm:trim m=m) (h:∀ i,bz l i=bz m i):l=m:=by
 have key:∀ {l m:List Int},trim m=m->(∀ i,bz l i=bz m i)->m.length<=l.length:=λ{l m} hm h=>by
  rcases Nat.lt_or_ge l.length m.length with z | z
  ·have hn:m≠[]:=by rintro rfl; simp at z
   have:=F8 hm hn
   rw [<- h,cy (by lia)] at this
   exact absurd rfl this
  ·exact z
 have e:l.length=m.length:=Nat.le_antisymm (key hl λi=>(h i).symm) (key hm h)
 refine XT e λi h1 h2=>?_
 have:=h i
 rwa [cO h1,cO h2] at this
theorem gn (h:∀ i,bz p i=bz q i):trim p=trim q:=zc (cA p) (cA q) λi=>by rw [dM,dM,h]
theorem zd (a b):trim (cI (trim a) (trim b))=trim (cI a b):=gn λi=>by rw [bY,bY,dM,dM]
theorem uO (a b):trim (cI (trim a) b)=trim (cI a b):=gn λi=>by rw [bY,bY,dM]
theorem uP (a b):trim (cI a (trim b))=trim (cI a b):=gn λi=>by rw [bY,bY,dM]
theorem ze (a b):cI a b=cI b a:=by
 unfold cI; rw [Nat.max_comm]; exact Ui λk _=>WK _ _
theorem CB (a):trim (cI [] a)=trim a:=gn λi=>by rw [bY,cy (RY _),VN]
theorem uQ (a b c):trim (cI (cI a b) c)=trim (cI a (cI b c)):=gn λi=>by
 rw [bY,bY,bY,bY,Int.add_assoc]
noncomputable def ev (g:List Int->Int):List aL->Int
 | []=>0
 | t::A=>t.2 * g (trim t.1)+ev g A
theorem bf (g) (t) (A):ev g (t::A)=t.2 * g (trim t.1)+ev g A:=rfl
theorem cg (g) (B):∀ A,ev g (A++B)=ev g A+ev g B
 | []=>by simp [ev]
 | t::A=>by rw [Uk,bf,bf,cg g B A]; lia
theorem jz (g):∀ A:List aL,ev g (A.map zb)= - ev g A
 | []=>rfl
 | t::A=>by
  rw [RC,bf,bf,jz g A]
  show -t.2 * g (trim t.1)+_=_
  rw [WR]; lia
theorem CC (g) (l):∀ B:List aL,ev g (B.map (fP l))=l.2 * ev (λq=>g (trim (cI (trim l.1) q))) B
 | []=>by simp [ev]
 | r::B=>by
  rw [RC,bf,bf,CC g l B]
  show l.2 * r.2 * g (trim (cI l.1 r.1))+_=_
  rw [Int.mul_add,zd,Vh]
theorem bR (g) (B):∀ A:List aL,ev g (aP A B)=ev (λp=>ev (λq=>g (trim (cI p q))) B) A
 | []=>rfl
 | l::A=>by
  show ev g (B.map (fP l)++aP A B)=_
  rw [cg,CC,bR g B A]; rfl
theorem gp (e:∀ p,trim p=p->g p=h p):∀ A,ev g A=ev h A
 | []=>rfl
 | t::A=>by rw [bf,bf,e _ (cA _),gp e A]
theorem CD (g h):∀ A,ev (λp=>g p+h p) A=ev g A+ev h A
 | []=>rfl
 | t::A=>by rw [bf,bf,bf,CD g h A,Int.mul_add]; lia
theorem HE (c) (g):∀ A,ev (λp=>c * g p) A=c * ev g A
 | []=>by simp [ev]
 | t::A=>by rw [bf,bf,HE c g A,Int.mul_add,Int.mul_left_comm]
theorem xA:∀ A,ev (λ_=>0) A=0
 | []=>rfl
 | t::A=>by rw [bf,xA A]; simp
theorem xB (f:List Int->List Int->Int) (B):∀ A,ev (λp=>ev (λq=>f p q) B) A=ev (λq=>ev (λp=>f p q) A) B
 | []=>by show 0=ev (λ_=>0) B; rw [xA]
 | t::A=>by
  show t.2 * ev (λq=>f (trim t.1) q) B+ev _ A=ev (λq=>t.2 * f (trim t.1) q+ev (λp=>f p q) A) B
  rw [CD,HE,xB f B A]
def eqv (A B:List aL):Prop:=∀ g,ev g A=ev g B
theorem eqv.rf (A):eqv A A:=λ_=>rfl
theorem eqv.app (h:eqv A A') (k:eqv B B'):eqv (A++B) (A'++B'):=λg=>by rw [cg,cg,h g,k g]
theorem eqv.neg (h:eqv A B):eqv (A.map zb) (B.map zb):=λg=>by rw [jz,jz,h g]
theorem eqv.prod (h:eqv A A') (k:eqv B B'):eqv (aP A B) (aP A' B'):=λg=>by
 rw [bR,bR,h]; exact gp (λp _=>k _) _
instance trmSetoid:Setoid (List aL):=⟨eqv,⟨eqv.rf,λh g=>(h g).symm,λh k g=>(h g).trans (k g)⟩⟩
noncomputable def MP:Type:=Quotient trmSetoid
noncomputable def mp (A:List aL):MP:=Quotient.mk trmSetoid A
theorem dS:mp A=mp B↔eqv A B:=⟨λh=>Quotient.exact h,λh=>Wu h⟩
noncomputable def cT (n:Int):List aL:=[([],n)]
theorem jV (g) (n):ev g (cT n)=n * g []:=by show n * g (trim [])+0=_; rw [WJ]; rfl
noncomputable instance:Add MP:=⟨Quotient.lift₂ (λA B=>mp (A++B)) λ_ _ _ _ h k=>Wu (eqv.app h k)⟩
noncomputable instance:Mul MP:=⟨Quotient.lift₂ (λA B=>mp (aP A B)) λ_ _ _ _ h k=>Wu (eqv.prod h k)⟩
noncomputable instance:Neg MP:=⟨Quotient.lift (λA=>mp (A.map zb)) λ_ _ h=>Wu (eqv.neg h)⟩
noncomputable instance:Sub MP:=⟨λa b=>a+ -b⟩
noncomputable instance:NatCast MP:=⟨λn=>mp (cT n)⟩
noncomputable instance:IntCast MP:=⟨λn=>mp (cT n)⟩
noncomputable instance (n:Nat):OfNat MP n:=⟨mp (cT n)⟩
noncomputable instance:SMul Nat MP:=⟨λn a=>(n:MP) * a⟩
noncomputable instance:SMul Int MP:=⟨λn a=>(n:MP) * a⟩
noncomputable def MP.pow (a:MP):Nat->MP
 | 0=>1
 | n+1=>MP.pow a n * a
noncomputable instance:HPow MP Nat MP:=⟨MP.pow⟩
theorem CF (A B):mp (A++B)=mp A+mp B:=rfl
theorem CG (A B):mp (aP A B)=mp A * mp B:=rfl
theorem uR (n):mp (cT n)=(n:MP):=rfl
theorem qt {P:MP->Prop} (h:∀ A,P (mp A)) (a:MP):P a:=Quotient.inductionOn a h
theorem Kr (g) (A):ev g (aP (cT 1) A)=ev g A:=by
 rw [bR,jV,Vm]
 exact gp (λp hp=>by rw [CB,hp]) _
theorem mulC:∀ a b:MP,a * b=b * a:=qt λA=>qt λB=>dS.mpr λg=>by
 rw [bR,bR,xB]
 exact gp (λq _=>gp (λp _=>by rw [ze]) _) _
theorem Nt:∀ a:MP,1 * a=a:=qt λA=>dS.mpr λg=>Kr g A
theorem Qd:∀ a b:MP,a+b=b+a:=qt λA=>qt λB=>dS.mpr λg=>by rw [cg,cg,WK]
theorem HF:∀ a b c:MP,(a+b) * c=a * c+b * c:=qt λA=>qt λB=>qt λC=>dS.mpr λg=>by rw [bR,cg,cg,bR,bR]
theorem HG:∀ a:MP,0 * a=0:=qt λA=>dS.mpr λg=>by
 rw [bR,jV,jV]; show 0 * _=0 * _; rw [UP,UP]
noncomputable instance:Lean.Grind.CommRing MP where
 add_zero:=qt λA=>dS.mpr λg=>by rw [cg,jV]; show _+0 * _=_; rw [UP,WJ]
 add_comm:=Qd
 add_assoc:=qt λA=>qt λB=>qt λC=>dS.mpr λg=>by rw [cg,cg,cg,cg,Int.add_assoc]
 mul_assoc:=qt λA=>qt λB=>qt λC=>dS.mpr λg=>by
  rw [bR,bR,bR]
  refine gp (λp _=>?_) _
  rw [bR]
  refine gp (λq _=>gp (λr _=>?_) _) _
  rw [uO,uP,uQ]
 mul_one:=λa=>by rw [mulC,Nt]
 one_mul:=Nt
 left_distrib:=λa b c=>by rw [mulC,HF,mulC b,mulC c]
 right_distrib:=HF
 zero_mul:=HG
 mul_zero:=λa=>by rw [mulC,HG]
 pow_zero:=λ_=>rfl
 pow_succ:=λ_ _=>rfl
 ofNat_succ:=λn=>dS.mpr λg=>by
  show ev g (cT ((n+1:Nat):Int))=ev g (cT (n:Int)++cT ((1:Nat):Int))
  rw [cg,jV,jV,jV,Int.natCast_add,Ut]
 ofNat_eq_natCast:=λ_=>rfl
 nsmul_eq_natCast_mul:=λ_ _=>rfl
 neg_add_cancel:=qt λA=>dS.mpr λg=>by
  rw [cg,jz,jV]; show _=0 * _; rw [UP]; lia
 sub_eq_add_neg:=λ_ _=>rfl
 neg_zsmul:=λi=>qt λA=>dS.mpr λg=>by
  show ev g (aP (cT (-i)) A)=ev g ((aP (cT i) A).map zb)
  rw [jz,bR,bR,jV,jV,WR]
 zsmul_natCast_eq_nsmul:=λ_ _=>rfl
 intCast_ofNat:=λ_=>rfl
 intCast_neg:=λi=>dS.mpr λg=>by
  show ev g (cT (-i))=ev g ((cT i).map zb)
  rw [jz,jV,jV,WR]
 mul_comm:=mulC
theorem CH {A:List aL} {p q:List Int} {n:Int}:(aY (putD A p n) q).getD 0=if q=p then n else (aY A q).getD 0:=by
 unfold putD
 split
 ·rename_i h
  induction A with
  | nil=>simp [aY] at h
  | cons t A ih =>
   rw [RC]
   by_cases e:t.1=p
   ·rw [if_pos e]
    by_cases z:q=p
    ·rw [if_pos z,bq (by rw [e,z])]; rfl
    ·rw [if_neg z,aV (by rw [e]; exact λw=>z w.symm),aV (by rw [e]; exact λw=>z w.symm)]
     clear ih h
     induction A with
     | nil=>rfl
     | cons u A ih =>
      rw [RC]
      by_cases w:u.1=q
      ·rw [if_neg (by rw [w]; exact z),bq w,bq w]
      ·rw [aV w,<- ih,aV (by split <;> exact w)]
   ·rw [if_neg e]
    have h':(aY A p).isSome=true:=by rw [aV e] at h; exact h
    by_cases z:t.1=q
    ·rw [bq z,bq z,if_neg (by rw [<- z]; exact e)]
    ·rw [aV z,aV z,ih h']
 ·rename_i h
  induction A with
  | nil =>
   rw [Wo]
   by_cases z:q=p
   ·rw [if_pos z,bq z.symm]; rfl
   ·rw [if_neg z,aV λw=>z w.symm]
  | cons t A ih =>
   have h0:¬ t.1=p:=λe=>h (by rw [bq e]; rfl)
   rw [Uk]
   by_cases z:t.1=q
   ·rw [bq z,bq z,if_neg (by rw [<- z]; exact h0)]
   ·rw [aV z,aV z,ih (by rw [aV h0] at h; exact h)]
noncomputable def cf (p:List Int) (A:List aL):Int:=ev (λq=>if q=p then 1 else 0) A
theorem CI (p):∀ ts:List aL,(aY (aX ts) p).getD 0=cf p ts:=by
 intro ts
 suffices H:∀ (ts A:List aL),(aY (ts.foldl fO A) p).getD 0=(aY A p).getD 0+cf p ts by
  have:=H ts []
  rw [show (aY ([]:List aL) p).getD 0=0 from rfl,VN] at this
  exact this
 intro ts
 induction ts with
 | nil=>intro A; show _=_+0; rw [WJ]; rfl
 | cons t ts ih =>
  intro A
  rw [Tg,ih]
  unfold fO
  rw [CH]
  show _=_+(t.2 * (if trim t.1=p then 1 else 0)+cf p ts)
  by_cases z:p=trim t.1
  ·rw [if_pos z,if_pos z.symm,z]; lia
  ·rw [if_neg z,if_neg λw=>z w.symm]; lia
theorem CJ:t∈nz (aX ts)↔trim t.1=t.1/\t.2≠0/\t.2=cf t.1 ts:=by
 have hk:=fu ts
 constructor
 ·intro h
  unfold nz at h
  rw [VE] at h
  refine ⟨?_,by simpa using h.2,?_⟩
  ·have bd:∃ n,∀ t∈ts,t.1.length<=n:=by
    clear h hk
    induction ts with
    | nil=>exact ⟨0,λt h=>by cases h⟩
    | cons u ts ih =>
     obtain ⟨n,hn⟩:=ih
     refine ⟨max n u.1.length,λt ht=>?_⟩
     rcases RL.mp ht with rfl | ht
     ·lia
     ·have:=hn t ht; lia
   obtain ⟨n,hn⟩:=bd
   exact (pQ hn t h.1).1
  ·rw [<- CI,xq hk h.1]; rfl
 ·rintro ⟨h1,h2,h3⟩
  unfold nz
  rw [VE]
  refine ⟨?_,by simpa using h2⟩
  rw [<- CI] at h3
  cases e:aY (aX ts) t.1 with
  | none=>rw [e] at h3; exact absurd h3 h2
  | some n =>
   rw [e] at h3
   have h3':t.2=n:=h3
   unfold aY at e
   obtain ⟨u,hu,e2⟩:=RV.mp e
   have m:=List.mem_of_find?_eq_some hu
   have z:u.1=t.1:=by simpa using List.find?_some hu
   have:u=t:=Prod.ext z (by rw [e2,h3'])
   rw [<- this]; exact m
theorem sF {L M:List aL} (h1:L.Nodup) (h2:M.Nodup) (h:∀ t,t∈L↔t∈M):L.Perm M:=(List.perm_ext_iff_of_nodup h1 h2).mpr h
theorem CK (h:eqv A B):bX A=bX B:=by
 have nA:=keys_nodup (w9 (fu A))
 have nB:=keys_nodup (w9 (fu B))
 have hp:(nz (aX A)).Perm (nz (aX B)):=sF nA nB λt=>by rw [CJ,CJ]; unfold cf; rw [h]
 exact uH nB ((bZ _).trans hp) (iW nA)
theorem uS (h:mp A=mp B):bX A=bX B:=CK (dS.mp h)
theorem Ks (g) (hp:trim p=p) (n) (hk:(A.map (·.1)).Nodup) (ht:∀ t∈A,trim t.1=t.1):ev g (putD A p n)=ev g A+(n - (aY A p).getD 0) * g p:=by
 unfold putD
 split
 ·rename_i h
  induction A with
  | nil=>simp [aY] at h
  | cons t A ih =>
   rw [RC]
   rw [RC,Ul] at hk
   by_cases e:t.1=p
   ·rw [if_pos e]
    have same:A.map (λkv:aL=>if kv.1=p then (kv.1,n) else kv)=A:=by
     refine (Ui λu hu=>?_).trans (List.map_id A)
     rw [if_neg λz=>hk.1 (by rw [e,<- z]; exact Sb.mpr ⟨u,hu,rfl⟩)]; rfl
    rw [same,bq e]
    rw [bf,bf]
    show n * g (trim t.1)+_=_+(n - t.2) * _
    rw [ht t RD,e,Int.sub_mul]; lia
   ·rw [if_neg e]
    rw [bf,bf,ih hk.2 (λu hu=>ht u (RH _ hu)) (by rw [aV e] at h; exact h),aV e]; lia
 ·rename_i h
  have e:aY A p=none:=by
   cases e:aY A p with
   | none=>rfl
   | some n=>rw [e] at h; exact absurd rfl h
  rw [cg,e]
  show _+(n * g (trim p)+0)=_+(n - 0) * _
  rw [hp,Int.sub_zero,WJ]
theorem xC (ts):eqv (aX ts) ts:=by
 suffices H:∀ (ts A:List aL),(A.map (·.1)).Nodup->(∀ t∈A,trim t.1=t.1)->eqv (ts.foldl fO A) (A++ts) from H ts [] (by simp) (by simp)
 intro ts
 induction ts with
 | nil=>intro A _ _ g; simp
 | cons t ts ih =>
  intro A hk ht g
  have ih':ev g (ts.foldl fO (fO A t))=ev g (fO A t++ts):=ih _ (rS _ _ hk) (λu hu=>by
   rcases pP hu with e | e
   ·rw [e,cA]
   ·exact ht u e) g
  rw [Tg,ih',cg,cg]
  unfold fO
  rw [Ks g (cA _) _ hk ht]
  show _=_+(t.2 * g (trim t.1)+ev g ts)
  rw [Int.sub_mul,Ut]; lia
theorem F9 (g) (h:A.Perm B):ev g A=ev g B:=by
 induction h with
 | nil=>rfl
 | cons x _ ih=>rw [bf,bf,ih]
 | swap x y l=>rw [bf,bf,bf,bf]; lia
 | trans _ _ a b=>rw [a,b]
theorem CL (g):∀ A:List aL,ev g (nz A)=ev g A
 | []=>rfl
 | t::A=>by
  unfold nz
  by_cases h:t.2=0
  ·rw [Vr (by simp [h])]
   show ev g (nz A)=t.2 * _+_
   rw [CL g A,h,UP,VN]
  ·rw [UA (by simp [h])]
   show _+ev g (nz A)=_
   rw [CL g A]; rfl
theorem CM (ts):eqv (bX ts) ts:=λg=>by
 show ev g (jx (nz (aX ts)))=_
 rw [F9 g (bZ _),CL,xC ts g]
theorem Ga (A):mp (bX A)=mp A:=dS.mpr (CM A)
theorem Ku (A):mp (aX A)=mp A:=dS.mpr (xC A)
noncomputable def stp {α:Type} (xs:List α) (lo hi st:Option Int):List α:=(sliceRange (sliceBounds lo hi st xs.length).1 (sliceBounds lo hi st xs.length).2.1 (sliceBounds lo hi st xs.length).2.2).filterMap (xs[·]?)
theorem div_le_self {m st:Int} (h:0<m) (hs:0<st):(m+st - 1) / st<=m:=by
 have e:(m+st - 1) / st<m+1:=by
  apply Int.ediv_lt_of_lt_mul hs
  have:0<=m * (st - 1):=Vf (by lia) (by lia)
  rw [Int.mul_sub,Int.mul_one] at this
  rw [Ut,Vm]
  lia
 lia
theorem xD {lo hi:Option Int} (hk:0<k):(stp xs lo hi (some k)).length<=xs.length:=by
 unfold stp
 refine Rz (List.length_filterMap_le ..) ?_
 have h0:0<=(sliceBounds lo hi (some k) xs.length).1:=by
  cases lo with
  | none=>simp only [sliceBounds,Wg]; rw [if_pos hk]; lia
  | some i=>simp only [sliceBounds,Wg]; rw [if_pos hk]; lia
 have h1:(sliceBounds lo hi (some k) xs.length).2.1<=xs.length:=by
  cases hi with
  | none=>simp only [sliceBounds,Wg]; rw [if_pos hk]; lia
  | some i=>simp only [sliceBounds,Wg]; rw [if_pos hk]; lia
 have h2:(sliceBounds lo hi (some k) xs.length).2.2=k:=rfl
 rw [h2]
 unfold sliceRange
 simp only [RB,Wc]
 rw [if_pos (by exact hk)]
 split
 ·rename_i z
  have:=div_le_self (m:=(sliceBounds lo hi (some k) xs.length).2.1 - (sliceBounds lo hi (some k) xs.length).1) (by lia) hk
  lia
 ·simp
theorem Gb (f:α->β) (xs) (lo hi st):stp (xs.map f) lo hi st=(stp xs lo hi st).map f:=by
 unfold stp
 rw [RB,List.map_filterMap]
 congr 1
 funext i
 rw [RO]
theorem zg (h:Vals xs its):∀ ns:List Nat,Vals (ns.filterMap (xs[·]?)) (ns.filterMap (its[·]?)):=by
 intro ns
 induction ns with
 | nil=>exact .nil
 | cons n ns ih =>
  rw [TU,TU]
  by_cases z:n<xs.length
  ·obtain ⟨u,e,hu⟩:=h.get (RU z)
   rw [RU z,e]
   exact .cons hu ih
  ·rw [TF (by lia),TF (by rw [<- h.length]; lia)]
   exact ih
theorem zh {K:Rr} (h:ay K H ds xs):∀ ns:List Nat,ay K H (ns.filterMap (ds[·]?)) (ns.filterMap (xs[·]?)):=by
 intro ns
 induction ns with
 | nil=>exact aB.mpr rfl
 | cons n ns ih =>
  rw [TU,TU]
  by_cases z:n<ds.length
  ·obtain ⟨u,e,hu⟩:=h.get (RU z)
   rw [RU z,e]
   exact aH.mpr ⟨_,_,rfl,hu,ih⟩
  ·rw [TF (by lia),TF (by rw [<- h.length]; lia)]
   exact ih
noncomputable def Qe (X:Cx) (te:TE) (tl th ts:TO):TE:=λσ H Q=>te σ H λx H1=>tl σ H1 λl H2=>th σ H2 λu H3=>ts σ H3 λt H4=>∃ a xs k,x=.ref a/\fS X.K H4 a xs/\t=some k/\0<k/\∀ p,H4 p=none->Q (.ref p) (upd H4 p (.lst (stp xs l u (some k))))
section
variable {lo hi:Option Expr} {st:Expr}
theorem Kv (he:PE X e te) (hl:PO X lo tl) (hu:PO X hi th) (ht:PO X (some st) ts):PE X (.Subscript e (.Slice lo hi (some st) p2) pos) (Qe X te tl th ts):=by
 intro aa s σ H Q I h
 refine Subscript_ (bB (he aa s σ H _ I h) λv s1 ⟨x,H1,I1,r1,q1⟩=>?_)
 refine wpAny_Slice (bB (hl aa s1 σ H1 _ I1 q1) λvl s2 ⟨l,H2,I2,pl,q2⟩=>bB (hu aa s2 σ H2 _ I2 q2) λvu s3 ⟨u,H3,I3,pu,q3⟩=>bB (ht aa s3 σ H3 _ I3 q3) λvt s4 ⟨t,H4,I4,pt,q4⟩=>?_)
 obtain ⟨a,xs,k,rfl,hx,rfl,hk,q⟩:=q4
 have I5:Inv X aa σ H4 { s4 with heap:=s4.heap.push { cls:=.type "slice",data:=.fields #[vl,vu,vt] } }:=I4.kept (t':=s4.toks) λb ob q=>Rx _ q
 cases r1
 obtain ⟨its,r,hi,hz⟩:=I5.list hx
 have hlen:=r.length
 show wpAny (model X.prog X.w) X.A (subscriptTail e (.Slice lo _ (some st) p2) (.ref a) (.ref s4.heap.objs.size)) (EP X aa σ Q) X.xe { s4 with heap:=s4.heap.push { cls:=.type "slice",data:=.fields #[vl,vu,vt] } }
 refine tail_any (ops:=[.ref a,.ref s4.heap.objs.size]) hi.isList.typeIs Xz.lookup ?_ (by walk_at "u")
 refine wpAny_getItem_list_slice hi.isList (Heap.IsSliceOf.new ..) pl pu pt (by intro e; injection e with e; lia) ?_ (by rw [RP] <;> lia)
 have I6:=I5
 generalize hS:({ s4 with heap:=s4.heap.push { cls:=.type "slice",data:=.fields #[vl,vu,vt] } }:Shared)=S at I6 |-
 have ep:slicePick its.toArray l u (some k)=(stp its l u (some k)).toArray:=by
  unfold slicePick stp
  simp only [RP,List.getElem?_toArray]
 rw [ep]
 refine ⟨.ref S.heap.objs.size,_,I6.laid (t':=S.toks) (o:=.lst (stp xs l u (some k))) (λb ob q=>Rx _ q) (Rv _) ?_,rfl,q _ (I6.hok.fresh (Rv _))⟩
 exact ⟨Rz (xD hk) hz,_,0,by unfold stp; rw [hlen]; exact zg r _,RK _ rfl⟩
end
section
variable {K:Rr}
theorem Nu {lo hi:Option Expr} {st:Expr} (h:aG c e ρ λx=>Ec c lo ρ λl=>Ec c hi ρ λu=>Ec c (some st) ρ λt=>∃ ds k,x=.lst ds/\t=some k/\0<k/\R (.ow (stp ds l u (some k)))):dD c (.Subscript e (.Slice lo hi (some st) p2) pos) ρ R:=λσ H Hf Q S q =>
 bK (Kv cQ M0 M0 M0) (h σ H Hf _ S λx v H1 aQ h1 r1 g1=>h1 σ H1 aQ _ (S.cG g1) λl H2 cL h2 g2=>h2 σ H2 cL _ (S.cG (g1.trans g2)) λu H3 Hf3 h3 g3=>h3 σ H3 Hf3 _ (S.cG ((g1.trans g2).trans g3)) λt H4 Hf4 h4 g4=>by
  obtain ⟨ds,k,rfl,rfl,hk,hR⟩:=h4
  have r3:=Rep.mono g4.f _ (Rep.mono g3.f _ (Rep.mono g2.f _ r1))
  have g:=((g1.trans g2).trans g3).trans g4
  rw [aZ] at r3
  obtain ⟨a,xs,rfl,k1,k2⟩:=r3
  refine ⟨a,xs,k,rfl,g4.b.seq k1,rfl,hk,λp hp=>?_⟩
  exact q _ _ _ _ hR ⟨p,_,rfl,g.s.free hp,af,g4.b.free hp,by unfold stp; rw [k2.length]; exact zh k2 _⟩ (g.trans (bx.fJ g4.b hp)))
end
end EV
namespace EV
open PySem PySem.Spec PySem.Calls PyProof.Rows L2
structure OO (prog:Program) (w:World) (L:List Addr) (i:Addr) (N N':Heap->Prop) (x:Value):Prop where
 keep:∀ {b:Addr} {h h':Heap},b∈L->Uu b h h'->N h->N h'
 keep':∀ {b:Addr} {h h':Heap},b∈L->Uu b h h'->N' h->N' h'
 run:∀ {A:Around} {E Q:Value->Shared->Prop} {s:Shared},N s.heap->(∀ h',N' h'->Tt i s.heap h'->Q x { s with heap:=h' })->wpAny (model prog w) A (TN (.ref i)) Q E s
structure Qf (prog:Program) (w:World) (L:List Addr) (i:Addr) (N:Heap->Prop):Prop where
 keep:∀ {b:Addr} {h h':Heap},b∈L->Uu b h h'->N h->N h'
 run:∀ {A:Around} {E Q:Value->Shared->Prop} {s:Shared},A.handled=none->N s.heap->(∀ h' e,Uu i s.heap h'->(∃ o,h'.get? e=some o/\o.cls=.type "StopIteration")->E (.ref e) { s with heap:=h' })->wpAny (model prog w) A (TN (.ref i)) Q E s
structure Nv (z TI TO i1 i2:Addr):Prop where
 a:TI≠z
 b:TO≠z
 c:i1≠z
 d:i2≠z
 e:TI≠TO
 f:TI≠i1
 g:TI≠i2
 h:TO≠i1
 i:TO≠i2
 j:i1≠i2
section
variable {z TI TO i1 i2:Addr}
theorem CN {Q:Value->Shared->Prop} (D:Nv z TI TO i1 i2) (hz:IsZip s.heap z TI TO .none) (hTI:IsPair s.heap TI (.ref i1) (.ref i2)) (hTO:IsPair s.heap TO a b)
 (d1:OO prog w [z,TO,i2] i1 N1 N1' x) (d2:OO prog w [z,TO,i1] i2 N2 N2' y) (h1:N1 s.heap) (h2:N2 s.heap)
 (up1:∀ {h h':Heap},(∀ c o,c≠z->h.get? c=some o->h'.get? c=some o)->N1' h->N1' h') (up2:∀ {h h':Heap},(∀ c o,c≠z->h.get? c=some o->h'.get? c=some o)->N2' h->N2' h')
 (q:∀ h',IsZip h' z TI TO (rawInt s.heap.objs.size)->IsPair h' TO x y->N1' h'->N2' h'->IsPair h' s.heap.objs.size x y ->
   (∀ c o,c≠z->c≠TO->c≠i1->c≠i2->s.heap.get? c=some o->h'.get? c=some o)->Q (.ref s.heap.objs.size) { s with heap:=h' }) :
 wpAny (model prog w) A (Builtin.«zip.__next__» ⟨[.ref z],[]⟩) (λfin s'=>∃ v,fin=.done (.ret v)/\Q v s') E s:=by
 refine Rq (m:=field (.ref z) 2) (SG hz rfl (x:=.bool false) rfl ?_)
 refine Rq (m:=field (.ref z) 3) (SG hz rfl (x:=.ref TI) rfl (Rq (UJ hTI rfl ?_)))
 refine Rq (m:=VT (.ref z)) ?_
 unfold VT
 refine Rq (SG hz rfl (x:=.none) rfl (Rt ?_))
 simp only [if_true]
 refine Rq (SM (Rq (SG hz rfl (x:=.ref TO) rfl (Rq (S9 hz (by simp) λg1 (k1:IsZip g1 z TI TO .ellipsis) b1=>?_)))))
 have c1:=b1.extBut
 refine Rq ?_
 simp only [XO,List.zipIdx_nil,UI,List.forIn_nil]
 refine Rq (Rq (Wy ?_))
 refine Rq (m:=TN (.ref i1)) (d1.run (d1.keep (by simp) c1 h1) λg2 m1 b2=>Rt ?_)
 have c2:=b2.extBut
 have o2:IsPair g2 TO a b:=c2 _ _ D.h (c1 _ _ D.b hTO)
 refine Rq (UJ o2 rfl (Rq (Xe o2 λg3 (o3:IsPair g3 TO x b) b3=>Rq (UQ (Rt ?_)))))
 have c3:=b3.extBut
 refine Rq (Rq (Wy ?_))
 refine Rq (m:=TN (.ref i2)) (d2.run (d2.keep (by simp) c3 (d2.keep (by simp) c2 (d2.keep (by simp) c1 h2))) λg4 m2 b4=>Rt ?_)
 have c4:=b4.extBut
 have o4:IsPair g4 TO x b:=c4 _ _ D.i o3
 refine Rq (UJ o4 rfl (Rq (Xe o4 λg5 (o5:IsPair g5 TO x y) b5=>Rq (UQ (Rt (Rt ?_))))))
 have c5:=b5.extBut
 refine Rq (UJ o5 rfl (Rq (Ws ?_)))
 have sz:g5.objs.size=s.heap.objs.size:=by rw [b5.1,b4.1,b3.1,b2.1,b1.1]
 have k5:IsZip g5 z TI TO .ellipsis:=c5 _ _ D.b.symm (c4 _ _ D.d.symm (c3 _ _ D.b.symm (c2 _ _ D.c.symm k1)))
 have all:∀ c o,c≠z->c≠TO->c≠i1->c≠i2->s.heap.get? c=some o->g5.get? c=some o:=λc o n1 n2 n3 n4 e=>c5 _ _ n2 (c4 _ _ n4 (c3 _ _ n2 (c2 _ _ n3 (c1 _ _ n1 e))))
 have m1':N1' g5:=d1.keep' (by simp) c5 (d1.keep' (by simp) c4 (d1.keep' (by simp) c3 m1))
 have m2':N2' g5:=d2.keep' (by simp) c5 m2
 refine Rq (m:=X0 (.ref z) (.ref g5.objs.size)) ?_
 unfold X0
 have k6:IsZip (g5.push { cls:=.type "tuple",data:=.seq #[x,y] }) z TI TO .ellipsis:=Rx _ k5
 refine Rq (S9 k6 (by simp) λg7 (k7:IsZip g7 z TI TO (rawInt g5.objs.size)) b7=>S9 k7 (by simp) λg8 (k8:IsZip g8 z TI TO (rawInt g5.objs.size)) b8=>?_)
 have up:∀ c o,c≠z->g5.get? c=some o->g8.get? c=some o:=λc o n e=>b8.extBut _ _ n (b7.extBut _ _ n (Rx _ e))
 have nz:g5.objs.size≠z:=Uq (Ry k5)
 have p8:IsPair g8 g5.objs.size x y:=b8.extBut _ _ nz (b7.extBut _ _ nz (RK _ rfl))
 refine Rt ⟨_,rfl,?_⟩
 show Q (.ref g5.objs.size) _
 rw [sz] at k8 p8 |-
 exact q g8 k8 (up _ _ D.b o5) (up1 up m1') (up2 up m2') p8 λc o n1 n2 n3 n4 e=>up c o n1 (all c o n1 n2 n3 n4 e)
theorem Ge (hh:A.handled=none) (D:Nv z TI TO i1 i2) (hz:IsZip s.heap z TI TO .none) (hTI:IsPair s.heap TI (.ref i1) (.ref i2)) (hTO:IsPair s.heap TO a b)
 (d:Qf prog w [z] i1 N1\/∃ x N1',OO prog w [z] i1 N1 N1' x/\Qf prog w [z,TO,i1] i2 N2) (h1:N1 s.heap) (h2:N2 s.heap)
 (q:∀ h' e,(∀ c o,c≠z->c≠TO->c≠i1->c≠i2->s.heap.get? c=some o->h'.get? c=some o)->(∃ o,h'.get? e=some o/\o.cls=.type "StopIteration")->E (.ref e) { s with heap:=h' }) :
 wpAny (model prog w) A (Builtin.«zip.__next__» ⟨[.ref z],[]⟩) Q E s:=by
 refine Rq (m:=field (.ref z) 2) (SG hz rfl (x:=.bool false) rfl ?_)
 refine Rq (m:=field (.ref z) 3) (SG hz rfl (x:=.ref TI) rfl (Rq (UJ hTI rfl ?_)))
 refine Rq (m:=VT (.ref z)) ?_
 unfold VT
 refine Rq (SG hz rfl (x:=.none) rfl (Rt ?_))
 simp only [if_true]
 refine Rq (SM (Rq (SG hz rfl (x:=.ref TO) rfl (Rq (S9 hz (by simp) λg1 (k1:IsZip g1 z TI TO .ellipsis) b1=>?_)))))
 have c1:=b1.extBut
 refine Rq ?_
 simp only [XO,List.zipIdx_nil,UI,List.forIn_nil]
 refine Rq (Rq (Wy ?_))
 refine Rq (m:=TN (.ref i1)) ?_
 rcases d with d | ⟨x,N1',d1,d2⟩
 ·refine d.run hh (d.keep (by simp) c1 h1) λg2 e b2 ⟨oe,e1,e2⟩=>?_
  have k2:IsZip g2 z TI TO .ellipsis:=b2 _ _ D.c.symm k1
  have ne:e≠z:=λu=>by subst u; rw [k2] at e1; cases e1; simp at e2
  exact S9 k2 (by simp) λg3 _ b3=>q g3 e (λc o n1 _ n3 _ u=>b3.extBut _ _ n1 (b2 _ _ n3 (c1 _ _ n1 u))) ⟨oe,b3.extBut _ _ ne e1,e2⟩
 ·refine d1.run (d1.keep (by simp) c1 h1) λg2 m1 b2=>Rt ?_
  have c2:=b2.extBut
  have o2:IsPair g2 TO a b:=c2 _ _ D.h (c1 _ _ D.b hTO)
  refine Rq (UJ o2 rfl (Rq (Xe o2 λg3 (o3:IsPair g3 TO x b) b3=>Rq (UQ (Rt ?_)))))
  have c3:=b3.extBut
  refine Rq (Rq (Wy ?_))
  refine Rq (m:=TN (.ref i2)) (d2.run hh (d2.keep (by simp) c3 (d2.keep (by simp) c2 (d2.keep (by simp) c1 h2))) λg4 e b4 ⟨oe,e1,e2⟩=>?_)
  have k4:IsZip g4 z TI TO .ellipsis:=b4 _ _ D.d.symm (c3 _ _ D.b.symm (c2 _ _ D.c.symm k1))
  have ne:e≠z:=λu=>by subst u; rw [k4] at e1; cases e1; simp at e2
  exact S9 k4 (by simp) λg5 _ b5=>q g5 e (λc o n1 n2 n3 n4 u=>b5.extBut _ _ n1 (b4 _ _ n4 (c3 _ _ n2 (c2 _ _ n3 (c1 _ _ n1 u))))) ⟨oe,b5.extBut _ _ ne e1,e2⟩
end
structure ZS (K:Rr) where
 sq:Hp->Addr->List V->Prop
 it:Heap->Addr->Addr->Nat->Prop
 us:Heap->Addr->Array Value->Prop
 dm:List D->D
 cl:String
 rep:∀ {H:Hp} {ds:List D} {v:V},Rep K H (dm ds) v↔∃ a xs,v=.ref a/\sq H a xs/\ay K H ds xs
 same:∀ {H H':Hp} {a:Addr} {xs:List V},aN H H'->sq H a xs->sq H' a xs
 ini:∀ {h:Heap} {i l:Addr},h.get? i=some { cls:=.type cl,data:=.fields #[.ref l,.int 0 0] }->it h i l 0
 get:∀ {X:Cx} {aa:List (Addr×Obj)} {σ:L2.St} {H:Hp} {s:Shared} {l:Addr} {xs:List V},X.K=K->Inv X aa σ H s->sq H l xs->∃ its,Vals xs its/\us s.heap l its.toArray
 inj:∀ {X:Cx} {aa:List (Addr×Obj)} {σ:L2.St} {H:Hp} {s:Shared} {l:Addr} {xs ys:List V},X.K=K->Inv X aa σ H s->sq H l xs->sq H l ys->xs=ys
 ito:∀ {h:Heap} {i l:Addr} {k:Nat},it h i l k->∃ o,h.get? i=some o/\∀ v,o.data≠.cell v
 itk:∀ {h h':Heap} {i l:Addr} {k:Nat},(∀ o,h.get? i=some o->h'.get? i=some o)->it h i l k->it h' i l k
 usk:∀ {h h':Heap} {l:Addr} {a:Array Value},(∀ o,h.get? l=some o->h'.get? l=some o)->us h l a->us h' l a
 uso:∀ {h:Heap} {l:Addr} {a:Array Value},us h l a->∃ o,h.get? l=some o
 run:∀ {prog:Program} {w:World} {i l:Addr} {a:Array Value} {k:Nat} {x:Value} {A:Around} {E Q:Value->Shared->Prop} {s:Shared},l≠i->a[k]?=some x->it s.heap i l k->us s.heap l a->(∀ h',it h' i l (k+1)->Tt i s.heap h'->Q x { s with heap:=h' })->wpAny (model prog w) A (TN (.ref i)) Q E s
 dry:∀ {prog:Program} {w:World} {i l:Addr} {a:Array Value} {k:Nat} {A:Around} {E Q:Value->Shared->Prop} {s:Shared},A.handled=none->a[k]?=none->it s.heap i l k->us s.heap l a->(∀ h' e,Uu i s.heap h'->(∃ o,h'.get? e=some o/\o.cls=.type "StopIteration")->E (.ref e) { s with heap:=h' })->wpAny (model prog w) A (TN (.ref i)) Q E s
noncomputable def Qg (K:Rr):ZS K where
 sq:=fS K
 it:=λh i l k=>h.IsListIter i l k
 us:=λh l a=>h.IsList l a
 dm:=.lst
 cl:="list_iterator"
 rep:=aZ
 same:=λe q=>e.seq q
 ini:=λe=>⟨_,e,rfl,rfl⟩
 get:=λh I q=>by subst h; obtain ⟨its,rv,p,_⟩:=I.list q; exact ⟨its,rv,p.isList⟩
 inj:=λh I q q'=>by subst h; exact I.ku q q'
 ito:=λ⟨o,e,_,d⟩=>⟨o,e,λv q=>by rw [d] at q; cases q⟩
 itk:=λk t=>t.at λo e=>k o e
 usk:=λk ⟨o,e,r⟩=>⟨o,k o e,r⟩
 uso:=λ⟨o,e,_⟩=>⟨o,e⟩
 run:=λ_ hx t u q=>wpAny_nextOf_list_item t u hx q
 dry:=λhh hx t u q=>wpAny_nextOf_list_end hh t u hx q
section
variable {prog:Program} {w:World} {E:Value->Shared->Prop} {s:Shared} {K:Rr} {i l:Addr} {us:Array Value} {k:Nat} {L:List Addr}
def ZS.At (A:ZS K) (i l:Addr) (us:Array Value) (k:Nat) (h:Heap):Prop:=A.it h i l k/\A.us h l us
theorem ZS.At.keep {A:ZS K} (t:A.At i l us k h) (e:Uu b h h') (n1:i≠b) (n2:l≠b):A.At i l us k h':=⟨A.itk (λo=>e _ o n1) t.1,A.usk (λo=>e _ o n2) t.2⟩
theorem CO {A:ZS K} {x:Value} (hL:∀ b∈L,i≠b/\l≠b) (hil:l≠i) (hx:us[k]?=some x):OO prog w L i (A.At i l us k) (A.At i l us (k+1)) x where
 keep:=λhb e t=>t.keep e (hL _ hb).1 (hL _ hb).2
 keep':=λhb e t=>t.keep e (hL _ hb).1 (hL _ hb).2
 run:=λt q=>A.run hil hx t.1 t.2 λh' a b=>q h' ⟨a,A.usk (λo=>b.extBut _ o hil) t.2⟩ b
theorem HH {A:ZS K} (hL:∀ b∈L,i≠b/\l≠b) (hx:us[k]?=none):Qf prog w L i (A.At i l us k) where
 keep:=λhb e t=>t.keep e (hL _ hb).1 (hL _ hb).2
 run:=λhh t q=>A.dry hh hx t.1 t.2 q
theorem Rh {z TI TO i1 i2 l1 l2:Addr} (D:ZipApart z TI TO i1 i2 l1 l2):∀ b∈[z,TO,i2],i1≠b/\l1≠b:=by
 intro b hb
 simp only [RL,Te,or_false] at hb
 rcases hb with rfl | rfl | rfl
 ·exact ⟨D.i1z,D.l1z⟩
 ·exact ⟨D.TOi1.symm,D.l1TO⟩
 ·exact ⟨D.i12,D.l1i2⟩
theorem QH {z TI TO i1 i2 l1 l2:Addr} (D:ZipApart z TI TO i1 i2 l1 l2):∀ b∈[z,TO,i1],i2≠b/\l2≠b:=by
 intro b hb
 simp only [RL,Te,or_false] at hb
 rcases hb with rfl | rfl | rfl
 ·exact ⟨D.i2z,D.l2z⟩
 ·exact ⟨D.TOi2.symm,D.l2TO⟩
 ·exact ⟨D.i12.symm,D.l2i1⟩
theorem QI {z TI TO i1 i2 l1 l2:Addr} (D:ZipApart z TI TO i1 i2 l1 l2):∀ b∈[z],i1≠b/\l1≠b:=by
 intro b hb
 cases RN.mp hb
 exact ⟨D.i1z,D.l1z⟩
variable {B C:ZS K}
theorem zj {z TI TO i1 i2 l1 l2:Addr} (D:ZipApart z TI TO i1 i2 l1 l2)
 (hz:IsZip s.heap z TI TO .none) (hTI:IsPair s.heap TI (.ref i1) (.ref i2)) (hTO:IsPair s.heap TO a b) (h1:B.At i1 l1 xs k s.heap) (h2:C.At i2 l2 ys k s.heap) (hx:xs[k]?=some x) (hy:ys[k]?=some y)
 (q:∀ h',IsZip h' z TI TO (rawInt s.heap.objs.size)->IsPair h' TO x y->B.At i1 l1 xs (k+1) h'->C.At i2 l2 ys (k+1) h'->IsPair h' s.heap.objs.size x y ->
   (∀ c o,c≠z->c≠TO->c≠i1->c≠i2->s.heap.get? c=some o->h'.get? c=some o)->Q (some (.ref s.heap.objs.size)) { s with heap:=h' }):wpAny (model prog w) A (pyNext (.ref z)) Q E s:=by
 have hT:s.TypeIs (.ref z) "zip":=⟨_,hz,rfl⟩
 have up:∀ {B:ZS K} {i l:Addr} {us:Array Value} {k:Nat},i≠z->l≠z->∀ {h h':Heap},(∀ c o,c≠z->h.get? c=some o->h'.get? c=some o)->B.At i l us k h->B.At i l us k h':=λ{B} {_} {_} {_} {_} n1 n2 h h' e t=>⟨B.itk (λo=>e _ o n1) t.1,B.usk (λo=>e _ o n2) t.2⟩
 unfold pyNext
 exact Rq (Vg (Ug (name:=Rp "__next__") hT Wr
  (TV Wr hT F.entry_zip_next
    (CN ⟨D.TIz,D.TOz,D.i1z,D.i2z,D.TITO,D.TIi1,D.TIi2,D.TOi1,D.TOi2,D.i12⟩ hz hTI hTO
      (CO (Rh D) D.l1i1 hx) (CO (QH D) D.l2i2 hy) h1 h2
      (up D.i1z D.l1z) (up D.i2z D.l2z) λh' a1 a2 a3 a4 a5 a6=>Rt (q h' a1 a2 a3 a4 a5 a6)) (F.args_zip_next_1 _))))
theorem zk {z TI TO i1 i2 l1 l2:Addr} (hh:A.handled=none) (D:ZipApart z TI TO i1 i2 l1 l2)
 (hz:IsZip s.heap z TI TO .none) (hTI:IsPair s.heap TI (.ref i1) (.ref i2)) (hTO:IsPair s.heap TO a b) (h1:B.At i1 l1 xs k s.heap) (h2:C.At i2 l2 ys k s.heap) (hend:xs.size<=k\/ys.size<=k)
 (q:∀ h',(∀ c o,c≠z->c≠TO->c≠i1->c≠i2->s.heap.get? c=some o->h'.get? c=some o)->Q none { s with heap:=h' }):wpAny (model prog w) A (pyNext (.ref z)) Q E s:=by
 have hT:s.TypeIs (.ref z) "zip":=⟨_,hz,rfl⟩
 unfold pyNext
 refine Rq (Vg (Ug (name:=Rp "__next__") hT Wr
  (TV Wr hT F.entry_zip_next (Ge (N1:=B.At i1 l1 xs k) (N2:=C.At i2 l2 ys k) hh ⟨D.TIz,D.TOz,D.i1z,D.i2z,D.TITO,D.TIi1,D.TIi2,D.TOi1,D.TOi2,D.i12⟩ hz hTI hTO ?_ h1 h2 λh' e hk he=>?_) (F.args_zip_next_1 _))))
 ·by_cases z:k<xs.size
  ·exact .inr ⟨_,_,CO (QI D) D.l1i1 (RZ z),HH (QH D) (Xa (by lia))⟩
  ·exact .inl (HH (QI D) (Xa (by lia)))
 ·obtain ⟨o,ho,hc⟩:=he
  refine Rq (Wf (T:="StopIteration") (b:=true) ⟨o,ho,hc⟩ isSubtype_stop ?_)
  exact Rt (q _ hk)
end
noncomputable def Kw {K:Rr} (B C:ZS K) (l1 l2:Addr):It :=
 ⟨λi H=>∃ xs ys x y,B.sq H l1 xs/\C.sq H l2 ys/\xs[i]?=some x/\ys[i]?=some y,
  λi H v H'=>∃ p x y,v=.ref p/\H p=none/\H'=upd H p (.tup [x,y])/\(∀ xs,B.sq H l1 xs->xs[i]?=some x)/\∀ ys,C.sq H l2 ys->ys[i]?=some y,
  λi H=>∃ xs ys,B.sq H l1 xs/\C.sq H l2 ys/\(xs.length<=i\/ys.length<=i)⟩
theorem zo {P:Program} {w:World} {K:Rr} {B C:ZS K} {elts:List Expr} {k:Nat} {pos:Pos} {z TI TO i1 i2 l1 l2:Addr} (D:ZipApart z TI TO i1 i2 l1 l2) :
 Turn P w K (.Tuple elts k pos) (Kw B C l1 l2) [z,TI,TO,i1,i2] z (λi h=>IsZip h z TI TO .none/\IsPair h TI (.ref i1) (.ref i2)/\(∃ a b,IsPair h TO a b)/\B.it h i1 l1 i/\C.it h i2 l2 i) where
 mem:=by simp
 obj:=λi h ⟨hz,hTI,⟨a,b,hTO⟩,h1,h2⟩ b hb=>by
  simp only [RL,Te,or_false] at hb
  rcases hb with rfl | rfl | rfl | rfl | rfl
  ·exact ⟨_,hz,λv q=>by have q':VR _=UU v:=q; cases q'⟩
  ·exact ⟨_,hTI,λv q=>by have q':Data.seq _ _=UU v:=q; cases q'⟩
  ·exact ⟨_,hTO,λv q=>by have q':Data.seq _ _=UU v:=q; cases q'⟩
  ·exact B.ito h1
  ·exact C.ito h2
 keep:=λi h h' ⟨hz,hTI,⟨a,b,hTO⟩,h1,h2⟩ hk=>⟨hk z (by simp) _ hz,hk TI (by simp) _ hTI,⟨a,b,hk TO (by simp) _ hTO⟩,B.itk (hk i1 (by simp)) h1,C.itk (hk i2 (by simp)) h2⟩
 item:=by
  intro X hP hw hK hc i aa s σ H E I hf st hg
  obtain ⟨hz,hTI,⟨a,b,hTO⟩,h1,h2⟩:=st
  obtain ⟨xs,ys,x,y,q1,q2,hx,hy⟩:=hg
  obtain ⟨OE,OX,p1⟩:=B.get hK I q1
  obtain ⟨its2,OY,p2⟩:=C.get hK I q2
  subst hP hw
  obtain ⟨u1,hu1,ru1⟩:=OX.get hx
  obtain ⟨u2,hu2,ru2⟩:=OY.get hy
  refine zj D hz hTI hTO ⟨h1,p1⟩ ⟨h2,p2⟩ (x:=u1) (y:=u2) (by simpa using hu1) (by simpa using hu2) λh' a1 a2 a3 a4 a5 hk=>?_
  have Hp:H s.heap.objs.size=none:=I.hok.fresh (Rv _)
  have IA:Inv X aa σ (upd H s.heap.objs.size (.tup [x,y])) { s with heap:=s.heap.push { cls:=.type "tuple",data:=.seq #[u1,u2] },toks:=s.toks } :=
   I.laid (a:=s.heap.objs.size) (o:=.tup [x,y]) (λ_ _ q=>Rx _ q) (Rv _) ⟨by show 2<=sizeLine; decide,[u1,u2],.cons ru1 (.cons ru2 .nil),_,RK _ rfl,rfl,0,rfl⟩
  have lt:∀ b∈[z,TI,TO,i1,i2],b<s.heap.objs.size:=λb hb=>by
   obtain ⟨o1,e1,_⟩:=B.ito h1
   obtain ⟨o2,e2,_⟩:=C.ito h2
   simp only [RL,Te,or_false] at hb
   rcases hb with rfl | rfl | rfl | rfl | rfl
   ·exact Ry hz
   ·exact Ry hTI
   ·exact Ry hTO
   ·exact Ry e1
   ·exact Ry e2
  have gf:∀ b∈[z,TI,TO,i1,i2],eZ X aa (upd H s.heap.objs.size (.tup [x,y])) b:=λb hb=>⟨by rw [av (RW (lt b hb))]; exact (hf b hb).1,(hf b hb).2⟩
  have I1:Inv X aa σ (upd H s.heap.objs.size (.tup [x,y])) { s with heap:=h',toks:=s.toks }:=gG (s:={ s with heap:=s.heap.push { cls:=.type "tuple",data:=.seq #[u1,u2] },toks:=s.toks }) (t':=s.toks) (h':=h') (L:=[z,TI,TO,i1,i2]) IA (λb o hb q=>by
   simp only [RL,Te,or_false,not_or] at hb
   by_cases e:b=s.heap.objs.size
   ·subst e
    rw [RK _ rfl] at q; cases q; exact a5
   ·refine hk b o hb.1 hb.2.2.1 hb.2.2.2.1 hb.2.2.2.2 ?_
    rw [XJ _ _ _ e] at q; exact q) gf
  have b1:IsPair h' TI (.ref i1) (.ref i2):=hk _ _ D.TIz D.TITO D.TIi1 D.TIi2 hTI
  refine ⟨_,rfl,wpAny_letOwnedTupleGo_zip (s:={ s with heap:=h' }) a1 λh2' hz' hs'=>?_⟩
  refine ⟨.ref s.heap.objs.size,_,gG (s:={ s with heap:=h',toks:=s.toks }) (t':=s.toks) (h':=h2') (L:=[z,TI,TO,i1,i2]) I1 (λb o hb q=>hs'.extBut b o (λe=>hb (by simp [e])) q) gf,rfl,
   ⟨_,x,y,rfl,Hp,rfl,λxs' h=>by rw [B.inj hK I h q1]; exact hx,λys' h=>by rw [C.inj hK I h q2]; exact hy⟩,
   ⟨hz',hs'.extBut _ _ D.TIz b1,⟨_,_,hs'.extBut _ _ D.TOz a2⟩,B.itk (λo=>hs'.extBut _ o D.i1z) a3.1,C.itk (λo=>hs'.extBut _ o D.i2z) a4.1⟩,λb hb=>(gf b hb).1⟩
 done:=by
  intro X hP hw hK hc i aa s σ H E I hf st hg
  obtain ⟨hz,hTI,⟨a,b,hTO⟩,h1,h2⟩:=st
  obtain ⟨xs,ys,q1,q2,hend⟩:=hg
  obtain ⟨OE,OX,p1⟩:=B.get hK I q1
  obtain ⟨its2,OY,p2⟩:=C.get hK I q2
  subst hP hw
  have l1:=OX.length
  have l2:=OY.length
  refine zk (I.ok.hd hc) D hz hTI hTO ⟨h1,p1⟩ ⟨h2,p2⟩ (by simp; lia) λh' hk=>⟨rfl,gG (t':=s.toks) (L:=[z,TI,TO,i1,i2]) I (λb o hb q=>?_) hf⟩
  simp only [RL,Te,or_false,not_or] at hb
  exact hk b o hb.1 hb.2.2.1 hb.2.2.2.1 hb.2.2.2.2 q
 self:=λA i s Q E st h=>wpAny_pyIter_zip st.1 h
theorem zp {K:Rr} {B C:ZS K} {Hf:Hp} {ds es:List D} {xs ys:List V} {l1 l2:Addr} (h1:B.sq Hf l1 xs) (r1:ay K Hf ds xs) (h2:C.sq Hf l2 ys) (r2:ay K Hf es ys):jl K (Kw B C l1 l2) (Ce ds es) Hf where
 go:=λi d H aQ s1 s2 e=>by
  unfold Ce at e
  rw [List.getElem?_zipWith_eq_some] at e
  obtain ⟨x,y,ex,ey,rfl⟩:=e
  obtain ⟨v1,f1,g1⟩:=r1.get ex
  obtain ⟨v2,f2,g2⟩:=r2.get ey
  have q1:=B.same (s1.trans s2) h1
  have q2:=C.same (s1.trans s2) h2
  refine ⟨⟨xs,ys,v1,v2,q1,q2,f1,f2⟩,λv H' ⟨p,x',y',e1,e2,e3,e4,e5⟩=>?_⟩
  have z1:=e4 xs q1
  have z2:=e5 ys q2
  rw [f1] at z1; cases z1
  rw [f2] at z2; cases z2
  subst e1 e3
  have g:=bx.new s2 e2 (o:=.tup [v1,v2])
  exact ⟨upd aQ p (.tup [v1,v2]),g,aM.mpr ⟨p,_,rfl,.inl (.inl af),.cons (Rep.mono (s1.trans g.f) _ g1) (.cons (Rep.mono (s1.trans g.f) _ g2) (aB.mpr rfl))⟩⟩
 stop:=λi H aQ s1 s2 e=>⟨xs,ys,B.same (s1.trans s2) h1,C.same (s1.trans s2) h2,by
  rw [<- r1.length,<- r2.length]
  unfold Ce at e
  rw [List.length_zipWith] at e
  lia⟩
noncomputable abbrev QJ (c:String) (h:Heap) (l:Addr):Heap:=h.push { cls:=.type c,data:=.fields #[.ref l,.int 0 0] }
noncomputable abbrev QK (h:Heap) (a b:Value):Heap:=h.push { cls:=.type "tuple",data:=.seq #[a,b] }
section
variable (c d:String)
noncomputable abbrev OP (h:Heap) (l1 _l2:Addr):Heap:=QJ c h l1
noncomputable abbrev Ny (h:Heap) (l1 l2:Addr):Heap:=QJ d (OP c h l1 l2) l2
noncomputable abbrev OQ (h:Heap) (l1 l2:Addr):Heap:=QK (Ny c d h l1 l2) (.ref h.objs.size) (.ref (OP c h l1 l2).objs.size)
noncomputable abbrev OR (h:Heap) (l1 l2:Addr):Heap:=QK (OQ c d h l1 l2) .none .none
noncomputable abbrev HJ (h:Heap) (l1 l2:Addr):Heap:=(OR c d h l1 l2).push { cls:=.type "zip",data:=.fields #[.none,.bool false,.bool false,.ref (Ny c d h l1 l2).objs.size,.ref (OQ c d h l1 l2).objs.size] }
end
abbrev Gf {K:Rr} (B C:ZS K):Prop:=∀ (l1 l2:Addr) (xs ys:Array Value),Meets (Builtin.«zip.__new__» ⟨[.type "zip",.ref l1,.ref l2],[]⟩) (λ_ R s=>B.us s.heap l1 xs/\C.us s.heap l2 ys/\R (.ok (.ret (.ref (OR B.cl C.cl s.heap l1 l2).objs.size))) { s with heap:=HJ B.cl C.cl s.heap l1 l2 })
theorem CP (K):Gf (Qg K) (Qg K):=λl1 l2 xs ys =>
 .of_wp λprog w A R s h=>by
  obtain ⟨hp,g,d,tk,os⟩:=s
  obtain ⟨e1,e2,h⟩:=h
  have hsub:=PySem.sub_zip
  have t1:Heap.IsList (Shared.heap ⟨hp,g,d,tk,os⟩) l1 xs:=e1
  have t2:Heap.IsList (Shared.heap ⟨hp.push { cls:=.type "list_iterator",data:=.fields #[.ref l1,.int 0 0] },g,d,tk,os⟩) l2 ys:=(Qg K).usk (λo e=>Rx _ e) e2
  wp_walk using Vx t1,Vx t2
  exact ⟨_,rfl,h⟩
section
variable {K:Rr}
theorem zq (M:Gf B C) (e1:B.us s.heap l1 xs) (e2:C.us s.heap l2 ys)
 (h:∀ h',IsZip h' (s.heap.objs.size+4) (s.heap.objs.size+2) (s.heap.objs.size+3) .none->IsPair h' (s.heap.objs.size+2) (.ref s.heap.objs.size) (.ref (s.heap.objs.size+1)) ->
   IsPair h' (s.heap.objs.size+3) .none .none->B.it h' s.heap.objs.size l1 0->C.it h' (s.heap.objs.size+1) l2 0 ->
   (∀ c o,s.heap.get? c=some o->h'.get? c=some o)->Q (.ref (s.heap.objs.size+4)) { s with heap:=h' }):wpAny (model prog w) A (call (.type "zip") [.ref l1,.ref l2]) Q E s:=by
 refine callType_new F.called_zip (by decide) (F.typeCall_zip_2 _ _) (F.newCall_zip_2 _ _) (λobj=>F.args_object_init_3 obj _ _) F.entry_zip_new (M l1 l2 xs ys) ⟨e1,e2,?_⟩
 have z1:(OP B.cl s.heap l1 l2).objs.size=s.heap.objs.size+1:=Tu ..
 have z2:(Ny B.cl C.cl s.heap l1 l2).objs.size=s.heap.objs.size+2:=by rw [Tu,z1]
 have z3:(OQ B.cl C.cl s.heap l1 l2).objs.size=s.heap.objs.size+3:=by rw [Tu,z2]
 have z4:(OR B.cl C.cl s.heap l1 l2).objs.size=s.heap.objs.size+4:=by rw [Tu,z3]
 have g5:(HJ B.cl C.cl s.heap l1 l2).get? (OR B.cl C.cl s.heap l1 l2).objs.size=some _:=RK _ rfl
 have g4:(HJ B.cl C.cl s.heap l1 l2).get? (OQ B.cl C.cl s.heap l1 l2).objs.size=some _:=Rx _ (RK _ rfl)
 have g3:(HJ B.cl C.cl s.heap l1 l2).get? (Ny B.cl C.cl s.heap l1 l2).objs.size=some _:=Rx _ (Rx _ (RK _ rfl))
 have g2:(HJ B.cl C.cl s.heap l1 l2).get? (OP B.cl s.heap l1 l2).objs.size=some _:=Rx _ (Rx _ (Rx _ (RK _ rfl)))
 have g1:(HJ B.cl C.cl s.heap l1 l2).get? s.heap.objs.size=some _:=Rx _ (Rx _ (Rx _ (Rx _ (RK _ rfl))))
 have q:=h (HJ B.cl C.cl s.heap l1 l2)
 rw [<- z2,<- z3,<- z4] at q
 have pr:IsPair (HJ B.cl C.cl s.heap l1 l2) (Ny B.cl C.cl s.heap l1 l2).objs.size (.ref s.heap.objs.size) (.ref (s.heap.objs.size+1)):=by rw [<- z1]; exact g3
 refine ⟨⟨_,g5,rfl⟩,q g5 pr g4 (B.ini g1) (C.ini (by rw [<- z1]; exact g2)) λc o x=>Rx _ (Rx _ (Rx _ (Rx _ (Rx _ x))))⟩
end
theorem apart_new {n l1 l2:Nat} (h1:l1<n) (h2:l2<n):ZipApart (n+4) (n+2) (n+3) n (n+1) l1 l2:=by
 constructor <;> first | exact RW (by lia) | exact Uq (by lia)
noncomputable def Nz {K:Rr} (B C:ZS K) (ta:TA):TI:=λσ H R=>ta σ H λvs H1=>∃ l1 l2 xs ys,vs=[.ref l1,.ref l2]/\B.sq H1 l1 xs/\C.sq H1 l2 ys/\R (Kw B C l1 l2) H1
theorem Gg {B C:ZS X.K} (M:Gf B C) (hg:Gl X "zip") (hm:X.mg "zip"=none) (ha:PA X [a,b] ta) (hs:starEach [a,b] X.env=[(false,eval a X.env),(false,eval b X.env)]) (hs2:starEach [b] X.env=[(false,eval b X.env)]) :
 PI X (.Tuple elts kt tpos) (.Call (.Name "zip" p) [a,b] [] pos) (Nz B C ta):=by
 intro aa s σ H R I h
 refine Call_ (dZ I hg hm EV.boot_zip (UZ (bB (ha pos aa s σ H _ I h) λus s1 ⟨vs,H1,I1,r1,q1⟩=>?_) (by rw [hs,hs2]) (by rw [hs2]; rfl)))
 obtain ⟨l1,l2,xs,ys,e,q1,q2,q⟩:=q1
 subst e
 cases r1 with
 | cons r rr =>
  cases rr with
  | cons r' rr =>
   cases rr
   cases r
   cases r'
   obtain ⟨OE,OX,p1⟩:=B.get rfl I1 q1
   obtain ⟨its2,OY,p2⟩:=C.get rfl I1 q2
   have b1:l1<s1.heap.objs.size:=by obtain ⟨_,e⟩:=B.uso p1; exact Ry e
   have b2:l2<s1.heap.objs.size:=by obtain ⟨_,e⟩:=C.uso p2; exact Ry e
   refine zq M p1 p2 λh' a1 a2 a3 a4 a5 hk=>wpAny_pyIter_zip a1 ?_
   refine ⟨s1.heap.objs.size+4,[s1.heap.objs.size+4,s1.heap.objs.size+2,s1.heap.objs.size+3,s1.heap.objs.size,s1.heap.objs.size+1],_,_,H1,rfl,I1.kept (t':=s1.toks) hk,zo (apart_new b1 b2),⟨a1,a2,⟨_,_,a3⟩,a4,a5⟩,λb hb=>?_,q⟩
   have hb':s1.heap.objs.size<=b:=by
    simp only [RL,Te,or_false] at hb
    rcases hb with rfl | rfl | rfl | rfl | rfl
    ·exact T8 _ _
    ·exact T8 _ _
    ·exact T8 _ _
    ·exact Rv _
    ·exact T8 _ _
   exact I1.mE hb' (I1.hok.fresh hb')
section
variable {K:Rr} {c:Ctx P w K mg base k N sc bk}
theorem Kx {B C:ZS c.X.K} (M:Gf B C) (hm:mg "zip"=none) (h:aG c a ρ λx=>aG c b ρ λy=>∃ ds es,x=B.dm ds/\y=C.dm es/\R (Ce ds es)) (hg:sc.names.lookup (Rp "zip")=some .globalImplicit:=by walk_at "u")
 (hs:∀ env,starEach [a,b] env=(false,eval a env)::starEach [b] env:=by intro _; walk_at "u") (hs2:∀ env,starEach [b] env=(false,eval b env)::starEach [] env:=by intro _; walk_at "u"):zV c (.Tuple elts kt tpos) (.Call (.Name "zip" p) [a,b] [] pos) ρ R:=λσ H Hf Q S q aa s I =>
 Gg M (by unfold Gl Sw; rw [c.esc]; exact hg) (by rw [c.emg]; exact hm) (bQ cQ (bQ cQ d8 (hs2 _)) (hs _)) (by rw [hs,hs2]; rfl) (by rw [hs2]; rfl) aa s σ H Q I
  (h σ H Hf _ S λx v1 H1 aQ h1 r1 g1=>h1 σ H1 aQ _ (S.cG g1) λy v2 H2 cL ⟨ds,es,e1,e2,hR⟩ r2 g2=>by
    subst e1 e2
    rw [B.rep] at r1
    rw [C.rep] at r2
    obtain ⟨l1,xs,rfl,s1,t1⟩:=r1
    obtain ⟨l2,ys,rfl,s2,t2⟩:=r2
    have s1':=B.same g2.f s1
    exact ⟨l1,l2,xs,ys,rfl,B.same g2.b s1',C.same g2.b s2,q _ _ H2 cL hR (g1.trans g2) (zp s1' (t1.mono g2.f) s2 t2)⟩)
theorem HK (hm:mg "zip"=none) (h:aG c a ρ λx=>aG c b ρ λy=>∃ ds es,x=.lst ds/\y=.lst es/\R (Ce ds es)) (hg:sc.names.lookup (Rp "zip")=some .globalImplicit:=by walk_at "u")
 (hs:∀ env,starEach [a,b] env=(false,eval a env)::starEach [b] env:=by intro _; walk_at "u") (hs2:∀ env,starEach [b] env=(false,eval b env)::starEach [] env:=by intro _; walk_at "u"):zV c (.Tuple elts kt tpos) (.Call (.Name "zip" p) [a,b] [] pos) ρ R:=Kx (CP _) hm h hg hs hs2
end
end EV
namespace EV
open PySem PySem.Spec PyProof.Rows L2
end EV
namespace EV
open PySem PySem.Spec PySem.Calls PyProof.Rows L2
section
variable {K:Rr}
end
section
variable {K:Rr}
end
section
variable {K:Rr}
end
section
variable {K:Rr}
theorem Gh {st:List Stmt} (i) (hi:At ρ i r) (hr:r.pB=some d0) (hs:SSet ρ i (.va d0) ρ') (h:aE c st ρ' nx p):aE c st ρ nx p:=λσ H Hf D S o=>by
 obtain ⟨q,u,hq,qx,hd,S1⟩:=S.wA hi.get hr
 intro aa s I
 obtain ⟨ob,I1,nf⟩:=wz I hq hd
 have S2:=S1 ob
 rw [<- hs.eq] at S2
 exact h σ _ _ D S2 o aa s I1
theorem Ky (h:aG c e ρ (I1 λi=>T (i != 0))) (he:∀ (env:Env) whole,isTrue e env whole=(do let v <- whole; standAt e.pos; holding [v] (truthy v)):=by intro _ _; walk_at "u"):je c e ρ T:=λσ H Hf Q S q =>
 kN (An cQ (he _)) (h σ H Hf _ S λx v H' aq ⟨k,e,h1⟩ r g=>by
  subst e; rw [az] at r
  subst r
  exact ⟨_,rfl,q _ H' aq h1 g⟩)
end
section
variable {K:Rr} {c:EV.Ctx P w K mg base k N sc bk}
theorem Kz (hN:At N i x) (hi:At ρ i (.ow ds)) (h:aG c b ρ (I1 λn=>Sd ((0<=n/\n<2 ^ 63)/\ds.length * n.toNat<=sizeLine) (R (.ow (RE n.toNat ds).flatten))))
 (hd:(x == ("__debug__":Str))=false:=by decide) (hcd:(x == ("__classdict__":Str))=false:=by decide):dD c (.BinOp (.Name x p2) .Mult b pos) ρ R:=λσ H Hf Q S q=>by
 obtain ⟨v,e,rs⟩:=S.at_ i (.ow ds) hi.get (by rintro ⟨⟩)
 obtain ⟨l,xs,rfl,fl,k1,k2,k3⟩:=rs
 refine bK (Aj AB (oA (X:=c.X) (i:=i) (by rw [c.eN]; exact hN.get) (by rw [c.esc]; rcases c.vis x hN.mem with h | h; exact .inl h; exact .inr (.inl h)) hd hcd) cQ) ⟨_,e,h σ H Hf _ S λdn u H2 cL ⟨n,en,⟨⟨n0,n1⟩,hz⟩,hR⟩ rn g2=>?_⟩
 subst en
 rw [az] at rn; subst rn
 have k1':=g2.s _ _ k1
 refine ⟨l,n,xs,rfl,rfl,k1',by lia,n1,by rw [<- k3.length]; exact hz,λp hp=>?_⟩
 have g3:=bx.fJ (o:=.lst (RE n.toNat xs).flatten) g2.b hp
 exact q _ _ _ _ hR ⟨p,_,rfl,g2.s.free hp,af,g2.b.free hp,(k3.mono g2.f).many _⟩ (g2.trans g3)
end
end EV
namespace EV
open PySem PySem.Spec PyProof.Rows L2
mutual
def D.tO:D->Prop
 | .lst ds=>(∀ n es,ds≠.int n::es)/\D.CQ ds
 | .fdK _ _=>False
 | .fdT _ _=>False
 | .tup ds=>D.CQ ds
 | .adr _=>False
 | _=>True
def D.CQ:List D->Prop
 | []=>True
 | d::ds=>d.tO/\D.CQ ds
end
theorem sG {α:Type} {f:α->D} {l:List α} (h:∀ x∈l,(f x).tO):D.CQ (l.map f):=by
 induction l with
 | nil=>trivial
 | cons a l ih=>exact ⟨h a RD,ih λx hx=>h x (RH _ hx)⟩
mutual
theorem Gi {K:Rr} {Hf:Hp} {p:Addr} {n:Int} {zs:List V} (hp:Hf p=some (.lst (.int n::zs))):∀ (d:D) {v:V},d.tO->Rep K Hf d v->Rep K (del Hf p) d v
 | .non,_,_,h=>by simpa [Rep] using h
 | .bl _,_,_,h=>by simpa [Rep] using h
 | .int _,_,_,h=>by simpa [Rep] using h
 | .str _,_,_,h=>by simpa [Rep] using h
 | .adr _,_,f,_=>by simp [D.tO] at f
 | .tup ds,v,f,h=>by
  simp only [Rep] at h |-
  obtain ⟨a,xs,e,h1,h2⟩:=h
  exact ⟨a,xs,e,nG hp trivial h1,nlis_del hp ds (by simpa [D.tO] using f) h2⟩
 | .lst ds,v,f,h=>by
  simp only [D.tO] at f
  have h0:=h
  simp only [Rep] at h |-
  obtain ⟨a,xs,e,h1,h2⟩:=h
  refine ⟨a,xs,e,?_,nlis_del hp ds f.2 h2⟩
  rcases h1 with (h1 | ⟨o',h1⟩) | h1
  ·refine .inl (.inl ?_)
   by_cases z:a=p
   ·subst z
    rw [hp] at h1
    cases h1
    cases ds with
    | nil=>simp [ay] at h2
    | cons d ds =>
     simp only [ay] at h2
     obtain ⟨x,r,e2,k1,k2⟩:=h2
     injection e2 with e2 e3
     subst e2
     cases d with
     | int i=>exact absurd rfl (f.1 i ds)
     | _=>simp [Rep] at k1
   ·rw [bU z]; exact h1
  ·exact .inl (.inr ⟨o',by rw [bU (by rintro rfl; rw [hp] at h1; cases h1)]; exact h1⟩)
  ·exact .inr h1
 | .fdK _ _,_,f,_=>by simp [D.tO] at f
 | .fdT _ _,_,f,_=>by simp [D.tO] at f
 | .exc C,_,_,h=>by
  simp only [Rep] at h |-
  obtain ⟨a,e,h⟩:=h
  exact ⟨a,e,by rw [bU (by rintro rfl; rw [hp] at h; cases h)]; exact h⟩
theorem nlis_del {K:Rr} {Hf:Hp} {p:Addr} {n:Int} {zs:List V} (hp:Hf p=some (.lst (.int n::zs))):∀ (ds:List D) {xs:List V},D.CQ ds->ay K Hf ds xs->ay K (del Hf p) ds xs
 | [],_,_,h=>by simpa [ay] using h
 | d::ds,xs,f,h=>by
  simp only [ay] at h |-
  simp only [D.CQ] at f
  obtain ⟨x,r,e,h1,h2⟩:=h
  exact ⟨x,r,e,Gi hp d f.1 h1,nlis_del hp ds f.2 h2⟩
end
theorem eT.Gj {K:Rr} (S:eT K H₀ eY σ H Hf ρ) (h:ρ[i]?=some (.ow ds)) :
 ∃ q xs,H q=some (.lst xs)/\Hf q=none/\ay K Hf ds xs/\eT K H₀ eY σ H (L2.upd Hf q (.lst xs)) (ρ.set i (.va (.lst ds))):=by
 obtain ⟨q,ev,rq⟩:=S.own h rfl
 obtain ⟨_,xs,e0,fq,hq,qx,h3⟩:=rq
 cases e0
 have hi:i<ρ.length:=(RJ.mp h).1
 have sf:aN Hf (L2.upd Hf q (.lst xs)):=λb u e=>by rw [L2.av (aF e qx)]; exact e
 have sb:aN (L2.upd Hf q (.lst xs)) H:=λb u e=>by
  by_cases z:b=q
  ·subst z; rw [L2.af] at e; rw [hq]; exact e
  ·rw [L2.av z] at e; exact S.sb b u e
 refine ⟨q,xs,hq,qx,h3,⟨S.bas.s,S.bas.f.trans sf,sb,λb h1 h2 h3=>?_⟩,by simp [S.len],λj r' hj hu=>?_,λj j' r1 r2 q' hne h1 h2 o1 o2=>?_⟩
 ·have e:=S.bas.n b h1 h2 h3
  by_cases z:b=q
  ·subst z; exact absurd fq h2
  ·rw [L2.av z]; exact e
 ·by_cases z:j=i
  ·subst z
   rw [SQ hi] at hj
   cases hj
   exact ⟨_,ev,aZ.mpr ⟨q,xs,rfl,.inl (.inl af),h3.mono sf⟩⟩
  ·rw [SS (RS z)] at hj
   obtain ⟨v,e1,e2⟩:=S.at_ j r' hj hu
   refine ⟨v,e1,?_⟩
   have key:r'.owned=true->v≠.ref q:=λho z=>by
    subst z
    exact S.sep i j _ _ q (RS ‹_›) h hj rfl ho ev e1
   exact br.mv (B:=λz=>z=q) sf (λz u hz e1 _ e3=>⟨e1,by rw [L2.av hz]; exact e3⟩) (by rintro _ z rfl ⟨ys,e9⟩; rw [hq] at e9; cases e9) (λho z e=>by rintro rfl; exact key ho e) e2
 ·have out:∀ {j:Nat} {r:Sl},(ρ.set i (.va (.lst ds)))[j]?=some r->r.owned=true->ρ[j]?=some r:=λ{j r} hj ho=>by
   by_cases z:j=i
   ·subst z; rw [SQ hi] at hj; cases hj; cases ho
   ·rw [SS (RS z)] at hj; exact hj
  exact S.sep j j' r1 r2 q' hne (out h1 o1) (out h2 o2) o1 o2
section
variable {K:Rr}
theorem KA (i) (hi:At ρ i (.ow (.int n::es))) (hs:SSet ρ i (.va (.lst (.int n::es))) ρ') (h:aG c e ρ' λd=>Sd d.tO (R d)):aG c e ρ R:=λσ H Hf Q S q=>by
 obtain ⟨a,xs,ha,vC,hr,S1⟩:=S.Gj hi.get
 rw [<- hs.eq] at S1
 have hr':=hr
 simp only [ay] at hr'
 obtain ⟨x,r,e0,k1,_⟩:=hr'
 rw [az] at k1
 subst k1
 subst e0
 exact h σ H _ Q S1 λd v H' aq ⟨fl,rd⟩ rv g=>q d v H' _ rd (Gi (g.f a _ af) d fl rv) (kX S.sb ha vC g)
end
end EV
namespace My
open PySem PySem.Spec PyProof.Rows L2 EV
noncomputable abbrev top (i:Nat):Stmt:=PySem.Challenge.pw_everydraw_k16_whole_rules_at_places.main.body.getD i (.Pass ⟨0,0,0,0⟩)
theorem iZ:FS ["one","other","rest"] ["one","other"] (top 4):=by decide +kernel
theorem lO:FS ["top","bottom","common"] ["top","bottom"] (top 5):=by decide +kernel
theorem sH:FS ["one","other"] ["one","other"] (top 6):=by decide +kernel
theorem pV:FS ["one","other"] ["one","other"] (top 7):=by decide +kernel
theorem mT:FS ["one","other"] ["one","other"] (top 8):=by decide +kernel
theorem uT:FS ["one","other"] ["one","other"] (top 9):=by decide +kernel
theorem uU:FS ["powers","end"] ["powers"] (top 12):=by decide +kernel
theorem sI:FS ["powers","k"] ["powers","k"] (top 13):=by decide +kernel
theorem ir:FS ["some","greatest","powers","number","k","power"] ["some"] (top 14):=by decide +kernel
theorem zu:FS ["powers","width","key","power"] ["powers","width"] (top 15):=by decide +kernel
theorem pW:FS ["key","width","mask"] ["key","width"] (top 16):=by decide +kernel
theorem zw:FS ["some","width"] ["some","width"] (top 17):=by decide +kernel
theorem sJ:FS ["total","width"] ["total","width"] (top 18):=by decide +kernel
theorem jW:FS ["total","left","right","key","number","shift","part","whole"] ["total","left","right"] (top 19):=by decide +kernel
theorem zz:FS ["base","power","worth"] ["base","power"] (top 20):=by decide +kernel
theorem jA:FS ["some","k","fraction","most","scaled","powers","number","power"] ["some","k","fraction","most"] (top 21):=by decide +kernel
theorem sL:FS ["some","place","greatest","scaled","bottom","k","fraction","top","powers","number","worth"] ["some","place"] (top 22):=by decide +kernel
theorem sM:FS ["parts","most","part"] ["parts"] (top 24):=by decide +kernel
theorem sN:FS ["whole","part","width","factors","left","right","product"] ["whole","part","width"] (top 25):=by decide +kernel
theorem mU:FS ["parts","width","whole","part"] ["parts"] (top 26):=by decide +kernel
theorem pX:FS ["k"] ["k"] (top 27):=by decide +kernel
theorem jB:FS ["total","f"] ["total","f"] (top 28):=by decide +kernel
theorem uV:FS ["total","one","other"] ["total","one","other"] (top 30):=by decide +kernel
theorem lP:FS ["total","i","j"] ["total","i","j"] (top 31):=by decide +kernel
theorem jC:FS ["total","l"] ["total","l"] (top 32):=by decide +kernel
theorem pY:FS ["total","i","j","f","way"] ["total","i","j","f"] (top 34):=by decide +kernel
theorem pZ:FS ["total","i","l"] ["total","i","l"] (top 35):=by decide +kernel
theorem lQ:FS ["total","i","l"] ["total","i","l"] (top 36):=by decide +kernel
theorem p5:FS ["total","i","l"] ["total","i","l"] (top 37):=by decide +kernel
theorem jD:FS ["total","i","l","foot","square"] ["total","i","l"] (top 38):=by decide +kernel
theorem lR:FS ["i","j","t"] ["i","j","t"] (top 39):=by decide +kernel
theorem jX:FS ["i","j"] ["i","j"] (top 40):=by decide +kernel
theorem mV:FS ["l","m"] ["l","m"] (top 41):=by decide +kernel
theorem p6:FS ["i","l"] ["i","l"] (top 42):=by decide +kernel
theorem lS:FS ["i","l"] ["i","l"] (top 43):=by decide +kernel
theorem mW:FS ["i","l"] ["i","l"] (top 44):=by decide +kernel
theorem mX:FS ["i","j","f"] ["i","j","f"] (top 45):=by decide +kernel
theorem i6:FS ["i","l"] ["i","l"] (top 46):=by decide +kernel
theorem uW:FS ["_law_cell_here","_law_k","_law_many","_law_number"] ["_law_cell_here","_law_k","_law_many"] (top 49):=by decide +kernel
theorem mY:FS ["_law_top","_law_bottom","_law_one","_law_other"] ["_law_top","_law_bottom"] (top 50):=by decide +kernel
theorem p7:FS ["_law_powers","_law_found"] ["_law_powers"] (top 51):=by decide +kernel
theorem CS:FS ["_law_terms","_law_counts","_law_powers","_law_number","_law_short"] ["_law_terms"] (top 52):=by decide +kernel
theorem uX:FS ["_law_cells","_law_offset","_law_found","_law_k","_law_terms","_law_cell_here"] ["_law_cells","_law_offset"] (top 53):=by decide +kernel
theorem jY:FS ["_law_cell_here","_law_rest","_law_powers","_law_k"] ["_law_cell_here"] (top 54):=by decide +kernel
theorem zA:FS ["_law_some","_law_place","_law_worths"] ["_law_some","_law_place"] (top 55):=by decide +kernel
theorem sO:FS ["_law_spot_here","_law_line","_law_total"] ["_law_spot_here","_law_line"] (top 56):=by decide +kernel
theorem p9:FS ["_law_one","_law_other","_law_share","_law_found","_law_left","_law_right"] ["_law_one","_law_other","_law_share"] (top 57):=by decide +kernel
theorem jE:FS ["_law_i","_law_j","_law_t","_law_f","_law_place","_law_one","_law_other","_law_line"] ["_law_i","_law_j","_law_t","_law_f","_law_place"] (top 58):=by decide +kernel
theorem lT:FS ["_law_i","_law_l","_law_place","_law_one","_law_line","_law_foot","_law_stretch","_law_side","_law_square"] ["_law_i","_law_l","_law_place"] (top 59):=by decide +kernel
theorem lU:FS ["_law_l","_law_m","_law_place","_law_one","_law_other","_law_spot_here","_law_apart"] ["_law_l","_law_m","_law_place"] (top 60):=by decide +kernel
theorem KC:FS ["_law_script","_law_cells","_law_some","_law_k","_law_other","_law_place","_law_cell_here","_law_f"] ["_law_script"] (top 61):=by decide +kernel
local macro_rules | `(tactic| walk_at "side")=> `(tactic| first | lia | assumption | exact jn | exact A0 (Vs rfl) | exact A3 (by decide) (by decide +kernel) | (show Al _ _; exact ⟨by decide,by decide,by decide +kernel⟩))
local macro_rules | `(tactic| walk_at "at")=> `(tactic| with_reducible (repeat (first | exact At.z | apply At.s)))
local macro_rules | `(tactic| walk_at "sset")=> `(tactic| with_reducible (repeat (first | exact SSet.z | apply SSet.s)))
local macro_rules | `(tactic| walk_at "atI")=> `(tactic| first | assumption | rfl)
local macro_rules | `(tactic| walk_at "own")=> `(tactic| walk_at "u")
local macro_rules | `(tactic| walk_at "evSs")=> `(tactic| first
 | with_reducible refine aD ?_
 | with_reducible refine Jv ?_)
local macro_rules | `(tactic| walk_at "evS")=> `(tactic| first
 | ((with_reducible show fX _ (WM [RQ _ _] _ _) _ _ _); with_reducible refine AZ (by walk_at "at") ?_)
 | ((with_reducible show fX _ (Stmt.If _ _ _ _) _ _ _); walk_at "evIf")
 | ((with_reducible show fX _ (Stmt.Expr _ _) _ _ _); walk_at "evXp")
 | ((with_reducible show fX _ (Stmt.Return (some (RQ _ _)) _) _ _ _); with_reducible refine AY (by walk_at "at") (by walk_at "at") rfl ?_)
 | ((with_reducible show fX _ (Stmt.Return (some _) _) _ _ _); with_reducible refine cC ?_)
 | ((with_reducible show fX _ (Stmt.Return none _) _ _ _); with_reducible refine s_retN ?_)
 | ((with_reducible show fX _ (Wt (RQ _ _) WE _ _) _ _ _); with_reducible refine s_addq (by walk_at "at") (by walk_at "at") ?_)
 | ((with_reducible show fX _ (Wt (RQ _ _) Operator.Sub _ _) _ _ _); with_reducible refine Jx (by walk_at "at") (by walk_at "at") ?_)
 | ((with_reducible show fX _ (Wt (Tv (RQ _ _) _ _) WE _ _) _ _ _); with_reducible refine vZ (by walk_at "at") (by walk_at "at") ?_)
 | ((with_reducible show fX _ (WM [Expr.Tuple [RQ _ _,RQ _ _] _ _] (Expr.Tuple [_,_] _ _) _) _ _ _); with_reducible refine MR (by walk_at "at") (by walk_at "at") (by decide) ?_)
 | ((with_reducible show fX _ (WM [Expr.Tuple _ _ _] _ _) _ _ _); with_reducible refine s_asg ?_)
 | ((with_reducible show fX _ (WM [Tv (RQ _ _) _ _] _ _) _ _ _); walk_at "evPut")
 | with_reducible refine s_break ?_
 | with_reducible refine s_continue ?_
 | with_reducible refine s_pass ?_)
local macro_rules | `(tactic| walk_at "evIf")=> `(tactic| with_reducible refine P0 ?_)
local macro_rules | `(tactic| walk_at "evXp")=> `(tactic| with_reducible refine ug (by walk_at "at") (by walk_at "at") (by walk_at "own") ?_)
local macro_rules | `(tactic| walk_at "evPut")=> `(tactic| with_reducible refine JK (by walk_at "at") (by walk_at "at") ?_ (ho:=by walk_at "own"))
local macro_rules | `(tactic| walk_at "evK")=> `(tactic| first
 | with_reducible refine MA ?_
 | with_reducible refine PV ?_
 | with_reducible refine MB ?_
 | with_reducible refine e_str ?_)
local macro_rules | `(tactic| walk_at "evCm")=> `(tactic| first
 | with_reducible refine MX ?_
 | with_reducible refine JB ?_
 | with_reducible refine e_lt ?_
 | with_reducible refine P6 ?_
 | with_reducible refine P7 ?_)
local macro_rules | `(tactic| walk_at "evIx")=> `(tactic| first
 | ((with_reducible show aG _ (Tv _ (Expr.Slice _ _ _ _) _) _ _); with_reducible refine qR ?_)
 | ((with_reducible show aG _ (Tv (RQ _ _) _ _) _ _); with_reducible refine M7 (by walk_at "at") (by walk_at "at") (by walk_at "own") (by walk_at "sset") ?_ (by walk_at "at"))
 | ((with_reducible show aG _ (Tv (RQ _ _) _ _) _ _); with_reducible refine e_dix (by walk_at "at") (by walk_at "at") ?_)
 | with_reducible refine iH ?_)
local macro_rules | `(tactic| walk_at "evBo")=> `(tactic| first
 | with_reducible refine JG ?_
 | with_reducible refine MF ?_
 | with_reducible refine MG ?_
 | with_reducible refine MH ?_
 | with_reducible refine Jt ?_
 | with_reducible refine MI ?_)
local macro_rules | `(tactic| walk_at "evCa")=> `(tactic| first
 | ((with_reducible show aG _ (Sx (Expr.Attribute _ _ _) _ _ _) _ _); walk_at "evMt")
 | ((with_reducible show aG _ (Sx (RQ "isinstance" _) _ _ _) _ _); first
  | with_reducible refine e_isin (Txt.isin (by assumption)) (Txt.c_int (by assumption)) ?_
  | with_reducible refine e_isin (Txt.isin (by assumption)) (Txt.c_tuple (by assumption)) ?_
  | with_reducible refine e_isin (Txt.isin (by assumption)) (Txt.c_list (by assumption)) ?_
  | with_reducible refine e_isin (Txt.isin (by assumption)) (Txt.c_bool (by assumption)) ?_)
 | ((with_reducible show aG _ (Sx (RQ "len" _) _ _ _) _ _); first
  | ((with_reducible show aG _ (Sx _ [RQ _ _] _ _) _ _); with_reducible refine JN (Txt.len (by assumption)) (by walk_at "at") (by walk_at "at") (by walk_at "own") (by walk_at "sset") ?_)
  | with_reducible refine e_len (Txt.len (by assumption)) ?_)
 | ((with_reducible show aG _ (Sx (RQ "tuple" _) _ _ _) _ _); first
  | ((with_reducible show aG _ (Sx _ [RQ _ _] _ _) _ _); with_reducible refine By (Txt.tuple (by assumption)) (by walk_at "at") (by walk_at "at") (by walk_at "own") (by walk_at "sset") ?_)
  | with_reducible refine oX (Txt.tuple (by assumption)) ?_)
 | ((with_reducible show aG _ (Sx (RQ "abs" _) _ _ _) _ _); with_reducible refine MV (Txt.abs (by assumption)) ?_)
 | ((with_reducible show aG _ (Sx (RQ "int" _) _ _ _) _ _); with_reducible refine e_intB (Txt.int (by assumption)) ?_))
local macro_rules | `(tactic| walk_at "evMt")=> `(tactic| with_reducible refine JJ (by walk_at "at") (by walk_at "at") ?_ (ho:=by walk_at "own"))
local macro_rules | `(tactic| walk_at "evE")=> `(tactic| first
 | ((with_reducible show aG _ (RQ _ _) _ _); with_reducible refine jH (by walk_at "at") (by walk_at "at") ?_)
 | ((with_reducible show aG _ (Expr.Constant _ _ _) _ _); walk_at "evK")
 | ((with_reducible show aG _ (Sx _ _ _ _) _ _); walk_at "evCa")
 | ((with_reducible show aG _ (Tv _ _ _) _ _); walk_at "evIx")
 | ((with_reducible show aG _ (Vo _ _ _ _) _ _); walk_at "evBo")
 | ((with_reducible show aG _ (Expr.Compare _ _ _ _) _ _); walk_at "evCm")
 | with_reducible refine gP ?_
 | with_reducible refine JH ?_
 | with_reducible refine MJ ?_
 | with_reducible refine e_not ?_
 | with_reducible refine MN ?_
 | with_reducible refine PZ ?_
 | with_reducible refine MM ?_
 | with_reducible refine E3 ?_)
local macro_rules | `(tactic| walk_at "evX")=> `(tactic| first
 | ((with_reducible show dD _ (Expr.List _ _) _ _); with_reducible refine Hh ?_)
 | ((with_reducible show dD _ (Sx _ _ _ _) _ _); walk_at "evXC")
 | ((with_reducible show dD _ (Vo _ WE _ _) _ _); with_reducible refine Ho ?_)
 | ((with_reducible show dD _ (Tv _ (Expr.Slice _ _ _ _) _) _ _); with_reducible refine vY ?_)
 | with_reducible refine ue ?_)
local macro_rules | `(tactic| walk_at "evXC")=> `(tactic| first
 | ((with_reducible show dD _ (Sx (RQ "list" _) _ _ _) _ _); first
  | ((with_reducible show dD _ (Sx _ [RQ _ _] _ _) _ _); with_reducible refine x_listO (Txt.list (by assumption)) (by walk_at "at") (by walk_at "at") (by walk_at "own") (by walk_at "sset") ?_)
  | with_reducible refine JC (Txt.list (by assumption)) ?_)
 | with_reducible refine ue ?_)
local macro_rules | `(tactic| walk_at "evT")=> `(tactic| first
 | ((with_reducible show je _ (Expr.Compare _ _ _ _) _ _); first
  | with_reducible refine MY ?_
  | with_reducible refine t_notN ?_
  | with_reducible refine P5 ?_
  | with_reducible refine P4 ?_
  | with_reducible refine PX ?_
  | with_reducible refine t_le ?_
  | with_reducible refine PY ?_
  | with_reducible refine t_ge ?_
  | with_reducible refine Ht (by walk_at "at") (by walk_at "at") ?_
  | with_reducible refine qW (by walk_at "at") (by walk_at "at") ?_)
 | with_reducible refine ML ?_
 | with_reducible refine QF (w_and ?_)
 | with_reducible refine QF (w_or ?_)
 | with_reducible refine MO ?_)
local macro_rules | `(tactic| walk_at "evW")=> `(tactic| first
 | with_reducible refine w_and ?_
 | with_reducible refine w_or ?_
 | with_reducible refine Ju ?_
 | with_reducible refine MK ?_)
local macro_rules | `(tactic| walk_at "evG")=> `(tactic| first
 | ((with_reducible show oQ _ (RQ _ _) _ _ _); with_reducible refine di (by walk_at "at") ?_)
 | with_reducible refine MQ rfl (by walk_at "u") ?_)
local macro_rules | `(tactic| walk_at "evGs")=> `(tactic| first
 | with_reducible refine Jw ?_
 | ((with_reducible show yq _ (_::_) _ _ _); with_reducible refine E4 (by walk_at "at") ?_))
local macro_rules | `(tactic| walk_at "evL")=> `(tactic| first
 | ((with_reducible show Nx _ _ _ _); with_reducible refine j5 (by walk_at "sset") ?_)
 | ((with_reducible show Sd _ _); first | with_reducible refine Sd.mk (by walk_at "side") ?_ | with_reducible refine Sd.mk ?_ ?_)
 | ((with_reducible show jR _ _ _); first
  | with_reducible refine MD ?_
  | with_reducible refine ME ?_
  | with_reducible refine EW ?_
  | with_reducible refine EU (λh=>?_) (λh=>?_)
  | with_reducible refine if2 (λh=>?_) (λh=>?_))
 | with_reducible refine i2 ?_
 | with_reducible refine i1 ?_
 | with_reducible refine b1 ?_
 | ((with_reducible show vP _ _ _); first
  | with_reducible refine EX ?_
  | with_reducible refine uf ?_
  | with_reducible refine eqp_str ?_)
 | ((with_reducible show mP _ _ _); first
  | with_reducible refine Bm ?_
  | with_reducible refine Bo ?_
  | with_reducible refine addp_tup ?_)
 | ((with_reducible show G7 _ _); first
  | with_reducible refine aJ ?_
  | with_reducible refine bF ?_)
 | ((with_reducible show A9 _ _); first
  | with_reducible refine MW ?_
  | with_reducible refine vW (by intro q; cases q) ?_)
 | ((with_reducible show LM _ _ _); first
  | refine Ba (by rfl) ?_
  | refine gQ (by rfl) ?_)
 | ((with_reducible show Hq _ _ _ _); first
  | with_reducible refine EV.Hq.lst ?_
  | with_reducible refine EV.Hq.tup ?_)
 | ((with_reducible show ∃ ys,D.row _=some ys/\_); refine M4 (by rfl) ?_)
 | ((with_reducible show ∃ t b,Hj _ _ t/\_); first
  | with_reducible refine isd .int kit_ii ?_
  | with_reducible refine isd .int (Txt.ib (by assumption)) ?_
  | with_reducible refine isd .bl kit_bb ?_
  | with_reducible refine isd .lst kit_ll ?_
  | with_reducible refine isd .tup kit_tt ?_)
 | ((with_reducible show ∃ j d,D.int _=D.int j/\_); refine ⟨_,_,rfl,(by walk_at "atI"),?_⟩)
 | ((with_reducible show ∃ r,_/\Jy _ _ _ r); walk_at "evR"))
local macro_rules | `(tactic| walk_at "ev1")=> `(tactic| first
 | ((with_reducible show aG _ _ _ _); walk_at "evE")
 | ((with_reducible show dD _ _ _ _); walk_at "evX")
 | ((with_reducible show je _ _ _ _); walk_at "evT")
 | ((with_reducible show aE _ _ _ _ _); walk_at "evSs")
 | ((with_reducible show fX _ _ _ _ _); walk_at "evS")
 | ((with_reducible show qM _ _ _ _); first | with_reducible refine bC ?_ | with_reducible refine jJ ?_)
 | ((with_reducible show Hg _ _ _ _); walk_at "evW")
 | ((with_reducible show oQ _ _ _ _ _); walk_at "evG")
 | ((with_reducible show yq _ _ _ _ _); walk_at "evGs")
 | ((with_reducible show Ec _ _ _ _); first | with_reducible refine JD ?_ | with_reducible refine JE ?_)
 | walk_at "evL")
local macro_rules | `(tactic| walk_at "ev")=> `(tactic| repeat' (walk_at "ev1"))
section
variable {K:Rr}
theorem dO (h:n<=1000000):n<sizeLine:=Tc h (by decide)
theorem zW (h:n<=1000000):n<=sizeLine:=SY (dO h)
noncomputable def lV:Fn:=λds r=>∃ l:List Int,l.length<=64/\ds=[.tup (l.map .int)]/\r=.ok (.va (.tup ((trim l).map .int)))
theorem CT (h:l.length<=64):lV [.tup (l.map .int)] (.ok (.va (.tup ((trim l).map .int)))):=⟨l,h,rfl,rfl⟩
theorem sP {cl:List Int} {j:Int} (h0:0<=j) (h1:j<cl.length) (h:R (.int (cl.getD j.toNat 0))):LM (.tup (cl.map D.int)) (.int j) R:=by
 refine Ba ?_ h
 rw [gC h0 (by simpa using h1)]
 have hj:j.toNat<cl.length:=by lia
 simp [RO,hj]
theorem Gk (Fu:cU K "trimmed" "trimmed" (top 12) f fd) (T:Txt K mg):aU P w K mg base (cF P w) 1 f fd ["powers"] (cR K lV):=by
 refine bH Fu uU (by rintro ds r ⟨a,_,rfl,_⟩; rfl) (by rintro ds r ⟨a,_,_,rfl⟩; exact ⟨_,rfl⟩) λc hq ds sl hF=>?_
 obtain ⟨l,hl,rfl,e⟩:=hF
 injection e with e
 subst e
 show aE c _ [.va (.tup (l.map .int)),.un] _ _
 conv in (aj _)=>whnf
 walk_at "ev"
 with_reducible refine iF hq (λm ρ'=>m<=l.length/\trim (l.take m)=trim l/\ρ'=[.va (.tup (l.map .int)),.va (.int (m:Int))]) (m₀:=l.length) ?_ ?_
 ·refine ⟨Rv _,by rw [SX],?_⟩
  rw [RB]
 ·rintro m ρ' ⟨hm,ht,rfl⟩
  walk_at "ev"
  ·refine sP (by lia) (by lia) ?_
   have hk:((m:Int) - 1).toNat=m - 1:=by lia
   rw [hk]
   have hm1:m - 1+1=m:=by lia
   walk_at "ev"
   ·exact ⟨m - 1,by lia,by lia,nX (by lia) (by assumption) (by rw [hm1]; exact ht),by rw [show ((m - 1:Nat):Int)=(m:Int) - 1 by lia]⟩
   ·show Sl.va _=Sl.va _
    rw [iO,Cb _ hm]
    have:=nY (l:=l) (m:=m - 1) (by lia) (by assumption) (by rw [hm1]; exact ht)
    rw [hm1] at this
    rw [this]
  ·show Sl.va _=Sl.va _
   have:m=0:=by lia
   subst this
   rw [iO,Cb _ hm,<- ht]
   rfl
noncomputable def thing (a k m:Int):Int :=
 ((a % 2147483647 * 48271+69621 * k * k+7 * k) % 2147483629 * ((a % 2147483647 * 48271+69621 * k * k+7 * k) % 2147483629) % 2147483587) * ((a % 2147483647 * 48271+69621 * k * k+7 * k) % 2147483629 * ((a % 2147483647 * 48271+69621 * k * k+7 * k) % 2147483629) % 2147483587+48271) % 2147483563 % m
theorem i7 (a k) (h:0<m):0<=thing a k m/\thing a k m<m:=⟨VG _ (by lia),Xu _ h⟩
noncomputable def qa:Fn:=λds r=>∃ a k m:Int,0<m/\m.natAbs<2 ^ 63/\k.natAbs<2 ^ 40/\ds=[.int a,.int k,.int m]/\r=.ok (.va (.int (thing a k m)))
theorem Gm (hm:0<m) (h2:m.natAbs<2 ^ 63) (hk:k.natAbs<2 ^ 40):qa [.int a,.int k,.int m] (.ok (.va (.int (thing a k m)))):=⟨a,k,m,hm,h2,hk,rfl,rfl⟩
theorem CU (Fu:cU K "_law_thing" "_law_thing" (top 49) f fd) (T:Txt K mg):aU P w K mg base (cF P w) 1 f fd ["_law_cell_here","_law_k","_law_many"] (cR K qa):=by
 refine bH Fu uW (by rintro ds r ⟨a,k,m,_,_,_,rfl,_⟩; rfl) (by rintro ds r ⟨a,k,m,_,_,_,_,rfl⟩; exact ⟨_,rfl⟩) λc hq ds sl hF=>?_
 obtain ⟨a,k,m,hm,hm2,hk,rfl,e⟩:=hF
 injection e with e
 subst e
 show aE c _ [.va (.int a),.va (.int k),.va (.int m),.un] _ _
 conv in (aj _)=>whnf
 walk_at "ev"
 all_goals first
  | exact q8 (by lia)
  | exact dv_few hm hm2
  | rfl
  | trace_state
theorem uY (x):(aW x).nl:=o8 (by unfold D.o7; exact ⟨o8 (iM _),gB (f:=D.int) (l:=[x.2]) λ_ _=>jn⟩)
noncomputable def CV (t:aL):Option D:=if t.2≠0 then some (aW t) else none
theorem kh:∀ L:List aL,(L.map CV).filterMap id=(nz L).map aW
 | []=>rfl
 | t::L=>by
  unfold nz
  by_cases h:t.2=0
  ·simp only [RC,CV,h,ne_eq,not_true,if_false,TU,id,List.filter_cons,bne_self_eq_false,Sn]
   exact kh L
  ·have hb:(t.2 != 0)=true:=by simpa using h
   rw [List.filter_cons,if_pos hb,RC,RC,TU]
   simp only [CV,ne_eq,h,not_false_eq_true,if_true,id]
   rw [kh L]; rfl
noncomputable def KD:Fn:=λds r=>∃ ts:List aL,ts.length<=400000/\(∀ t∈ts,t.1.length<=64)/\ds=[.lst (ts.map aW)]/\r=.ok (.ow ((jx (nz (aX ts))).map aW))
section
local macro_rules | `(tactic| walk_at "evX")=> `(tactic| first | ((with_reducible show dD _ (Expr.Dict _ _ _) _ _); with_reducible refine Fd ?_))
local macro_rules | `(tactic| walk_at "evCa")=> `(tactic| first | with_reducible refine ak (F:=lV) (by assumption) (by decide) ?_)
local macro_rules | `(tactic| walk_at "evR")=> `(tactic| first | with_reducible refine ah (CT ?_) ?_)
theorem Gn (Fu:cU K "_law_sum" "_law_sum" (top 52) f fd) (T:Txt K mg) (h1:bN P w K mg base 1 "_law_trimmed" lV):aU P w K mg base (cF P w) 2 f fd ["_law_terms"] (cR K KD):=by
 refine bH Fu CS (by rintro ds r ⟨n,_,_,rfl,_⟩; rfl) (by rintro ds r ⟨n,_,_,_,rfl⟩; exact ⟨_,rfl⟩) λc hq ds sl hF=>?_
 obtain ⟨ts,hl,hlen,rfl,e⟩:=hF
 injection e with e
 subst e
 show aE c _ [.va (.lst (ts.map aW)),.un,.un,.un,.un] _ _
 conv in (aj _)=>whnf
 walk_at "ev"
 with_reducible refine cP hq (cu ?_)
 walk_at "ev"
 refine ⟨λi ρ'=>∃ s2 s3 s4:Sl,ρ'=[.va (.lst (ts.map aW)),.oT (encA (aX (ts.take i))),s2,s3,s4],⟨_,_,_,rfl⟩,?_,?_⟩
 ·rintro c' m5 vv vz i d ρ' hd ⟨s2,s3,s4,rfl⟩
  simp only [RO,RV] at hd
  obtain ⟨t,ht,rfl⟩:=hd
  obtain ⟨hi,rfl⟩:=RJ.mp ht
  have h6:=hlen _ (Sg hi)
  have hsz:(aX (ts.take i)).length<sizeLine:=dO (by have:=gF (ts.take i); rw [Sq] at this; lia)
  show oQ c' _ (D.tup [.tup (ts[i].1.map .int),.int ts[i].2]) _ _
  walk_at "ev"
  ·exact h6
  walk_at "ev"
  refine ⟨_,J4 (A:=aX (ts.take i)) rfl _,?_⟩
  rw [Cd]
  walk_at "ev"
  refine ⟨_,J5 hsz,?_⟩
  walk_at "ev"
  have e:aX (ts.take (i+1))=putD (aX (ts.take i)) (trim ts[i].1) ((aY (aX (ts.take i)) (trim ts[i].1)).getD 0+ts[i].2):=by
   rw [S0 hi,rT]; rfl
  show ∃ s2 s3 s4:Sl,_=[_,Sl.oT (encA (aX (ts.take (i+1)))),s2,s3,s4]
  rw [e]
  exact ⟨_,_,_,rfl⟩
 ·rintro ρ' ⟨s2,s3,s4,rfl⟩
  rw [RB,SX]
  have hn:=keys_nodup (fu ts)
  with_reducible refine aD ?_
  with_reducible refine cC ?_
  refine uG (Txt.sorted T) (e_x (uA 1 (by walk_at "at") (encK _) (by walk_at "sset") (gW hq (N':=["_law_powers","_law_number"]) (ρ0:=λ_=>[.un,.un]) (λt=>.un (.un .nil)) (Fo ?_))))
  walk_at "ev"
  refine JU (yN _) ⟨?_,(aX ts).map CV,by simp,?_,?_⟩
  ·exact zW (by rw [RB]; have:=gF ts; lia)
  ·intro c' hc t i d o hd ho
   simp only [RO,RV] at hd ho
   obtain ⟨x,hx,rfl⟩:=hd
   obtain ⟨x',hx',rfl⟩:=ho
   rw [hx] at hx'; cases hx'
   show oQ c' _ (.tup [.tup (x.1.map .int),.int x.2]) _ _
   walk_at "ev"
   refine ⟨.un (.un .nil),?_⟩
   simp only [kT]
   walk_at "ev"
   all_goals first
    | (show CV x=some (aW x); unfold CV; rw [if_pos (by assumption)])
    | (show CV x=none; unfold CV; rw [if_neg λh=>h (by assumption)])
  ·rw [kh]
   refine ⟨gB λx _=>uY x,bF ⟨_,rfl,Xg _ hn,λL' hp hs=>?_⟩⟩
   have eL:=uH (Xg _ hn) hp hs
   rw [eL]
   rfl
end
end
section
variable {K:Rr}
noncomputable def Gp (p:List Int) (g:Nat->Int) (k:Nat):Int:=if bz p k>g k then bz p k else g k
noncomputable def gk (L:List aL) (k:Nat):Int:=L.foldl (λa t=>if bz t.1 k>a then bz t.1 k else a) 0
noncomputable def eE (L:List aL):List Int:=(RI 6).map (gk L)
noncomputable def iu (p:List Int) (g:Nat->Int) (j k:Nat):Int:=if k<j then Gp p g k else g k
theorem qb (L:List aL) (k):∀ a:Int,a<=L.foldl (λa t=>if bz t.1 k>a then bz t.1 k else a) a:=by
 induction L with
 | nil=>exact λa=>SK _
 | cons t L ih =>
  intro a
  rw [Tg]
  refine R6 ?_ (ih _)
  split <;> lia
theorem CW (L) (k):0<=gk L k:=qb L k 0
theorem Gq (L) (t):gk (L++[t])=Gp t.1 (gk L):=by
 funext k
 unfold gk Gp
 rw [Vz]; rfl
theorem Gr:iu p (gk L) p.length=Gp p (gk L):=by
 funext k
 unfold iu
 split
 ·rfl
 ·unfold Gp
  rw [cy (by lia)]
  have:=CW L k
  rw [if_neg (by lia)]
theorem CY (p) (g):iu p g 0=g:=by funext k; unfold iu; rw [if_neg (by lia)]
noncomputable def dP (g:Nat->Int):List D:=((RI 6).map g).map D.int
theorem CZ (p) (g) (h:j<6) (q:Gp p g j=bz p j):(dP (iu p g j)).set j (.int (bz p j))=dP (iu p g (j+1)):=by
 refine XT (by simp [dP]) λi h1 h2=>?_
 have hi:i<6:=by simpa [dP] using h2
 rw [List.getElem_set]
 simp only [dP,List.getElem_map,List.getElem_range]
 unfold iu
 by_cases e:j=i
 ·subst e
  rw [if_pos rfl,if_pos (by lia),q]
 ·rw [if_neg e]
  by_cases z:i<j
  ·rw [if_pos z,if_pos (by lia)]
  ·rw [if_neg z,if_neg (by lia)]
theorem zB (p) (g) (q:Gp p g j=g j):dP (iu p g j)=dP (iu p g (j+1)):=by
 unfold dP
 congr 1
 refine Ui λi _=>?_
 unfold iu
 by_cases z:i<j
 ·rw [if_pos z,if_pos (by lia)]
 ·by_cases e:i=j
  ·subst e; rw [if_neg z,if_pos (by lia),q]
  ·rw [if_neg z,if_neg (by lia)]
theorem xE (g) {j:Nat} (h:j<6):jj (dP g) (j:Int)=some (.int (g j)):=by
 rw [gC (by lia) (by simp [dP]; lia),So]
 simp [dP,h]
noncomputable def iw:Fn:=λds r=>∃ L:List aL,(∀ t∈L,t.1.length<=6)/\ds=[.lst (L.map aW)]/\r=.ok (.ow (dP (gk L)))
theorem xF (h:∀ t∈L,t.1.length<=6):iw [.lst (L.map aW)] (.ok (.ow (dP (gk L)))):=⟨L,h,rfl,rfl⟩
section
local macro_rules | `(tactic| walk_at "evPut")=> `(tactic| with_reducible refine J9 (by walk_at "at") (by walk_at "at") (by walk_at "own") ?_)
local macro_rules | `(tactic| walk_at "evX")=> `(tactic| first | ((with_reducible show dD _ (Vo _ Operator.Mult _ _) _ _); with_reducible refine HC ?_))
local macro_rules | `(tactic| walk_at "evE")=> `(tactic| first | ((with_reducible show aG _ (RQ "PLACES" _) _ _); with_reducible refine oR (by assumption) ?_))
theorem C0 (Fu:cU K "greatest_powers" "greatest_powers" (top 14) f fd) (T:Txt K mg) (PL:∃ tk:Tok,mg "PLACES"=some (.int 6 tk)):aU P w K mg base (cF P w) 1 f fd ["some"] (cR K iw):=by
 obtain ⟨tk,hPL⟩:=PL
 refine bH Fu ir (by rintro ds r ⟨L,_,rfl,_⟩; rfl) (by rintro ds r ⟨L,_,_,rfl⟩; exact ⟨_,rfl⟩) λc hq ds sl hF=>?_
 obtain ⟨L,hl,rfl,e⟩:=hF
 injection e with e
 subst e
 show aE c _ [.va (.lst (L.map aW)),.un,.un,.un,.un,.un] _ _
 conv in (aj _)=>whnf
 walk_at "ev"
 refine ⟨_,rfl,?_⟩
 walk_at "ev"
 ·exact ⟨⟨by decide,by decide⟩,by decide⟩
 walk_at "ev"
 show fX c _ [.va (.lst (L.map aW)),.ow (dP (gk [])),.un,.un,.un,.un] _ _
 with_reducible refine cP hq (cu ?_)
 walk_at "ev"
 refine ⟨λi ρ'=>∃ s2 s3 s4 s5:Sl,ρ'=[.va (.lst (L.map aW)),.ow (dP (gk (L.take i))),s2,s3,s4,s5],⟨_,_,_,_,rfl⟩,?_,?_⟩
 ·rintro c' m5 vv vz i d ρ' hd ⟨s2,s3,s4,s5,rfl⟩
  simp only [RO,RV] at hd
  obtain ⟨t,ht,rfl⟩:=hd
  obtain ⟨hi,rfl⟩:=RJ.mp ht
  have h6:=hl _ (Sg hi)
  have hq':c'.X.xe=λ_ _=>False:=by rw [m5]; exact hq
  show oQ c' _ (D.tup [.tup (L[i].1.map .int),.int L[i].2]) _ _
  walk_at "ev"
  have eg:gk (L.take (i+1))=iu L[i].1 (gk (L.take i)) L[i].1.length:=by rw [S0 hi,Gq,Gr]
  generalize L[i]=t at h6 eg |-
  generalize gk (L.take i)=g at eg |-
  with_reducible refine cP hq' (Ke (Txt.enum (by assumption)) ?_)
  walk_at "ev"
  refine ⟨_,rfl,?_⟩
  refine ⟨λj ρ'=>∃ s4 s5:Sl,ρ'=[.va (.lst (L.map aW)),.ow (dP (iu t.1 g j)),.va (.tup (t.1.map .int)),.va (.int t.2),s4,s5],⟨s4,s5,by rw [CY]⟩,?_,?_⟩
  ·rintro c2 hcX2 hcR2 hcM2 j d ρ' hd ⟨s4,s5,rfl⟩
   unfold lJ at hd
   simp only [RO,RV,List.getElem?_zipIdx] at hd
   obtain ⟨⟨x,m⟩,⟨y,⟨z,hz,rfl⟩,e⟩,rfl⟩:=hd
   obtain ⟨rfl,rfl⟩:D.int z=x/\0+j=m:=by simpa using e
   obtain ⟨hj,rfl⟩:=RJ.mp hz
   have hj6:j<6:=by lia
   have ha:jj (dP (iu t.1 g j)) (((0+j:Nat):Int))=some (.int (g j)):=by
    rw [Uc,xE _ hj6]; unfold iu; rw [if_neg (by lia)]
   have ep:bz t.1 j=t.1[j]:=cO hj
   have hj0:0+j=j:=Uc j
   rw [hj0] at ha |-
   show oQ c2 _ (D.tup [.int (j:Nat),.int t.1[j]]) _ _
   walk_at "ev"
   ·refine ⟨j,rfl,⟨by simp [dP]; lia,?_⟩⟩
    walk_at "ev"
    refine ⟨.va (.int (j:Nat)),.va (.int t.1[j]),?_⟩
    show [_,Sl.ow ((dP (iu t.1 g j)).set j (.int t.1[j])),_,_,_,_]=_
    rw [<- ep,CZ t.1 g hj6 (by unfold Gp; rw [ep,if_pos (by assumption)])]
   ·refine ⟨.va (.int (j:Nat)),.va (.int t.1[j]),?_⟩
    rw [zB t.1 g (by unfold Gp; rw [ep,if_neg (by assumption)])]
  ·rintro ρ' ⟨s4,s5,rfl⟩
   rw [show (lJ (t.1.map D.int)).length=t.1.length by simp [lJ]]
   walk_at "ev"
   exact ⟨_,_,_,_,by rw [eg]⟩
 ·rintro ρ' ⟨s2,s3,s4,s5,rfl⟩
  rw [RB,SX]
  walk_at "ev"
  rfl
end
noncomputable def Eh (ns:List Int):Int:=ns.foldr max 0
theorem C1:∀ {ns:List Int} {n:Int},n∈ns->n<=Eh ns
 | x::ns,n,h=>by
  show n<=max x (Eh ns)
  rcases RL.mp h with rfl | h
  ·lia
  ·have:=C1 h; lia
theorem HL:∀ (ns:List Int),0<=Eh ns
 | []=>SK _
 | x::ns=>by show 0<=max x (Eh ns); have:=HL ns; lia
theorem uZ:∀ {ns:List Int} {m:Int},0<=m->(∀ n∈ns,n<=m)->Eh ns<=m
 | [],_,h,_=>h
 | x::ns,m,h0,h=>by
  show max x (Eh ns)<=m
  have:=uZ h0 λn hn=>h n (RH _ hn)
  have:=h x RD
  lia
theorem C2 (h:m∈eE L) (h2:∀ n∈eE L,n<=m):m=Eh (eE L):=by
 have h0:0<=m:=by
  unfold eE at h
  obtain ⟨k,_,rfl⟩:=Sb.mp h
  exact CW L k
 exact Int.le_antisymm (C1 h) (uZ h0 h2)
end
section
variable {K:Rr}
noncomputable def Gs:Fn:=λds r=>∃ (p:List Int) (W:Nat),W<=10/\Bd (2 ^ W) p/\ds=[.tup (p.map .int),.int (W:Nat)]/\r=.ok (.va (.int (pk (2 ^ W) p)))
theorem NB (h:W<=10) (h2:Bd (2 ^ W) p):Gs [.tup (p.map .int),.int (W:Nat)] (.ok (.va (.int (pk (2 ^ W) p)))):=⟨p,W,h,h2,rfl,rfl⟩
section
local macro_rules | `(tactic| walk_at "evE")=> `(tactic| first | ((with_reducible show aG _ (RQ "PLACES" _) _ _); with_reducible refine oR (by assumption) ?_))
local macro_rules | `(tactic| walk_at "evBo")=> `(tactic| first | with_reducible refine HB ?_ | with_reducible refine Cf ?_ | with_reducible refine uI ?_)
theorem KG (Fu:cU K "key_of" "key_of" (top 15) f fd) (T:Txt K mg) (PL:∃ tk:Tok,mg "PLACES"=some (.int 6 tk)):aU P w K mg base (cF P w) 1 f fd ["powers","width"] (cR K Gs):=by
 obtain ⟨tk,hPL⟩:=PL
 refine bH Fu zu (by rintro ds r ⟨p,W,_,_,rfl,_⟩; rfl) (by rintro ds r ⟨p,W,_,_,_,rfl⟩; exact ⟨_,rfl⟩) λc hq ds sl hF=>?_
 obtain ⟨p,W,hW,hp,rfl,e⟩:=hF
 injection e with e
 subst e
 have h6:=hp.1
 show aE c _ [.va (.tup (p.map .int)),.va (.int (W:Nat)),.un,.un] _ _
 conv in (aj _)=>whnf
 walk_at "ev"
 with_reducible refine cP hq (cu ?_)
 walk_at "ev"
 refine ⟨λi ρ'=>∃ s3:Sl,ρ'=[.va (.tup (p.map .int)),.va (.int (W:Nat)),.va (.int (F6 (2 ^ W) (p.take i))),s3],⟨_,rfl⟩,?_,?_⟩
 ·rintro c' m5 vv vz i d ρ' hd ⟨s3,rfl⟩
  simp only [RO,RV] at hd
  obtain ⟨x,hx,rfl⟩:=hd
  obtain ⟨hi,rfl⟩:=RJ.mp hx
  have bd:=Cr (two_pos W) (p:=p.take i) λx hx=>hp.2 x (U6 hx)
  have hl:(p.take i).length<=6:=by rw [Sq]; lia
  walk_at "ev"
  ·exact ⟨by lia,by lia,xu hW hl bd.1 bd.2⟩
  ·refine ⟨.va (.int p[i]),?_⟩
   rw [S0 hi,Cq,So]
 ·rintro ρ' ⟨s3,rfl⟩
  rw [RB,SX]
  have bd:=Cr (two_pos W) hp.2
  have ew:(W:Int) * (6 - ((p.map D.int).length:Nat))=((W * (6 - p.length):Nat):Int):=by
   rw [RB,Int.natCast_mul,Int.ofNat_sub h6]; rfl
  have ew2:W * (6 - p.length)<=60:=Rz (TZ hW (Nat.sub_le 6 _)) (by decide)
  walk_at "ev"
  ·exact q8 (by lia)
  ·rw [ew]; exact ⟨by lia,by lia,xu hW h6 bd.1 bd.2⟩
  ·show Sl.va _=Sl.va _
   rw [ew,So,Int.pow_mul,Ko h6]
end
theorem gq {α:Type} (f:α->D):∀ L:List α,(L.map λt=>some (f t)).filterMap id=L.map f
 | []=>rfl
 | x::L=>by
  rw [RC,RC,TU]
  exact congrArg (f x:: ·) (gq f L)
noncomputable def xG:Fn:=λds r=>∃ (x:Int) (W:Nat),W<=10/\0<=x/\ds=[.int x,.int (W:Nat)]/\r=.ok (.va (.tup ((ON (2 ^ W) x).map .int)))
theorem KH (h:W<=10) (h2:0<=x):xG [.int x,.int (W:Nat)] (.ok (.va (.tup ((ON (2 ^ W) x).map .int)))):=⟨x,W,h,h2,rfl,rfl⟩
section
local macro_rules | `(tactic| walk_at "evE")=> `(tactic| first | ((with_reducible show aG _ (RQ "PLACES" _) _ _); with_reducible refine oR (by assumption) ?_))
local macro_rules | `(tactic| walk_at "evBo")=> `(tactic| first | with_reducible refine HB ?_ | with_reducible refine Cf ?_ | with_reducible refine uI ?_)
local macro_rules | `(tactic| walk_at "evXC")=> `(tactic| first | with_reducible refine x_call (F:=lV) (by assumption) (by decide) ?_)
theorem Gu (Fu:cU K "powers_of" "powers_of" (top 16) f fd) (T:Txt K mg) (PL:∃ tk:Tok,mg "PLACES"=some (.int 6 tk)) (h1:bN P w K mg base 1 "trimmed" lV):aU P w K mg base (cF P w) 2 f fd ["key","width"] (cR K xG):=by
 obtain ⟨tk,hPL⟩:=PL
 refine bH Fu pW (by rintro ds r ⟨x,W,_,_,rfl,_⟩; rfl) (by rintro ds r ⟨x,W,_,_,_,rfl⟩; exact ⟨_,rfl⟩) λc hq ds sl hF=>?_
 obtain ⟨x,W,hW,hx,rfl,e⟩:=hF
 injection e with e
 subst e
 show aE c _ [.va (.int x),.va (.int (W:Nat)),.un] _ _
 conv in (aj _)=>whnf
 walk_at "ev"
 ·exact ⟨by lia,by lia,by decide⟩
 walk_at "ev"
 rw [So]
 refine e_x (gW hq (N':=["k","key","mask","width"]) (ρ0:=λ_=>[.un,.va (.int x),.va (.int (1 * 2 ^ W - 1)),.va (.int (W:Nat))]) (λt=>.un (.fr (by walk_at "at") (by walk_at "at") (by decide) rfl (.fr (by walk_at "at") (by walk_at "at") (by decide) rfl (.fr (by walk_at "at") (by walk_at "at") (by decide) rfl .nil)))) (Kg (Txt.range T) ?_))
 walk_at "ev"
 refine ⟨rfl,⟨⟨by decide,by decide⟩,⟨⟨by decide,by decide⟩,⟨by decide,?_⟩⟩⟩⟩
 refine ⟨(RI 6).map λ(i:Nat)=>some (.int (x / (2 ^ W) ^ (5 - i) % 2 ^ W)),rfl,?_,bF ?_⟩
 ·intro c' hc t i d o hd ho
  unfold Ck at hd
  simp only [RO,RV] at hd ho
  obtain ⟨a,ha,rfl⟩:=hd
  obtain ⟨a',ha',rfl⟩:=ho
  have hi:i<6:=by simpa using (RJ.mp ha').1
  rw [Vv hi] at ha'; cases ha'
  rw [show (6 - 1 - -1:Int).toNat=6 by decide,Vv hi] at ha; cases ha
  refine di (by walk_at "at") (j5 (by walk_at "sset") ⟨.un (.same (.same (.same .nil))),?_⟩)
  simp only [kT]
  refine ⟨λ_=>?_,λh=>by cases h⟩
  have e5:((W:Int) * (6 - 1 - (i:Int))).toNat=W * (5 - i):=by
   rw [show ((6:Int) - 1 - (i:Int))=((5 - i:Nat):Int) by lia,<- Int.natCast_mul,So]
  have e6:(0:Int)<=(W:Int) * (6 - 1 - (i:Int)):=Vf (by lia) (by lia)
  have hp:(0:Int)<(2 ^ W) ^ (5 - i):=Ue (two_pos W)
  walk_at "ev"
  ·exact q8 (by lia)
  ·show some _=some (D.int _)
   rw [e5,Int.pow_mul,n6 W (Int.ediv_nonneg hx (by lia))]
 ·refine ⟨_,rfl,?_⟩
  rw [gq (λ(i:Nat)=>D.int (x / (2 ^ W) ^ (5 - i) % 2 ^ W)) (RI 6),show ((RI 6).map λ(i:Nat)=>D.int (x / (2 ^ W) ^ (5 - i) % 2 ^ W))=((RI 6).map λ(i:Nat)=>x / (2 ^ W) ^ (5 - i) % 2 ^ W).map D.int by rw [Sv]; rfl]
  walk_at "ev"
  exact ah (CT (by simp)) rfl
end
noncomputable def sQ (b:Int) (t:aL):D:=.tup [.int (pk b t.1),.int t.2]
noncomputable def xH:Fn:=λds r=>∃ (L:List aL) (W:Nat),W<=10/\L.length<=400000/\(∀ t∈L,Bd (2 ^ W) t.1)/\ds=[.lst (L.map aW),.int (W:Nat)]/\r=.ok (.ow (L.map (sQ (2 ^ W))))
theorem KI {L:List aL} (h:W<=10) (h1:L.length<=400000) (h2:∀ t∈L,Bd (2 ^ W) t.1):xH [.lst (L.map aW),.int (W:Nat)] (.ok (.ow (L.map (sQ (2 ^ W))))):=⟨L,W,h,h1,h2,rfl,rfl⟩
section
local macro_rules | `(tactic| walk_at "evCa")=> `(tactic| first | with_reducible refine ak (F:=Gs) (by assumption) (by decide) ?_)
theorem Gv (Fu:cU K "packed" "packed" (top 17) f fd) (T:Txt K mg) (h1:bN P w K mg base 1 "key_of" Gs):aU P w K mg base (cF P w) 2 f fd ["some","width"] (cR K xH):=by
 refine bH Fu zw (by rintro ds r ⟨L,W,_,_,_,rfl,_⟩; rfl) (by rintro ds r ⟨L,W,_,_,_,_,rfl⟩; exact ⟨_,rfl⟩) λc hq ds sl hF=>?_
 obtain ⟨L,W,hW,hL,hb,rfl,e⟩:=hF
 injection e with e
 subst e
 show aE c _ [.va (.lst (L.map aW)),.va (.int (W:Nat))] _ _
 conv in (aj _)=>whnf
 refine aD (cC (gW hq (N':=["powers","number","width"]) (ρ0:=λ_=>[.un,.un,.va (.int (W:Nat))]) (λt=>.un (.un (.fr (by walk_at "at") (by walk_at "at") (by decide) rfl .nil))) (cu ?_)))
 walk_at "ev"
 ·exact zW (by rw [RB]; lia)
 refine ⟨L.map λt=>some (sQ (2 ^ W) t),by simp,?_,by show Sl.ow _=Sl.ow _; rw [gq]⟩
 intro c' hc t i d o hd ho
 simp only [RO,RV] at hd ho
 obtain ⟨x,hx,rfl⟩:=hd
 obtain ⟨x',hx',rfl⟩:=ho
 rw [hx] at hx'; cases hx'
 have hbx:=hb x (TH hx)
 show oQ c' _ (.tup [.tup (x.1.map .int),.int x.2]) _ _
 walk_at "ev"
 refine ⟨.un (.un (.same .nil)),?_⟩
 simp only [kT]
 refine ⟨λ_=>?_,λh=>by cases h⟩
 walk_at "ev"
 refine ah (NB hW hbx) ?_
 walk_at "ev"
 rfl
end
end
section
variable {P:Program} {w:World} {K:Rr} {mg:Str->Option Value} {base:Heap}
noncomputable def KJ:OM:=λkvs ds Z=>∃ (ts A B:List aL) (W:Nat),W<=10/\ts.length+A.length * B.length<=400000/\A.length<=400000/\B.length<=400000/\(∀ t∈ts,Bd (2 ^ W) t.1)/\(∀ l∈A,∀ r∈B,Bd (2 ^ W) (cI l.1 r.1)/\EV.MulOk l.2 r.2) /\
 kvs=ck ((aX ts).map (gj (2 ^ W)))/\ds=[.lst (A.map (sQ (2 ^ W))),.lst (B.map (sQ (2 ^ W)))]/\Z=λkvs'=>kvs'=ck ((aX (ts++aP A B)).map (gj (2 ^ W)))
section
local macro_rules | `(tactic| walk_at "evS")=> `(tactic| first | ((with_reducible show fX _ (Wt (Tv (RQ _ _) _ _) WE _ _) _ _ _); with_reducible refine vZ (by walk_at "at") (by walk_at "at") ?_ (ho:=by walk_at "own")))
theorem KL (Fu:cU K "add_products" "add_products" (top 19) f fd) (T:Txt K mg):aU P w K mg base (cF P w) 1 f fd ["total","left","right"] (J7 K KJ):=by
 refine Nl Fu jW (by rintro kvs ds Z ⟨t0,A,B,W,_,_,_,_,_,_,_,rfl,_⟩; rfl) λc hq q kvs ds Z hF=>?_
 obtain ⟨t0,A,B,W,hW,hl,hA,hB,hb0,hp,rfl,rfl,rfl⟩:=hF
 have e00:t0=t0++aP (A.take 0) B:=by show t0=t0++[]; rw [SJ]
 rw [show ck ((aX t0).map (gj (2 ^ W)))=ck ((aX (t0++aP (A.take 0) B)).map (gj (2 ^ W))) by rw [<- e00]]
 show aE c _ [.aK q (ck ((aX (t0++aP (A.take 0) B)).map (gj (2 ^ W)))),.va (.lst (A.map (sQ (2 ^ W)))),.va (.lst (B.map (sQ (2 ^ W)))),.un,.un,.un,.un,.un] _ _
 conv in (aj _)=>whnf
 walk_at "ev"
 with_reducible refine cP hq (cu ?_)
 walk_at "ev"
 refine ⟨λi ρ'=>∃ s3 s4 s5 s6 s7:Sl,ρ'=[.aK q (ck ((aX (t0++aP (A.take i) B)).map (gj (2 ^ W)))),.va (.lst (A.map (sQ (2 ^ W)))),.va (.lst (B.map (sQ (2 ^ W)))),s3,s4,s5,s6,s7],⟨_,_,_,_,_,rfl⟩,?_,?_⟩
 ·rintro c' m5 vv vz i d ρ' hd ⟨s3,s4,s5,s6,s7,rfl⟩
  simp only [RO,RV] at hd
  obtain ⟨l,hlx,rfl⟩:=hd
  obtain ⟨hi,rfl⟩:=RJ.mp hlx
  have hq':c'.X.xe=λ_ _=>False:=by rw [m5]; exact hq
  show oQ c' _ (.tup [.int (pk (2 ^ W) A[i].1),.int A[i].2]) _ _
  walk_at "ev"
  with_reducible refine cP hq' (cu ?_)
  walk_at "ev"
  have hpi:=hp A[i] (Sg hi)
  have e0:t0++aP (A.take (i+1)) B=(t0++aP (A.take i) B)++B.map (fP A[i]):=by
   rw [S0 hi,yZ,R4]
  have hprev:∀ t∈t0++aP (A.take i) B,Bd (2 ^ W) t.1:=λt ht=>by
   rcases R5.mp ht with z | z
   ·exact hb0 t z
   ·obtain ⟨l,hl,r,hr,rfl⟩:=gm z
    exact (hp l (U6 hl) r hr).1
  have hlen:(t0++aP (A.take i) B).length+B.length<=400000:=by
   rw [R3,fC,Sq,VC (by lia),VI,<- Vj]
   exact Rz (Nat.add_le_add_left (Nat.mul_le_mul_right _ (by lia)) _) hl
  generalize A[i]=l at hpi e0 |-
  generalize t0++aP (A.take i) B=ts at e0 hprev hlen |-
  refine ⟨λj ρ'=>∃ s5 s6 s7:Sl,ρ'=[.aK q (ck ((aX (ts++(B.take j).map (fP l))).map (gj (2 ^ W)))),.va (.lst (A.map (sQ (2 ^ W)))),.va (.lst (B.map (sQ (2 ^ W)))),.va (.int (pk (2 ^ W) l.1)),.va (.int l.2),s5,s6,s7],⟨s5,s6,s7,by simp⟩,?_,?_⟩
  ·rintro c2 hcX2 hcR2 hcM2 j d ρ' hd ⟨s5,s6,s7,rfl⟩
   simp only [RO,RV] at hd
   obtain ⟨r,hrx,rfl⟩:=hd
   obtain ⟨hj,rfl⟩:=RJ.mp hrx
   obtain ⟨hb,hm⟩:=hpi B[j] (Sg hj)
   have e1:ts++(B.take (j+1)).map (fP l)=(ts++(B.take j).map (fP l))++[fP l B[j]]:=by
    rw [S0 hj,Si,R4]; rfl
   have hprev2:∀ t∈ts++(B.take j).map (fP l),Bd (2 ^ W) t.1:=λt ht=>by
    rcases R5.mp ht with z | z
    ·exact hprev t z
    ·obtain ⟨r,hr,rfl⟩:=Sb.mp z
     exact (hpi r (U6 hr)).1
   have hlen2:(ts++(B.take j).map (fP l)).length<400000:=by
    rw [R3,RB,Sq]; lia
   have key:=Kn (two_pos W) hprev2 (t:=fP l B[j]) hb
   rw [<- e1] at key
   generalize ts++(B.take j).map (fP l)=us at key hlen2 |-
   generalize B[j]=r at key hb hm |-
   show oQ c2 _ (.tup [.int (pk (2 ^ W) r.1),.int r.2]) _ _
   have ek:pk (2 ^ W) (fP l r).1=pk (2 ^ W) l.1+pk (2 ^ W) r.1:=F7 _ _ _
   rw [ek] at key
   have hC:(ck ((aX us).map (gj (2 ^ W)))).length<sizeLine:=dO (by
    have:=gF us
    simp only [ck,RB]; lia)
   generalize (aX us).map (gj (2 ^ W))=C at key hC |-
   walk_at "ev"
   refine Ht (by walk_at "at") (by walk_at "at") ?_
   walk_at "ev"
   refine ⟨_,.k rfl rfl,?_⟩
   rw [fy]
   cases hv:aY C (pk (2 ^ W) l.1+pk (2 ^ W) r.1) with
   | some m =>
    rw [hv] at key
    show jR _ _ true
    walk_at "ev"
    refine ⟨m,by rw [<- show aY (ck C) (.inl (pk (2 ^ W) l.1+pk (2 ^ W) r.1))=some (D.int m) by rw [fy,hv]; rfl]; exact .k rfl rfl,?_⟩
    walk_at "ev"
    refine ⟨_,.k rfl rfl hC,?_⟩
    walk_at "ev"
    refine ⟨.va (.int (pk (2 ^ W) r.1)),.va (.int r.2),.va (.int (pk (2 ^ W) l.1+pk (2 ^ W) r.1)),?_⟩
    show [Sl.aK q (putD (ck C) (.inl (pk (2 ^ W) l.1+pk (2 ^ W) r.1)) (.int (m+l.2 * r.2))),_,_,_,_,_,_,_]=_
    rw [lM,show putD C (pk (2 ^ W) l.1+pk (2 ^ W) r.1) (m+l.2 * r.2)=_ from key]
   | none =>
    rw [hv] at key
    show jR _ _ false
    walk_at "ev"
    refine ⟨_,.k rfl rfl hC,?_⟩
    walk_at "ev"
    refine ⟨.va (.int (pk (2 ^ W) r.1)),.va (.int r.2),.va (.int (pk (2 ^ W) l.1+pk (2 ^ W) r.1)),?_⟩
    show [Sl.aK q (putD (ck C) (.inl (pk (2 ^ W) l.1+pk (2 ^ W) r.1)) (.int (l.2 * r.2))),_,_,_,_,_,_,_]=_
    rw [lM,<- VN (l.2 * r.2),show putD C (pk (2 ^ W) l.1+pk (2 ^ W) r.1) (0+l.2 * r.2)=_ from key]
  ·rintro ρ' ⟨s5,s6,s7,rfl⟩
   rw [RB,SX,<- e0]
   walk_at "ev"
   exact ⟨_,_,_,_,_,rfl⟩
 ·rintro ρ' ⟨s3,s4,s5,s6,s7,rfl⟩
  rw [RB,SX]
  walk_at "ev"
  exact ⟨_,_,rfl,rfl⟩
end
noncomputable def Gw (C:List (Int×Int)):D:=.fdK ((ck C).map (·.1)) ((ck C).map (·.2))
theorem C3 (C):(ck C).map (·.1)=(C.map (·.1)).map R0:=by unfold ck; rw [Sv,Sv]; rfl
noncomputable def Gx:Fn:=λds r=>∃ (ts:List aL) (W:Nat),W<=10/\ts.length<=400000/\(∀ t∈ts,Bd (2 ^ W) t.1)/\ds=[Gw ((aX ts).map (gj (2 ^ W))),.int (W:Nat)]/\r=.ok (.ow ((bX ts).map aW))
theorem NC (h:W<=10) (h1:ts.length<=400000) (h2:∀ t∈ts,Bd (2 ^ W) t.1):Gx [Gw ((aX ts).map (gj (2 ^ W))),.int (W:Nat)] (.ok (.ow ((bX ts).map aW))):=⟨ts,W,h,h1,h2,rfl,rfl⟩
theorem u0 (h:jU ltI true L):L.Pairwise λx y=>y<x:=by
 unfold jU at h
 exact h.imp λ{x y} q=>by simpa using q
section
local macro_rules | `(tactic| walk_at "evIx")=> `(tactic| with_reducible refine Cu ?_)
local macro_rules | `(tactic| walk_at "evCa")=> `(tactic| first | with_reducible refine ak (F:=xG) (by assumption) (by decide) ?_)
theorem KN (Fu:cU K "unpacked" "unpacked" (top 18) f fd) (T:Txt K mg) (h1:bN P w K mg base 2 "powers_of" xG):aU P w K mg base (cF P w) 3 f fd ["total","width"] (cR K Gx):=by
 refine bH Fu sJ (by rintro ds r ⟨ts,W,_,_,_,rfl,_⟩; rfl) (by rintro ds r ⟨ts,W,_,_,_,_,rfl⟩; exact ⟨_,rfl⟩) λc hq ds sl hF=>?_
 obtain ⟨ts,W,hW,hl,hb,rfl,e⟩:=hF
 injection e with e
 subst e
 show aE c _ [.va (Gw ((aX ts).map (gj (2 ^ W)))),.va (.int (W:Nat))] _ _
 conv in (aj _)=>whnf
 refine aD (cC (gW hq (N':=["key","total","width"]) (ρ0:=λ_=>[.un,.va (Gw ((aX ts).map (gj (2 ^ W)))),.va (.int (W:Nat))]) (λt=>.un (.fr (by walk_at "at") (by walk_at "at") (by decide) rfl (.fr (by walk_at "at") (by walk_at "at") (by decide) rfl .nil))) (cu (e_x (uK (Txt.sorted T) ?_)))))
 walk_at "ev"
 have hk:=fu ts
 have hg:=pU hb
 have nd:(((aX ts).map (gj (2 ^ W))).map (·.1)).Nodup:=by
  rw [Sv]
  unfold List.Nodup at hk |-
  rw [Vy] at hk |-
  exact XY.imp_of_mem (λ{x y} hx hy q z=>q (uL (two_pos W) (hg x hx).1 (hg y hy).1 (hg x hx).2 (hg y hy).2 z)) hk
 refine ⟨((aX ts).map (gj (2 ^ W))).map (·.1),_,by rw [<- C3]; rfl,nd,λL' hp hs=>?_⟩
 have eL:=Cp (two_pos W) hb hp (u0 hs)
 subst eL
 have hle:=gF ts
 have hpl:=(bZ (aX ts)).length_eq
 refine bF (M4 rfl ⟨zW (by simp only [RB]; lia),(jx (aX ts)).map CV,by simp,?_,?_⟩)
 ·intro c' hc t i d o hd ho
  simp only [RO,RV] at hd ho
  obtain ⟨n,⟨x,hx,rfl⟩,rfl⟩:=hd
  obtain ⟨x',hx',rfl⟩:=ho
  rw [hx] at hx'; cases hx'
  have hm:x∈aX ts:=(bZ (aX ts)).subset (TH hx)
  have hv:aY (ck ((aX ts).map (gj (2 ^ W)))) (.inl (pk (2 ^ W) x.1))=some (.int x.2):=by
   rw [fy,uM (two_pos W) hg (hg x hm).1 (hg x hm).2,xq hk hm]; rfl
  refine di (by walk_at "at") (j5 (by walk_at "sset") ⟨.un (.same (.same .nil)),?_⟩)
  simp only [kT]
  have h0:=(Nr (two_pos W) (hg x hm).1).1
  walk_at "ev"
  refine ⟨_,_,_,rfl,rfl,hv,?_⟩
  walk_at "ev"
  ·unfold CV; rw [if_neg λh=>h (by assumption)]
  refine ah (KH hW h0) ?_
  rw [Kh (two_pos W) (hg x hm).1,(hg x hm).2]
  walk_at "ev"
  refine ⟨_,_,_,rfl,rfl,hv,?_⟩
  walk_at "ev"
  unfold CV
  rw [if_pos (by assumption)]
 ·show Sl.ow _=Sl.ow _
  rw [kh,J3 (keys_nodup hk)]
  rfl
end
structure QM (A B:List aL):Prop where
 la:A.length<=400000
 lb:B.length<=400000
 lp:A.length * B.length<=400000
 pa:∀ t∈A,t.1.length<=6/\∀ x∈t.1,0<=x/\x<=500
 pb:∀ t∈B,t.1.length<=6/\∀ x∈t.1,0<=x/\x<=500
 mu:∀ l∈A,∀ r∈B,EV.MulOk l.2 r.2
theorem xJ:∀ {L:List aL} (a:Int),a<=m->(∀ t∈L,bz t.1 k<=m)->L.foldl (λa t=>if bz t.1 k>a then bz t.1 k else a) a<=m
 | [],_,h,_=>h
 | t::L,a,h,q=>by
  rw [Tg]
  have:=q t RD
  exact xJ _ (by split <;> lia) λu hu=>q u (RH _ hu)
theorem Dc (h0:0<=m) (h:∀ t∈L,∀ x∈t.1,x<=m):Eh (eE L)<=m:=by
 refine uZ h0 λn hn=>?_
 unfold eE at hn
 obtain ⟨k,_,rfl⟩:=Sb.mp hn
 refine xJ 0 h0 λt ht=>?_
 by_cases z:k<t.1.length
 ·rw [cO z]; exact h t ht _ (Sg _)
 ·rw [cy (by lia)]; exact h0
theorem Dd (ht:t∈L) (hl:t.1.length<=6) (hx:x∈t.1):x<=Eh (eE L):=by
 obtain ⟨k,hk,rfl⟩:=List.getElem_of_mem hx
 refine R6 ?_ (C1 (show gk L k∈eE L from Sb.mpr ⟨k,by simp; lia,rfl⟩))
 unfold gk
 rw [<- cO hk]
 suffices H:∀ a:Int,bz t.1 k<=L.foldl (λa t=>if bz t.1 k>a then bz t.1 k else a) a from H 0
 induction L with
 | nil=>cases ht
 | cons u L ih =>
  intro a
  rw [Tg]
  rcases RL.mp ht with rfl | ht
  ·refine R6 ?_ (qb L k _)
   split <;> lia
  ·exact ih ht _
theorem Gy (h:0<=x):x<2 ^ SE x:=by
 unfold SE
 by_cases z:x=0
 ·subst z; decide
 ·have e:(x == 0)=false:=by simpa using z
  rw [e,if_neg RG,gH]
  have:=Nat.lt_log2_self (n:=x.natAbs)
  lia
theorem bits_le (h:x.natAbs<1024):SE x<=10:=by
 unfold SE
 by_cases z:x=0
 ·subst z; decide
 ·have e:(x == 0)=false:=by simpa using z
  rw [e,if_neg RG]
  have:=(WO (n:=x.natAbs) (k:=10) (by lia)).mpr h
  lia
end
section
variable {P:Program} {w:World} {K:Rr} {mg:Str->Option Value} {base:Heap}
noncomputable abbrev Part:=Int×List (List aL)
noncomputable def au (A:List aL):D:=.lst (A.map aW)
noncomputable def gr (p:Part):D:=.tup (.int p.1::p.2.map au)
noncomputable def dY (n:Int) (As:List (List aL)):List aL:=As.foldl aP (cT n)
noncomputable def fU (ps:List Part):List aL:=ps.flatMap λp=>dY p.1 p.2
noncomputable def cJ (As:List (List aL)):Nat:=(As.map λA=>max A.length 1).foldr (· * ·) 1
noncomputable def mz (A:List aL):Int:=Eh (eE A)
noncomputable def xK (As:List (List aL)):MP:=(As.map mp).foldr (· * ·) 1
theorem De (As):∀ L:List aL,mp (As.foldl aP L)=mp L * xK As:=by
 induction As with
 | nil=>intro L; show mp L=mp L * 1; grind
 | cons A As ih =>
  intro L
  rw [Tg,ih,CG]
  show _=mp L * (mp A * xK As)
  grind
theorem lW (n) (As):mp (dY n As)=(n:MP) * xK As:=by unfold dY; rw [De,uR]
theorem Df (h:As.Perm Bs):xK As=xK Bs:=by
 induction h with
 | nil=>rfl
 | cons x _ ih=>exact congrArg (mp x * ·) ih
 | swap x y l=>show mp y * (mp x * xK l)=mp x * (mp y * xK l); grind
 | trans _ _ a b=>rw [a,b]
theorem Dg (As) (A):xK (As++[A])=xK As * mp A:=by
 induction As with
 | nil=>show mp A * 1=1 * mp A; grind
 | cons B As ih=>show mp B * xK (As++[A])=mp B * xK As * mp A; rw [ih]; grind
theorem zC (h:As.Perm Bs):cJ As=cJ Bs:=by
 unfold cJ
 induction h with
 | nil=>rfl
 | cons x _ ih=>simp only [RC,VF] at ih |-; rw [ih]
 | swap x y l=>simp only [RC,VF]; rw [Nat.mul_left_comm]
 | trans _ _ a b=>rw [a,b]
theorem zD (As) (A):cJ (As++[A])=cJ As * max A.length 1:=by
 unfold cJ
 induction As with
 | nil=>simp
 | cons B As ih=>simp only [Uk,RC,VF] at ih |-; rw [ih,WA]
theorem Dh (As):1<=cJ As:=by
 unfold cJ
 induction As with
 | nil=>exact Rv _
 | cons B As ih=>simp only [RC,VF]; exact TZ (m₁:=1) (n₁:=1) (by lia) ih
theorem zE (As) (i):cJ (As.take i)<=cJ As:=by
 induction As generalizing i with
 | nil=>simp
 | cons B As ih =>
  cases i with
  | zero=>exact Dh _
  | succ i =>
   have:=ih i
   unfold cJ at *
   simp only [List.take_succ_cons,RC,VF]
   exact TQ _ this
def Ex (m:Int) (L:List aL):Prop:=∀ t∈L,t.1.length<=6/\∀ x∈t.1,0<=x/\x<=m
def Bn (m:Nat) (L:List aL):Prop:=∀ t∈L,t.2.natAbs<2 ^ m
theorem Ex.bd (h:Ex m L) (hm:m<2 ^ W):∀ t∈L,Bd (2 ^ W) t.1:=λt ht=>⟨(h t ht).1,λx hx=>⟨((h t ht).2 x hx).1,Wa ((h t ht).2 x hx).2 hm⟩⟩
theorem Di (h0:0<=m) (h:∀ x∈p,0<=x/\x<=m) (k):0<=bz p k/\bz p k<=m:=by
 by_cases z:k<p.length
 ·rw [cO z]; exact h _ (Sg _)
 ·rw [cy (by lia)]; lia
theorem Gz (h0:0<=m) (g0:0<=n) (hp:p.length<=6/\∀ x∈p,0<=x/\x<=m) (hq:q.length<=6/\∀ x∈q,0<=x/\x<=n):(cI p q).length<=6/\∀ x∈cI p q,0<=x/\x<=m+n:=by
 refine ⟨by rw [lN]; lia,λx hx=>?_⟩
 unfold cI at hx
 obtain ⟨k,_,rfl⟩:=Sb.mp hx
 have:=Di h0 hp.2 k
 have:=Di g0 hq.2 k
 lia
theorem Ex.prod (h0:0<=m) (g0:0<=n) (h:Ex m A) (g:Ex n B):Ex (m+n) (aP A B):=λt ht=>by
 obtain ⟨l,hl,r,hr,rfl⟩:=gm ht
 exact Gz h0 g0 (h l hl) (g r hr)
theorem Ex.sum (h:Ex m L):Ex m (aX L):=by
 unfold aX
 suffices H:∀ (ts A:List aL),Ex m A->Ex m ts->Ex m (ts.foldl fO A) from H L [] (λt ht=>by cases ht) h
 intro ts
 induction ts with
 | nil=>exact λA hA _=>hA
 | cons u ts ih =>
  refine λA hA hts=>ih _ (λt ht=>?_) λt ht=>hts t (RH _ ht)
  rcases sD ht with rfl | q
  ·have:=hts u RD
   exact ⟨Rz (gh _) this.1,λx hx=>this.2 x (sj hx)⟩
  ·exact hA t q
theorem Ex.mono (h:Ex m L) (hn:m<=n):Ex n L:=λt ht=>⟨(h t ht).1,λx hx=>⟨((h t ht).2 x hx).1,R6 ((h t ht).2 x hx).2 hn⟩⟩
theorem Ex.app (h:Ex m A) (g:Ex m B):Ex m (A++B):=λt ht=>(R5.mp ht).elim (h t) (g t)
theorem Bn.mono (h:Bn m L) (hn:m<=n):Bn n L:=λt ht=>R8 (h t ht) (SD (by decide) hn)
theorem Bn.prod (h:Bn m A) (g:Bn n B):Bn (m+n) (aP A B):=λt ht=>by
 obtain ⟨l,hl,r,hr,rfl⟩:=gm ht
 show (l.2 * r.2).natAbs<_
 rw [Uo,UR]
 exact Nat.mul_lt_mul'' (h l hl) (g r hr)
theorem Bn.sum (h:Bn m L) (hl:L.length<2 ^ 20):Bn (m+20) (aX L):=λt ht=>by
 have:=Kq (m:=2 ^ m) (λt ht=>SY (h t ht)) t ht
 refine Tc this ?_
 rw [UR,Nat.mul_comm]
 exact Nat.mul_lt_mul_of_pos_left hl (Nat.two_pow_pos m)
theorem xM (h:a.natAbs<2 ^ m):SE a<=m+1:=by
 unfold SE
 by_cases z:a=0
 ·subst z; simp
 ·have e:(a == 0)=false:=by simpa using z
  rw [e,if_neg RG]
  have:=(WO (n:=a.natAbs) (k:=m) (by lia)).mpr h
  lia
theorem u5 (h:a.natAbs<2 ^ m) (g:b.natAbs<2 ^ n) (hm:m+n<=1000000):EV.MulOk a b:=by
 have h1:=xM h
 have h2:=xM g
 unfold EV.MulOk IntMulOk Builtin.Int.intTooBig bitsLine
 have e:decide (((SE a+SE b:Nat):Int)>((2 ^ 27:Nat):Int))=false:=by
  apply decide_eq_false
  rw [show (2:Nat) ^ 27=134217728 by decide]
  lia
 simp only [Vd]
 rintro ⟨_,z⟩
 have z':=of_decide_eq_true z
 rw [show (2:Nat) ^ 27=134217728 by decide] at z'
 lia
structure eF (A:List aL):Prop where
 l:A.length<=400000
 e:Ex 120 A
 b:Bn 2000 A
structure gu (p:Part):Prop where
 n:p.1.natAbs<2 ^ 2000
 m:p.2.length<=8
 f:∀ A∈p.2,eF A
structure aA (ps:List Part):Prop where
 p:∀ p∈ps,gu p
 l:ps.length<=1000
 s:(ps.map λp=>cJ p.2).sum<=400000
theorem Dj (A):0<=mz A:=HL _
theorem eF.mx (h:eF A):mz A<=120:=Dc (by decide) λt ht x hx=>((h.e t ht).2 x hx).2
theorem eF.ex (h:eF A):Ex (mz A) A:=λt ht=>⟨(h.e t ht).1,λx hx=>⟨((h.e t ht).2 x hx).1,Dd ht (h.e t ht).1 hx⟩⟩
noncomputable def qu (p:Part):Int:=(p.2.map mz).sum
theorem xN (As:List (List aL)):0<=(As.map mz).sum:=by
 induction As with
 | nil=>exact SK _
 | cons A As ih=>rw [RC,UK]; have:=Dj A; lia
theorem gu.sz (h:gu p):qu p<=960:=by
 have:∀ As:List (List aL),(∀ A∈As,eF A)->(As.map mz).sum<=120 * As.length:=λAs=>by
  induction As with
  | nil=>exact λ_=>by simp
  | cons A As ih =>
   intro hA
   have:=ih λB hB=>hA B (RH _ hB)
   have:=(hA A RD).mx
   rw [RC,UK,Sf]; lia
 have h1:=this p.2 h.f
 have h2:=h.m
 unfold qu
 lia
noncomputable def gv (ps:List Part):Int:=ps.foldl (λm p=>if qu p>m then qu p else m) 0
theorem n9 (ps:List Part):∀ m:Int,m<=ps.foldl (λm p=>if qu p>m then qu p else m) m:=by
 induction ps with
 | nil=>exact λm=>SK _
 | cons p ps ih=>intro m; rw [Tg]; refine R6 ?_ (ih _); split <;> lia
theorem GA (h:p∈ps):qu p<=gv ps:=by
 unfold gv
 suffices H:∀ m:Int,qu p<=ps.foldl (λm p=>if qu p>m then qu p else m) m from H 0
 induction ps with
 | nil=>cases h
 | cons q ps ih =>
  intro m
  rw [Tg]
  rcases RL.mp h with rfl | h
  ·refine R6 ?_ (n9 ps _)
   split <;> lia
  ·exact ih h _
theorem GB (h:∀ p∈ps,gu p):gv ps<=960:=by
 unfold gv
 suffices H:∀ m:Int,m<=960->ps.foldl (λm p=>if qu p>m then qu p else m) m<=960 from H 0 (by decide)
 induction ps with
 | nil=>exact λm hm=>hm
 | cons q ps ih =>
  intro m hm
  rw [Tg]
  refine ih (λp hp=>h p (RH _ hp)) _ ?_
  have:=(h q RD).sz
  split <;> lia
noncomputable def Dk (ps:List Part):Nat:=SE (gv ps)
theorem GC (h:∀ p∈ps,gu p):Dk ps<=10/\∀ p∈ps,qu p<2 ^ Dk ps:=by
 have h0:0<=gv ps:=n9 ps 0
 have h1:=GB h
 exact ⟨bits_le (by lia),λp hp=>Wa (GA hp) (Gy h0)⟩
theorem i8 (x:α) (xs):EV.cutD (x::xs) (some 1) none=xs:=by
 unfold EV.cutD HT.b9; simp
noncomputable def GD:Fn:=λds r=>∃ ps:List Part,(∀ p∈ps,gu p)/\ds=[.lst (ps.map gr)]/\r=.ok (.va (.int (Dk ps:Nat)))
theorem ND (h:∀ p∈ps,gu p):GD [.lst (ps.map gr)] (.ok (.va (.int (Dk ps:Nat)))):=⟨ps,h,rfl,rfl⟩
section
local macro_rules | `(tactic| walk_at "evMt")=> `(tactic| with_reducible refine J8 ?_)
local macro_rules | `(tactic| walk_at "evCa")=> `(tactic| first
 | ((with_reducible show aG _ (Sx (RQ "max" _) [_] _ _) _ _); with_reducible refine Ka (Txt.max (by assumption)) ?_)
 | ((with_reducible show aG _ (Sx (RQ "max" _) [_,_] _ _) _ _); with_reducible refine J6 (Txt.max (by assumption)) ?_)
 | ((with_reducible show aG _ (Sx (RQ "sum" _) _ _ _) _ _); with_reducible refine Kc (Txt.sum (by assumption)) ?_)
 | with_reducible refine ak (F:=iw) (by assumption) (by decide) ?_)
theorem KO (Fu:cU K "width_of" "width_of" (top 24) f fd) (T:Txt K mg) (h1:bN P w K mg base 1 "greatest_powers" iw):aU P w K mg base (cF P w) 2 f fd ["parts"] (cR K GD):=by
 refine bH Fu sM (by rintro ds r ⟨ps,_,rfl,_⟩; rfl) (by rintro ds r ⟨ps,_,_,rfl⟩; exact ⟨_,rfl⟩) λc hq ds sl hF=>?_
 obtain ⟨ps,hp,rfl,e⟩:=hF
 injection e with e
 subst e
 show aE c _ [.va (.lst (ps.map gr)),.un,.un] _ _
 conv in (aj _)=>whnf
 walk_at "ev"
 with_reducible refine cP hq (cu ?_)
 walk_at "ev"
 refine ⟨λi ρ'=>∃ s2:Sl,ρ'=[.va (.lst (ps.map gr)),.va (.int (gv (ps.take i))),s2],⟨_,rfl⟩,?_,?_⟩
 ·rintro c' m5 vv vz i d ρ' hd ⟨s2,rfl⟩
  simp only [RO,RV] at hd
  obtain ⟨p,hpx,rfl⟩:=hd
  obtain ⟨hi,rfl⟩:=RJ.mp hpx
  have hpo:=hp ps[i] (Sg hi)
  have eg:gv (ps.take (i+1))=if qu ps[i]>gv (ps.take i) then qu ps[i] else gv (ps.take i):=by
   unfold gv; rw [S0 hi,Vz]; rfl
  generalize ps[i]=p at hpo eg |-
  show oQ c' _ (.tup (.int p.1::p.2.map au)) _ _
  walk_at "ev"
  refine e_x (gW (show c'.X.xe=iB by rw [m5]; exact hq) (N':=["some"]) (ρ0:=λ_=>[.un]) (λt=>.un .nil) (cu ?_))
  walk_at "ev"
  ·rw [i8,RB]; exact zW (by have:=hpo.m; lia)
  rw [i8]
  refine ⟨p.2.map λA=>some (.int (mz A)),by simp,?_,bF ?_⟩
  ·intro c2 hc2 t j d o hd ho
   simp only [RO,RV] at hd ho
   obtain ⟨A,hA,rfl⟩:=hd
   obtain ⟨A',hA',rfl⟩:=ho
   rw [hA] at hA'; cases hA'
   have hf:=hpo.f A (TH hA)
   refine di (by walk_at "at") (j5 (by walk_at "sset") ⟨.un .nil,?_⟩)
   simp only [kT]
   refine ⟨λ_=>?_,λh=>by cases h⟩
   show aG c2 _ [.va (.lst (A.map aW))] _
   walk_at "ev"
   refine ah (xF λt ht=>(hf.e t ht).1) (bF ⟨eE A,by simp [eE],rfl,λm ⟨m1,m2⟩=>?_⟩)
   rw [C2 m1 m2]; rfl
  ·rw [gq]
   refine ⟨p.2.map mz,by rw [Sv]; rfl,?_⟩
   walk_at "ev"
   refine ⟨.va (gr p),?_⟩
   rw [eg]; rfl
 ·rintro ρ' ⟨s2,rfl⟩
  rw [RB,SX]
  walk_at "ev"
  rfl
end
end
section
variable {K:Rr}
noncomputable def zF:Fn:=λds r=>∃ a b:Int,b≠0/\Pz b/\ds=[.int a,.int b]/\r=.ok (.va (dH a b))
theorem u6 (hb:b≠0) (h:Pz b):zF [.int a,.int b] (.ok (.va (dH a b))):=⟨a,b,hb,h,rfl,rfl⟩
section
local macro_rules | `(tactic| walk_at "evBo")=> `(tactic| with_reducible refine E1 ?_)
theorem NF (Fu:cU K "_law_fraction" "_law_fraction" (top 50) f fd) (T:Txt K mg):aU P w K mg base (cF P w) 1 f fd ["_law_top","_law_bottom"] (cR K zF):=by
 refine bH Fu mY (by rintro ds r ⟨a,b,_,_,rfl,_⟩; rfl) (by rintro ds r ⟨a,b,_,_,_,rfl⟩; exact ⟨_,rfl⟩) λc hq ds sl hF=>?_
 obtain ⟨a,b,hb,hs,rfl,e⟩:=hF
 injection e with e
 subst e
 show aE c _ [.va (.int a),.va (.int b),.un,.un] _ _
 conv in (aj _)=>whnf
 walk_at "ev"
 with_reducible refine iF hq (λm ρ'=>∃ x y:Int,0<=x/\0<=y/\m=y.toNat/\RA x y=RA a b/\ρ'=[.va (.int a),.va (.int b),.va (.int x),.va (.int y)]) (m₀:=b.natAbs) ?_ ?_
 ·refine ⟨_,_,?_,?_,?_,?_,rfl⟩
  ·split <;> lia
  ·split <;> lia
  ·split <;> lia
  ·split <;> split <;> simp
 ·rintro m ρ' ⟨x,y,hx,hy,rfl,hg,rfl⟩
  have hG:=wj (a:=a) hs hb
  have hp:0<RA a b:=UY a hb
  have done:¬0<y->x=RA a b:=λh=>by
   have:y=0:=by lia
   subst this
   simp at hg
   lia
  walk_at "ev"
  ·show ∃ _,_
   refine ⟨_,?_,_,_,hy,?_,rfl,?_,rfl⟩
   ·have:=Xu x (b:=y) (by lia); have:=VG x (b:=y) (by lia); lia
   ·exact VG _ (by lia)
   ·rw [<- hg,qY]
  all_goals have e:=done (by assumption)
  all_goals subst e
  all_goals first
   | exact ⟨by lia,by rw [show (0 - (RA a b:Int)).natAbs=(RA a b:Int).natAbs by lia]; exact hG⟩
   | exact ⟨by lia,hG⟩
   | (show Sl.va _=Sl.va _; unfold dH nT nB cV; first | rw [if_pos (by assumption)] | rw [if_neg (by assumption)])
end
noncomputable def GF:Fn:=λds r=>∃ a b:Int,ds=[.int a,.int b]/\r=.ok (.va (.int (RA a b)))
theorem NG (a b):GF [.int a,.int b] (.ok (.va (.int (RA a b)))):=⟨a,b,rfl,rfl⟩
theorem KP (Fu:cU K "common_divisor" "common_divisor" (top 4) f fd) (T:Txt K mg):aU P w K mg base (cF P w) 1 f fd ["one","other"] (cR K GF):=by
 refine bH Fu iZ (by rintro ds r ⟨a,b,rfl,_⟩; rfl) (by rintro ds r ⟨a,b,_,rfl⟩; exact ⟨_,rfl⟩) λc hq ds sl hF=>?_
 obtain ⟨a,b,rfl,e⟩:=hF
 injection e with e
 subst e
 show aE c _ [.va (.int a),.va (.int b),.un] _ _
 conv in (aj _)=>whnf
 walk_at "ev"
 with_reducible refine iF hq (λm ρ'=>∃ (x y:Int) (s:Sl),0<=x/\0<=y/\m=y.toNat/\RA x y=RA a b/\ρ'=[.va (.int x),.va (.int y),s]) (m₀:=b.natAbs) ?_ ?_
 ·refine ⟨_,_,_,?_,?_,?_,?_,rfl⟩
  ·split <;> lia
  ·split <;> lia
  ·split <;> lia
  ·split <;> split <;> simp
 ·rintro m ρ' ⟨x,y,s,hx,hy,rfl,hg,rfl⟩
  walk_at "ev"
  ·show Sl.va _=Sl.va _
   subst_vars
   simp at hg |-
   lia
  ·show ∃ _,_
   refine ⟨_,?_,_,_,_,hy,?_,rfl,?_,rfl⟩
   ·have:=Xu x (b:=y) (by lia); have:=VG x (b:=y) (by lia); lia
   ·exact VG _ (by lia)
   ·rw [<- hg,qY]
section
local macro_rules | `(tactic| walk_at "evCa")=> `(tactic| with_reducible refine ak (F:=GF) (by assumption) (by decide) ?_)
local macro_rules | `(tactic| walk_at "evR")=> `(tactic| with_reducible refine ah (NG _ _) ?_)
theorem NH (Fu:cU K "fraction_of" "fraction_of" (top 5) f fd) (T:Txt K mg) (hg:bN P w K mg base 1 "common_divisor" GF):aU P w K mg base (cF P w) 2 f fd ["top","bottom"] (cR K zF):=by
 refine bH Fu lO (by rintro ds r ⟨a,b,_,_,rfl,_⟩; rfl) (by rintro ds r ⟨a,b,_,_,_,rfl⟩; exact ⟨_,rfl⟩) λc hq ds sl hF=>?_
 obtain ⟨a,b,hb,hs,rfl,e⟩:=hF
 injection e with e
 subst e
 show aE c _ [.va (.int a),.va (.int b),.un] _ _
 conv in (aj _)=>whnf
 have hG:=wj (a:=a) hs hb
 have hp:0<RA a b:=UY a hb
 walk_at "ev"
 ·exact absurd (by assumption:b=0) hb
 ·exact ⟨by simp only [VQ,VP]; lia,by simp only [VQ,VP]; exact hG⟩
 ·exact ⟨by simp only [VQ,VP]; lia,by simp only [VQ,VP]; exact hG⟩
 ·show Sl.va _=Sl.va _
  rw [BB (by assumption)]
 ·exact ⟨by lia,hG⟩
 ·exact ⟨by lia,hG⟩
 ·show Sl.va _=Sl.va _
  rw [BC (by lia)]
end
theorem KQ (h:Zs m a) (g:Zs n b):Zs (m+n) (a * b):=by
 rw [fZ] at *
 rw [Uo,UR]
 exact Nat.mul_lt_mul'' h g
theorem NI (h:Zs m a) (l:m<=n):Zs n a:=fZ.mpr (R8 (fZ.mp h) (SD (by decide) l))
theorem HM (h:Zs n a) (l:n<=2600):Pz a:=NI h l
theorem xO (h:Pz a):SE a<=9001:=by
 unfold SE
 by_cases z:a=0
 ·subst z; decide
 ·have e:(a == 0)=false:=by simpa using z
  rw [e,if_neg RG]
  have:=nH (fZ.mp h) (by decide)
  lia
theorem HN (h:Sz a):Pz a:=HM (n:=1299) h (by decide)
theorem KR (h:Pz a) (g:Pz b):EV.MulOk a b:=by
 have h1:=xO h
 have h2:=xO g
 unfold EV.MulOk IntMulOk Builtin.Int.intTooBig bitsLine
 have e:decide (((SE a+SE b:Nat):Int)>((2 ^ 27:Nat):Int))=false:=by
  apply decide_eq_false; lia
 simp only [Vd]
 rintro ⟨_,z⟩
 have z':=of_decide_eq_true z
 lia
theorem KS (h:Sz a) (g:Sz b):EV.MulOk a b:=KR (HN h) (HN g)
theorem ki (h:Sz a) (g:Sz b):Pz (a * b):=HM (KQ (m:=1299) (n:=1299) h g) (by decide)
noncomputable def F4 (f g:Int->Int->Int->Int->Int):Fn:=λds r=>∃ p q p' q':Int,Sz p/\Sz q/\Sz p'/\Sz q'/\g p q p' q'≠0/\ds=[.tup [.int p,.int q],.tup [.int p',.int q']]/\r=.ok (.va (dH (f p q p' q') (g p q p' q')))
noncomputable def lX (p q p' q':Int):Int:=p * q'+p' * q
noncomputable def i9 (p q p' q':Int):Int:=p * q' - p' * q
noncomputable def dQ (p _q p' _q':Int):Int:=p * p'
noncomputable def cK (_p q _p' q':Int):Int:=q * q'
noncomputable def NJ (p _q _p' q':Int):Int:=p * q'
noncomputable def NK (_p q p' _q':Int):Int:=q * p'
theorem NL (hp:Sz p) (hq:Sz q) (hp':Sz p') (hq':Sz q') (z:q * q'≠0):F4 lX cK [.tup [.int p,.int q],.tup [.int p',.int q']] (.ok (.va (dH (p * q'+p' * q) (q * q')))):=⟨p,q,p',q',hp,hq,hp',hq',z,rfl,rfl⟩
theorem KU (hp:Sz p) (hq:Sz q) (hp':Sz p') (hq':Sz q') (z:q * q'≠0):F4 i9 cK [.tup [.int p,.int q],.tup [.int p',.int q']] (.ok (.va (dH (p * q' - p' * q) (q * q')))):=⟨p,q,p',q',hp,hq,hp',hq',z,rfl,rfl⟩
theorem GG (hp:Sz p) (hq:Sz q) (hp':Sz p') (hq':Sz q') (z:q * q'≠0):F4 dQ cK [.tup [.int p,.int q],.tup [.int p',.int q']] (.ok (.va (dH (p * p') (q * q')))):=⟨p,q,p',q',hp,hq,hp',hq',z,rfl,rfl⟩
theorem Qh (hp:Sz p) (hq:Sz q) (hp':Sz p') (hq':Sz q') (z:q * p'≠0):F4 NJ NK [.tup [.int p,.int q],.tup [.int p',.int q']] (.ok (.va (dH (p * q') (q * p')))):=⟨p,q,p',q',hp,hq,hp',hq',z,rfl,rfl⟩
section
local macro_rules | `(tactic| walk_at "evCa")=> `(tactic| with_reducible refine ak (F:=zF) (by assumption) (by decide) ?_)
local macro_rules | `(tactic| walk_at "evL")=> `(tactic| first | ((with_reducible show Sd (EV.MulOk _ _) _); with_reducible refine Sd.mk (KS (by assumption) (by assumption)) ?_))
theorem KW (Fu:cU K "frac_sum" "frac_sum" (top 6) f fd) (hof:bN P w K mg base 2 "fraction_of" zF):aU P w K mg base (cF P w) 3 f fd ["one","other"] (cR K (F4 lX cK)):=by
 refine bH Fu sH (by rintro ds r ⟨p,q,p',q',_,_,_,_,_,rfl,_⟩; rfl) (by rintro ds r ⟨p,q,p',q',_,_,_,_,_,_,rfl⟩; exact ⟨_,rfl⟩) λc hqq ds sl hF=>?_
 obtain ⟨p,q,p',q',hp,hq,hp',hq',hz,rfl,e⟩:=hF
 injection e with e
 subst e
 show aE c _ [.va (.tup [.int p,.int q]),.va (.tup [.int p',.int q'])] _ _
 conv in (aj _)=>whnf
 walk_at "ev"
 exact ah (u6 hz (ki hq hq')) (aJ rfl)
theorem GH (Fu:cU K "frac_less" "frac_less" (top 7) f fd) (hof:bN P w K mg base 2 "fraction_of" zF):aU P w K mg base (cF P w) 3 f fd ["one","other"] (cR K (F4 i9 cK)):=by
 refine bH Fu pV (by rintro ds r ⟨p,q,p',q',_,_,_,_,_,rfl,_⟩; rfl) (by rintro ds r ⟨p,q,p',q',_,_,_,_,_,_,rfl⟩; exact ⟨_,rfl⟩) λc hqq ds sl hF=>?_
 obtain ⟨p,q,p',q',hp,hq,hp',hq',hz,rfl,e⟩:=hF
 injection e with e
 subst e
 show aE c _ [.va (.tup [.int p,.int q]),.va (.tup [.int p',.int q'])] _ _
 conv in (aj _)=>whnf
 walk_at "ev"
 exact ah (u6 hz (ki hq hq')) (aJ rfl)
theorem Dl (Fu:cU K "frac_times" "frac_times" (top 8) f fd) (hof:bN P w K mg base 2 "fraction_of" zF):aU P w K mg base (cF P w) 3 f fd ["one","other"] (cR K (F4 dQ cK)):=by
 refine bH Fu mT (by rintro ds r ⟨p,q,p',q',_,_,_,_,_,rfl,_⟩; rfl) (by rintro ds r ⟨p,q,p',q',_,_,_,_,_,_,rfl⟩; exact ⟨_,rfl⟩) λc hqq ds sl hF=>?_
 obtain ⟨p,q,p',q',hp,hq,hp',hq',hz,rfl,e⟩:=hF
 injection e with e
 subst e
 show aE c _ [.va (.tup [.int p,.int q]),.va (.tup [.int p',.int q'])] _ _
 conv in (aj _)=>whnf
 walk_at "ev"
 exact ah (u6 hz (ki hq hq')) (aJ rfl)
theorem NN (Fu:cU K "frac_by" "frac_by" (top 9) f fd) (hof:bN P w K mg base 2 "fraction_of" zF):aU P w K mg base (cF P w) 3 f fd ["one","other"] (cR K (F4 NJ NK)):=by
 refine bH Fu uT (by rintro ds r ⟨p,q,p',q',_,_,_,_,_,rfl,_⟩; rfl) (by rintro ds r ⟨p,q,p',q',_,_,_,_,_,_,rfl⟩; exact ⟨_,rfl⟩) λc hqq ds sl hF=>?_
 obtain ⟨p,q,p',q',hp,hq,hp',hq',hz,rfl,e⟩:=hF
 injection e with e
 subst e
 show aE c _ [.va (.tup [.int p,.int q]),.va (.tup [.int p',.int q'])] _ _
 conv in (aj _)=>whnf
 walk_at "ev"
 exact ah (u6 hz (ki hq hp')) (aJ rfl)
end
end
section
variable {P:Program} {w:World} {K:Rr} {mg:Str->Option Value} {base:Heap}
noncomputable def xP (n:Int) (f:Nat->Int):Nat->Int
 | 0=>n
 | k+1=>xP n f k * f k
noncomputable def fD (x:Int×Int):D:=.tup [.int x.1,.int x.2]
noncomputable def gI (pl:List (Int×Int)) (k:Nat):Int×Int:=pl.getD k (0,1)
noncomputable def pw (t:aL) (k:Nat):Nat:=(bz t.1 k).toNat
noncomputable def gN (L:List aL) (k:Nat):Nat:=(gk L k).toNat
noncomputable def u7 (pl:List (Int×Int)) (g p:Nat->Nat) (k:Nat):Int:=(gI pl k).1 ^ p k * (gI pl k).2 ^ (g k - p k)
noncomputable def wW (L:List aL) (pl:List (Int×Int)) (t:aL):Int:=xP t.2 (u7 pl (gN L) (pw t)) 6
noncomputable def jZ (L:List aL) (pl:List (Int×Int)):Int:=xP 1 (λk=>(gI pl k).2 ^ gN L k) 6
noncomputable def iy (L:List aL) (pl:List (Int×Int)) (M:List aL):Int:=M.foldl (λa t=>a+wW L pl t) 0
theorem zG (L) (pl) (M) (t):iy L pl (M++[t])=iy L pl M+wW L pl t:=by
 unfold iy
 rw [Vz]
 rfl
structure c8 (L:List aL) (pl:List (Int×Int)) (m G nb:Nat):Prop where
 p:∀ t∈L,t.1.length<=6/\∀ x∈t.1,0<=x/\x<=(G:Int)
 n:∀ t∈L,t.2.natAbs<2 ^ nb
 l:L.length<=400000
 q:pl.length<=6
 b:∀ x∈pl,x.1.natAbs<2 ^ m/\x.2.natAbs<2 ^ m/\0<x.2
 s:m * G * 6<=8600
 s2:nb<=10000
 s3:0<m/\m<=1000
 s4:G<=1000
theorem sR (h:a.natAbs<=2 ^ m) (g:b.natAbs<=2 ^ n) (hm:m+n+2<=1000000):EV.MulOk a b :=
 u5 (m:=m+1) (n:=n+1) (Tc h (Nat.pow_lt_pow_right (by decide) (T7 _))) (Tc g (Nat.pow_lt_pow_right (by decide) (T7 _))) (by lia)
theorem iz {a:Int} (h:a.natAbs<=2 ^ m) (n):(a ^ n).natAbs<=2 ^ (m * n):=by
 rw [Int.natAbs_pow,Nat.pow_mul]
 exact Nat.pow_le_pow_left h n
theorem lY {a:Int} (h:a.natAbs<=2 ^ m) (g:m<=n):a.natAbs<=2 ^ n:=Rz h (SD (by decide) g)
theorem u9 (hn:n.natAbs<=2 ^ nb) (hf:∀ k,(f k).natAbs<=2 ^ c):∀ k,(xP n f k).natAbs<=2 ^ (nb+c * k)
 | 0=>hn
 | k+1=>by
  show (xP n f k * f k).natAbs<=_
  rw [Uo,Nat.mul_succ,<- VI,UR]
  exact TZ (u9 hn hf k) (hf k)
theorem qe (hn:0<n) (hf:∀ k,0<f k):∀ k,0<xP n f k
 | 0=>hn
 | k+1=>Int.mul_pos (qe hn hf k) (hf k)
theorem lZ:∀ {L:List aL} (a:Int),a<=m->(∀ t∈L,bz t.1 k<=m)->L.foldl (λa t=>if bz t.1 k>a then bz t.1 k else a) a<=m
 | [],a,h,_=>h
 | t::L,a,h,h2=>by
  refine lZ (L:=L) _ ?_ λu hu=>h2 u (RH _ hu)
  have:=h2 t RD
  show (if bz t.1 k>a then bz t.1 k else a)<=m
  split <;> lia
theorem l0:∀ {L:List aL} (a:Int) {t:aL},t∈L->bz t.1 k<=L.foldl (λa t=>if bz t.1 k>a then bz t.1 k else a) a
 | u::L,a,t,h=>by
  rcases RL.mp h with rfl | h
  ·refine R6 ?_ (qb L k _)
   show bz t.1 k<=if bz t.1 k>a then bz t.1 k else a
   split <;> lia
  ·exact l0 (L:=L) _ h
section
variable {pl:List (Int×Int)}
theorem c8.at (h:c8 L pl m G nb) (ht:t∈L) (k):0<=bz t.1 k/\bz t.1 k<=G:=by
 by_cases z:k<t.1.length
 ·rw [cO z]; exact (h.p t ht).2 _ (Sg _)
 ·rw [cy (by lia)]; lia
theorem c8.Qi (h:c8 L pl m G nb) (ht:t∈L) (k):pw t k<=G/\((pw t k:Nat):Int)=bz t.1 k:=by
 have:=h.at ht k
 unfold pw
 lia
theorem c8.g (h:c8 L pl m G nb) (k):gN L k<=G/\((gN L k:Nat):Int)=gk L k:=by
 have h0:=CW L k
 have h1:gk L k<=G:=lZ 0 (by lia) λt ht=>(h.at ht k).2
 unfold gN
 lia
theorem c8.le (h:c8 L pl m G nb) (ht:t∈L) (k):pw t k<=gN L k:=by
 have h1:bz t.1 k<=gk L k:=l0 0 ht
 have:=(h.Qi ht k).2
 have:=(h.g k).2
 lia
theorem c8.sp (h:c8 L pl m G nb) (k):(gI pl k).1.natAbs<=2 ^ m/\(gI pl k).2.natAbs<=2 ^ m/\0<(gI pl k).2:=by
 unfold gI
 rw [Sj]
 cases e:pl[k]? with
 | none=>exact ⟨RY _,Nat.one_le_two_pow,by decide⟩
 | some x =>
  have:=h.b x (TH e)
  exact ⟨SY this.1,SY this.2.1,this.2.2⟩
theorem c8.KY (h:c8 L pl m G nb) {p g:Nat->Nat} {k:Nat} (hp:p k<=g k) (hg:g k<=G):(u7 pl g p k).natAbs<=2 ^ (m * G):=by
 have s:=h.sp k
 unfold u7
 rw [Uo]
 refine Rz (TZ (iz s.1 (p k)) (iz s.2.1 (g k - p k))) ?_
 rw [<- UR,<- Nat.mul_add,show p k+(g k - p k)=g k by lia]
 exact SD (by decide) (TQ _ hg)
theorem c8.NO (h:c8 L pl m G nb) (ht:t∈L) (k):(xP t.2 (u7 pl (gN L) (pw t)) k).natAbs<=2 ^ (nb+m * G * k) :=
 u9 (SY (h.n t ht)) (λj=>h.KY (h.le ht j) (h.g j).1) k
theorem c8.KZ (h:c8 L pl m G nb) (k):(xP 1 (λk=>(gI pl k).2 ^ gN L k) k).natAbs<=2 ^ (m * G * k):=by
 have:=u9 (n:=1) (nb:=0) (c:=m * G) (f:=λk=>(gI pl k).2 ^ gN L k) (by decide) (λj=>lY (iz (h.sp j).2.1 _) (TQ _ (h.g j).1)) k
 rw [Uc] at this; exact this
theorem c8.bpos (h:c8 L pl m G nb):0<jZ L pl:=qe (by decide) (λk=>Ue (h.sp k).2.2) 6
theorem c8.Ri (h:c8 L pl m G nb):Pz (jZ L pl):=fZ.mpr (Tc (Rz (h.KZ 6) (SD (by decide) h.s)) (by decide +kernel))
theorem c8.Rj (h:c8 L pl m G nb):∀ {M:List aL},(∀ t∈M,t∈L)->(iy L pl M).natAbs<=M.length * 2 ^ (nb+m * G * 6):=by
 have key:∀ (M:List aL) (a:Int),(∀ t∈M,t∈L)->(M.foldl (λa t=>a+wW L pl t) a).natAbs<=a.natAbs+M.length * 2 ^ (nb+m * G * 6):=by
  intro M
  induction M with
  | nil=>intro a _; simp
  | cons t M ih =>
   intro a hM
   refine Rz (ih _ λu hu=>hM u (RH _ hu)) ?_
   have hw:(wW L pl t).natAbs<=2 ^ (nb+m * G * 6):=h.NO (hM t RD) 6
   have e:(t::M).length * 2 ^ (nb+m * G * 6)=2 ^ (nb+m * G * 6)+M.length * 2 ^ (nb+m * G * 6):=by rw [Sf,Vj,VL]
   rw [e]
   generalize 2 ^ (nb+m * G * 6)=B at *
   generalize M.length * B=C
   lia
 intro M hM
 have:=key M 0 hM
 simpa [iy] using this
end
end
section
variable {K:Rr}
noncomputable def LO:Fn:=λds r=>∃ (l:List Int) (k:Nat),ds=[.tup (l.map .int),.int (k:Int)]/\r=.ok (.va (.int (bz l k)))
theorem NP (l) (k:Nat):LO [.tup (l.map .int),.int (k:Int)] (.ok (.va (.int (bz l k)))):=⟨l,k,rfl,rfl⟩
theorem NQ (Fu:cU K "power_at" "power_at" (top 13) f fd) (T:Txt K mg):aU P w K mg base (cF P w) 1 f fd ["powers","k"] (cR K LO):=by
 refine bH Fu sI (by rintro ds r ⟨l,k,rfl,_⟩; rfl) (by rintro ds r ⟨l,k,_,rfl⟩; exact ⟨_,rfl⟩) λc hq ds sl hF=>?_
 obtain ⟨l,k,rfl,e⟩:=hF
 injection e with e
 subst e
 show aE c _ [.va (.tup (l.map .int)),.va (.int (k:Int))] _ _
 conv in (aj _)=>whnf
 walk_at "ev"
 ·rename_i h
  rw [RB] at h
  refine sP (by lia) (by lia) ?_
  show Sl.va _=Sl.va _
  rw [So,cO (by lia),Sj,RU (by lia)]
  rfl
 ·rename_i h
  rw [RB] at h
  show Sl.va _=Sl.va _
  rw [cy (by lia)]
noncomputable def zH:Fn:=λds r=>∃ (m n:Nat) (b:Int),b.natAbs<=2 ^ m/\2 * (m * n)+10<=1000000/\ds=[.int b,.int (n:Int)]/\r=.ok (.va (.int (b ^ n)))
theorem Dn {m n:Nat} (h:b.natAbs<=2 ^ m) (h2:2 * (m * n)+10<=1000000):zH [.int b,.int (n:Int)] (.ok (.va (.int (b ^ n)))):=⟨m,n,b,h,h2,rfl,rfl⟩
theorem sS (b:Int) (j):b ^ 2 ^ j * b ^ 2 ^ j=b ^ 2 ^ (j+1):=by
 rw [<- WQ,WG,Nat.mul_two]
theorem xQ (q:Nat):(q:Int) / 2 ^ Vp 1=((q / 2:Nat):Int):=by
 show (q:Int) / 2=_
 lia
theorem Dp (q:Nat):Ww (q:Int) 1=(q:Int) % 2:=n6 1 (by lia)
section
local macro_rules | `(tactic| walk_at "evBo")=> `(tactic| first | with_reducible refine uI ?_ | with_reducible refine Cf ?_)
local macro_rules | `(tactic| walk_at "evT")=> `(tactic| ((with_reducible show je _ (Vo _ _ _ _) _ _); with_reducible refine Ky ?_))
theorem K0 (Fu:cU K "raised" "raised" (top 20) f fd) (T:Txt K mg):aU P w K mg base (cF P w) 1 f fd ["base","power"] (cR K zH):=by
 refine bH Fu zz (by rintro ds r ⟨m,n,b,_,_,rfl,_⟩; rfl) (by rintro ds r ⟨m,n,b,_,_,_,rfl⟩; exact ⟨_,rfl⟩) λc hq ds sl hF=>?_
 obtain ⟨m,n,b,hb,hm,rfl,e⟩:=hF
 injection e with e
 subst e
 show aE c _ [.va (.int b),.va (.int (n:Int)),.un] _ _
 conv in (aj _)=>whnf
 walk_at "ev"
 with_reducible refine iF hq (λu ρ'=>∃ i j q:Nat,u=q/\i+2 ^ j * q=n/\ρ'=[.va (.int (b ^ (2 ^ j))),.va (.int (q:Int)),.va (.int (b ^ i))]) (m₀:=n) ?_ ?_
 ·exact ⟨0,0,n,rfl,by lia,by rw [Int.pow_zero,Nat.pow_zero,WI,Int.pow_zero,Vm]⟩
 ·rintro u ρ' ⟨i,j,q,rfl,hq,rfl⟩
  have hx:∀ e,e<=n->(b ^ e).natAbs<=2 ^ (m * n):=λe he=>lY (iz hb e) (TQ _ he)
  have hi:i<=n:=by rw [<- hq]; exact T8 _ _
  have hj:0<(u:Int)->2 ^ j<=n:=λh0=>by
   have:2 ^ j<=2 ^ j * u:=Nat.le_mul_of_pos_right _ (by lia)
   lia
  walk_at "ev"
  all_goals first
   | exact sR (hx _ hi) (hx _ (hj (by assumption))) (by lia)
   | exact sR (hx _ (hj (by assumption))) (hx _ (hj (by assumption))) (by lia)
   | skip
  ·walk_at "ev"
   rename_i h0 h
   rw [Dp] at h
   have h1:(u:Int) % 2≠0:=by simpa using h
   refine ⟨u / 2,by lia,i+2 ^ j,j+1,u / 2,rfl,?_,?_⟩
   ·rw [<- hq,WG,VI,WA]
    have e:u=1+2 * (u / 2):=by lia
    conv=>rhs; rw [e,Nat.mul_add,Nat.mul_one]
   ·rw [xQ,sS,<- WQ]
  ·rename_i h0 h
   rw [Dp] at h
   have h1:(u:Int) % 2=0:=by simpa using h
   refine ⟨u / 2,by lia,i,j+1,u / 2,rfl,?_,?_⟩
   ·rw [<- hq,WG,WA]
    have e:u=2 * (u / 2):=by lia
    conv=>rhs; rw [e]
   ·rw [xQ,sS]
  ·have h0:u=0:=by lia
   subst h0
   have e:i=n:=by lia
   subst e
   rfl
end
end
section
variable {P:Program} {w:World} {K:Rr} {mg:Str->Option Value} {base:Heap}
theorem oh (C:List (Int×Int)) (q v p:Int):aY (C++[(q,v)]) p=(aY C p).or (if q=p then some v else none):=by
 unfold aY
 rw [List.find?_append]
 cases C.find? (λkv=>decide (kv.1=p)) with
 | some x=>rfl
 | none =>
  rw [Th]
  by_cases e:q=p <;> simp [e]
noncomputable def NR (a b:Int) (g:Nat) (C:List (Int×Int)) (p:Nat):List (Int×Int):=if (aY C (p:Int)).isSome then C else C++[((p:Int),a ^ p * b ^ (g - p))]
noncomputable def l5 (a b:Int) (g k:Nat) (M:List aL):List (Int×Int):=M.foldl (λC t=>NR a b g C (pw t k)) []
theorem sU (a b) (g k) (M) (t):l5 a b g k (M++[t])=NR a b g (l5 a b g k M) (pw t k):=by
 unfold l5
 rw [Vz]
 rfl
theorem HP (a b) (g k) (M):(l5 a b g k M).length<=M.length/\(∀ p v,aY (l5 a b g k M) p=some v->v=a ^ p.toNat * b ^ (g - p.toNat))/\∀ t∈M,(aY (l5 a b g k M) (pw t k)).isSome:=by
 have key:∀ M:List aL,(l5 a b g k M.reverse).length<=M.length/\(∀ p v,aY (l5 a b g k M.reverse) p=some v->v=a ^ p.toNat * b ^ (g - p.toNat))/\∀ t∈M,(aY (l5 a b g k M.reverse) (pw t k)).isSome:=by
  intro M
  induction M with
  | nil=>exact ⟨Rv _,(λp v h=>by cases h),λt h=>by cases h⟩
  | cons t M ih =>
   obtain ⟨i1,i2,i3⟩:=ih
   rw [List.reverse_cons,sU]
   generalize l5 a b g k M.reverse=C at *
   unfold NR
   by_cases h:(aY C (pw t k:Int)).isSome=true
   ·rw [if_pos h]
    refine ⟨XE i1,i2,λu hu=>?_⟩
    rcases RL.mp hu with rfl | hu
    ·exact h
    ·exact i3 u hu
   ·rw [if_neg h]
    refine ⟨by rw [R3]; exact VB i1,λp v hv=>?_,λu hu=>?_⟩
    ·rw [oh] at hv
     cases e:aY C p with
     | some x=>rw [e] at hv; cases hv; exact i2 p _ e
     | none =>
      rw [e] at hv
      by_cases z:(pw t k:Int)=p
      ·simp only [z,if_true,Option.none_or] at hv
       cases hv
       rw [<- z,So]
      ·simp [z] at hv
    ·rw [oh]
     rcases RL.mp hu with rfl | hu
     ·cases aY C (pw u k:Int) <;> simp
     ·have:=i3 u hu
      cases e:aY C (pw u k:Int) with
      | some x=>rfl
      | none=>rw [e] at this; cases this
 have:=key M.reverse
 rw [Xf,List.length_reverse] at this
 exact ⟨this.1,this.2.1,λt ht=>this.2.2 t (List.mem_reverse.mpr ht)⟩
theorem K1 (ht:t∈M):aY (l5 a b g k M) (pw t k)=some (a ^ pw t k * b ^ (g - pw t k)):=by
 have h:=HP a b g k M
 have h3:=h.2.2 t ht
 cases e:aY (l5 a b g k M) (pw t k) with
 | none=>rw [e] at h3; cases h3
 | some v=>rw [h.2.1 _ v e,So]
noncomputable def GI:Fn:=λds r=>∃ (L:List aL) (k g m:Nat) (a b:Int),(∀ t∈L,((pw t k:Nat):Int)=bz t.1 k/\pw t k<=g)/\L.length<=400000/\a.natAbs<=2 ^ m/\b.natAbs<=2 ^ m/\4 * (m * g)+20<=1000000 /\
 ds=[.lst (L.map aW),.int (k:Int),.tup [.int a,.int b],.int (g:Int)]/\r=.ok (.va (Gw (l5 a b g k L)))
theorem NS (h:∀ t∈L,((pw t k:Nat):Int)=bz t.1 k/\pw t k<=g) (hl:L.length<=400000) (ha:a.natAbs<=2 ^ m) (hb:b.natAbs<=2 ^ m) (hm:4 * (m * g)+20<=1000000) :
 GI [.lst (L.map aW),.int (k:Int),.tup [.int a,.int b],.int (g:Int)] (.ok (.va (Gw (l5 a b g k L)))):=⟨L,k,g,m,a,b,h,hl,ha,hb,hm,rfl,rfl⟩
section
local macro_rules | `(tactic| walk_at "evX")=> `(tactic| first | ((with_reducible show dD _ (Expr.Dict _ _ _) _ _); with_reducible refine oY ?_))
local macro_rules | `(tactic| walk_at "evCa")=> `(tactic| first
 | with_reducible refine ak (F:=LO) (by assumption) (by decide) ?_
 | with_reducible refine ak (F:=zH) (by assumption) (by decide) ?_)
local macro_rules | `(tactic| walk_at "evR")=> `(tactic| first | with_reducible refine ah (NP _ _) ?_)
local macro_rules | `(tactic| walk_at "evIx")=> `(tactic| first | ((with_reducible show aG _ (Tv _ (Expr.Constant _ _ _) _) _ _); with_reducible refine iH ?_))
theorem K2 (Fu:cU K "scaled_powers" "scaled_powers" (top 21) f fd) (T:Txt K mg) (h1:bN P w K mg base 1 "power_at" LO) (h2:bN P w K mg base 1 "raised" zH):aU P w K mg base (cF P w) 2 f fd ["some","k","fraction","most"] (cR K GI):=by
 refine bH Fu jA (by rintro ds r ⟨L,k,g,m,a,b,_,_,_,_,_,rfl,_⟩; rfl) (by rintro ds r ⟨L,k,g,m,a,b,_,_,_,_,_,_,rfl⟩; exact ⟨_,rfl⟩) λc hq ds sl hF=>?_
 obtain ⟨L,k,g,m,a,b,hL,hl,ha,hb,hm,rfl,e⟩:=hF
 injection e with e
 subst e
 show aE c _ [.va (.lst (L.map aW)),.va (.int (k:Int)),.va (.tup [.int a,.int b]),.va (.int (g:Int)),.un,.un,.un,.un] _ _
 conv in (aj _)=>whnf
 walk_at "ev"
 with_reducible refine cP hq (cu ?_)
 walk_at "ev"
 refine ⟨λi ρ'=>∃ s5 s6 s7:Sl,ρ'=[.va (.lst (L.map aW)),.va (.int (k:Int)),.va (.tup [.int a,.int b]),.va (.int (g:Int)),.oK (ck (l5 a b g k (L.take i))),s5,s6,s7],⟨_,_,_,rfl⟩,?_,?_⟩
 ·rintro c' m5 vv vz i d ρ' hd ⟨s5,s6,s7,rfl⟩
  simp only [RO,RV] at hd
  obtain ⟨t,ht,rfl⟩:=hd
  obtain ⟨hi,rfl⟩:=RJ.mp ht
  have hmem:L[i]∈L:=Sg hi
  have et:L.take (i+1)=L.take i++[L[i]]:=S0 hi
  obtain ⟨hp,hg⟩:=hL _ hmem
  have hsz:(ck (l5 a b g k (L.take i))).length<sizeLine:=dO (by
   have:=(HP a b g k (L.take i)).1
   unfold ck
   rw [RB]
   rw [Sq] at this; lia)
  have est:l5 a b g k (L.take (i+1))=NR a b g (l5 a b g k (L.take i)) (pw L[i] k):=by rw [et,sU]
  unfold NR at est
  generalize l5 a b g k (L.take i)=C at hsz est |-
  generalize L[i]=t at hp hg est |-
  show oQ c' _ (D.tup [.tup (t.1.map .int),.int t.2]) _ _
  walk_at "ev"
  rw [<- hp]
  generalize pw t k=p at hg est |-
  have e1:(g:Int) - (p:Int)=((g - p:Nat):Int):=by lia
  have m1:m * p<=m * g:=TQ _ hg
  have m2:m * (g - p)<=m * g:=TQ _ (by lia)
  refine qW (by walk_at "at") (by walk_at "at") ?_
  walk_at "ev"
  refine ⟨_,.k rfl rfl,?_⟩
  rw [fy]
  cases hv:aY C (p:Int) with
  | some v =>
   show jR _ _ false
   walk_at "ev"
   show ∃ s5 s6 s7:Sl,_=[_,_,_,_,Sl.oK (ck (l5 a b g k (L.take (i+1)))),s5,s6,s7]
   rw [est,hv,show (if (some v).isSome=true then C else C++[((p:Int),a ^ p * b ^ (g - p))])=C from rfl]
   exact ⟨_,_,_,rfl⟩
  | none =>
   show jR _ _ true
   walk_at "ev"
   refine ah (Dn ha (by lia)) ?_
   walk_at "ev"
   rw [e1]
   refine ah (Dn hb (by lia)) ?_
   walk_at "ev"
   ·exact sR (lY (iz ha _) m1) (lY (iz hb _) m2) (by lia)
   walk_at "ev"
   refine ⟨_,.k rfl rfl hsz,?_⟩
   walk_at "ev"
   rw [lM,show putD C (p:Int) (a ^ p * b ^ (g - p))=C++[((p:Int),a ^ p * b ^ (g - p))] from if_neg (by rw [hv]; simp)]
   show ∃ s5 s6 s7:Sl,_=[_,_,_,_,Sl.oK (ck (l5 a b g k (L.take (i+1)))),s5,s6,s7]
   rw [est,hv,if_neg (by simp)]
   exact ⟨_,_,_,rfl⟩
 ·rintro ρ' ⟨s5,s6,s7,rfl⟩
  rw [RB,SX]
  refine Gh 4 (by walk_at "at") rfl (by walk_at "sset") ?_
  walk_at "ev"
  rfl
end
end
section
variable {K:Rr}
noncomputable def xR:Nat->Int->List Int×Int
 | 0,r=>([],r)
 | i+1,r=>((xR i r).1++[(xR i r).2 / 5 % 4],(xR i r).2 / 4)
noncomputable def zX (n:Int):aL :=
 if n % 2=1 then ((xR (n / 2 % 5).toNat (n / 2)).1,(xR (n / 2 % 5).toNat (n / 2)).2 / 5 % (2 * 10 ^ Vp 9+1) - 10 ^ Vp 9)
 else ((RI (thing (n / 2) 0 4).toNat).map λ(i:Nat)=>thing (n / 2) (1+(i:Int)) 2,thing (n / 2) 9 7 - 3)
theorem xS (i) (r):(xR i r).1.length=i:=by
 induction i with
 | zero=>rfl
 | succ i ih=>simp [xR,ih]
theorem K3 (i) (r):∀ x∈(xR i r).1,0<=x/\x<=3:=by
 induction i with
 | zero=>intro x hx; cases hx
 | succ i ih =>
  intro x hx
  simp only [xR,R5,RN] at hx
  rcases hx with hx | rfl
  ·exact ih x hx
  ·lia
def QN (t:aL):Prop:=t.1.length<=4/\(∀ x∈t.1,0<=x/\x<=3)/\t.2.natAbs<2 ^ 31
theorem K4 (n):QN (zX n):=by
 unfold zX
 split
 ·refine ⟨by rw [xS]; lia,K3 _ _,?_⟩
  show ((xR (n / 2 % 5).toNat (n / 2)).2 / 5 % (2 * 1000000000+1) - 1000000000).natAbs<2 ^ 31
  lia
 ·have h4:=i7 (n / 2) 0 (m:=4) (by decide)
  have h7:=i7 (n / 2) 9 (m:=7) (by decide)
  refine ⟨by simp; lia,λx hx=>?_,?_⟩
  ·obtain ⟨i,_,rfl⟩:=Sb.mp hx
   have:=i7 (n / 2) (1+(i:Int)) (m:=2) (by decide)
   lia
  ·show (thing (n / 2) 9 7 - 3).natAbs<2 ^ 31
   lia
theorem eG (n):(qQ 0 n).length=n:=by simp [qQ]
noncomputable def GJ:Fn:=λds r=>∃ n:Int,ds=[.int n]/\r=.ok (.va (aW (zX n)))
theorem NT (n):GJ [.int n] (.ok (.va (aW (zX n)))):=⟨n,rfl,rfl⟩
section
local macro_rules | `(tactic| walk_at "side")=> `(tactic| exact iM _)
local macro_rules | `(tactic| walk_at "evCa")=> `(tactic| with_reducible refine ak (F:=qa) (by assumption) (by decide) ?_)
local macro_rules | `(tactic| walk_at "evR")=> `(tactic| first | with_reducible refine ah (Gm ?_ ?_ ?_) ?_)
theorem K5 (Fu:cU K "_law_small_term" "_law_small_term" (top 54) f fd) (T:Txt K mg) (h1:bN P w K mg base 1 "_law_thing" qa):aU P w K mg base (cF P w) 2 f fd ["_law_cell_here"] (cR K GJ):=by
 refine bH Fu jY (by rintro ds r ⟨n,rfl,_⟩; rfl) (by rintro ds r ⟨n,_,rfl⟩; exact ⟨_,rfl⟩) λc hq ds sl hF=>?_
 obtain ⟨n,rfl,e⟩:=hF
 injection e with e
 subst e
 show aE c _ [.va (.int n),.un,.un,.un] _ _
 conv in (aj _)=>whnf
 walk_at "ev"
 ·with_reducible refine cP hq (d9 (Txt.range (by assumption)) ?_)
  walk_at "ev"
  ·exact ⟨by lia,by lia⟩
  refine ⟨λi ρ'=>∃ s4:Sl,ρ'=[.va (.int n),.va (.int (xR i (n / 2)).2),.ow ((xR i (n / 2)).1.map .int),s4],⟨.un,rfl⟩,?_,?_⟩
  ·rintro c' m5 vv vz i d ρ' hd ⟨s4,rfl⟩
   obtain ⟨hi,rfl⟩:=fK hd
   have hlen:((xR i (n / 2)).1.map D.int).length=i:=by rw [RB,xS]
   walk_at "ev"
   ·exact dO (by lia)
   ·refine ⟨.va (.int (i:Int)),?_⟩
    show [_,_,Sl.ow _,_]=_
    simp only [xR,Si,RC,Ud]
  ·rintro ρ' ⟨s4,rfl⟩
   rw [eG]
   walk_at "ev"
   all_goals first
    | exact q8 (by decide)
    | decide
    | exact ⟨by decide,by decide,by decide +kernel⟩
    | (show Sl.va _=Sl.va _; unfold zX; rw [if_pos (by assumption)])
 ·have t4:=i7 (n / 2) 0 (m:=4) (by decide)
  with_reducible refine cP hq (d9 (Txt.range (by assumption)) ?_)
  walk_at "ev"
  ·decide
  ·decide
  ·decide
  walk_at "ev"
  ·exact ⟨by lia,by lia⟩
  refine ⟨λi ρ'=>∃ s4:Sl,ρ'=[.va (.int n),.va (.int (n / 2)),.ow (((RI i).map λ(i:Nat)=>thing (n / 2) (1+(i:Int)) 2).map .int),s4],⟨.un,rfl⟩,?_,?_⟩
  ·rintro c' m5 vv vz i d ρ' hd ⟨s4,rfl⟩
   obtain ⟨hi,rfl⟩:=fK hd
   have hlen:(((RI i).map λ(i:Nat)=>thing (n / 2) (1+(i:Int)) 2).map D.int).length=i:=by simp
   walk_at "ev"
   ·decide
   ·decide
   ·lia
   walk_at "ev"
   ·exact dO (by lia)
   ·refine ⟨.va (.int (i:Int)),?_⟩
    show [_,_,Sl.ow _,_]=_
    simp only [VD,Si,RC,Ud]
  ·rintro ρ' ⟨s4,rfl⟩
   rw [eG]
   walk_at "ev"
   ·decide
   ·decide
   ·decide
   walk_at "ev"
   show Sl.va _=Sl.va _
   unfold zX
   rw [if_neg (by assumption)]
end
end
section
variable {K:Rr}
noncomputable def HQ (L:List aL) (pl:List (Int×Int)) (k:Nat):D:=Gw (l5 (gI pl k).1 (gI pl k).2 (gN L k) k L)
noncomputable def l6:Fn:=λds r=>∃ (L:List aL) (pl:List (Int×Int)) (m G nb:Nat),c8 L pl m G nb/\ds=[.lst (L.map aW),.lst (pl.map fD)]/\r=.ok (.va (dH (iy L pl L) (jZ L pl)))
theorem NU {pl:List (Int×Int)} (h:c8 L pl m G nb):l6 [.lst (L.map aW),.lst (pl.map fD)] (.ok (.va (dH (iy L pl L) (jZ L pl)))):=⟨L,pl,m,G,nb,h,rfl,rfl⟩
theorem HR {pl:List (Int×Int)} (h:k<pl.length):jj (pl.map fD) (k:Int)=some (fD (gI pl k)):=by
 rw [gC (by lia) (by rw [RB]; lia),So,RO,RU h]
 unfold gI
 rw [Sj,RU h]
 rfl
theorem GK {pl:List (Int×Int)} (h:¬ k<pl.length):gI pl k=(0,1):=by
 unfold gI
 rw [Sj,TF (by lia)]
 rfl
theorem NV {pl:List (Int×Int)} {k:Nat} (h:k<6):jj ((RI 6).map (HQ L pl)) (k:Int)=some (HQ L pl k):=by
 rw [gC (by lia) (by rw [RB,Wc]; lia),So,RO,Vv h]
 rfl
section
local macro_rules | `(tactic| walk_at "evE")=> `(tactic| first | ((with_reducible show aG _ (RQ "PLACES" _) _ _); with_reducible refine oR (by assumption) ?_))
local macro_rules | `(tactic| walk_at "evCa")=> `(tactic| first
 | with_reducible refine ak (F:=LO) (by assumption) (by decide) ?_
 | with_reducible refine ak (F:=iw) (by assumption) (by decide) ?_
 | with_reducible refine ak (F:=GI) (by assumption) (by decide) ?_
 | with_reducible refine ak (F:=zH) (by assumption) (by decide) ?_)
local macro_rules | `(tactic| walk_at "evXC")=> `(tactic| first
 | with_reducible refine x_call (x:=Rp "greatest_powers") (F:=iw) (by assumption) (by decide) ?_
 | with_reducible refine x_call (x:=Rp "fraction_of") (F:=zF) (by assumption) (by decide) ?_)
local macro_rules | `(tactic| walk_at "evR")=> `(tactic| first | with_reducible refine ah (NP _ _) ?_)
local macro_rules | `(tactic| walk_at "evIx")=> `(tactic| first | ((with_reducible show aG _ (Tv _ (Expr.Constant _ _ _) _) _ _); with_reducible refine iH ?_))
local macro_rules | `(tactic| walk_at "evIx")=> `(tactic| first | ((with_reducible show aG _ (Tv (Tv _ _ _) _ _) _ _); with_reducible refine Cu ?_))
theorem K6 (Fu:cU K "worth_at" "worth_at" (top 22) f fd) (T:Txt K mg) (PL:∃ tk:Tok,mg "PLACES"=some (.int 6 tk)) (h1:bN P w K mg base 1 "power_at" LO) (h2:bN P w K mg base 1 "raised" zH) (h3:bN P w K mg base 1 "greatest_powers" iw) (h4:bN P w K mg base 2 "scaled_powers" GI) (h5:bN P w K mg base 2 "fraction_of" zF):aU P w K mg base (cF P w) 3 f fd ["some","place"] (cR K l6):=by
 obtain ⟨tk,hPL⟩:=PL
 refine bH Fu sL (by rintro ds r ⟨L,pl,m,G,nb,_,rfl,_⟩; rfl) (by rintro ds r ⟨L,pl,m,G,nb,_,_,rfl⟩; exact ⟨_,rfl⟩) λc hq ds sl hF=>?_
 obtain ⟨L,pl,m,G,nb,ok,rfl,e⟩:=hF
 injection e with e
 subst e
 have mge:∀ {z:Nat},z<=G->m * z<=8600:=λ{z} he=>by
  have h:=ok.s
  have:m * z<=m * G:=TQ _ he
  have:m * G<=m * G * 6:=Nat.le_mul_of_pos_right _ (by decide)
  lia
 show aE c _ [.va (.lst (L.map aW)),.va (.lst (pl.map fD)),.un,.un,.un,.un,.un,.un,.un,.un,.un] _ _
 conv in (aj _)=>whnf
 refine aD ?_
 generalize hG:(λρ'=>aE c _ ρ' _ _)=Z
 walk_at "ev"
 refine ah (xF λt ht=>(ok.p t ht).1) ?_
 walk_at "ev"
 subst hG
 refine cE 2 (d0:=.lst (dP (gk L))) (by walk_at "at") rfl (by walk_at "sset") ?_
 walk_at "ev"
 with_reducible refine cP hq (d9 (Txt.range (by assumption)) ?_)
 walk_at "ev"
 ·exact ⟨by decide,by decide⟩
 refine ⟨λk ρ'=>∃ s5 s6:Sl,ρ'=[.va (.lst (L.map aW)),.va (.lst (pl.map fD)),.va (.lst (dP (gk L))),.ow ((RI k).map (HQ L pl)),.va (.int (xP 1 (λk=>(gI pl k).2 ^ gN L k) k)),s5,s6,.un,.un,.un,.un],⟨_,_,rfl⟩,?_,?_⟩
 ·rintro c' m5 vv vz k d ρ' hd ⟨s5,s6,rfl⟩
  obtain ⟨hk,rfl⟩:=fK hd
  have hk:k<6:=hk
  refine di (by walk_at "at") (j5 (by walk_at "sset") ?_)
  have hs:=ok.sp k
  have hg:=ok.g k
  have gat:jj (dP (gk L)) (k:Int)=some (.int (gN L k:Nat)):=by rw [xE _ hk,hg.2]
  have bb:=ok.KZ k
  refine aD (AZ (i:=6) (by walk_at "at") (ue (aG.imp (R:=λd=>d=fD (gI pl k)) ?_ ?_)))
  ·walk_at "ev"
   ·rename_i h
    rw [RB] at h
    refine gQ (HR (by lia)) rfl
   ·rename_i h
    rw [RB] at h
    rw [GK (by lia)]; rfl
  rintro d rfl
  refine j5 (by walk_at "sset") ?_
  refine aD (ug (by walk_at "at") (by walk_at "at") rfl ?_)
  walk_at "ev"
  refine gQ gat ?_
  walk_at "ev"
  refine ah (NS (m:=m) (a:=(gI pl k).1) (b:=(gI pl k).2) (λt ht=>⟨(ok.Qi ht k).2,ok.le ht k⟩) ok.l hs.1 hs.2.1 (by have:=mge hg.1; lia)) ?_
  walk_at "ev"
  ·exact dO (by rw [RB,Wc]; lia)
  walk_at "ev"
  refine gQ gat ?_
  walk_at "ev"
  refine ah (Dn hs.2.1 (by have:=mge hg.1; lia)) ?_
  walk_at "ev"
  ·exact sR bb (lY (iz hs.2.1 _) (TQ _ hg.1)) (by
    have h:=ok.s
    have h1:m * G * k<=m * G * 6:=TQ _ (by lia)
    have h2:=mge (Rv G)
    lia)
  walk_at "ev"
  refine ⟨.va (.int (k:Int)),.va (fD (gI pl k)),?_⟩
  show [_,_,_,Sl.ow _,_,_,_,_,_,_,_]=[_,_,_,Sl.ow ((RI (k+1)).map (HQ L pl)),_,_,_,_,_,_,_]
  rw [VD,Si]
  rfl
 ·rintro ρ' ⟨s5,s6,rfl⟩
  rw [eG]
  refine cE 3 (d0:=.lst ((RI 6).map (HQ L pl))) (by walk_at "at") rfl (by walk_at "sset") ?_
  show aE c _ [.va (.lst (L.map aW)),.va (.lst (pl.map fD)),.va (.lst (dP (gk L))),.va (.lst ((RI 6).map (HQ L pl))),.va (.int (jZ L pl)),s5,s6,.un,.un,.un,.un] _ _
  walk_at "ev"
  with_reducible refine cP hq (cu ?_)
  walk_at "ev"
  refine ⟨λi ρ'=>∃ s5 s8 s9 s10:Sl,ρ'=[.va (.lst (L.map aW)),.va (.lst (pl.map fD)),.va (.lst (dP (gk L))),.va (.lst ((RI 6).map (HQ L pl))),.va (.int (jZ L pl)),s5,s6,.va (.int (iy L pl (L.take i))),s8,s9,s10],⟨_,_,_,_,rfl⟩,?_,?_⟩
  ·rintro c' m5 vv vz i d ρ' hd ⟨s5,s8,s9,s10,rfl⟩
   simp only [RO,RV] at hd
   obtain ⟨t,ht,rfl⟩:=hd
   obtain ⟨hi,rfl⟩:=RJ.mp ht
   have hmem:L[i]∈L:=Sg hi
   have est:iy L pl (L.take (i+1))=iy L pl (L.take i)+wW L pl L[i]:=by rw [S0 hi,zG]
   unfold wW at est
   generalize iy L pl (L.take i)=S at est |-
   generalize L[i]=t at hmem est |-
   show oQ c' _ (D.tup [.tup (t.1.map .int),.int t.2]) _ _
   walk_at "ev"
   refine cP (by rw [m5]; exact hq) (d9 (Txt.range (by assumption)) ?_)
   walk_at "ev"
   ·exact ⟨by decide,by decide⟩
   refine ⟨λk ρ''=>∃ s5:Sl,ρ''=[.va (.lst (L.map aW)),.va (.lst (pl.map fD)),.va (.lst (dP (gk L))),.va (.lst ((RI 6).map (HQ L pl))),.va (.int (jZ L pl)),s5,s6,.va (.int S),.va (.tup (t.1.map .int)),.va (.int t.2),.va (.int (xP t.2 (u7 pl (gN L) (pw t)) k))],⟨_,rfl⟩,?_,?_⟩
   ·rintro c'' hdX hdR hdM k d ρ'' hd ⟨s5,rfl⟩
    obtain ⟨hk,rfl⟩:=fK hd
    have hk:k<6:=hk
    have hv:aY (ck (l5 (gI pl k).1 (gI pl k).2 (gN L k) k L)) (.inl (bz t.1 k))=some (.int (u7 pl (gN L) (pw t) k)):=by
     rw [fy,<- (ok.Qi hmem k).2,K1 hmem]
     rfl
    have hw:=ok.NO hmem k
    have hf:=ok.KY (ok.le hmem k) (ok.g k).1
    refine di (by walk_at "at") (j5 (by walk_at "sset") ?_)
    walk_at "ev"
    refine gQ (NV hk) ?_
    walk_at "ev"
    refine ⟨_,_,_,rfl,rfl,hv,?_⟩
    walk_at "ev"
    ·exact sR hw hf (by
      have h:=ok.s
      have h1:m * G * k<=m * G * 6:=TQ _ (by lia)
      have h2:=mge (Rv G)
      have h3:=ok.s2
      lia)
    walk_at "ev"
    exact ⟨_,rfl⟩
   ·rintro ρ'' ⟨s5,rfl⟩
    rw [eG]
    walk_at "ev"
    show ∃ s5 s8 s9 s10:Sl,_=[_,_,_,_,_,s5,s6,.va (.int (iy L pl (L.take (i+1)))),s8,s9,s10]
    rw [est]
    exact ⟨_,_,_,_,rfl⟩
  ·rintro ρ' ⟨s5,s8,s9,s10,rfl⟩
   rw [RB,SX]
   walk_at "ev"
   exact ah (u6 (Ur ok.bpos) ok.Ri) rfl
end
end
section
variable {P:Program} {w:World} {K:Rr} {mg:Str->Option Value} {base:Heap}
theorem GL (x:α) (xs):jj (x::xs) 0=some x:=by rw [gC (by decide) (by simp)]; rfl
theorem K7 (b):pk b []=0:=(iX (g:=λ_=>0) λi _=>cy (RY _)).trans (iY _)
theorem HU (b n):(cT n).map (sQ b)=[.tup [.int 0,.int n]]:=by show [D.tup [.int (pk b []),.int n]]=_; rw [K7]
theorem Dq (xs:List α):EV.cutD xs none (some (-1))=xs.dropLast:=by
 unfold EV.cutD HT.b9
 rw [Xd]
 simp only [List.drop_zero]
 congr 1
 split <;> lia
theorem GN (xs) (x:α):jj (xs++[x]) (-1)=some x:=by
 rw [wu (by decide) (by simp; lia),show (-1+((xs++[x]).length:Int)).toNat=xs.length by simp; lia]
 simp
noncomputable def OS (b:Int) (A:List aL):D:=.lst (A.map (sQ b))
theorem Dr {α β:Type} {f:α->β} {L:List α} {M:List β} (h:M.Perm (L.map f)):∃ L':List α,L'.Perm L/\M=L'.map f:=by
 have p:∀ L:List α,Paired (λa b=>b=f a) L (L.map f):=λL=>by
  induction L with
  | nil=>exact .nil
  | cons x L ih=>exact .cons rfl ih
 obtain ⟨L',h1,h2⟩:=SR.gc h (p L)
 refine ⟨L',h1,?_⟩
 clear h1 h p
 induction h2 with
 | nil=>rfl
 | cons r _ ih=>rw [r,ih]; rfl
theorem zI (C):(Gw C).pairs=some (C.map λc=>D.tup [.int c.1,.int c.2]):=by
 show some _=some _
 congr 1
 unfold ck
 rw [Sv,Sv,List.zipWith_map,List.zipWith_self]
 rfl
theorem zJ (b) (L:List aL):(Gw (L.map (gj b))).pairs=some (L.map (sQ b)):=by
 rw [zI,Sv]; rfl
theorem K8 (b) (L:List aL):D.o7 (L.map (sQ b)):=gB λx _=>o8 (by unfold D.o7; exact ⟨jn,by unfold D.o7; exact ⟨jn,by unfold D.o7; trivial⟩⟩)
structure Way (n:Int) (As:List (List aL)) (L:List aL):Prop where
 m:mp L=(n:MP) * xK As
 l:L.length<=cJ As
 e:Ex (As.map mz).sum L
 b:Bn (2000+2020 * As.length) L
theorem GO {n:Int} (h:n.natAbs<2 ^ 2000):Way n [] (cT n) where
 m:=by rw [uR]; show _=_ * (1:MP); grind
 l:=Rv _
 e:=λt ht=>by
  have:t=([],n):=by simpa [cT] using ht
  subst this
  exact ⟨RY _,λx hx=>by cases hx⟩
 b:=λt ht=>by
  have:t=([],n):=by simpa [cT] using ht
  subst this
  exact h
theorem vc:eF (cT 1) where
 l:=by show (1:Nat)<=_; lia
 e:=λt ht=>by
  have:t=([],1):=by simpa [cT] using ht
  subst this
  exact ⟨RY _,λx hx=>by cases hx⟩
 b:=λt ht=>by
  have:t=([],1):=by simpa [cT] using ht
  subst this
  exact Nat.one_lt_two_pow (by decide)
theorem zK (As) (A):((As++[A]).map mz).sum=(As.map mz).sum+mz A:=by
 rw [Si,Ve]; simp
theorem l7 (h:Way n As L) (f:eF A):mp (aP L A)=(n:MP) * xK (As++[A])/\(aP L A).length<=cJ (As++[A])/\Ex ((As++[A]).map mz).sum (aP L A)/\Bn (2000+2020 * As.length+2000) (aP L A):=by
 refine ⟨?_,?_,?_,h.b.prod f.b⟩
 ·rw [CG,h.m,Dg]; grind
 ·rw [fC,zD]; exact TZ h.l (by lia)
 ·rw [zK]; exact Ex.prod (xN _) (Dj _) h.e f.ex
theorem Ds (h:Way n As L) (f:eF A) (hl:cJ (As++[A])<=400000):Way n (As++[A]) (aX (aP L A)):=by
 obtain ⟨h1,h2,h3,h4⟩:=l7 h f
 refine ⟨by rw [Ku,h1],Rz (gF _) h2,h3.sum,(h4.sum (Tc (Rz h2 hl) (by decide))).mono ?_⟩
 rw [R3,Tz]; lia
theorem Dt {As Bs:List (List aL)} (h:As.Perm Bs):(As.map mz).sum=(Bs.map mz).sum:=by
 induction h with
 | nil=>rfl
 | cons x _ ih=>rw [RC,UK,RC,UK,ih]
 | swap x y l=>simp only [RC,UK]; lia
 | trans _ _ a b=>rw [a,b]
theorem Du (As:List (List aL)) (i):((As.take i).map mz).sum<=(As.map mz).sum:=by
 have e:(As.map mz).sum=((As.take i).map mz).sum+((As.drop i).map mz).sum:=by rw [<- Ve,<- Si,T4]
 have:=xN (As.drop i)
 lia
noncomputable def vd:OM:=λkvs ds Z=>∃ (ts:List aL) (p:Part) (W:Nat),W<=10/\gu p/\qu p<2 ^ W/\ts.length+cJ p.2<=400000/\(∀ t∈ts,Bd (2 ^ W) t.1)/\kvs=ck ((aX ts).map (gj (2 ^ W)))/\ds=[gr p,.int (W:Nat)] /\
 Z=λkvs'=>∃ X,mp X=mp (dY p.1 p.2)/\X.length<=cJ p.2/\(∀ t∈X,Bd (2 ^ W) t.1)/\kvs'=ck ((aX (ts++X)).map (gj (2 ^ W)))
section
local macro_rules | `(tactic| walk_at "evX")=> `(tactic| first | ((with_reducible show dD _ (Expr.Dict _ _ _) _ _); with_reducible refine oY ?_))
local macro_rules | `(tactic| walk_at "evXC")=> `(tactic| first
 | ((with_reducible show dD _ (Sx (RQ "sorted" _) _ _ _) _ _); with_reducible refine za (Txt.sorted (by assumption)) (Txt.len (by assumption)) ?_)
 | ((with_reducible show dD _ (Sx (RQ "list" _) [Sx _ _ _ _] _ _) _ _); refine uA 6 (by walk_at "at") rfl (by walk_at "sset") (sE (Txt.list (by assumption)) ?_)))
local macro_rules | `(tactic| walk_at "evXp")=> `(tactic| with_reducible refine xg (F:=KJ) (by assumption) (by decide) (by walk_at "at") (by walk_at "at") (by walk_at "own") ?_)
theorem Dv (Fu:cU K "add_part" "add_part" (top 25) f fd) (T:Txt K mg) (h1:bN P w K mg base 2 "packed" xH) (h2:FY P w K mg base 1 "add_products" KJ):aU P w K mg base (cF P w) 3 f fd ["whole","part","width"] (J7 K vd):=by
 refine Nl Fu sN (by rintro kvs ds Z ⟨ts,p,W,_,_,_,_,_,_,rfl,_⟩; rfl) λc hq q kvs ds Z hF=>?_
 obtain ⟨ts,p,W,hW,hp,hsz,hl,hb,rfl,rfl,rfl⟩:=hF
 show aE c _ [.aK q (ck ((aX ts).map (gj (2 ^ W)))),.va (.tup (.int p.1::p.2.map au)),.va (.int (W:Nat)),.un,.un,.un,.un] _ _
 conv in (aj _)=>whnf
 walk_at "ev"
 refine e_x (gW hq (N':=["some","width"]) (ρ0:=λ_=>[.un,.va (.int (W:Nat))]) (λt=>.un (.fr (by walk_at "at") (by walk_at "at") (by decide) rfl .nil)) (cu ?_))
 walk_at "ev"
 ·rw [i8,RB]; exact zW (by have:=hp.m; lia)
 rw [i8]
 refine ⟨p.2.map λA=>some (OS (2 ^ W) A),by simp,?_,bF ?_⟩
 ·intro c2 hc2 t j d o hd ho
  simp only [RO,RV] at hd ho
  obtain ⟨A,hA,rfl⟩:=hd
  obtain ⟨A',hA',rfl⟩:=ho
  rw [hA] at hA'; cases hA'
  have hm:=TH hA
  have hf:=hp.f A hm
  refine di (by walk_at "at") (j5 (by walk_at "sset") ⟨.un (.same .nil),?_⟩)
  simp only [kT]
  refine ⟨λ_=>?_,λh=>by cases h⟩
  show aG c2 _ [.va (.lst (A.map aW)),_] _
  refine ak (F:=xH) h1 (by decide) ?_
  walk_at "ev"
  have hx:mz A<2 ^ W:=by
   refine Wa ?_ hsz
   obtain ⟨l,r,e⟩:=List.append_of_mem hm
   unfold qu
   rw [e,Si,RC,Ve,UK]
   have:=xN l
   have:=xN r
   lia
  exact ah (KI hW hf.l (hf.ex.bd hx)) (bF rfl)
 rw [gq]
 refine ⟨_,rfl,λx hx=>by obtain ⟨A,_,rfl⟩:=Sb.mp hx; exact ⟨_,rfl⟩,λds' hp'=>?_⟩
 obtain ⟨As,hpm,rfl⟩:=Dr hp'
 have vC:∀ A∈As,eF A:=λA hA=>hp.f A (hpm.mem_iff.mp hA)
 have hpl:=zC hpm
 have hps:=Dt hpm
 have hlen:=hpm.length_eq
 refine j5 (by walk_at "sset") ?_
 with_reducible refine cE 3 (by walk_at "at") rfl (by walk_at "sset") ?_
 walk_at "ev"
 refine Ba (GL _ _) ?_
 walk_at "ev"
 with_reducible refine Hu 4 (by walk_at "at") rfl (by walk_at "sset") ?_
 rw [<- HU (2 ^ W) p.1]
 with_reducible refine cP hq (cu ?_)
 walk_at "ev"
 rw [Dq]
 have hcap:∀ i,cJ (As.take i)<=400000:=λi=>Rz (zE As i) (by lia)
 have hm8:As.length<=8:=by rw [hlen]; exact hp.m
 have KY:∀ (i:Nat) (L A:List aL),As[i]?=some A->Way p.1 (As.take i) L->eF A/\As.take (i+1)=As.take i++[A]/\mp (aP L A)=(p.1:MP) * xK (As.take (i+1))/\(aP L A).length<=cJ (As.take (i+1))/\(∀ l∈L,∀ r∈A,Bd (2 ^ W) (cI l.1 r.1)/\EV.MulOk l.2 r.2)/\L.length<=400000:=λi L A hA hw=>by
  obtain ⟨hi,rfl⟩:=RJ.mp hA
  have hf:=vC As[i] (Sg hi)
  have et:As.take (i+1)=As.take i++[As[i]]:=S0 hi
  obtain ⟨q1,q2,q3,q4⟩:=l7 hw hf
  rw [<- et] at q1 q2 q3
  refine ⟨hf,et,q1,q2,λl hl r hr=>⟨?_,?_⟩,Rz hw.l (hcap i)⟩
  ·have hm:fP l r∈aP L As[i]:=XQ.mpr ⟨l,hl,Sb.mpr ⟨r,hr,rfl⟩⟩
   have hx:=Du As (i+1)
   exact q3.bd (by unfold qu at hsz; lia) _ hm
  ·refine u5 (hw.b l hl) (hf.b r hr) ?_
   rw [Sq]; lia
 refine ⟨λi ρ'=>∃ (L:List aL) (s5 s6:Sl),Way p.1 (As.take i) L/\ρ'=[.aK q (ck ((aX ts).map (gj (2 ^ W)))),.va (.tup (.int p.1::p.2.map au)),.va (.int (W:Nat)),.va (.lst (As.map (OS (2 ^ W)))),.va (.lst (L.map (sQ (2 ^ W)))),s5,s6],⟨_,_,_,GO hp.n,rfl⟩,?_,?_⟩
 ·rintro c' m5 vv vz i d ρ' hd ⟨L,s5,s6,hw,rfl⟩
  rw [<- List.map_dropLast] at hd
  simp only [RO,RV] at hd
  obtain ⟨A,hA,rfl⟩:=hd
  rw [List.getElem?_dropLast] at hA
  replace hA:As[i]?=some A:=by
   split at hA
   ·exact hA
   ·cases hA
  obtain ⟨hf,et,q1,q2,q3,q4⟩:=KY i L A hA hw
  have q5:=hcap (i+1)
  have q6:=Ds hw hf (by rw [<- et]; exact q5)
  rw [<- et] at q6
  show oQ c' _ (.lst (A.map (sQ (2 ^ W)))) _ _
  walk_at "ev"
  refine ⟨_,⟨[],L,A,W,hW,by rw [fC] at q2; show 0+_<=_; lia,q4,hf.l,(by intro t ht; cases ht),q3,rfl,rfl,rfl⟩,?_⟩
  rintro kvs' rfl
  walk_at "ev"
  refine ⟨_,zJ _ _,K8 _ _,?_⟩
  repeat ((fail_if_success (with_reducible show aE _ [] _ _ _)); walk_at "ev1")
  with_reducible refine cE 4 (by walk_at "at") rfl (by walk_at "sset") ?_
  walk_at "ev"
  exact ⟨_,_,_,q6,rfl⟩
 ·rintro ρ' ⟨L,s5,s6,hw,rfl⟩
  rw [List.length_dropLast,RB] at hw
  walk_at "ev"
  ·have hne:As≠[]:=by rintro rfl; simp at *
   obtain ⟨i0,A,e0⟩:∃ i0 A,As=i0++[A]:=⟨As.dropLast,As.getLast hne,(List.dropLast_concat_getLast hne).symm⟩
   have ei:As.length - 1=i0.length:=by rw [e0]; simp
   have hA:As[As.length - 1]?=some A:=by rw [ei,e0]; simp
   have etl:As.take (As.length - 1+1)=As:=UB (by lia)
   obtain ⟨hf,et,q1,q2,q3,q4⟩:=KY _ L A hA hw
   rw [etl] at q1 q2
   refine gQ (show jj (As.map (OS (2 ^ W))) (-1)=some (OS (2 ^ W) A) by rw [e0,Si]; exact GN _ _) ?_
   walk_at "ev"
   refine ⟨_,⟨ts,L,A,W,hW,by rw [fC] at q2; lia,q4,hf.l,hb,q3,rfl,rfl,rfl⟩,?_⟩
   rintro kvs' rfl
   walk_at "ev"
   refine ⟨_,_,⟨aP L A,by rw [q1,lW,Df hpm],by rw [<- hpl]; exact q2,λt ht=>?_,rfl⟩,rfl⟩
   obtain ⟨l,hl,r,hr,rfl⟩:=gm ht
   exact (q3 l hl r hr).1
  ·have e0:As=[]:=by
    cases As with
    | nil=>rfl
    | cons A As=>simp at *
   have hw0:Way p.1 [] L:=by rw [e0] at hw; exact hw
   have p0:p.2=[]:=List.length_eq_zero_iff.mp (by rw [<- hlen,e0]; rfl)
   obtain ⟨q1,q2,q3,q4⟩:=l7 hw0 vc
   have hL:L.length<=1:=hw0.l
   have q5:(aP L (cT 1)).length<=1:=q2
   have h0W:(0:Int)<2 ^ W:=two_pos W
   have hx:(([]++[cT 1]:List (List aL)).map mz).sum<2 ^ W:=h0W
   have hp1:cJ p.2=1:=by rw [p0]; rfl
   rw [<- HU (2 ^ W) 1]
   refine ⟨_,⟨ts,L,cT 1,W,hW,by rw [fC] at q5; lia,by lia,vc.l,hb,λl hl r hr=>⟨?_,?_⟩,rfl,rfl,rfl⟩,?_⟩
   ·exact q3.bd hx _ (XQ.mpr ⟨l,hl,Sb.mpr ⟨r,hr,rfl⟩⟩)
   ·exact u5 (hw0.b l hl) (vc.b r hr) (by show 2000+2020 * 0+2000<=_; lia)
   rintro kvs' rfl
   walk_at "ev"
   refine ⟨_,_,⟨aP L (cT 1),?_,by rw [hp1]; exact q5,q3.bd hx,rfl⟩,rfl⟩
   rw [q1,lW,p0]
   show _ * (mp (cT 1) * 1)=_ * (1:MP)
   rw [uR]
   show _ * ((1:MP) * 1)=_ * (1:MP)
   grind
end
end
section
variable {K:Rr}
theorem sV (ps) (p:Part):mp (fU (ps++[p]))=mp (fU ps)+mp (dY p.1 p.2):=by
 unfold fU
 rw [List.flatMap_append,CF]
 congr 1
 rw [Vc,List.flatMap_nil,SJ]
theorem sW (l:List Nat) (i):(l.take i).sum<=l.sum:=by
 rw [<- T4 i l,Ve,T4]; lia
noncomputable def j0:Fn:=λds r=>∃ ps:List Part,aA ps/\ds=[.lst (ps.map gr)]/\r=.ok (.ow ((bX (fU ps)).map aW))
theorem cz (h:aA ps):j0 [.lst (ps.map gr)] (.ok (.ow ((bX (fU ps)).map aW))):=⟨ps,h,rfl,rfl⟩
section
local macro_rules | `(tactic| walk_at "evX")=> `(tactic| first | ((with_reducible show dD _ (Expr.Dict _ _ _) _ _); with_reducible refine oY ?_))
local macro_rules | `(tactic| walk_at "evCa")=> `(tactic| first | with_reducible refine ak (F:=GD) (by assumption) (by decide) ?_)
local macro_rules | `(tactic| walk_at "evXp")=> `(tactic| with_reducible refine xg (F:=vd) (by assumption) (by decide) (by walk_at "at") (by walk_at "at") (by walk_at "own") ?_)
local macro_rules | `(tactic| walk_at "evXC")=> `(tactic| first | ((with_reducible show dD _ (Sx (RQ "unpacked" _) _ _ _) _ _); refine uA 2 (by walk_at "at") rfl (by walk_at "sset") (x_call (F:=Gx) (by assumption) (by decide) ?_)))
theorem K9 (Fu:cU K "poly_total" "poly_total" (top 26) f fd) (T:Txt K mg) (h1:bN P w K mg base 2 "width_of" GD) (h2:FY P w K mg base 3 "add_part" vd) (h3:bN P w K mg base 3 "unpacked" Gx):aU P w K mg base (cF P w) 4 f fd ["parts"] (cR K j0):=by
 refine bH Fu mU (by rintro ds r ⟨ps,_,rfl,_⟩; rfl) (by rintro ds r ⟨ps,_,_,rfl⟩; exact ⟨_,rfl⟩) λc hq ds sl hF=>?_
 obtain ⟨ps,h,rfl,e⟩:=hF
 injection e with e
 subst e
 show aE c _ [.va (.lst (ps.map gr)),.un,.un,.un] _ _
 conv in (aj _)=>whnf
 obtain ⟨hW,hsz⟩:=GC h.p
 walk_at "ev"
 refine ah (ND h.p) ?_
 walk_at "ev"
 generalize Dk ps=W at hW hsz |-
 with_reducible refine cP hq (cu ?_)
 walk_at "ev"
 refine ⟨λi ρ'=>∃ (ts:List aL) (s3:Sl),mp ts=mp (fU (ps.take i))/\ts.length<=((ps.take i).map λp=>cJ p.2).sum/\(∀ t∈ts,Bd (2 ^ W) t.1)/\ρ'=[.va (.lst (ps.map gr)),.va (.int (W:Nat)),.oK (ck ((aX ts).map (gj (2 ^ W)))),s3],⟨[],_,rfl,Rv _,(by intro t ht; cases ht),rfl⟩,?_,?_⟩
 ·rintro c' m5 vv vz i d ρ' hd ⟨ts,s3,hm,hl,hb,rfl⟩
  simp only [RO,RV] at hd
  obtain ⟨p,hpx,rfl⟩:=hd
  obtain ⟨hi,rfl⟩:=RJ.mp hpx
  have et:ps.take (i+1)=ps.take i++[ps[i]]:=S0 hi
  have hmem:ps[i]∈ps:=Sg hi
  have hcap:((ps.take (i+1)).map λp=>cJ p.2).sum<=400000:=by rw [List.map_take]; exact Rz (sW _ _) h.s
  have ec:((ps.take (i+1)).map λp=>cJ p.2).sum=((ps.take i).map λp=>cJ p.2).sum+cJ ps[i].2:=by rw [et,Si,Ve]; simp
  rw [ec] at hcap
  walk_at "ev"
  refine ⟨_,⟨ts,ps[i],W,hW,h.p _ hmem,hsz _ hmem,by lia,hb,rfl,rfl,rfl⟩,?_⟩
  rintro kvs' ⟨X,x1,x2,x3,rfl⟩
  walk_at "ev"
  refine ⟨ts++X,.va (gr ps[i]),?_,?_,λt ht=>(R5.mp ht).elim (hb t) (x3 t),rfl⟩
  ·rw [CF,hm,x1,et,sV]
  ·rw [ec,R3]; lia
 ·rintro ρ' ⟨ts,s3,hm,hl,hb,rfl⟩
  rw [RB,SX] at hm hl
  walk_at "ev"
  refine ah (NC (ts:=ts) hW (by have:=h.s; lia) hb) ⟨gB λx _=>uY x,?_⟩
  show Sl.ow _=Sl.ow _
  rw [uS hm]
end
end
section
variable {K:Rr}
theorem Dw {l:List Int} (h:m<l.length):jj ((l.take (m+1)).map D.int) (-1)=some (.int (l.getD m 0)):=by
 have hl:(l.take (m+1)).length=m+1:=by simp; lia
 rw [wu (by decide) (by simp only [RB,hl]; lia),RB,hl]
 have e:(-1+((m+1:Nat):Int)).toNat=m:=by lia
 rw [e,RO,List.getElem?_take]
 simp [Sj,h]
section
local macro_rules | `(tactic| walk_at "side")=> `(tactic| exact iM _)
local macro_rules | `(tactic| walk_at "evXp")=> `(tactic| ((with_reducible show fX _ (Stmt.Expr (Sx _ [] _ _) _) _ _ _); with_reducible refine s_pop (by walk_at "at") (by walk_at "at") (by walk_at "own") ?_))
theorem Dy (Fu:cU K "_law_trimmed" "_law_trimmed" (top 51) f fd) (T:Txt K mg):aU P w K mg base (cF P w) 1 f fd ["_law_powers"] (cR K lV):=by
 refine bH Fu p7 (by rintro ds r ⟨a,_,rfl,_⟩; rfl) (by rintro ds r ⟨a,_,_,rfl⟩; exact ⟨_,rfl⟩) λc hq ds sl hF=>?_
 obtain ⟨l,hl,rfl,e⟩:=hF
 injection e with e
 subst e
 show aE c _ [.va (.tup (l.map .int)),.un] _ _
 conv in (aj _)=>whnf
 walk_at "ev"
 with_reducible refine iF hq (λm ρ'=>m<=l.length/\trim (l.take m)=trim l/\ρ'=[.va (.tup (l.map .int)),.ow ((l.take m).map .int)]) (m₀:=l.length) ?_ ?_
 ·exact ⟨Rv _,by rw [SX],by rw [SX]⟩
 ·rintro m ρ' ⟨hm,ht,rfl⟩
  have hL:((l.take m).map D.int).length=m:=by simp; lia
  walk_at "ev"
  ·rw [hL] at *
   obtain ⟨n,rfl⟩:∃ n,m=n+1:=⟨m - 1,by lia⟩
   refine ⟨_,_,rfl,Dw (by lia),?_⟩
   walk_at "ev"
   ·intro z; have z':=congrArg Vl z; rw [RB,Sq,TX] at z'; lia
   ·refine ⟨n,by lia,by lia,nX (by lia) (by assumption) ht,?_⟩
    show [_,Sl.ow _]=_
    rw [jv (by lia),Si,List.map_singleton,List.dropLast_concat]
   ·show Sl.va _=Sl.va _
    rw [nY (by lia) (by assumption) ht]
  ·show Sl.va _=Sl.va _
   have:m=0:=by rw [hL] at *; lia
   subst this
   rw [<- ht]
   rfl
end
end
section
variable {K:Rr}
noncomputable def Qj (ps:List Part):List D:=(bX (fU ps)).map aW
noncomputable def tt (ps:List Part):List aL:=bX (fU ps)
noncomputable abbrev T3:=List aL×List aL×List aL
noncomputable def D3 (s:T3):D:=.tup [au s.1,au s.2.1,au s.2.2]
noncomputable def A1 {α:Type} (d:α->D) (a:α):List D:=[d a]
noncomputable def P2 (s:List aL×List aL):D:=.tup [au s.1,au s.2]
noncomputable def A2 {α β:Type} (d:α->D) (e:β->D) (a:α×β):List D:=[d a.1,e a.2]
noncomputable def Fr {α:Type} (dA:α->List D) (Ok:α->Prop) (R:α->Sl) (P:Program) (w:World) (K:Rr) (mg:Str->Option Value) (base:Heap):Fn:=λds r=>∃ (ad:Addr) (a:α),Cw P w K mg base 4 ad j0/\Ok a/\ds=.adr ad::dA a/\r=.ok (R a)
theorem zL {ad:Addr} (hg:Cw P w K mg base 4 ad j0) (h:Ok a):Fr dA Ok R P w K mg base (.adr ad::dA a) (.ok (R a)):=⟨ad,a,hg,h,rfl,rfl⟩
noncomputable def Fw {α:Type} (dA:α->List D) (Ok:α->Prop) (R:α->Sl):Fn:=λds r=>∃ a:α,Ok a/\ds=dA a/\r=.ok (R a)
theorem Rk (h:Ok a):Fw dA Ok R (dA a) (.ok (R a)):=⟨a,h,rfl,rfl⟩
theorem fR (h:∀ a,(dA a).length=n):∀ ds r,Fr dA Ok R P w K mg base ds r->ds.length=n+1:=by
 rintro ds r ⟨ad,a,_,_,rfl,_⟩
 rw [Sf,h]
theorem ja:∀ ds r,Fr dA Ok R P w K mg base ds r->∃ sl,r=.ok sl:=by
 rintro ds r ⟨ad,a,_,_,_,rfl⟩
 exact ⟨_,rfl⟩
theorem gw (h:∀ a,(dA a).length=n):∀ ds r,Fw dA Ok R ds r->ds.length=n:=by
 rintro ds r ⟨a,_,rfl,_⟩
 exact h a
theorem jN:∀ ds r,Fw dA Ok R ds r->∃ sl,r=.ok sl:=by
 rintro ds r ⟨a,_,_,rfl⟩
 exact ⟨_,rfl⟩
noncomputable def fE (X:List (List Part)):Sl:=.va (.tup (X.map λps=>au (tt ps)))
noncomputable def Qk (ps:List Part):Sl:=.ow (Qj ps)
local macro_rules | `(tactic| walk_at "tv")=> `(tactic| (refine bC (e_x (xy (by assumption) (by decide) (by walk_at "at") (by walk_at "at") ?_)); walk_at "ev"))
noncomputable def Dz:T3×T3->List (List Part):=λ⟨⟨a,b,c⟩,⟨x,y,z⟩⟩=>[[(1,[b,z]),(-1,[c,y])],[(1,[c,x]),(-1,[a,z])],[(1,[a,y]),(-1,[b,x])]]
noncomputable abbrev NW:=Fr (A2 D3 D3) (λu=>∀ ps∈Dz u,aA ps) (λu=>fE (Dz u))
theorem NX (Fu:cU K "crossed" "crossed" (top 30) ff fd):aU P w K mg base (cF P w) 5 ff fd ["total","one","other"] (cR K (NW P w K mg base)):=by
 refine bH Fu uV (fR λ_=>rfl) ja λk hq ds sl hF=>?_
 obtain ⟨fg,⟨⟨a,b,c⟩,⟨x,y,z⟩⟩,hg,hh,rfl,ee⟩:=hF
 injection ee with ee
 subst ee
 have h0:aA [(1,[b,z]),(-1,[c,y])]:=hh _ (by simp [Dz])
 have h1:aA [(1,[c,x]),(-1,[a,z])]:=hh _ (by simp [Dz])
 have h2:aA [(1,[a,y]),(-1,[b,x])]:=hh _ (by simp [Dz])
 show aE k _ [.va (.adr fg),.va (.tup [au a,au b,au c]),.va (.tup [au x,au y,au z])] _ _
 conv in (aj _)=>whnf
 walk_at "evSs"
 refine cC (ue (gP ?_))
 walk_at "tv"
 refine ah (cz h0) (bF ?_)
 walk_at "tv"
 refine ah (cz h1) (bF ?_)
 walk_at "tv"
 refine ah (cz h2) (bF ?_)
 walk_at "ev"
 rfl
noncomputable def DA:T3×T3->List (List Part):=λ⟨⟨a,b,c⟩,⟨x,y,z⟩⟩=>[[(1,[x,c]),(-1,[a,z])],[(1,[y,c]),(-1,[b,z])]]
noncomputable abbrev Ql:=Fr (A2 D3 D3) (λu=>∀ ps∈DA u,aA ps) (λu=>fE (DA u))
theorem NY (Fu:cU K "way_between" "way_between" (top 31) ff fd):aU P w K mg base (cF P w) 5 ff fd ["total","i","j"] (cR K (Ql P w K mg base)):=by
 refine bH Fu lP (fR λ_=>rfl) ja λk hq ds sl hF=>?_
 obtain ⟨fg,⟨⟨a,b,c⟩,⟨x,y,z⟩⟩,hg,hh,rfl,ee⟩:=hF
 injection ee with ee
 subst ee
 have h0:aA [(1,[x,c]),(-1,[a,z])]:=hh _ (by simp [DA])
 have h1:aA [(1,[y,c]),(-1,[b,z])]:=hh _ (by simp [DA])
 show aE k _ [.va (.adr fg),.va (.tup [au a,au b,au c]),.va (.tup [au x,au y,au z])] _ _
 conv in (aj _)=>whnf
 walk_at "evSs"
 refine cC (ue (gP ?_))
 walk_at "tv"
 refine ah (cz h0) (bF ?_)
 walk_at "tv"
 refine ah (cz h1) (bF ?_)
 walk_at "ev"
 rfl
noncomputable def DB:T3×T3->List (List Part):=λ⟨⟨x,y,z⟩,⟨p,q,r⟩⟩=>[[(1,[p,z])],[(1,[q,z])],[(-1,[p,x]),(-1,[q,y])]]
noncomputable abbrev Qm:=Fr (A2 D3 D3) (λu=>∀ ps∈DB u,aA ps) (λu=>fE (DB u))
theorem NZ (Fu:cU K "side_rule" "side_rule" (top 35) ff fd):aU P w K mg base (cF P w) 5 ff fd ["total","i","l"] (cR K (Qm P w K mg base)):=by
 refine bH Fu pZ (fR λ_=>rfl) ja λk hq ds sl hF=>?_
 obtain ⟨fg,⟨⟨x,y,z⟩,⟨p,q,r⟩⟩,hg,hh,rfl,ee⟩:=hF
 injection ee with ee
 subst ee
 have h0:aA [(1,[p,z])]:=hh _ (by simp [DB])
 have h1:aA [(1,[q,z])]:=hh _ (by simp [DB])
 have h2:aA [(-1,[p,x]),(-1,[q,y])]:=hh _ (by simp [DB])
 show aE k _ [.va (.adr fg),.va (.tup [au x,au y,au z]),.va (.tup [au p,au q,au r])] _ _
 conv in (aj _)=>whnf
 walk_at "evSs"
 refine cC (ue (gP ?_))
 walk_at "tv"
 refine ah (cz h0) (bF ?_)
 walk_at "tv"
 refine ah (cz h1) (bF ?_)
 walk_at "tv"
 refine ah (cz h2) (bF ?_)
 walk_at "ev"
 rfl
noncomputable def DC:T3×T3->List (List Part):=λ⟨⟨x,y,z⟩,⟨p,q,r⟩⟩=>[[(-1,[q,z])],[(1,[p,z])],[(1,[q,x]),(-1,[p,y])]]
noncomputable abbrev Qn:=Fr (A2 D3 D3) (λu=>∀ ps∈DC u,aA ps) (λu=>fE (DC u))
theorem N3 (Fu:cU K "square_rule" "square_rule" (top 36) ff fd):aU P w K mg base (cF P w) 5 ff fd ["total","i","l"] (cR K (Qn P w K mg base)):=by
 refine bH Fu lQ (fR λ_=>rfl) ja λk hq ds sl hF=>?_
 obtain ⟨fg,⟨⟨x,y,z⟩,⟨p,q,r⟩⟩,hg,hh,rfl,ee⟩:=hF
 injection ee with ee
 subst ee
 have h0:aA [(-1,[q,z])]:=hh _ (by simp [DC])
 have h1:aA [(1,[p,z])]:=hh _ (by simp [DC])
 have h2:aA [(1,[q,x]),(-1,[p,y])]:=hh _ (by simp [DC])
 show aE k _ [.va (.adr fg),.va (.tup [au x,au y,au z]),.va (.tup [au p,au q,au r])] _ _
 conv in (aj _)=>whnf
 walk_at "evSs"
 refine cC (ue (gP ?_))
 walk_at "tv"
 refine ah (cz h0) (bF ?_)
 walk_at "tv"
 refine ah (cz h1) (bF ?_)
 walk_at "tv"
 refine ah (cz h2) (bF ?_)
 walk_at "ev"
 rfl
noncomputable def mC:T3->List Part:=λ⟨p,q,r⟩=>[(1,[p,p]),(1,[q,q])]
noncomputable abbrev N4:=Fr (A1 D3) (λu=>aA (mC u)) (λu=>Qk (mC u))
theorem N5 (Fu:cU K "square_of_way" "square_of_way" (top 32) ff fd):aU P w K mg base (cF P w) 5 ff fd ["total","l"] (cR K (N4 P w K mg base)):=by
 refine bH Fu jC (fR λ_=>rfl) ja λk hq ds sl hF=>?_
 obtain ⟨fg,⟨p,q,r⟩,hg,hh,rfl,ee⟩:=hF
 injection ee with ee
 subst ee
 show aE k _ [.va (.adr fg),.va (.tup [au p,au q,au r])] _ _
 conv in (aj _)=>whnf
 walk_at "evSs"
 refine cC (xy hg (by decide) (by walk_at "at") (by walk_at "at") ?_)
 walk_at "ev"
 exact ah (cz hh) rfl
section
local macro_rules | `(tactic| walk_at "evCa")=> `(tactic| first | with_reducible refine ak (F:=N4 _ _ _ _ _) (by assumption) (by decide) ?_)
local macro_rules | `(tactic| walk_at "evXC")=> `(tactic| first | with_reducible refine x_call (x:=Rp "square_of_way") (F:=N4 _ _ _ _ _) (by assumption) (by decide) ?_)
noncomputable def OT (x y z p q r S:List aL):List (List Part):=[[(1,[q,q,x]),(-1,[p,q,y]),(-1,[p,r,z])],[(1,[p,p,y]),(-1,[p,q,x]),(-1,[q,r,z])],[(1,[S,z])]]
noncomputable def sX:T3×T3->List (List Part):=λu=>OT u.1.1 u.1.2.1 u.1.2.2 u.2.1 u.2.2.1 u.2.2.2 (tt (mC u.2))
noncomputable abbrev N6:=Fr (A2 D3 D3) (λu=>aA (mC u.2)/\∀ ps∈sX u,aA ps) (λu=>fE (sX u))
theorem N7 (Fu:cU K "foot_rule" "foot_rule" (top 37) ff fd) (h1:bN P w K mg base 5 "square_of_way" (N4 P w K mg base)):aU P w K mg base (cF P w) 6 ff fd ["total","i","l"] (cR K (N6 P w K mg base)):=by
 refine bH Fu p5 (fR λ_=>rfl) ja λk hq ds sl hF=>?_
 obtain ⟨fg,⟨⟨x,y,z⟩,⟨p,q,r⟩⟩,hg,⟨hs,hh⟩,rfl,ee⟩:=hF
 injection ee with ee
 subst ee
 have q1:aA [(1,[q,q,x]),(-1,[p,q,y]),(-1,[p,r,z])]:=hh _ (by simp [sX,OT])
 have q2:aA [(1,[p,p,y]),(-1,[p,q,x]),(-1,[q,r,z])]:=hh _ (by simp [sX,OT])
 have q3:aA [(1,[tt (mC (p,q,r)),z])]:=hh _ (by simp [sX,OT])
 show aE k _ [.va (.adr fg),.va (.tup [au x,au y,au z]),.va (.tup [au p,au q,au r])] _ _
 conv in (aj _)=>whnf
 walk_at "evSs"
 refine cC (ue (gP ?_))
 walk_at "tv"
 refine ah (cz q1) (bF ?_)
 walk_at "tv"
 refine ah (cz q2) (bF ?_)
 walk_at "tv"
 refine ah (zL (a:=((p,q,r):T3)) hg hs) (bF ?_)
 walk_at "ev"
 refine ah (cz q3) (bF ?_)
 walk_at "ev"
 rfl
local macro_rules | `(tactic| walk_at "evXC")=> `(tactic| first | with_reducible refine x_call (x:=Rp "foot_rule") (F:=N6 _ _ _ _ _) (by assumption) (by decide) ?_)
noncomputable def LP (x y z F G S:List aL):List (List Part):=[[(2,[F]),(-1,[S,x])],[(2,[G]),(-1,[S,y])],[(1,[S,z])]]
noncomputable def N8 (u:T3×T3):List aL:=tt [(1,[u.2.2.1,u.2.2.1,u.1.1]),(-1,[u.2.1,u.2.2.1,u.1.2.1]),(-1,[u.2.1,u.2.2.2,u.1.2.2])]
noncomputable def N9 (u:T3×T3):List aL:=tt [(1,[u.2.1,u.2.1,u.1.2.1]),(-1,[u.2.1,u.2.2.1,u.1.1]),(-1,[u.2.2.1,u.2.2.2,u.1.2.2])]
noncomputable def HV:T3×T3->List (List Part):=λu=>LP u.1.1 u.1.2.1 u.1.2.2 (N8 u) (N9 u) (tt (mC u.2))
noncomputable abbrev Qo:=Fr (A2 D3 D3) (λu=>aA (mC u.2)/\(∀ ps∈sX u,aA ps)/\∀ ps∈HV u,aA ps) (λu=>fE (HV u))
theorem Oa (Fu:cU K "mirrored_rule" "mirrored_rule" (top 38) ff fd) (h1:bN P w K mg base 5 "square_of_way" (N4 P w K mg base)) (h2:bN P w K mg base 6 "foot_rule" (N6 P w K mg base)):aU P w K mg base (cF P w) 7 ff fd ["total","i","l"] (cR K (Qo P w K mg base)):=by
 refine bH Fu jD (fR λ_=>rfl) ja λk hq ds sl hF=>?_
 obtain ⟨fg,⟨⟨x,y,z⟩,⟨p,q,r⟩⟩,hg,⟨hs,hf,hh⟩,rfl,ee⟩:=hF
 injection ee with ee
 subst ee
 show aE k _ [.va (.adr fg),.va (.tup [au x,au y,au z]),.va (.tup [au p,au q,au r]),.un,.un] _ _
 conv in (aj _)=>whnf
 refine aD ?_
 generalize hG:(λρ'=>aE k _ ρ' _ _)=G
 walk_at "ev"
 refine ah (zL (dA:=A2 D3 D3) (Ok:=λu=>aA (mC u.2)/\∀ ps∈sX u,aA ps) (R:=λu=>fE (sX u)) (a:=(((x,y,z),(p,q,r)):T3×T3)) hg (show aA _/\(∀ ps∈sX ((x,y,z),(p,q,r)),aA ps) from And.intro hs hf)) ?_
 walk_at "ev"
 subst hG
 refine aD ?_
 generalize hG:(λρ'=>aE k _ ρ' _ _)=G
 walk_at "ev"
 refine ah (zL (a:=((p,q,r):T3)) hg hs) ?_
 walk_at "ev"
 subst hG
 refine cE 4 (d0:=au (tt (mC (p,q,r)))) (by walk_at "at") rfl (by walk_at "sset") ?_
 have hh':∀ ps∈LP x y z (N8 ((x,y,z),(p,q,r))) (N9 ((x,y,z),(p,q,r))) (tt (mC (p,q,r))),aA ps:=hh
 show aE k _ [.va (.adr fg),.va (.tup [au x,au y,au z]),.va (.tup [au p,au q,au r]),.va (.tup [au (N8 ((x,y,z),(p,q,r))),au (N9 ((x,y,z),(p,q,r))),au (tt [(1,[tt (mC (p,q,r)),z])])]),.va (au (tt (mC (p,q,r))))] _ { rt:=λu=>u=fE (LP x y z (N8 ((x,y,z),(p,q,r))) (N9 ((x,y,z),(p,q,r))) (tt (mC (p,q,r)))) }
 clear hh hf
 generalize tt (mC (p,q,r))=S at *
 generalize N8 ((x,y,z),(p,q,r))=F at *
 generalize N9 ((x,y,z),(p,q,r))=H at *
 have q1:aA [(2,[F]),(-1,[S,x])]:=hh' _ (by simp [LP])
 have q2:aA [(2,[H]),(-1,[S,y])]:=hh' _ (by simp [LP])
 have q3:aA [(1,[S,z])]:=hh' _ (by simp [LP])
 walk_at "evSs"
 refine cC (ue (gP ?_))
 walk_at "tv"
 refine ah (cz q1) (bF ?_)
 walk_at "tv"
 refine ah (cz q2) (bF ?_)
 walk_at "tv"
 refine ah (cz q3) (bF ?_)
 walk_at "ev"
 rfl
end
noncomputable def OU (u:Int×Int):D:=.tup [.int u.1,.int u.2]
noncomputable def LQ (u:Int×Int):List (List Part):=[[(u.1,[])],[(u.2,[])]]
noncomputable abbrev Qp:=Fr (A1 OU) (λu=>∀ ps∈LQ u,aA ps) (λu=>fE (LQ u))
theorem Ob (Fu:cU K "told_fraction" "told_fraction" (top 28) ff fd):aU P w K mg base (cF P w) 5 ff fd ["total","f"] (cR K (Qp P w K mg base)):=by
 refine bH Fu jB (fR λ_=>rfl) ja λk hq ds sl hF=>?_
 obtain ⟨fg,⟨n,d⟩,hg,hh,rfl,ee⟩:=hF
 injection ee with ee
 subst ee
 have h0:aA [(n,[])]:=hh _ (by simp [LQ])
 have h1:aA [(d,[])]:=hh _ (by simp [LQ])
 show aE k _ [.va (.adr fg),.va (.tup [.int n,.int d])] _ _
 conv in (aj _)=>whnf
 walk_at "evSs"
 refine cC (ue (gP ?_))
 walk_at "tv"
 refine ah (cz h0) (bF ?_)
 walk_at "tv"
 refine ah (cz h1) (bF ?_)
 walk_at "ev"
 rfl
noncomputable def LR (a b c x y z p q U V:List aL):List (List Part):=[[(1,[q,a,z]),(1,[p,U])],[(1,[q,b,z]),(1,[p,V])],[(1,[q,c,z])]]
noncomputable abbrev TP:=T3×T3×(List aL×List aL)
noncomputable def AP (u:TP):List D:=[D3 u.1,D3 u.2.1,P2 u.2.2]
noncomputable def Ei (u:T3×T3) (n:Nat):List aL:=tt ((DA u).getD n [])
noncomputable def zY (u:TP):List (List Part):=LR u.1.1 u.1.2.1 u.1.2.2 u.2.1.1 u.2.1.2.1 u.2.1.2.2 u.2.2.1 u.2.2.2 (Ei (u.1,u.2.1) 0) (Ei (u.1,u.2.1) 1)
noncomputable abbrev Oc:=Fr AP (λu=>(∀ ps∈DA (u.1,u.2.1),aA ps)/\∀ ps∈zY u,aA ps) (λu=>fE (zY u))
theorem Od (Fu:cU K "part_rule" "part_rule" (top 34) ff fd) (h1:bN P w K mg base 5 "way_between" (Ql P w K mg base)):aU P w K mg base (cF P w) 6 ff fd ["total","i","j","f"] (cR K (Oc P w K mg base)):=by
 refine bH Fu pY (fR λ_=>rfl) ja λk hq ds sl hF=>?_
 obtain ⟨fg,⟨⟨a,b,c⟩,⟨x,y,z⟩,⟨p,q⟩⟩,hg,⟨hs,hh⟩,rfl,ee⟩:=hF
 injection ee with ee
 subst ee
 show aE k _ [.va (.adr fg),.va (.tup [au a,au b,au c]),.va (.tup [au x,au y,au z]),.va (.tup [au p,au q]),.un] _ _
 conv in (aj _)=>whnf
 refine aD (AZ (by walk_at "at") (x_call (F:=Ql P w K mg base) h1 (by decide) ?_))
 generalize hG:(λρ'=>aE k _ ρ' _ _)=G
 walk_at "ev"
 refine ah (zL (a:=(((a,b,c),(x,y,z)):T3×T3)) hg hs) ?_
 refine j5 (by walk_at "sset") ?_
 subst hG
 have hh':∀ ps∈LR a b c x y z p q (Ei ((a,b,c),(x,y,z)) 0) (Ei ((a,b,c),(x,y,z)) 1),aA ps:=hh
 show aE k _ [.va (.adr fg),.va (.tup [au a,au b,au c]),.va (.tup [au x,au y,au z]),.va (.tup [au p,au q]),.va (.tup [au (Ei ((a,b,c),(x,y,z)) 0),au (Ei ((a,b,c),(x,y,z)) 1)])] _ { rt:=λu=>u=fE (LR a b c x y z p q (Ei ((a,b,c),(x,y,z)) 0) (Ei ((a,b,c),(x,y,z)) 1)) }
 clear hh hs
 generalize Ei ((a,b,c),(x,y,z)) 0=U at *
 generalize Ei ((a,b,c),(x,y,z)) 1=V at *
 have q1:aA [(1,[q,a,z]),(1,[p,U])]:=hh' _ (by simp [LR])
 have q2:aA [(1,[q,b,z]),(1,[p,V])]:=hh' _ (by simp [LR])
 have q3:aA [(1,[q,c,z])]:=hh' _ (by simp [LR])
 walk_at "evSs"
 refine cC (ue (gP ?_))
 walk_at "tv"
 refine ah (cz q1) (bF ?_)
 walk_at "tv"
 refine ah (cz q2) (bF ?_)
 walk_at "tv"
 refine ah (cz q3) (bF ?_)
 walk_at "ev"
 rfl
noncomputable def qv (k:Nat):List aL:=[(RE k 0++[1],1)]
noncomputable def xT:Fn:=λds r=>∃ k:Nat,k<=10/\ds=[.int k]/\r=.ok (.va (P2 (qv k,cT 1)))
theorem La {k:Nat} (h:k<=10):xT [.int k] (.ok (.va (P2 (qv k,cT 1)))):=⟨k,h,rfl,rfl⟩
section
local macro_rules | `(tactic| walk_at "evBo")=> `(tactic| first | ((with_reducible show aG _ (Vo _ Operator.Mult _ _) _ _); with_reducible refine M8 (HC ?_)))
theorem xU (k):(RE k [D.int 0]).flatten=(RE k (0:Int)).map D.int:=by
 induction k with
 | zero=>rfl
 | succ n ih=>rw [TR,UG,ih,TR]; rfl
theorem GP (Fu:cU K "free_poly" "free_poly" (top 27) f fd) (T:Txt K mg):aU P w K mg base (cF P w) 1 f fd ["k"] (cR K xT):=by
 refine bH Fu pX (by rintro ds r ⟨k,_,rfl,_⟩; rfl) (by rintro ds r ⟨k,_,_,rfl⟩; exact ⟨_,rfl⟩) λc hq ds sl hF=>?_
 obtain ⟨k,hk,rfl,e⟩:=hF
 injection e with e
 subst e
 show aE c _ [.va (.int k)] _ _
 conv in (aj _)=>whnf
 walk_at "evSs"
 refine cC (ue (gP ?_))
 walk_at "ev"
 refine ⟨_,rfl,?_⟩
 walk_at "ev"
 ·exact ⟨⟨by lia,by lia⟩,by rw [So]; exact zW (by simp only [Tz]; lia)⟩
 ·rw [So,xU]; exact zW (by simp only [RB,Xc,Tz]; lia)
 show Sl.va _=Sl.va _
 rw [So,xU]
 show _=Sl.va (.tup [.lst [.tup [.tup ((RE k (0:Int)++[1]).map D.int),.int 1]],_])
 rw [Si]
 rfl
end
noncomputable abbrev sY:=Fw (A2 D3 D3) (λu=>∀ ps∈Dz u,aA ps) (λu=>fE (Dz u))
theorem Lb (Fu:cU K "through_line" "through_line" (top 40) ff fd) (h1:bN P w K mg base 4 "poly_total" j0) (h2:bN P w K mg base 5 "crossed" (NW P w K mg base)):aU P w K mg base (cF P w) 6 ff fd ["i","j"] (cR K sY):=by
 refine bH Fu jX (gw λ_=>rfl) jN λc hq ds sl hF=>?_
 obtain ⟨u,hh,rfl,ee⟩:=hF
 injection ee with ee
 subst ee
 obtain ⟨fg,hm,hg⟩:=h1.at_
 show aE c _ [.va (D3 u.1),.va (D3 u.2)] _ _
 conv in (aj _)=>whnf
 walk_at "evSs"
 refine cC (x_call (F:=NW P w K mg base) h2 (by decide) ?_)
 refine bC (fQ hm ?_)
 walk_at "ev"
 exact ah (zL (a:=u) hg hh) rfl
theorem Lc (Fu:cU K "meet_point" "meet_point" (top 41) ff fd) (h1:bN P w K mg base 4 "poly_total" j0) (h2:bN P w K mg base 5 "crossed" (NW P w K mg base)):aU P w K mg base (cF P w) 6 ff fd ["l","m"] (cR K sY):=by
 refine bH Fu mV (gw λ_=>rfl) jN λc hq ds sl hF=>?_
 obtain ⟨u,hh,rfl,ee⟩:=hF
 injection ee with ee
 subst ee
 obtain ⟨fg,hm,hg⟩:=h1.at_
 show aE c _ [.va (D3 u.1),.va (D3 u.2)] _ _
 conv in (aj _)=>whnf
 walk_at "evSs"
 refine cC (x_call (F:=NW P w K mg base) h2 (by decide) ?_)
 refine bC (fQ hm ?_)
 walk_at "ev"
 exact ah (zL (a:=u) hg hh) rfl
noncomputable abbrev zM:=Fw (A2 D3 D3) (λu=>∀ ps∈DB u,aA ps) (λu=>fE (DB u))
theorem Ld (Fu:cU K "side_line" "side_line" (top 42) ff fd) (h1:bN P w K mg base 4 "poly_total" j0) (h2:bN P w K mg base 5 "side_rule" (Qm P w K mg base)):aU P w K mg base (cF P w) 6 ff fd ["i","l"] (cR K zM):=by
 refine bH Fu p6 (gw λ_=>rfl) jN λc hq ds sl hF=>?_
 obtain ⟨u,hh,rfl,ee⟩:=hF
 injection ee with ee
 subst ee
 obtain ⟨fg,hm,hg⟩:=h1.at_
 show aE c _ [.va (D3 u.1),.va (D3 u.2)] _ _
 conv in (aj _)=>whnf
 walk_at "evSs"
 refine cC (x_call (F:=Qm P w K mg base) h2 (by decide) ?_)
 refine bC (fQ hm ?_)
 walk_at "ev"
 exact ah (zL (a:=u) hg hh) rfl
noncomputable abbrev zN:=Fw (A2 D3 D3) (λu=>∀ ps∈DC u,aA ps) (λu=>fE (DC u))
theorem Le (Fu:cU K "square_line" "square_line" (top 43) ff fd) (h1:bN P w K mg base 4 "poly_total" j0) (h2:bN P w K mg base 5 "square_rule" (Qn P w K mg base)):aU P w K mg base (cF P w) 6 ff fd ["i","l"] (cR K zN):=by
 refine bH Fu lS (gw λ_=>rfl) jN λc hq ds sl hF=>?_
 obtain ⟨u,hh,rfl,ee⟩:=hF
 injection ee with ee
 subst ee
 obtain ⟨fg,hm,hg⟩:=h1.at_
 show aE c _ [.va (D3 u.1),.va (D3 u.2)] _ _
 conv in (aj _)=>whnf
 walk_at "evSs"
 refine cC (x_call (F:=Qn P w K mg base) h2 (by decide) ?_)
 refine bC (fQ hm ?_)
 walk_at "ev"
 exact ah (zL (a:=u) hg hh) rfl
noncomputable abbrev zO:=Fw (A2 D3 D3) (λu=>aA (mC u.2)/\∀ ps∈sX u,aA ps) (λu=>fE (sX u))
theorem Lf (Fu:cU K "foot_point" "foot_point" (top 44) ff fd) (h1:bN P w K mg base 4 "poly_total" j0) (h2:bN P w K mg base 6 "foot_rule" (N6 P w K mg base)):aU P w K mg base (cF P w) 7 ff fd ["i","l"] (cR K zO):=by
 refine bH Fu mW (gw λ_=>rfl) jN λc hq ds sl hF=>?_
 obtain ⟨u,hh,rfl,ee⟩:=hF
 injection ee with ee
 subst ee
 obtain ⟨fg,hm,hg⟩:=h1.at_
 show aE c _ [.va (D3 u.1),.va (D3 u.2)] _ _
 conv in (aj _)=>whnf
 walk_at "evSs"
 refine cC (x_call (F:=N6 P w K mg base) h2 (by decide) ?_)
 refine bC (fQ hm ?_)
 walk_at "ev"
 exact ah (zL (a:=u) hg hh) rfl
noncomputable abbrev zP:=Fw (A2 D3 D3) (λu=>aA (mC u.2)/\(∀ ps∈sX u,aA ps)/\∀ ps∈HV u,aA ps) (λu=>fE (HV u))
theorem Lg (Fu:cU K "mirrored_point" "mirrored_point" (top 46) ff fd) (h1:bN P w K mg base 4 "poly_total" j0) (h2:bN P w K mg base 7 "mirrored_rule" (Qo P w K mg base)):aU P w K mg base (cF P w) 8 ff fd ["i","l"] (cR K zP):=by
 refine bH Fu i6 (gw λ_=>rfl) jN λc hq ds sl hF=>?_
 obtain ⟨u,hh,rfl,ee⟩:=hF
 injection ee with ee
 subst ee
 obtain ⟨fg,hm,hg⟩:=h1.at_
 show aE c _ [.va (D3 u.1),.va (D3 u.2)] _ _
 conv in (aj _)=>whnf
 walk_at "evSs"
 refine cC (x_call (F:=Qo P w K mg base) h2 (by decide) ?_)
 refine bC (fQ hm ?_)
 walk_at "ev"
 exact ah (zL (a:=u) hg hh) rfl
noncomputable def AS (u:T3×T3×Nat):List D:=[D3 u.1,D3 u.2.1,.int (u.2.2:Int)]
noncomputable abbrev LS:=Fw AS (λu=>u.2.2<=10/\(∀ ps∈DA (u.1,u.2.1),aA ps)/\∀ ps∈zY (u.1,u.2.1,(qv u.2.2,cT 1)),aA ps) (λu=>fE (zY (u.1,u.2.1,(qv u.2.2,cT 1))))
theorem Oe (Fu:cU K "slide_point" "slide_point" (top 39) ff fd) (h1:bN P w K mg base 4 "poly_total" j0) (h2:bN P w K mg base 6 "part_rule" (Oc P w K mg base)) (h3:bN P w K mg base 1 "free_poly" xT):aU P w K mg base (cF P w) 7 ff fd ["i","j","t"] (cR K LS):=by
 refine bH Fu lR (gw λ_=>rfl) jN λc hq ds sl hF=>?_
 obtain ⟨⟨i,j,n⟩,⟨hn,q1,q2⟩,rfl,ee⟩:=hF
 injection ee with ee
 subst ee
 obtain ⟨fg,hm,hg⟩:=h1.at_
 show aE c _ [.va (D3 i),.va (D3 j),.va (.int (n:Int))] _ _
 conv in (aj _)=>whnf
 walk_at "evSs"
 refine cC (x_call (F:=Oc P w K mg base) h2 (by decide) ?_)
 refine bC (fQ hm (bC (jH (by walk_at "at") (by walk_at "at") (bC (jH (by walk_at "at") (by walk_at "at") (bC (ak (F:=xT) h3 (by decide) ?_)))))))
 walk_at "ev"
 refine ah (La hn) (aJ ?_)
 walk_at "ev"
 exact ah (zL (dA:=AP) (a:=(i,j,(qv n,cT 1))) hg ⟨q1,q2⟩) rfl
noncomputable def cN (n:Int):List aL:=tt [(n,[])]
noncomputable def AF (u:T3×T3×(Int×Int)):List D:=[D3 u.1,D3 u.2.1,OU u.2.2]
noncomputable abbrev LU:=Fw AF (λu=>(∀ ps∈LQ u.2.2,aA ps)/\(∀ ps∈DA (u.1,u.2.1),aA ps)/\∀ ps∈zY (u.1,u.2.1,(cN u.2.2.1,cN u.2.2.2)),aA ps) (λu=>fE (zY (u.1,u.2.1,(cN u.2.2.1,cN u.2.2.2))))
theorem Of (Fu:cU K "part_point" "part_point" (top 45) ff fd) (h1:bN P w K mg base 4 "poly_total" j0) (h2:bN P w K mg base 6 "part_rule" (Oc P w K mg base)) (h3:bN P w K mg base 5 "told_fraction" (Qp P w K mg base)):aU P w K mg base (cF P w) 7 ff fd ["i","j","f"] (cR K LU):=by
 refine bH Fu mX (gw λ_=>rfl) jN λc hq ds sl hF=>?_
 obtain ⟨⟨i,j,n⟩,⟨hn,q1,q2⟩,rfl,ee⟩:=hF
 injection ee with ee
 subst ee
 obtain ⟨fg,hm,hg⟩:=h1.at_
 show aE c _ [.va (D3 i),.va (D3 j),.va (OU n)] _ _
 conv in (aj _)=>whnf
 walk_at "evSs"
 refine cC (x_call (F:=Oc P w K mg base) h2 (by decide) ?_)
 refine bC (fQ hm (bC (jH (by walk_at "at") (by walk_at "at") (bC (jH (by walk_at "at") (by walk_at "at") (bC (ak (F:=Qp P w K mg base) h3 (by decide) ?_)))))))
 refine bC (fQ hm ?_)
 walk_at "ev"
 refine ah (zL (dA:=A1 OU) (a:=n) hg hn) (aJ ?_)
 walk_at "ev"
 exact ah (zL (dA:=AP) (a:=(i,j,(cN n.1,cN n.2))) hg ⟨q1,q2⟩) rfl
end
section
variable {K:Rr}
theorem DE {lo hi:Option Int} (h:x∈EV.cutD xs lo hi):x∈xs:=List.mem_of_mem_drop (U6 h)
theorem DF (xs:List α):(EV.cutD xs none (some 4)).length<=4:=by
 unfold EV.cutD
 have:HT.b9 xs.length xs.length (some 4)<=4:=by
  simp only [HT.b9,show ¬ ((4:Int)<0) by decide,if_false]
  exact Nat.min_le_left _ _
 rw [Sq]; lia
noncomputable def iA (cs:List Int) (o:Int) (k:Int):List aL:=EV.cutD ((stp cs (some (3 * o+k)) none (some 9)).map zX) none (some 4)++[([],k+1)]
theorem l8 (cs) (o k):(iA cs o k).length<=5:=by
 unfold iA
 rw [R3]
 have:=DF ((stp cs (some (3 * o+k)) none (some 9)).map zX)
 simp only [Tz]; lia
theorem kj (cs) (o k) (hk:k.natAbs<5):∀ t∈iA cs o k,QN t:=by
 intro t ht
 unfold iA at ht
 rcases R5.mp ht with h | h
 ·obtain ⟨n,_,rfl⟩:=Sb.mp (DE h)
  exact K4 n
 ·rw [RN] at h
  subst h
  exact ⟨RY _,(by intro x hx; cases hx),by show (k+1).natAbs<2 ^ 31; lia⟩
noncomputable def Rl (cs:List Int) (o:Int):List (List aL):=(RI 3).map λ(k:Nat)=>bX (iA cs o k)
noncomputable def DG:Fn:=λds r=>∃ (cs:List Int) (o:Int),o.natAbs<10/\cs.length<=1000/\ds=[.lst (cs.map .int),.int o]/\r=.ok (.va (.tup ((Rl cs o).map au)))
theorem Og {i:Nat} (h:i<3):jj [D.int 1,D.int 2,D.int 3] (i:Int)=some (D.int ((i:Int)+1)):=by
 obtain rfl | rfl | rfl:i=0\/i=1\/i=2:=by lia
 all_goals rfl
section
local macro_rules | `(tactic| walk_at "side")=> `(tactic| exact iM _)
local macro_rules | `(tactic| walk_at "evCa")=> `(tactic| first | with_reducible refine ak (F:=GJ) (by assumption) (by decide) ?_)
local macro_rules | `(tactic| walk_at "evR")=> `(tactic| first | with_reducible refine ah (NT _) ?_)
theorem DH (Fu:cU K "_law_three" "_law_three" (top 53) f fd) (T:Txt K mg) (h1:bN P w K mg base 2 "_law_small_term" GJ) (h2:bN P w K mg base 2 "_law_sum" KD):aU P w K mg base (cF P w) 3 f fd ["_law_cells","_law_offset"] (cR K DG):=by
 refine bH Fu uX (by rintro ds r ⟨cs,o,_,_,rfl,_⟩; rfl) (by rintro ds r ⟨cs,o,_,_,_,rfl⟩; exact ⟨_,rfl⟩) λc hq ds sl hF=>?_
 obtain ⟨cs,o,ho,hl,rfl,e⟩:=hF
 injection e with e
 subst e
 show aE c _ [.va (.lst (cs.map .int)),.va (.int o),.un,.un,.un,.un] _ _
 conv in (aj _)=>whnf
 walk_at "ev"
 with_reducible refine cP hq (d9 (Txt.range (by assumption)) ?_)
 walk_at "ev"
 ·exact ⟨by decide,by decide⟩
 refine ⟨λi ρ'=>∃ s3 s4 s5:Sl,ρ'=[.va (.lst (cs.map .int)),.va (.int o),.ow (((RI i).map λ(k:Nat)=>bX (iA cs o k)).map au),s3,s4,s5],⟨_,_,_,rfl⟩,?_,?_⟩
 ·rintro c' m5 vv vz i d ρ' hd ⟨s3,s4,s5,rfl⟩
  obtain ⟨hi,rfl⟩:=fK hd
  have hi':i<3:=hi
  walk_at "ev"
  refine cP (by rw [m5]; exact hq) (cu (e_x (Nu ?_)))
  walk_at "ev"
  ·exact q8 (by decide)
  refine ⟨_,9,rfl,rfl,by decide,?_⟩
  rw [Gb]
  walk_at "ev"
  refine ⟨λj ρ''=>∃ s5:Sl,ρ''=[.va (.lst (cs.map .int)),.va (.int o),.ow (((RI i).map λ(k:Nat)=>bX (iA cs o k)).map au),.va (.int (i:Int)),.ow (((((stp cs (some (3 * o+i)) none (some 9)).take j).map zX).map aW)),s5],⟨_,rfl⟩,?_,?_⟩
  ·rintro c'' hdX hdR hdM j d ρ'' hd ⟨s5,rfl⟩
   simp only [RO,RV] at hd
   obtain ⟨n,hn,rfl⟩:=hd
   obtain ⟨hj,rfl⟩:=RJ.mp hn
   have hs:(stp cs (some (3 * o+(i:Int))) none (some 9)).length<=cs.length:=xD (by decide)
   walk_at "ev"
   ·exact dO (by rw [RB,RB,Sq]; lia)
   ·refine ⟨.va (.int (stp cs (some (3 * o+(i:Int))) none (some 9))[j]),?_⟩
    show [_,_,_,_,Sl.ow _,_]=_
    rw [S0 hj,Si,Si]
    rfl
  ·rintro ρ'' ⟨s5,rfl⟩
   rw [RB,SX]
   walk_at "ev"
   refine e_x (M6 4 (by walk_at "at") rfl (by walk_at "sset") (x_call (F:=KD) (by assumption) (by decide) ?_))
   walk_at "ev"
   refine gQ (Og hi') ?_
   walk_at "ev"
   ·have:=DF (((stp cs (some (3 * o+(i:Int))) none (some 9)).map zX).map aW)
    exact zW (by simp only [Tz]; lia)
   have eL:iA cs o (i:Int)=EV.cutD ((stp cs (some (3 * o+(i:Int))) none (some 9)).map zX) none (some 4)++[([],(i:Int)+1)]:=rfl
   have eM:(iA cs o (i:Int)).map aW=EV.cutD (((stp cs (some (3 * o+(i:Int))) none (some 9)).map zX).map aW) none (some 4)++[.tup [.tup [],.int ((i:Int)+1)]]:=by rw [eL]; simp only [iO,Si]; rfl
   refine ⟨_,⟨iA cs o i,Rz (l8 ..) (by decide),λt ht=>Rz (kj cs o i (by lia) t ht).1 (by decide),by rw [eM],rfl⟩,?_⟩
   refine ⟨gB λx _=>uY x,bF ?_⟩
   walk_at "ev"
   ·exact dO (by rw [RB,RB,Wc]; lia)
   ·show ∃ s3 s4 s5:Sl,[_,_,Sl.ow _,_,_,_]=[_,_,Sl.ow (((RI (i+1)).map λ(k:Nat)=>bX (iA cs o k)).map au),s3,s4,s5]
    simp only [VD,Si,RC,Ud]
    exact ⟨_,_,_,rfl⟩
 ·rintro ρ' ⟨s3,s4,s5,rfl⟩
  rw [eG]
  walk_at "evSs"
  refine Hu 2 (by walk_at "at") rfl (by walk_at "sset") ?_
  walk_at "ev"
  rfl
end
end
section
variable {P:Program} {w:World} {K:Rr} {mg:Str->Option Value} {base:Heap}
theorem Ex.sZ (h:Ex m L):Ex m (bX L):=λt ht=>Ex.sum h t (rX ht).1
theorem Bn.sZ (h:Bn m L) (hl:L.length<2 ^ 20):Bn (m+20) (bX L):=λt ht=>Bn.sum h hl t (rX ht).1
structure Lm (l:Nat) (e:Int) (b:Nat) (A:List aL):Prop where
 l:A.length<=l
 e:Ex e A
 b:Bn b A
theorem Lm.sZ (h:Lm la ea ba A) (hl:la<2 ^ 20:=by decide):Lm la ea (ba+20) (bX A):=⟨Rz (rY _) h.l,h.e.sZ,h.b.sZ (Tc h.l hl)⟩
theorem Lm.mono (h:Lm la ea ba A) (h1:la<=lb:=by decide) (h2:ea<=eb:=by decide) (h3:ba<=bb:=by decide):Lm lb eb bb A:=⟨Rz h.l h1,h.e.mono h2,h.b.mono h3⟩
theorem Lm.app (h:Lm la ea ba A) (g:Lm lb ea ba B):Lm (la+lb) ea ba (A++B):=⟨by rw [R3]; exact Nat.add_le_add h.l g.l,h.e.app g.e,λt ht=>(R5.mp ht).elim (h.b t) (g.b t)⟩
theorem Lm.prod (h:Lm la ea ba A) (g:Lm lb eb bb B) (h0:0<=ea:=by decide) (g0:0<=eb:=by decide):Lm (la * lb) (ea+eb) (ba+bb) (aP A B):=⟨by rw [fC]; exact TZ h.l g.l,h.e.prod h0 g0 g.e,h.b.prod g.b⟩
theorem Lm.KY (h:Lm la ea ba A) (h1:la<=400000:=by decide) (h2:ea<=120:=by decide) (h3:ba<=2000:=by decide):eF A:=⟨Rz h.l h1,h.e.mono h2,h.b.mono h3⟩
theorem Lm.nil:Lm la ea ba []:=⟨RY _,(λt ht=>by cases ht),λt ht=>by cases ht⟩
theorem Lm.con (hn:n.natAbs<2 ^ ba):Lm 1 0 ba (cT n):=⟨Rv _,(λt ht=>by cases RN.mp ht; exact ⟨RY _,λx hx=>by cases hx⟩),λt ht=>by cases RN.mp ht; exact hn⟩
theorem QO (h:A.length<=l) (h1:1<=l):cJ [A]<=l:=by
 show max A.length 1 * 1<=l; omega
theorem QS (h:A.length<=l) (h1:1<=l) (g:B.length<=m) (g1:1<=m):cJ [A,B]<=l * m:=TZ (show max A.length 1<=l by omega) (QO g g1)
theorem Rm (h:A.length<=l) (h1:1<=l) (g:B.length<=m) (g1:1<=m) (f:C.length<=n) (f1:1<=n):cJ [A,B,C]<=l * (m * n):=TZ (show max A.length 1<=l by omega) (QS g g1 f f1)
theorem Lh (h:∀ p∈ps,p.1.natAbs<1000/\p.2.length<=8/\∀ A∈p.2,eF A) (hl:ps.length<=1000) (hs:(ps.map λp=>cJ p.2).sum<=400000):aA ps :=
 ⟨λp hp=>⟨R8 (h p hp).1 (Rz (by decide:1000<=2 ^ 10) (SD (by decide) (by decide))),(h p hp).2.1,(h p hp).2.2⟩,hl,hs⟩
abbrev Dm (l:Nat) (e:Int) (b:Nat):Prop:=1<=l/\l<=400000/\0<=e/\e<=120/\b<=2000
structure PB (l:Nat) (e:Int) (b:Nat) (p:Part):Prop where
 n:p.1.natAbs<1000
 c:p.2.length<=8
 f:∀ A∈p.2,eF A
 k:cJ p.2<=l
 m:Lm l e b (dY p.1 p.2)
section
variable {n:Int}
theorem Lm.fa (h:Lm la ea ba A) (d:Dm la ea ba):eF A:=h.KY d.2.1 d.2.2.2.1 d.2.2.2.2
theorem OV (h:n.natAbs<1000):n.natAbs<2 ^ 20:=R8 h (by decide)
theorem Rn (hn:n.natAbs<1000) (hA:Lm la ea ba A) (dA:Dm la ea ba:=by decide):PB (1 * la) (0+ea) (20+ba) (n,[A]) :=
 ⟨hn,by show (1:Nat)<=8; decide,by simp [hA.fa dA],by have:=QO hA.l dA.1; show cJ [A]<=1 * la; lia,(Lm.con (ba:=20) (OV hn)).prod hA (by decide) dA.2.2.1⟩
theorem HW (hn:n.natAbs<1000) (hA:Lm la ea ba A) (hB:Lm lb eb bb B) (dA:Dm la ea ba:=by decide) (dB:Dm lb eb bb:=by decide):PB (1 * la * lb) (0+ea+eb) (20+ba+bb) (n,[A,B]) :=
 ⟨hn,by show (2:Nat)<=8; decide,by simp [hA.fa dA,hB.fa dB],by rw [Nat.one_mul]; exact QS hA.l dA.1 hB.l dB.1,((Lm.con (ba:=20) (OV hn)).prod hA (by decide) dA.2.2.1).prod hB (by have:=dA.2.2.1; lia) dB.2.2.1⟩
theorem QT (hn:n.natAbs<1000) (hA:Lm la ea ba A) (hB:Lm lb eb bb B) (hC:Lm lc ec bc C) (dA:Dm la ea ba:=by decide) (dB:Dm lb eb bb:=by decide) (dC:Dm lc ec bc:=by decide):PB (1 * la * lb * lc) (0+ea+eb+ec) (20+ba+bb+bc) (n,[A,B,C]) :=
 ⟨hn,by show (3:Nat)<=8; decide,by simp [hA.fa dA,hB.fa dB,hC.fa dC],by rw [Nat.one_mul,WA]; exact Rm hA.l dA.1 hB.l dB.1 hC.l dC.1,(((Lm.con (ba:=20) (OV hn)).prod hA (by decide) dA.2.2.1).prod hB (by have:=dA.2.2.1; lia) dB.2.2.1).prod hC (by have:=dA.2.2.1; have:=dB.2.2.1; lia) dC.2.2.1⟩
theorem PB.mono (h:PB la ea ba p) (h1:la<=lb:=by decide) (h2:ea<=eb:=by decide) (h3:ba<=bb:=by decide):PB lb eb bb p:=⟨h.n,h.c,h.f,Rz h.k h1,h.m.mono h1 h2 h3⟩
theorem Li (h:∀ p∈ps,PB la ea ba p) (hl:ps.length<=1000:=by decide) (hs:ps.length * la<=400000:=by decide):aA ps/\Lm (ps.length * la) ea (ba+20) (tt ps):=by
 have h1:∀ qs:List Part,(∀ p∈qs,p∈ps)->(qs.map λp=>cJ p.2).sum<=qs.length * la/\Lm (qs.length * la) ea ba (fU qs):=λqs=>by
  induction qs with
  | nil=>exact λ_=>⟨RY _,Lm.nil⟩
  | cons q qs ih =>
   intro hq
   have i:=ih λp hp=>hq p (RH _ hp)
   have g:=h q (hq q RD)
   have e:(q::qs).length * la=la+qs.length * la:=by rw [Sf,Vj,VL]
   rw [e]
   refine ⟨?_,?_⟩
   ·rw [RC,UK]; exact Nat.add_le_add g.k i.1
   ·unfold fU
    rw [Vc]
    exact g.m.app i.2
 have h2:=h1 ps λ_ q=>q
 exact ⟨Lh (λp hp=>⟨(h p hp).n,(h p hp).c,(h p hp).f⟩) hl (Rz h2.1 hs),h2.2.sZ (by lia)⟩
end
theorem Lj (k) (h:∀ p∈ps,PB la ea ba p) (hk:(ps.length * la).ble k=true:=by rfl) (h1:ps.length.ble 1000=true:=by rfl) (h4:k<=400000:=by decide):aA ps/\Lm k ea (ba+20) (tt ps) :=
 have g:=Li h (Vs h1) (Rz (Vs hk) h4)
 ⟨g.1,g.2.mono (Vs hk) (SK _) (Rv _)⟩
theorem iD {α:Type} {Q:α->Prop}:∀ q∈([]:List α),Q q:=λq h=>by cases h
theorem cS {α:Type} {Q:α->Prop} {p:α} {ps:List α} (h:Q p) (t:∀ q∈ps,Q q):∀ q∈p::ps,Q q:=List.forall_mem_cons.mpr ⟨h,t⟩
structure Q3 (l:Nat) (e:Int) (b:Nat) (s:T3):Prop where
 p:Lm l e b s.1
 q:Lm l e b s.2.1
 r:Lm l e b s.2.2
theorem Q3.mono (h:Q3 la ea ba s) (h1:la<=lb:=by decide) (h2:ea<=eb:=by decide) (h3:ba<=bb:=by decide):Q3 lb eb bb s:=⟨h.p.mono h1 h2 h3,h.q.mono h1 h2 h3,h.r.mono h1 h2 h3⟩
noncomputable def HX (X:List (List Part)):T3:=(tt (X.getD 0 []),tt (X.getD 1 []),tt (X.getD 2 []))
theorem Qq (h:X.length=3):fE X=.va (D3 (HX X)):=by
 match X,h with
 | [a,b,c],_=>rfl
theorem ve {X:α->List (List Part)} (h:Ok a) (hl:(X a).length=3):Fw dA Ok (λu=>fE (X u)) (dA a) (.ok (.va (D3 (HX (X a))))):=by
 rw [<- Qq hl]; exact Rk h
end
section
variable {P:Program} {w:World} {K:Rr} {mg:Str->Option Value} {base:Heap}
noncomputable def aO (q:Rat):D:=.tup [.int q.num,.int (q.den:Int)]
theorem dR (q:Rat):((q.den:Int):Rat)≠0:=by
 have h:=q.den_nz
 intro e
 exact h (by have:=Wl.mp (e.trans (by rfl:(0:Rat)=((0:Int):Rat))); lia)
theorem l9 {b:Int} (hb:b≠0):(b:Rat)≠0:=λe=>hb (Wl.mp (e.trans (by rfl:(0:Rat)=((0:Int):Rat))))
theorem cB (q:Rat):(q.num:Rat) / ((q.den:Int):Rat)=q:=by
 rw [<- Rat.divInt_eq_div]; exact Rat.num_divInt_den q
theorem jb (hb:b≠0):nT a b=((a:Rat) / (b:Rat)).num/\nB a b=(((a:Rat) / (b:Rat)).den:Int):=by
 have h1:=cB ((a:Rat) / (b:Rat))
 have h2:=dR ((a:Rat) / (b:Rat))
 have h3:=l9 hb
 have hr:=((a:Rat) / (b:Rat)).reduced
 have hz:=((a:Rat) / (b:Rat)).den_nz
 generalize ((a:Rat) / (b:Rat)).num=n at *
 generalize ((a:Rat) / (b:Rat)).den=d at *
 have h:n * b=a * (d:Int):=by
  refine Wl.mp ?_
  rw [Ss,Ss]
  grind
 refine wo (uz hb) (by lia) (BD hb) ?_ (qZ hb (wm hb) h.symm)
 exact hr
theorem eO (hb:b≠0):dH a b=aO ((a:Rat) / (b:Rat)):=by
 unfold dH aO
 rw [(jb hb).1,(jb hb).2]
structure Rb (n:Nat) (q:Rat):Prop where
 a:q.num.natAbs<=2 ^ n
 b:q.den<=2 ^ n
theorem Rb.mono (h:Rb m q) (g:m<=n:=by decide):Rb n q:=⟨Rz h.a (SD (by decide) g),Rz h.b (SD (by decide) g)⟩
theorem oi {a b:Int} (hb:b≠0) (h:a.natAbs<=2 ^ n) (g:b.natAbs<=2 ^ n):Rb n ((a:Rat) / (b:Rat)):=by
 have e:=jb (a:=a) hb
 refine ⟨?_,?_⟩
 ·rw [<- e.1]; exact Rz (pq hb) h
 ·have h1:=pA (a:=a) hb
  rw [e.2] at h1
  exact Rz (by lia) g
theorem dU (h:a.natAbs<=2 ^ n) (hn:n<=4300):Sz a:=fZ.mpr (Tc (Rz h (SD (by decide) hn)) (by decide +kernel))
theorem Rb.nu (h:Rb m p):p.num.natAbs<=2 ^ m:=h.a
theorem Rb.de (h:Rb m p):(p.den:Int).natAbs<=2 ^ m:=by simpa using h.b
theorem dF {a b:Int} (h:a.natAbs<=2 ^ m) (g:b.natAbs<=2 ^ n):(a * b).natAbs<=2 ^ (m+n):=by
 rw [Uo,UR]; exact TZ h g
theorem xV {a b:Int} (h:a.natAbs<=2 ^ m) (g:b.natAbs<=2 ^ m):(a+b).natAbs<=2 ^ (m+1):=by
 rw [WG]; lia
theorem zQ (q:Rat):(q.den:Int)≠0:=by have:=q.den_nz; lia
theorem jc (p q:Rat):(p.den:Int) * (q.den:Int)≠0:=Int.mul_ne_zero (zQ p) (zQ q)
theorem xW (p q:Rat):((p.num * q.den+q.num * p.den:Int):Rat) / ((p.den * q.den:Int):Rat)=p+q:=by
 have h1:=cB p
 have h2:=cB q
 have h3:=dR p
 have h4:=dR q
 rw [Wm,Ss,Ss,Ss]
 grind
theorem tw (p q:Rat):((p.num * q.den - q.num * p.den:Int):Rat) / ((p.den * q.den:Int):Rat)=p - q:=by
 have h1:=cB p
 have h2:=cB q
 have h3:=dR p
 have h4:=dR q
 rw [Rat.intCast_sub,Ss,Ss,Ss]
 grind
theorem oj (p q:Rat):((p.num * q.num:Int):Rat) / ((p.den * q.den:Int):Rat)=p * q:=by
 have h1:=cB p
 have h2:=cB q
 have h3:=dR p
 have h4:=dR q
 rw [Ss,Ss]
 grind
theorem DI (p:Rat) (hq:q≠0):((p.num * q.den:Int):Rat) / ((p.den * q.num:Int):Rat)=p / q:=by
 have h1:=cB p
 have h2:=cB q
 have h3:=dR p
 have h4:=dR q
 have h5:(q.num:Rat)≠0:=l9 λe=>hq (Tf.mp e)
 rw [Ss,Ss]
 grind
theorem Lk (h:Rb m p) (g:Rb n q):Rb (m+n+1) (p+q):=by
 rw [<- xW]
 exact oi (jc p q) (xV (dF h.nu g.de) (VL m n ▸ dF g.nu h.de)) (Rz (dF h.de g.de) (SD (by decide) (Nat.le_succ _)))
theorem ko (h:Rb m p) (g:Rb n q):Rb (m+n+1) (p - q):=by
 rw [<- tw]
 refine oi (jc p q) ?_ (Rz (dF h.de g.de) (SD (by decide) (Nat.le_succ _)))
 rw [Int.sub_eq_add_neg]
 refine xV (dF h.nu g.de) ?_
 rw [Int.natAbs_neg]
 exact VL m n ▸ dF g.nu h.de
theorem eS (h:Rb m p) (g:Rb n q):Rb (m+n) (p * q):=by
 rw [<- oj]
 exact oi (jc p q) (dF h.nu g.nu) (dF h.de g.de)
theorem HY (h:Rb m p) (g:Rb n q) (hq:q≠0):Rb (m+n) (p / q):=by
 rw [<- DI p hq]
 exact oi (Int.mul_ne_zero (zQ p) λe=>hq (Tf.mp e)) (dF h.nu g.de) (dF h.de g.nu)
theorem xX (h:Rb m p) (g:Rb n q) (hm:m<=4300:=by decide) (hn:n<=4300:=by decide):F4 lX cK [aO p,aO q] (.ok (.va (aO (p+q)))):=by
 have:=NL (dU h.nu hm) (dU h.de hm) (dU g.nu hn) (dU g.de hn) (jc p q)
 rwa [eO (jc p q),xW] at this
theorem DJ (h:Rb m p) (g:Rb n q) (hm:m<=4300:=by decide) (hn:n<=4300:=by decide):F4 i9 cK [aO p,aO q] (.ok (.va (aO (p - q)))):=by
 have:=KU (dU h.nu hm) (dU h.de hm) (dU g.nu hn) (dU g.de hn) (jc p q)
 rwa [eO (jc p q),tw] at this
theorem c6 (h:Rb m p) (g:Rb n q) (hm:m<=4300:=by decide) (hn:n<=4300:=by decide):F4 dQ cK [aO p,aO q] (.ok (.va (aO (p * q)))):=by
 have:=GG (dU h.nu hm) (dU h.de hm) (dU g.nu hn) (dU g.de hn) (jc p q)
 rwa [eO (jc p q),oj] at this
theorem Oh (h:Rb m p) (g:Rb n q) (hq:q≠0) (hm:m<=4300:=by decide) (hn:n<=4300:=by decide):F4 NJ NK [aO p,aO q] (.ok (.va (aO (p / q)))):=by
 have hz:(p.den:Int) * q.num≠0:=Int.mul_ne_zero (zQ p) λe=>hq (Tf.mp e)
 have:=Qh (dU h.nu hm) (dU h.de hm) (dU g.nu hn) (dU g.de hn) hz
 rwa [eO hz,DI p hq] at this
noncomputable def xk (pl:List (Int×Int)) (k:Nat):Rat:=((gI pl k).1:Rat) / ((gI pl k).2:Rat)
noncomputable def vg (f:Nat->Rat):Nat->Rat
 | 0=>1
 | k+1=>vg f k * f k
noncomputable def mono (pl:List (Int×Int)) (p:List Int):Rat:=vg (λk=>xk pl k ^ (bz p k).toNat) 6
noncomputable def vL (pl:List (Int×Int)):List aL->Rat
 | []=>0
 | t::L=>(t.2:Rat) * mono pl t.1+vL pl L
section
variable {pl:List (Int×Int)}
theorem vh (B):∀ A,vL pl (A++B)=vL pl A+vL pl B
 | []=>by show vL pl B=0+vL pl B; grind
 | t::A=>by
  show (t.2:Rat) * mono pl t.1+vL pl (A++B)=(t.2:Rat) * mono pl t.1+vL pl A+vL pl B
  rw [vh B A]; grind
theorem kq (f g):∀ n,vg (λk=>f k * g k) n=vg f n * vg g n
 | 0=>by show (1:Rat)=1 * 1; grind
 | n+1=>by
  show vg (λk=>f k * g k) n * (f n * g n)=vg f n * f n * (vg g n * g n)
  rw [kq f g n]; grind
def Nn (A:List aL):Prop:=∀ t∈A,∀ x∈t.1,0<=x
theorem qf (h:∀ x∈p,0<=x) (k):0<=bz p k:=by
 by_cases z:k<p.length
 ·rw [cO z]; exact h _ (Sg _)
 ·rw [cy (by lia)]; exact SK _
theorem DK (hp:∀ x∈p,0<=x) (hq:∀ x∈q,0<=x):mono pl (cI p q)=mono pl p * mono pl q:=by
 unfold mono
 rw [<- kq]
 congr 1
 funext k
 have h1:=qf hp k
 have h2:=qf hq k
 rw [bY,show (bz p k+bz q k).toNat=(bz p k).toNat+(bz q k).toNat by lia]
 grind
theorem xY (hl:∀ x∈l.1,0<=x):∀ {B:List aL},Nn B->vL pl (B.map (fP l))=(l.2:Rat) * mono pl l.1 * vL pl B
 | [],_=>by show (0:Rat)=_ * 0; grind
 | t::B,h=>by
  show ((l.2 * t.2:Int):Rat) * mono pl (cI l.1 t.1)+vL pl (B.map (fP l))=(l.2:Rat) * mono pl l.1 * ((t.2:Rat) * mono pl t.1+vL pl B)
  rw [xY hl (B:=B) λu hu=>h u (RH _ hu),DK hl (h t RD),Ss]
  grind
theorem xZ (hB:Nn B):∀ {A:List aL},Nn A->vL pl (aP A B)=vL pl A * vL pl B
 | [],_=>by show (0:Rat)=0 * _; grind
 | t::A,h=>by
  show vL pl (B.map (fP t)++aP A B)=((t.2:Rat) * mono pl t.1+vL pl A) * vL pl B
  rw [vh,xY (h t RD) hB,xZ hB (A:=A) λu hu=>h u (RH _ hu)]
  grind
theorem om (n):vL pl (cT n)=(n:Rat):=by
 have:mono pl []=1:=by
  unfold mono
  show (1:Rat) * _ ^ 0 * _ ^ 0 * _ ^ 0 * _ ^ 0 * _ ^ 0 * _ ^ 0=1
  simp only [Rat.pow_zero]
  grind
 show (n:Rat) * mono pl []+0=_
 rw [this]; grind
theorem tD (hb:b≠0) (h:p<=g):((a ^ p * b ^ (g - p):Int):Rat)=((a:Rat) / (b:Rat)) ^ p * (b:Rat) ^ g:=by
 have hb:=l9 hb
 obtain ⟨d,rfl⟩:=Nat.exists_eq_add_of_le h
 rw [show p+d - p=d by lia,Ss,Wj,Wj]
 have e:(a:Rat)=(a:Rat) / (b:Rat) * (b:Rat):=by grind
 generalize (a:Rat) / (b:Rat)=x at *
 rw [e]
 have:∀ n:Nat,(x * (b:Rat)) ^ n=x ^ n * (b:Rat) ^ n:=λn=>by
  induction n with
  | zero=>grind
  | succ n ih=>grind
 rw [this]
 grind
theorem gx (n) (f):∀ k,((xP n f k:Int):Rat)=(n:Rat) * vg (λk=>(f k:Rat)) k
 | 0=>by show (n:Rat)=n * 1; grind
 | k+1=>by
  show ((xP n f k * f k:Int):Rat)=(n:Rat) * (vg (λk=>(f k:Rat)) k * (f k:Rat))
  rw [Ss,gx n f k]; grind
theorem qg:∀ {n:Nat},(∀ k,k<n->f k=g k)->vg f n=vg g n
 | 0,_=>rfl
 | n+1,h=>by
  show vg f n * f n=vg g n * g n
  rw [qg (n:=n) λk hk=>h k (by lia),h n (by lia)]
end
end
section
variable {P:Program} {w:World} {K:Rr} {mg:Str->Option Value} {base:Heap}
structure c7 (pl:List (Int×Int)):Prop where
 l:pl.length=6
 b:∀ x∈pl,x.1.natAbs<2 ^ 4/\x.2.natAbs<2 ^ 4/\0<x.2
 g:∀ x∈pl,RA x.1 x.2=1
section
variable {pl:List (Int×Int)}
theorem c7.pos (h:c7 pl) (k):0<(gI pl k).2:=by
 unfold gI
 rw [Sj]
 cases e:pl[k]? with
 | none=>decide
 | some x=>exact (h.b x (TH e)).2.2
noncomputable def vj (pl:List (Int×Int)) (G:Nat) (p:List Int):Int:=xP 1 (λk=>(gI pl k).1 ^ (bz p k).toNat * (gI pl k).2 ^ (G - (bz p k).toNat)) 6
noncomputable def GQ (pl:List (Int×Int)) (G:Nat):Int:=xP 1 (λk=>(gI pl k).2 ^ G) 6
theorem Ll (h:c7 pl) (hp:∀ k,(bz p k).toNat<=G):((vj pl G p:Int):Rat)=mono pl p * ((GQ pl G:Int):Rat):=by
 unfold vj GQ mono
 rw [gx,gx,qg (g:=λk=>xk pl k ^ (bz p k).toNat * (((gI pl k).2 ^ G:Int):Rat)) λk _=>?_,kq]
 ·grind
 ·rw [tD (Ur (h.pos k)) (hp k),Wj]
  rfl
theorem Ln (h:∀ x∈p,0<=x/\x<=e) (k):(bz p k).toNat<=e.toNat:=by
 by_cases z:k<p.length
 ·rw [cO z]; have:=h _ (Sg z); lia
 ·rw [cy (by lia)]; exact RY _
theorem zR (G) (p):vj pl G (trim p)=vj pl G p:=by
 unfold vj
 congr 1
 funext k
 rw [dM]
theorem vn (h:c7 pl):∀ {A:List aL},Ex e A->((ev (vj pl e.toNat) A:Int):Rat)=vL pl A * ((GQ pl e.toNat:Int):Rat)
 | [],_=>by
  show ((0:Int):Rat)=0 * _
  grind
 | t::A,hA=>by
  rw [bf,zR,Wm,Ss,Ll h (Ln (hA t RD).2),vn h (A:=A) λu hu=>hA u (RH _ hu)]
  show _=((t.2:Rat) * mono pl t.1+vL pl A) * _
  grind
theorem GR (h:c7 pl) (hA:Ex e A):vL pl (bX A)=vL pl A:=by
 have h1:=dS.mp (Ga A) (vj pl e.toNat)
 have h2:=vn h hA
 have h3:=vn h hA.sZ
 have h4:((GQ pl e.toNat:Int):Rat)≠0:=l9 (Ur (qe (by decide) (λk=>Ue (h.pos k)) 6))
 rw [h1,h2] at h3
 grind
noncomputable def tE (pl:List (Int×Int)):List (List aL)->Rat
 | []=>1
 | A::As=>vL pl A * tE pl As
noncomputable def gM (pl:List (Int×Int)):List Part->Rat
 | []=>0
 | p::ps=>(p.1:Rat) * tE pl p.2+gM pl ps
theorem GS (hA:Nn A) (hB:Nn B):Nn (aP A B):=λt ht=>by
 obtain ⟨l,hl,r,hr,rfl⟩:=gm ht
 intro x hx
 have hx:x∈cI l.1 r.1:=hx
 unfold cI at hx
 obtain ⟨k,_,rfl⟩:=Sb.mp hx
 have:=qf (hA l hl) k
 have:=qf (hB r hr) k
 lia
theorem x6:∀ {As:List (List aL)} {C:List aL},Nn C->(∀ A∈As,Nn A)->vL pl (As.foldl aP C)=vL pl C * tE pl As
 | [],C,_,_=>by show vL pl C=vL pl C * 1; grind
 | A::As,C,hC,h=>by
  show vL pl (As.foldl aP (aP C A))=vL pl C * (vL pl A * tE pl As)
  rw [x6 (GS hC (h A RD)) λB hB=>h B (RH _ hB),xZ (h A RD) hC]
  grind
theorem DL:∀ {ps:List Part},(∀ p∈ps,∀ A∈p.2,Nn A)->vL pl (fU ps)=gM pl ps
 | [],_=>rfl
 | p::ps,h=>by
  have e:fU (p::ps)=dY p.1 p.2++fU ps:=by unfold fU; rw [Vc]
  rw [e,vh,DL (ps:=ps) λq hq=>h q (RH _ hq)]
  unfold dY
  rw [x6 (λt ht=>by cases RN.mp ht; intro x hx; cases hx) (h p RD),om]
  rfl
theorem cD (hp:c7 pl) (k) (h:∀ p∈ps,PB la ea ba p) (hk:(ps.length * la).ble k=true:=by rfl) (h1:ps.length.ble 1000=true:=by rfl) (h4:k<=400000:=by decide):aA ps/\Lm k ea (ba+20) (tt ps)/\vL pl (tt ps)=gM pl ps:=by
 have g:=Lj k h hk h1 h4
 have hE:∀ qs:List Part,(∀ p∈qs,PB la ea ba p)->Ex ea (fU qs):=λqs=>by
  induction qs with
  | nil=>intro _ t ht; cases ht
  | cons q qs ih =>
   intro hq
   have e:fU (q::qs)=dY q.1 q.2++fU qs:=by unfold fU; rw [Vc]
   rw [e]
   exact (hq q RD).m.e.app (ih λp hp=>hq p (RH _ hp))
 exact ⟨g.1,g.2,(GR hp (hE ps h)).trans (DL λp hp A hA t ht x hx=>(((h p hp).f A hA).e t ht).2 x hx |>.1)⟩
theorem GU (ok:c8 L pl m G nb) (ht:t∈L):((wW L pl t:Int):Rat)=(t.2:Rat) * mono pl t.1 * ((jZ L pl:Int):Rat):=by
 unfold wW jZ mono
 rw [gx,gx,qg (g:=λk=>xk pl k ^ (bz t.1 k).toNat * (((gI pl k).2 ^ gN L k:Int):Rat)) λk _=>?_,kq]
 ·grind
 ·unfold u7
  rw [tD (Ur (ok.sp k).2.2) (ok.le ht k),Wj]
  rfl
theorem tF (ok:c8 L pl m G nb):∀ {M:List aL} (a:Int),(∀ t∈M,t∈L)->((M.foldl (λa t=>a+wW L pl t) a:Int):Rat)=(a:Rat)+vL pl M * ((jZ L pl:Int):Rat)
 | [],a,_=>by show (a:Rat)=a+0 * _; grind
 | t::M,a,h=>by
  show ((M.foldl (λa t=>a+wW L pl t) (a+wW L pl t):Int):Rat)=(a:Rat)+((t.2:Rat) * mono pl t.1+vL pl M) * _
  rw [tF ok (M:=M) _ λu hu=>h u (RH _ hu),Wm,GU ok (h t RD)]
  grind
theorem x8 (ok:c8 L pl m G nb):((iy L pl L:Int):Rat) / ((jZ L pl:Int):Rat)=vL pl L:=by
 have h:=tF ok (M:=L) 0 λt ht=>ht
 have hb:=l9 (Ur ok.bpos)
 have e:((iy L pl L:Int):Rat)=vL pl L * ((jZ L pl:Int):Rat):=by
  unfold iy; rw [h]; grind
 rw [e]
 grind
theorem HZ {L:List aL} (h:c7 pl) (g:Lm 1000 9 400 L):c8 L pl 4 9 400 where
 p:=λt ht=>g.e t ht
 n:=g.b
 l:=Rz g.l (by decide)
 q:=Nat.le_of_eq h.l
 b:=h.b
 s:=by decide
 s2:=by decide
 s3:=by decide
 s4:=by decide
theorem x9 (h:c7 pl) (g:Lm 1000 9 400 L):l6 [.lst (L.map aW),.lst (pl.map fD)] (.ok (.va (aO (vL pl L)))):=by
 have ok:=HZ h g
 have:=NU ok
 rwa [eO (Ur ok.bpos),x8 ok] at this
theorem bD (h:c7 pl) (g:Lm 1000 9 400 L):Rb 640 (vL pl L):=by
 have ok:=HZ h g
 rw [<- x8 ok]
 refine oi (Ur ok.bpos) ?_ (Rz (ok.KZ 6) (SD (by decide) (by decide)))
 refine Rz (ok.Rj λt ht=>ht) (Rz (Nat.mul_le_mul_right _ (Rz g.l (by decide:1000<=2 ^ 10))) ?_)
 rw [<- UR]
 exact SD (by decide) (by decide)
end
end
section
variable {P:Program} {w:World} {K:Rr} {mg:Str->Option Value} {base:Heap}
noncomputable def Ej (s t:T3):T3:=HX (Dz (s,t))
noncomputable def Ek (s t:T3):T3:=HX (DB (s,t))
noncomputable def El (s t:T3):T3:=HX (DC (s,t))
noncomputable def qw (s t:T3):T3:=HX (sX (s,t))
noncomputable def Ia (s t:T3):T3:=HX (HV (s,t))
noncomputable def ya (s t:T3) (f:List aL×List aL):T3:=HX (zY (s,t,f))
structure V3 (pl:List (Int×Int)) (s:T3) (x y z:Rat):Prop where
 x:vL pl s.1=x
 y:vL pl s.2.1=y
 z:vL pl s.2.2=z
theorem Ro (hn:n.natAbs<1000):PB 1 0 20 (n,[]):=⟨hn,RY _,(λA h=>by cases h),Rv _,Lm.con (OV hn)⟩
theorem Oi (h:k<=5):Lm 1 1 40 (qv k):=by
 refine ⟨Rv _,λt ht=>?_,λt ht=>?_⟩
 ·cases RN.mp ht
  refine ⟨by rw [R3,Xc,Tz]; lia,λx hx=>?_⟩
  rcases R5.mp hx with q | q
  ·have:=(List.mem_replicate.mp q).2; lia
  ·have:=RN.mp q; lia
 ·cases RN.mp ht
  exact (by decide:(1:Int).natAbs<2 ^ 40)
theorem Oj:Lm 1 1 40 (cT 1):=(Lm.con (ba:=40) (n:=1) (by decide)).mono
section
variable {pl:List (Int×Int)}
theorem Ib (hp:c7 pl) (hn:n.natAbs<1000):aA [(n,[])]/\Lm 1 0 40 (cN n)/\vL pl (cN n)=(n:Rat):=by
 have h:=cD hp 1 (cS (Ro hn) iD)
 refine ⟨h.1,h.2.1,h.2.2.trans ?_⟩
 show (n:Rat) * 1+0=_
 grind
theorem Ol (hp:c7 pl) (h:k<=5):vL pl (qv k)=xk pl k:=by
 show ((1:Int):Rat) * mono pl (RE k 0++[1])+0=_
 have e:mono pl (RE k 0++[1])=xk pl k:=by
  unfold mono
  have hk:k=0\/k=1\/k=2\/k=3\/k=4\/k=5:=by lia
  rcases hk with rfl | rfl | rfl | rfl | rfl | rfl
  all_goals
   generalize xk pl=f
   simp only [vg,bz,RE,Wo,Uk,List.getD_cons_zero,List.getD_cons_succ,List.getD_nil,Int.toNat_zero,Int.toNat_one,Rat.pow_zero]
   grind
 rw [e]; grind
theorem Ic (hp:c7 pl) (hi:Q3 5 3 60 i) (hl:Q3 5 3 60 j):(∀ ps∈Dz (i,j),aA ps)/\Q3 50 6 160 (Ej i j)/\V3 pl (Ej i j) (vL pl i.2.1 * vL pl j.2.2 - vL pl i.2.2 * vL pl j.2.1) (vL pl i.2.2 * vL pl j.1 - vL pl i.1 * vL pl j.2.2) (vL pl i.1 * vL pl j.2.1 - vL pl i.2.1 * vL pl j.1):=by
 have g:∀ {n:Int} {A B:List aL},n.natAbs<1000->Lm 5 3 60 A->Lm 5 3 60 B->PB 25 6 140 (n,[A,B]):=λhn hA hB=>(HW hn hA hB).mono
 have e1:=cD hp 50 (cS (g (n:=1) (by decide) hi.q hl.r) (cS (g (n:= -1) (by decide) hi.r hl.q) iD))
 have e2:=cD hp 50 (cS (g (n:=1) (by decide) hi.r hl.p) (cS (g (n:= -1) (by decide) hi.p hl.r) iD))
 have e3:=cD hp 50 (cS (g (n:=1) (by decide) hi.p hl.q) (cS (g (n:= -1) (by decide) hi.q hl.p) iD))
 refine ⟨cS e1.1 (cS e2.1 (cS e3.1 iD)),⟨e1.2.1,e2.2.1,e3.2.1⟩,e1.2.2.trans ?_,e2.2.2.trans ?_,e3.2.2.trans ?_⟩
 all_goals simp only [gM,tE]; grind
theorem Om (hp:c7 pl) (hi:Q3 5 3 60 i) (hl:Q3 5 3 60 l):(∀ ps∈DB (i,l),aA ps)/\Q3 50 6 160 (Ek i l)/\V3 pl (Ek i l) (vL pl l.1 * vL pl i.2.2) (vL pl l.2.1 * vL pl i.2.2) (0 - vL pl l.1 * vL pl i.1 - vL pl l.2.1 * vL pl i.2.1):=by
 have g:∀ {n:Int} {A B:List aL},n.natAbs<1000->Lm 5 3 60 A->Lm 5 3 60 B->PB 25 6 140 (n,[A,B]):=λhn hA hB=>(HW hn hA hB).mono
 have e1:=cD hp 50 (cS (g (n:=1) (by decide) hl.p hi.r) iD)
 have e2:=cD hp 50 (cS (g (n:=1) (by decide) hl.q hi.r) iD)
 have e3:=cD hp 50 (cS (g (n:= -1) (by decide) hl.p hi.p) (cS (g (n:= -1) (by decide) hl.q hi.q) iD))
 refine ⟨cS e1.1 (cS e2.1 (cS e3.1 iD)),⟨e1.2.1,e2.2.1,e3.2.1⟩,e1.2.2.trans ?_,e2.2.2.trans ?_,e3.2.2.trans ?_⟩
 all_goals simp only [gM,tE]; grind
theorem Oo (hp:c7 pl) (hi:Q3 5 3 60 i) (hl:Q3 5 3 60 l):(∀ ps∈DC (i,l),aA ps)/\Q3 50 6 160 (El i l)/\V3 pl (El i l) (0 - vL pl l.2.1 * vL pl i.2.2) (vL pl l.1 * vL pl i.2.2) (vL pl l.2.1 * vL pl i.1 - vL pl l.1 * vL pl i.2.1):=by
 have g:∀ {n:Int} {A B:List aL},n.natAbs<1000->Lm 5 3 60 A->Lm 5 3 60 B->PB 25 6 140 (n,[A,B]):=λhn hA hB=>(HW hn hA hB).mono
 have e1:=cD hp 50 (cS (g (n:= -1) (by decide) hl.q hi.r) iD)
 have e2:=cD hp 50 (cS (g (n:=1) (by decide) hl.p hi.r) iD)
 have e3:=cD hp 50 (cS (g (n:=1) (by decide) hl.q hi.p) (cS (g (n:= -1) (by decide) hl.p hi.q) iD))
 refine ⟨cS e1.1 (cS e2.1 (cS e3.1 iD)),⟨e1.2.1,e2.2.1,e3.2.1⟩,e1.2.2.trans ?_,e2.2.2.trans ?_,e3.2.2.trans ?_⟩
 all_goals simp only [gM,tE]; grind
theorem DM (hp:c7 pl) (hl:Q3 5 3 60 l):aA (mC l)/\Lm 50 6 160 (tt (mC l))/\vL pl (tt (mC l))=vL pl l.1 * vL pl l.1+vL pl l.2.1 * vL pl l.2.1:=by
 have g:∀ {A:List aL},Lm 5 3 60 A->PB 25 6 140 (1,[A,A]):=λhA=>(HW (by decide) hA hA).mono
 have e:=cD hp 50 (cS (g hl.p) (cS (g hl.q) iD))
 refine ⟨e.1,e.2.1,e.2.2.trans ?_⟩
 simp only [gM,tE]; grind
theorem Ie (hp:c7 pl) (hi:Q3 5 3 60 i) (hl:Q3 5 3 60 l):(∀ ps∈sX (i,l),aA ps)/\Q3 375 9 260 (qw i l)/\V3 pl (qw i l) (vL pl l.2.1 * vL pl l.2.1 * vL pl i.1 - vL pl l.1 * vL pl l.2.1 * vL pl i.2.1 - vL pl l.1 * vL pl l.2.2 * vL pl i.2.2) (vL pl l.1 * vL pl l.1 * vL pl i.2.1 - vL pl l.1 * vL pl l.2.1 * vL pl i.1 - vL pl l.2.1 * vL pl l.2.2 * vL pl i.2.2) ((vL pl l.1 * vL pl l.1+vL pl l.2.1 * vL pl l.2.1) * vL pl i.2.2):=by
 have hS:=(DM hp hl).2
 have g:∀ {n:Int} {A B C:List aL},n.natAbs<1000->Lm 5 3 60 A->Lm 5 3 60 B->Lm 5 3 60 C->PB 125 9 200 (n,[A,B,C]):=λhn hA hB hC=>(QT hn hA hB hC).mono
 have e1:=cD hp 375 (cS (g (n:=1) (by decide) hl.q hl.q hi.p) (cS (g (n:= -1) (by decide) hl.p hl.q hi.q) (cS (g (n:= -1) (by decide) hl.p hl.r hi.r) iD)))
 have e2:=cD hp 375 (cS (g (n:=1) (by decide) hl.p hl.p hi.q) (cS (g (n:= -1) (by decide) hl.p hl.q hi.p) (cS (g (n:= -1) (by decide) hl.q hl.r hi.r) iD)))
 have e3:=cD hp 250 (cS (PB.mono (lb:=250) (eb:=9) (bb:=240) (HW (n:=1) (by decide) hS.1 hi.r)) iD)
 refine ⟨cS e1.1 (cS e2.1 (cS e3.1 iD)),⟨e1.2.1.mono,e2.2.1.mono,e3.2.1.mono⟩,e1.2.2.trans ?_,e2.2.2.trans ?_,e3.2.2.trans ?_⟩
 ·simp only [gM,tE]; grind
 ·simp only [gM,tE]; grind
 ·simp only [gM,tE,hS.2]; grind
theorem Oq (hp:c7 pl) (hi:Q3 5 3 60 i) (hl:Q3 5 3 60 l):(∀ ps∈HV (i,l),aA ps)/\Q3 750 9 300 (Ia i l)/\V3 pl (Ia i l) (2 * vL pl (qw i l).1 - (vL pl l.1 * vL pl l.1+vL pl l.2.1 * vL pl l.2.1) * vL pl i.1) (2 * vL pl (qw i l).2.1 - (vL pl l.1 * vL pl l.1+vL pl l.2.1 * vL pl l.2.1) * vL pl i.2.1) ((vL pl l.1 * vL pl l.1+vL pl l.2.1 * vL pl l.2.1) * vL pl i.2.2):=by
 have hS:=(DM hp hl).2
 have hf:=(Ie hp hi hl).2.1
 have g:∀ {A:List aL},Lm 375 9 260 A->PB 375 9 280 (2,[A]):=λhA=>(Rn (by decide) hA).mono
 have g':∀ {n:Int} {B:List aL},n.natAbs<1000->Lm 5 3 60 B->PB 375 9 280 (n,[tt (mC l),B]):=λhn hB=>(HW hn hS.1 hB).mono
 have e1:=cD hp 750 (cS (g hf.p) (cS (g' (n:= -1) (by decide) hi.p) iD))
 have e2:=cD hp 750 (cS (g hf.q) (cS (g' (n:= -1) (by decide) hi.q) iD))
 have e3:=cD hp 750 (cS (g' (n:=1) (by decide) hi.r) iD)
 refine ⟨cS e1.1 (cS e2.1 (cS e3.1 iD)),⟨e1.2.1,e2.2.1,e3.2.1⟩,e1.2.2.trans ?_,e2.2.2.trans ?_,e3.2.2.trans ?_⟩
 ·simp only [gM,tE,hS.2]; grind
 ·simp only [gM,tE,hS.2]; grind
 ·simp only [gM,tE,hS.2]; grind
theorem Ig (hp:c7 pl) (hi:Q3 5 3 60 i) (hj:Q3 5 3 60 j) (h1:Lm 1 1 40 f.1) (h2:Lm 1 1 40 f.2):(∀ ps∈DA (i,j),aA ps)/\(∀ ps∈zY (i,j,f),aA ps)/\Q3 100 7 240 (ya i j f)/\V3 pl (ya i j f) (vL pl f.2 * (vL pl i.1 * vL pl j.2.2)+vL pl f.1 * (vL pl j.1 * vL pl i.2.2 - vL pl i.1 * vL pl j.2.2)) (vL pl f.2 * (vL pl i.2.1 * vL pl j.2.2)+vL pl f.1 * (vL pl j.2.1 * vL pl i.2.2 - vL pl i.2.1 * vL pl j.2.2)) (vL pl f.2 * (vL pl i.2.2 * vL pl j.2.2)):=by
 have g:∀ {n:Int} {A B:List aL},n.natAbs<1000->Lm 5 3 60 A->Lm 5 3 60 B->PB 25 6 140 (n,[A,B]):=λhn hA hB=>(HW hn hA hB).mono
 have w1:=cD hp 50 (cS (g (n:=1) (by decide) hj.p hi.r) (cS (g (n:= -1) (by decide) hi.p hj.r) iD))
 have w2:=cD hp 50 (cS (g (n:=1) (by decide) hj.q hi.r) (cS (g (n:= -1) (by decide) hi.q hj.r) iD))
 have k:∀ {A B C:List aL},Lm 1 1 40 A->Lm 5 3 60 B->Lm 5 3 60 C->PB 50 7 220 (1,[A,B,C]):=λhA hB hC=>(QT (by decide) hA hB hC).mono
 have k':∀ {A B:List aL},Lm 1 1 40 A->Lm 50 6 160 B->PB 50 7 220 (1,[A,B]):=λhA hB=>(HW (by decide) hA hB).mono
 have e1:=cD hp 100 (cS (k h2 hi.p hj.r) (cS (k' h1 w1.2.1) iD))
 have e2:=cD hp 100 (cS (k h2 hi.q hj.r) (cS (k' h1 w2.2.1) iD))
 have e3:=cD hp 100 (cS (k h2 hi.r hj.r) iD)
 refine ⟨cS w1.1 (cS w2.1 iD),cS e1.1 (cS e2.1 (cS e3.1 iD)),⟨e1.2.1,e2.2.1,e3.2.1⟩,e1.2.2.trans ?_,e2.2.2.trans ?_,e3.2.2.trans ?_⟩
 ·simp only [gM,tE,w1.2.2]; grind
 ·simp only [gM,tE,w2.2.2]; grind
 ·simp only [gM,tE]; grind
end
end
section
variable {K:Rr}
abbrev QL (s:T3):Prop:=Q3 1000 9 400 s
noncomputable def OW (pl:List (Int×Int)) (s:T3):D:=if vL pl s.2.2=0 then .non else .lst [aO (vL pl s.1 / vL pl s.2.2),aO (vL pl s.2.1 / vL pl s.2.2)]
noncomputable def Lo (pl:List (Int×Int)) (s:T3):D:=.lst [aO (vL pl s.1),aO (vL pl s.2.1),aO (vL pl s.2.2)]
theorem DN {pl:List (Int×Int)} (h:vL pl s.2.2=0):OW pl s=.non:=if_pos h
theorem mZ {pl:List (Int×Int)} (h:vL pl s.2.2≠0):OW pl s=.lst [aO (vL pl s.1 / vL pl s.2.2),aO (vL pl s.2.1 / vL pl s.2.2)]:=if_neg h
noncomputable def tG:Fn:=λds r=>∃ (pl:List (Int×Int)) (s:T3),c7 pl/\QL s/\ds=[D3 s,.lst (pl.map fD)]/\r=.ok (.va (OW pl s))
theorem jO {pl:List (Int×Int)} (hp:c7 pl) (hs:QL s):tG [D3 s,.lst (pl.map fD)] (.ok (.va (OW pl s))):=⟨pl,s,hp,hs,rfl,rfl⟩
section
local macro_rules | `(tactic| walk_at "evCa")=> `(tactic| first
 | with_reducible refine ak (F:=l6) (by assumption) (by decide) ?_
 | with_reducible refine ak (F:=F4 NJ NK) (by assumption) (by decide) ?_)
local macro_rules | `(tactic| walk_at "evIx")=> `(tactic| with_reducible refine iH ?_)
local macro_rules | `(tactic| walk_at "evX")=> `(tactic| first | ((with_reducible show dD _ (Expr.List _ _) _ _); with_reducible refine ue ?_))
theorem Lp (Fu:cU K "_law_spot" "_law_spot" (top 55) f fd) (h1:bN P w K mg base 3 "worth_at" l6) (h2:bN P w K mg base 3 "frac_by" (F4 NJ NK)):aU P w K mg base (cF P w) 4 f fd ["_law_some","_law_place"] (cR K tG):=by
 refine bH Fu zA (by rintro ds r ⟨pl,s,_,_,rfl,_⟩; rfl) (by rintro ds r ⟨pl,s,_,_,_,rfl⟩; exact ⟨_,rfl⟩) λc hq ds sl hF=>?_
 obtain ⟨pl,⟨a,b,c'⟩,hp,hs,rfl,e⟩:=hF
 injection e with e
 subst e
 have ra:=bD hp hs.p
 have rb:=bD hp hs.q
 have rc:=bD hp hs.r
 show aE c _ [.va (.tup [au a,au b,au c']),.va (.lst (pl.map fD)),.un] _ _
 conv in (aj _)=>whnf
 refine aD (fY (by walk_at "at") hq (N':=["_law_terms","_law_place"]) (ρ0:=λ_=>[.un,.va (.lst (pl.map fD))]) (λt=>.un (.fr (by walk_at "at") (by walk_at "at") (by decide) rfl .nil)) (cu ?_))
 generalize hG:(λρ'=>aE c _ ρ' _ _)=G
 walk_at "ev"
 refine ⟨[some (aO (vL pl a)),some (aO (vL pl b)),some (aO (vL pl c'))],rfl,?_,?_⟩
 ·intro c3 hc3 t' k d o hd ho
  obtain ⟨A,hA,rfl,rfl⟩:∃ A:List aL,Lm 1000 9 400 A/\d=au A/\o=some (aO (vL pl A)):=by
   match k,hd,ho with
   | 0,hd,ho=>cases hd; cases ho; exact ⟨_,hs.p,rfl,rfl⟩
   | 1,hd,ho=>cases hd; cases ho; exact ⟨_,hs.q,rfl,rfl⟩
   | 2,hd,ho=>cases hd; cases ho; exact ⟨_,hs.r,rfl,rfl⟩
  refine di (by walk_at "at") (j5 (by walk_at "sset") ⟨.un (.same .nil),?_⟩)
  simp only [kT]
  refine ⟨λ_=>?_,λh=>by cases h⟩
  walk_at "ev"
  refine ah (x9 hp hA) (aJ ?_)
  rfl
 refine j5 (by walk_at "sset") ?_
 subst hG
 refine cE 2 (d0:=.lst [aO (vL pl a),aO (vL pl b),aO (vL pl c')]) (by walk_at "at") rfl (by walk_at "sset") ?_
 walk_at "ev"
 ·rename_i h
  show Sl.va _=Sl.va _
  rw [DN (s:=(a,b,c')) (Tf.mp h)]
 ·rename_i h
  have hz:vL pl c'≠0:=λe=>h (Tf.mpr e)
  refine ah (Oh ra rc hz) (aJ ?_)
  walk_at "ev"
  refine ah (Oh rb rc hz) (aJ ?_)
  walk_at "ev"
  show Sl.va _=Sl.va _
  rw [mZ (s:=(a,b,c')) hz]
end
noncomputable def qh:Fn:=λds r=>∃ x y a b c:Rat,Rb 1280 x/\Rb 1280 y/\Rb 640 a/\Rb 640 b/\Rb 640 c/\ds=[.lst [aO x,aO y],.lst [aO a,aO b,aO c]]/\r=.ok (.va (aO (a * x+b * y+c)))
theorem Ot (hx:Rb 1280 x) (hy:Rb 1280 y) (ha:Rb 640 a) (hb:Rb 640 b) (hc:Rb 640 c):qh [.lst [aO x,aO y],.lst [aO a,aO b,aO c]] (.ok (.va (aO (a * x+b * y+c)))):=⟨x,y,a,b,c,hx,hy,ha,hb,hc,rfl,rfl⟩
section
local macro_rules | `(tactic| walk_at "evCa")=> `(tactic| first
 | with_reducible refine ak (F:=F4 lX cK) (by assumption) (by decide) ?_
 | with_reducible refine ak (F:=F4 dQ cK) (by assumption) (by decide) ?_)
local macro_rules | `(tactic| walk_at "evIx")=> `(tactic| with_reducible refine iH ?_)
theorem Lq (Fu:cU K "_law_weighs" "_law_weighs" (top 56) f fd) (h1:bN P w K mg base 3 "frac_sum" (F4 lX cK)) (h2:bN P w K mg base 3 "frac_times" (F4 dQ cK)):aU P w K mg base (cF P w) 4 f fd ["_law_spot_here","_law_line"] (cR K qh):=by
 refine bH Fu sO (by rintro ds r ⟨x,y,a,b,d,_,_,_,_,_,rfl,_⟩; rfl) (by rintro ds r ⟨x,y,a,b,d,_,_,_,_,_,_,rfl⟩; exact ⟨_,rfl⟩) λc hq ds sl hF=>?_
 obtain ⟨x,y,a,b,d,hx,hy,ha,hb,hd,rfl,e⟩:=hF
 injection e with e
 subst e
 show aE c _ [.va (.lst [aO x,aO y]),.va (.lst [aO a,aO b,aO d]),.un] _ _
 conv in (aj _)=>whnf
 walk_at "ev"
 refine ah (c6 ha hx) (aJ ?_)
 walk_at "ev"
 refine ah (c6 hb hy) (aJ ?_)
 walk_at "ev"
 refine ah (xX (eS ha hx) (eS hb hy)) (aJ ?_)
 walk_at "ev"
 refine ah (xX (Lk (eS ha hx) (eS hb hy)) hd) (aJ ?_)
 walk_at "ev"
 rfl
end
noncomputable def tH:Fn:=λds r=>∃ x y z v s:Rat,Rb 1280 x/\Rb 1280 y/\Rb 1280 z/\Rb 1280 v/\Rb 640 s/\ds=[.lst [aO x,aO y],.lst [aO z,aO v],aO s]/\r=.ok (.va (.lst [aO (x+s * (z - x)),aO (y+s * (v - y))]))
theorem DO (hx:Rb 1280 x) (hy:Rb 1280 y) (hz:Rb 1280 z) (hv:Rb 1280 v) (hs:Rb 640 s):tH [.lst [aO x,aO y],.lst [aO z,aO v],aO s] (.ok (.va (.lst [aO (x+s * (z - x)),aO (y+s * (v - y))]))):=⟨x,y,z,v,s,hx,hy,hz,hv,hs,rfl,rfl⟩
section
local macro_rules | `(tactic| walk_at "evCa")=> `(tactic| first
 | with_reducible refine ak (F:=F4 lX cK) (by assumption) (by decide) ?_
 | with_reducible refine ak (F:=F4 i9 cK) (by assumption) (by decide) ?_
 | with_reducible refine ak (F:=F4 dQ cK) (by assumption) (by decide) ?_)
theorem Lr (Fu:cU K "_law_between" "_law_between" (top 57) f fd) (T:Txt K mg) (h1:bN P w K mg base 3 "frac_sum" (F4 lX cK)) (h2:bN P w K mg base 3 "frac_times" (F4 dQ cK)) (h3:bN P w K mg base 3 "frac_less" (F4 i9 cK)):aU P w K mg base (cF P w) 4 f fd ["_law_one","_law_other","_law_share"] (cR K tH):=by
 refine bH Fu p9 (by rintro ds r ⟨x,y,z,v,s,_,_,_,_,_,rfl,_⟩; rfl) (by rintro ds r ⟨x,y,z,v,s,_,_,_,_,_,_,rfl⟩; exact ⟨_,rfl⟩) λc hq ds sl hF=>?_
 obtain ⟨x,y,z,v,s,hx,hy,hz,hv,hs,rfl,e⟩:=hF
 injection e with e
 subst e
 show aE c _ [.va (.lst [aO x,aO y]),.va (.lst [aO z,aO v]),.va (aO s),.un,.un,.un] _ _
 conv in (aj _)=>whnf
 walk_at "ev"
 with_reducible refine cP hq (HK (Txt.zip T) ?_)
 walk_at "ev"
 refine ⟨_,_,rfl,rfl,?_⟩
 refine ⟨λn ρ'=>∃ s4 s5:Sl,ρ'=[.va (.lst [aO x,aO y]),.va (.lst [aO z,aO v]),.va (aO s),.ow ([aO (x+s * (z - x)),aO (y+s * (v - y))].take n),s4,s5],⟨_,_,rfl⟩,?_,?_⟩
 ·rintro c' m5 vv vz n d ρ' hd ⟨s4,s5,rfl⟩
  obtain ⟨p,q,hp,hr,hd2,ht⟩:∃ p q:Rat,Rb 1280 p/\Rb 1280 q/\d=.tup [aO p,aO q]/\[aO (x+s * (z - x)),aO (y+s * (v - y))].take (n+1)=[aO (x+s * (z - x)),aO (y+s * (v - y))].take n++[aO (p+s * (q - p))]/\n<2:=by
   match n,hd with
   | 0,hd=>cases hd; exact ⟨x,z,hx,hz,rfl,rfl,by decide⟩
   | 1,hd=>cases hd; exact ⟨y,v,hy,hv,rfl,rfl,by decide⟩
  subst hd2
  walk_at "ev"
  refine ah (DJ hr hp) (aJ ?_)
  walk_at "ev"
  refine ah (c6 hs (ko hr hp)) (aJ ?_)
  walk_at "ev"
  refine ah (xX hp (eS hs (ko hr hp))) (aJ ?_)
  walk_at "ev"
  ·exact dO (by rw [Sq]; have:=ht.2; simp; lia)
  show ∃ s4 s5:Sl,[_,_,_,Sl.ow ([aO (x+s * (z - x)),aO (y+s * (v - y))].take n++[aO (p+s * (q - p))]),_,_]=[_,_,_,Sl.ow ([aO (x+s * (z - x)),aO (y+s * (v - y))].take (n+1)),s4,s5]
  rw [ht.1]
  exact ⟨_,_,rfl⟩
 ·rintro ρ' ⟨s4,s5,rfl⟩
  refine cE 3 (d0:=.lst [aO (x+s * (z - x)),aO (y+s * (v - y))]) (by walk_at "at") rfl (by walk_at "sset") ?_
  walk_at "ev"
  rfl
end
end
section
variable {pl:List (Int×Int)}
theorem GV (hd:0<d) (g:RA n d=1):(D.tup [.int n,.int d])=aO ((n:Rat) / (d:Rat)):=by
 rw [<- eO (by lia)]
 have e:=wo hd (uz (a:=n) (b:=d) (by lia)) g (BD (by lia)) (by rw [wm (by lia)])
 unfold dH
 rw [<- e.1,<- e.2]
theorem Ou (h:c7 pl) (hk:k<6):fD (gI pl k)=aO (xk pl k)/\Rb 640 (xk pl k):=by
 have hm:gI pl k∈pl:=by
  unfold gI
  rw [Sj,RU (by rw [h.l]; exact hk)]
  exact Sg _
 have b:=h.b _ hm
 refine ⟨GV b.2.2 (h.g _ hm),?_⟩
 unfold xk
 exact (oi (n:=4) (Ur b.2.2) (SY b.1) (SY b.2.1)).mono
theorem qk (h:aO p=aO q):p=q:=by
 unfold aO at h
 injection h with h
 injection h with h1 h2
 injection h2 with h2 _
 injection h1 with h1
 injection h2 with h2
 exact Rat.ext h1 (by lia)
theorem Q3.ql (h:Q3 la ea ba s) (h1:la<=1000:=by decide) (h2:ea<=9:=by decide) (h3:ba<=400:=by decide):QL s:=h.mono h1 h2 h3
theorem tK (hp:c7 pl) (hs:QL s) (h:vL pl s.2.2≠0):Rb 1280 (vL pl s.1 / vL pl s.2.2)/\Rb 1280 (vL pl s.2.1 / vL pl s.2.2) :=
 ⟨HY (bD hp hs.p) (bD hp hs.r) h,HY (bD hp hs.q) (bD hp hs.r) h⟩
end
theorem Ov (h:∀ ps∈Dz (s,t),aA ps):sY [D3 s,D3 t] (.ok (.va (D3 (Ej s t)))):=ve (X:=Dz) (a:=(s,t)) h rfl
theorem Qs (h:∀ ps∈DB (s,t),aA ps):zM [D3 s,D3 t] (.ok (.va (D3 (Ek s t)))):=ve (X:=DB) (a:=(s,t)) h rfl
theorem Qt (h:∀ ps∈DC (s,t),aA ps):zN [D3 s,D3 t] (.ok (.va (D3 (El s t)))):=ve (X:=DC) (a:=(s,t)) h rfl
theorem Qu (h1:aA (mC t)) (h:∀ ps∈sX (s,t),aA ps):zO [D3 s,D3 t] (.ok (.va (D3 (qw s t)))):=ve (X:=sX) (a:=(s,t)) ⟨h1,h⟩ rfl
theorem Qv (h1:aA (mC t)) (h2:∀ ps∈sX (s,t),aA ps) (h:∀ ps∈HV (s,t),aA ps):zP [D3 s,D3 t] (.ok (.va (D3 (Ia s t)))):=ve (X:=HV) (a:=(s,t)) ⟨h1,h2,h⟩ rfl
theorem Qw (hk:k<=10) (h1:∀ ps∈DA (s,t),aA ps) (h:∀ ps∈zY (s,t,(qv k,cT 1)),aA ps):LS [D3 s,D3 t,.int (k:Int)] (.ok (.va (D3 (ya s t (qv k,cT 1))))):=ve (X:=λu:T3×T3×Nat=>zY (u.1,u.2.1,(qv u.2.2,cT 1))) (a:=(s,t,k)) ⟨hk,h1,h⟩ rfl
theorem Qx (h0:∀ ps∈LQ (n,d),aA ps) (h1:∀ ps∈DA (s,t),aA ps) (h:∀ ps∈zY (s,t,(cN n,cN d)),aA ps):LU [D3 s,D3 t,.tup [.int n,.int d]] (.ok (.va (D3 (ya s t (cN n,cN d))))):=ve (X:=λu:T3×T3×(Int×Int)=>zY (u.1,u.2.1,(cN u.2.2.1,cN u.2.2.2))) (a:=(s,t,(n,d))) ⟨h0,h1,h⟩ rfl
theorem DP (x y:Rat):mO (n+1) (aO x) (aO y):=.tup λi d e h1 h2=>by
 rcases i with _ | _ | i
 ·simp at h1 h2; subst h1 h2; exact .sc rfl
 ·simp at h1 h2; subst h1 h2; exact .sc rfl
 ·simp at h1
theorem DQ (x y z v:Rat):oS [aO x,aO y] [aO z,aO v]:=n8 (DP x z) (n8 (DP y v) (Cv _))
theorem mh (h:T (decide (x=z/\y=v))):vP (.lst [aO x,aO y]) (.lst [aO z,aO v]) T:=by
 refine EZ (Sd.mk (DQ x y z v) ?_)
 have e:decide ([aO x,aO y]=[aO z,aO v])=decide (x=z/\y=v):=decide_eq_decide.mpr ⟨λq=>by
  injection q with q1 q2
  injection q2 with q2 _
  exact ⟨qk q1,qk q2⟩,λ⟨q1,q2⟩=>by rw [q1,q2]⟩
 rw [e]; exact h
theorem Ls (a b a' b'):oS [D.int a,D.int b] [D.int a',D.int b']:=by
 intro i d e h1 h2
 rcases i with _ | _ | i
 ·simp at h1 h2; subst h1 h2; exact .sc rfl
 ·simp at h1 h2; subst h1 h2; exact .sc rfl
 ·simp at h1
theorem qm (h:T (decide (x=y))):vP (aO x) (aO y) T:=by
 refine EY (Sd.mk (Ls _ _ _ _) ?_)
 have e:decide ([D.int x.num,.int (x.den:Int)]=[D.int y.num,.int (y.den:Int)])=decide (x=y):=decide_eq_decide.mpr ⟨λq=>qk (congrArg D.tup q),λq=>by rw [q]⟩
 rw [e]; exact h
section
variable {K:Rr}
theorem Qy {pl:List (Int×Int)} {k:Nat} (hQ:QL s) (hd:[au s.1,au s.2.1,au s.2.2][k]?=some d) (ho:[some (aO (vL pl s.1)),some (aO (vL pl s.2.1)),some (aO (vL pl s.2.2))][k]?=some o):∃ A:List aL,Lm 1000 9 400 A/\d=au A/\o=some (aO (vL pl A)):=by
 match k,hd,ho with
 | 0,hd,ho=>cases hd; cases ho; exact ⟨_,hQ.p,rfl,rfl⟩
 | 1,hd,ho=>cases hd; cases ho; exact ⟨_,hQ.q,rfl,rfl⟩
 | 2,hd,ho=>cases hd; cases ho; exact ⟨_,hQ.r,rfl,rfl⟩
theorem mj (hx:Rb 1280 x) (hy:Rb 1280 y) (ha:Rb 640 a) (hb:Rb 640 b) (hc:Rb 640 c) (h:a * x+b * y+c=0):qh [.lst [aO x,aO y],.lst [aO a,aO b,aO c]] (.ok (.va (.tup [.int 0,.int 1]))):=by
 have:=Ot hx hy ha hb hc
 rw [h] at this
 exact this
theorem qo {a c x z p q:Rat} (hc:c≠0) (hz:z≠0) (hq:q≠0):(q * (a * z)+p * (x * c - a * z)) / (q * (c * z))=a / c+p / q * (x / z - a / c):=by grind
theorem QU {c z q:Rat} (hc:c≠0) (hz:z≠0) (hq:q≠0):q * (c * z)≠0:=by grind
theorem GW {a b c x y z:Rat} (hc:c≠0):(b * z - c * y) * (a / c)+(c * x - a * z) * (b / c)+(a * y - b * x)=0:=by grind
theorem DR {a b c x y z:Rat} (hz:z≠0):(b * z - c * y) * (x / z)+(c * x - a * z) * (y / z)+(a * y - b * x)=0:=by grind
theorem GX {a b c x y z:Rat} (hc:c≠0) (hz:z≠0):(b * z - c * y=0/\c * x - a * z=0)↔(a / c=x / z/\b / c=y / z):=by
 constructor
 ·rintro ⟨h1,h2⟩
  constructor <;> grind
 ·rintro ⟨h1,h2⟩
  constructor <;> grind
noncomputable def GY:Fn:=λds r=>∃ (pl:List (Int×Int)) (i j:T3) (t:Nat) (q:Rat),c7 pl/\Q3 5 3 60 i/\Q3 5 3 60 j/\t<=5/\q.num.natAbs<1000/\q.den<1000/\ds=[D3 i,D3 j,.int (t:Int),aO q,.lst (pl.map fD)]/\r=.ok (.va (.bl true))
theorem Ow {pl:List (Int×Int)} {t:Nat} (hp:c7 pl) (hi:Q3 5 3 60 i) (hj:Q3 5 3 60 j) (ht:t<=5) (h1:q.num.natAbs<1000) (h2:q.den<1000):GY [D3 i,D3 j,.int (t:Int),aO q,.lst (pl.map fD)] (.ok (.va (.bl true))):=⟨pl,i,j,t,q,hp,hi,hj,ht,h1,h2,rfl,rfl⟩
section
local macro_rules | `(tactic| walk_at "evCa")=> `(tactic| first
 | with_reducible refine ak (F:=tG) (by assumption) (by decide) ?_
 | with_reducible refine ak (F:=l6) (by assumption) (by decide) ?_
 | with_reducible refine ak (F:=qh) (by assumption) (by decide) ?_
 | with_reducible refine ak (F:=tH) (by assumption) (by decide) ?_
 | with_reducible refine ak (F:=sY) (by assumption) (by decide) ?_
 | with_reducible refine ak (F:=zM) (by assumption) (by decide) ?_
 | with_reducible refine ak (F:=zN) (by assumption) (by decide) ?_
 | with_reducible refine ak (F:=zO) (by assumption) (by decide) ?_
 | with_reducible refine ak (F:=zP) (by assumption) (by decide) ?_
 | with_reducible refine ak (F:=LS) (by assumption) (by decide) ?_
 | with_reducible refine ak (F:=LU) (by assumption) (by decide) ?_
 | with_reducible refine ak (F:=F4 lX cK) (by assumption) (by decide) ?_
 | with_reducible refine ak (F:=F4 i9 cK) (by assumption) (by decide) ?_
 | with_reducible refine ak (F:=F4 dQ cK) (by assumption) (by decide) ?_)
local macro_rules | `(tactic| walk_at "evIx")=> `(tactic| with_reducible refine iH ?_)
local macro_rules | `(tactic| walk_at "evL")=> `(tactic| ((with_reducible show A9 (EV.D.lst _) _); with_reducible refine vW (λq=>EV.D.noConfusion q) ?_))
local macro_rules | `(tactic| walk_at "wl")=> `(tactic| (intro c3 hc3 t' k d o hd ho; obtain ⟨A,hA,e1,e2⟩:=Qy (by assumption) hd ho; subst e1; subst e2; refine di (by walk_at "at") (j5 (by walk_at "sset") ⟨.un (.same .nil),?_⟩); simp only [kT]; refine ⟨λ_=>?_,λh=>by cases h⟩; walk_at "ev"; refine ah (x9 (by assumption) hA) (aJ ?_); rfl))
theorem Lu (Fu:cU K "_law_points_good" "_law_points_good" (top 58) ff fd) (h1:bN P w K mg base 4 "_law_spot" tG) (h2:bN P w K mg base 4 "_law_weighs" qh) (h3:bN P w K mg base 4 "_law_between" tH) (h4:bN P w K mg base 3 "worth_at" l6) (h5:bN P w K mg base 6 "through_line" sY) (h6:bN P w K mg base 7 "slide_point" LS) (h7:bN P w K mg base 7 "part_point" LU):aU P w K mg base (cF P w) 8 ff fd ["_law_i","_law_j","_law_t","_law_f","_law_place"] (cR K GY):=by
 refine bH Fu jE (by rintro ds r ⟨pl,i,j,t,q,_,_,_,_,_,_,rfl,_⟩; rfl) (by rintro ds r ⟨pl,i,j,t,q,_,_,_,_,_,_,_,rfl⟩; exact ⟨_,rfl⟩) λc hq ds sl hF=>?_
 obtain ⟨pl,i,j,t,q,hp,hi,hj,ht,hn,hd,rfl,ee⟩:=hF
 injection ee with ee
 subst ee
 show aE c _ [.va (D3 i),.va (D3 j),.va (.int (t:Int)),.va (aO q),.va (.lst (pl.map fD)),.un,.un,.un] _ _
 conv in (aj _)=>whnf
 refine aD ?_
 generalize hG:(λρ'=>aE c _ ρ' _ _)=G
 walk_at "ev"
 refine ah (jO hp hi.ql) (aJ ?_)
 walk_at "ev"
 subst hG
 refine aD ?_
 generalize hG:(λρ'=>aE c _ ρ' _ _)=G
 walk_at "ev"
 refine ah (jO hp hj.ql) (aJ ?_)
 walk_at "ev"
 subst hG
 by_cases z1:vL pl i.2.2=0
 ·rw [DN z1]
  walk_at "ev"
  rfl
 by_cases z2:vL pl j.2.2=0
 ·rw [mZ z1,DN z2]
  walk_at "ev"
  rfl
 rw [mZ z1,mZ z2]
 have ri:=tK hp hi.ql z1
 have rj:=tK hp hj.ql z2
 have hq0:((q.den:Int):Rat)≠0:=dR q
 have ps:=Ig hp hi hj (f:=(qv t,cT 1)) (Oi ht) Oj
 have cn:=Ib hp hn
 have cd:=Ib hp (n:=(q.den:Int)) (by lia)
 have pp:=Ig hp hi hj (f:=(cN q.num,cN (q.den:Int))) cn.2.1.mono cd.2.1.mono
 have cr:=Ic hp hi hj
 have pf:=Ou hp (k:=t) (by lia)
 have rq:Rb 640 q:=⟨Rz (SY hn) (Rz (by decide:1000<=2 ^ 10) (SD (by decide) (by decide))),Rz (SY hd) (Rz (by decide:1000<=2 ^ 10) (SD (by decide) (by decide)))⟩
 refine aD ?_
 generalize hG:(λρ'=>aE c _ ρ' _ _)=G
 walk_at "ev"
 subst hG
 have vx:=ps.2.2.2
 have zs:vL pl (ya i j (qv t,cT 1)).2.2≠0:=by
  rw [vx.z]; exact QU z1 z2 (by show vL pl (cT 1)≠0; rw [om]; decide)
 have e1:vL pl (ya i j (qv t,cT 1)).1 / vL pl (ya i j (qv t,cT 1)).2.2=vL pl i.1 / vL pl i.2.2+xk pl t * (vL pl j.1 / vL pl j.2.2 - vL pl i.1 / vL pl i.2.2):=by
  rw [vx.x,vx.z,qo z1 z2 (by show vL pl (cT 1)≠0; rw [om]; decide)]
  show _+vL pl (qv t) / vL pl (cT 1) * _=_
  rw [Ol hp ht,om]; grind
 have e2:vL pl (ya i j (qv t,cT 1)).2.1 / vL pl (ya i j (qv t,cT 1)).2.2=vL pl i.2.1 / vL pl i.2.2+xk pl t * (vL pl j.2.1 / vL pl j.2.2 - vL pl i.2.1 / vL pl i.2.2):=by
  rw [vx.y,vx.z,qo z1 z2 (by show vL pl (cT 1)≠0; rw [om]; decide)]
  show _+vL pl (qv t) / vL pl (cT 1) * _=_
  rw [Ol hp ht,om]; grind
 refine aD ?_
 generalize hG:(λρ'=>aE c _ ρ' _ _)=G
 walk_at "ev"
 refine ah (Qw (by lia) ps.1 ps.2.1) (aJ ?_)
 walk_at "ev"
 refine ah (jO hp ps.2.2.1.ql) (aJ ?_)
 walk_at "ev"
 refine gQ (HR (by rw [hp.l]; lia)) ?_
 rw [pf.1]
 walk_at "ev"
 refine ah (DO ri.1 ri.2 rj.1 rj.2 pf.2) (aJ ?_)
 rw [mZ zs,e1,e2]
 refine mh ?_
 rw [decide_eq_true ⟨rfl,rfl⟩]
 walk_at "ev"
 subst hG
 clear zs e1 e2 vx ps
 have vx:=pp.2.2.2
 have hqv:vL pl (cN (q.den:Int))=((q.den:Int):Rat):=cd.2.2
 have hnv:vL pl (cN q.num)=(q.num:Rat):=cn.2.2
 have hqz:vL pl (cN (q.den:Int))≠0:=by rw [hqv]; exact hq0
 have zs:vL pl (ya i j (cN q.num,cN (q.den:Int))).2.2≠0:=by rw [vx.z]; exact QU z1 z2 hqz
 have e1:vL pl (ya i j (cN q.num,cN (q.den:Int))).1 / vL pl (ya i j (cN q.num,cN (q.den:Int))).2.2=vL pl i.1 / vL pl i.2.2+q * (vL pl j.1 / vL pl j.2.2 - vL pl i.1 / vL pl i.2.2):=by
  rw [vx.x,vx.z,qo z1 z2 hqz]
  show _+vL pl (cN q.num) / vL pl (cN (q.den:Int)) * _=_
  rw [hnv,hqv,cB]
 have e2:vL pl (ya i j (cN q.num,cN (q.den:Int))).2.1 / vL pl (ya i j (cN q.num,cN (q.den:Int))).2.2=vL pl i.2.1 / vL pl i.2.2+q * (vL pl j.2.1 / vL pl j.2.2 - vL pl i.2.1 / vL pl i.2.2):=by
  rw [vx.y,vx.z,qo z1 z2 hqz]
  show _+vL pl (cN q.num) / vL pl (cN (q.den:Int)) * _=_
  rw [hnv,hqv,cB]
 refine aD ?_
 generalize hG:(λρ'=>aE c _ ρ' _ _)=G
 walk_at "ev"
 refine ah (Qx (n:=q.num) (d:=(q.den:Int)) (cS cn.1 (cS cd.1 iD)) pp.1 pp.2.1) (aJ ?_)
 walk_at "ev"
 refine ah (jO hp pp.2.2.1.ql) (aJ ?_)
 walk_at "ev"
 refine ah (DO ri.1 ri.2 rj.1 rj.2 rq) (aJ ?_)
 rw [mZ zs,e1,e2]
 refine mh ?_
 rw [decide_eq_true ⟨rfl,rfl⟩]
 walk_at "ev"
 subst hG
 clear zs e1 e2 vx pp cn cd hqv hnv hqz
 refine aD (fY (by walk_at "at") hq (N':=["_law_terms","_law_place"]) (ρ0:=λ_=>[.un,.va (.lst (pl.map fD))]) (λt=>.un (.fr (by walk_at "at") (by walk_at "at") (by decide) rfl .nil)) (cu ?_))
 generalize hG:(λρ'=>aE c _ ρ' _ _)=G
 walk_at "ev"
 refine ah (Ov cr.1) (aJ ?_)
 walk_at "ev"
 have hQ:QL (Ej i j):=cr.2.1.ql
 refine ⟨[some (aO (vL pl (Ej i j).1)),some (aO (vL pl (Ej i j).2.1)),some (aO (vL pl (Ej i j).2.2))],rfl,?_,?_⟩
 ·walk_at "wl"
 clear hQ
 refine j5 (by walk_at "sset") ?_
 subst hG
 refine cE 7 (d0:=Lo pl (Ej i j)) (by walk_at "at") rfl (by walk_at "sset") ?_
 have rx:=bD hp cr.2.1.ql.p
 have ry:=bD hp cr.2.1.ql.q
 have rz:=bD hp cr.2.1.ql.r
 have v:=cr.2.2
 refine aD ?_
 generalize hG:(λρ'=>aE c _ ρ' _ _)=G
 walk_at "ev"
 refine ah (mj ri.1 ri.2 rx ry rz (by rw [v.x,v.y,v.z]; exact GW z1)) (aJ ?_)
 walk_at "ev"
 all_goals try exact absurd (rfl:(0:Int)=0) (by assumption)
 refine ah (mj rj.1 rj.2 rx ry rz (by rw [v.x,v.y,v.z]; exact DR z2)) (aJ ?_)
 walk_at "ev"
 all_goals try exact absurd (rfl:(0:Int)=0) (by assumption)
 subst hG
 have key:=GX (a:=vL pl i.1) (b:=vL pl i.2.1) (x:=vL pl j.1) (y:=vL pl j.2.1) z1 z2
 rw [<- v.x,<- v.y] at key
 walk_at "ev"
 ·rename_i h
  refine mh (uf ?_)
  have e:decide ((vL pl (Ej i j).2.1).num=0)=decide (vL pl i.1 / vL pl i.2.2=vL pl j.1 / vL pl j.2.2/\vL pl i.2.1 / vL pl i.2.2=vL pl j.2.1 / vL pl j.2.2):=decide_eq_decide.mpr ⟨λh1=>key.mp ⟨Tf.mp h,Tf.mp h1⟩,λq=>Tf.mpr (key.mpr q).2⟩
  rw [e,decide_eq_true rfl]
 ·rename_i h
  refine mh (uf ?_)
  have e:decide (vL pl i.1 / vL pl i.2.2=vL pl j.1 / vL pl j.2.2/\vL pl i.2.1 / vL pl i.2.2=vL pl j.2.1 / vL pl j.2.2)=false:=decide_eq_false λq=>h (Tf.mpr (key.mpr q).1)
  rw [e,decide_eq_true rfl]
end
end
section
variable {K:Rr}
theorem DS (a:Int):0<=a * a:=by
 rw [<- Int.natAbs_mul_self]
 exact Xr _
theorem QV {a b:Rat} (ha:a≠0) (hb:b≠0):a * b≠0:=by grind
theorem Qz {a b:Int} (h:a+b=0) (ha:0<=a) (hb:0<=b):a=0/\b=0:=by lia
theorem Ox {p q:Rat} (h:¬(p=0/\q=0)):p * p+q * q≠0:=by
 intro e
 apply h
 have h1:=cB p
 have h2:=cB q
 have h3:=dR p
 have h4:=dR q
 have k:(p.num * q.den) * (p.num * q.den)+(q.num * p.den) * (q.num * p.den)=0:=by
  refine Wl.mp ?_
  rw [Wm,Ss,Ss,Ss,Ss]
  show _=(0:Rat)
  generalize (p.num:Rat)=a at *
  generalize (q.num:Rat)=b at *
  generalize ((p.den:Int):Rat)=d at *
  generalize ((q.den:Int):Rat)=f at *
  have e1:a=p * d:=by grind
  have e2:b=q * f:=by grind
  rw [e1,e2]
  have:p * d * f * (p * d * f)+q * f * d * (q * f * d)=(p * p+q * q) * (d * d * f * f):=by grind
  rw [this,e]; grind
 have a1:=DS (p.num * q.den)
 have a2:=DS (q.num * p.den)
 obtain ⟨b1,b2⟩:=Qz k a1 a2
 have c1:p.num=0:=by
  rcases Wq.mp b1 with z | z <;> exact (Wq.mp z).resolve_right (zQ q)
 have c2:q.num=0:=by
  rcases Wq.mp b2 with z | z <;> exact (Wq.mp z).resolve_right (zQ p)
 exact ⟨Tf.mp c1,Tf.mp c2⟩
theorem Lv (hx:Rb 1280 x) (hy:Rb 1280 y) (hz:Rb 1280 z) (hv:Rb 1280 v):tH [.lst [aO x,aO y],.lst [aO z,aO v],.tup [.int 2,.int 1]] (.ok (.va (.lst [aO (x+2 * (z - x)),aO (y+2 * (v - y))]))) :=
 DO hx hy hz hv (s:=2) ⟨by decide,by decide⟩
section
variable {p q r x y z:Rat}
theorem Oz (hz:z≠0) (hS:p * p+q * q≠0):p * ((q * q * x - p * q * y - p * r * z) / ((p * p+q * q) * z))+q * ((p * p * y - p * q * x - q * r * z) / ((p * p+q * q) * z))+r=0:=by
 have e:p * (q * q * x - p * q * y - p * r * z)+q * (p * p * y - p * q * x - q * r * z)= - (r * ((p * p+q * q) * z)):=by grind
 generalize q * q * x - p * q * y - p * r * z=F at *
 generalize p * p * y - p * q * x - q * r * z=H at *
 generalize p * p+q * q=S at *
 grind
theorem Lw (hz:z≠0) (hS:p * p+q * q≠0):((q * q * x - p * q * y - p * r * z) / ((p * p+q * q) * z) - x / z) * q=((p * p * y - p * q * x - q * r * z) / ((p * p+q * q) * z) - y / z) * p:=by
 have e:((q * q * x - p * q * y - p * r * z) - x * (p * p+q * q)) * q=((p * p * y - p * q * x - q * r * z) - y * (p * p+q * q)) * p:=by grind
 generalize q * q * x - p * q * y - p * r * z=F at *
 generalize p * p * y - p * q * x - q * r * z=H at *
 generalize p * p+q * q=S at *
 grind
theorem DT (hz:z≠0) (hS:S≠0):(2 * F - S * x) / (S * z)=x / z+2 * (F / (S * z) - x / z):=by grind
theorem OA (hz:z≠0):p * z * (x / z)+q * z * (y / z)+(0 - p * x - q * y)=0:=by grind
theorem OB (hz:z≠0):(0 - q * z) * (x / z)+p * z * (y / z)+(q * x - p * y)=0:=by grind
end
noncomputable def GZ:Fn:=λds r=>∃ (pl:List (Int×Int)) (i l:T3),c7 pl/\Q3 5 3 60 i/\Q3 5 3 60 l/\ds=[D3 i,D3 l,.lst (pl.map fD)]/\r=.ok (.va (.bl true))
theorem OC {pl:List (Int×Int)} (hp:c7 pl) (hi:Q3 5 3 60 i) (hl:Q3 5 3 60 l):GZ [D3 i,D3 l,.lst (pl.map fD)] (.ok (.va (.bl true))):=⟨pl,i,l,hp,hi,hl,rfl,rfl⟩
section
local macro_rules | `(tactic| walk_at "evCa")=> `(tactic| first
 | with_reducible refine ak (F:=tG) (by assumption) (by decide) ?_
 | with_reducible refine ak (F:=l6) (by assumption) (by decide) ?_
 | with_reducible refine ak (F:=qh) (by assumption) (by decide) ?_
 | with_reducible refine ak (F:=tH) (by assumption) (by decide) ?_
 | with_reducible refine ak (F:=sY) (by assumption) (by decide) ?_
 | with_reducible refine ak (F:=zM) (by assumption) (by decide) ?_
 | with_reducible refine ak (F:=zN) (by assumption) (by decide) ?_
 | with_reducible refine ak (F:=zO) (by assumption) (by decide) ?_
 | with_reducible refine ak (F:=zP) (by assumption) (by decide) ?_
 | with_reducible refine ak (F:=LS) (by assumption) (by decide) ?_
 | with_reducible refine ak (F:=LU) (by assumption) (by decide) ?_
 | with_reducible refine ak (F:=F4 lX cK) (by assumption) (by decide) ?_
 | with_reducible refine ak (F:=F4 i9 cK) (by assumption) (by decide) ?_
 | with_reducible refine ak (F:=F4 dQ cK) (by assumption) (by decide) ?_)
local macro_rules | `(tactic| walk_at "evIx")=> `(tactic| with_reducible refine iH ?_)
local macro_rules | `(tactic| walk_at "evL")=> `(tactic| ((with_reducible show A9 (EV.D.lst _) _); with_reducible refine vW (λq=>EV.D.noConfusion q) ?_))
local macro_rules | `(tactic| walk_at "wl")=> `(tactic| (intro c3 hc3 t' k d o hd ho; obtain ⟨A,hA,e1,e2⟩:=Qy (by assumption) hd ho; subst e1; subst e2; refine di (by walk_at "at") (j5 (by walk_at "sset") ⟨.un (.same .nil),?_⟩); simp only [kT]; refine ⟨λ_=>?_,λh=>by cases h⟩; walk_at "ev"; refine ah (x9 (by assumption) hA) (aJ ?_); rfl))
theorem Lx (Fu:cU K "_law_foot_good" "_law_foot_good" (top 59) ff fd) (T:Txt K mg) (h1:bN P w K mg base 4 "_law_spot" tG) (h2:bN P w K mg base 4 "_law_weighs" qh) (h3:bN P w K mg base 4 "_law_between" tH) (h4:bN P w K mg base 3 "worth_at" l6) (h5:bN P w K mg base 7 "foot_point" zO) (h6:bN P w K mg base 8 "mirrored_point" zP) (h7:bN P w K mg base 6 "side_line" zM) (h8:bN P w K mg base 6 "square_line" zN) (h9:bN P w K mg base 3 "frac_less" (F4 i9 cK)) (h10:bN P w K mg base 3 "frac_times" (F4 dQ cK)) (h11:bN P w K mg base 3 "frac_sum" (F4 lX cK)):aU P w K mg base (cF P w) 9 ff fd ["_law_i","_law_l","_law_place"] (cR K GZ):=by
 refine bH Fu lT (by rintro ds r ⟨pl,i,l,_,_,_,rfl,_⟩; rfl) (by rintro ds r ⟨pl,i,l,_,_,_,_,rfl⟩; exact ⟨_,rfl⟩) λc hq ds sl hF=>?_
 obtain ⟨pl,i,l,hp,hi,hl,rfl,ee⟩:=hF
 injection ee with ee
 subst ee
 have rp:=bD hp hl.ql.p
 have rq:=bD hp hl.ql.q
 have rr:=bD hp hl.ql.r
 show aE c _ [.va (D3 i),.va (D3 l),.va (.lst (pl.map fD)),.un,.un,.un,.un,.un,.un] _ _
 conv in (aj _)=>whnf
 refine aD ?_
 generalize hG:(λρ'=>aE c _ ρ' _ _)=G
 walk_at "ev"
 refine ah (jO hp hi.ql) (aJ ?_)
 walk_at "ev"
 subst hG
 refine aD (fY (by walk_at "at") hq (N':=["_law_terms","_law_place"]) (ρ0:=λ_=>[.un,.va (.lst (pl.map fD))]) (λt=>.un (.fr (by walk_at "at") (by walk_at "at") (by decide) rfl .nil)) (cu ?_))
 generalize hG:(λρ'=>aE c _ ρ' _ _)=G
 walk_at "ev"
 have hQ:QL (l):=hl.ql
 refine ⟨[some (aO (vL pl (l).1)),some (aO (vL pl (l).2.1)),some (aO (vL pl (l).2.2))],rfl,?_,?_⟩
 ·walk_at "wl"
 clear hQ
 refine j5 (by walk_at "sset") ?_
 subst hG
 refine cE 4 (d0:=Lo pl (l)) (by walk_at "at") rfl (by walk_at "sset") ?_
 by_cases z1:vL pl i.2.2=0
 ·rw [DN z1]
  walk_at "ev"
  rfl
 rw [mZ z1]
 have ri:=tK hp hi.ql z1
 refine aD ?_
 generalize hG:(λρ'=>aE c _ ρ' _ _)=G
 have main:¬(vL pl l.1=0/\vL pl l.2.1=0)->G [.va (D3 i),.va (D3 l),.va (.lst (pl.map fD)),.va (.lst [aO (vL pl i.1 / vL pl i.2.2),aO (vL pl i.2.1 / vL pl i.2.2)]),.va (Lo pl l),.un,.un,.un,.un]:=by
  intro zl
  subst hG
  have hS:=Ox zl
  have ft:=Ie hp hi hl
  have md:=Oq hp hi hl
  have sq:=DM hp hl
  have sd:=Om hp hi hl
  have sr:=Oo hp hi hl
  have vf:=ft.2.2
  have zf:vL pl (qw i l).2.2≠0:=by rw [vf.z]; exact QV hS z1
  have rf:=tK hp ft.2.1.ql zf
  have on:=Oz (p:=vL pl l.1) (q:=vL pl l.2.1) (r:=vL pl l.2.2) (x:=vL pl i.1) (y:=vL pl i.2.1) z1 hS
  have wy:=Lw (p:=vL pl l.1) (q:=vL pl l.2.1) (r:=vL pl l.2.2) (x:=vL pl i.1) (y:=vL pl i.2.1) z1 hS
  have vm:=md.2.2
  have zm:vL pl (Ia i l).2.2≠0:=by rw [vm.z]; exact QV hS z1
  have m1:vL pl (Ia i l).1 / vL pl (Ia i l).2.2=vL pl i.1 / vL pl i.2.2+2 * (vL pl (qw i l).1 / vL pl (qw i l).2.2 - vL pl i.1 / vL pl i.2.2):=by
   rw [vm.x,vm.z,vf.z]; exact DT z1 hS
  have m2:vL pl (Ia i l).2.1 / vL pl (Ia i l).2.2=vL pl i.2.1 / vL pl i.2.2+2 * (vL pl (qw i l).2.1 / vL pl (qw i l).2.2 - vL pl i.2.1 / vL pl i.2.2):=by
   rw [vm.y,vm.z,vf.z]; exact DT z1 hS
  rw [<- vf.x,<- vf.y,<- vf.z] at on wy
  refine aD ?_
  generalize hG:(λρ'=>aE c _ ρ' _ _)=G
  walk_at "ev"
  refine ah (Qu sq.1 ft.1) (aJ ?_)
  walk_at "ev"
  refine ah (jO hp ft.2.1.ql) (aJ ?_)
  rw [mZ zf]
  walk_at "ev"
  subst hG
  refine aD ?_
  generalize hG:(λρ'=>aE c _ ρ' _ _)=G
  walk_at "ev"
  refine ah (mj rf.1 rf.2 rp rq rr on) (aJ ?_)
  walk_at "ev"
  all_goals try exact absurd (rfl:(0:Int)=0) (by assumption)
  subst hG
  refine aD (fY (by walk_at "at") hq (N':=["_law_left","_law_right"]) (ρ0:=λ_=>[.un,.un]) (λt=>.un (.un .nil)) (HK (Txt.zip T) ?_))
  generalize hG:(λρ'=>aE c _ ρ' _ _)=G
  walk_at "ev"
  refine ⟨_,_,rfl,rfl,Sd.mk (zW (Vs rfl)) ?_⟩
  refine ⟨[some (aO (vL pl (qw i l).1 / vL pl (qw i l).2.2 - vL pl i.1 / vL pl i.2.2)),some (aO (vL pl (qw i l).2.1 / vL pl (qw i l).2.2 - vL pl i.2.1 / vL pl i.2.2))],rfl,?_,?_⟩
  ·intro c3 hc3 t' k d o hd ho
   obtain ⟨p,q,hp1,hq1,e1,e2⟩:∃ p q:Rat,Rb 1280 p/\Rb 1280 q/\d=.tup [aO p,aO q]/\o=some (aO (q - p)):=by
    match k,hd,ho with
    | 0,hd,ho=>cases hd; cases ho; exact ⟨_,_,ri.1,rf.1,rfl,rfl⟩
    | 1,hd,ho=>cases hd; cases ho; exact ⟨_,_,ri.2,rf.2,rfl,rfl⟩
   subst e1; subst e2
   show oQ c3 _ (D.tup [aO p,aO q]) _ _
   walk_at "ev"
   refine ⟨.un (.un .nil),?_⟩
   simp only [kT]
   refine ⟨λ_=>?_,λh=>by cases h⟩
   walk_at "ev"
   refine ah (DJ hq1 hp1) (aJ ?_)
   rfl
  refine j5 (by walk_at "sset") ?_
  subst hG
  refine cE 6 (d0:=.lst [aO (vL pl (qw i l).1 / vL pl (qw i l).2.2 - vL pl i.1 / vL pl i.2.2),aO (vL pl (qw i l).2.1 / vL pl (qw i l).2.2 - vL pl i.2.1 / vL pl i.2.2)]) (by walk_at "at") rfl (by walk_at "sset") ?_
  refine aD ?_
  generalize hG:(λρ'=>aE c _ ρ' _ _)=G
  walk_at "ev"
  refine ah (c6 (ko rf.1 ri.1) rq) (aJ ?_)
  walk_at "ev"
  refine ah (c6 (ko rf.2 ri.2) rp) (aJ ?_)
  rw [wy]
  refine qm ?_
  rw [decide_eq_true rfl]
  walk_at "ev"
  subst hG
  refine aD ?_
  generalize hG:(λρ'=>aE c _ ρ' _ _)=G
  walk_at "ev"
  refine ah (Qv sq.1 ft.1 md.1) (aJ ?_)
  walk_at "ev"
  refine ah (jO hp md.2.1.ql) (aJ ?_)
  walk_at "ev"
  refine ah (Lv ri.1 ri.2 rf.1 rf.2) (aJ ?_)
  rw [mZ zm,m1,m2]
  refine mh ?_
  rw [decide_eq_true ⟨rfl,rfl⟩]
  walk_at "ev"
  subst hG
  clear m1 m2 zm vm md on wy
  refine aD (fY (by walk_at "at") hq (N':=["_law_terms","_law_place"]) (ρ0:=λ_=>[.un,.va (.lst (pl.map fD))]) (λt=>.un (.fr (by walk_at "at") (by walk_at "at") (by decide) rfl .nil)) (cu ?_))
  generalize hG:(λρ'=>aE c _ ρ' _ _)=G
  walk_at "ev"
  refine ah (Qs sd.1) (aJ ?_)
  walk_at "ev"
  have hQ:QL (Ek i l):=sd.2.1.ql
  refine ⟨[some (aO (vL pl (Ek i l).1)),some (aO (vL pl (Ek i l).2.1)),some (aO (vL pl (Ek i l).2.2))],rfl,?_,?_⟩
  ·walk_at "wl"
  clear hQ
  refine j5 (by walk_at "sset") ?_
  subst hG
  refine cE 7 (d0:=Lo pl (Ek i l)) (by walk_at "at") rfl (by walk_at "sset") ?_
  refine aD (fY (by walk_at "at") hq (N':=["_law_terms","_law_place"]) (ρ0:=λ_=>[.un,.va (.lst (pl.map fD))]) (λt=>.un (.fr (by walk_at "at") (by walk_at "at") (by decide) rfl .nil)) (cu ?_))
  generalize hG:(λρ'=>aE c _ ρ' _ _)=G
  walk_at "ev"
  refine ah (Qt sr.1) (aJ ?_)
  walk_at "ev"
  have hQ:QL (El i l):=sr.2.1.ql
  refine ⟨[some (aO (vL pl (El i l).1)),some (aO (vL pl (El i l).2.1)),some (aO (vL pl (El i l).2.2))],rfl,?_,?_⟩
  ·walk_at "wl"
  clear hQ
  refine j5 (by walk_at "sset") ?_
  subst hG
  refine cE 8 (d0:=Lo pl (El i l)) (by walk_at "at") rfl (by walk_at "sset") ?_
  have s1:=bD hp sd.2.1.ql.p
  have s2:=bD hp sd.2.1.ql.q
  have s3:=bD hp sd.2.1.ql.r
  have t1:=bD hp sr.2.1.ql.p
  have t2:=bD hp sr.2.1.ql.q
  have t3:=bD hp sr.2.1.ql.r
  have vs:=sd.2.2
  have vr:=sr.2.2
  refine aD ?_
  generalize hG:(λρ'=>aE c _ ρ' _ _)=G
  walk_at "ev"
  refine ah (mj ri.1 ri.2 s1 s2 s3 (by rw [vs.x,vs.y,vs.z]; exact OA z1)) (aJ ?_)
  walk_at "ev"
  all_goals try exact absurd (rfl:(0:Int)=0) (by assumption)
  refine ah (mj ri.1 ri.2 t1 t2 t3 (by rw [vr.x,vr.y,vr.z]; exact OB z1)) (aJ ?_)
  walk_at "ev"
  all_goals try exact absurd (rfl:(0:Int)=0) (by assumption)
  subst hG
  refine aD ?_
  generalize hG:(λρ'=>aE c _ ρ' _ _)=G
  walk_at "ev"
  refine ah (c6 s1 rq) (aJ ?_)
  walk_at "ev"
  refine ah (c6 s2 rp) (aJ ?_)
  rw [show vL pl (Ek i l).1 * vL pl l.2.1=vL pl (Ek i l).2.1 * vL pl l.1 by rw [vs.x,vs.y]; grind]
  refine qm ?_
  rw [decide_eq_true rfl]
  walk_at "ev"
  subst hG
  walk_at "ev"
  refine ah (c6 t1 rp) (aJ ?_)
  walk_at "ev"
  refine ah (c6 t2 rq) (aJ ?_)
  walk_at "ev"
  refine ah (xX (eS t1 rp) (eS t2 rq)) (aJ ?_)
  rw [show vL pl (El i l).1 * vL pl l.1+vL pl (El i l).2.1 * vL pl l.2.1=0 by rw [vr.x,vr.y]; grind]
  walk_at "ev"
  show vP (aO 0) (aO 0) _
  refine qm ?_
  rw [decide_eq_true rfl]
 walk_at "ev"
 all_goals first
  | rfl
  | (refine main λz=>?_; first | exact absurd (Tf.mpr z.1) (by assumption) | exact absurd (Tf.mpr z.2) (by assumption))
  | skip
end
end
section
variable {K:Rr}
theorem OD {a b c x y z:Rat} (h:a * y - b * x≠0):a * ((b * z - c * y) / (a * y - b * x))+b * ((c * x - a * z) / (a * y - b * x))+c=0:=by
 have e:a * (b * z - c * y)+b * (c * x - a * z)= - (c * (a * y - b * x)):=by grind
 generalize b * z - c * y=X at *
 generalize c * x - a * z=Y at *
 generalize a * y - b * x=S at *
 grind
theorem Ly {a b c x y z:Rat} (h:a * y - b * x≠0):x * ((b * z - c * y) / (a * y - b * x))+y * ((c * x - a * z) / (a * y - b * x))+z=0:=by
 have e:x * (b * z - c * y)+y * (c * x - a * z)= - (z * (a * y - b * x)):=by grind
 generalize b * z - c * y=X at *
 generalize c * x - a * z=Y at *
 generalize a * y - b * x=S at *
 grind
theorem sub_zero {a b:Rat} (h:a - b=0):a=b:=by grind
theorem Lz {a b:Rat} (h:a - b≠0):a≠b:=by grind
noncomputable def G0:Fn:=λds r=>∃ (pl:List (Int×Int)) (l m:T3),c7 pl/\Q3 5 3 60 l/\Q3 5 3 60 m/\ds=[D3 l,D3 m,.lst (pl.map fD)]/\r=.ok (.va (.bl true))
theorem Ih {pl:List (Int×Int)} (hp:c7 pl) (hl:Q3 5 3 60 l) (hm:Q3 5 3 60 m):G0 [D3 l,D3 m,.lst (pl.map fD)] (.ok (.va (.bl true))):=⟨pl,l,m,hp,hl,hm,rfl,rfl⟩
section
local macro_rules | `(tactic| walk_at "evCa")=> `(tactic| first
 | with_reducible refine ak (F:=tG) (by assumption) (by decide) ?_
 | with_reducible refine ak (F:=l6) (by assumption) (by decide) ?_
 | with_reducible refine ak (F:=qh) (by assumption) (by decide) ?_
 | with_reducible refine ak (F:=tH) (by assumption) (by decide) ?_
 | with_reducible refine ak (F:=sY) (by assumption) (by decide) ?_
 | with_reducible refine ak (F:=zM) (by assumption) (by decide) ?_
 | with_reducible refine ak (F:=zN) (by assumption) (by decide) ?_
 | with_reducible refine ak (F:=zO) (by assumption) (by decide) ?_
 | with_reducible refine ak (F:=zP) (by assumption) (by decide) ?_
 | with_reducible refine ak (F:=LS) (by assumption) (by decide) ?_
 | with_reducible refine ak (F:=LU) (by assumption) (by decide) ?_
 | with_reducible refine ak (F:=F4 lX cK) (by assumption) (by decide) ?_
 | with_reducible refine ak (F:=F4 i9 cK) (by assumption) (by decide) ?_
 | with_reducible refine ak (F:=F4 dQ cK) (by assumption) (by decide) ?_)
local macro_rules | `(tactic| walk_at "evIx")=> `(tactic| with_reducible refine iH ?_)
local macro_rules | `(tactic| walk_at "evL")=> `(tactic| ((with_reducible show A9 (EV.D.lst _) _); with_reducible refine vW (λq=>EV.D.noConfusion q) ?_))
local macro_rules | `(tactic| walk_at "wl")=> `(tactic| (intro c3 hc3 t' k d o hd ho; obtain ⟨A,hA,e1,e2⟩:=Qy (by assumption) hd ho; subst e1; subst e2; refine di (by walk_at "at") (j5 (by walk_at "sset") ⟨.un (.same .nil),?_⟩); simp only [kT]; refine ⟨λ_=>?_,λh=>by cases h⟩; walk_at "ev"; refine ah (x9 (by assumption) hA) (aJ ?_); rfl))
theorem LA (Fu:cU K "_law_meet_good" "_law_meet_good" (top 60) ff fd) (h1:bN P w K mg base 4 "_law_spot" tG) (h2:bN P w K mg base 4 "_law_weighs" qh) (h4:bN P w K mg base 3 "worth_at" l6) (h5:bN P w K mg base 6 "meet_point" sY) (h10:bN P w K mg base 3 "frac_times" (F4 dQ cK)):aU P w K mg base (cF P w) 8 ff fd ["_law_l","_law_m","_law_place"] (cR K G0):=by
 refine bH Fu lU (by rintro ds r ⟨pl,i,l,_,_,_,rfl,_⟩; rfl) (by rintro ds r ⟨pl,i,l,_,_,_,_,rfl⟩; exact ⟨_,rfl⟩) λc hq ds sl hF=>?_
 obtain ⟨pl,l,m,hp,hl,hm,rfl,ee⟩:=hF
 injection ee with ee
 subst ee
 have rp:=bD hp hl.ql.p
 have rq:=bD hp hl.ql.q
 have rr:=bD hp hl.ql.r
 have sp:=bD hp hm.ql.p
 have sq:=bD hp hm.ql.q
 have sr:=bD hp hm.ql.r
 have cr:=Ic hp hl hm
 have v:=cr.2.2
 show aE c _ [.va (D3 l),.va (D3 m),.va (.lst (pl.map fD)),.un,.un,.un,.un] _ _
 conv in (aj _)=>whnf
 refine aD (fY (by walk_at "at") hq (N':=["_law_terms","_law_place"]) (ρ0:=λ_=>[.un,.va (.lst (pl.map fD))]) (λt=>.un (.fr (by walk_at "at") (by walk_at "at") (by decide) rfl .nil)) (cu ?_))
 generalize hG:(λρ'=>aE c _ ρ' _ _)=G
 walk_at "ev"
 have hQ:QL (l):=hl.ql
 refine ⟨[some (aO (vL pl (l).1)),some (aO (vL pl (l).2.1)),some (aO (vL pl (l).2.2))],rfl,?_,?_⟩
 ·walk_at "wl"
 clear hQ
 refine j5 (by walk_at "sset") ?_
 subst hG
 refine cE 3 (d0:=Lo pl (l)) (by walk_at "at") rfl (by walk_at "sset") ?_
 refine aD (fY (by walk_at "at") hq (N':=["_law_terms","_law_place"]) (ρ0:=λ_=>[.un,.va (.lst (pl.map fD))]) (λt=>.un (.fr (by walk_at "at") (by walk_at "at") (by decide) rfl .nil)) (cu ?_))
 generalize hG:(λρ'=>aE c _ ρ' _ _)=G
 walk_at "ev"
 have hQ:QL (m):=hm.ql
 refine ⟨[some (aO (vL pl (m).1)),some (aO (vL pl (m).2.1)),some (aO (vL pl (m).2.2))],rfl,?_,?_⟩
 ·walk_at "wl"
 clear hQ
 refine j5 (by walk_at "sset") ?_
 subst hG
 refine cE 4 (d0:=Lo pl (m)) (by walk_at "at") rfl (by walk_at "sset") ?_
 refine aD ?_
 generalize hG:(λρ'=>aE c _ ρ' _ _)=G
 walk_at "ev"
 refine ah (Ov cr.1) (aJ ?_)
 walk_at "ev"
 refine ah (jO hp cr.2.1.ql) (aJ ?_)
 walk_at "ev"
 subst hG
 refine aD ?_
 generalize hG:(λρ'=>aE c _ ρ' _ _)=G
 walk_at "ev"
 refine ah (c6 rp sq) (aJ ?_)
 walk_at "ev"
 refine ah (c6 rq sp) (aJ ?_)
 refine qm ?_
 walk_at "ev"
 subst hG
 by_cases z:vL pl (Ej l m).2.2=0
 ·rw [DN z,decide_eq_true (sub_zero (v.z ▸ z))]
  refine aD ?_
  generalize hG:(λρ'=>aE c _ ρ' _ _)=G
  walk_at "ev"
  ·subst hG
   walk_at "ev"
   rfl
  ·rename_i h
   exact absurd rfl h
 ·rw [mZ z,decide_eq_false (Lz (v.z ▸ z))]
  have rc:=tK hp cr.2.1.ql z
  refine aD ?_
  generalize hG:(λρ'=>aE c _ ρ' _ _)=G
  walk_at "ev"
  ·subst hG
   have hz:vL pl l.1 * vL pl m.2.1 - vL pl l.2.1 * vL pl m.1≠0:=v.z ▸ z
   walk_at "ev"
   refine ah (mj rc.1 rc.2 rp rq rr (by rw [v.x,v.y,v.z]; exact OD hz)) (aJ ?_)
   walk_at "ev"
   all_goals try exact absurd (rfl:(0:Int)=0) (by assumption)
   refine ah (mj rc.1 rc.2 sp sq sr (by rw [v.x,v.y,v.z]; exact Ly hz)) (aJ ?_)
   walk_at "ev"
   all_goals first | rfl | exact absurd (rfl:(0:Int)=0) (by assumption)
  ·rename_i h
   exact absurd rfl h
end
end
section
variable {P:Program} {w:World} {K:Rr} {mg:Str->Option Value} {base:Heap}
theorem DU {ns:List Int} (h:k<ns.length):jj (ns.map D.int) (k:Int)=some (D.int (ns.getD k 0)):=by
 rw [gC (by lia) (by simp; lia),So,RO,RU h,Sj,RU h]
 rfl
theorem vo (cs:List Int) (o:Int) {k:Int} (hk:k.natAbs<5):Lm 5 3 60 (bX (iA cs o k)) where
 l:=Rz (rY _) (l8 ..)
 e:=Ex.sZ λt ht=>⟨Rz (kj cs o k hk t ht).1 (by decide),(kj cs o k hk t ht).2.1⟩
 b:=λt ht=>R8 ((Bn.sZ (m:=31) (λt ht=>(kj cs o k hk t ht).2.2) (Tc (l8 ..) (by decide))) t ht) (SD (by decide) (by decide))
noncomputable def tL (cs:List Int) (o:Int):T3:=(bX (iA cs o 0),bX (iA cs o 1),bX (iA cs o 2))
theorem DV (cs) (o):Q3 5 3 60 (tL cs o):=⟨vo cs o (by decide),vo cs o (by decide),vo cs o (by decide)⟩
theorem LB (ho:o.natAbs<10) (hl:cs.length<=1000):DG [.lst (cs.map .int),.int o] (.ok (.va (D3 (tL cs o)))):=⟨cs,o,ho,hl,rfl,rfl⟩
theorem tM (xs:List α) (a b:Nat):(EV.cutD xs (some (a:Int)) (some (b:Int))).length<=b - a:=by
 unfold EV.cutD HT.b9
 simp only [show ¬ ((a:Int)<0) by lia,show ¬ ((b:Int)<0) by lia,if_false,Sq,XS,So]
 lia
theorem DW (xs:List α) (k:Nat):EV.cutD xs none (some (k:Int))=xs.take k:=by
 unfold EV.cutD
 rw [HT.Av,HT.EA,List.drop_zero,Nat.sub_zero]
 rcases Nat.le_total k xs.length with h | h
 ·rw [VC h]
 ·rw [Nat.min_eq_right h,UB (Rv _),UB h]
noncomputable def vp (s:T3):T3:=(s.1.take 3,s.2.1.take 3,s.2.2.take 3)
theorem DX (h:Lm l e b A):Lm l e b (A.take 3):=⟨Rz (by rw [Sq]; exact Nat.min_le_right _ _) h.l,λt ht=>h.e t (U6 ht),λt ht=>h.b t (U6 ht)⟩
theorem LC (cs) (o):Q3 5 3 60 (vp (tL cs o)):=⟨DX (DV cs o).p,DX (DV cs o).q,DX (DV cs o).r⟩
noncomputable def vq (x:Int):Int×Int:=(nT (x % 19 - 9) (1+x / 19 % 5),nB (x % 19 - 9) (1+x / 19 % 5))
theorem DY (x):(vq x).1.natAbs<2 ^ 4/\(vq x).2.natAbs<2 ^ 4/\0<(vq x).2/\RA (vq x).1 (vq x).2=1:=by
 have hb:1+x / 19 % 5≠0:=by lia
 have h1:=pq (a:=x % 19 - 9) hb
 have h2:=pA (a:=x % 19 - 9) hb
 exact ⟨show (nT _ _).natAbs<16 by lia,show (nB _ _).natAbs<16 by lia,uz hb,BD hb⟩
theorem LD (s:T3):(D3 s).tO:=by
 have hp:∀ A:List aL,(au A).tO:=λA=>by
  show (D.lst (A.map aW)).tO
  unfold D.tO
  refine ⟨λn es e=>?_,sG λt _=>?_⟩
  ·cases A with
   | nil=>cases e
   | cons t A=>cases e
  ·show (D.tup [.tup (t.1.map .int),.int t.2]).tO
   unfold D.tO D.CQ
   refine ⟨?_,?_⟩
   ·unfold D.tO
    exact sG λx _=>trivial
   ·exact ⟨trivial,trivial⟩
 exact ⟨hp _,hp _,hp _,trivial⟩
theorem DZ (h:b.natAbs<1000):Pz b:=fZ.mpr (R8 h (by decide +kernel))
section
local macro_rules | `(tactic| walk_at "evIx")=> `(tactic| with_reducible refine iH ?_)
local macro_rules | `(tactic| walk_at "side")=> `(tactic| exact iM _)
local macro_rules | `(tactic| walk_at "evBo")=> `(tactic| first | ((with_reducible show aG _ (Vo (RQ _ _) Operator.Mult _ _) _ _); with_reducible refine M8 (Kz (by walk_at "at") (by walk_at "at") ?_)))
local macro_rules | `(tactic| walk_at "evCa")=> `(tactic| first
 | with_reducible refine ak (F:=DG) (by assumption) (by decide) ?_
 | with_reducible refine ak (F:=zF) (by assumption) (by decide) ?_
 | with_reducible refine ak (F:=GY) (by assumption) (by decide) ?_
 | with_reducible refine ak (F:=GZ) (by assumption) (by decide) ?_
 | with_reducible refine ak (F:=G0) (by assumption) (by decide) ?_)
theorem LF (Fu:cU K "law" "law" (top 61) f fd) (T:Txt K mg) (h2:bN P w K mg base 3 "_law_three" DG) (h3:bN P w K mg base 1 "_law_fraction" zF) (h4:bN P w K mg base 8 "_law_points_good" GY) (h5:bN P w K mg base 9 "_law_foot_good" GZ) (h6:bN P w K mg base 8 "_law_meet_good" G0):aU P w K mg base (cF P w) 10 f fd ["_law_script"] (cR K BA):=by
 refine bH Fu KC (by rintro ds r ⟨ns,_,rfl,_⟩; rfl) (by rintro ds r ⟨ns,_,_,rfl⟩; exact ⟨_,rfl⟩) λc hq ds sl hF=>?_
 obtain ⟨ns,hl,rfl,e⟩:=hF
 injection e with e
 subst e
 show aE c _ [.va (.lst (ns.map D.int)),.un,.un,.un,.un,.un,.un,.un] _ _
 conv in (aj _)=>whnf
 refine aD ?_
 generalize hG:(λρ'=>aE c _ ρ' _ _)=G
 walk_at "ev"
 ·have:(EV.cutD (ns.map D.int) (some 2) (some 63)).length<=61:=tM _ 2 63
  exact zW (by simp only [Tz]; lia)
 subst hG
 show aE c _ [.va (.lst (ns.map D.int)),.ow (EV.cutD (ns.map D.int) (some 2) (some 63)++[.int 5]),.un,.un,.un,.un,.un,.un] _ _
 have hcs:EV.cutD (ns.map D.int) (some 2) (some 63)++[D.int 5]=(EV.cutD ns (some 2) (some 63)++[5]).map .int:=by rw [iO,Si]; rfl
 have hcl:(EV.cutD ns (some 2) (some 63)++[5]).length<=1000:=by
  have:(EV.cutD ns (some 2) (some 63)).length<=61:=tM _ 2 63
  rw [R3,Tz]; lia
 have hc1:1<=(EV.cutD ns (some 2) (some 63)++[5]).length:=by rw [R3,Tz]; lia
 rw [hcs]
 generalize EV.cutD ns (some 2) (some 63)++[5]=cs at hcl hc1 |-
 obtain ⟨n0,cs0,rfl⟩:∃ n0 cs0,cs=n0::cs0:=by
  cases cs with
  | nil=>cases hc1
  | cons a l=>exact ⟨a,l,rfl⟩
 show aE c _ [.va (.lst (ns.map D.int)),.ow (.int n0::cs0.map D.int),.un,.un,.un,.un,.un,.un] _ _
 walk_at "ev"
 with_reducible refine cP hq (d9 (Txt.range (by assumption)) ?_)
 walk_at "ev"
 ·exact ⟨by decide,by decide⟩
 refine ⟨λk ρ'=>∃ s3:Sl,ρ'=[.va (.lst (ns.map D.int)),.ow (.int n0::cs0.map D.int),.ow ((RI k).map λ(j:Nat)=>D3 (vp (tL (n0::cs0) (j:Int)))),s3,.un,.un,.un,.un],⟨_,rfl⟩,?_,?_⟩
 ·rintro c' m5 vv vz k d ρ' hd ⟨s3,rfl⟩
  obtain ⟨hk,rfl⟩:=fK hd
  have hk:k<3:=hk
  refine di (by walk_at "at") (j5 (by walk_at "sset") ?_)
  refine aD (ug (by walk_at "at") (by walk_at "at") rfl ?_)
  refine oX (Txt.tuple T) (e_x (gW (by rw [m5]; exact hq) (N':=["_law_terms"]) (ρ0:=λ_=>[.un]) (λt=>.un .nil) (cu ?_)))
  refine KA 1 (by walk_at "at") (by walk_at "sset") ?_
  refine ak (F:=DG) h2 (by decide) ?_
  walk_at "ev"
  refine ah (LB (cs:=n0::cs0) (o:=(k:Int)) (by lia) hcl) (aJ (Sd.mk (LD _) ?_))
  have est:(RI (k+1)).map (λ(j:Nat)=>D3 (vp (tL (n0::cs0) (j:Int))))=(RI k).map (λ(j:Nat)=>D3 (vp (tL (n0::cs0) (j:Int))))++[D3 (vp (tL (n0::cs0) (k:Int)))]:=by rw [VD,Si]; rfl
  have hlen:((RI k).map λ(j:Nat)=>D3 (vp (tL (n0::cs0) (j:Int)))).length=k:=by simp
  generalize (RI k).map (λ(j:Nat)=>D3 (vp (tL (n0::cs0) (j:Int))))=fs at est hlen |-
  generalize tL (n0::cs0) (k:Int)=s at est |-
  walk_at "ev"
  refine ⟨[some (au (s.1.take 3)),some (au (s.2.1.take 3)),some (au (s.2.2.take 3))],rfl,?_,?_⟩
  ·intro c3 hc3 t' k d o hd ho
   obtain ⟨A,e1,e2⟩:∃ A:List aL,d=au A/\o=some (au (A.take 3)):=by
    match k,hd,ho with
    | 0,hd,ho=>cases hd; cases ho; exact ⟨_,rfl,rfl⟩
    | 1,hd,ho=>cases hd; cases ho; exact ⟨_,rfl,rfl⟩
    | 2,hd,ho=>cases hd; cases ho; exact ⟨_,rfl,rfl⟩
   subst e1; subst e2
   refine di (by walk_at "at") (j5 (by walk_at "sset") ⟨.un .nil,?_⟩)
   simp only [kT]
   refine ⟨λ_=>?_,λh=>by cases h⟩
   refine qR ?_
   walk_at "ev"
   show Hq (.lst (A.map aW)) none (some 3) _
   walk_at "ev"
   show some (D.lst ((A.take 3).map aW))=some (D.lst (EV.cutD (A.map aW) none (some 3)))
   rw [show EV.cutD (A.map aW) none (some 3)=_ from DW _ 3,List.map_take]
  walk_at "ev"
  ·exact dO (by lia)
  show ∃ s3:Sl,[_,_,Sl.ow (fs++[D3 (vp s)]),_,_,_,_,_]=[_,_,.ow ((RI (k+1)).map λ(j:Nat)=>D3 (vp (tL (n0::cs0) (j:Int)))),s3,_,_,_,_]
  rw [est]
  exact ⟨_,rfl⟩
 ·rintro ρ' ⟨s3,rfl⟩
  rw [eG]
  refine cE 2 (d0:=.lst [D3 (vp (tL (n0::cs0) 0)),D3 (vp (tL (n0::cs0) 1)),D3 (vp (tL (n0::cs0) 2))]) (by walk_at "at") rfl (by walk_at "sset") ?_
  have qi:=LC (n0::cs0) 0
  have qj:=LC (n0::cs0) 1
  have ql:=LC (n0::cs0) 2
  generalize vp (tL (n0::cs0) 0)=i at qi |-
  generalize vp (tL (n0::cs0) 1)=j at qj |-
  generalize vp (tL (n0::cs0) 2)=l at ql |-
  have hns:ns.map D.int++[.int 9,.int 4]=(ns++[9,4]).map D.int:=by rw [Si]; rfl
  have hn2:2<=(ns++[9,4]).length:=by rw [R3]; show 2<=ns.length+2; lia
  have at1:jj ((ns++[9,4]).map D.int) 1=some (.int ((ns++[9,4]).getD 1 0)):=DU (k:=1) (by lia)
  have hnl:(ns.map D.int).length+[D.int 9,D.int 4].length<=sizeLine:=zW (by rw [RB]; show ns.length+2<=1000000; lia)
  generalize ns++[9,4]=ms at hns hn2 at1
  refine aD ?_
  generalize hG:(λρ'=>aE c _ ρ' _ _)=G
  walk_at "ev"
  rw [hns]
  refine gQ at1 ?_
  walk_at "ev"
  subst hG
  generalize ms.getD 1 0=oth
  have hrep:(RE 6 (D.int n0::cs0.map D.int)).flatten=((RE 6 (n0::cs0)).flatten).map D.int:=by rw [List.map_flatten,List.map_replicate]; rfl
  have hrl:6<=((RE 6 (n0::cs0)).flatten).length:=by
   rw [len_rep]
   show 6<=6 * (cs0.length+1)
   lia
  have hsz:(D.int n0::cs0.map D.int).length * 6<=sizeLine:=zW (by
   have:(n0::cs0).length=cs0.length+1:=rfl
   rw [Sf,RB]; lia)
  walk_at "ev"
  with_reducible refine cP hq (d9 (Txt.range (by assumption)) ?_)
  walk_at "ev"
  ·exact ⟨by decide,by decide⟩
  refine ⟨λk ρ'=>∃ s3 s6:Sl,ρ'=[.va (.lst (ns.map D.int)),.ow (.int n0::cs0.map D.int),.va (.lst [D3 i,D3 j,D3 l]),s3,.va (.int oth),.ow (((RI k).map λ(m:Nat)=>vq (((RE 6 (n0::cs0)).flatten).getD m 0 / 7+oth)).map fD),s6,.un],⟨_,_,rfl⟩,?_,?_⟩
  ·rintro c' m5 vv vz k d ρ' hd ⟨s3,s6,rfl⟩
   obtain ⟨hk,rfl⟩:=fK hd
   have hk:k<6:=hk
   have est:((RI (k+1)).map λ(m:Nat)=>vq (((RE 6 (n0::cs0)).flatten).getD m 0 / 7+oth)).map fD=((RI k).map λ(m:Nat)=>vq (((RE 6 (n0::cs0)).flatten).getD m 0 / 7+oth)).map fD++[fD (vq (((RE 6 (n0::cs0)).flatten).getD k 0 / 7+oth))]:=by rw [VD,Si,Si]; rfl
   have hlen:(((RI k).map λ(m:Nat)=>vq (((RE 6 (n0::cs0)).flatten).getD m 0 / 7+oth)).map fD).length=k:=by simp
   generalize ((RI k).map λ(m:Nat)=>vq (((RE 6 (n0::cs0)).flatten).getD m 0 / 7+oth)).map fD=fs at est hlen |-
   have hsz2:((0:Int)<=6/\(6:Int)<2 ^ 63)/\(D.int n0::cs0.map D.int).length * Vp 6<=sizeLine:=⟨⟨by decide,by decide⟩,hsz⟩
   walk_at "ev"
   rw [show Vp 6=6 from rfl,hrep]
   refine gQ (DU (by lia)) ?_
   walk_at "ev"
   refine ah (u6 (by lia) (DZ (by lia))) (aJ ?_)
   walk_at "ev"
   ·exact dO (by lia)
   show ∃ s3 s6:Sl,[_,_,_,_,_,Sl.ow (fs++[fD (vq (((RE 6 (n0::cs0)).flatten).getD k 0 / 7+oth))]),_,_]=[_,_,_,s3,_,.ow (((RI (k+1)).map λ(m:Nat)=>vq (((RE 6 (n0::cs0)).flatten).getD m 0 / 7+oth)).map fD),s6,_]
   rw [est]
   exact ⟨_,_,rfl⟩
  ·rintro ρ' ⟨s3,s6,rfl⟩
   rw [eG]
   refine cE 5 (by walk_at "at") rfl (by walk_at "sset") ?_
   have hp:c7 ((RI 6).map λ(m:Nat)=>vq (((RE 6 (n0::cs0)).flatten).getD m 0 / 7+oth)):=by
    refine ⟨by simp,λx hx=>?_,λx hx=>?_⟩
    ·obtain ⟨m,_,rfl⟩:=Sb.mp hx
     have:=DY (((RE 6 (n0::cs0)).flatten).getD m 0 / 7+oth)
     exact ⟨this.1,this.2.1,this.2.2.1⟩
    ·obtain ⟨m,_,rfl⟩:=Sb.mp hx
     exact (DY (((RE 6 (n0::cs0)).flatten).getD m 0 / 7+oth)).2.2.2
   rw [show Vp 6=6 from rfl]
   generalize ((RI 6).map λ(m:Nat)=>vq (((RE 6 (n0::cs0)).flatten).getD m 0 / 7+oth))=pl at hp |-
   clear hrep hrl hsz
   have hb:1+oth / 114 % 7≠0:=by lia
   have ff:zF [.int (oth / 6 % 19 - 9),.int (1+oth / 114 % 7)] (.ok (.va (aO (((oth / 6 % 19 - 9:Int):Rat) / ((1+oth / 114 % 7:Int):Rat))))):=by
    have:=u6 (a:=oth / 6 % 19 - 9) hb (DZ (by lia))
    rwa [eO hb] at this
   have fn:((((oth / 6 % 19 - 9:Int):Rat) / ((1+oth / 114 % 7:Int):Rat))).num.natAbs<1000/\((((oth / 6 % 19 - 9:Int):Rat) / ((1+oth / 114 % 7:Int):Rat))).den<1000:=by
    have e:=jb (a:=oth / 6 % 19 - 9) hb
    have k1:=pq (a:=oth / 6 % 19 - 9) hb
    have k2:=pA (a:=oth / 6 % 19 - 9) hb
    rw [e.1] at k1
    rw [e.2] at k2
    exact ⟨by lia,by lia⟩
   generalize (((oth / 6 % 19 - 9:Int):Rat) / ((1+oth / 114 % 7:Int):Rat))=q at ff fn
   obtain ⟨t,ht,et⟩:∃ t:Nat,t<=5/\oth % 6=t:=⟨(oth % 6).toNat,by lia,by lia⟩
   refine aD ?_
   generalize hG:(λρ'=>aE c _ ρ' _ _)=G
   walk_at "ev"
   refine ah ff (aJ ?_)
   walk_at "ev"
   subst hG
   refine aD ?_
   generalize hG:(λρ'=>aE c _ ρ' _ _)=G
   walk_at "ev"
   rw [et]
   refine ah (Ow hp qi qj ht fn.1 fn.2) ?_
   walk_at "ev"
   subst hG
   refine aD ?_
   generalize hG:(λρ'=>aE c _ ρ' _ _)=G
   walk_at "ev"
   refine ah (OC hp qi ql) ?_
   walk_at "ev"
   subst hG
   walk_at "ev"
   refine ah (Ih hp qj ql) ?_
   walk_at "ev"
   refine ah (Ih hp ql ql) ?_
   walk_at "ev"
   rfl
end
end
section
variable {K:Rr}
theorem G1 (vC:mg "law"=some (.ref fa)) (T:Txt K mg) (xPLACES:∃ tk:Tok,mg "PLACES"=some (.int 6 tk))
 (D4:ai K mg "common_divisor" (top 4))
 (D5:ai K mg "fraction_of" (top 5))
 (D6:ai K mg "frac_sum" (top 6))
 (D7:ai K mg "frac_less" (top 7))
 (D8:ai K mg "frac_times" (top 8))
 (D9:ai K mg "frac_by" (top 9))
 (D12:ai K mg "trimmed" (top 12))
 (D13:ai K mg "power_at" (top 13))
 (D14:ai K mg "greatest_powers" (top 14))
 (D15:ai K mg "key_of" (top 15))
 (D16:ai K mg "powers_of" (top 16))
 (D17:ai K mg "packed" (top 17))
 (D18:ai K mg "unpacked" (top 18))
 (D19:ai K mg "add_products" (top 19))
 (D20:ai K mg "raised" (top 20))
 (D21:ai K mg "scaled_powers" (top 21))
 (D22:ai K mg "worth_at" (top 22))
 (D24:ai K mg "width_of" (top 24))
 (D25:ai K mg "add_part" (top 25))
 (D26:ai K mg "poly_total" (top 26))
 (D27:ai K mg "free_poly" (top 27))
 (D28:ai K mg "told_fraction" (top 28))
 (D30:ai K mg "crossed" (top 30))
 (D31:ai K mg "way_between" (top 31))
 (D32:ai K mg "square_of_way" (top 32))
 (D34:ai K mg "part_rule" (top 34))
 (D35:ai K mg "side_rule" (top 35))
 (D36:ai K mg "square_rule" (top 36))
 (D37:ai K mg "foot_rule" (top 37))
 (D38:ai K mg "mirrored_rule" (top 38))
 (D39:ai K mg "slide_point" (top 39))
 (D40:ai K mg "through_line" (top 40))
 (D41:ai K mg "meet_point" (top 41))
 (D42:ai K mg "side_line" (top 42))
 (D43:ai K mg "square_line" (top 43))
 (D44:ai K mg "foot_point" (top 44))
 (D45:ai K mg "part_point" (top 45))
 (D46:ai K mg "mirrored_point" (top 46))
 (D49:ai K mg "_law_thing" (top 49))
 (D50:ai K mg "_law_fraction" (top 50))
 (D51:ai K mg "_law_trimmed" (top 51))
 (D52:ai K mg "_law_sum" (top 52))
 (D53:ai K mg "_law_three" (top 53))
 (D54:ai K mg "_law_small_term" (top 54))
 (D55:ai K mg "_law_spot" (top 55))
 (D56:ai K mg "_law_weighs" (top 56))
 (D57:ai K mg "_law_between" (top 57))
 (D58:ai K mg "_law_points_good" (top 58))
 (D59:ai K mg "_law_foot_good" (top 59))
 (D60:ai K mg "_law_meet_good" (top 60))
 (D61:ai K mg "law" (top 61))
 : ∃ fd:FuncData,(∀ (s:Shared) (u:Value),BindsTo s fd ⟨[u],[]⟩ [("_law_script",u)])/\∀ base:Heap,K.In base->base.Ns mainGlobals mg->aU P w K mg base (cF P w) 20 fa fd ["_law_script"] (cR K BA):=by
 refine Classical.byContradiction λhG=>?_
 obtain ⟨f61,fd61,m61,Fu61⟩:=D61
 have e:=vC.symm.trans m61
 cases e
 refine hG ⟨fd61,?_,λbase _ _=>?_⟩
 ·obtain ⟨oc,od,kV,doc,pm,an,cdv,ct,osl,rfl,lk,hcd⟩:=Fu61.ex
  exact λs u=>.of_eq rfl
 have C4:=aI P w base D4 λu=>KP u T
 have C5:=aI P w base D5 λu=>NH u T C4
 have C6:=aI P w base D6 λu=>KW u C5
 have C7:=aI P w base D7 λu=>GH u C5
 have C8:=aI P w base D8 λu=>Dl u C5
 have C9:=aI P w base D9 λu=>NN u C5
 have C12:=aI P w base D12 λu=>Gk u T
 have C13:=aI P w base D13 λu=>NQ u T
 have C14:=aI P w base D14 λu=>C0 u T xPLACES
 have C15:=aI P w base D15 λu=>KG u T xPLACES
 have C16:=aI P w base D16 λu=>Gu u T xPLACES C12
 have C17:=aI P w base D17 λu=>Gv u T C15
 have C18:=aI P w base D18 λu=>KN u T C16
 have C19:=xx P w base D19 λu=>KL u T
 have C20:=aI P w base D20 λu=>K0 u T
 have C21:=aI P w base D21 λu=>K2 u T C13 C20
 have C22:=aI P w base D22 λu=>K6 u T xPLACES C13 C20 C14 C21 C5
 have C24:=aI P w base D24 λu=>KO u T C14
 have C25:=xx P w base D25 λu=>Dv u T C17 C19
 have C26:=aI P w base D26 λu=>K9 u T C24 C25 C18
 have C27:=aI P w base D27 λu=>GP u T
 have C28:=aI P w base D28 λu=>Ob u
 have C30:=aI P w base D30 λu=>NX u
 have C31:=aI P w base D31 λu=>NY u
 have C32:=aI P w base D32 λu=>N5 u
 have C34:=aI P w base D34 λu=>Od u C31
 have C35:=aI P w base D35 λu=>NZ u
 have C36:=aI P w base D36 λu=>N3 u
 have C37:=aI P w base D37 λu=>N7 u C32
 have C38:=aI P w base D38 λu=>Oa u C32 C37
 have C39:=aI P w base D39 λu=>Oe u C26 C34 C27
 have C40:=aI P w base D40 λu=>Lb u C26 C30
 have C41:=aI P w base D41 λu=>Lc u C26 C30
 have C42:=aI P w base D42 λu=>Ld u C26 C35
 have C43:=aI P w base D43 λu=>Le u C26 C36
 have C44:=aI P w base D44 λu=>Lf u C26 C37
 have C45:=aI P w base D45 λu=>Of u C26 C34 C28
 have C46:=aI P w base D46 λu=>Lg u C26 C38
 have C49:=aI P w base D49 λu=>CU u T
 have C50:=aI P w base D50 λu=>NF u T
 have C51:=aI P w base D51 λu=>Dy u T
 have C52:=aI P w base D52 λu=>Gn u T C51
 have C54:=aI P w base D54 λu=>K5 u T C49
 have C53:=aI P w base D53 λu=>DH u T C54 C52
 have C55:=aI P w base D55 λu=>Lp u C22 C9
 have C56:=aI P w base D56 λu=>Lq u C6 C8
 have C57:=aI P w base D57 λu=>Lr u T C6 C8 C7
 have C58:=aI P w base D58 λu=>Lu u C55 C56 C57 C22 C40 C39 C45
 have C59:=aI P w base D59 λu=>Lx u T C55 C56 C57 C22 C44 C46 C42 C43 C7 C8 C6
 have C60:=aI P w base D60 λu=>LA u C55 C56 C22 C41 C8
 exact (LF Fu61 T C53 C50 C58 C59 C60).mono (by decide)
end
end My
open PySem PySem.W PyProof.Rows
local macro_rules | `(tactic| walk_at "dm")=> `(tactic| (dsimp only [L2.dz]; refine' EV.JO (by assumption) (by assumption) ?a ?l ?c ?k; (case a=>k_is); (case l=>k_is); (case c=>k_is); (case k=>k_is)))
set_option maxRecDepth 100000 in
set_option maxHeartbeats 0 in
theorem PySem.Challenge.cw_everydraw_k16_whole_rules_at_places_holds : PySem.Challenge.rw_everydraw_k16_whole_rules_at_places.Holds := by
 w_on; o_law; k_head; (case hw=>w_witness2)
 k_fill
 refine EV.walk (k:=20) (l:=PySem.Challenge.rw_everydraw_k16_whole_rules_at_places) (by decide) rfl rfl (λw h Y=>PySem.W.kIn_of Y) ?F
 case F =>
  intro w mg fa h KX G hmg
  have D4:EV.ai (L2.dz KX) mg (Str.ofString "common_divisor") (My.top 4):=by walk_at "dm"
  have D5:EV.ai (L2.dz KX) mg (Str.ofString "fraction_of") (My.top 5):=by walk_at "dm"
  have D6:EV.ai (L2.dz KX) mg (Str.ofString "frac_sum") (My.top 6):=by walk_at "dm"
  have D7:EV.ai (L2.dz KX) mg (Str.ofString "frac_less") (My.top 7):=by walk_at "dm"
  have D8:EV.ai (L2.dz KX) mg (Str.ofString "frac_times") (My.top 8):=by walk_at "dm"
  have D9:EV.ai (L2.dz KX) mg (Str.ofString "frac_by") (My.top 9):=by walk_at "dm"
  have D12:EV.ai (L2.dz KX) mg (Str.ofString "trimmed") (My.top 12):=by walk_at "dm"
  have D13:EV.ai (L2.dz KX) mg (Str.ofString "power_at") (My.top 13):=by walk_at "dm"
  have D14:EV.ai (L2.dz KX) mg (Str.ofString "greatest_powers") (My.top 14):=by walk_at "dm"
  have D15:EV.ai (L2.dz KX) mg (Str.ofString "key_of") (My.top 15):=by walk_at "dm"
  have D16:EV.ai (L2.dz KX) mg (Str.ofString "powers_of") (My.top 16):=by walk_at "dm"
  have D17:EV.ai (L2.dz KX) mg (Str.ofString "packed") (My.top 17):=by walk_at "dm"
  have D18:EV.ai (L2.dz KX) mg (Str.ofString "unpacked") (My.top 18):=by walk_at "dm"
  have D19:EV.ai (L2.dz KX) mg (Str.ofString "add_products") (My.top 19):=by walk_at "dm"
  have D20:EV.ai (L2.dz KX) mg (Str.ofString "raised") (My.top 20):=by walk_at "dm"
  have D21:EV.ai (L2.dz KX) mg (Str.ofString "scaled_powers") (My.top 21):=by walk_at "dm"
  have D22:EV.ai (L2.dz KX) mg (Str.ofString "worth_at") (My.top 22):=by walk_at "dm"
  have D24:EV.ai (L2.dz KX) mg (Str.ofString "width_of") (My.top 24):=by walk_at "dm"
  have D25:EV.ai (L2.dz KX) mg (Str.ofString "add_part") (My.top 25):=by walk_at "dm"
  have D26:EV.ai (L2.dz KX) mg (Str.ofString "poly_total") (My.top 26):=by walk_at "dm"
  have D27:EV.ai (L2.dz KX) mg (Str.ofString "free_poly") (My.top 27):=by walk_at "dm"
  have D28:EV.ai (L2.dz KX) mg (Str.ofString "told_fraction") (My.top 28):=by walk_at "dm"
  have D30:EV.ai (L2.dz KX) mg (Str.ofString "crossed") (My.top 30):=by walk_at "dm"
  have D31:EV.ai (L2.dz KX) mg (Str.ofString "way_between") (My.top 31):=by walk_at "dm"
  have D32:EV.ai (L2.dz KX) mg (Str.ofString "square_of_way") (My.top 32):=by walk_at "dm"
  have D34:EV.ai (L2.dz KX) mg (Str.ofString "part_rule") (My.top 34):=by walk_at "dm"
  have D35:EV.ai (L2.dz KX) mg (Str.ofString "side_rule") (My.top 35):=by walk_at "dm"
  have D36:EV.ai (L2.dz KX) mg (Str.ofString "square_rule") (My.top 36):=by walk_at "dm"
  have D37:EV.ai (L2.dz KX) mg (Str.ofString "foot_rule") (My.top 37):=by walk_at "dm"
  have D38:EV.ai (L2.dz KX) mg (Str.ofString "mirrored_rule") (My.top 38):=by walk_at "dm"
  have D39:EV.ai (L2.dz KX) mg (Str.ofString "slide_point") (My.top 39):=by walk_at "dm"
  have D40:EV.ai (L2.dz KX) mg (Str.ofString "through_line") (My.top 40):=by walk_at "dm"
  have D41:EV.ai (L2.dz KX) mg (Str.ofString "meet_point") (My.top 41):=by walk_at "dm"
  have D42:EV.ai (L2.dz KX) mg (Str.ofString "side_line") (My.top 42):=by walk_at "dm"
  have D43:EV.ai (L2.dz KX) mg (Str.ofString "square_line") (My.top 43):=by walk_at "dm"
  have D44:EV.ai (L2.dz KX) mg (Str.ofString "foot_point") (My.top 44):=by walk_at "dm"
  have D45:EV.ai (L2.dz KX) mg (Str.ofString "part_point") (My.top 45):=by walk_at "dm"
  have D46:EV.ai (L2.dz KX) mg (Str.ofString "mirrored_point") (My.top 46):=by walk_at "dm"
  have D49:EV.ai (L2.dz KX) mg (Str.ofString "_law_thing") (My.top 49):=by walk_at "dm"
  have D50:EV.ai (L2.dz KX) mg (Str.ofString "_law_fraction") (My.top 50):=by walk_at "dm"
  have D51:EV.ai (L2.dz KX) mg (Str.ofString "_law_trimmed") (My.top 51):=by walk_at "dm"
  have D52:EV.ai (L2.dz KX) mg (Str.ofString "_law_sum") (My.top 52):=by walk_at "dm"
  have D53:EV.ai (L2.dz KX) mg (Str.ofString "_law_three") (My.top 53):=by walk_at "dm"
  have D54:EV.ai (L2.dz KX) mg (Str.ofString "_law_small_term") (My.top 54):=by walk_at "dm"
  have D55:EV.ai (L2.dz KX) mg (Str.ofString "_law_spot") (My.top 55):=by walk_at "dm"
  have D56:EV.ai (L2.dz KX) mg (Str.ofString "_law_weighs") (My.top 56):=by walk_at "dm"
  have D57:EV.ai (L2.dz KX) mg (Str.ofString "_law_between") (My.top 57):=by walk_at "dm"
  have D58:EV.ai (L2.dz KX) mg (Str.ofString "_law_points_good") (My.top 58):=by walk_at "dm"
  have D59:EV.ai (L2.dz KX) mg (Str.ofString "_law_foot_good") (My.top 59):=by walk_at "dm"
  have D60:EV.ai (L2.dz KX) mg (Str.ofString "_law_meet_good") (My.top 60):=by walk_at "dm"
  have D61:EV.ai (L2.dz KX) mg (Str.ofString "law") (My.top 61):=by walk_at "dm"
  have T:EV.Txt (L2.dz KX) mg:=by
   dsimp only [L2.dz]
   refine' EV.JQ KX G ?z1 ?z2 ?z3 ?z4 ?z5 ?z6 ?z7 ?z8 ?z9 ?z10 ?z11 ?z12 ?z13 ?z14 ?z15 ?z16 ?z17 ?sib
   (case z1=>k_is)
   (case z2=>k_is)
   (case z3=>k_is)
   (case z4=>k_is)
   (case z5=>k_is)
   (case z6=>k_is)
   (case z7=>k_is)
   (case z8=>k_is)
   (case z9=>k_is)
   (case z10=>k_is)
   (case z11=>k_is)
   (case z12=>k_is)
   (case z13=>k_is)
   (case z14=>k_is)
   (case z15=>k_is)
   (case z16=>k_is)
   (case z17=>k_is)
   (case sib=>k_is)
  have xPLACES:∃ tk:Tok,mg (Str.ofString "PLACES")=some (.int 6 tk):=by
   refine' EV.int_mk KX G ?a
   (case a=>k_is)
  exact My.G1 hmg T xPLACES D4 D5 D6 D7 D8 D9 D12 D13 D14 D15 D16 D17 D18 D19 D20 D21 D22 D24 D25 D26 D27 D28 D30 D31 D32 D34 D35 D36 D37 D38 D39 D40 D41 D42 D43 D44 D45 D46 D49 D50 D51 D52 D53 D54 D55 D56 D57 D58 D59 D60 D61
