import PyProof.Rows.All
import Wide.All
import OpenK.AllK
import Wide.FinOn
import PySem.Challenge.RW_everydraw_k07_worths_at_places
namespace EV
theorem z2 {α β} {P:α->β->Prop} {G:Prop} (h:∃ a b,P a b) (k:∀ a b,P a b->G):G:=h.elim λa h=>h.elim (k a)
theorem z3 {α β γ} {P:α->β-> γ ->Prop} {G:Prop} (h:∃ a b c,P a b c) (k:∀ a b c,P a b c->G):G:=h.elim λa h=>z2 h (k a)
theorem z4 {α β γ δ} {P:α->β-> γ -> δ ->Prop} {G:Prop} (h:∃ a b c d,P a b c d) (k:∀ a b c d,P a b c d->G):G:=h.elim λa h=>z3 h (k a)
theorem z5 {α β γ δ ε} {P:α->β-> γ -> δ -> ε ->Prop} {G:Prop} (h:∃ a b c d e,P a b c d e) (k:∀ a b c d e,P a b c d e->G):G:=h.elim λa h=>z4 h (k a)
theorem w2 {a b G:Prop} (h:a/\b) (k:a->b->G):G:=k h.1 h.2
theorem w3 {a b c G:Prop} (h:a/\b/\c) (k:a->b->c->G):G:=w2 h.2 (k h.1)
theorem w4 {a b c d G:Prop} (h:a/\b/\c/\d) (k:a->b->c->d->G):G:=w3 h.2 (k h.1)
theorem w5 {a b c d e G:Prop} (h:a/\b/\c/\d/\e) (k:a->b->c->d->e->G):G:=w4 h.2 (k h.1)
theorem w6 {a b c d e f G:Prop} (h:a/\b/\c/\d/\e/\f) (k:a->b->c->d->e->f->G):G:=w5 h.2 (k h.1)
theorem w7 {a b c d e f g G:Prop} (h:a/\b/\c/\d/\e/\f/\g) (k:a->b->c->d->e->f->g->G):G:=w6 h.2 (k h.1)
theorem w8 {a b c d e f g i G:Prop} (h:a/\b/\c/\d/\e/\f/\g/\i) (k:a->b->c->d->e->f->g->i->G):G:=w7 h.2 (k h.1)
end EV
set_option genSizeOf false
set_option Elab.async false
set_option linter.all false
set_option maxRecDepth 100000
open PySem renaming wpAny_bind->Ff,wpAny_pure->Fl,Spec->F4,wpAny_mono->Gk,wpAny_newObj_type->GA,wpAny_rule->GG,wpAny_holding->GK,wpAny_field->GW,Builtin->G1,wpAny_call_entry->G5,wpAny_setField_rec->Ht,wpAny_passesOwn->Hx,wpAny_callSpecial?_slot->HP,wpAny_truthy_bool->Ib,mem_of_lookup->Im,wpAny_Call_Name_kw->Ip,wpAny_attempt->IF,wpAny_typeNameOfWhole_itemiter->IU,wpAny_typeNameOf_itemiter->IX,tupleKind_room_in1->Jf,wpAny_standAt->Jq,wpAny_typeOf->Jv,concat_meets->Jx,wpAny_isOneOf_itemiter->JM,wpAny_pyIter_tuple->JY,wpAny_sequenceKey->J3,wpAny_dictEntries->J4,noFill_tuple_add->Ke
open PySem.Str renaming ofString->Fg
open PySem.W renaming Frag->Fi,nsIn->F6,mg_none_of->Gb,kitOne->GC,findIn->G9,fnOf->Hh,kia_one->Hy,keepIn->HA,clsIn->IG,codeIn->Jl,mroIn->Jr,specialIn->J5,methodObj->J6
open PyProof.Rows renaming wpS_bind->Fj,wpS_pure->Fo,wpS_mono->FQ,wpS_forRange->Ge,wpS_get->Gy,wpS_modify->GQ,wpS_lift->Ho,slot_tuple_getitem->HJ,mirror_perm->II,listItems_at->Jw,callWith_type1->JE,assignInOrder_cons->JZ,callWith_builtin1->Kr
open Nat renaming le_refl->Fq,le_trans->Fy,ne_of_lt->F0,lt_of_lt_of_le->F9,mul_le_mul_left->Gn,zero_le->Gw,lt_of_le_of_lt->GI,lt_irrefl->GL,le_of_lt->GN,pow_le_pow_right->G0,zero_add->G3,succ_le_succ->Iw,min_le_right->Iz,lt_succ_self->IB,le_add_right->IC,pow_add->IJ,le_sub_one_of_lt->Jd,mul_le_mul->Jm,add_assoc->Js,log2_lt->JC,le_mul_of_pos_right->JL,one_le_iff_ne_zero->JO,add_sub_cancel'->JU,le_succ_of_le->J7
open Int renaming gcd->Ft,le_trans->F3,toNat_natCast->Gg,le_of_lt->GP,toNat->GR,le_refl->GX,emod_nonneg->Hz,natAbs_mul->HB,pow_zero->HF,gcd_pos_of_ne_zero_right->HL,mul_comm->Ih,emod_lt_of_pos->Ir,neg_gcd->IK,mul_one->IL,gcd_neg->IM,fdiv_eq_ediv_of_nonneg->IW,mul_assoc->Jt,mul_fdiv_cancel->JW,mul_right_comm->J0,gcd_dvd_right->Kc,gcd_dvd_left->Kh
open Bool renaming false_ne_true->Fv,false_eq_true->Ga,not_true->HC,eq_iff_iff->IE,and_eq_true->Jj
open PySem.Heap renaming lt_size->Fw,get?_push_of_some->Fz,get?_push_size->FT,SameBut->GU,size_push->Jo
open List renaming length_map->Fx,getElem?_eq_some_iff->FA,map_cons->FD,mem_cons_self->FF,size_toArray->FG,mem_cons_of_mem->FL,getElem?_map->FN,mem_cons->FO,replicate->FW,append_assoc->FZ,getElem?_eq_getElem->F7,mem_append->Gd,range->Gf,length_take->Gh,mem_singleton->Gj,getElem?_set_self->Gq,mem_append_right->Gr,getElem?_set_ne->Gs,find?_cons->Gu,length_append->Gz,length_cons->GB,mem_map->GF,map_map->GO,getD_eq_getElem?_getD->GS,append_nil->GV,replicate_succ->G4,getElem_mem->G6,map_append->G7,length_nil->G8,perm_append_comm->Hs,take_length->Hw,map_nil->HD,take_succ_eq_append_getElem->HH,pairwise_singleton->HQ,filter_cons_of_pos->HR,take_of_length_le->HS,take_append_drop->HU,getElem?_of_mem->HW,filterMap_cons->HY,getElem?_drop->Ia,flatten_cons->Ic,nodup_cons->Ie,map_take->Ig,getElem?_append_left->Ii,getElem?_eq_none->Ij,mem_of_getElem?->Ik,getElem?_append->Il,map_congr_left->Io,pairwise_cons->Iq,ext_getElem?->Iu,forIn_cons->ID,foldl->IQ,getElem?_append_right->IV,getElem?_take_of_lt->IZ,filter_cons_of_neg->Jb,mem_append_left->Je,take_sublist->Jg,not_mem_nil->Jh,cons_append->Ji,foldl_cons->Jk,zipWith->Jz,pairwise_iff_getElem->JF,mem_of_mem_take->JS,reverse_append->JV,reverse_perm->J8,foldl_append->J9,drop_sublist->Ka,lookup_cons->Kf,length_drop->Kg,Pairwise->Km,drop_append_of_le_length->Ku
open PySem.SeqAt renaming EqAt->FE,RcAt->HG,RcNeAt->Jy
open PySem.Value renaming ref->FH,none->Gx,type->Hi,int->Hl,str->IT
open Ne renaming symm->FI
open Array renaming getElem?_eq_getElem->FJ,toList_push->FU,getElem?_toList->F1,length_toList->F8,toList_append->Gi,ext'->Hj,perm_iff_toList_perm->HM,getElem?_eq_some_iff->HN,toList_reverse->HX,getElem?_extract->Jc,mem_toList_iff->JT,getElem_mem->Kd,toList_eraseIdxIfInBounds->Kq
open PySem.Expr renaming Name->FP,Call->Gp,Subscript->GD,BinOp->IS,Constant->Ju
open Sum renaming inl->FY,inr->Hq
open ForInStep renaming yield->F2,done->Gv
open Option renaming map_eq_some_iff->F5,isSome_map->Hu,bind_eq_some_iff->JK
open PySem.Env renaming kindOf->Gm
open PySem.Obj renaming mapSeq->GH
open Option.some renaming inj->GJ
open True renaming intro->GY
open False renaming elim->GZ
open PySem.NameKind renaming free->G2
open PySem.Paired renaming length->Hg,snoc->JB
open Lean renaming mkPrivateNameCore->Hr,mkIdent->HE
open PySem.F renaming slot_dict_itemiterator_next->HK,args_tuple_add_2->JH,entry_tuple_add->JJ,slot_tuple_add->JN,slot_dict_get->JR,args_dict_itemiterator_next_1->Kp,entry_dict_itemiterator_next->Ks,slot_dict_itemiterator_iter->Kv
open List.Perm renaming append_left->HV
open PySem.Builtin.Int renaming intBits->HZ
open List.Pairwise renaming nil->Iv
open PyProof.Rows.SortSt renaming mk'->IP
open PySem.Builtin.Slice renaming slicePlaces->IY,sliceAdjust->JG
open PySem.Builtin.Tuple renaming tupleExact->I0
open PySem.AutoSeq1 renaming wpAny_loadPart'->Ja
open PySem.Builtin renaming bitAnd->Jp
open PySem.Stmt renaming Assign->JA
open PySem.Builtin.Dict_items renaming pairFromOwner->JD,ownedTupleIsFree->Kn,ownedTupleFields->Ko
open PySem.Builtin.List renaming listTooLong->JI,listItems->JQ
open PySem.Calls renaming callWith_builtin->JP,spliced_cons->J1
open PySem.Heap.SameBut renaming update->JX
open PySem.Challenge renaming rw_everydraw_k07_worths_at_places->Kl
namespace PySem.W.Fast
theorem tw10163415837341810040:True:=⟨⟩
theorem tw15558971473049923544:True:=⟨⟩
theorem tw5719778809594906973:True:=⟨⟩
theorem tw16390036720933792366:True:=⟨⟩
theorem tw9443566351626359116:True:=⟨⟩
theorem tw3800345368271180341:True:=⟨⟩
theorem tw6871719839069020315:True:=⟨⟩
theorem tw14818786996615355767:True:=⟨⟩
theorem tw12222594232269039752:True:=⟨⟩
theorem tw16058669312147346831:True:=⟨⟩
theorem tw6828977476931922113:True:=⟨⟩
theorem tw6359204012787144981:True:=⟨⟩
theorem tw6020088133299912644:True:=⟨⟩
theorem tw6728214677318818230:True:=⟨⟩
theorem tw11625734164256482981:True:=⟨⟩
theorem tw9823509096691103379:True:=⟨⟩
theorem tw7748643656272839452:True:=⟨⟩
theorem tw2680338675857252919:True:=⟨⟩
theorem tw5372830239414478308:True:=⟨⟩
theorem tw14506494835236541691:True:=⟨⟩
theorem tw5204301380506279089:True:=⟨⟩
theorem tw5271066258247742393:True:=⟨⟩
theorem tw4195223889284235918:True:=⟨⟩
theorem tw11920126531071721334:True:=⟨⟩
theorem tw17229090712299582837:True:=⟨⟩
theorem tw3440208288436553728:True:=⟨⟩
theorem tw7433269446588364968:True:=⟨⟩
theorem tw3055413724822586954:True:=⟨⟩
theorem tw11829028593931092491:True:=⟨⟩
theorem tw8740457780173977942:True:=⟨⟩
theorem tw14767156527231112439:True:=⟨⟩
theorem tw13670193543494029689:True:=⟨⟩
theorem tw2739970336766814143:True:=⟨⟩
theorem tw8225063790281960100:True:=⟨⟩
theorem tw16766108159745659911:True:=⟨⟩
theorem tw11298599856892636924:True:=⟨⟩
theorem tw184386167663678507:True:=⟨⟩
theorem tw9983544974705825971:True:=⟨⟩
theorem tw6887175117125887569:True:=⟨⟩
theorem tw17305525295986985489:True:=⟨⟩
theorem tw3638886536202857189:True:=⟨⟩
theorem tw14046469732840688877:True:=⟨⟩
theorem tw16326383712404698722:True:=⟨⟩
theorem tw14786323252656532128:True:=⟨⟩
theorem tw9320756998793310214:True:=⟨⟩
theorem tw6572692896715676653:True:=⟨⟩
theorem tw9002592852251920340:True:=⟨⟩
theorem tw4254854683683958475:True:=⟨⟩
theorem tw18423340692195506636:True:=⟨⟩
theorem tw9406729813258285334:True:=⟨⟩
theorem tw2718403460193707591:True:=⟨⟩
theorem tw18273643952520109832:True:=⟨⟩
theorem tw14900449540949604651:True:=⟨⟩
theorem tw7449372855712774631:True:=⟨⟩
theorem tw346079089394219792:True:=⟨⟩
theorem tw5265230453804340773:True:=⟨⟩
theorem tw16690843538751823957:True:=⟨⟩
theorem tw425723882555467301:True:=⟨⟩
theorem tw17540781745073039948:True:=⟨⟩
theorem tw3570646751433993489:True:=⟨⟩
theorem tw10530350422241477950:True:=⟨⟩
theorem tw4521507890653757252:True:=⟨⟩
theorem tw2149826100544384443:True:=⟨⟩
theorem tw2164192500676951485:True:=⟨⟩
theorem tw6617238989411897677:True:=⟨⟩
theorem tw274077576776850299:True:=⟨⟩
theorem tw15583829815916931167:True:=⟨⟩
theorem tw364089905820862192:True:=⟨⟩
theorem tw10175659740631035536:True:=⟨⟩
theorem tw12348952550266408426:True:=⟨⟩
theorem tw8873747889783542464:True:=⟨⟩
theorem tw10527794452835797231:True:=⟨⟩
theorem tw15418213304306295905:True:=⟨⟩
theorem tw15303319070245439288:True:=⟨⟩
theorem tw7507801555642121311:True:=⟨⟩
theorem tw17611364762363408240:True:=⟨⟩
theorem tw5681016573527679401:True:=⟨⟩
theorem tw589743845111006084:True:=⟨⟩
theorem tw4259888042468668280:True:=⟨⟩
theorem tw12119133147167071551:True:=⟨⟩
theorem tw2193286363065653027:True:=⟨⟩
theorem tw10508115753954221018:True:=⟨⟩
theorem tw17054486992779265488:True:=⟨⟩
theorem tw5373099995627744181:True:=⟨⟩
theorem tw677831554467599178:True:=⟨⟩
theorem tw5392588932675590423:True:=⟨⟩
theorem tw15303360341019722669:True:=⟨⟩
theorem tw4279175979046261192:True:=⟨⟩
theorem tw14315054822767887531:True:=⟨⟩
theorem tw16766339333985047724:True:=⟨⟩
theorem tw12721582708316081472:True:=⟨⟩
theorem tw6032032970749721507:True:=⟨⟩
theorem tw13149814569941945928:True:=⟨⟩
theorem tw7310618432718202214:True:=⟨⟩
theorem tw11883642737651628762:True:=⟨⟩
theorem tw9158789629809816548:True:=⟨⟩
theorem tw3640077610402152744:True:=⟨⟩
theorem tw12399390980377510402:True:=⟨⟩
theorem tw1321551791987282414:True:=⟨⟩
theorem tw3785684640374416189:True:=⟨⟩
end PySem.W.Fast
local macro_rules | `(tactic| walk_at "u") => `(tactic| with_unfolding_all rfl)
namespace L2
open PySem PySem.Spec PyProof.Rows
noncomputable abbrev Key:=Sum Int Str
noncomputable def gE:Key->Value->Bool
 | .inl k,v=>Value.isInt k v
 | .inr x,v=>Value.isStrOf x v
noncomputable def DN (w:World):Key->Int
 | .inl k=>hashInt k
 | .inr x=>hashStr w x
theorem aN:∀ {k:Key} {v:Value},gE k v=true->(∃ i t,k=FY i/\v=Hl i t)\/(∃ x t,k=Hq x/\v=IT x t)
 | .inl i,v,h=>by
  obtain ⟨t,e⟩:=Value.isInt_shape (k:=i) (v:=v) h
  exact .inl ⟨i,t,rfl,e⟩
 | .inr x,v,h=>by
  obtain ⟨t,e⟩:=Value.isStrOf_shape (x:=x) (v:=v) h
  exact .inr ⟨x,t,rfl,e⟩
theorem pY (i) (t:Tok):gE (.inl i) (.int i t)=true:=by simp [gE,Value.isInt]
theorem pZ (x) (t:Tok):gE (.inr x) (.str x t)=true:=by simp [gE,Value.isStrOf]
theorem zg (a b):decide ((FY a:Key)=FY b)=(a == b):=by
 by_cases e:a=b
 ·subst e; simp
 ·have h:¬ (FY a:Key)=FY b:=λq=>e (FY.inj q)
  rw [decide_eq_false h]
  exact (beq_eq_false_iff_ne.mpr e).symm
theorem zh (a b):decide ((Hq a:Key)=Hq b)=decide (a=b):=by
 by_cases e:a=b
 ·subst e; simp
 ·have h:¬ (Hq a:Key)=Hq b:=λq=>e (Hq.inj q)
  rw [decide_eq_false h,decide_eq_false e]
theorem zj (a) (b):decide ((FY a:Key)=Hq b)=false:=decide_eq_false (λq=>nomatch q)
theorem zk (a) (b):decide ((Hq a:Key)=FY b)=false:=decide_eq_false (λq=>nomatch q)
noncomputable def bh (prog:Program) (w:World):PySem.KeyKind prog w Key where
 is:=gE
 hash:=DN w
 inj:=λv a b ha hb=>by
  rcases aN ha with ⟨i,t,rfl,rfl⟩ | ⟨x,t,rfl,rfl⟩
  ·rcases aN hb with ⟨j,u,rfl,e⟩ | ⟨y,u,rfl,e⟩
   ·injection e with e1 _; rw [e1]
   ·exact nomatch e
  ·rcases aN hb with ⟨j,u,rfl,e⟩ | ⟨y,u,rfl,e⟩
   ·exact nomatch e
   ·injection e with e1 _; rw [e1]
 byValue:=λk v h=>by
  rcases aN h with ⟨i,t,rfl,rfl⟩ | ⟨x,t,rfl,rfl⟩ <;> rfl
 pyHash:=λhv h=>by
  rcases aN hv with ⟨i,t,rfl,rfl⟩ | ⟨x,t,rfl,rfl⟩
  ·exact wpAny_pyHash_int h
  ·exact wpAny_pyHash_str h
 eqBool:=λhu hv h=>by
  rcases aN hu with ⟨i,t,rfl,rfl⟩ | ⟨x,t,rfl,rfl⟩
  ·rcases aN hv with ⟨j,u,rfl,rfl⟩ | ⟨y,u,rfl,rfl⟩
   ·rw [zg] at h; exact wpAny_eqBool_int h
   ·rw [zj] at h; exact FE.int_str i t y u _ _ _ _ h
  ·rcases aN hv with ⟨j,u,rfl,rfl⟩ | ⟨y,u,rfl,rfl⟩
   ·rw [zk] at h; exact FE.str_int x t j u _ _ _ _ h
   ·rw [zh] at h; exact wpAny_eqBool_str h
 «strs» :=λk x t v h=>by
  rcases aN h with ⟨i,u,rfl,e⟩ | ⟨y,u,rfl,e⟩
  ·exact nomatch e
  ·injection e with e1 _
   subst e1
   cases v <;> rfl
theorem kE (prog) (w) (i) (t:Tok):(bh prog w).is (.inl i) (.int i t)=true:=pY i t
theorem kF (prog) (w) (x) (t:Tok):(bh prog w).is (.inr x) (.str x t)=true:=pZ x t
inductive V where
 | non | bl (b:Bool) | int (i:Int) | str (x:Str) | byt (b:Array UInt8) | flt (b:UInt64) | ref (a:Addr) | ty (n:String)
 deriving DecidableEq
noncomputable def RelV:V->Value->Prop
 | .non,u=>u=Gx
 | .bl b,u=>u=Value.bool b
 | .int i,u=>∃ t,u=Hl i t
 | .str x,u=>∃ t,u=IT x t
 | .byt b,u=>∃ t,u=Value.bytes b t
 | .flt b,u=>∃ t,u=Value.float b t
 | .ref a,u=>u=FH a
 | .ty n,u=>u=Hi n
noncomputable abbrev Vals:List V->List Value->Prop:=Paired RelV
theorem Vals.length (r:Vals xs us):xs.length=us.length:=Hg r
theorem Vals.get:∀ {xs:List V} {us:List Value} {i:Nat} {x:V},Vals xs us->xs[i]?=some x->∃ u,us[i]?=some u/\RelV x u
 | _,_,_,_,.nil,e=>by simp at e
 | _,_,0,_,.cons r _,e=>by simp at e; subst e; exact ⟨_,rfl,r⟩
 | _,_,i+1,x,.cons _ t,e=>by
  obtain ⟨u,h1,h2⟩:=Vals.get (i:=i) (x:=x) t (by simpa using e)
  exact ⟨u,by simpa using h1,h2⟩
theorem Vals.set (r:RelV x u):∀ {xs:List V} {us:List Value} (i:Nat),Vals xs us->Vals (xs.set i x) (us.set i u)
 | _,_,_,.nil=>.nil
 | _,_,0,.cons _ t=>.cons r t
 | _,_,i+1,.cons q t=>.cons q (Vals.set r i t)
theorem Vals.append:∀ {xs ys:List V} {us ws:List Value},Vals xs us->Vals ys ws->Vals (xs++ys) (us++ws)
 | _,_,_,_,.nil,s=>s
 | _,_,_,_,.cons r t,s=>.cons r (Vals.append t s)
theorem Vals.take:∀ {xs:List V} {us:List Value} (n:Nat),Vals xs us->Vals (xs.take n) (us.take n)
 | _,_,0,_=>.nil
 | _,_,_+1,.nil=>.nil
 | _,_,n+1,.cons r t=>.cons r (Vals.take n t)
theorem Vals.drop:∀ {xs:List V} {us:List Value} (n:Nat),Vals xs us->Vals (xs.drop n) (us.drop n)
 | _,_,0,r=>r
 | _,_,_+1,.nil=>.nil
 | _,_,n+1,.cons _ t=>Vals.drop n t
noncomputable def gh:Option V->Option Value->Prop
 | some v,some u=>RelV v u
 | none,none=>True
 | _,_=>False
noncomputable def KV {κ:Type}:List (κ×V)->List (κ×Value)->Prop:=Paired λ(p:κ×V) (q:κ×Value)=>p.1=q.1/\RelV p.2 q.2
noncomputable def kV:Key->V
 | .inl i=>.int i
 | .inr x=>.str x
inductive HO where
 | lst (xs:List V)
 | tup (xs:List V)
 | dK (kvs:List (Key×V)) | dT (kvs:List (List Key×Addr×V))
 | set (S:Int->Bool) (n:Nat)
 | ins (C dx:Addr) (fs:List (Str×V))
 | own (x:Addr)
 | xd (fs:List (Str×V))
 | met (f x:Addr)
 | rng (lo hi:Int)
 | frz (o:Obj) (u:HO)
 | tbl (ps:Array Value)
 | ext (φ :Heap->Prop)
noncomputable abbrev Hp:=Addr->Option HO
noncomputable def upd (H:Hp) (a:Addr) (o:HO):Hp:=λb=>if b=a then some o else H b
theorem ah:upd H a o a=some o:=by unfold upd; rw [if_pos rfl]
theorem af (h:b≠a):upd H a o b=H b:=by unfold upd; rw [if_neg h]
theorem aq {H:Hp} (h:H a=some o) (h':H b=none):a≠b:=by
 intro e; subst e; rw [h] at h'; cases h'
section
variable (P:Program) (w:World)
noncomputable def aO (H:Hp) (h:Heap) (a:Addr):HO->Prop
 | .lst xs=>xs.length<=sizeLine/\∃ (its:List Value) (n:Nat),Vals xs its/\h.get? a=some { cls:=.type "list",data:=.seq its.toArray n }
 | .tup xs=>xs.length<=sizeLine/\∃ its:List Value,Vals xs its/\IsTup h a its.toArray
 | .dK kvs=>kvs.length<=sizeLine/\(a == sysModules)=false/\∃ vs,KV kvs vs/\h.DictOf (bh P w) a vs
 | .dT kvs=>kvs.length<=sizeLine/\(a == sysModules)=false/\∃ xs:List (List Key×Addr×Value),
  Paired (λ(p:List Key×Addr×V) (q:List Key×Addr×Value)=>p.1=q.1/\p.2.1=q.2.1/\RelV p.2.2 q.2.2) kvs xs /\
  ∃ o es ep,h.get? a=some o/\o.ExactDict/\o.data=.dict es ep/\es.toList=xs.map (entryOfKey (tupleKind (bh P w)))/\(xs.map (·.1)).Nodup
 | .set S n=>h.SetOf (intKind P w) a S n
 | .ins C dx fs=>H dx=some (.own a)/\fs.length<=1000/\dx≠a/\h.get? a=some (PySem.W.instObj C dx) /\
  ∃ mA,h.Ns1 dx mA/\(∀ f,gh (fs.lookup f) (mA f))/\PySem.Within mA (fs.map (·.1))
 | .own _=>∃ o,h.get? a=some o
 | .xd fs=>∃ mA,h.Ns1 a mA/\∀ f,gh (fs.lookup f) (mA f)
 | .rng lo hi=>∃ t u v,h.get? a=some { cls:=.type "range",data:=.fields #[.int lo t,.int hi u,.int 1 v] }
 | .frz o u=>h.get? a=some o/\aO H h a u
 | .tbl ps=>h.get? a=some { cls:=.none,data:=.fields ps }
 | .met f x=>h.get? a=some (J6 (.ref f) (.ref x))
 | .ext φ => φ h/\(∃ o,h.get? a=some o)/\∀ h1 h2:Heap,φ h1->(∀ o,h1.get? a=some o->h2.get? a=some o)-> φ h2
def fC (H:Hp) (h:Heap):Prop:=∀ a o,H a=some o->aO P w H h a o
end
theorem aO.lt (x:aO P w H h a o):a<h.objs.size:=by
 cases o with
 | lst xs=>obtain ⟨_,_,_,_,e⟩:=x; exact Fw e
 | tup xs=>obtain ⟨_,_,_,p⟩:=x; exact p.lt
 | dK kvs=>obtain ⟨_,_,_,_,o,_,_,e,_⟩:=x; exact Fw e
 | dT kvs=>obtain ⟨_,_,_,_,o,_,_,e,_⟩:=x; exact Fw e
 | set S n=>obtain ⟨o,_,_,_,e,_⟩:=x; exact Fw e
 | ins C dx fs=>obtain ⟨_,_,_,e,_⟩:=x; exact Fw e
 | own y=>obtain ⟨_,e⟩:=x; exact Fw e
 | xd fs=>obtain ⟨_,⟨_,_,_,e,_⟩,_⟩:=x; exact Fw e
 | rng lo hi=>obtain ⟨_,_,_,e⟩:=x; exact Fw e
 | frz ob u=>obtain ⟨e,_⟩:=x; exact Fw e
 | tbl ps=>exact Fw (show h.get? a=some _ from x)
 | met f y=>exact Fw (show h.get? a=some _ from x)
 | ext φ =>obtain ⟨_,⟨_,e⟩,_⟩:=x; exact Fw e
theorem Paired.zl:∀ {l₁:List α} {l₂:List β},Paired F l₁ l₂->(∀ a b,F a b->G a b)->Paired G l₁ l₂
 | _,_,.nil,_=>.nil
 | _,_,.cons r t,f=>.cons (f _ _ r) (Paired.zl t f)
theorem aO.stay (x:aO P w H h a o) (k:∀ b u,(b=a\/H b=some (.own a))->h.get? b=some u->h'.get? b=some u)
 (ho:∀ b,H b=some (.own a)->H' b=some (.own a)) (ht:∀ b xs,H b=some (.tup xs)->H' b=some (.tup xs)):aO P w H' h' a o:=by
 induction o with
 | lst xs=>obtain ⟨z,its,n,r,e⟩:=x; exact ⟨z,its,n,r,k _ _ (.inl rfl) e⟩
 | tup xs=>obtain ⟨z,its,r,ob,e,c⟩:=x; exact ⟨z,its,r,ob,k _ _ (.inl rfl) e,c⟩
 | dK kvs=>obtain ⟨z,y,vs,r,ob,es,ep,e,c⟩:=x; exact ⟨z,y,vs,r,ob,es,ep,k _ _ (.inl rfl) e,c⟩
 | dT kvs =>
  obtain ⟨z,y,xs,r,ob,es,ep,e,c⟩:=x
  exact ⟨z,y,xs,r,ob,es,ep,k _ _ (.inl rfl) e,c⟩
 | set S n=>obtain ⟨ob,es,ep,t,e,c⟩:=x; exact ⟨ob,es,ep,t,k _ _ (.inl rfl) e,c⟩
 | ins C dx fs =>
  obtain ⟨d,z,ne,e,mA,⟨od,es,ep,e2,c⟩,r⟩:=x
  exact ⟨ho _ d,z,ne,k _ _ (.inl rfl) e,mA,⟨od,es,ep,k _ _ (.inr d) e2,c⟩,r⟩
 | own y=>obtain ⟨ob,e⟩:=x; exact ⟨ob,k _ _ (.inl rfl) e⟩
 | xd fs=>obtain ⟨mA,⟨od,es,ep,e,c⟩,r⟩:=x; exact ⟨mA,⟨od,es,ep,k _ _ (.inl rfl) e,c⟩,r⟩
 | rng lo hi=>obtain ⟨t,u,v,e⟩:=x; exact ⟨t,u,v,k _ _ (.inl rfl) e⟩
 | frz ob u ih=>obtain ⟨e,q⟩:=x; exact ⟨k _ _ (.inl rfl) e,ih q⟩
 | tbl ps =>
  have e:h.get? a=some { cls:=.none,data:=.fields ps }:=x
  show h'.get? a=some { cls:=.none,data:=.fields ps }
  exact k a _ (.inl rfl) e
 | met f y =>
  have e:h.get? a=some (J6 (.ref f) (.ref y)):=x
  show h'.get? a=some (J6 (.ref f) (.ref y))
  exact k a _ (.inl rfl) e
 | ext φ =>obtain ⟨p,⟨o,e⟩,st⟩:=x; exact ⟨st _ _ p λo q=>k _ _ (.inl rfl) q,⟨o,k _ _ (.inl rfl) e⟩,st⟩
theorem fC.lt (x:fC P w H h) (e:H a=some o):a<h.objs.size:=(x a o e).lt
theorem fC.fresh (x:fC P w H h) (e:h.objs.size<=a):H a=none:=by
 cases q:H a with
 | none=>rfl
 | some u=>exact absurd (F9 (x.lt q) e) (GL _)
theorem fC.kept (x:fC P w H h) (k:∀ b u,h.get? b=some u->h'.get? b=some u):fC P w H h':=λa o e =>
 (x a o e).stay (λb u _ q=>k b u q) (λ_ q=>q) λ_ _ q=>q
theorem fC.laid (x:fC P w H h) (k:∀ b u,h.get? b=some u->h'.get? b=some u) (hp:h.objs.size<=a) (new:aO P w (upd H a o) h' a o):fC P w (upd H a o) h':=λb u e=>by
 have hn:=x.fresh hp
 by_cases hb:b=a
 ·subst hb; rw [ah] at e; cases e; exact new
 ·rw [af hb] at e
  exact (x b u e).stay (λc v _ q=>k c v q) (λc q=>by rw [af (aq q hn)]; exact q) λc xs q=>by rw [af (aq q hn)]; exact q
def Rd (H:Hp) (a:Addr) (u:HO):Prop:=H a=some u\/∃ o,H a=some (.frz o u)
theorem Rd.ok (r:Rd H a u) (x:fC P w H h):aO P w H h a u:=by
 rcases r with r | ⟨o,r⟩
 ·exact x a u r
 ·obtain ⟨_,q⟩:=x a _ r
  exact q
noncomputable def BW:Option HO->Prop
 | some (.lst _)=>True
 | some (.dK _)=>True
 | some (.dT _)=>True
 | some (.set _ _)=>True
 | some (.ins _ _ _)=>True
 | some (.ext _)=>True
 | _=>False
theorem fC.write (ok:fC P w H h) (mu:BW (H x)) (he:e=x\/H e=some (.own x)) (k:∀ b u,b≠e->h.get? b=some u->h'.get? b=some u) (heo:∃ u,h'.get? e=some u)
 (new:aO P w (upd H x o') h' x o'):fC P w (upd H x o') h':=λb u q=>by
 have nown:∀ c y,H c=some (.own y)->c≠x:=λc y r z=>by subst z; rw [r] at mu; exact mu
 have ntup:∀ c xs,H c=some (.tup xs)->c≠x:=λc xs r z=>by subst z; rw [r] at mu; exact mu
 by_cases hb:b=x
 ·subst hb; rw [ah] at q; cases q; exact new
 ·rw [af hb] at q
  by_cases hbe:b=e
  ·have q':H b=some (.own x):=by
    rcases he with z | z
    ·exact absurd (hbe.trans z) hb
    ·rw [hbe]; exact z
   rw [q] at q'; cases q'
   obtain ⟨v,hv⟩:=heo
   exact ⟨v,by rw [hbe]; exact hv⟩
  ·refine (ok b u q).stay (λc v hc r=>k c v ?_ r) (λc r=>by rw [af (nown c b r)]; exact r) λc xs r=>by rw [af (ntup c xs r)]; exact r
   rcases hc with rfl | hc
   ·exact hbe
   ·rintro rfl
    rcases he with z | z
    ·exact nown c b hc z
    ·rw [hc] at z; cases z; exact hb rfl
structure Un (fs ex:List Addr) (H H':Hp) (h h':Heap):Prop where
 keep:∀ b o,h.get? b=some o->H b=none->b∉fs->b∉ex->h'.get? b=some o
 slot:∀ b o,h.get? b=some o->H b=none->b∈fs->b∉ex->∃ sl,h'.get? b=some { o with slots:=sl }
 free:∀ b o,h.get? b=some o->H b=none->b∉ex->H' b=none
 there:∀ b o,h.get? b=some o->b∉ex->∃ o',h'.get? b=some o'
 tups:∀ b xs,H b=some (.tup xs)->H' b=some (.tup xs)
 frzs:∀ b o u,H b=some (.frz o u)->H' b=some (.frz o u)
 tbls:∀ b ps,H b=some (.tbl ps)->∃ more,H' b=some (.tbl (ps++more))
section
variable {fs fs' ex ex':List Addr} {H H1 H2:Hp} {h h1 h2 h':Heap} {a x e:Addr} {o:HO}
theorem Un.any (u:Un fs ex H H1 h h1) (q:h.get? b=some ob) (n:H b=none) (hx:b∉ex):∃ sl,h1.get? b=some { ob with slots:=sl }:=by
 by_cases hb:b∈fs
 ·exact u.slot b ob q n hb hx
 ·exact ⟨ob.slots,u.keep b ob q n hb hx⟩
theorem Un.kept (k:∀ b u,h.get? b=some u->h'.get? b=some u):Un fs ex H H h h' :=
 ⟨λb ob q _ _ _=>k b ob q,λb ob q _ _ _=>⟨ob.slots,k b ob q⟩,λ_ _ _ n _=>n,λb ob q _=>⟨ob,k b ob q⟩,λ_ _ q=>q,λ_ _ _ q=>q,λ_ ps q=>⟨#[],by rw [q]; simp⟩⟩
theorem Un.refl:Un fs ex H H h h:=Un.kept λ_ _ q=>q
theorem Un.laid (k:∀ b u,h.get? b=some u->h'.get? b=some u) (hp:h.objs.size<=a) (hn:H a=none):Un fs ex H (upd H a o) h h' where
 keep:=λb u q _ _ _=>k b u q
 slot:=λb u q _ _ _=>⟨u.slots,k b u q⟩
 free:=λb u q n _=>by rw [af (F0 (F9 (Fw q) hp))]; exact n
 there:=λb u q _=>⟨u,k b u q⟩
 tups:=λb xs q=>by rw [af (aq q hn)]; exact q
 frzs:=λb u xs q=>by rw [af (aq q hn)]; exact q
 tbls:=λb ps q=>⟨#[],by rw [af (aq q hn),q]; simp⟩
theorem Un.write (mu:BW (H x)) (he:e=x\/H e=some (.own x)) (k:∀ b u,b≠e->h.get? b=some u->h'.get? b=some u) (heo:∃ u,h'.get? e=some u):Un fs ex H (upd H x o) h h':=by
 have hx:∀ b,H b=none->b≠x:=λb n z=>by subst z; rw [n] at mu; exact mu
 have hb:∀ b,H b=none->b≠e:=λb n z=>by
  subst z
  rcases he with r | r
  ·exact hx b n r
  ·rw [n] at r; cases r
 have hm:∀ b u,H b=some u->¬ BW (some u)->b≠x:=λb u q nm z=>by subst z; rw [q] at mu; exact nm mu
 refine ⟨λb u q n _ _=>k b u (hb b n) q,λb u q n _ _=>⟨u.slots,k b u (hb b n) q⟩,λb u q n _=>by rw [af (hx b n)]; exact n,λb u q _=>?_,
  λb xs q=>by rw [af (hm b _ q λz=>z)]; exact q,λb u xs q=>by rw [af (hm b _ q λz=>z)]; exact q,λb ps q=>⟨#[],by rw [af (hm b _ q λz=>z),q]; simp⟩⟩
 by_cases hbe:b=e
 ·subst hbe; exact heo
 ·exact ⟨u,k b u hbe q⟩
end
noncomputable def DF (h:Heap) (H:Hp):List Addr:=(Gf h.objs.size).filter λa=>(H a).isSome
noncomputable def jF (h:Heap) (H:Hp):Heap:=PySem.W.hideAll h (DF h H)
theorem p5 (h) (H):(jF h H).objs.size=h.objs.size:=PySem.W.hideAll_size _ _
theorem rG (e:h.get? b=some o) (n:H b=none):(jF h H).get? b=some o :=
 PySem.W.hideAll_get _ e λhm=>by
  have q:(H b).isSome=true:=(List.mem_filter.mp hm).2
  rw [n] at q; simp at q
theorem vR (e:(jF h H).get? b=some o):h.get? b=some o/\H b=none:=by
 have e':h.get? b=some o:=PySem.W.of_hideAll (DF h H) e
 refine ⟨e',?_⟩
 cases q:H b with
 | none=>rfl
 | some x =>
  have hm:b∈DF h H:=List.mem_filter.mpr ⟨List.mem_range.mpr (Fw e'),by simp [q]⟩
  have z:(jF h H).get? b=none:=PySem.W.hideAll_none (DF h H) hm
  rw [z] at e; cases e
structure Mod (K:Fi) (mg:Str->Option Value) (base:Heap):Prop where
 kin:K.In base
 glob:base.Ns mainGlobals mg
 blt:∃ mb,base.Ns builtinsNs mb/\∀ x:Str,x≠"__name__"->mb x=bootBuiltins x
 nolimit:base.NoLimit
structure Cx where
 prog:Program
 w:World
 K:Fi
 mg:Str->Option Value
 base:Heap
 A:Around
 N:List Str
 s₀:Shared
 H₀:Hp
 env:Env
 outer:List Env
 stack:List Env
 ex:List Addr
 fn:Str->Bool
 calm:Bool
 pn:List (Addr×Obj)
 xe:Value->Shared->Prop
noncomputable def frs (l:List Env):List Addr:=l.filterMap (·.frame)
noncomputable abbrev Cx.fs (X:Cx):List Addr:=frs X.outer
def EN (sc:Scope) (x:Str):Prop:=sc.names.lookup x=some .local\/sc.names.lookup x=some .cell\/sc.names.lookup x=some .free
def Loc (sc:Scope) (x:Str):Prop:=sc.names.lookup x=some .local\/sc.names.lookup x=some .cell
def Look (env:Env) (h:Heap) (m:Str->Option Value) (x:Str) (u:Value):Prop :=
 (env.kindOf x=some .local/\m x=some u)\/((env.kindOf x=some .cell\/env.kindOf x=some .free)/\∃ c,env.cells.lookup x=some c/\h.IsCell c (some u))
structure Cx.Ok (X:Cx):Prop where
 mod:Mod X.K X.mg X.base
 kind:X.env.scope.kind=.function
 glob:X.env.globals=mainGlobals
 blt:X.env.builtins=builtinsNs
 above:X.s₀.heap.objs.size<=X.env.locals
 inj:∀ x y c,X.env.cells.lookup x=some c->X.env.cells.lookup y=some c->x=y
 has:∀ x,(X.env.kindOf x=some .cell\/X.env.kindOf x=some .free)->∃ c,X.env.cells.lookup x=some c
 cab:∀ x c,X.fn x=true->X.env.cells.lookup x=some c->X.s₀.heap.objs.size<=c
 hd:X.calm=true->X.A.handled=none
 frames:X.A.frames=some X.stack
 stk:X.stack=X.outer\/(X.stack=X.env::X.outer/\X.env.frame=some X.env.locals)
 exf:∀ b∈X.ex,b≠X.env.locals/\∀ x c,X.env.cells.lookup x=some c->c≠b
 bs:∀ b o,X.base.get? b=some o->X.s₀.heap.get? b=some o/\X.H₀ b=none
 bsz:X.base.objs.size<=X.s₀.heap.objs.size
 noex:∀ b o,X.base.get? b=some o->b∉X.ex
 exfs:∀ b∈X.ex,b∉X.fs
 gi:X.s₀.heap.FunFrames X.base X.outer
 frf:∀ b∈X.fs,X.H₀ b=none
structure Inv (X:Cx) (aa:List (Addr×Obj)) (O:List (Option V)) (H:Hp) (s:Shared):Prop where
 ok:X.Ok
 os:s.os=X.s₀.os
 bare:AllBare s.gens
 base:Un X.fs X.ex X.H₀ H X.s₀.heap s.heap
 loc:∃ m,s.heap.Ns X.env.locals m/\∀ (i:Nat) (x:Str) (v:V),X.N[i]?=some x->O[i]?=some (some v)->EN X.env.scope x->∃ u,RelV v u/\Look X.env s.heap m x u
 cell:∀ x c,X.env.cells.lookup x=some c->∃ v,s.heap.IsCell c v
 free:H X.env.locals=none
 freeC:∀ x c,X.env.cells.lookup x=some c->H c=none
 pin:∀ p∈X.pn++aa,s.heap.get? p.1=some p.2/\H p.1=none/\p.1≠X.env.locals/\p.1∉X.fs/\∀ v,p.2.data≠.cell v
 hok:fC X.prog X.w H s.heap
 len:O.length=X.N.length
section
variable {X:Cx}
theorem Cx.Ok.DO (ok:X.Ok) (e:X.base.get? b=some o):b∉X.fs:=λhb=>by
 have:=(ok.gi.mem hb).1
 rw [e] at this; cases this
theorem Inv.bs (I:Inv X aa O H s):∀ b o,X.base.get? b=some o->s.heap.get? b=some o/\H b=none:=λb o e =>
 ⟨I.base.keep b o (I.ok.bs b o e).1 (I.ok.bs b o e).2 (I.ok.DO e) (I.ok.noex b o e),I.base.free b o (I.ok.bs b o e).1 (I.ok.bs b o e).2 (I.ok.noex b o e)⟩
theorem Inv.bk (I:Inv X aa O H s):∀ b o,X.base.get? b=some o->s.heap.get? b=some o:=λb o e=>(I.bs b o e).1
theorem Inv.mod (I:Inv X aa O H s):Mod X.K X.mg X.base:=I.ok.mod
theorem Inv.p6 (I:Inv X aa O H s):X.K.In s.heap:=I.ok.mod.kin.keeps I.bk
theorem Inv.nolimit (I:Inv X aa O H s):s.heap.NoLimit:=I.ok.mod.nolimit.keeps I.bk
theorem Inv.lt (I:Inv X aa O H s):X.env.locals<s.heap.objs.size:=let ⟨_,hn,_⟩:=I.loc; hn.lt
theorem Inv.sz (I:Inv X aa O H s):X.s₀.heap.objs.size<=s.heap.objs.size:=Fy I.ok.above (GN I.lt)
theorem Inv.BX (I:Inv X aa O H s) (h:s.heap.objs.size<=a):a∉X.fs:=λhb=>by
 obtain ⟨_,o,ho,_⟩:=I.ok.gi.mem hb
 exact absurd (F9 (Fw ho) (Fy I.sz h)) (GL _)
theorem Inv.zm (I:Inv X aa O H s):∀ x c,X.env.cells.lookup x=some c->c≠X.env.locals:=λx c e z=>by
 obtain ⟨v,o,ho,hd⟩:=I.cell x c e
 obtain ⟨m,⟨o',es,ep,ho',hd',_⟩,_⟩:=I.loc
 rw [z,ho'] at ho; cases ho; rw [hd'] at hd; cases hd
theorem Inv.gi (I:Inv X aa O H s):s.heap.FunFrames X.base X.outer:=by
 have all:∀ (l:List Env),(∀ b∈frs l,b∈X.fs)->X.s₀.heap.FunFrames X.base l->s.heap.FunFrames X.base l:=by
  intro l
  induction l with
  | nil=>intro _ _; trivial
  | cons env r ih =>
   intro hs hl
   obtain ⟨hk,⟨L,o,hf,hn,ho,hd⟩,hr⟩:=hl
   have hL:L∈X.fs:=hs L (by unfold frs; rw [HY,hf]; exact FF)
   obtain ⟨sl,e⟩:=I.base.slot L o ho (I.ok.frf L hL) hL λz=>I.ok.exfs L z hL
   exact ⟨hk,⟨L,_,hf,hn,e,hd⟩,ih (λb hb=>hs b (by unfold frs; rw [HY,hf]; exact FL _ hb)) hr⟩
 exact all X.outer (λ_ hb=>hb) I.ok.gi
theorem Inv.stack (I:Inv X aa O H s):s.heap.FunFrames X.base X.stack:=by
 rcases I.ok.stk with e | ⟨e,hf⟩
 ·rw [e]; exact I.gi
 ·rw [e]
  obtain ⟨m,hn,_⟩:=I.loc
  refine .cons (by rw [I.ok.kind]; decide) hf hn ?_ I.gi
  exact Heap.get?_none_of_le (Fy I.ok.bsz I.ok.above)
theorem Inv.mD (I:Inv X aa O H s):∀ b∈frs X.stack,b∈X.env.locals::X.fs:=λb hb=>by
 rcases I.ok.stk with e | ⟨e,hf⟩
 ·rw [e] at hb; exact FL _ hb
 ·rw [e] at hb
  unfold frs at hb
  rw [HY,hf] at hb
  exact hb
theorem Inv.nL (I:Inv X aa O H s):∀ b∈frs X.stack,H b=none:=λb hb=>by
 rcases FO.mp (I.mD b hb) with e | hb
 ·rw [e]; exact I.free
 ·obtain ⟨_,o,ho,_⟩:=I.ok.gi.mem hb
  exact I.base.free b o ho (I.ok.frf b hb) λz=>I.ok.exfs b z hb
theorem Inv.step {ch:List Addr} (I:Inv X aa O H s)
 (hch:∀ b∈ch,(b∈X.ex\/X.s₀.heap.objs.size<=b)/\b≠X.env.locals/\(∀ x c,X.env.cells.lookup x=some c->c≠b)/\∀ p∈X.pn++aa,p.1≠b)
 (keep:∀ b o,b≠X.env.locals->b∉X.fs->b∉ch->s.heap.get? b=some o->H b=none->h'.get? b=some o)
 (slot:∀ b o,b≠X.env.locals->b∈X.fs->b∉ch->s.heap.get? b=some o->H b=none->∃ sl,h'.get? b=some { o with slots:=sl }) (free:∀ b o,b∉ch->s.heap.get? b=some o->H b=none->H' b=none)
 (there:∀ b o,b∉ch->s.heap.get? b=some o->∃ o',h'.get? b=some o')
 (tups:∀ b xs,H b=some (.tup xs)->H' b=some (.tup xs)) (frzs:∀ b o u,H b=some (.frz o u)->H' b=some (.frz o u)) (tbls:∀ b ps,H b=some (.tbl ps)->∃ more,H' b=some (.tbl (ps++more)))
 (ns:∀ m,s.heap.Ns X.env.locals m->h'.Ns X.env.locals m) (hok:fC X.prog X.w H' h') (hg:AllBare g') :
 Inv X aa O H' { s with heap:=h',gens:=g',drawn:=d',toks:=t' }:=by
 have neL:∀ b o,X.s₀.heap.get? b=some o->b≠X.env.locals:=λb o e=>F0 (F9 (Fw e) I.ok.above)
 have neC:∀ b o,X.s₀.heap.get? b=some o->b∉X.ex->b∉ch:=λb o e hx hb=>by
  rcases (hch b hb).1 with z | z
  ·exact hx z
  ·exact absurd (F9 (Fw e) z) (GL _)
 have cellK:∀ x c,X.env.cells.lookup x=some c->∀ v,s.heap.IsCell c v->h'.IsCell c v:=λx c e v ⟨o,ho,hd⟩=>by
  have nch:c∉ch:=λz=>(hch c z).2.2.1 x c e rfl
  by_cases hc:c∈X.fs
  ·obtain ⟨sl,q⟩:=slot c o (I.zm x c e) hc nch ho (I.freeC x c e)
   exact ⟨_,q,hd⟩
  ·exact ⟨o,keep c o (I.zm x c e) hc nch ho (I.freeC x c e),hd⟩
 refine ⟨I.ok,I.os,hg,⟨λb o e n hb hx=>?_,λb o e n hb hx=>?_,λb o e n hx=>?_,λb o e hx=>?_,λb xs e=>tups b xs (I.base.tups b xs e),λb o xs e=>frzs b o xs (I.base.frzs b o xs e),λb ps e=>?_⟩,?_,λx c e=>?_,?_,λx c e=>?_,λp hp=>?_,hok,I.len⟩
 ·exact keep b o (neL b o e) hb (neC b o e hx) (I.base.keep b o e n hb hx) (I.base.free b o e n hx)
 ·obtain ⟨sl,e1⟩:=I.base.slot b o e n hb hx
  obtain ⟨sl',e2⟩:=slot b _ (neL b o e) hb (neC b o e hx) e1 (I.base.free b o e n hx)
  exact ⟨sl',e2⟩
 ·obtain ⟨o',e1⟩:=I.base.there b o e hx
  exact free b o' (neC b o e hx) e1 (I.base.free b o e n hx)
 ·obtain ⟨o',e1⟩:=I.base.there b o e hx
  exact there b o' (neC b o e hx) e1
 ·obtain ⟨m1,e1⟩:=I.base.tbls b ps e
  obtain ⟨m2,e2⟩:=tbls b _ e1
  exact ⟨m1++m2,by rw [e2,Array.append_assoc]⟩
 ·obtain ⟨m,hn,hl⟩:=I.loc
  refine ⟨m,ns m hn,λi x v e1 e2 e3=>?_⟩
  obtain ⟨u,r,l⟩:=hl i x v e1 e2 e3
  refine ⟨u,r,?_⟩
  rcases l with l | ⟨k,c,e,z⟩
  ·exact .inl l
  ·exact .inr ⟨k,c,e,cellK x c e _ z⟩
 ·obtain ⟨v,z⟩:=I.cell x c e
  exact ⟨v,cellK x c e v z⟩
 ·obtain ⟨m,⟨o,_,_,ho,_⟩,_⟩:=I.loc
  exact free _ o (λz=>(hch _ z).2.1 rfl) ho I.free
 ·obtain ⟨v,o,ho,hd⟩:=I.cell x c e
  exact free c o (λz=>(hch c z).2.2.1 x c e rfl) ho (I.freeC x c e)
 ·obtain ⟨e,n,ne,nf,d⟩:=I.pin p hp
  have nch:p.1∉ch:=λz=>(hch p.1 z).2.2.2 p hp rfl
  exact ⟨keep p.1 p.2 ne nf nch e n,free p.1 p.2 nch e n,ne,nf,d⟩
theorem Inv.un (I:Inv X aa O H s) (u:Un X.fs [] H H' s.heap h') (hok:fC X.prog X.w H' h'):Inv X aa O H' { s with heap:=h',toks:=t' }:=by
 obtain ⟨m,⟨o,es,ep,ho,r⟩,_⟩:=id I.loc
 obtain ⟨sl,hL⟩:=u.any ho I.free (by simp)
 exact I.step (g':=s.gens) (d':=s.drawn) (ch:=[]) (λ_ z=>nomatch z) (λb o _ hb _ e n=>u.keep b o e n hb (by simp)) (λb o _ hb _ e n=>u.slot b o e n hb (by simp)) (λb o _ e n=>u.free b o e n (by simp)) (λb o _ e=>u.there b o e (by simp)) u.tups u.frzs u.tbls (λm' hm=>by
  obtain ⟨o',es',ep',ho',r'⟩:=hm
  rw [ho] at ho'; cases ho'
  exact ⟨_,es',ep',hL,r'⟩) hok I.bare
theorem Inv.call (I:Inv X aa O H s) (u:Un (frs X.stack) ch H H' s.heap h') (hok:fC X.prog X.w H' h') (hg:AllBare g')
 (hch:∀ b∈ch,(b∈X.ex\/X.s₀.heap.objs.size<=b)/\b≠X.env.locals/\(∀ x c,X.env.cells.lookup x=some c->c≠b)/\∀ p∈X.pn++aa,p.1≠b) :
 Inv X aa O H' { s with heap:=h',gens:=g',drawn:=d',toks:=t' }:=by
 obtain ⟨m,⟨o,es,ep,ho,r⟩,_⟩:=id I.loc
 obtain ⟨sl,hL⟩:=u.any ho I.free λz=>(hch _ z).2.1 rfl
 exact I.step (ch:=ch) hch (λb o hL hb hc e n=>u.keep b o e n (λz=>(FO.mp (I.mD b z)).elim hL hb) hc) (λb o _ _ hc e n=>u.any e n hc) (λb o hc e n=>u.free b o e n hc) (λb o hc e=>u.there b o e hc) u.tups u.frzs u.tbls (λm' hm=>by
  obtain ⟨o',es',ep',ho',r'⟩:=hm
  rw [ho] at ho'; cases ho'
  exact ⟨_,es',ep',hL,r'⟩) hok hg
theorem Inv.turned (I:Inv X aa O H s) (k:∀ b o,b≠it->s.heap.get? b=some o->h'.get? b=some o) (hn:H it=none) (hL:it≠X.env.locals)
 (h1:it∈X.ex\/X.s₀.heap.objs.size<=it) (h2:∀ x c,X.env.cells.lookup x=some c->c≠it) (h3:∀ p∈X.pn++aa,p.1≠it):Inv X aa O H { s with heap:=h',toks:=t' }:=by
 have nit:∀ b u,H b=some u->b≠it:=λb u e z=>by rw [z,hn] at e; cases e
 refine I.step (g':=s.gens) (d':=s.drawn) (ch:=[it]) (λb hb=>?_) (λb o _ _ hc e _=>k b o (λz=>hc (by simp [z])) e) (λb o _ _ hc e _=>⟨o.slots,k b o (λz=>hc (by simp [z])) e⟩) (λ_ _ _ _ n=>n)
  (λb o hc e=>⟨o,k b o (λz=>hc (by simp [z])) e⟩) (λ_ _ e=>e) (λ_ _ _ e=>e) (λb ps e=>⟨#[],by rw [e]; simp⟩) (λm hm=>?_) (λb u e=>?_) I.bare
 ·have e:b=it:=by simpa using hb
  subst e
  exact ⟨h1,hL,h2,h3⟩
 ·obtain ⟨o,es,ep,ho,r⟩:=hm
  exact ⟨o,es,ep,k _ o (FI hL) ho,r⟩
 ·refine (I.hok b u e).stay (λc v hc q=>k c v ?_ q) (λ_ q=>q) λ_ _ q=>q
  rcases hc with z | z
  ·rw [z]; exact nit b u e
  ·exact nit c _ z
theorem Inv.tok (I:Inv X aa O H s) (t):Inv X aa O H { s with toks:=t }:=I.un (h':=s.heap) (t':=t) Un.refl I.hok
theorem Inv.kept (I:Inv X aa O H s) (k:∀ b u,s.heap.get? b=some u->h'.get? b=some u):Inv X aa O H { s with heap:=h',toks:=t' }:=I.un (Un.kept k) (I.hok.kept k)
theorem Inv.laid (I:Inv X aa O H s) (k:∀ b u,s.heap.get? b=some u->h'.get? b=some u) (hp:s.heap.objs.size<=a) (new:aO X.prog X.w (upd H a o) h' a o) :
 Inv X aa O (upd H a o) { s with heap:=h',toks:=t' }:=I.un (Un.laid k hp (I.hok.fresh hp)) (I.hok.laid k hp new)
theorem Inv.write (I:Inv X aa O H s) (mu:BW (H x)) (he:e=x\/H e=some (.own x)) (k:∀ b u,b≠e->s.heap.get? b=some u->h'.get? b=some u) (heo:∃ u,h'.get? e=some u)
 (new:aO X.prog X.w (upd H x o) h' x o):Inv X aa O (upd H x o) { s with heap:=h',toks:=t' }:=I.un (Un.write mu he k heo) (I.hok.write mu he k heo new)
theorem Inv.nM (I:Inv X aa O H s) (h:∀ p∈pins',s.heap.get? p.1=some p.2/\H p.1=none/\p.1≠X.env.locals/\p.1∉X.fs/\∀ v,p.2.data≠.cell v):Inv X pins' O H s :=
 ⟨I.ok,I.os,I.bare,I.base,I.loc,I.cell,I.free,I.freeC,λp hp=>(Gd.mp hp).elim (λz=>I.pin p (Je _ z)) (h p),I.hok,I.len⟩
theorem kG {N:List Str} (hN:N.Nodup) {i j:Nat} (a:N[i]?=some x) (b:N[j]?=some x):i=j:=by
 obtain ⟨h1,e1⟩:=FA.mp a
 obtain ⟨h2,e2⟩:=FA.mp b
 exact (List.getElem_inj hN).mp (e1.trans e2.symm)
theorem p7 (I:Inv X aa O H s) (hN:X.N.Nodup) (hi:X.N[i]?=some x) (hx:Loc X.env.scope x) (r:RelV v u)
 (h:∀ s',Inv X aa (O.set i (some v)) H s'->(∃ a,GU a s.heap s'.heap/\(a=X.env.locals\/X.env.cells.lookup x=some a))->Q () s') (hf:X.fn x=true\/X.env.scope.names.lookup x=some .local:=by first | exact .inl rfl | exact .inr rfl | assumption):wpAny M A (storeName X.env x u) Q E s:=by
 obtain ⟨m,hn,hl⟩:=id I.loc
 have hcls:(X.env.scope.kind == .class || (X.env.scope.kind == .module && X.env.locals != X.env.globals))=false:=by rw [I.ok.kind]; rfl
 have hiO:i<O.length:=by rw [I.len]; exact (FA.mp hi).1
 have zm:=I.zm
 have tracked:∀ {a:Addr} {h':Heap},(∃ o,s.heap.get? a=some o/\H a=none)->GU a s.heap h'->fC X.prog X.w H h':=λ{a h'} ha hs b ob e=>by
  obtain ⟨_,_,hfree⟩:=ha
  refine (I.hok b ob e).stay (λc w' hc q=>(hs.2 c ?_).trans q) (λ_ q=>q) λ_ _ q=>q
  rintro rfl
  rcases hc with rfl | hc
  ·rw [hfree] at e; cases e
  ·rw [hfree] at hc; cases hc
 rcases hx with hk | hk
 ·refine wpAny_storeName_local hk hn (λh' hn' hs=>?_) hcls
  obtain ⟨oL,_,_,hoL,_⟩:=id hn
  refine h _ ⟨I.ok,I.os,I.bare,⟨λb o e n hb hx=>?_,λb o e n hb hx=>?_,I.base.free,λb o e hx=>?_,I.base.tups,I.base.frzs,I.base.tbls⟩,⟨_,hn',λj y v' e1 e2 e3=>?_⟩,λy c e=>?_,I.free,I.freeC,λp hp=>?_,tracked ⟨oL,hoL,I.free⟩ hs,by simpa using I.len⟩ ⟨_,hs,.inl rfl⟩
  ·exact (hs.2 b (F0 (F9 (Fw e) I.ok.above))).trans (I.base.keep b o e n hb hx)
  ·obtain ⟨sl,e1⟩:=I.base.slot b o e n hb hx
   exact ⟨sl,(hs.2 b (F0 (F9 (Fw e) I.ok.above))).trans e1⟩
  ·obtain ⟨o',e1⟩:=I.base.there b o e hx
   exact ⟨o',(hs.2 b (F0 (F9 (Fw e) I.ok.above))).trans e1⟩
  ·by_cases hj:j=i
   ·subst hj
    rw [hi] at e1; cases e1
    rw [Gq hiO] at e2
    cases e2
    exact ⟨u,r,.inl ⟨hk,by simp⟩⟩
   ·rw [Gs (FI hj)] at e2
    obtain ⟨u',r',q⟩:=hl j y v' e1 e2 e3
    refine ⟨u',r',?_⟩
    rcases q with ⟨k,e⟩ | ⟨k,c,e,z⟩
    ·refine .inl ⟨k,?_⟩
     have:y≠x:=λe=>hj (kG hN e1 (e ▸ hi))
     simp [this,e]
    ·exact .inr ⟨k,c,e,z.sameBut hs (zm y c e)⟩
  ·obtain ⟨w',z⟩:=I.cell y c e
   exact ⟨w',z.sameBut hs (zm y c e)⟩
  ·obtain ⟨e,n,ne,nf,d⟩:=I.pin p hp
   exact ⟨(hs.2 p.1 ne).trans e,n,ne,nf,d⟩
 ·have hfn:X.fn x=true:=by
   rcases hf with z | z
   ·exact z
   ·rw [z] at hk; cases hk
  obtain ⟨c,hc⟩:=I.ok.has x (.inl hk)
  obtain ⟨w',z⟩:=I.cell x c hc
  refine wpAny_storeName_cell I.ok.kind hk hc z (λh' hc' hs=>?_)
  obtain ⟨oc,hoc,hocd⟩:=id z
  refine h { s with heap:=h' } ⟨I.ok,I.os,I.bare,⟨λb o e n hb hx=>?_,λb o e n hb hx=>?_,I.base.free,λb o e hx=>?_,I.base.tups,I.base.frzs,I.base.tbls⟩,⟨m,hn.sameBut hs (FI (zm x c hc)),λj y v' e1 e2 e3=>?_⟩,λy c' e=>?_,I.free,I.freeC,λp hp=>?_,tracked ⟨oc,hoc,I.freeC x c hc⟩ hs,by simpa using I.len⟩ ⟨c,hs,.inr hc⟩
  ·exact (hs.2 b (F0 (F9 (Fw e) (I.ok.cab x c hfn hc)))).trans (I.base.keep b o e n hb hx)
  ·obtain ⟨sl,e1⟩:=I.base.slot b o e n hb hx
   exact ⟨sl,(hs.2 b (F0 (F9 (Fw e) (I.ok.cab x c hfn hc)))).trans e1⟩
  ·obtain ⟨o',e1⟩:=I.base.there b o e hx
   exact ⟨o',(hs.2 b (F0 (F9 (Fw e) (I.ok.cab x c hfn hc)))).trans e1⟩
  ·by_cases hj:j=i
   ·subst hj
    rw [hi] at e1; cases e1
    rw [Gq hiO] at e2
    cases e2
    exact ⟨u,r,.inr ⟨.inl hk,c,hc,hc'⟩⟩
   ·rw [Gs (FI hj)] at e2
    obtain ⟨u',r',q⟩:=hl j y v' e1 e2 e3
    refine ⟨u',r',?_⟩
    rcases q with q | ⟨k,c',e,z'⟩
    ·exact .inl q
    ·refine .inr ⟨k,c',e,z'.sameBut hs ?_⟩
     rintro rfl
     exact hj (kG hN e1 (I.ok.inj _ _ _ e hc ▸ hi))
  ·by_cases hcc:c'=c
   ·subst hcc; exact ⟨_,hc'⟩
   ·obtain ⟨w2,z2⟩:=I.cell y c' e
    exact ⟨w2,z2.sameBut hs hcc⟩
  ·obtain ⟨e,n,ne,nf,d⟩:=I.pin p hp
   refine ⟨(hs.2 p.1 ?_).trans e,n,ne,nf,d⟩
   intro q
   rw [q,hoc] at e
   have q':oc=p.2:=GJ e
   exact d w' (by rw [<- q']; exact hocd)
theorem d8 (I:Inv X aa O H s) (hN:X.N.Nodup) (hi:X.N[i]?=some x) (hx:Loc X.env.scope x) (r:RelV v u)
 (h:∀ s',Inv X aa (O.set i (some v)) H s'->Q () s') (hf:X.fn x=true\/X.env.scope.names.lookup x=some .local:=by first | exact .inl rfl | exact .inr rfl | assumption):wpAny M A (storeName X.env x u) Q E s :=
 p7 I hN hi hx r (λs' I' _=>h s' I') hf
theorem Inv.yu (I:Inv X aa O H s) (ho:s'.os=s.os) (u:Un (frs X.stack) ch H H' s.heap s'.heap) (hok:fC X.prog X.w H' s'.heap) (hg:AllBare s'.gens)
 (hch:∀ b∈ch,(b∈X.ex\/X.s₀.heap.objs.size<=b)/\b≠X.env.locals/\(∀ x c,X.env.cells.lookup x=some c->c≠b)/\∀ p∈X.pn++aa,p.1≠b):Inv X aa O H' s':=by
 obtain ⟨h',g',d',t',o'⟩:=s'
 have e:o'=s.os:=ho
 subst e
 exact I.call (g':=g') (t':=t') (d':=d') u hok hg hch
end
noncomputable abbrev XK:=Value->Option Addr->Hp->Prop
noncomputable abbrev St:=List (Option V)
noncomputable abbrev VK:=V->Hp->Prop
noncomputable abbrev TE:=St->Hp->VK->Prop
noncomputable abbrev TT:=St->Hp->(Bool->Hp->Prop)->Prop
noncomputable abbrev TA:=St->Hp->(List V->Hp->Prop)->Prop
structure Ends where
 nx:St->Hp->Prop
 rt:VK
 bk:St->Hp->Prop:=λ_ _=>False
 ct:St->Hp->Prop:=λ_ _=>False
noncomputable abbrev TS:=Ends->St->Hp->Prop
def EP (X:Cx) (aa:List (Addr×Obj)) (O:St) (Q:VK) (u:Value) (s':Shared):Prop:=∃ v H',Inv X aa O H' s'/\RelV v u/\Q v H'
def TP (X:Cx) (aa:List (Addr×Obj)) (O:St) (Q:Bool->Hp->Prop) (b:Bool) (s':Shared):Prop:=∃ H',Inv X aa O H' s'/\Q b H'
def AP (X:Cx) (aa:List (Addr×Obj)) (O:St) (Q:List V->Hp->Prop) (us:List Value) (s':Shared):Prop:=∃ vs H',Inv X aa O H' s'/\Vals vs us/\Q vs H'
def SP (X:Cx) (aa:List (Addr×Obj)) (D:Ends) (f:Flow) (s':Shared):Prop :=
 match f with
 | .next=>∃ O' H',Inv X aa O' H' s'/\D.nx O' H'
 | .brk=>∃ O' H',Inv X aa O' H' s'/\D.bk O' H'
 | .cont=>∃ O' H',Inv X aa O' H' s'/\D.ct O' H'
 | .ret u=>∃ v O' H',Inv X aa O' H' s'/\RelV v u/\D.rt v H'
def PE (X:Cx) (e:Expr) (t:TE):Prop :=
 ∀ (aa:List (Addr×Obj)) (s:Shared) (O:St) (H:Hp) (Q:VK),Inv X aa O H s->t O H Q->wpAny (model X.prog X.w) X.A (eval e X.env) (EP X aa O Q) X.xe s
def PT (X:Cx) (e:Expr) (t:TT):Prop :=
 ∀ (aa:List (Addr×Obj)) (s:Shared) (O:St) (H:Hp) (Q:Bool->Hp->Prop),Inv X aa O H s->t O H Q->wpAny (model X.prog X.w) X.A (isTrue e X.env (eval e X.env)) (TP X aa O Q) X.xe s
def PW (X:Cx) (e:Expr) (t:TT):Prop :=
 ∀ (whole:Sem Value) (aa:List (Addr×Obj)) (s:Shared) (O:St) (H:Hp) (Q:Bool->Hp->Prop),Inv X aa O H s->t O H Q->wpAny (model X.prog X.w) X.A (isTrue e X.env whole) (TP X aa O Q) X.xe s
def PA (X:Cx) (es:List Expr) (t:TA):Prop :=
 ∀ (pos:Pos) (aa:List (Addr×Obj)) (s:Shared) (O:St) (H:Hp) (Q:List V->Hp->Prop),Inv X aa O H s->t O H Q->wpAny (model X.prog X.w) X.A (spliced (backTo pos (starEach es X.env))) (AP X aa O Q) X.xe s
def PS (X:Cx) (st:Stmt) (t:TS):Prop :=
 ∀ (aa:List (Addr×Obj)) (s:Shared) (O:St) (H:Hp) (D:Ends),Inv X aa O H s->t D O H->wpAny (model X.prog X.w) X.A (exec st X.env) (SP X aa D) X.xe s
def nN (X:Cx) (st:List Stmt) (t:TS):Prop :=
 ∀ (aa:List (Addr×Obj)) (s:Shared) (O:St) (H:Hp) (D:Ends),Inv X aa O H s->t D O H->wpAny (model X.prog X.w) X.A (execs st X.env) (SP X aa D) X.xe s
theorem aZ (h:wpAny M A t Q E s) (hQ:∀ a s,Q a s->Q' a s):wpAny M A t Q' E s:=Gk h hQ λ_ _ x=>x
section
noncomputable def BY (i:Nat):TE:=λO H Q=>∃ v,O[i]?=some (some v)/\Q v H
noncomputable def tC (v:V):TE:=λ_ H Q=>Q v H
theorem mE (hN:X.N[i]?=some x) (hv:EN X.env.scope x) (hd:(x == ("__debug__":Str))=false:=by decide) (hcd:(x == ("__classdict__":Str))=false:=by decide):PE X (.Name x pos) (BY i):=by
 intro aa s O H Q I h
 obtain ⟨v,e,h⟩:=h
 obtain ⟨m,hn,hl⟩:=I.loc
 obtain ⟨u,r,l⟩:=hl i x v hN e hv
 have fin:EP X aa O Q u s:=⟨v,H,I,r,h⟩
 rcases l with ⟨hk,hm⟩ | ⟨hk,c,hc,hcell⟩
 ·exact wpAny_Name (wpAny_loadName_local I.ok.kind hk hn hm fin) hd
 ·rcases hk with hk | hk
  ·exact wpAny_Name (wpAny_loadName_cell I.ok.kind hk hc hcell fin) hd
  ·exact wpAny_Name (wpAny_loadName_free I.ok.kind hk hc hcell fin hcd) hd
theorem zo {i j pos}:PE X (.Constant (.int i) j pos) (tC (.int i)):=λ_ _ _ H _ I h=>wpAny_Constant_int ⟨.int i,H,I.tok _,⟨_,rfl⟩,h⟩
theorem yv {b j pos}:PE X (.Constant (.bool b) j pos) (tC (.bl b)):=λ_ _ _ H _ I h=>Constant_bool ⟨.bl b,H,I,rfl,h⟩
def Gl (X:Cx) (x:Str):Prop:=X.env.kindOf x=some .globalImplicit
theorem jG (I:Inv X aa O H s) (hg:Gl X x) (hm:X.mg x=some u) (h:Q u s)
 (hd:(x == ("__debug__":Str))=false:=by decide):wpAny (model X.prog X.w) X.A (eval (.Name x pos) X.env) Q E s :=
 Calls.Name_function_global I.ok.kind hg (Calls.loadGlobal_global (by rw [I.ok.glob]; exact I.mod.glob.keeps I.bk) hm h) hd
theorem dI (I:Inv X aa O H s) (hg:Gl X x) (hm:X.mg x=none) (hv:bootBuiltins x=some u) (h:Q u s)
 (hn:x≠"__name__":=by decide) (hd:(x == ("__debug__":Str))=false:=by decide):wpAny (model X.prog X.w) X.A (eval (.Name x pos) X.env) Q E s:=by
 obtain ⟨mb,h1,h2⟩:=I.mod.blt
 exact Calls.Name_function_global I.ok.kind hg (Calls.loadGlobal_builtin (by rw [I.ok.glob]; exact I.mod.glob.keeps I.bk) hm (by rw [I.ok.blt]; exact h1.keeps I.bk) ((h2 x hn).trans hv) h) hd
theorem vS (hg:Gl X x) (hm:X.mg x=some u) (r:RelV v u) (hd:(x == ("__debug__":Str))=false:=by decide):PE X (.Name x pos) (tC v) :=
 λ_ _ _ H _ I h=>jG I hg hm ⟨v,H,I,r,h⟩ hd
def PC (X:Cx) (op:CmpOp) (a b:Expr) (t:TE):Prop :=
 ∀ (aa:List (Addr×Obj)) (s:Shared) (O:St) (H:Hp) (Q:VK),Inv X aa O H s->t O H Q ->
  wpAny (model X.prog X.w) X.A (eval a X.env) (λv s₁=>wpAny (model X.prog X.w) X.A (eval b X.env) (λu s₂=>wpAny (model X.prog X.w) X.A (compareOp op v u) (EP X aa O Q) X.xe s₂) X.xe s₁) X.xe s
noncomputable def tB (t:TE):TT:=λO H Q=>t O H λx H1=>∃ c,x=.bl c/\Q c H1
theorem zp (h:PC X op a b t) (h1:behindInMarks op b=false:=by first | exact nobehind _ (by decide) (by decide) | rfl):PT X (.Compare a [op] [b] pos) (tB t):=by
 intro aa s O H Q I hw
 refine wpAny_isTrue_Compare1 (aZ (h aa s O H _ I hw) λv s1 h1=>aZ h1 λu s2 h2=>aZ h2 λc s3 ⟨x,H1,I1,r1,q1⟩=>?_) h1
 obtain ⟨d,rfl,q⟩:=q1
 cases r1
 exact Ib ⟨H1,I1,q⟩
theorem zq (h:PE X e t) (he:∀ whole,isTrue e X.env whole=(do let v <- whole; standAt e.pos; holding [v] (truthy v)):=by intro _; rfl):PT X e (tB t):=by
 intro aa s O H Q I hw
 refine isTrue_plain (aZ (h aa s O H _ I hw) λv s1 ⟨x,H1,I1,r1,q1⟩=>?_) (he _)
 obtain ⟨d,rfl,q⟩:=q1
 cases r1
 exact Ib ⟨H1,I1,q⟩
variable {rest:List Expr}
noncomputable def DP (t u:TT):TT:=λO H Q=>t O H λc H1=>if c=true then u O H1 Q else Q false H1
noncomputable def EZ (t u:TT):TT:=λO H Q=>t O H λc H1=>if c=true then Q true H1 else u O H1 Q
noncomputable def DQ (t:TT):TT:=λO H Q=>t O H λc H1=>Q (!c) H1
theorem pw_and1 (ha:PT X a tA):PW X (.BoolOp .And [a] pos) tA:=by
 intro wh aa s O H Q I h
 refine isTrue_and (aZ (ha aa s O H Q I h) λc s1 e=>?_)
 cases c with
 | true=>exact isTrue_and_nil e
 | false=>exact e
theorem pw_or1 (ha:PT X a tA):PW X (.BoolOp .Or [a] pos) tA:=by
 intro wh aa s O H Q I h
 refine isTrue_or (aZ (ha aa s O H Q I h) λc s1 e=>?_)
 cases c with
 | false=>exact isTrue_or_nil e
 | true=>exact e
theorem pw_and (ha:PT X a tA) (hb:PW X (.BoolOp .And (b::rest) pos) tB'):PW X (.BoolOp .And (a::b::rest) pos) (DP tA tB'):=by
 intro wh aa s O H Q I h
 refine isTrue_and (aZ (ha aa s O H _ I h) λc s1 ⟨H1,I1,q1⟩=>?_)
 cases c with
 | true=>exact hb wh aa s1 O H1 Q I1 q1
 | false=>exact ⟨H1,I1,q1⟩
theorem pw_or (ha:PT X a tA) (hb:PW X (.BoolOp .Or (b::rest) pos) tB'):PW X (.BoolOp .Or (a::b::rest) pos) (EZ tA tB'):=by
 intro wh aa s O H Q I h
 refine isTrue_or (aZ (ha aa s O H _ I h) λc s1 ⟨H1,I1,q1⟩=>?_)
 cases c with
 | true=>exact ⟨H1,I1,q1⟩
 | false=>exact hb wh aa s1 O H1 Q I1 q1
theorem zu (ha:PT X a tA):PT X (.UnaryOp .Not a pos) (DQ tA):=by
 intro aa s O H Q I h
 exact isTrue_not (ha aa s O H (λc H1=>Q (!c) H1) I h)
noncomputable def BZ (ta tb:TE):TE:=λO H Q=>ta O H λx H1=>∃ c,x=.bl c/\if c=true then tb O H1 Q else Q (.bl false) H1
noncomputable def B3 (ta:TE):TE:=λO H Q=>ta O H λx H1=>∃ c,x=.bl c/\Q (.bl (!c)) H1
theorem zv {op} (h:PE X a t):PE X (.BoolOp op [a] pos) t:=λaa s O H Q I hw=>BoolOp_one (h aa s O H Q I hw)
theorem zw (ha:PE X a ta) (hb:PE X (.BoolOp .And (b::rest) pos) tb):PE X (.BoolOp .And (a::b::rest) pos) (BZ ta tb):=by
 intro aa s O H Q I h
 refine BoolOp_and (aZ (ha aa s O H _ I h) λv s1 ⟨x,H1,I1,r1,q1⟩=>?_)
 obtain ⟨c,rfl,q1⟩:=q1
 cases r1
 refine Ib ?_
 cases c with
 | true=>exact hb aa s1 O H1 Q I1 q1
 | false=>exact ⟨.bl false,H1,I1,rfl,q1⟩
theorem zz (ha:PE X a ta):PE X (.UnaryOp .Not a pos) (B3 ta):=by
 intro aa s O H Q I h
 refine UnaryOp_ (aZ (ha aa s O H _ I h) λv s1 ⟨x,H1,I1,r1,q1⟩=>?_)
 obtain ⟨c,rfl,q1⟩:=q1
 cases r1
 exact not_of (Ib ⟨.bl (!c),H1,I1,rfl,q1⟩)
noncomputable def E0 (t:TT) (ta tb:TE):TE:=λO H Q=>t O H λc H1=>if c=true then ta O H1 Q else tb O H1 Q
theorem rH (hc:PT X c tA) (ha:PE X a ta) (hb:PE X b tb):PE X (.IfExp c a b pos) (E0 tA ta tb):=by
 intro aa s O H Q I h
 refine wpAny_IfExp (aZ (hc aa s O H _ I h) λd s1 ⟨H1,I1,q1⟩=>?_)
 cases d with
 | true=>exact ha aa s1 O H1 Q I1 q1
 | false=>exact hb aa s1 O H1 Q I1 q1
end
def dJ (K:Fi) (H:Hp) (a:Addr) (xs:List V):Prop :=
 Rd H a (.lst xs) \/
  ∃ (o:Obj) (its:Array Value) (n:Nat),K.lookup a=some o/\o.cls=.type "list"/\o.dict=none/\o.data=.seq its n/\its.size<=sizeLine/\Vals xs its.toList
def bO (K:Fi) (H:Hp) (a:Addr) (xs:List V):Prop :=
 Rd H a (.tup xs) \/
  ∃ (o:Obj) (its:Array Value) (n:Nat),K.lookup a=some o/\o.cls=.type "tuple"/\o.data=.seq its n/\its.size<=sizeLine/\Vals xs its.toList
noncomputable def DR:Value->Option V
 | .none=>some .non
 | .bool b=>some (.bl b)
 | .int i _=>some (.int i)
 | .str x _=>some (.str x)
 | .bytes b _=>some (.byt b)
 | .float b _=>some (.flt b)
 | .ref a=>some (.ref a)
 | .type n=>some (.ty n)
 | _=>none
theorem RelV.abs (r:RelV x u):DR u=some x:=by
 cases x with
 | non=>cases r; rfl
 | bl _=>cases r; rfl
 | int _=>obtain ⟨t,rfl⟩:=r; rfl
 | str _=>obtain ⟨t,rfl⟩:=r; rfl
 | byt _=>obtain ⟨t,rfl⟩:=r; rfl
 | flt _=>obtain ⟨t,rfl⟩:=r; rfl
 | ref _=>cases r; rfl
 | ty _=>cases r; rfl
theorem RelV.inj (r:RelV x u) (q:RelV y u):x=y:=GJ (r.abs.symm.trans q.abs)
theorem Vals.inj:∀ {xs ys:List V} {us:List Value},Vals xs us->Vals ys us->xs=ys
 | _,_,_,.nil,.nil=>rfl
 | _,_,_,.cons r t,.cons r' t'=>by rw [r.inj r',Vals.inj t t']
theorem Inv.list (I:Inv X aa O H s) (h:dJ X.K H a xs):∃ its:List Value,Vals xs its/\PlainL s.heap a its.toArray/\xs.length<=sizeLine:=by
 rcases h with h | ⟨o,its,n,hk,hc,hd,hs,hz,r⟩
 ·obtain ⟨z,its,n,r,e⟩:=h.ok I.hok
  exact ⟨its,r,⟨_,n,e,rfl,rfl,rfl⟩,z⟩
 ·refine ⟨its.toList,r,⟨o,n,I.p6 a o hk,hc,hd,by simpa using hs⟩,?_⟩
  have e:=r.length
  simp only [F8] at e
  lia
theorem Inv.tuple (I:Inv X aa O H s) (h:bO X.K H a xs):∃ its:List Value,Vals xs its/\IsTup s.heap a its.toArray/\xs.length<=sizeLine:=by
 rcases h with h | ⟨o,its,n,hk,hc,hs,hz,r⟩
 ·obtain ⟨z,its,r,p⟩:=h.ok I.hok
  exact ⟨its,r,p,z⟩
 ·refine ⟨its.toList,r,⟨o,I.p6 a o hk,hc,n,by simpa using hs⟩,?_⟩
  have e:=r.length
  simp only [F8] at e
  lia
theorem Inv.kH (I:Inv X aa O H s) (h:dJ X.K H a xs) (h':dJ X.K H a ys):xs=ys:=by
 obtain ⟨its,r,⟨o,n,e,_,_,d⟩,_⟩:=I.list h
 obtain ⟨its',r',⟨o',n',e',_,_,d'⟩,_⟩:=I.list h'
 rw [e] at e'; cases e'
 rw [d] at d'
 injection d' with d1 _
 have:its=its':=by simpa using congrArg Array.toList d1
 subst this
 exact r.inj r'
theorem Inv.fD (I:Inv X aa O H s) (h:bO X.K H a xs) (h':bO X.K H a ys):xs=ys:=by
 obtain ⟨its,r,⟨o,e,_,n,d⟩,_⟩:=I.tuple h
 obtain ⟨its',r',⟨o',e',_,n',d'⟩,_⟩:=I.tuple h'
 rw [e] at e'; cases e'
 rw [d] at d'
 injection d' with d1 _
 have:its=its':=by simpa using congrArg Array.toList d1
 subst this
 exact r.inj r'
noncomputable abbrev Cx.iS (X:Cx) (E:Value->Shared->Prop):Cx:={ X with xe:=E }
noncomputable abbrev Cx.DG (X:Cx):Cx:=X.iS λ_ _=>False
theorem Cx.Ok.iS {X:Cx} (ok:X.Ok) (E):(X.iS E).Ok :=
 ⟨ok.mod,ok.kind,ok.glob,ok.blt,ok.above,ok.inj,ok.has,ok.cab,ok.hd,ok.frames,ok.stk,ok.exf,ok.bs,ok.bsz,ok.noex,ok.exfs,ok.gi,ok.frf⟩
theorem Cx.Ok.c6 {X:Cx} (ok:(X.iS E).Ok):X.Ok :=
 ⟨ok.mod,ok.kind,ok.glob,ok.blt,ok.above,ok.inj,ok.has,ok.cab,ok.hd,ok.frames,ok.stk,ok.exf,ok.bs,ok.bsz,ok.noex,ok.exfs,ok.gi,ok.frf⟩
theorem Inv.iS (I:Inv X aa O H s) (E):Inv (X.iS E) aa O H s:=⟨I.ok.iS E,I.os,I.bare,I.base,I.loc,I.cell,I.free,I.freeC,I.pin,I.hok,I.len⟩
theorem Inv.c6 (I:Inv (X.iS E) aa O H s):Inv X aa O H s:=⟨I.ok.c6,I.os,I.bare,I.base,I.loc,I.cell,I.free,I.freeC,I.pin,I.hok,I.len⟩
theorem SP.c6 (h:SP (X.iS E) aa D f s'):SP X aa D f s':=by
 cases f with
 | next=>obtain ⟨O',H',I,q⟩:=h; exact ⟨O',H',I.c6,q⟩
 | brk=>obtain ⟨O',H',I,q⟩:=h; exact ⟨O',H',I.c6,q⟩
 | cont=>obtain ⟨O',H',I,q⟩:=h; exact ⟨O',H',I.c6,q⟩
 | ret u=>obtain ⟨v,O',H',I,r,q⟩:=h; exact ⟨v,O',H',I.c6,r,q⟩
theorem nN.DG {st:List Stmt} (h:nN X.DG st t):nN X st t:=λaa s O H D I hw =>
 Gk (h aa s O H D (I.iS _) hw) (λ_ _ q=>q.c6) λ_ _ z=>GZ z
section
variable {st:Stmt} {rest:List Stmt}
noncomputable def B4:TS:=λD O H=>D.nx O H
noncomputable def DS (t u:TS):TS:=λD O H=>t { D with nx:=u D } O H
theorem vU:nN X [] B4:=λ_ _ O H _ I h=>wpAny_execs_nil ⟨O,H,I,h⟩
theorem rJ (h1:PS X st t) (h2:nN X rest u):nN X (st::rest) (DS t u):=by
 intro aa s O H D I h
 refine wpAny_execs_cons (aZ (h1 aa s O H { D with nx:=u D } I h) λf s1 q=>?_)
 cases f with
 | next =>
  obtain ⟨O',H',I',q⟩:=q
  exact h2 aa s1 O' H' D I' q
 | ret v=>exact q
 | brk=>exact q
 | cont=>exact q
theorem Inv.quiet (I:Inv X aa O H s):interactive X.env=false:=by simp [interactive,I.ok.kind]
noncomputable def B5 (te:TE):TS:=λD O H=>te O H λ_ H1=>D.nx O H1
theorem nO (he:PE X e te) (hs:swapsWith e none pos.line X.env=pure false:=by rfl):PS X (.Expr e pos) (B5 te):=by
 intro aa s O H D I h
 exact wpAny_Expr_any (aZ (he aa s O H _ I h) λv s1 ⟨x,H1,I1,r1,q1⟩=>⟨O,H1,I1,q1⟩) I.quiet hs
noncomputable def DT (te:TE):TS:=λD O H=>te O H D.rt
theorem rK (he:PE X e te):PS X (.Return (some e) pos) (DT te):=by
 intro aa s O H D I h
 exact wpAny_Return_some (aZ (he aa s O H _ I h) λv s1 ⟨x,H1,I1,r1,q1⟩=>⟨x,O,H1,I1,r1,q1⟩)
noncomputable def DU (c:TT) (t u:TS):TS:=λD O H=>c O H λb H1=>if b=true then t D O H1 else u D O H1
theorem B6 (hc:PT X c tc) (ha:nN X a t) (hb:nN X b u):PS X (.If c a b pos) (DU tc t u):=by
 intro aa s O H D I h
 refine wpAny_If (aZ (hc aa s O H _ I h) λd s1 ⟨H1,I1,q1⟩=>?_)
 cases d with
 | true=>exact ha aa s1 O H1 D I1 q1
 | false=>exact hb aa s1 O H1 D I1 q1
end
noncomputable abbrev TG:=V->St->Hp->(St->Hp->Prop)->Prop
noncomputable abbrev B7:=List V->St->Hp->(St->Hp->Prop)->Prop
def PG (X:Cx) (target:Expr) (t:TG):Prop :=
 ∀ (aa:List (Addr×Obj)) (s:Shared) (O:St) (H:Hp) (v:V) (u:Value) (Q:St->Hp->Prop),Inv X aa O H s->RelV v u->t v O H Q ->
  wpAny (model X.prog X.w) X.A (assign target X.env u) (λ_ s'=>∃ O' H',Inv X aa O' H' s'/\Q O' H') X.xe s
def BJ (X:Cx) (ts:List Expr) (t:B7):Prop :=
 ∀ (aa:List (Addr×Obj)) (s:Shared) (O:St) (H:Hp) (vs:List V) (us:List Value) (Q:St->Hp->Prop),Inv X aa O H s->Vals vs us->t vs O H Q ->
  wpAny (model X.prog X.w) X.A (assignInOrder ((assignEach ts X.env).map (·.2)) us) (λ_ s'=>∃ O' H',Inv X aa O' H' s'/\Q O' H') X.xe s
noncomputable abbrev zA:=V->V->V->Hp->(Hp->Prop)->Prop
def B8 (X:Cx) (t:zA):Prop :=
 ∀ (aa:List (Addr×Obj)) (s:Shared) (O:St) (H:Hp) (o i v:V) (ov iv u:Value) (Q:Hp->Prop),Inv X aa O H s->RelV o ov->RelV i iv->RelV v u->t o i v H Q ->
  wpAny (model X.prog X.w) X.A (setItem ov iv u) (λ_ s'=>∃ H',Inv X aa O H' s'/\Q H') X.xe s
noncomputable def yw (i:Nat):TG:=λv O H Q=>Q (O.set i (some v)) H
theorem jH (hN:X.N.Nodup) (hi:X.N[i]?=some x) (hx:Loc X.env.scope x) (hf:X.fn x=true\/X.env.scope.names.lookup x=some .local:=by first | exact .inl rfl | exact .inr rfl | assumption):PG X (.Name x pos) (yw i):=by
 intro aa s O H v u Q I r h
 exact wpAny_assign_Name (d8 I hN hi hx r (λs' I'=>⟨_,H,I',h⟩) hf)
noncomputable def DV:B7:=λvs O H Q=>vs=[]/\Q O H
noncomputable def B9 (t:TG) (u:B7):B7:=λvs O H Q=>∃ v r,vs=v::r/\t v O H λO' H'=>u r O' H' Q
theorem vV:BJ X [] DV:=by
 intro aa s O H vs us Q I r h
 obtain ⟨e,h⟩:=h
 subst e
 cases r
 exact assignInOrder_nil ⟨O,H,I,h⟩
theorem rL (h1:PG X e t) (h2:BJ X es u)
 (hs:(assignEach (e::es) X.env).map (·.2)=assign e X.env::(assignEach es X.env).map (·.2):=by rfl):BJ X (e::es) (B9 t u):=by
 intro aa s O H vs us Q I r h
 obtain ⟨v,vr,e1,h⟩:=h
 subst e1
 cases r with
 | cons r rr =>
  rw [hs]
  refine JZ (aZ (h1 aa s O H _ _ _ I r h) λ_ s1 ⟨O1,H1,I1,q1⟩=>?_)
  exact h2 aa s1 O1 H1 _ _ Q I1 rr q1
noncomputable def DW (K:Fi) (n:Nat) (t:B7):TG:=λv O H Q=>∃ a xs,v=.ref a/\bO K H a xs/\xs.length=n/\t xs O H Q
theorem zB (hc:X.calm=true) (h:BJ X es t)
 (hn:(assignEach es X.env).length=n:=by rfl) (hst:(assignEach es X.env).findIdx? (·.1)=none:=by rfl):PG X (.Tuple es k pos) (DW X.K n t):=by
 intro aa s O H v u Q I r hw
 obtain ⟨a,xs,e1,hq,hl,hw⟩:=hw
 subst e1
 cases r
 obtain ⟨its,rv,ht,hz⟩:=I.tuple hq
 refine assign_Tuple_tuple (I.ok.hd hc) ht (by simp [hn,<- hl,rv.length]) hst λh' hx=>?_
 have I1:Inv X aa O H { s with heap:=h' }:=I.kept (t':=s.toks) λb o e=>hx b o (F0 (Fw e)) e
 exact h aa _ O H xs _ Q I1 (by simpa using rv) hw
noncomputable def DX (to ti:TE) (t:zA):TG:=λv O H Q=>to O H λo H1=>ti O H1 λi H2=>t o i v H2 λH3=>Q O H3
theorem zC (ho:PE X o to) (hi:PE X i ti) (hs:B8 X t)
 (ha:∀ v,assign (.Subscript o i pos) X.env v=(do
   let ov <- holding [v] (eval o X.env)
   let iv <- holding [v,ov] (eval i X.env)
   standAt pos
   holding [v,ov,iv] (setItem ov iv v)
   release [v,ov,iv] []):=by intro _; rfl):PG X (.Subscript o i pos) (DX to ti t):=by
 intro aa s O H v u Q I r h
 rw [ha]
 refine Ff (GK (aZ (ho aa s O H _ I h) λov s1 ⟨x,H1,I1,r1,q1⟩=>?_))
 refine Ff (GK (aZ (hi aa s1 O H1 _ I1 q1) λiv s2 ⟨y,H2,I2,r2,q2⟩=>?_))
 refine Ff (Jq (Ff (GK (aZ (hs aa s2 O H2 x y v ov iv u _ I2 r1 r2 r q2) λ_ s3 ⟨H3,I3,q3⟩=>?_))))
 exact wpAny_release ⟨O,H3,I3,q3⟩
noncomputable def Ca (te:TE) (g:TG):TS:=λD O H=>te O H λx H1=>g x O H1 D.nx
theorem rM (he:PE X e te) (hg:PG X tg g) (hs:swapsWithSole [tg] e pos.line X.env=pure false:=by rfl) (hw:swappedStores [tg] e X.env=pure none:=by rfl)
 (h1:(assignEach [tg] X.env).map (·.2)=[assign tg X.env]:=by rfl):PS X (.Assign [tg] e pos) (Ca te g):=by
 intro aa s O H D I h
 refine wpAny_Assign_stores (aZ (he aa s O H _ I h) λv s1 ⟨x,H1,I1,r1,q1⟩=>?_) hs hw
 rw [h1]
 exact aZ (hg aa s1 O H1 x v _ I1 r1 q1) λ_ s2 q=>q
theorem zD (hN:X.N.Nodup) (hi:X.N[i]?=some x) (hx:Loc X.env.scope x) (he:PE X e te) (hs:swapsWith e (some (.Name x pos')) pos.line X.env=pure false:=by rfl) (hf:X.fn x=true\/X.env.scope.names.lookup x=some .local:=by first | exact .inl rfl | exact .inr rfl | assumption) :
 PS X (.Assign [.Name x pos'] e pos) (Ca te (yw i)):=by
 intro aa s O H D I h
 refine wpAny_Assign_Name (aZ (he aa s O H _ I h) λv s1 ⟨y,H1,I1,r1,q1⟩=>?_) hs
 exact d8 I1 hN hi hx r1 (λs2 I2=>⟨_,H1,I2,q1⟩) hf
noncomputable def DY (i j:Nat) (ta:TA):TS:=λD O H=>ta O H λvs H1=>∃ v w,vs=[v,w]/\D.nx ((O.set i (some v)).set j (some w)) H1
theorem zE {kt k2 pt2} (hc:X.calm=true) (hN:X.N.Nodup) (hi:X.N[i]?=some x) (hj:X.N[j]?=some y) (hij:i≠j)
 (hx:X.env.scope.names.lookup x=some .local) (hy:X.env.scope.names.lookup y=some .local) (ha:PA X [a,b] ta)
 (hw:swappedStores [.Tuple [.Name x px,.Name y py] kt pt] (.Tuple [a,b] k2 pt2) X.env=pure (some [x,y]))
 (hs:swapsWithSole [.Tuple [.Name x px,.Name y py] kt pt] (.Tuple [a,b] k2 pt2) pos.line X.env=pure false:=by rfl) :
 PS X (.Assign [.Tuple [.Name x px,.Name y py] kt pt] (.Tuple [a,b] k2 pt2) pos) (DY i j ta):=by
 intro aa s O H D I h
 rw [exec_Assign_arm]
 refine Ff (Jq ?_)
 rw [hs]
 refine Ff (Fl ?_)
 rw [if_neg (by decide)]
 refine Ff (Tuple_ (aZ (ha _ aa s O H _ I h) λus s1 ⟨vs,H1,I1,r1,q1⟩=>?_))
 obtain ⟨v,w,e1,q1⟩:=q1
 subst e1
 obtain ⟨u1,u2,rfl,rv,rw'⟩:∃ u1 u2,us=[u1,u2]/\RelV v u1/\RelV w u2:=by
  cases r1 with
  | cons p q =>
   cases q with
   | cons p' q' =>
    cases q'
    exact ⟨_,_,rfl,p,p'⟩
 refine GA ?_ (by show 2<=sizeLine; decide)
 have I2:Inv X aa O H1 { s1 with heap:=s1.heap.push { cls:=.type "tuple",data:=.seq [u1,u2].toArray } }:=I1.kept (t':=s1.toks) λb o e=>Fz _ e
 rw [hw]
 refine Ff (Fl ?_)
 show wpAny (model X.prog X.w) X.A (do rule "assign.swapped-stores"; let items <- unpackItems (.ref s1.heap.objs.size) 2 none; assignInOrder [λv=>bindName X.env y v,λv=>bindName X.env x v] items.reverse; pure Flow.next) _ _ _
 refine Ff (GG (Ff (unpackItems_tuple (items:= #[u1,u2]) (I.ok.hd hc) (IsTup.new s1.heap _) λh' hx'=>?_)))
 have I3:=I2.kept (h':=h') (t':=s1.toks) λb o e=>hx' b o (F0 (Fw e)) e
 show wpAny _ _ (assignInOrder [λv=>bindName X.env y v,λv=>bindName X.env x v] [u2,u1] >>= λ_=>pure Flow.next) _ _ _
 refine Ff (JZ (wpAny_bindName (d8 I3 hN hj (.inl hy) rw' (λs2 I4=>?_) (.inr hy))))
 refine JZ (wpAny_bindName (d8 I4 hN hi (.inl hx) rv (λs3 I5=>assignInOrder_nil (Fl ?_)) (.inr hx)))
 rw [List.set_comm _ _ (FI hij)] at I5
 exact ⟨_,H1,I5,q1⟩
noncomputable def zF (c:TT) (tb:TS):TS:=λD O H=>∃ W:Nat->St->Hp->Prop,(∃ m,W m O H)/\∀ m O H,W m O H ->
 c O H λb H1=>if b=true then ∃ N:St->Hp->Prop,(∀ O' H',N O' H'->∃ m',m'<m/\W m' O' H')/\tb { D with nx:=N,ct:=N,bk:=D.nx } O H1 else D.nx O H1
theorem rN (hp:PassesOwn (model X.prog X.w) X.A X.env X.xe) (hc:PT X c tc) (hb:nN X body tb):PS X (.While c body [] pos) (zF tc tb):=by
 intro aa s O H D I h
 obtain ⟨W,⟨m0,w0⟩,turn⟩:=h
 refine wpAny_While (codeAny_whileLoop (λn s'=>∃ O' H',Inv X aa O' H' s'/\W n O' H') ?_ m0 ⟨O,H,I,w0⟩)
 rintro n s1 ⟨O1,H1,I1,w1⟩
 refine Hx hp (aZ (hc aa s1 O1 H1 _ I1 (turn n O1 H1 w1)) λb s2 ⟨H2,I2,q2⟩=>?_)
 cases b with
 | true =>
  obtain ⟨N,hN,q2⟩:=q2
  rw [if_pos rfl]
  refine Hx hp (aZ (hb aa s2 O1 H2 _ I2 q2) λf s3 q3=>?_)
  cases f with
  | next =>
   obtain ⟨O3,H3,I3,n3⟩:=q3
   obtain ⟨m',hm,w3⟩:=hN O3 H3 n3
   exact ⟨m',hm,O3,H3,I3,w3⟩
  | cont =>
   obtain ⟨O3,H3,I3,n3⟩:=q3
   obtain ⟨m',hm,w3⟩:=hN O3 H3 n3
   exact ⟨m',hm,O3,H3,I3,w3⟩
  | brk=>exact q3
  | ret v=>exact q3
 | false =>
  rw [if_neg Fv]
  exact wpAny_execs_nil ⟨O1,H2,I2,q2⟩
structure It where
 go:Nat->Hp->Prop
 yld:Nat->Hp->V->Hp->Prop
 stop:Nat->Hp->Prop
def d9 (X:Cx) (aa:List (Addr×Obj)) (H:Hp) (b:Addr):Prop :=
 H b=none/\b≠X.env.locals/\b∉X.fs/\(b∈X.ex\/X.s₀.heap.objs.size<=b)/\(∀ x c,X.env.cells.lookup x=some c->c≠b)/\∀ p∈X.pn++aa,p.1≠b
theorem Inv.p8 (I:Inv X aa O H s) (hb:s.heap.objs.size<=b) (hn:H' b=none):d9 X aa H' b:=by
 refine ⟨hn,Nat.ne_of_gt (F9 I.lt hb),I.BX hb,.inr (Fy I.sz hb),λx c e z=>?_,λp hp z=>?_⟩
 ·obtain ⟨v,q⟩:=I.cell x c e
  exact absurd (F9 q.lt (by rw [z]; exact hb)) (GL _)
 ·exact absurd (F9 (Fw (I.pin p hp).1) (by rw [z]; exact hb)) (GL _)
structure Turn (P:Program) (w:World) (K:Fi) (tg:Expr) (J:It) (fp:List Addr) (it:Addr) (tn:Nat->Heap->Prop):Prop where
 mem:it∈fp
 obj:∀ i h,tn i h->∀ b∈fp,∃ o,h.get? b=some o/\∀ v,o.data≠.cell v
 keep:∀ i h h',tn i h->(∀ b∈fp,∀ o,h.get? b=some o->h'.get? b=some o)->tn i h'
 item:∀ (X:Cx),X.prog=P->X.w=w->X.K=K->X.calm=true->∀ (i:Nat) (aa:List (Addr×Obj)) (s:Shared) (O:St) (H:Hp) (E:Value->Shared->Prop),Inv X aa O H s->(∀ b∈fp,d9 X aa H b)->tn i s.heap->J.go i H ->
  wpAny (model P w) X.A (pyNext (.ref it)) (λr s1=>∃ u,r=some u /\
   wpAny (model P w) X.A (letOwnedTupleGo tg (.ref it) u) (λ_ s2=>∃ x H',Inv X aa O H' s2/\RelV x u/\J.yld i H x H'/\tn (i+1) s2.heap/\∀ b∈fp,H' b=none) E s1) E s
 done:∀ (X:Cx),X.prog=P->X.w=w->X.K=K->X.calm=true->∀ (i:Nat) (aa:List (Addr×Obj)) (s:Shared) (O:St) (H:Hp) (E:Value->Shared->Prop),Inv X aa O H s->(∀ b∈fp,d9 X aa H b)->tn i s.heap->J.stop i H ->
  wpAny (model P w) X.A (pyNext (.ref it)) (λr s1=>r=none/\Inv X aa O H s1) E s
 self:∀ (A:Around) (i:Nat) (s:Shared) (Q:Value->Shared->Prop) (E:Value->Shared->Prop),tn i s.heap->Q (.ref it) s->wpAny (model P w) A (pyIter (.ref it)) Q E s
noncomputable abbrev TI:=St->Hp->(It->Hp->Prop)->Prop
def DZ (X:Cx) (aa:List (Addr×Obj)) (O:St) (tg:Expr) (R:It->Hp->Prop) (itv:Value) (s2:Shared):Prop :=
 ∃ (it:Addr) (fp:List Addr) (tn:Nat->Heap->Prop) (J:It) (H':Hp),itv=.ref it/\Inv X aa O H' s2/\Turn X.prog X.w X.K tg J fp it tn/\tn 0 s2.heap/\(∀ b∈fp,d9 X aa H' b)/\R J H'
def PI (X:Cx) (tg iter:Expr) (wi:TI):Prop :=
 ∀ (aa:List (Addr×Obj)) (s:Shared) (O:St) (H:Hp) (R:It->Hp->Prop),Inv X aa O H s->wi O H R ->
  wpAny (model X.prog X.w) X.A (eval iter X.env) (λv s1=>wpAny (model X.prog X.w) X.A (pyIter v) (DZ X aa O tg R) X.xe s1) X.xe s
theorem rP (ho:s.heap.get? it=some o) (hc:o.cls=.type n) (hd:o.data=.fields vs)
 (hn:["enumerate","zip","dict_itemiterator","dict_reverseitemiterator","odict_iterator","itertools.zip_longest","itertools.pairwise"].contains n=false) (hQ:Q () s):wpAny M A (letOwnedTupleGo tg (.ref it) u) Q E s:=by
 unfold letOwnedTupleGo
 cases tg <;> first
  | exact Fl hQ
  | (cases u <;> first
      | exact Fl hQ
      | (refine Ff (wpAny_load ho ?_)
         rw [hc,hd]
         show wpAny M A (if (["enumerate","zip","dict_itemiterator","dict_reverseitemiterator","odict_iterator","itertools.zip_longest","itertools.pairwise"].contains n && vs[0]? == some (rawInt _))=true then _ else _) Q E s
         rw [if_neg (by intro h; rw [hn,Bool.false_and] at h; cases h)]
         exact Fl hQ))
noncomputable def D0 (K:Fi) (a:Addr):It :=
 ⟨λi H=>∃ xs x,dJ K H a xs/\xs[i]?=some x,λi H x H'=>H'=H/\∀ xs,dJ K H a xs->xs[i]?=some x,λi H=>∃ xs,dJ K H a xs/\xs.length<=i⟩
noncomputable def D3 (K:Fi) (a:Addr):It :=
 ⟨λi H=>∃ xs x,bO K H a xs/\xs[i]?=some x,λi H x H'=>H'=H/\∀ xs,bO K H a xs->xs[i]?=some x,λi H=>∃ xs,bO K H a xs/\xs.length<=i⟩
noncomputable def DH (lo:Int) (n:Nat):It:=⟨λi _=>i<n,λi H x H'=>H'=H/\x=.int (lo+i),λi _=>n<=i⟩
theorem p9 {P:Program} {w:World} {K:Fi} {tg:Expr} (a it:Addr):Turn P w K tg (D0 K a) [it] it (λi h=>h.IsListIter it a i) where
 mem:=by simp
 obj:=λi h st b hb=>by
  have e:b=it:=by simpa using hb
  subst e
  obtain ⟨o,e,c,d⟩:=st
  exact ⟨o,e,λv z=>by rw [d] at z; cases z⟩
 keep:=λi h h' st k=>st.at λo e=>k it (by simp) o e
 item:=by
  intro X hP hw hK hc i aa s O H E I hf st hg
  subst hP hw hK
  obtain ⟨xs,x,hq,hx⟩:=hg
  obtain ⟨its,rv,p,hz⟩:=I.list hq
  obtain ⟨u,hu,ru⟩:=rv.get hx
  obtain ⟨f0,f1,f2,f3,f4,f5⟩:=hf it (by simp)
  refine wpAny_pyNext_list_item st p.isList (x:=u) (by simpa using hu) λh' st' sb=>?_
  have I1:Inv X aa O H { s with heap:=h' }:=I.turned (t':=s.toks) (λb o hb e=>(sb.2 b hb).trans e) f0 f1 f3 f4 f5
  obtain ⟨o,e,c,d⟩:=id st'
  exact ⟨u,rfl,rP (s:={ s with heap:=h' }) e c d (by decide) ⟨x,H,I1,ru,⟨rfl,λys hy=>by rw [I.kH hy hq]; exact hx⟩,st',λb hb=>(hf b hb).1⟩⟩
 done:=by
  intro X hP hw hK hc i aa s O H E I hf st hg
  subst hP hw hK
  obtain ⟨xs,hq,hx⟩:=hg
  obtain ⟨its,rv,p,hz⟩:=I.list hq
  obtain ⟨f0,f1,f2,f3,f4,f5⟩:=hf it (by simp)
  have hl:=rv.length
  exact wpAny_pyNext_list_end (I.ok.hd hc) st p.isList (by simp; lia) λh' eb=>⟨rfl,I.turned (t':=s.toks) (λb o hb e=>eb b o hb e) f0 f1 f3 f4 f5⟩
 self:=λ_ _ _ _ _ st h=>wpAny_pyIter_listiter st h
theorem mF {P:Program} {w:World} {K:Fi} {tg:Expr} (a it:Addr):Turn P w K tg (D3 K a) [it] it (λi h=>h.IsTupleIter it a i) where
 mem:=by simp
 obj:=λi h st b hb=>by
  have e:b=it:=by simpa using hb
  subst e
  obtain ⟨o,e,c,d⟩:=st
  exact ⟨o,e,λv z=>by rw [d] at z; cases z⟩
 keep:=λi h h' st k=>st.at λo e=>k it (by simp) o e
 item:=by
  intro X hP hw hK hc i aa s O H E I hf st hg
  subst hP hw hK
  obtain ⟨xs,x,hq,hx⟩:=hg
  obtain ⟨its,rv,p,hz⟩:=I.tuple hq
  obtain ⟨u,hu,ru⟩:=rv.get hx
  obtain ⟨f0,f1,f2,f3,f4,f5⟩:=hf it (by simp)
  refine wpAny_pyNext_tuple_item st (show s.heap.IsTuple a its.toArray from p) (x:=u) (by simpa using hu) λh' st' sb=>?_
  have I1:Inv X aa O H { s with heap:=h' }:=I.turned (t':=s.toks) (λb o hb e=>(sb.2 b hb).trans e) f0 f1 f3 f4 f5
  obtain ⟨o,e,c,d⟩:=id st'
  exact ⟨u,rfl,rP (s:={ s with heap:=h' }) e c d (by decide) ⟨x,H,I1,ru,⟨rfl,λys hy=>by rw [I.fD hy hq]; exact hx⟩,st',λb hb=>(hf b hb).1⟩⟩
 done:=by
  intro X hP hw hK hc i aa s O H E I hf st hg
  subst hP hw hK
  obtain ⟨xs,hq,hx⟩:=hg
  obtain ⟨its,rv,p,hz⟩:=I.tuple hq
  obtain ⟨f0,f1,f2,f3,f4,f5⟩:=hf it (by simp)
  have hl:=rv.length
  exact wpAny_pyNext_tuple_end (I.ok.hd hc) st (show s.heap.IsTuple a its.toArray from p) (by simp; lia) λh' eb=>⟨rfl,I.turned (t':=s.toks) (λb o hb e=>eb b o hb e) f0 f1 f3 f4 f5⟩
 self:=λ_ _ _ _ _ st h=>wpAny_pyIter_tupleiter st h
theorem mH {P:Program} {w:World} {K:Fi} {tg:Expr} (it:Addr) (lo:Int) (n:Nat):Turn P w K tg (DH lo n) [it] it (λi h=>IsRangeIter h it (lo+(i:Nat) * 1) ((n:Int) - (i:Nat)) 1) where
 mem:=by simp
 obj:=λi h st b hb=>by
  have e:b=it:=by simpa using hb
  subst e
  exact ⟨_,st,λv z=>by
   have z':Data.fields _=Data.cell v:=z
   cases z'⟩
 keep:=λi h h' st k=>k it (by simp) _ st
 item:=by
  intro X hP hw hK hc i aa s O H E I hf st hg
  subst hP hw hK
  obtain ⟨f0,f1,f2,f3,f4,f5⟩:=hf it (by simp)
  have W:=Walks.range (prog:=X.prog) (w:=X.w) (I.ok.hd hc) it lo 1 n
  refine W.item i s _ _ hg st λv h' tk hv st' kk=>?_
  obtain ⟨t,rfl⟩:=hv
  have I1:Inv X aa O H { s with heap:=h',toks:=tk }:=I.turned (λb o hb e=>kk b o (by simpa using hb) e) f0 f1 f3 f4 f5
  refine ⟨_,rfl,rP (s:={ s with heap:=h',toks:=tk }) (n:="range_iterator") st' rfl rfl (by decide) ⟨.int (lo+i),H,I1,⟨t,?_⟩,⟨rfl,rfl⟩,st',λb hb=>(hf b hb).1⟩⟩
  rw [IL]
 done:=by
  intro X hP hw hK hc i aa s O H E I hf st hg
  subst hP hw hK
  obtain ⟨f0,f1,f2,f3,f4,f5⟩:=hf it (by simp)
  exact wpAny_pyNext_range_end (I.ok.hd hc) st (by have:n<=i:=hg; lia) λh' eb=>⟨rfl,I.turned (t':=s.toks) (λb o hb e=>eb b o hb e) f0 f1 f3 f4 f5⟩
 self:=λ_ _ _ _ _ st h=>wpAny_pyIter_rangeiter st h
theorem rQ {lo hi:Int} (I:Inv X aa O H s) (h1: -(2 ^ 62)<=lo) (h2:lo<2 ^ 62) (h3: -(2 ^ 62)<=hi) (h4:hi<2 ^ 62)
 (q:R (DH lo (hi - lo).toNat) H):wpAny (model X.prog X.w) X.A (pyIter (.ref s.heap.objs.size)) (DZ X aa O tg R) E { s with heap:=s.heap.push { cls:=.type "range",data:=.fields #[.int lo t,.int hi u,.int 1 v] },toks:=tk }:=by
 refine wpAny_pyIter_range (IsRange.new ..) (small_one h1 h2 h3 h4) ?_
 have I1:Inv X aa O H { s with heap:=s.heap.push { cls:=.type "range",data:=.fields #[.int lo t,.int hi u,.int 1 v] },toks:=tk }:=I.kept λb o e=>Fz _ e
 refine ⟨(s.heap.push { cls:=.type "range",data:=.fields #[.int lo t,.int hi u,.int 1 v] }).objs.size,[(s.heap.push { cls:=.type "range",data:=.fields #[.int lo t,.int hi u,.int 1 v] }).objs.size],_,_,H,rfl,
  I1.kept (t':=tk) λb o e=>Fz _ e,mH _ lo (hi - lo).toNat,?_,λb hb=>?_,q⟩
 ·have e1:lo+((0:Nat):Int) * 1=lo:=by simp
  have e2:(((hi - lo).toNat:Nat):Int) - ((0:Nat):Int)=Builtin.Range.rangeSize lo hi 1:=by rw [rangeSize_one]; split <;> lia
  show IsRangeIter _ _ (lo+((0:Nat):Int) * 1) ((((hi - lo).toNat:Nat):Int) - ((0:Nat):Int)) 1
  rw [e1,e2]
  exact FT _ rfl
 ·have e:b=(s.heap.push { cls:=.type "range",data:=.fields #[.int lo t,.int hi u,.int 1 v] }).objs.size:=by simpa using hb
  subst e
  exact I1.p8 (Fq _) (I1.hok.fresh (Fq _))
noncomputable def Cb (ta:TA):TI:=λO H R=>ta O H λvs H1=>∃ j:Int,vs=[.int j]/\ -(2 ^ 62)<=j/\j<2 ^ 62/\R (DH 0 j.toNat) H1
theorem qa (hg:Gl X "range") (hm:X.mg "range"=none) (ha:PA X [a] ta) (hs:starEach [a] X.env=[(false,eval a X.env)]:=by rfl):PI X tg (.Call (.Name "range" p) [a] [] pos) (Cb ta):=by
 intro aa s O H R I h
 refine Call_ (dI I hg hm boot_range (JE (aZ (ha pos aa s O H _ I h) λus s1 ⟨vs,H1,I1,r1,q1⟩=>?_) hs rfl))
 obtain ⟨j,e,q1,q2,q⟩:=q1
 subst e
 cases r1 with
 | cons r rr =>
  cases rr
  obtain ⟨t,rfl⟩:=r
  exact call_range_1 (rQ I1 (by lia) (by lia) q1 q2 (by simpa using q))
noncomputable def D6 (wi:TI) (g:TG) (tb:TS):TS:=λD O H=>wi O H λJ H1=>∃ W:Nat->Nat->St->Hp->Prop,(∃ m,W 0 m O H1)/\∀ i m O H,W i m O H ->
 (J.stop i H/\D.nx O H)\/(J.go i H/\∃ N:St->Hp->Prop,(∀ O' H',N O' H'->∃ m',m'<m/\W (i+1) m' O' H')/\∀ x H',J.yld i H x H'->g x O H' λO2 H2=>tb { D with nx:=N,ct:=N,bk:=D.nx } O2 H2)
noncomputable def fE (fp:List Addr) (h:Heap):List (Addr×Obj):=fp.filterMap λb=>(h.get? b).map λo=>(b,o)
theorem ck (hb:b∈fp) (e:h.get? b=some o):(b,o)∈fE fp h:=List.mem_filterMap.mpr ⟨b,hb,by rw [e]; rfl⟩
theorem qb (hp:p∈fE fp h):p.1∈fp/\h.get? p.1=some p.2:=by
 obtain ⟨b,hb,e⟩:=List.mem_filterMap.mp hp
 cases q:h.get? b with
 | none=>rw [q] at e; cases e
 | some o =>
  rw [q] at e
  have e':(b,o)=p:=GJ e
  subst e'
  exact ⟨hb,q⟩
theorem Inv.pinned (I:Inv X aa O H s) (hf:∀ b∈fp,d9 X aa H b) (ho:∀ b∈fp,∃ o,s.heap.get? b=some o/\∀ v,o.data≠.cell v):Inv X (aa++fE fp s.heap) O H s :=
 I.nM λp hp=>(Gd.mp hp).elim (λz=>I.pin p (Gr _ z)) λz=>by
  obtain ⟨hb,e⟩:=qb z
  obtain ⟨f0,f1,f2,_⟩:=hf p.1 hb
  obtain ⟨o,e',d⟩:=ho p.1 hb
  rw [e] at e'; cases e'
  exact ⟨e,f0,f1,f2,d⟩
theorem Inv.cH (I:Inv X (aa++pl) O H s):Inv X aa O H s:=I.nM λp hp=>I.pin p (Gr _ (Je _ hp))
theorem zG (hp:PassesOwn (model X.prog X.w) X.A X.env X.xe) (hc:X.calm=true) (hi:PI X tg iter wi) (hg:PG X tg g) (hb:nN X body tb)
 (hs:∀ x,foldedSetIterable iter X.env x=pure x:=by intro _; rfl):PS X (.For tg iter body [] pos) (D6 wi g tb):=by
 intro aa s O H D I h
 refine wpAny_For (aZ (hi aa s O H _ I h) λv s1 h1=>aZ h1 λitv s2 h2=>?_) hs
 obtain ⟨it,fp,tn,J,H2,e,I2,T,st2,f2,W,⟨m0,w0⟩,turn⟩:=h2
 subst e
 have stat:∀ {H':Hp},(∀ b∈fp,H' b=none)->∀ b∈fp,d9 X aa H' b:=λhn b hb=>⟨hn b hb,(f2 b hb).2⟩
 refine codeAny_forLoop_any (λn s'=>∃ i O' H',Inv X aa O' H' s'/\tn i s'.heap/\(∀ b∈fp,H' b=none)/\W i n O' H') ?_ m0 ⟨0,O,H2,I2,st2,λb hb=>(f2 b hb).1,w0⟩
 rintro n s3 ⟨i,O3,H3,I3,st3,fr3,w3⟩
 rcases turn i n O3 H3 w3 with ⟨stop,qn⟩ | ⟨go,N,hN,step⟩
 ·refine Hx hp (aZ (T.done X rfl rfl rfl hc i aa s3 O3 H3 X.xe I3 (stat fr3) st3 stop) λr s4 ⟨hr,I4⟩=>?_)
  subst hr
  exact wpAny_execs_nil ⟨O3,H3,I4,qn⟩
 ·refine Hx hp (aZ (T.item X rfl rfl rfl hc i aa s3 O3 H3 X.xe I3 (stat fr3) st3 go) λr s4 ⟨u,hr,h4⟩=>?_)
  subst hr
  refine Hx hp (aZ h4 λ_ s5 ⟨x,H5,I5,r5,y5,st5,fr5⟩=>?_)
  have I5':=I5.pinned (stat fr5) (T.obj _ _ st5)
  refine Hx hp (aZ (hg _ s5 O3 H5 x u _ I5' r5 (step x H5 y5)) λ_ s6 ⟨O6,H6,I6,q6⟩=>?_)
  refine Hx hp (aZ (hb _ s6 O6 H6 _ I6 q6) λf s7 q7=>?_)
  have again:∀ {O7:St} {H7:Hp},Inv X (aa++fE fp s5.heap) O7 H7 s7->N O7 H7->∃ m,m<n/\∃ i O' H',Inv X aa O' H' s7/\tn i s7.heap/\(∀ b∈fp,H' b=none)/\W i m O' H':=λ{O7 H7} I7 n7=>by
   obtain ⟨m',hm,w7⟩:=hN O7 H7 n7
   refine ⟨m',hm,i+1,O7,H7,I7.cH,T.keep _ _ _ st5 λb hb o e=>(I7.pin (b,o) (Gr _ (Gr _ (ck hb e)))).1,λb hb=>?_,w7⟩
   obtain ⟨o,e,d⟩:=T.obj _ _ st5 b hb
   exact (I7.pin (b,o) (Gr _ (Gr _ (ck hb e)))).2.1
  cases f with
  | next=>obtain ⟨O7,H7,I7,n7⟩:=q7; exact again I7 n7
  | cont=>obtain ⟨O7,H7,I7,n7⟩:=q7; exact again I7 n7
  | brk=>obtain ⟨O7,H7,I7,q7⟩:=q7; exact ⟨O7,H7,I7.cH,q7⟩
  | ret v=>obtain ⟨x7,O7,H7,I7,r7,q7⟩:=q7; exact ⟨x7,O7,H7,I7.cH,r7,q7⟩
noncomputable abbrev R2:=V->V->Hp->VK->Prop
def c7 (X:Cx) (f:Value->Value->Sem Value) (r:R2):Prop :=
 ∀ (aa:List (Addr×Obj)) (s:Shared) (O:St) (H:Hp) (x y:V) (v u:Value) (Q:VK),Inv X aa O H s->RelV x v->RelV y u->r x y H Q ->
  wpAny (model X.prog X.w) X.A (f v u) (EP X aa O Q) X.xe s
def D7 (X:Cx) (f:Value->Sem Value) (r:V->Hp->VK->Prop):Prop :=
 ∀ (aa:List (Addr×Obj)) (s:Shared) (O:St) (H:Hp) (x:V) (v:Value) (Q:VK),Inv X aa O H s->RelV x v->r x H Q ->
  wpAny (model X.prog X.w) X.A (f v) (EP X aa O Q) X.xe s
def ef (X:Cx) (f:Value) (r:List V->Hp->VK->Prop):Prop :=
 ∀ (aa:List (Addr×Obj)) (s:Shared) (O:St) (H:Hp) (xs:List V) (us:List Value) (Q:VK),Inv X aa O H s->Vals xs us->r xs H Q ->
  wpAny (model X.prog X.w) X.A (call f us) (EP X aa O Q) X.xe s
def Ea (X:Cx) (r:V->Hp->(Bool->Hp->Prop)->Prop):Prop :=
 ∀ (aa:List (Addr×Obj)) (s:Shared) (O:St) (H:Hp) (x:V) (v:Value) (Q:Bool->Hp->Prop),Inv X aa O H s->RelV x v->r x H Q ->
  wpAny (model X.prog X.w) X.A (truthy v) (TP X aa O Q) X.xe s
noncomputable def DI (r:R2) (ta tb:TE):TE:=λO H Q=>ta O H λx H1=>tb O H1 λy H2=>r x y H2 Q
noncomputable def E1 (r:V->Hp->VK->Prop) (ta:TE):TE:=λO H Q=>ta O H λx H1=>r x H1 Q
noncomputable def rI (C:Int->Int->Prop) (g:Int->Int->V):R2:=λx y H Q=>∃ i j,x=.int i/\y=.int j/\C i j/\Q (g i j) H
noncomputable def vM (g:Int->Int->V):R2:=λx y H Q=>∃ i j,x=.int i/\y=.int j/\Q (g i j) H
noncomputable def rU (g:Int->V):V->Hp->VK->Prop:=λx H Q=>∃ i,x=.int i/\Q (g i) H
theorem zH (ha:PE X a ta) (hb:PE X b tb) {R:V->V->Hp->Prop} (I:Inv X aa O H s)
 (h:ta O H λx H1=>tb O H1 λy H2=>R x y H2) {f:Value->Value->Sem Value}
 (hf:∀ v u s2 x y H2,Inv X aa O H2 s2->RelV x v->RelV y u->R x y H2->wpAny (model X.prog X.w) X.A (f v u) Q X.xe s2) :
 wpAny (model X.prog X.w) X.A (eval a X.env) (λv s₁=>wpAny (model X.prog X.w) X.A (eval b X.env) (λu s₂=>wpAny (model X.prog X.w) X.A (f v u) Q X.xe s₂) X.xe s₁) X.xe s:=by
 refine aZ (ha aa s O H _ I h) λv s1 ⟨x,H1,I1,r1,q1⟩=>?_
 refine aZ (hb aa s1 O H1 _ I1 q1) λu s2 ⟨y,H2,I2,r2,q2⟩=>?_
 exact hf v u s2 x y H2 I2 r1 r2 q2
theorem yx (ho:c7 X (binaryOp op) r) (ha:PE X a ta) (hb:PE X b tb):PE X (.BinOp a op b pos) (DI r ta tb):=by
 intro aa s O H Q I h
 exact wpAny_BinOp (zH ha hb I h λv u s2 x y H2 I2 rx ry q=>ho aa s2 O H2 x y v u Q I2 rx ry q)
theorem Cc (ho:D7 X (unaryOp op) r) (ha:PE X a ta):PE X (.UnaryOp op a pos) (E1 r ta):=by
 intro aa s O H Q I h
 exact UnaryOp_ (aZ (ha aa s O H _ I h) λv s1 ⟨x,H1,I1,r1,q1⟩=>ho aa s1 O H1 x v Q I1 r1 q1)
theorem Cd {g:Int->Int->Int}
 (rule:∀ (i j:Int) (t u:Tok) (s:Shared) (Q:Value->Shared->Prop) (E:Value->Shared->Prop),C i j->Q (.int (g i j) s.toks) { s with toks:=s.toks+1 }->wpAny (model X.prog X.w) X.A (f (.int i t) (.int j u)) Q E s) :
 c7 X f (rI C λi j=>.int (g i j)):=by
 intro aa s O H x y v u Q I rx ry h
 obtain ⟨i,j,rfl,rfl,hc,q⟩:=h
 obtain ⟨t,rfl⟩:=rx
 obtain ⟨t',rfl⟩:=ry
 exact rule i j t t' s _ _ hc ⟨.int (g i j),H,I.tok _,⟨_,rfl⟩,q⟩
theorem zI {g:Int->Int->Int}
 (rule:∀ (i j:Int) (t u:Tok) (s:Shared) (Q:Value->Shared->Prop) (E:Value->Shared->Prop),Q (.int (g i j) s.toks) { s with toks:=s.toks+1 }->wpAny (model X.prog X.w) X.A (f (.int i t) (.int j u)) Q E s) :
 c7 X f (vM λi j=>.int (g i j)):=by
 intro aa s O H x y v u Q I rx ry h
 obtain ⟨i,j,rfl,rfl,q⟩:=h
 obtain ⟨t,rfl⟩:=rx
 obtain ⟨t',rfl⟩:=ry
 exact rule i j t t' s _ _ ⟨.int (g i j),H,I.tok _,⟨_,rfl⟩,q⟩
theorem Ce {g:Int->Int->Bool}
 (rule:∀ (i j:Int) (t u:Tok) (s:Shared) (Q:Value->Shared->Prop) (E:Value->Shared->Prop),Q (.bool (g i j)) s->wpAny (model X.prog X.w) X.A (f (.int i t) (.int j u)) Q E s) :
 c7 X f (vM λi j=>.bl (g i j)):=by
 intro aa s O H x y v u Q I rx ry h
 obtain ⟨i,j,rfl,rfl,q⟩:=h
 obtain ⟨t,rfl⟩:=rx
 obtain ⟨t',rfl⟩:=ry
 exact rule i j t t' s _ _ ⟨.bl (g i j),H,I,rfl,q⟩
def zJ (i j:Int):Prop:=0<=j/\j<=1000000/\i.natAbs<2 ^ 64
theorem mJ (k):(0:Int)<=2 ^ k:=by
 rw [two_pow_cast]
 exact Int.natCast_nonneg _
theorem zK:c7 X (binaryOp .Add) (vM λi j=>.int (i+j)):=zI λ_ _ _ _ _ _ _ q=>add_int q
theorem zL:c7 X (binaryOp .Sub) (vM λi j=>.int (i - j)):=zI λ_ _ _ _ _ _ _ q=>sub_int q
theorem zM:c7 X (binaryOp .Mod) (rI (λ_ j=>0<j) λi j=>.int (i % j)):=Cd λi j _ _ _ _ _ hc q=>by
 have h1:(0:Int)<j:=hc
 exact mod_int' (by lia) (by rw [Int.fmod_eq_emod_of_nonneg i (by lia)]; exact q)
theorem zN:c7 X (binaryOp .Pow) (rI zJ λi j=>.int (i ^ j.toNat)):=Cd λ_ _ _ _ _ _ _ hc q=>pow_int_small hc.1 hc.2.1 hc.2.2 q
theorem zO:c7 X (binaryOp .RShift) (rI (λ_ j=>0<=j) λi j=>.int (i / 2 ^ j.toNat)):=Cd λi j _ _ _ _ _ hc q =>
 rshift_int hc (by rw [IW i (mJ _)]; exact q)
theorem zP:c7 X (binaryOp .BitAnd) (vM λi j=>.int (Jp i j)):=zI λ_ _ _ _ _ _ _ q=>and_int q
theorem E2 {g:Int->Int}
 (rule:∀ (i:Int) (t:Tok) (s:Shared) (Q:Value->Shared->Prop) (E:Value->Shared->Prop),Q (.int (g i) s.toks) { s with toks:=s.toks+1 }->wpAny (model X.prog X.w) X.A (f (.int i t)) Q E s) :
 D7 X f (rU λi=>.int (g i)):=by
 intro aa s O H x v Q I rx h
 obtain ⟨i,rfl,q⟩:=h
 obtain ⟨t,rfl⟩:=rx
 exact rule i t s _ _ ⟨.int (g i),H,I.tok _,⟨_,rfl⟩,q⟩
theorem zQ:D7 X (unaryOp .USub) (rU λi=>.int (-i)):=E2 λ_ _ _ _ _ q=>neg_int q
noncomputable def vW:V->V->Bool
 | .non,.non=>true | .non,.int _=>true | .int _,.non=>true | .non,.bl _=>true | .bl _,.non=>true | .non,.str _=>true | .str _,.non=>true
 | .int _,.int _=>true | .bl _,.bl _=>true | .str _,.str _=>true | .byt _,.byt _=>true
 | .int _,.str _=>true | .str _,.int _=>true | .bl _,.str _=>true | .str _,.bl _=>true
 | _,_=>false
noncomputable def E3:R2:=λx y H Q=>vW x y=true/\Q (.bl (decide (x=y))) H
noncomputable def E4:R2:=λx y H Q=>vW x y=true/\Q (.bl (!decide (x=y))) H
theorem nP:decide (V.int i=V.int j)=(i == j):=by
 rw [IE]
 simp
theorem rR:decide (V.bl i=V.bl j)=(i == j):=by
 rw [IE]
 simp
theorem nQ:decide (V.str i=V.str j)=(i == j):=by
 rw [IE]
 simp
theorem nR:decide (V.byt i=V.byt j)=(i.toList == j.toList):=by
 rw [IE]
 cases i
 cases j
 simp
theorem aG (I:Inv X aa O H s) (q:Q (.bl k) H) (e:k=k'):EP X aa O Q (.bool k') s:=by
 subst e
 exact ⟨.bl k,H,I,rfl,q⟩
theorem Cf:c7 X (compareOp .Eq) E3:=by
 intro aa s O H x y v u Q I rx ry h
 obtain ⟨hs,q⟩:=h
 cases x with
 | non =>
  cases rx
  cases y with
  | non=>cases ry; exact PySem.EqNone.eq_none_none (aG I q (by simp))
  | bl j=>cases ry; exact PySem.EqNone.eq_none_bool (aG I q (by simp))
  | int j=>obtain ⟨t',rfl⟩:=ry; exact PySem.EqNone.eq_none_int (aG I q (by simp))
  | str j=>obtain ⟨t',rfl⟩:=ry; exact PySem.EqNone.eq_none_str (aG I q (by simp))
  | _=>exact absurd (show false=true from hs) Fv
 | bl i =>
  cases rx
  cases y with
  | non=>cases ry; exact PySem.EqNone.eq_bool_none (aG I q (by simp))
  | bl j=>cases ry; exact eq_bool (aG I q rR)
  | str j=>obtain ⟨t',rfl⟩:=ry; exact PySem.EqMixed.eq_bool_str (aG I q (by simp))
  | _=>exact absurd (show false=true from hs) Fv
 | int i =>
  obtain ⟨t,rfl⟩:=rx
  cases y with
  | non=>cases ry; exact PySem.EqNone.eq_int_none (aG I q (by simp))
  | int j=>obtain ⟨t',rfl⟩:=ry; exact eq_int (aG I q nP)
  | str j=>obtain ⟨t',rfl⟩:=ry; exact PySem.EqMixed.eq_int_str (aG I q (by simp))
  | _=>exact absurd (show false=true from hs) Fv
 | str i =>
  obtain ⟨t,rfl⟩:=rx
  cases y with
  | non=>cases ry; exact PySem.EqNone.eq_str_none (aG I q (by simp))
  | bl j=>cases ry; exact PySem.EqMixed.eq_str_bool (aG I q (by simp))
  | int j=>obtain ⟨t',rfl⟩:=ry; exact PySem.EqMixed.eq_str_int (aG I q (by simp))
  | str j=>obtain ⟨t',rfl⟩:=ry; exact eq_str (aG I q nQ)
  | _=>exact absurd (show false=true from hs) Fv
 | byt i =>
  obtain ⟨t,rfl⟩:=rx
  cases y with
  | byt j=>obtain ⟨t',rfl⟩:=ry; exact PySem.W.eq_bytes (aG I q nR)
  | _=>exact absurd (show false=true from hs) Fv
 | _=>cases y <;> exact absurd (show false=true from hs) Fv
theorem Cg:c7 X (compareOp .NotEq) E4:=by
 intro aa s O H x y v u Q I rx ry h
 obtain ⟨hs,q⟩:=h
 cases x with
 | non =>
  cases rx
  cases y with
  | non=>cases ry; exact PySem.EqNone.ne_none_none (aG I q (by simp))
  | bl j=>cases ry; exact PySem.EqNone.ne_none_bool (aG I q (by simp))
  | int j=>obtain ⟨t',rfl⟩:=ry; exact PySem.EqNone.ne_none_int (aG I q (by simp))
  | str j=>obtain ⟨t',rfl⟩:=ry; exact PySem.EqNone.ne_none_str (aG I q (by simp))
  | _=>exact absurd (show false=true from hs) Fv
 | bl i =>
  cases rx
  cases y with
  | non=>cases ry; exact PySem.EqNone.ne_bool_none (aG I q (by simp))
  | bl j=>cases ry; exact ne_bool (aG I q (congrArg not rR))
  | str j=>obtain ⟨t',rfl⟩:=ry; exact PySem.EqMixed.ne_bool_str (aG I q (by simp))
  | _=>exact absurd (show false=true from hs) Fv
 | int i =>
  obtain ⟨t,rfl⟩:=rx
  cases y with
  | non=>cases ry; exact PySem.EqNone.ne_int_none (aG I q (by simp))
  | int j=>obtain ⟨t',rfl⟩:=ry; exact ne_int (aG I q (congrArg not nP))
  | str j=>obtain ⟨t',rfl⟩:=ry; exact PySem.EqMixed.ne_int_str (aG I q (by simp))
  | _=>exact absurd (show false=true from hs) Fv
 | str i =>
  obtain ⟨t,rfl⟩:=rx
  cases y with
  | non=>cases ry; exact PySem.EqNone.ne_str_none (aG I q (by simp))
  | bl j=>cases ry; exact PySem.EqMixed.ne_str_bool (aG I q (by simp))
  | int j=>obtain ⟨t',rfl⟩:=ry; exact PySem.EqMixed.ne_str_int (aG I q (by simp))
  | str j=>obtain ⟨t',rfl⟩:=ry; exact ne_str (aG I q (congrArg not nQ))
  | _=>exact absurd (show false=true from hs) Fv
 | byt i =>
  obtain ⟨t,rfl⟩:=rx
  cases y with
  | byt j=>obtain ⟨t',rfl⟩:=ry; exact PySem.W.ne_bytes (aG I q (congrArg not nR))
  | _=>exact absurd (show false=true from hs) Fv
 | _=>cases y <;> exact absurd (show false=true from hs) Fv
theorem Ci:c7 X (compareOp .Lt) (vM λi j=>.bl (decide (i<j))):=Ce λ_ _ _ _ _ _ _ q=>lt_int q
theorem Cj:c7 X (compareOp .Gt) (vM λi j=>.bl (decide (j<i))):=Ce λ_ _ _ _ _ _ _ q=>gt_int q
theorem c7.or (h:c7 X f r) (h':c7 X f r'):c7 X f (λx y H Q=>r x y H Q\/r' x y H Q):=by
 intro aa s O H x y v u Q I rx ry q
 rcases q with q | q
 ·exact h aa s O H x y v u Q I rx ry q
 ·exact h' aa s O H x y v u Q I rx ry q
theorem gF (b) (h:op≠.In:=by decide) (h2:op≠.NotIn:=by decide):behindInMarks op b=false:=by
 have e1:(op == CmpOp.In)=false:=by cases op <;> first | rfl | exact absurd rfl h
 have e2:(op == CmpOp.NotIn)=false:=by cases op <;> first | rfl | exact absurd rfl h2
 cases b <;> simp [behindInMarks,e1,e2]
theorem vX (ho:c7 X (compareOp op) r) (ha:PE X a ta) (hb:PE X b tb) (hm:behindInMarks op b=false):PE X (.Compare a [op] [b] pos) (DI r ta tb):=by
 intro aa s O H Q I h
 exact wpAny_Compare1 (zH ha hb I h λv u s2 x y H2 I2 rx ry q=>ho aa s2 O H2 x y v u Q I2 rx ry q) hm
noncomputable def Ck (t:TE):TT:=λO H Q=>t O H λx H'=>∃ k,x=.bl k/\Q k H'
theorem vY (ho:c7 X (compareOp op) r) (ha:PE X a ta) (hb:PE X b tb) (hm:behindInMarks op b=false):PT X (.Compare a [op] [b] pos) (Ck (DI r ta tb)):=by
 intro aa s O H Q I h
 refine wpAny_isTrue_Compare1 (aZ (ha aa s O H _ I h) λv s1 ⟨x,H1,I1,r1,q1⟩=>aZ (hb aa s1 O H1 _ I1 q1) λu s2 ⟨y,H2,I2,r2,q2⟩ =>
  aZ (ho aa s2 O H2 x y v u _ I2 r1 r2 q2) λc s3 ⟨z,H3,I3,r3,k,e,q3⟩=>?_) hm
 subst e
 cases r3
 exact Ib ⟨H3,I3,q3⟩
def Cm (K:Fi) (x:V) (H:Hp) (k:Bool):Prop :=
 match x with
 | .non=>k=false
 | .bl b=>k=b
 | .int i=>k=(i != 0)
 | .str y=>y.length<=sizeLine/\k=((y.length:Int) != 0)
 | .byt y=>y.size<=sizeLine/\k=((y.size:Int) != 0)
 | .ref p=>(∃ xs,dJ K H p xs/\k= !xs.isEmpty)\/(∃ xs,bO K H p xs/\k= !xs.isEmpty)\/∃ kvs,H p=some (.dK kvs)/\k= !kvs.isEmpty
 | _=>False
theorem mK (r:KV kvs vs):(!vs.isEmpty)= !kvs.isEmpty:=by
 cases r <;> rfl
theorem gG (r:Vals xs its):(!its.toArray.isEmpty)= !xs.isEmpty:=by
 cases r <;> simp
theorem jI:(sizeLine:Nat)<2 ^ 63:=by rw [sizeLine_eq]; decide
theorem zR:Ea X (λx H Q=>∃ k,Cm X.K x H k/\Q k H):=by
 intro aa s O H x v Q I rx h
 obtain ⟨k,e,q⟩:=h
 have hl:=jI
 have hs:sizeLine=16777216:=sizeLine_eq
 cases x with
 | non =>
  cases rx
  have e':k=false:=e
  subst e'
  exact truthy_none ⟨H,I,q⟩
 | bl b =>
  cases rx
  have e':k=b:=e
  subst e'
  exact Ib ⟨H,I,q⟩
 | int i =>
  obtain ⟨t,rfl⟩:=rx
  have e':k=(i != 0):=e
  subst e'
  exact PySem.P.truthy_int ⟨H,I,q⟩
 | str y =>
  obtain ⟨t,rfl⟩:=rx
  obtain ⟨hy,e'⟩:y.length<=sizeLine/\k=((y.length:Int) != 0):=e
  subst e'
  exact PySem.P.truthy_str (by lia) ⟨H,I.tok _,q⟩
 | byt y =>
  obtain ⟨t,rfl⟩:=rx
  obtain ⟨hy,e'⟩:y.size<=sizeLine/\k=((y.size:Int) != 0):=e
  subst e'
  exact PySem.W.truthy_bytes (by lia) ⟨H,I.tok _,q⟩
 | ref p =>
  cases rx
  have e':(∃ xs,dJ X.K H p xs/\k= !xs.isEmpty)\/(∃ xs,bO X.K H p xs/\k= !xs.isEmpty)\/∃ kvs,H p=some (.dK kvs)/\k= !kvs.isEmpty:=e
  rcases e' with ⟨xs,hx,e'⟩ | ⟨xs,hx,e'⟩ | ⟨kvs,hx,e'⟩
  ·subst e'
   obtain ⟨its,r,pl,hz⟩:=I.list hx
   have hlen:=r.length
   exact wpAny_truthy_list pl.isList (by simp only [FG]; lia) ⟨H,I.tok _,by rw [gG r]; exact q⟩
  ·subst e'
   obtain ⟨its,r,pl,hz⟩:=I.tuple hx
   have hlen:=r.length
   exact truthy_tuple pl (by simp only [FG]; lia) ⟨H,I.tok _,by rw [gG r]; exact q⟩
  ·subst e'
   obtain ⟨hz,hS,vs,r,m⟩:kvs.length<=sizeLine/\(p == sysModules)=false/\∃ vs,KV kvs vs/\s.heap.DictOf (bh X.prog X.w) p vs:=I.hok p _ hx
   have hlen:kvs.length=vs.length:=Hg r
   exact wpAny_truthy_dict hS m (by lia) ⟨H,I.tok _,by rw [mK r]; exact q⟩
 | _=>exact (show False from e).elim
theorem rS (ha:PE X a ta) (he:∀ whole,isTrue a X.env whole=(do let v <- whole; standAt a.pos; holding [v] (truthy v))) :
 PT X a (λO H Q=>ta O H λx H'=>∃ k,Cm X.K x H' k/\Q k H'):=by
 intro aa s O H Q I h
 exact isTrue_plain (aZ (ha aa s O H _ I h) λv s1 ⟨x,H1,I1,r1,q1⟩=>zR aa s1 O H1 x v Q I1 r1 q1) (he _)
theorem mO:c7 X (binaryOp .Add) (λx y H Q=>∃ i j,x=.str i/\y=.str j/\i.length+j.length<=sizeLine/\Q (.str (i++j)) H):=by
 intro aa s O H x y v u Q I rx ry h
 obtain ⟨i,j,rfl,rfl,hz,q⟩:=h
 obtain ⟨t,rfl⟩:=rx
 obtain ⟨t',rfl⟩:=ry
 exact add_str (λt' tk=>⟨.str (i++j),H,I.tok _,⟨_,rfl⟩,q⟩) hz
theorem vals1 (r:Vals [x] us):∃ u,us=[u]/\RelV x u:=by
 cases r with
 | cons r1 r2=>cases r2; exact ⟨_,rfl,r1⟩
theorem rT:ef X (.builtin "abs") (λxs H Q=>∃ i,xs=[.int i]/\Q (.int (if i<0 then -i else i)) H):=by
 intro aa s O H xs us Q I r h
 obtain ⟨i,rfl,q⟩:=h
 obtain ⟨u,rfl,t,rfl⟩:=vals1 r
 exact call_abs_int λu tk=>⟨.int (if i<0 then -i else i),H,I.tok _,⟨_,rfl⟩,q⟩
structure E5 (h:Heap) (x dx C:Addr) (mA:Str->Option Value):Prop where
 obj:h.get? x=some (PySem.W.instObj C dx)
 ns:h.Ns1 dx mA
 ne:dx≠x
theorem gh.some_of (r:gh (some v) o):∃ u,o=some u/\RelV v u:=by
 cases o with
 | none=>exact (show False from r).elim
 | some u=>exact ⟨u,rfl,r⟩
structure E6 (K:Fi) (C:Addr):Prop where
 pg:PySem.W.plainGet K C Str.empty=true
 hd:PySem.W.hasDictIn K C=true
 po:PySem.W.plainOver K C=true
 sa:G9 K (.ref C) "__setattr__"=some (some (.builtin "object.__setattr__"))
structure Con (K:Fi) (C:Addr) (f:Str) (v:V) (u:Value):Prop where
 at_:G9 K (.ref C) f=some (some u)
 rel:RelV v u
 get:J5 K u "__get__"=some none
 cp:PySem.W.copiedNames.contains f=false
structure Meth (K:Fi) (C:Addr) (m:Str) (f:Addr):Prop where
 at_:G9 K (.ref C) m=some (some (.ref f))
 fn:PySem.W.isFn K (.ref f)=true
 kp:HA K (.ref f)=true
section
variable {X:Cx} {aa:List (Addr×Obj)} {O:St} {H:Hp} {s:Shared} {A:Around} {E:Value->Shared->Prop} {Q:Value->Shared->Prop} {c:Value} {b:Bool}
inductive gH (K:Fi) (H:Hp):V->Value->Prop where
 | non:gH K H .non (.type "NoneType")
 | bl (x:Bool):gH K H (.bl x) (.type "bool")
 | int (i:Int):gH K H (.int i) (.type "int")
 | str (x:Str):gH K H (.str x) (.type "str")
 | flt (x:UInt64):gH K H (.flt x) (.type "float")
 | lst {a:Addr} {xs:List V} (e:H a=some (.lst xs)):gH K H (.ref a) (.type "list")
 | frz {a:Addr} {o:Obj} {xs:List V} (e:H a=some (.frz o (.lst xs))):gH K H (.ref a) (.type "list")
 | tup {a:Addr} {xs:List V} (e:H a=some (.tup xs)):gH K H (.ref a) (.type "tuple")
 | dK {a:Addr} {kvs:List (Key×V)} (e:H a=some (.dK kvs)):gH K H (.ref a) (.type "dict")
 | dT {a:Addr} {kvs:List (List Key×Addr×V)} (e:H a=some (.dT kvs)):gH K H (.ref a) (.type "dict")
 | ins {a C dx:Addr} {fs:List (Str×V)} (e:H a=some (.ins C dx fs)) (cl:E6 K C) (ha:G9 K (.ref C) "__class__"=some (some (.builtin "object.__class__")))
  (hn:J5 K (.builtin "object.__class__") "__get__"=some (some (.builtin "getset_descriptor.__get__"))) (htk:PySem.W.takesIn K (.builtin "object.__class__")=some true)
  (hm:Jr K C (.type "object")=some true):gH K H (.ref a) (.ref C)
end
structure dB (k:Nat) (A:Around):Prop where
 hd:A.handled=none
 dp:A.depth+3 * k+5<recursionLimit
 un:A.units+16 * k+200<cLine
theorem dB.mono (r:dB k A) (h:j<=k):dB j A:=⟨r.hd,by have:=r.dp; lia,by have:=r.un; lia⟩
theorem dB.deeper (r:dB (k+1) A) (env:Env):dB k (A.deeper env) :=
 ⟨r.hd,by have:=r.dp; show A.depth+1+3 * k+5<_; lia,by have:=r.un; show A.units+3+16 * k+200<_; lia⟩
theorem dB.depth (r:dB k A):A.depth<recursionLimit:=by have:=r.dp; lia
theorem dB.units (r:dB k A):A.units+64<cLine:=by have:=r.un; lia
noncomputable def Eb:TA:=λ_ H Q=>Q [] H
noncomputable def Cn (ta:TE) (tr:TA):TA:=λO H Q=>ta O H λx H1=>tr O H1 λxs H2=>Q (x::xs) H2
theorem fF:PA X [] Eb:=λ_ _ _ _ H Q I h=>Calls.spliced_nil ⟨[],H,I,.nil,h⟩
theorem cT (ha:PE X e te) (hr:PA X es t) (hs:starEach (e::es) X.env=(false,eval e X.env)::starEach es X.env:=by rfl):PA X (e::es) (Cn te t):=by
 intro pos aa s O H Q I h
 rw [hs]
 show wpAny _ _ (spliced ((false,eval e X.env)::backTo pos (starEach es X.env))) _ _ s
 refine J1 (aZ (ha aa s O H _ I h) λu s1 ⟨x,H1,I1,r1,q1⟩=>?_)
 exact aZ (hr pos aa s1 O H1 _ I1 q1) λus s2 ⟨xs,H2,I2,r2,q2⟩=>⟨x::xs,H2,I2,.cons r1 r2,q2⟩
noncomputable def Ec (t:TA):TE:=λO H Q=>t O H λxs H1=>xs.length<=sizeLine/\∀ p,H1 p=none->Q (.ref p) (upd H1 p (.tup xs))
noncomputable def Ed (t:TA):TE:=λO H Q=>t O H λxs H1=>xs.length<=sizeLine/\∀ p,H1 p=none->Q (.ref p) (upd H1 p (.lst xs))
theorem zS {x1} (h:PA X es t):PE X (.Tuple es x1 pos) (Ec t):=by
 intro aa s O H Q I hq
 refine wpAny_Tuple_spliced (aZ (h pos aa s O H _ I hq) λus s1 ⟨xs,H1,I1,r,z,q⟩=>⟨by rw [<- r.length]; exact z,?_⟩)
 have hf:H1 s1.heap.objs.size=none:=I1.hok.fresh (Fq _)
 refine ⟨.ref s1.heap.objs.size,upd H1 s1.heap.objs.size (.tup xs),I1.laid (t':=s1.toks) (λb u e=>Fz _ e) (Fq _) ?_,rfl,q _ hf⟩
 exact ⟨z,us,r,⟨_,FT _ rfl,rfl,_,rfl⟩⟩
theorem zT (h:PA X es t):PE X (.List es pos) (Ed t):=by
 intro aa s O H Q I hq
 refine wpAny_List_spliced (aZ (h pos aa s O H _ I hq) λus s1 ⟨xs,H1,I1,r,z,q⟩=>⟨by rw [<- r.length]; exact z,?_⟩)
 have hf:H1 s1.heap.objs.size=none:=I1.hok.fresh (Fq _)
 refine ⟨.ref s1.heap.objs.size,upd H1 s1.heap.objs.size (.lst xs),I1.laid (t':=s1.toks) (λb u e=>Fz _ e) (Fq _) ?_,rfl,q _ hf⟩
 exact ⟨z,us,0,r,FT _ rfl⟩
noncomputable abbrev Sp:=List V->Hp->VK->XK->Prop
noncomputable abbrev zU:=List Env->Hp->Shared->XK->Value->Shared->Prop
structure vZ (P:Program) (w:World) (K:Fi) (mg:Str->Option Value) (base:Heap) (A:Around) (outer:List Env) (s:Shared) (H:Hp):Prop where
 frames:A.frames=some outer
 mod:Mod K mg base
 bs:∀ b o,base.get? b=some o->s.heap.get? b=some o/\H b=none
 bsz:base.objs.size<=s.heap.objs.size
 gi:s.heap.FunFrames base outer
 frf:∀ b∈frs outer,H b=none
 hok:fC P w H s.heap
 bare:AllBare s.gens
def CE (outer:List Env) (P:Program) (w:World) (H:Hp) (s:Shared) (Q:VK) (u:Value) (s':Shared):Prop :=
 ∃ v H',s'.os=s.os/\AllBare s'.gens/\Un (frs outer) [] H H' s.heap s'.heap/\fC P w H' s'.heap/\RelV v u/\Q v H'
def CR (CX:zU) (outer:List Env) (P:Program) (w:World) (H:Hp) (s:Shared) (Q:VK) (E:XK) (r:Result) (s':Shared):Prop :=
 match r with
 | .ok (.ret u)=>CE outer P w H s Q u s'
 | .ok _=>False
 | .error e=>CX outer H s E e s'
structure bD (P:Program) (w:World) (K:Fi) (mg:Str->Option Value) (base:Heap) (CX:zU) (k:Nat) (f:Addr) (fd:FuncData) (ps:List Str) (sp:Sp):Prop where
 len:∀ vs H Q E,sp vs H Q E->vs.length=ps.length
 run:∀ (A:Around) (outer:List Env) (s:Shared) (H:Hp) (args:Args) (us:List Value) (vs:List V) (Q:VK) (E:XK),dB k A->vZ P w K mg base A outer s H->BindsTo s fd args (ps.zip us)->Vals vs us->sp vs H Q E ->
  codeAny (model P w) A (.call (.ref f) args) (CR CX outer P w H s Q E) s
theorem bD.mono {K:Fi} (F:bD P w K mg base CX j f fd ps sp) (h:j<=k) :
 bD P w K mg base CX k f fd ps sp:=⟨F.len,λA outer s H args us vs Q E hr=>F.run A outer s H args us vs Q E (hr.mono h)⟩
theorem Inv.Ef (I:Inv X aa O H s):vZ X.prog X.w X.K X.mg X.base X.A X.stack s H :=
 ⟨I.ok.frames,I.ok.mod,I.bs,Fy I.ok.bsz I.sz,I.stack,I.nL,I.hok,I.bare⟩
theorem Inv.after (I:Inv X aa O H s) (h:CE X.stack X.prog X.w H s Q u s'):EP X aa O Q u s':=by
 obtain ⟨v,H',os,bare,un,hok,r,q⟩:=h
 obtain ⟨hh,g,d,t,os'⟩:=s'
 obtain rfl:os'=s.os:=os
 exact ⟨v,H',I.call (h':=hh) (g':=g) (d':=d) (t':=t) (ch:=[]) un hok bare (λb z=>absurd z (by simp)),r,q⟩
def Binds (K:Fi) (fd:FuncData) (ps:List Str) (ds:List Value):Prop :=
 ∀ (s:Shared) (us:List Value),K.In s.heap->(us++ds).length=ps.length->BindsTo s fd ⟨us,[]⟩ (ps.zip (us++ds))
theorem Binds.all {K:Fi} (h:∀ us:List Value,us.length=ps.length->bindArgs fd ⟨us,[]⟩=pure (ps.zip us)):Binds K fd ps []:=λs us _ hl=>by
 rw [GV] at hl |-
 exact .of_eq (h us hl)
section
variable {X:Cx} {CX:zU} {k:Nat} {f C:Addr} {fd:FuncData} {ps:List Str} {sp:Sp} {dvs:List V} {ds:List Value} {E:XK} {x m:Str} {p pos apos:Pos} {e o:Expr} {es:List Expr} {ta:TE} {t:TA}
structure Mk (K:Fi) (C f:Addr):Prop where
 makes:PySem.W.makesIn K C=true
 init:G9 K (.ref C) "__init__"=some (some (.ref f))
 fn:PySem.W.isFn K (.ref f)=true
 kp:HA K (.ref C)=true
end
section
variable {X:Cx} {CX:zU} {k:Nat} {f C:Addr} {fd:FuncData} {ps ks:List Str} {sp:Sp} {E:XK} {x m:Str} {p pos apos kpos:Pos} {e o:Expr} {es:List Expr} {kws:List Keyword} {te ta:TE} {t tk:TA} {nm:Option Str}
structure Eg (K:Fi) (fd:FuncData) (ps ks:List Str) (g:List Value->List Value->List Value) (gV:List V->List V->List V):Prop where
 to:∀ (s:Shared) (us ws:List Value),K.In s.heap->(g us ws).length=ps.length->BindsTo s fd ⟨us,ks.zip ws⟩ (ps.zip (g us ws))
 rel:∀ {vs:List V} {us:List Value} {zs:List V} {ws:List Value},Vals vs us->Vals zs ws->Vals (gV vs zs) (g us ws)
end
structure jJ (N P:List Str) (sc:Scope):Prop where
 kind:sc.kind=.function
 co:sc.isCoroutine=false
 gen:sc.isGenerator=false
 nd:N.Nodup
 pre:N.take P.length=P
 par:∀ x∈P,sc.names.lookup x=some .local\/sc.names.lookup x=some .cell
 nofree:∀ y∈sc.names,y.2≠.free
theorem ja {kindOf:Str->Option NameKind}:∀ {binds:List (Str×Value)} {m:Str->Option Value},(∀ v,(x,v)∉binds)->bindL kindOf binds m x=m x
 | [],_,_=>rfl
 | (n,v)::r,m,h=>by
  unfold bindL
  rw [ja λw hw=>h w (FL _ hw)]
  split
  ·have:x≠n:=by rintro rfl; exact h v FF
   simp [this]
  ·rfl
theorem jb {kindOf:Str->Option NameKind}:∀ {binds:List (Str×Value)} {m:Str->Option Value},(∀ v,(x,v)∉binds)->bindC kindOf binds m x=m x
 | [],_,_=>rfl
 | (n,v)::r,m,h=>by
  unfold bindC
  rw [jb λw hw=>h w (FL _ hw)]
  split
  ·rfl
  ·have:x≠n:=by rintro rfl; exact h v FF
   simp [this]
theorem jc {kindOf:Str->Option NameKind}:∀ {P:List Str} {vs:List Value} {i:Nat} {m:Str->Option Value},P.Nodup->P[i]?=some x->vs[i]?=some v->kindOf x=some .local ->
 bindL kindOf (P.zip vs) m x=some v
 | [],_,_,_,_,h,_,_=>by simp at h
 | _::_,[],_,_,_,_,h,_=>by simp at h
 | p::P,w::vs,0,m,nd,h1,h2,hk=>by
  simp at h1 h2; subst h1; subst h2
  show bindL kindOf ((p,w)::P.zip vs) m p=_
  unfold bindL
  rw [ja λv hv=>(Ie.mp nd).1 (List.of_mem_zip hv).1,if_pos hk]
  simp
 | p::P,w::vs,i+1,m,nd,h1,h2,hk=>by
  show bindL kindOf ((p,w)::P.zip vs) m x=_
  unfold bindL
  exact jc (i:=i) (Ie.mp nd).2 (by simpa using h1) (by simpa using h2) hk
theorem jd {kindOf:Str->Option NameKind}:∀ {P:List Str} {vs:List Value} {i:Nat} {m:Str->Option Value},P.Nodup->P[i]?=some x->vs[i]?=some v->kindOf x≠some .local ->
 bindC kindOf (P.zip vs) m x=some v
 | [],_,_,_,_,h,_,_=>by simp at h
 | _::_,[],_,_,_,_,h,_=>by simp at h
 | p::P,w::vs,0,m,nd,h1,h2,hk=>by
  simp at h1 h2; subst h1; subst h2
  show bindC kindOf ((p,w)::P.zip vs) m p=_
  unfold bindC
  rw [jb λv hv=>(Ie.mp nd).1 (List.of_mem_zip hv).1,if_neg hk]
  simp
 | p::P,w::vs,i+1,m,nd,h1,h2,hk=>by
  show bindC kindOf ((p,w)::P.zip vs) m x=_
  unfold bindC
  exact jd (i:=i) (Ie.mp nd).2 (by simpa using h1) (by simpa using h2) hk
noncomputable def start (N:List Str) (vs:List V):St:=vs.map some++FW (N.length - vs.length) none
noncomputable def qc (CX:zU) (P:Program) (w:World) (K:Fi) (mg:Str->Option Value) (base:Heap) (N:List Str) (qual:Str) (scope:Scope) (f:Addr) (cd:Value) (A:Around) (outer:List Env) (s:Shared) (H:Hp) (E:XK):Cx where
 prog:=P
 w:=w
 K:=K
 mg:=mg
 base:=base
 A:=A.deeper (envOfC qual scope s.heap.objs.size f cd)
 N:=N
 s₀:=s
 H₀:=H
 env:=envOfC qual scope s.heap.objs.size f cd
 outer:=outer
 stack:=envOfC qual scope s.heap.objs.size f cd::outer
 ex:=[]
 calm:=true
 fn:=λ_=>true
 pn:=[]
 xe:=λe s'=>wpAny (model P w) (A.deeper (envOfC qual scope s.heap.objs.size f cd)) (leaving (envOfC qual scope s.heap.objs.size f cd) e) (λ_ s''=>CX outer H s E e s'') (λe' s''=>CX outer H s E e' s'') s'
theorem kI {sc:Scope} (h:sc.names.lookup x=some .cell):∃ c,(cellsFrom n sc.names []).lookup x=some c:=by
 have q:=PySem.W.cellsFrom_some sc.names n [] (.inl h)
 exact Option.isSome_iff_exists.mp q
theorem qd {K:Fi}
 (S:jJ N ps scope) (hd:A.handled=none) (e0:vZ P w K mg base A outer s H) (hl:vs.length=ps.length) (r:Vals vs us)
 (x:InCallC s s.heap.objs.size (bindL (envOfC qual scope s.heap.objs.size f cd).kindOf (ps.zip us) λ_=>none) (cellsFrom (s.heap.objs.size+1) scope.names []) (bindC (envOfC qual scope s.heap.objs.size f cd).kindOf (ps.zip us) λ_=>none) s1) :
 Inv (qc CX P w K mg base N qual scope f cd A outer s H E) [] (start N vs) H s1:=by
 have hpl:ps.length<=N.length:=by have:=congrArg List.length S.pre; rw [Gh] at this; lia
 obtain ⟨h1,tk,rfl,hk⟩:=x.done
 have noA:∀ b:Addr,b∉(qc CX P w K mg base N qual scope f cd A outer s H E).ex:=λb z=>absurd (show b∈([]:List Addr) from z) (by simp)
 refine ⟨⟨e0.mod,S.kind,rfl,rfl,Fq _,λy z c h1 h2=>?_,λy hy=>?_,λy c _ h=>?_,λ_=>hd,Around.frames_deeper e0.frames,.inr ⟨rfl,rfl⟩,λb z=>absurd z (noA b),e0.bs,e0.bsz,λb _ _=>noA b,λb z=>absurd z (noA b),e0.gi,e0.frf⟩,
  rfl,e0.bare,Un.kept hk,⟨_,x.toInCall.ns,λi y v h1 h2 h3=>?_⟩,λy c h=>⟨_,x.cell y c h⟩,e0.hok.fresh (Fq _),λy c h=>?_,λp hp=>absurd (show p∈([]:List (Addr×Obj)) from hp) (by simp),e0.hok.kept hk,?_⟩
 ·exact name_of_addr x.apart (Im h1) (Im h2)
 ·have hy:scope.names.lookup y=some .cell\/scope.names.lookup y=some .free:=hy
  rcases hy with hy | hy
  ·exact kI hy
  ·exact absurd rfl (S.nofree _ (Im hy))
 ·exact GN (x.above y c (Im h))
 ·have hi:i<vs.length:=by
   unfold start at h2
   by_cases hi:i<vs.length
   ·exact hi
   ·rw [IV (by simpa using hi)] at h2
    rw [List.getElem?_replicate] at h2
    split at h2 <;> cases h2
  have ha:vs[i]?=some v:=by
   unfold start at h2
   rw [Ii (by simpa using hi),FN] at h2
   cases e:vs[i]? with
   | none=>rw [e] at h2; cases h2
   | some a=>rw [e] at h2; cases h2; rfl
  obtain ⟨u,hu,rv⟩:=r.get ha
  have hp:ps[i]?=some y:=by
   rw [<- S.pre,IZ (by lia)]; exact h1
  have ndP:ps.Nodup:=by rw [<- S.pre]; exact S.nd.sublist (Jg _ _)
  refine ⟨u,rv,?_⟩
  rcases S.par y (Ik hp) with k | k
  ·exact .inl ⟨k,jc ndP hp hu k⟩
  ·obtain ⟨c,e⟩:=kI (n:=s.heap.objs.size+1) k
   refine .inr ⟨.inl k,c,e,?_⟩
   have q:=x.cell y c e
   rw [jd ndP hp hu (by show scope.names.lookup y≠_; rw [k]; decide)] at q
   exact q
 ·exact e0.hok.fresh (GN (x.above y c (Im h)))
 ·unfold start
  show _=N.length
  rw [Gz,Fx,List.length_replicate]
  lia
theorem Co {K:Fi} {dV kV doc pm cdv ct oc:Value}
 (lk:K.lookup f=some ⟨oc,od,.func (Hh name qual params body scope dV kV doc pm an cdv ct),osl⟩) (hcd:Jl K cdv qual=true) (S:jJ N ps scope)
  (len:∀ vs H Q E,sp vs H Q E->vs.length=ps.length)
  (hbody:∀ (A:Around) (outer:List Env) (s:Shared) (H:Hp) (vs:List V) (Q:VK) (E:XK),dB k (A.deeper (envOfC qual scope s.heap.objs.size f cdv))->sp vs H Q E ->
    ∃ t,nN (qc CX P w K mg base N qual scope f cdv A outer s H E) body t/\t { nx:=λ_ H'=>Q .non H',rt:=Q } (start N vs) H) :
  bD P w K mg base CX (k+1) f (Hh name qual params body scope dV kV doc pm an cdv ct) ps sp:=by
  refine ⟨len,λA outer s H args us vs Q E hr e0 hb r mq=>?_⟩
  have hl:=len _ _ _ _ mq
  have KX:K.In s.heap:=e0.mod.kin.keeps λb o e=>(e0.bs b o e).1
  have lim:s.heap.NoLimit:=e0.mod.nolimit.keeps λb o e=>(e0.bs b o e).1
  have hkind:∀ y∈ps.zip us,scope.names.lookup y.1=some .local\/(scope.names.lookup y.1=some .cell/\((cellsFrom (s.heap.objs.size+1) scope.names []).lookup y.1).isSome=true):=λ⟨n,v⟩ hy=>by
   rcases S.par n (List.of_mem_zip hy).1 with q | q
   ·exact .inl q
   ·exact .inr ⟨q,PySem.W.cellsFrom_some _ _ _ (.inl q)⟩
  refine codeAny_call_function hr.depth (KX _ _ lk) rfl S.co S.gen rfl (PySem.W.codeRec_of KX hcd) (hb _ _ _ _ ?_)
  refine wpAny_newFunctionEnv_cells S.kind hkind λenv he s1 x=>?_
  subst he
  refine ⟨lim.keeps x.toInCall.keep,codeAny_func ?_⟩
  obtain ⟨t,ht,hq⟩:=hbody A outer s H vs Q E (hr.deeper _) mq
  have I:Inv (qc CX P w K mg base N qual scope f cdv A outer s H E) [] (start N vs) H s1:=qd S hr.hd e0 hl r x
  refine Gk (ht [] s1 (start N vs) H _ I hq) (λfl s' hs=>?_) λe s' hs=>hs
  have fin:∀ {O':St} {H':Hp} {v:V} {u:Value},Inv (qc CX P w K mg base N qual scope f cdv A outer s H E) [] O' H' s'->RelV v u->Q v H'->CE outer P w H s Q u s' :=
   λ{O' H' v u} J rv q=>⟨v,H',J.os,J.bare,J.base,J.hok,rv,q⟩
  cases fl with
  | ret u =>
   obtain ⟨v,O',H',J,rv,q⟩:=hs
   exact fin J rv q
  | next =>
   obtain ⟨O',H',J,q⟩:=hs
   exact fin (v:=V.non) (u:=Gx) J rfl q
  | brk =>
   obtain ⟨_,_,_,q⟩:=hs
   exact GZ q
  | cont =>
   obtain ⟨_,_,_,q⟩:=hs
   exact GZ q
section
variable {id T:String}
noncomputable def EO (r:List V->Hp->VK->Prop) (t:TA):TE:=λO H Q=>t O H λvs H1=>r vs H1 Q
theorem rV (hc:ef X (.builtin id) r) (hg:Gl X x) (hm:X.mg x=none) (hv:bootBuiltins x=some (.builtin id)) (ha:PA X (e::es) t) (hn:x≠"__name__":=by decide) (hdb:(x == ("__debug__":Str))=false:=by decide)
 (he:starEach (e::es) X.env=(false,eval e X.env)::starEach es X.env:=by rfl) (hpl:(backTo pos (starEach es X.env)).any (·.1)=false:=by rfl):PE X (.Call (.Name x p) (e::es) [] pos) (EO r t):=by
 intro aa s O H Q I h
 refine Ip (dI I hg hm hv ?_ hn hdb)
 exact Kr (aZ (ha pos aa s O H _ I h) λus s1 ⟨vs,H1,I1,r1,q1⟩=>hc aa s1 O H1 vs us Q I1 r1 q1) he hpl
theorem je (hc:ef X (.type T) r) (hg:Gl X x) (hm:X.mg x=none) (hv:bootBuiltins x=some (.type T)) (ha:PA X (e::es) t) (hn:x≠"__name__":=by decide) (hdb:(x == ("__debug__":Str))=false:=by decide)
 (he:starEach (e::es) X.env=(false,eval e X.env)::starEach es X.env:=by rfl) (hpl:(backTo pos (starEach es X.env)).any (·.1)=false:=by rfl):PE X (.Call (.Name x p) (e::es) [] pos) (EO r t):=by
 intro aa s O H Q I h
 refine Ip (dI I hg hm hv ?_ hn hdb)
 exact JE (aZ (ha pos aa s O H _ I h) λus s1 ⟨vs,H1,I1,r1,q1⟩=>hc aa s1 O H1 vs us Q I1 r1 q1) he hpl
end
end L2
namespace HT
open PySem PyProof.Rows
noncomputable def lexLt:List Int->List Int->Bool
 | [],[]=>false
 | [],_::_=>true
 | _::_,[]=>false
 | x::xs,y::ys=>if x=y then lexLt xs ys else decide (x<y)
theorem cu (x y) (xs ys):lexLt (x::xs) (y::ys)=if x=y then lexLt xs ys else decide (x<y):=rfl
theorem iT:lexLt [] []=false:=rfl
theorem gI (y) (ys):lexLt [] (y::ys)=true:=rfl
theorem gJ (x) (xs):lexLt (x::xs) []=false:=rfl
theorem rX (A:Around) (s) (a) (t:Tok) (c) (u:Tok):∃ e,FE A s (.int a t) (.int c u) e/\(e=true↔a=c) :=
 ⟨(a == c),FE.int_int a t c u,by simp⟩
theorem rY (A:Around) (s) (a) (t:Tok) (c) (u:Tok) (prog) (w) (E) (Q) (h:Q (.bool (decide (a<c))) s) :
 wpAny (model prog w) A (richCompare .Lt (.int a t) (.int c u)) Q E s :=
 (PyProof.Rows.lt_int h:wpAny (model prog w) A (compareOp .Lt (.int a t) (.int c u)) Q E s)
section
open PySem.SeqAt
open PySem.AutoSeq1 (wpAny_loadPart')
open PySem.MeetsSeq PySem.MeetsSeq2 PySem.MeetsSeq3
theorem iU (l b) (items items2) (n n2) (dd dd2) (sl sl2) (ns ms) (hi:IntsAre items.toList ns) (hj:IntsAre items2.toList ms) :
 Meets (Builtin.«tuple.__lt__» ⟨[.ref l,.ref b],[]⟩)
  (λ_ R s=>s.heap.get? l=some { cls:=.type "tuple",dict:=dd,data:=.seq items n,slots:=sl }/\s.heap.get? b=some { cls:=.type "tuple",dict:=dd2,data:=.seq items2 n2,slots:=sl2 } /\
    R (.ok (.ret (.bool (lexLt ns ms)))) s) :=
 .of_wp λprog w A R s h=>by
  obtain ⟨hp,g,d,tk,os⟩:=s; obtain ⟨hl,hb,h⟩:=h
  have f2:=AutoSeq1.sub_tuple_tuple
  have z1:items.size=ns.length:=by rw [<- hi.length]; simp
  have z2:items2.size=ms.length:=by rw [<- hj.length]; simp
  wp_walk using wpAny_loadPart' hl,wpAny_loadPart' hb,wpAny_forIn_list _ (λrest b s'=>b.1=none/\s'=⟨hp,g,d,tk,os⟩/\∃ (vs ws:List Value) (ns' ms':List Int),rest=vs.zip ws /\
   IntsAre vs ns'/\IntsAre ws ms'/\ns'.length+items2.size=ms'.length+items.size/\R (.ok (.ret (.bool (lexLt ns' ms')))) ⟨hp,g,d,tk,os⟩) _
  case turn =>
   rintro ⟨y,x⟩ rest b s' ⟨hb',rfl,vs,ws,ns',ms',hz,hvi,hwi,hlen,hR⟩
   cases hvi with
   | nil=>rw [List.zip_nil_left] at hz; cases hz
   | cons a t hvi' =>
    cases hwi with
    | nil=>rw [List.zip_nil_right] at hz; cases hz
    | cons c u hwi' =>
     rw [List.zip_cons_cons] at hz
     injection hz with hyx hrest
     injection hyx with hy hx
     subst hy hx
     rw [cu] at hR
     simp only [GB] at hlen
     obtain ⟨e,he,hiff⟩:=rX A.in1 ⟨hp,g,d,tk,os⟩ a t c u
     refine Ff (he prog w _ _ ?_)
     cases e with
     | true =>
      rw [if_pos (hiff.mp rfl)] at hR
      wp_walk
      exact ⟨rfl,rfl,_,_,_,_,hrest,hvi',hwi',by lia,hR⟩
     | false =>
      rw [if_neg (λq=>absurd (hiff.mpr q) Fv)] at hR
      have hri:=rY A.in1 ⟨hp,g,d,tk,os⟩ a t c u prog w
      wp_walk using hri
      exact ⟨_,rfl,by simpa using hR⟩
  case fin =>
   rintro ⟨b1,b2⟩ s' ⟨hb',rfl,vs,ws,ns',ms',hz,hvi,hwi,hlen,hR⟩
   simp only at hb'
   subst hb'
   have hv:lexLt ns' ms'=decide (items.size<items2.size):=by
    cases hvi with
    | nil =>
     cases hwi with
     | nil =>
      simp only [G8] at hlen
      rw [iT]
      exact (decide_eq_false (by lia)).symm
     | cons c u hw =>
      simp only [G8,GB] at hlen
      rw [gI]
      exact (decide_eq_true (by lia)).symm
    | cons a t hv =>
     cases hwi with
     | nil =>
      simp only [G8,GB] at hlen
      rw [gJ]
      exact (decide_eq_false (by lia)).symm
     | cons c u hw =>
      rw [List.zip_cons_cons] at hz
      cases hz
   rw [hv] at hR
   wp_walk
   exact ⟨_,rfl,by simpa [Builtin.Tuple.tupleCompareSizes] using hR⟩
  case h =>
   exact ⟨rfl,rfl,items.toList,items2.toList,ns,ms,rfl,hi,hj,by lia,h⟩
end
theorem mP (hl:IsTup s.heap l items) (hb:IsTup s.heap b items2) (hi:IntsAre items.toList ns) (hj:IntsAre items2.toList ms)
 (hu:A.units<cLine) (h:Q (.bool (lexLt ns ms)) s):wpAny (model prog w) A (compareOp .Lt (.ref l) (.ref b)) Q E s:=by
 obtain ⟨⟨cls,dd,data,sl⟩,ho,hc,n,hd⟩:=id hl
 obtain ⟨⟨cls2,dd2,data2,sl2⟩,ho2,hc2,n2,hd2⟩:=id hb
 simp only at hc hd hc2 hd2
 subst hc hd hc2 hd2
 exact richCompare_meets_room (op:=.Lt) ⟨_,ho,rfl⟩ ⟨_,ho2,rfl⟩ PySem.F.slot_tuple_lt PySem.F.entry_tuple_lt (PySem.F.args_tuple_lt_2 _ _) (iU l b items items2 n n2 dd dd2 sl sl2 ns ms hi hj)
  ⟨ho,ho2,show Value.bool (lexLt ns ms)≠Value.notImplemented/\Q (.bool (lexLt ns ms)) s from ⟨(λx=>nomatch x),h⟩⟩ hu
noncomputable def bu (n d:Nat):Option Int->Nat
 | none=>d
 | some v=>if v<0 then (v+(n:Int)).toNat else min v.toNat n
theorem rZ (n d):bu n d none=d:=rfl
theorem v5 (n d k:Nat):bu n d (some (k:Int))=min k n:=by
 show (if (k:Int)<0 then ((k:Int)+(n:Int)).toNat else min (k:Int).toNat n)=min k n
 rw [if_neg (by lia),Gg]
theorem zV (n d) (hd:d<=n) (o):bu n d o<=n:=by
 cases o with
 | none=>exact hd
 | some v =>
  show (if v<0 then (v+(n:Int)).toNat else min v.toNat n)<=n
  by_cases hv:v<0
  ·rw [if_pos hv]; lia
  ·rw [if_neg hv]; exact Iz _ _
theorem nS (v) (n d:Nat):(if v<0 then max (v+(n:Int)) 0 else min v (n:Int))=((bu n d (some v):Nat):Int):=by
 show (if v<0 then max (v+(n:Int)) 0 else min v (n:Int))=(((if v<0 then (v+(n:Int)).toNat else min v.toNat n):Nat):Int)
 by_cases hv:v<0
 ·simp only [if_pos hv]; lia
 ·simp only [if_neg hv]; lia
theorem mQ (lo hi) (n:Nat):JG lo hi 1 (n:Int)=(((bu n 0 lo:Nat):Int),((bu n n hi:Nat):Int)):=by
 have h1:¬ ((1:Int)<0):=by lia
 unfold JG
 simp only [h1,if_false]
 refine Prod.ext ?_ ?_
 ·cases lo with
  | none=>rfl
  | some v=>exact nS v n 0
 ·cases hi with
  | none=>rfl
  | some v=>exact nS v n n
theorem mR (i j:Nat):IY (i:Int) (j:Int) 1=j - i:=by
 unfold IY
 have h1:(1:Int)>0:=by lia
 simp only [h1,if_true,Int.ediv_one]
 split <;> lia
theorem gK (p:IsPart v o) (h:Q o s):wpAny (model prog w) A (Builtin.Slice.slicePartIndex v) Q E s:=by
 cases p with
 | none=>exact slicePart_none h
 | int i t=>exact slicePart_int h
theorem cI {sl:Addr} {vl vu:Value} {lo hi:Option Int} {n:Nat} {Q:Int×Int×Nat->Shared->Prop} (hs:s.heap.IsSliceOf sl vl vu .none) (pl:IsPart vl lo) (pu:IsPart vu hi)
 (h:Q (((bu n 0 lo:Nat):Int),1,bu n n hi - bu n 0 lo) s):wpAny (model prog w) A (Builtin.Slice.sliceApplied (.ref sl) (pure (n:Int))) Q E s:=by
 obtain ⟨os,hos,hcs,hds⟩:=id hs
 unfold Builtin.Slice.sliceApplied Builtin.Slice.sliceFields
 refine Ff (Ff (GW hos hds (x:=vl) rfl (Ff (GW hos hds (x:=vu) rfl (Ff (GW hos hds (x:=.none) rfl (Fl ?_)))))))
 refine Ff (slicePart_none ?_)
 show wpAny _ _ (if ((1:Int) == 0)=true then _ else _) _ _ s
 rw [if_neg (by decide)]
 refine Ff (gK pl (Ff (gK pu (Ff (Fl ?_)))))
 show wpAny _ _ (match JG lo hi 1 (n:Int) with | (lo,hi)=>pure (lo,(1:Int),IY lo hi 1)) _ _ s
 rw [mQ lo hi n]
 show wpAny _ _ (pure (((bu n 0 lo:Nat):Int),(1:Int),IY ((bu n 0 lo:Nat):Int) ((bu n n hi:Nat):Int) 1)) _ _ s
 rw [mR]
 exact Fl h
theorem r6 (xs:Array Value) (i k:Nat):((Gf k).filterMap λ(m:Nat)=>xs[((i:Int)+(m:Int) * 1).toNat]?).toArray=((xs.toList.drop i).take k).toArray:=by
 have e:(λ(m:Nat)=>xs[((i:Int)+(m:Int) * 1).toNat]?)=λm=>xs[i+m]?:=by
  funext m
  have:((i:Int)+(m:Int) * 1).toNat=i+m:=by lia
  rw [this]
 rw [e]
 have:=pick_run xs i k
 rw [List.filterMap_map] at this
 have e2:((λx=>xs[x]?)∘λx=>i+x)=λm=>xs[i+m]?:=rfl
 rw [e2] at this
 rw [this]
theorem eB {lo hi:Option Int} (ht:IsTup s.heap t items) (hs:s.heap.IsSliceOf sl vl vu .none) (pl:IsPart vl lo) (pu:IsPart vu hi)
 (hw:¬ (bu items.size 0 lo=0/\bu items.size items.size hi=items.size))
 (h:Q (.ref s.heap.objs.size) { s with heap:=s.heap.push { cls:=.type "tuple",data:=.seq ((items.toList.drop (bu items.size 0 lo)).take (bu items.size items.size hi - bu items.size 0 lo)).toArray } })
 (hsz:items.size<=sizeLine):wpAny (model prog w) A (getItem (.ref t) (.ref sl)) Q E s:=by
 have htake:sizeOk (.seq ((items.toList.drop (bu items.size 0 lo)).take (bu items.size items.size hi - bu items.size 0 lo)).toArray):=by
  show ((items.toList.drop (bu items.size 0 lo)).take (bu items.size items.size hi - bu items.size 0 lo)).toArray.size<=sizeLine
  rw [FG,Gh,Kg,F8]
  lia
 have hj:bu items.size items.size hi<=items.size:=zV _ _ (Fq _) hi
 obtain ⟨os,hos,hcs,hds⟩:=id hs
 have hTs:s.TypeIs (.ref sl) "slice":=⟨os,hos,hcs⟩
 unfold getItem
 try with_reducible refine GK ?_
 first | refine Ff (Fl ?_) | skip
 refine Ff (J3 ht.typeIs (by decide) ?_)
 refine Ff (HP (name:=Fg "__getitem__") ht.typeIs HJ
  (G5 HJ ht.typeIs entry_tuple_getitem ?_ (args_tuple_getitem _ _)))
 show wpAny _ _ (Builtin.Tuple.tupleItemsOf (.ref t) >>= _) _ _ s
 refine Ff (tupleItemsOf_ ht ?_)
 refine Ff (Jv hTs ?_)
 rw [if_pos (by decide)]
 refine Ff (cI hs pl pu ?_)
 have hno:¬ ((((bu items.size 0 lo:Nat):Int) == 0 && (1:Int) == 1 && (bu items.size items.size hi - bu items.size 0 lo) == items.size)=true):=by
  intro q
  rw [Jj,Jj] at q
  have q1:((bu items.size 0 lo:Nat):Int)=0:=eq_of_beq q.1.1
  have q2:bu items.size items.size hi - bu items.size 0 lo=items.size:=eq_of_beq q.2
  exact hw ⟨by lia,by lia⟩
 show wpAny _ _ (if (((bu items.size 0 lo:Nat):Int) == 0 && (1:Int) == 1 && (bu items.size items.size hi - bu items.size 0 lo) == items.size)=true then _ else _) _ _ s
 rw [if_neg hno,r6]
 first
  | exact Ff (m:=I0 _) (GA (Fl ⟨_,rfl,Fl h⟩) htake)
  | exact Ff (m:=I0 _) (GA (Ff (Fl (Fl ⟨_,rfl,Fl h⟩))) htake)
  | exact Ff (Ff (m:=I0 _) (GA (Fl (Fl ⟨_,rfl,Fl h⟩)) htake))
  | exact Ff (Ff (m:=I0 _) (GA (Fl ⟨_,rfl,Fl h⟩) htake))
end HT
namespace L2
open PySem PySem.Spec PyProof.Rows
noncomputable abbrev TO:=St->Hp->(Option Int->Hp->Prop)->Prop
def PO (X:Cx) (e:Option Expr) (t:TO):Prop :=
 ∀ (aa:List (Addr×Obj)) (s:Shared) (O:St) (H:Hp) (Q:Option Int->Hp->Prop),Inv X aa O H s->t O H Q ->
  wpAny (model X.prog X.w) X.A (evalPart e X.env) (λu s'=>∃ o H',Inv X aa O H' s'/\IsPart u o/\Q o H') X.xe s
noncomputable def v7:TO:=λ_ H Q=>Q none H
noncomputable def Cp (t:TE):TO:=λO H Q=>t O H λx H1=>∃ i,x=.int i/\Q (some i) H1
theorem intsAre_of:∀ {us:List Value},Vals (ns.map V.int) us->IntsAre us ns:=by
 induction ns with
 | nil=>intro us r; rw [HD] at r; cases r; exact .nil
 | cons n ns ih =>
  intro us r
  rw [FD] at r
  cases r with
  | cons r1 r2 =>
   obtain ⟨t,e⟩:=r1
   subst e
   exact .cons n t (ih r2)
section
variable {lo hi:Option Expr}
theorem v8:PO X none v7:=by
 intro aa s O H Q I h
 rw [evalPart_none]
 exact Fl ⟨none,H,I,.none,h⟩
theorem v9 (h:PE X e te):PO X (some e) (Cp te):=by
 intro aa s O H Q I hw
 rw [evalPart_some]
 refine aZ (h aa s O H _ I hw) λu s1 ⟨x,H1,I1,r1,q1⟩=>?_
 obtain ⟨i,rfl,q⟩:=q1
 obtain ⟨t,rfl⟩:=r1
 exact ⟨some i,H1,I1,.int i t,q⟩
def vN (X:Cx) (r:V->Option Int->Option Int->Hp->VK->Prop):Prop :=
 ∀ (aa:List (Addr×Obj)) (s:Shared) (O:St) (H:Hp) (x:V) (v vl vu:Value) (lo hi:Option Int) (sl:Addr) (Q:VK),Inv X aa O H s->RelV x v->s.heap.IsSliceOf sl vl vu .none->IsPart vl lo->IsPart vu hi->r x lo hi H Q ->
  ∃ T id,typeLookup (.type T) "__getitem__"=pure (some (.builtin id))/\s.TypeIs v T/\wpAny (model X.prog X.w) X.A (getItem v (.ref sl)) (EP X aa O Q) X.xe s
theorem vN.or (h:vN X r) (h':vN X r'):vN X (λx lo hi H Q=>r x lo hi H Q\/r' x lo hi H Q):=by
 intro aa s O H x v vl vu lo hi sl Q I rx hs pl pu q
 rcases q with q | q
 ·exact h aa s O H x v vl vu lo hi sl Q I rx hs pl pu q
 ·exact h' aa s O H x v vl vu lo hi sl Q I rx hs pl pu q
noncomputable def E7 (r:V->Option Int->Option Int->Hp->VK->Prop) (te:TE) (tl th:TO):TE:=λO H Q=>te O H λx H1=>tl O H1 λl H2=>th O H2 λu H3=>r x l u H3 Q
theorem r8 (hr:vN X r) (he:PE X e te) (hl:PO X lo tl) (hu:PO X hi th):PE X (.Subscript e (.Slice lo hi none p2) pos) (E7 r te tl th):=by
 intro aa s O H Q I h
 refine Subscript_ (aZ (he aa s O H _ I h) λv s1 ⟨x,H1,I1,r1,q1⟩=>?_)
 refine wpAny_Slice (aZ (hl aa s1 O H1 _ I1 q1) λvl s2 ⟨l,H2,I2,pl,q2⟩=>aZ (hu aa s2 O H2 _ I2 q2) λvu s3 ⟨u,H3,I3,pu,q3⟩=>?_)
 rw [evalPart_none]
 refine Fl ?_
 have I4:Inv X aa O H3 { s3 with heap:=s3.heap.push { cls:=.type "slice",data:=.fields #[vl,vu,.none] } }:=I3.kept (t':=s3.toks) λb ob q=>Fz _ q
 obtain ⟨T,id,hT,ht,hg⟩:=hr aa { s3 with heap:=s3.heap.push { cls:=.type "slice",data:=.fields #[vl,vu,.none] } } O H3 x v vl vu l u s3.heap.objs.size Q I4 r1 (Heap.IsSliceOf.new ..) pl pu q3
 show wpAny (model X.prog X.w) X.A (subscriptTail e (.Slice lo hi none p2) v (.ref s3.heap.objs.size)) (EP X aa O Q) X.xe { s3 with heap:=s3.heap.push { cls:=.type "slice",data:=.fields #[vl,vu,.none] } }
 exact tail_any (ops:=[.ref s3.heap.objs.size,v]) ht hT hg (by walk_at "u")
noncomputable def jK (xs:List V) (lo hi:Option Int):List V:=(xs.drop (HT.bu xs.length 0 lo)).take (HT.bu xs.length xs.length hi - HT.bu xs.length 0 lo)
theorem fY (xs) (lo hi):(jK xs lo hi).length<=xs.length:=by
 unfold jK
 rw [Gh,Kg]
 lia
noncomputable def Eh (K:Fi):V->Option Int->Option Int->Hp->VK->Prop:=λx lo hi H Q=>∃ a xs,x=.ref a/\bO K H a xs /\
 ¬ (HT.bu xs.length 0 lo=0/\HT.bu xs.length xs.length hi=xs.length)/\∀ p,H p=none->Q (.ref p) (upd H p (.tup (jK xs lo hi)))
theorem zW:vN X (Eh X.K):=by
 intro aa s O H x v vl vu lo hi sl Q I rx hs pl pu h
 obtain ⟨a,xs,rfl,hx,hw,q⟩:=h
 cases rx
 obtain ⟨its,r,ht,hz⟩:=I.tuple hx
 have hlen:its.toArray.size=xs.length:=by rw [FG]; exact r.length.symm
 refine ⟨"tuple",_,HJ.lookup,ht.typeIs,?_⟩
 refine HT.eB ht hs pl pu (by rw [hlen]; exact hw) ?_ (by rw [hlen]; exact hz)
 rw [hlen]
 refine ⟨.ref s.heap.objs.size,_,I.laid (t':=s.toks) (o:=.tup (jK xs lo hi)) (λb ob q=>Fz _ q) (Fq _) ?_,rfl,q _ (I.hok.fresh (Fq _))⟩
 exact ⟨Fy (fY xs lo hi) hz,_,(r.drop (HT.bu xs.length 0 lo)).take (HT.bu xs.length xs.length hi - HT.bu xs.length 0 lo),IsTup.new _ _⟩
theorem Vals.nU (r:Vals xs us):us=[]↔xs=[]:=by
 cases r with
 | nil=>simp
 | cons _ _=>simp
end
noncomputable def BK (n:Nat) (i:Int):Option Nat:=if 0<=i then (if i<n then some i.toNat else none) else if -(n:Int)<=i then some (i+n).toNat else none
noncomputable def gM {α:Type} (xs:List α) (i:Int):Option α:=(BK xs.length i).bind λj=>xs[j]?
theorem wc (h:BK n i=some j):seqIndex? i n=some j/\j<n/\ -(n:Int)<=i/\i<n:=by
 unfold BK at h
 by_cases h0:0<=i
 ·rw [if_pos h0] at h
  by_cases h1:i<n
  ·rw [if_pos h1] at h
   have e:i.toNat=j:=GJ h
   exact ⟨by rw [seqIndex_of h0 h1,e],by lia,by lia,h1⟩
  ·rw [if_neg h1] at h; cases h
 ·rw [if_neg h0] at h
  by_cases h1: -(n:Int)<=i
  ·rw [if_pos h1] at h
   have e:(i+n).toNat=j:=GJ h
   exact ⟨by rw [seqIndex_neg (by lia) h1,e],by lia,h1,by lia⟩
  ·rw [if_neg h1] at h; cases h
theorem nV (h:gM xs i=some v):∃ j,seqIndex? i xs.length=some j/\xs[j]?=some v/\j<xs.length/\ -(xs.length:Int)<=i/\i<xs.length:=by
 unfold gM at h
 cases e:BK xs.length i with
 | none=>rw [e] at h; cases h
 | some j =>
  rw [e] at h
  obtain ⟨h1,h2,h3,h4⟩:=wc e
  exact ⟨j,h1,h,h2,h3,h4⟩
def gq (b:Expr):Prop:=∀ o i,subscripted b false o i=operate [o,i] (getItem o i)
def yy (X:Cx) (r:R2):Prop :=
 ∀ (value slice:Expr) (aa:List (Addr×Obj)) (s:Shared) (O:St) (H:Hp) (x y:V) (v u:Value) (Q:VK),Inv X aa O H s->RelV x v->RelV y u->r x y H Q ->
  subscripted slice false v u=operate [v,u] (getItem v u)->wpAny (model X.prog X.w) X.A (subscriptTail value slice v u) (EP X aa O Q) X.xe s
def ER (X:Cx) (id:String) (r:V->List V->Hp->VK->Prop):Prop :=
 ∀ (aa:List (Addr×Obj)) (s:Shared) (O:St) (H:Hp) (x:V) (xs:List V) (v:Value) (us:List Value) (Q:VK),Inv X aa O H s->RelV x v->Vals xs us->r x xs H Q ->
  wpAny (model X.prog X.w) X.A (call (.builtin id) (v::us)) (EP X aa O Q) X.xe s
section
theorem yy.or (h:yy X r) (h':yy X r'):yy X (λx y H Q=>r x y H Q\/r' x y H Q):=by
 intro value slice aa s O H x y v u Q I rx ry q hs
 rcases q with q | q
 ·exact h value slice aa s O H x y v u Q I rx ry q hs
 ·exact h' value slice aa s O H x y v u Q I rx ry q hs
theorem Cq (hr:yy X r) (ha:PE X a ta) (hb:PE X b tb) (hs:gq b):PE X (.Subscript a b pos) (DI r ta tb):=by
 intro aa s O H Q I h
 exact Subscript_ (zH ha hb I h λv u s2 x y H2 I2 rx ry q=>hr a b aa s2 O H2 x y v u Q I2 rx ry q (hs _ _))
noncomputable def Ei (K:Fi):R2:=λx y H Q=>∃ p xs i v,x=.ref p/\y=.int i/\dJ K H p xs/\gM xs i=some v/\Q v H
noncomputable def Ej (K:Fi):R2:=λx y H Q=>∃ p xs i v,x=.ref p/\y=.int i/\bO K H p xs/\gM xs i=some v/\Q v H
theorem we:yy X (Ei X.K):=by
 intro value slice aa s O H x y v u Q I rx ry h hs
 obtain ⟨p,xs,i,z,rfl,rfl,hq,he,q⟩:=h
 cases rx
 obtain ⟨t,rfl⟩:=ry
 obtain ⟨its,r,pl,hz⟩:=I.list hq
 obtain ⟨j,h1,h2,h3,h4,h5⟩:=nV he
 obtain ⟨w,ew,rw'⟩:=r.get h2
 have hl:=r.length
 have hn:=jI
 have fin:EP X aa O Q w s:=⟨z,H,I,rw',q⟩
 by_cases h0:0<=i
 ·have hj:i.toNat=j:=by
   rw [seqIndex_of h0 h5] at h1
   exact GJ h1
  exact item_listR pl.isList h0 (by lia) (by rw [hj]; simpa using ew) fin hs
 ·have hj:(i+(its.toArray.size:Int)).toNat=j:=by
   rw [seqIndex_neg (by lia) h4] at h1
   rw [FG,<- hl]
   exact GJ h1
  exact subscriptTail_builtinR (x:=w) pl.isList.typeIs slot_list_getitem.lookup
   (wpAny_getItem_list_neg (Q:=λr s'=>r=w/\EP X aa O Q r s') pl.isList (by lia) (by rw [FG] <;> lia) (by lia) (by rw [hj]; simpa using ew) ⟨rfl,fin⟩) hs
theorem zX:yy X (Ej X.K):=by
 intro value slice aa s O H x y v u Q I rx ry h hs
 obtain ⟨p,xs,i,z,rfl,rfl,hq,he,q⟩:=h
 cases rx
 obtain ⟨t,rfl⟩:=ry
 obtain ⟨its,r,pl,hz⟩:=I.tuple hq
 obtain ⟨j,h1,h2,h3,h4,h5⟩:=nV he
 obtain ⟨w,ew,rw'⟩:=r.get h2
 have hl:=r.length
 have hn:=jI
 have fin:EP X aa O Q w s:=⟨z,H,I,rw',q⟩
 exact subscriptTail_builtinR (x:=w) pl.typeIs slot_tuple_getitem.lookup
  (getItem_tuple (j:=j) (Q:=λr s'=>r=w/\EP X aa O Q r s') pl (by lia) (by lia) (by rw [FG,<- hl]; exact h1) (by simpa using ew) ⟨rfl,fin⟩) hs
theorem jL (lo hi) (n):(sliceBounds lo hi none n).1=((HT.bu n 0 lo:Nat):Int)/\(sliceBounds lo hi none n).2.1=((HT.bu n n hi:Nat):Int)/\(sliceBounds lo hi none n).2.2=1:=by
 refine ⟨?_,?_,rfl⟩
 ·cases lo with
  | none=>simp [sliceBounds,HT.bu]
  | some i =>
   simp only [sliceBounds,HT.bu,Option.getD_none,show (1:Int)>0 by decide,if_true]
   by_cases h:i<0
   ·simp only [h,if_true] <;> lia
   ·simp only [h,if_false] <;> lia
 ·cases hi with
  | none=>simp [sliceBounds,HT.bu]
  | some i =>
   simp only [sliceBounds,HT.bu,Option.getD_none,show (1:Int)>0 by decide,if_true]
   by_cases h:i<0
   ·simp only [h,if_true] <;> lia
   ·simp only [h,if_false] <;> lia
theorem iV (its:List Value) (lo hi):slicePick its.toArray lo hi none=((its.drop (HT.bu its.length 0 lo)).take (HT.bu its.length its.length hi - HT.bu its.length 0 lo)).toArray:=by
 obtain ⟨h1,h2,h3⟩:=jL lo hi its.toArray.size
 unfold slicePick
 rw [h1,h2,h3]
 simp only [sliceRange_one,pick_run,FG] <;> rfl
noncomputable def Ek (K:Fi):V->Option Int->Option Int->Hp->VK->Prop:=λx lo hi H Q=>∃ a xs,x=.ref a/\dJ K H a xs/\∀ p,H p=none->Q (.ref p) (upd H p (.lst (jK xs lo hi)))
theorem wg:vN X (Ek X.K):=by
 intro aa s O H x v vl vu lo hi sl Q I rx hs pl pu h
 obtain ⟨a,xs,rfl,hx,q⟩:=h
 cases rx
 obtain ⟨its,r,ht,hz⟩:=I.list hx
 have hlen:=r.length
 refine ⟨"list",_,slot_list_getitem.lookup,ht.isList.typeIs,?_⟩
 refine wpAny_getItem_list_slice ht.isList hs pl pu .none (by simp) ?_ (by rw [FG] <;> lia)
 rw [iV,<- hlen]
 refine ⟨.ref s.heap.objs.size,_,I.laid (t':=s.toks) (o:=.lst (jK xs lo hi)) (λb ob q=>Fz _ q) (Fq _) ?_,rfl,q _ (I.hok.fresh (Fq _))⟩
 exact ⟨Fy (fY xs lo hi) hz,_,0,(r.drop (HT.bu xs.length 0 lo)).take (HT.bu xs.length xs.length hi - HT.bu xs.length 0 lo),FT _ rfl⟩
theorem jM:ef X (.builtin "len") (λxs H Q=>∃ p ys,xs=[.ref p]/\(dJ X.K H p ys\/bO X.K H p ys)/\Q (.int ys.length) H):=by
 intro aa s O H xs us Q I r h
 obtain ⟨p,ys,rfl,hq,q⟩:=h
 obtain ⟨u,rfl,rx⟩:=vals1 r
 cases rx
 have hn:=jI
 rcases hq with hq | hq
 ·obtain ⟨its,r',pl,hz⟩:=I.list hq
  have hlen:=r'.length
  exact Calls.call_len_list pl.isList (by simp only [FG] <;> lia) ⟨.int ys.length,H,I.tok _,⟨s.toks+1,by rw [FG,hlen]⟩,q⟩
 ·obtain ⟨its,r',pl,hz⟩:=I.tuple hq
  have hlen:=r'.length
  exact len_tuple pl (by simp only [FG] <;> lia) ⟨.int ys.length,H,I.tok _,⟨s.toks+1,by rw [FG,hlen]⟩,q⟩
theorem jN:ef X (.type "list") (λxs H Q=>∃ p ys,xs=[.ref p]/\(dJ X.K H p ys\/bO X.K H p ys)/\∀ l,H l=none->Q (.ref l) (upd H l (.lst ys))):=by
 intro aa s O H xs us Q I r h
 obtain ⟨p,ys,rfl,hq,q⟩:=h
 obtain ⟨u,rfl,rx⟩:=vals1 r
 cases rx
 have fin:∀ (its:List Value),Vals ys its->ys.length<=sizeLine->∀ (h':Heap) (c':Nat),(∀ b o',s.heap.get? b=some o'->h'.get? b=some o') ->
  h'.get? s.heap.objs.size=some { cls:=.type "list",dict:=none,data:=.seq its.toArray c',slots:= #[] }->EP X aa O Q (.ref s.heap.objs.size) { s with heap:=h' }:=λits r' hz h' c' kp e =>
  ⟨.ref s.heap.objs.size,_,I.laid (t':=s.toks) kp (Fq _) (show aO X.prog X.w _ h' _ (.lst ys) from ⟨hz,its,c',r',e⟩),rfl,q _ (I.hok.fresh (Fq _))⟩
 rcases hq with hq | hq
 ·obtain ⟨its,r',pl,hz⟩:=I.list hq
  have hlen:=r'.length
  obtain ⟨o,ho,hc,n,hd⟩:=pl.isList
  exact call_list_seq p (.inl rfl) ho hc hd (λh' c' kp e=>fin its r' hz h' c' kp e) (by simp only [FG] <;> lia)
 ·obtain ⟨its,r',pl,hz⟩:=I.tuple hq
  have hlen:=r'.length
  obtain ⟨o,ho,hc,n,hd⟩:=pl
  exact call_list_seq p (.inr rfl) ho hc hd (λh' c' kp e=>fin its r' hz h' c' kp e) (by simp only [FG] <;> lia)
theorem iW:ef X (.type "tuple") (λxs H Q=>∃ p ys,xs=[.ref p]/\((dJ X.K H p ys/\∀ l,H l=none->Q (.ref l) (upd H l (.tup ys)))\/(bO X.K H p ys/\Q (.ref p) H))):=by
 intro aa s O H xs us Q I r h
 obtain ⟨p,ys,rfl,h⟩:=h
 obtain ⟨u,rfl,rx⟩:=vals1 r
 cases rx
 rcases h with ⟨hq,q⟩ | ⟨hq,q⟩
 ·obtain ⟨its,r',pl,hz⟩:=I.list hq
  have hlen:=r'.length
  refine call_tuple_list pl.isList (λh' kp=>?_) (by simp only [FG] <;> lia)
  have I1:Inv X aa O H { s with heap:=h' }:=I.kept (t':=s.toks) kp
  have I2:Inv X aa O (upd H h'.objs.size (.tup ys)) { s with heap:=h'.push { cls:=.type "tuple",data:=.seq its.toArray } } :=
   I1.laid (t':=s.toks) (λb o e=>Fz _ e) (Fq _) (show aO X.prog X.w _ _ _ (.tup ys) from ⟨hz,its,r',IsTup.new _ _⟩)
  exact ⟨.ref h'.objs.size,_,I2,rfl,q _ (I1.hok.fresh (Fq _))⟩
 ·obtain ⟨its,r',pl,hz⟩:=I.tuple hq
  exact call_tuple_same pl ⟨.ref p,H,I,rfl,q⟩
def El (K:Fi) (T:String) (x:V) (H:Hp):Prop:=match x with
 | .str _=>T="str"
 | .int _=>T="int"
 | .ref p=>(T="list"/\∃ xs,dJ K H p xs)\/(T="tuple"/\∃ o,K.lookup p=some o/\o.cls=.type "tuple"/\o.dict=none) \/
  (T="dict"/\((∃ kvs,H p=some (.dK kvs))\/∃ kvs,H p=some (.dT kvs)))\/(T="set"/\∃ S n,H p=some (.set S n))
 | _=>False
theorem r9 (I:Inv X aa O H s) (r:RelV x v) (ty:El X.K T x H) :
 s.TypeIs v T/\∀ a,v=.ref a->∃ ob,s.heap.get? a=some ob/\ob.dict=none:=by
 cases x with
 | str z =>
  obtain ⟨t,rfl⟩:=r
  cases (show T="str" from ty)
  exact ⟨typeIs_str s z t,λ_ e=>nomatch e⟩
 | int i =>
  obtain ⟨t,rfl⟩:=r
  cases (show T="int" from ty)
  exact ⟨typeIs_int s i t,λ_ e=>nomatch e⟩
 | ref p =>
  cases r
  rcases ty with ⟨rfl,xs,hq⟩ | ⟨rfl,o,hk,hc,hd⟩ | ⟨rfl,hk⟩ | ⟨rfl,S,n,hk⟩
  ·obtain ⟨its,_,pl,_⟩:=I.list hq
   refine ⟨pl.isList.typeIs,λa e=>?_⟩
   cases e
   obtain ⟨o,n,e,c,hd,_⟩:=pl
   exact ⟨o,e,hd⟩
  ·refine ⟨⟨o,I.p6 p o hk,hc⟩,λa e=>?_⟩
   cases e
   exact ⟨o,I.p6 _ o hk,hd⟩
  ·have z:∃ o,s.heap.get? p=some o/\o.ExactDict:=by
    rcases hk with ⟨kvs,hk⟩ | ⟨kvs,hk⟩
    ·obtain ⟨_,_,_,_,o,_,_,e,ex,_⟩:=I.hok p _ hk
     exact ⟨o,e,ex⟩
    ·obtain ⟨_,_,_,_,o,_,_,e,ex,_⟩:=I.hok p _ hk
     exact ⟨o,e,ex⟩
   obtain ⟨o,e,ex⟩:=z
   refine ⟨⟨o,e,ex.1⟩,λa e2=>?_⟩
   cases e2
   exact ⟨o,e,ex.2.1⟩
  ·obtain ⟨o,_,_,_,e,ex,_⟩:=I.hok p _ hk
   refine ⟨⟨o,e,ex.1⟩,λa e2=>?_⟩
   cases e2
   exact ⟨o,e,ex.2.1⟩
 | _=>exact GZ ty
noncomputable def Em (K:Fi) (T:String) (r:V->List V->Hp->VK->Prop) (to:TE):TE:=λO H Q=>to O H λx H1=>El K T x H1/\r x [] H1 Q
noncomputable def E8 (K:Fi) (T:String) (r:V->List V->Hp->VK->Prop) (to:TE) (t:TA):TE:=λO H Q=>to O H λx H1=>El K T x H1/\t O H1 λxs H2=>r x xs H2 Q
variable {T id:String}
theorem zY (pa:PlainAttrs T) (slot:Slot T name id) (hty:typeOf (.builtin id)=pure (.type "method_descriptor")) (hm:ER X id r) (ho:PE X o to)
 (hbase:attributeBase o name X.env (eval o X.env)=eval o X.env:=by rfl) (hline:(apos.endLine == cpos.line)=true:=by rfl):PE X (.Call (.Attribute o name apos) [] [] cpos) (Em X.K T r to):=by
 intro aa s O H Q I h
 refine wpAny_Call_method0_late hbase hline (aZ (ho aa s O H _ I h) λv s1 ⟨x,H1,I1,r1,ty,q1⟩=>?_)
 obtain ⟨h1,h2⟩:=r9 I1 r1 ty
 exact ⟨T,id,pa,slot,hty,h1,h2,JP rfl (PySem.evalArgs_none (hm aa s1 O H1 x [] v [] Q I1 r1 .nil q1))⟩
theorem Cr (pa:PlainAttrs T) (slot:Slot T name id) (hty:typeOf (.builtin id)=pure (.type "method_descriptor")) (hm:ER X id r) (ho:PE X o to) (ha:PA X (e::es) t)
 (hbase:attributeBase o name X.env (eval o X.env)=eval o X.env:=by rfl)
 (hfew:((backTo cpos (starEach (e::es) X.env)).all (λx=> !x.1) && (backToKw cpos (keywordEach [] X.env)).all (λx=>x.1.isSome)
   && decide ((e::es).length+([]:List Keyword).length+(if ([]:List Keyword).isEmpty then 0 else 1)<30))=true:=by rfl)
 (hline:(apos.endLine == cpos.line)=true:=by rfl) (hs:starEach (e::es) X.env=(false,eval e X.env)::starEach es X.env:=by rfl) (hplain:(backTo cpos (starEach es X.env)).any (·.1)=false:=by rfl) :
 PE X (.Call (.Attribute o name apos) (e::es) [] cpos) (E8 X.K T r to t):=by
 intro aa s O H Q I h
 refine wpAny_Call_method_late hbase hfew hline rfl (aZ (ho aa s O H _ I h) λv s1 ⟨x,H1,I1,r1,ty,q1⟩=>?_)
 obtain ⟨h1,h2⟩:=r9 I1 r1 ty
 refine ⟨T,id,pa,slot,hty,h1,h2,?_⟩
 have hA:=ha cpos aa s1 O H1 _ I1 q1
 rw [hs] at hA |-
 refine JP (by show (false || (backTo cpos (starEach es X.env)).any (·.1))=false; rw [hplain] <;> rfl) (Calls.evalArgs_plain ?_)
 exact aZ hA λus s2 ⟨vs,H2,I2,r2,q2⟩=>hm aa s2 O H2 x vs v us Q I2 r1 r2 q2
end
def ES (X:Cx) (id:String) (r:V->List V->Hp->VK->Prop):Prop :=
 ∀ (aa:List (Addr×Obj)) (s:Shared) (O:St) (H:Hp) (x:V) (xs:List V) (v:Value) (us:List Value) (Q:VK),Inv X aa O H s->RelV x v->Vals xs us->r x xs H Q ->
  wpAny (model X.prog X.w) X.A (call (.builtin id) (v::us)) (EP X aa O Q) X.xe s
theorem Vals.one:∀ {x:V} {us:List Value},Vals [x] us->∃ u,us=[u]/\RelV x u
 | _,_,.cons r .nil=>⟨_,rfl,r⟩
theorem Vals.zero:∀ {us:List Value},Vals [] us->us=[]
 | _,.nil=>rfl
theorem Vals.dropLast (h:Vals xs us):Vals xs.dropLast us.dropLast:=by
 induction h with
 | nil=>exact .nil
 | cons r t ih =>
  cases t with
  | nil=>exact .nil
  | cons q t'=>exact .cons r ih
theorem Vals.rep (h:Vals xs us):∀ k:Nat,Vals (FW k xs).flatten (FW k us).flatten
 | 0=>.nil
 | k+1=>by
  rw [G4,G4,Ic,Ic]
  exact Vals.append h (Vals.rep h k)
theorem mS {α:Type} (l:List α):l.eraseIdx (l.length - 1)=l.dropLast:=by
 induction l with
 | nil=>rfl
 | cons a r ih =>
  cases r with
  | nil=>rfl
  | cons b r =>
   have e:(a::b::r).length - 1=((b::r).length - 1)+1:=by
    have h1:(a::b::r).length=r.length+2:=rfl
    have h2:(b::r).length=r.length+1:=rfl
    lia
   rw [e,List.eraseIdx_cons_succ,ih]
   all_goals rfl
theorem foldl_rep (its):∀ (k:Nat) (acc:List Value),
 IQ (λx1 x2=>x1++x2) acc.toArray (FW k its.toArray)=(acc++(FW k its).flatten).toArray
 | 0,acc=>by simp
 | k+1,acc=>by
  have e:acc.toArray++its.toArray=(acc++its).toArray:=by simp
  have e2:(acc++its)++(FW k its).flatten=acc++(FW (k+1) its).flatten:=by
   rw [G4,Ic,FZ]
  rw [<- e2,<- foldl_rep its k (acc++its),<- e,G4,Jk]
theorem Inv.zZ {its its':List Value} (I:Inv X aa O H s) (hH:H l=some (.lst xs))
 (e:s.heap.get? l=some { cls:=.type "list",data:=.seq its.toArray n }) (hf:f its.toArray=its'.toArray) (hv:Vals ys its') (hz:ys.length<=sizeLine) :
 Inv X aa O (upd H l (.lst ys)) { s with heap:=s.heap.update l (GH f),toks:=t' }:=by
 have q:=PySem.IsL.update e f
 rw [hf] at q
 refine I.write (x:=l) (e:=l) (by rw [hH]; exact trivial) (.inl rfl) (λb' u hb hu=>(Heap.get?_update_other s.heap (GH f) (FI hb)).trans hu) ⟨_,q⟩ ?_
 exact ⟨hz,its',_,hv,q⟩
theorem Inv.Cs (I:Inv X aa O H s) (hv:Vals ys its) (hz:ys.length<=sizeLine) :
 Inv X aa O (upd H s.heap.objs.size (.lst ys)) { s with heap:=s.heap.push { cls:=.type "list",data:=.seq its.toArray },toks:=t' } :=
 I.laid (λ_ _ q=>Fz _ q) (Fq _) ⟨hz,its,0,hv,FT _ rfl⟩
theorem Inv.fresh (I:Inv X aa O H s):H s.heap.objs.size=none:=I.hok.fresh (Fq _)
theorem Inv.wj (I:Inv X aa O H s) (hH:H l=some (.lst xs)):xs.length<=sizeLine/\∃ (its:List Value) (n:Nat),Vals xs its/\xs.length=its.length/\s.heap.get? l=some { cls:=.type "list",data:=.seq its.toArray n }:=by
 obtain ⟨z,its,n,r,e⟩:=I.hok l _ hH
 exact ⟨z,its,n,r,r.length,e⟩
theorem sd (h:n<=sizeLine):JI n=false:=by
 unfold JI
 exact decide_eq_false (by lia)
noncomputable def wm:V->List V->Hp->VK->Prop:=λx vs H Q=>∃ l xs y,x=.ref l/\vs=[y]/\H l=some (.lst xs)/\xs.length<sizeLine/\Q .non (upd H l (.lst (xs++[y])))
theorem jf:ES X "list.append" wm:=by
 intro aa s O H x vs v us Q I rx rv h
 obtain ⟨l,xs,y,rfl,rfl,hH,hz,q⟩:=h
 cases rx
 obtain ⟨u,rfl,ru⟩:=rv.one
 obtain ⟨z,its,n,r,hl,e⟩:=I.wj hH
 refine call_meets F.slot_list_append ⟨_,e,rfl⟩ F.entry_list_append (F.args_list_append_2 _ _) (PySem.list_append l its.toArray n u (by rw [FG]; lia)) ⟨e,?_⟩
 refine ⟨.non,_,I.zZ (its':=its++[u]) hH e (by simp) (r.append (.cons ru .nil)) ?_,rfl,q⟩
 rw [Gz,List.length_singleton]
 lia
noncomputable def En:V->List V->Hp->VK->Prop:=λx vs H Q=>∃ l xs y,x=.ref l/\vs=[]/\H l=some (.lst xs)/\xs[xs.length - 1]?=some y/\Q y (upd H l (.lst xs.dropLast))
theorem Aa:ES X "list.pop" En:=by
 intro aa s O H x vs v us Q I rx rv h
 obtain ⟨l,xs,y,rfl,rfl,hH,hy,q⟩:=h
 cases rx
 have hus:=rv.zero
 subst hus
 obtain ⟨z,its,n,r,hl,e⟩:=I.wj hH
 obtain ⟨u,hu,ru⟩:=r.get hy
 have hy':its.toArray[its.toArray.size - 1]?=some u:=by
  show its.toArray[its.length - 1]?=some u
  rw [<- F1,<- hl]
  exact hu
 refine call_meets F.slot_list_pop ⟨_,e,rfl⟩ F.entry_list_pop (F.args_list_pop_1 _) (MeetsSeq.list_pop_last l its.toArray n u hy' (by rw [FG]; lia)) ⟨e,?_⟩
 refine ⟨y,_,I.zZ (its':=its.dropLast) hH e ?_ r.dropLast ?_,ru,q⟩
 ·show its.toArray.eraseIdxIfInBounds (its.toArray.size - 1)=its.dropLast.toArray
  rw [FG,List.eraseIdxIfInBounds_toArray,mS]
 ·rw [List.length_dropLast]
  lia
noncomputable def Eo:R2:=λx y H Q=>∃ l k xs,x=.ref l/\y=.int k/\H l=some (.lst xs)/\ -(2 ^ 63)<=k/\k<2 ^ 63/\xs.length * k.toNat<=sizeLine /\
 ∀ p,H p=none->Q (.ref p) (upd H p (.lst (FW k.toNat xs).flatten))
theorem len_rep {α:Type} (xs:List α) (k):(FW k xs).flatten.length=k * xs.length:=by
 induction k with
 | zero=>simp
 | succ k ih=>rw [G4,Ic,Gz,ih,Nat.succ_mul,Nat.add_comm]
theorem Ab:c7 X (binaryOp .Mult) Eo:=by
 intro aa s O H x y v u Q I rx ry h
 obtain ⟨l,k,xs,rfl,rfl,hH,h1,h2,hz,q⟩:=h
 cases rx
 obtain ⟨t,rfl⟩:=ry
 obtain ⟨z,its,n,r,hl,e⟩:=I.wj hH
 have hlen:its.toArray.size * k.toNat<=sizeLine:=by rw [FG,<- hl]; exact hz
 have hcap:¬ its.toArray.size * k.toNat>(2 ^ 63 - 1) / 8:=by
  have:(sizeLine:Nat)<=(2 ^ 63 - 1) / 8:=by decide
  lia
 have hfit:¬ (!Builtin.List.listFitsIndex k)=true:=by
  rw [fitsIndex_both h1 h2]
  exact Fv
 have hlong:¬ JI (its.toArray.size * k.toNat)=true:=by
  rw [sd hlen]
  exact Fv
 have hnew:IQ (λx1 x2=>x1++x2) #[] (FW (if its.toArray.isEmpty=true then 0 else k.toNat) its.toArray)=(FW k.toNat its).flatten.toArray:=by
  have f0:∀ m:Nat,IQ (λx1 x2=>x1++x2) #[] (FW m its.toArray)=(FW m its).flatten.toArray:=λm=>by
   have:=foldl_rep its m []
   rw [List.nil_append] at this
   exact this
  rw [f0]
  cases its with
  | nil=>simp
  | cons a r'=>rw [if_neg (by simp)]
 refine wpAny_binaryOp_repeat_ref (T:="list") (U:="int") (by decide) ⟨_,e,rfl⟩ (λs'=>typeIs_int s' k t) noFill_list_mul F.fills_int_mul F.slot_int_rmul repeat_list F.slot_int_index.lookup
  (call_meets F.slot_int_rmul (typeIs_int s k t) F.entry_int_rmul (F.args_int_rmul_2 _ _) (int___rmul___int_list k t l its.toArray n)
    ⟨e,rfl,⟨_,e,rfl⟩,call_meets F.slot_list_mul ⟨_,e,rfl⟩ F.entry_list_mul (F.args_list_mul_2 _ _) (AutoListH.list___mul___list_int_3 l its.toArray n k t hfit hcap hlong) ⟨e,?_⟩⟩)
 rw [hnew]
 exact ⟨.ref _,_,I.Cs (t':=s.toks) (r.rep k.toNat) (by rw [len_rep,Nat.mul_comm]; exact hz),rfl,q _ I.fresh⟩
section
variable {κ:Type} [DecidableEq κ]
noncomputable def gO (kvs:List (κ×V)) (k:κ):Option V:=(kvs.find? λkv=>decide (kv.1=k)).map (·.2)
noncomputable def putK (kvs:List (κ×V)) (k:κ) (v:V):List (κ×V) :=
 if (kvs.any λkv=>decide (kv.1=k))=true then kvs.map (λkv=>if kv.1=k then (kv.1,v) else kv) else kvs++[(k,v)]
theorem gP {p:κ×V} {r:List (κ×V)} {k:κ} (e:p.1=k):gO (p::r) k=some p.2:=by simp [gO,Gu,e]
theorem gQ {p:κ×V} {r:List (κ×V)} {k:κ} (e:¬ p.1=k):gO (p::r) k=gO r k:=by simp [gO,Gu,e]
theorem kJ (k:κ):∀ kvs:List (κ×V),(kvs.any λkv=>decide (kv.1=k))=(gO kvs k).isSome
 | []=>rfl
 | p::r=>by
  rw [List.any_cons]
  by_cases e:p.1=k
  ·simp only [gP e,decide_eq_true e,Bool.true_or,Option.isSome_some]
  ·rw [gQ e,decide_eq_false e,Bool.false_or]; exact kJ k r
theorem kK (kvs) (k:κ) (v):(putK kvs k v).length<=kvs.length+1:=by
 unfold putK
 split
 ·rw [Fx]; lia
 ·rw [Gz,GB,G8]; lia
theorem gh.fG (r:gh o u):o.isSome=u.isSome:=by
 cases o with
 | none=>cases u with
  | none=>rfl
  | some _=>exact (show False from r).elim
 | some _=>cases u with
  | none=>exact (show False from r).elim
  | some _=>rfl
theorem gh.getD (r:gh o u) (rd:RelV d d'):RelV (o.getD d) (u.getD d'):=by
 cases o with
 | none=>cases u with
  | none=>exact rd
  | some _=>exact (show False from r).elim
 | some _=>cases u with
  | none=>exact (show False from r).elim
  | some _=>exact r
theorem KV.val (r:KV kvs vs) (k:κ):gh (gO kvs k) (valueAt vs k):=by
 unfold KV at r
 induction r with
 | nil=>exact GY
 | @cons p q ps qs h t ih =>
  obtain ⟨h1,h2⟩:=h
  by_cases e:p.1=k
  ·have e':q.1=k:=h1.symm.trans e
   have b:valueAt (q::qs) k=some q.2:=by simp [valueAt,Gu,e']
   rw [gP e,b]; exact h2
  ·have e':¬ q.1=k:=λz=>e (h1.trans z)
   have b:valueAt (q::qs) k=valueAt qs k:=by simp [valueAt,Gu,e']
   rw [gQ e,b]; exact ih
theorem KV.any (r:KV kvs vs) (k:κ):(kvs.any λkv=>decide (kv.1=k))=vs.any λkv=>decide (kv.1=k):=by
 unfold KV at r
 induction r with
 | nil=>rfl
 | cons h t ih=>rw [List.any_cons,List.any_cons,ih,h.1]
theorem KV.repl (r:KV kvs vs) (k:κ) (ry:RelV y u) :
 KV (kvs.map λkv=>if kv.1=k then (kv.1,y) else kv) (vs.map λkv=>if kv.1=k then (kv.1,u) else kv):=by
 unfold KV at r |-
 induction r with
 | nil=>exact .nil
 | @cons p q ps qs h t ih =>
  rw [FD,FD]
  refine .cons ?_ ih
  obtain ⟨h1,h2⟩:=h
  by_cases e:p.1=k
  ·rw [if_pos e,if_pos (h1.symm.trans e)]; exact ⟨h1,ry⟩
  ·rw [if_neg e,if_neg (λz=>e (h1.trans z))]; exact ⟨h1,h2⟩
theorem KV.put (r:KV kvs vs) (k:κ) (ry:RelV y u):KV (putK kvs k y) (stored vs k u):=by
 unfold putK stored
 rw [r.any k]
 by_cases e:(vs.any λkv=>decide (kv.1=k))=true
 ·rw [if_pos e,if_pos e]; exact r.repl k ry
 ·rw [if_neg e,if_neg e]; exact JB r ⟨rfl,ry⟩
theorem KV.length {kvs:List (κ×V)} {vs:List (κ×Value)} (r:KV kvs vs):kvs.length=vs.length:=Hg r
end
theorem kL (r:RelV (kV k) u):(bh P w).is k u=true:=by
 cases k with
 | inl i=>obtain ⟨t,e⟩:=(show ∃ t,u=Hl i t from r); subst e; exact kE P w i t
 | inr x=>obtain ⟨t,e⟩:=(show ∃ t,u=IT x t from r); subst e; exact kF P w x t
theorem jg:∀ {ks:List Key} {us:List Value},Vals (ks.map kV) us->ItemsAre (bh P w) ks us
 | [],_,r=>by rw [HD] at r; cases r; exact .nil
 | k::ks,_,r=>by
  rw [FD] at r
  cases r with
  | cons h t=>exact .cons (kL h) (jg t)
noncomputable abbrev KT:List (List Key×Addr×V)->List (List Key×Addr×Value)->Prop:=Paired λp q=>p.1=q.1/\p.2.1=q.2.1/\RelV p.2.2 q.2.2
noncomputable def atT (kvs:List (List Key×Addr×V)) (k:List Key):Option V:=(kvs.find? λkv=>decide (kv.1=k)).map (·.2.2)
noncomputable def jO (k:List Key) (v:V) (x:List Key×Addr×V):List Key×Addr×V:=if x.1=k then (x.1,x.2.1,v) else x
noncomputable def kM (kvs:List (List Key×Addr×V)) (k:List Key) (b:Addr) (v:V):List (List Key×Addr×V) :=
 if (atT kvs k).isSome=true then kvs.map (jO k v) else kvs++[(k,b,v)]
theorem kN (kvs) (k) (b) (v):(kM kvs k b v).length<=kvs.length+1:=by
 unfold kM
 split
 ·rw [Fx]; lia
 ·rw [Gz,GB,G8]; lia
theorem KT.val (r:KT kvs xs) (k):gh (atT kvs k) ((atKey xs k).map (·.2)):=by
 induction r with
 | nil=>exact GY
 | @cons p q ps qs h t ih =>
  obtain ⟨h1,_,h2⟩:=h
  by_cases e:p.1=k
  ·have e':q.1=k:=h1.symm.trans e
   have b:atKey (q::qs) k=some q.2:=by simp [atKey,Gu,e']
   have b2:atT (p::ps) k=some p.2.2:=by simp [atT,Gu,e]
   rw [b2,b]; exact h2
  ·have e':¬ q.1=k:=λz=>e (h1.trans z)
   have b:atKey (q::qs) k=atKey qs k:=by simp [atKey,Gu,e']
   have b2:atT (p::ps) k=atT ps k:=by simp [atT,Gu,e]
   rw [b2,b]; exact ih
theorem KT.repl (r:KT kvs xs) (k) (ry:RelV y u) :
 KT (kvs.map (jO k y)) (xs.map (putAt k u)):=by
 induction r with
 | nil=>exact .nil
 | @cons p q ps qs h t ih =>
  rw [FD,FD]
  refine .cons ?_ ih
  obtain ⟨h1,h2,h3⟩:=h
  unfold putAt jO
  by_cases e:p.1=k
  ·rw [if_pos e,if_pos (h1.symm.trans e)]; exact ⟨h1,h2,ry⟩
  ·rw [if_neg e,if_neg (λz=>e (h1.trans z))]; exact ⟨h1,h2,h3⟩
theorem KT.put (r:KT kvs xs) (k) (ry:RelV y u) :
 KT (kM kvs k b y) (storedH xs k b u):=by
 have e:(atT kvs k).isSome=(atKey xs k).isSome:=by
  rw [(r.val k).fG,Hu]
 unfold kM storedH
 rw [e]
 by_cases q:(atKey xs k).isSome=true
 ·rw [if_pos q,if_pos q]; exact r.repl k ry
 ·rw [if_neg q,if_neg q]; exact JB r ⟨rfl,rfl,ry⟩
theorem se (ok:fC P w H h) (e:Rd H a u):aO P w H h a u:=e.ok ok
theorem jh (ok:fC P w H h) (e:Rd H a (.dK kvs)):kvs.length<=sizeLine/\(a == sysModules)=false/\∃ vs,KV kvs vs/\h.DictOf (bh P w) a vs :=
 show aO P w H h a (.dK kvs) from se ok e
theorem Ct (ok:fC P w H h) (e:H a=some (.dK kvs)):kvs.length<=sizeLine/\(a == sysModules)=false/\∃ vs,KV kvs vs/\h.DictOf (bh P w) a vs:=jh ok (.inl e)
theorem gR (I:Inv X aa O H s) (e:bO X.K H a (ks.map kV)):(tupleKind (bh X.prog X.w)).is s.heap ks a:=by
 obtain ⟨its,r,⟨o,h1,h2,n,h3⟩,_⟩:=I.tuple e
 exact ⟨o,its.toArray,n,h1,h2,h3,by simpa using jg r⟩
theorem kO (I:Inv X aa O H s) (e:Rd H a (.dT kvs)) (hk:∀ x∈kvs,bO X.K H x.2.1 (x.1.map kV)):kvs.length<=sizeLine/\(a == sysModules)=false /\
 ∃ xs,KT kvs xs/\s.heap.DictOfH (tupleKind (bh X.prog X.w)) a xs:=by
 obtain ⟨z,y,xs,r,o,es,ep,h1,h2,h3,h4,h5⟩:=(show aO X.prog X.w H s.heap a (.dT kvs) from se I.hok e)
 refine ⟨z,y,xs,r,o,es,ep,h1,h2,h3,h4,?_,h5⟩
 have all:∀ {l:List (List Key×Addr×V)} {m:List (List Key×Addr×Value)},KT l m->(∀ x∈l,bO X.K H x.2.1 (x.1.map kV))->∀ x∈m,(tupleKind (bh X.prog X.w)).is s.heap x.1 x.2.1:=by
  intro l m q
  induction q with
  | nil=>intro _ x hx; exact nomatch hx
  | @cons p q ps qs hq t ih =>
   intro hl x hx
   rcases FO.mp hx with e | hx
   ·subst e
    rw [<- hq.1,<- hq.2.1]
    exact gR I (hl p FF)
   ·exact ih (λy hy=>hl y (FL _ hy)) x hx
 exact all r hk
def kP (K:Fi) (H:Hp) (a:Addr) (y:V) (r:Option V):Prop :=
 (∃ kvs k,Rd H a (.dK kvs)/\y=kV k/\r=gO kvs k)\/∃ kvs k b,Rd H a (.dT kvs)/\(∀ x∈kvs,bO K H x.2.1 (x.1.map kV))/\y=.ref b/\bO K H b (k.map kV)/\r=atT kvs k
def Ac (K:Fi) (H:Hp) (a:Addr) (y v:V) (H':Hp):Prop :=
 (∃ kvs k,H a=some (.dK kvs)/\y=kV k/\kvs.length<sizeLine/\H'=upd H a (.dK (putK kvs k v))) \/
 ∃ kvs k b,H a=some (.dT kvs)/\(∀ x∈kvs,bO K H x.2.1 (x.1.map kV))/\y=.ref b/\bO K H b (k.map kV)/\kvs.length<sizeLine/\H'=upd H a (.dT (kM kvs k b v))
theorem Inv.big (I:Inv X aa O H s):sysModules<s.heap.objs.size:=by
 have h:mainGlobals<s.heap.objs.size:=(I.mod.glob.keeps I.bk).lt
 exact Nat.lt_trans (by decide) h
theorem qe (hu:A.units+1<cLine) (I:Inv X aa O H s) (g:kP X.K H a y (some v)) (ry:RelV y u) (h:∀ w' s',Inv X aa O H s'->RelV v w'->Q w' s') :
 wpAny (model X.prog X.w) A (getItem (.ref a) u) Q E s:=by
 rcases g with ⟨kvs,k,e,ey,l⟩ | ⟨kvs,k,b,e,hk,ey,eb,l⟩
 ·subst ey
  obtain ⟨z,hd,vs,rel,dd⟩:=jh I.hok e
  obtain ⟨w',hw,rw'⟩:=gh.some_of (v:=v) (o:=valueAt vs k) (by rw [l]; exact rel.val k)
  exact wpAny_getItem_of (kL ry) dd.mapOf hw (h w' _ (I.tok _) rw')
 ·subst ey
  cases (show u=FH b from ry)
  obtain ⟨z,hd,xs,rel,dd⟩:=kO I e hk
  obtain ⟨w',hw,rw'⟩:=gh.some_of (v:=v) (o:=(atKey xs k).map (·.2)) (by rw [l]; exact rel.val k)
  obtain ⟨p,hp,hp2⟩:=F5.mp hw
  refine wpAny_getItem_heap (Jf hu) (gR I eb) dd hp ?_
  rw [hp2]
  exact h w' _ (I.tok _) rw'
theorem wo (hu:A.units+1<cLine) (I:Inv X aa O H s) (g:kP X.K H a y o) (ry:RelV y u) (h:∀ s',Inv X aa O H s'->Q (.bool (!o.isSome)) s') :
 wpAny (model X.prog X.w) A (compareOp .NotIn u (.ref a)) Q E s:=by
 rcases g with ⟨kvs,k,e,ey,l⟩ | ⟨kvs,k,b,e,hk,ey,eb,l⟩
 ·subst ey
  obtain ⟨z,hd,vs,rel,dd⟩:=jh I.hok e
  refine wpAny_notIn_of (kL ry) hd dd.mapOf ?_
  rw [<- (rel.val k).fG,<- l]
  exact h _ (I.tok _)
 ·subst ey
  cases (show u=FH b from ry)
  obtain ⟨z,hd,xs,rel,dd⟩:=kO I e hk
  refine wpAny_notIn_heap (Jf hu) (gR I eb) hd dd ?_
  have q:=(rel.val k).fG
  rw [Hu] at q
  rw [<- q,<- l]
  exact h _ (I.tok _)
theorem nW (I:Inv X aa O H s) (mu:BW (H a)) (hs:GU a s.heap h') (he:∃ q,h'.get? a=some q) (new:aO X.prog X.w (upd H a ob) h' a ob) :
 Inv X aa O (upd H a ob) { s with heap:=h',toks:=t' } :=
 I.write (x:=a) (e:=a) mu (.inl rfl) (λb q hb z=>(hs.2 b hb).trans z) he new
theorem Ad (z:kvs.length<=sizeLine) (hd:(a == sysModules)=false) (rel:KV kvs vs) (dd:h'.DictOf (bh P w) a vs) :
 aO P w H' h' a (.dK kvs):=⟨z,hd,vs,rel,dd⟩
theorem qf (hu:A.units+1<cLine) (I:Inv X aa O H s) (g:Ac X.K H a y v H') (ry:RelV y u) (rv:RelV v r) (h:∀ s',Inv X aa O H' s'->Q () s') :
 wpAny (model X.prog X.w) A (setItem (.ref a) u r) Q E s:=by
 rcases g with ⟨kvs,k,e,ey,l,eH⟩ | ⟨kvs,k,b,e,hk,ey,eb,l,eH⟩
 ·subst ey eH
  obtain ⟨z,hd,vs,rel,dd⟩:=Ct I.hok e
  have hz:vs.length<=sizeLine:=by rw [<- rel.length]; exact z
  have hl:(putK kvs k v).length<=sizeLine:=by have:=kK kvs k v; lia
  refine wpAny_setItem_pairs (hsz:=hz) (kL ry) dd λh' dd' hs=>h _ ?_
  have he:∃ q,h'.get? a=some q:=let ⟨q,_,_,hq,_⟩:=dd'; ⟨q,hq⟩
  exact nW I (by rw [e]; exact GY) hs he (Ad hl hd (rel.put k rv) dd')
 ·subst ey eH
  cases (show u=FH b from ry)
  obtain ⟨z,hd,xs,rel,dd⟩:=kO I (.inl e) hk
  have hz:xs.length<=sizeLine:=by rw [<- Hg rel]; exact z
  have hl:(kM kvs k b v).length<=sizeLine:=by have:=kN kvs k b v; lia
  refine wpAny_setItem_heap (hsz:=hz) (Jf hu) (gR I eb) dd λh' dd' hs=>h _ ?_
  obtain ⟨q,es,ep,hq,h2,h3,h4,_,h5⟩:=dd'
  exact nW I (by rw [e]; exact GY) hs ⟨q,hq⟩ ⟨hl,hd,_,rel.put k rv,q,es,ep,hq,h2,h3,h4,h5⟩
def Ae (i:Expr):Prop:=∀ ov iv,subscripted i false ov iv=operate [ov,iv] (getItem ov iv)
theorem wu {T id:String}
 (hl:typeLookup (.type T) "__getitem__"=pure (some (.builtin id))) (hs:Ae slice)
 (h:wpAny (model prog w) A (eval value env) (λo s₁=>wpAny (model prog w) A (eval slice env) (λi s₂=>s₂.TypeIs o T/\wpAny (model prog w) A (getItem o i) Q E s₂) E s₁) E s) :
 wpAny (model prog w) A (eval (.Subscript value slice pos) env) Q E s:=by
 refine Subscript_ (Gk h (λo s₁ h₁=>Gk h₁ (λi s₂ h₂=>?_) λ_ _ x=>x) λ_ _ x=>x)
 obtain ⟨hT,h₂⟩:=h₂
 unfold subscriptTail
 refine Ff ?_
 rw [getitemInPython_of_ne hT.not_modules]
 refine Ff (wpAny_specialOf hT hl ?_)
 have fin:wpAny (model prog w) A (subscripted slice false o i) (λr s₃=>wpAny (model prog w) A (letTemporaryGo value o r >>= λ_=>pure r) Q E s₃) E s₂:=by
  rw [hs o i]
  exact wpAny_operating (Gk h₂ (λr s₃ h₃=>Ff (wpAny_letTemporaryGo (Fl h₃))) λ_ _ x=>x)
 first
  | exact Fl (Ff fin)
  | exact Ff (Fl (Ff fin))
  | exact Ff fin
theorem kQ (I:Inv X aa O H s) (g:kP X.K H a y o):s.TypeIs (.ref a) "dict":=by
 rcases g with ⟨kvs,k,e,_,_⟩ | ⟨kvs,k,b,e,hk,_,_,_⟩
 ·obtain ⟨_,_,vs,_,dd⟩:=jh I.hok e
  exact dd.typeIs
 ·obtain ⟨_,_,xs,_,dd⟩:=kO I e hk
  exact dd.typeIs
noncomputable def Cu (X:Cx) (td ty:TE):TE:=λO H Q=>td O H λx H1=>ty O H1 λy H2=>∃ a v,x=.ref a/\kP X.K H2 a y (some v)/\Q v H2
noncomputable def wz (X:Cx) (ty td:TE):TE:=λO H Q=>ty O H λy H1=>td O H1 λx H2=>∃ a o,x=.ref a/\kP X.K H2 a y o/\Q (.bl (!o.isSome)) H2
noncomputable def Cv (X:Cx) (td ty tv:TE):TS:=λD O H=>tv O H λv H1=>td O H1 λx H2=>ty O H2 λy H3=>∃ a H4,x=.ref a/\Ac X.K H3 a y v H4/\D.nx O H4
theorem wA (hu:X.A.units+1<cLine) (ho:PE X o td) (hi:PE X i ty) (hs:Ae i):PE X (.Subscript o i pos) (Cu X td ty):=by
 intro aa s O H Q I h
 refine wu PySem.F.slot_dict_getitem.lookup hs (aZ (ho aa s O H _ I h) λu s1 ⟨x,H1,I1,rx,q1⟩=>aZ (hi aa s1 O H1 _ I1 q1) λiv s2 ⟨y,H2,I2,ry,a,v,ex,g,q2⟩=>?_)
 subst ex
 obtain rfl:u=FH a:=rx
 exact ⟨kQ I2 g,qe hu I2 g ry λw' s3 I3 rw'=>⟨v,H2,I3,rw',q2⟩⟩
theorem qg (hu:X.A.units+1<cLine) (hi:PE X i ty) (ho:PE X o td):PC X .NotIn i o (wz X ty td):=by
 intro aa s O H Q I h
 refine aZ (hi aa s O H _ I h) λiv s1 ⟨y,H1,I1,ry,q1⟩=>aZ (ho aa s1 O H1 _ I1 q1) λu s2 ⟨x,H2,I2,rx,a,ov,ex,g,q2⟩=>?_
 subst ex
 obtain rfl:u=FH a:=rx
 exact wo hu I2 g ry λs3 I3=>⟨.bl (!ov.isSome),H2,I3,rfl,q2⟩
theorem wB (hu:X.A.units+1<cLine) (ho:PE X o td) (hi:PE X i ty) (hv:PE X value tv) (hs:swapsWith value (some (.Subscript o i pos')) pos.line X.env=pure false) :
 PS X (.Assign [.Subscript o i pos'] value pos) (Cv X td ty tv):=by
 intro aa s O H D I h
 refine wpAny_Assign_Subscript (aZ (hv aa s O H _ I h) λr s1 ⟨v,H1,I1,rv,q1⟩=>aZ (ho aa s1 O H1 _ I1 q1) λu s2 ⟨x,H2,I2,rx,q2⟩=>aZ (hi aa s2 O H2 _ I2 q2) λiv s3 ⟨y,H3,I3,ry,a,H4,ex,g,q3⟩=>?_) hs
 subst ex
 obtain rfl:u=FH a:=rx
 exact qf hu I3 g ry rv λs4 I4=>⟨O,H4,I4,q3⟩
theorem sj (h:Heap) (hb:sysModules<h.objs.size):aO P w H (h.push { cls:=.type "dict",data:=.dict #[] }) h.objs.size (.dK []) :=
 ⟨Gw _,beq_eq_false_iff_ne.mpr (FI (F0 hb)),[],.nil,Heap.DictOf.new h⟩
theorem sq (h:Heap) (hb:sysModules<h.objs.size):aO P w H (h.push { cls:=.type "dict",data:=.dict #[] }) h.objs.size (.dT []) :=
 ⟨Gw _,beq_eq_false_iff_ne.mpr (FI (F0 hb)),[],.nil,_,#[],0,FT _ rfl,⟨rfl,rfl,rfl⟩,rfl,rfl,List.nodup_nil⟩
noncomputable def Af:TE:=λ_ H Q=>∀ p,H p=none->Q (.ref p) (upd H p (.dK []))
noncomputable def Ag:TE:=λ_ H Q=>∀ p,H p=none->Q (.ref p) (upd H p (.dT []))
theorem su:PE X (.Dict [] [] pos) Af:=λaa s O H Q I h =>
 wpAny_Dict_empty ⟨.ref s.heap.objs.size,_,I.laid (a:=s.heap.objs.size) (o:=.dK []) (t':=s.toks) (λ_ _ q=>Fz _ q) (Fq _) (sj s.heap I.big),rfl,h _ (I.hok.fresh (Fq _))⟩
theorem sA:PE X (.Dict [] [] pos) Ag:=λaa s O H Q I h =>
 wpAny_Dict_empty ⟨.ref s.heap.objs.size,_,I.laid (a:=s.heap.objs.size) (o:=.dT []) (t':=s.toks) (λ_ _ q=>Fz _ q) (Fq _) (sq s.heap I.big),rfl,h _ (I.hok.fresh (Fq _))⟩
structure M1 (X:Cx) (o:Expr) (m:Str) (apos:Pos) (e:Expr) (cpos:Pos):Prop where
 base:attributeBase o m X.env (eval o X.env)=eval o X.env
 few:((backTo cpos (starEach [e] X.env)).all (λx=> !x.1) && (backToKw cpos (keywordEach [] X.env)).all (λx=>x.1.isSome)
  && decide (([e]:List Expr).length+([]:List Keyword).length+(if ([]:List Keyword).isEmpty then 0 else 1)<30))=true
 line:(apos.endLine == cpos.line)=true
 trees:backTo cpos (starEach [e] X.env)=[(false,eval e X.env)]
structure M2 (X:Cx) (o:Expr) (m:Str) (apos:Pos) (e f:Expr) (cpos:Pos):Prop where
 base:attributeBase o m X.env (eval o X.env)=eval o X.env
 few:((backTo cpos (starEach [e,f] X.env)).all (λx=> !x.1) && (backToKw cpos (keywordEach [] X.env)).all (λx=>x.1.isSome)
  && decide (([e,f]:List Expr).length+([]:List Keyword).length+(if ([]:List Keyword).isEmpty then 0 else 1)<30))=true
 line:(apos.endLine == cpos.line)=true
 trees:backTo cpos (starEach [e,f] X.env)=[(false,eval e X.env),(false,eval f X.env)]
def Ep (H:Hp) (a:Addr):Prop:=(∃ kvs,Rd H a (.dK kvs))\/∃ kvs,Rd H a (.dT kvs)
theorem Ah (I:Inv X aa O H s) (d:Ep H a) :
 s.TypeIs (.ref a) "dict"/\(∀ b,FH a=.ref b->∃ ob,s.heap.get? b=some ob/\ob.dict=none)/\(a == sysModules)=false:=by
 rcases d with ⟨kvs,e⟩ | ⟨kvs,e⟩
 ·obtain ⟨_,hd,vs,_,dd⟩:=jh I.hok e
  refine ⟨dd.typeIs,λb q=>?_,hd⟩
  cases q
  obtain ⟨ob,_,_,h1,h2,_⟩:=dd
  exact ⟨ob,h1,h2.2.1⟩
 ·obtain ⟨_,hd,xs,_,ob,es,ep,h1,h2,_⟩:=(show aO X.prog X.w H s.heap a (.dT kvs) from se I.hok e)
  refine ⟨⟨ob,h1,h2.1⟩,λb q=>?_,hd⟩
  cases q
  exact ⟨ob,h1,h2.2.1⟩
theorem Ai (hu:A.units+1<cLine) (I:Inv X aa O H s) (g:kP X.K H a y o) (ry:RelV y u) (rd:RelV d r) (h:∀ w' s',Inv X aa O H s'->RelV (o.getD d) w'->Q w' s') :
 wpAny (model X.prog X.w) A (call (.builtin "dict.get") [.ref a,u,r]) Q E s:=by
 rcases g with ⟨kvs,k,e,ey,l⟩ | ⟨kvs,k,b,e,hk,ey,eb,l⟩
 ·subst ey
  obtain ⟨z,hd,vs,rel,dd⟩:=jh I.hok e
  refine call_meetsIn JR dd.typeIs PySem.F.entry_dict_get (PySem.F.args_dict_get_3 _ _ _) (meets_dict_get_default (bh X.prog X.w) a (kL ry) hd r) ⟨_,dd.mapOf,h _ _ (I.tok _) ?_⟩
  rw [l]
  exact (rel.val k).getD rd
 ·subst ey
  cases (show u=FH b from ry)
  obtain ⟨z,hd,xs,rel,dd⟩:=kO I e hk
  refine call_meetsIn JR dd.typeIs PySem.F.entry_dict_get (PySem.F.args_dict_get_3 _ _ _) (meetsH_dict_get_default (tupleKind (bh X.prog X.w)) a b hd r) ⟨Jf hu,k,xs,gR I eb,dd,h _ _ (I.tok _) ?_⟩
  rw [l]
  exact (rel.val k).getD rd
noncomputable def Aj (X:Cx) (td ty tx:TE):TE:=λO H Q=>td O H λx H1=>∃ a,x=.ref a/\Ep H1 a/\ty O H1 λy H2=>tx O H2 λz H3=>∃ o,kP X.K H3 a y o/\Q (o.getD z) H3
theorem sC (hu:X.A.units+1<cLine) (ho:PE X o td) (he:PE X e ty) (hf:PE X f tx) (m:M2 X o "get" apos e f cpos):PE X (.Call (.Attribute o "get" apos) [e,f] [] cpos) (Aj X td ty tx):=by
 intro aa s O H Q I h
 refine wpAny_Call_method m.base m.few m.line PySem.F.plainAttrs_dict JR PySem.F.type_dict_get (aZ (ho aa s O H _ I h) λu s1 ⟨x,H1,I1,rx,a,ex,d,q1⟩=>?_)
 subst ex
 obtain rfl:u=FH a:=rx
 obtain ⟨t1,t2,_⟩:=Ah I1 d
 refine ⟨t1,t2,?_⟩
 rw [m.trees]
 refine JP rfl (Calls.evalArgs_plain (J1 (aZ (he aa s1 O H1 _ I1 q1) λiv s2 ⟨y,H2,I2,ry,q2⟩ =>
  J1 (aZ (hf aa s2 O H2 _ I2 q2) λfv s3 ⟨z,H3,I3,rz,ov,g,q3⟩=>Calls.spliced_nil ?_))))
 exact Ai hu I3 g ry rz λw' s4 I4 rw'=>⟨_,H3,I4,rw',q3⟩
end L2
namespace Att
open PySem PySem.W PySem.Calls PyProof.Rows
theorem gj:∀ (ns:List Int) (vs:List Value),WellAll P h vs (ns.map WData.int)->IntsAre vs ns:=by
 intro ns
 induction ns with
 | nil =>
  intro vs w
  rw [HD] at w
  cases w
  exact .nil
 | cons n ns ih =>
  intro vs w
  rw [FD] at w
  cases w with
  | cons a b =>
   cases a
   exact .cons _ _ (ih _ b)
theorem qh {l:OpenLaw} (hn:l.most=some n)
 (hpre:l.row.toRowW.claim.pre args=true) (hwl:WellAll P h vals args) :
 ∃ a vs ns,vals=[FH a]/\args=[WData.list (ns.map WData.int)]/\h.get? a=some { cls:=.type "list",data:=.seq vs.toArray }/\IntsAre vs ns/\ns.length<=n:=by
 have hsh:WShape.hasAll [] args [.list .int]=true:=(pre_splitW hpre).1
 have hc:l.pre.holds [] { args:=args }=true:=(pre_splitW hpre).2
 obtain ⟨d,r,rfl,h1,h2⟩:=hasAllW_cons hsh
 obtain rfl:=hasAllW_nil h2
 obtain ⟨xs,rfl,h3⟩:=hasW_list h1
 obtain ⟨ns,rfl⟩:=items_int h3
 have hlen:ns.length<=n:=by
  unfold OpenLaw.pre at hc
  have h4:(WTm.not (.lt (.lit (.int (n:Int))) (.len (.arg 0)))).holds [] { args:=[.list (ns.map .int)] }=true:=by
   have h4:=(holds_andW hc).1
   rw [hn] at h4
   exact h4
  have h5:=condW_of h4 (w_not (w_lt w_lit (w_len_list (w_arg rfl))))
  rw [Fx] at h5
  refine Nat.le_of_not_lt λq=>?_
  have q':(n:Int)<((ns.length:Nat):Int):=by lia
  first
   | (rw [decide_eq_true q'] at h5; exact absurd h5 (by decide))
   | (simp at h5; lia)
 cases hwl with
 | cons w1 w2 =>
  cases w2
  cases w1 with
  | list ho hall=>exact ⟨_,_,ns,rfl,rfl,ho,gj ns _ hall,hlen⟩
theorem qi (l:OpenLaw) (args):l.row.toRowW.claim.post args (.bool true) args=true :=
 postW_of (r:=l.row.toRowW) (X:=(true == true))
  (show WShape.has [] (.bool true) .bool=true by first | rfl | decide | simp [WShape.has,WShape.arms,WShape.armsAll])
  (show (WTm.eq .res (.lit (.bool true))).value [] { args:=args,res:=some (.bool true),after:=args }=some (.bool (true == true)) from w_eq_bool (w_res rfl) w_lit) rfl
theorem kR {l:OpenLaw}
 (hn:l.most=some n) (hdf:d.params.defaults=[])
 (call:∀ (w:World) (s₀ s₁:Shared) (mg mb:Str->Option Value) (fa:Addr) (o:Obj) (pm cd doc:Value) (a:Addr) (vs:List Value) (ns:List Int),
   Ground q loose [] XP w s₀ mg mb s₁.heap->YP w s₁.heap ->
   s₁.heap.get? fa=some o->o.data=.func (docDef d.name d.params d.body d.scope pm cd doc)->s₁.heap.CodeRec cd d.name->mg d.name=some (.ref fa) ->
   s₁.heap.get? a=some { cls:=.type "list",data:=.seq vs.toArray }->IntsAre vs ns->ns.length<=n->s₁.gens= #[] ->
   codeAny (model l.prog w) callerA (.call (.ref fa) ⟨[.ref a],[]⟩) (λr s'=>r=.ok (.ret (.bool true))/\OldK s₁.heap s'.heap/\s'.os=s₁.os/\AllBare s'.gens) s₁) :
 WalkO q loose XP YP l.row.toRowW d [] (λf vs=>PySem.call f vs):=by
 intro w s₀ s₁ mg mb G Y fa o pm cd doc dV kV ho hd hcd hD hmg hg args vals as hpre hlay hrd hwl hlo
 obtain rfl:dV=.none:=Dflts.none hD hdf
 obtain rfl:kV=.none:=Dflts.noKw hD
 obtain ⟨a,vs,ns,rfl,rfl,hobj,hints,hlen⟩:=qh hn hpre hwl
 refine enter_call (codeAny_mono (call w s₀ s₁ mg mb fa o pm cd doc a vs ns G Y ho (fd_plain hd) hcd hmg hobj hints hlen hg) λr s' hq=>?_)
 obtain ⟨rfl,h2,h3,h4⟩:=hq
 exact ⟨.inl ⟨.bool true,.bool true,[],rfl,λ_=>rfl,.bool true,qi l _,λ_=>⟨Iv,λ_ hm=>(nomatch hm)⟩⟩,h2,h3,h4⟩
end Att
namespace L2
open PySem PySem.Spec PyProof.Rows
theorem ji:∀ {vs:List Value} {ns:List Int},IntsAre vs ns->Vals (ns.map V.int) vs
 | _,_,.nil=>.nil
 | _,_,.cons n t h=>.cons ⟨t,rfl⟩ (ji h)
def Ak (H:Hp):Prop:=∀ b,H b=none\/∃ o xs,H b=some (.frz o (.lst xs))
noncomputable abbrev iX {K:Fi} {h:Heap} (_:K.In h):Fi:=K
end L2
namespace L2
open PySem PySem.Spec PyProof.Rows
noncomputable def di (s:Stmt):Arguments:=match s with
 | .FunctionDef _ a _ _ _ _ _ _ _ _=>a
 | _=>{ posonlyargs:=[],args:=[],vararg:=none,kwonlyargs:=[],kw_defaults:=[],kwarg:=none,defaults:=[] }
noncomputable def aE (s:Stmt):List Stmt:=match s with
 | .FunctionDef _ _ b _ _ _ _ _ _ _=>b
 | _=>[]
noncomputable def aF (s:Stmt):Scope:=match s with
 | .FunctionDef _ _ _ _ _ _ sc _ _ _=>sc
 | _=>{ kind:=.function,names:=[],isGenerator:=false,isCoroutine:=false }
structure gr (K:Fi) (x qual:Str) (st:Stmt) (f:Addr) (fd:FuncData):Prop where
 ex:∃ (oc:Value) (od:Option Addr) (kV doc pm:Value) (an:Option Addr) (cdv ct:Value) (osl:Array (Option Value)),
  fd=Hh x qual (di st) (aE st) (aF st) .none kV doc pm an cdv ct/\K.lookup f=some ⟨oc,od,.func fd,osl⟩/\Jl K cdv qual=true
 kp:HA K (.ref f)=true
section
variable {K:Fi}
theorem gr.binds {st:Stmt} (F:gr K x qual st f fd)
 (h:∀ (kV doc pm:Value) (an:Option Addr) (cdv ct:Value) (us:List Value),us.length=ps.length->bindArgs (Hh x qual (di st) (aE st) (aF st) .none kV doc pm an cdv ct) ⟨us,[]⟩=pure (ps.zip us)):Binds K fd ps []:=by
 obtain ⟨oc,od,kV,doc,pm,an,cdv,ct,osl,rfl,lk,hcd⟩:=F.ex
 exact .all (h kV doc pm an cdv ct)
theorem Al {st:Stmt} {kV doc pm cdv ct:Value} (l:K.lookup f=some ⟨oc,od,.func (Hh x qual (di st) (aE st) (aF st) .none kV doc pm an cdv ct),osl⟩)
 (c:Jl K cdv qual=true) (k:HA K (.ref f)=true):gr K x qual st f (Hh x qual (di st) (aE st) (aF st) .none kV doc pm an cdv ct):=⟨⟨oc,od,kV,doc,pm,an,cdv,ct,osl,rfl,l,c⟩,k⟩
end
theorem Cw (hr:dB k A):A.units+1<cLine:=GI (Nat.add_le_add_left (by decide:1<=64) _) hr.units
theorem qj (h:n<=1000):n<sizeLine:=GI h (by decide)
def aD (H H':Hp):Prop:=∀ b o,H b=some o->H' b=some o
theorem aD.refl (H):aD H H:=λ_ _ h=>h
theorem aD.trans (a:aD H H1) (b:aD H1 H2):aD H H2:=λc o h=>b c o (a c o h)
theorem aD.free (e:aD H H') (h:H' l=Option.none):H l=Option.none:=by
 cases q:H l with
 | none=>rfl
 | some o =>
  rw [e l o q] at h
  cases h
theorem aD.seq {K:Fi} (e:aD H H') (h:dJ K H a xs):dJ K H' a xs:=by
 rcases h with (h | ⟨o,h⟩) | h
 ·exact .inl (.inl (e _ _ h))
 ·exact .inl (.inr ⟨o,e _ _ h⟩)
 ·exact .inr h
section
variable {κ:Type} [DecidableEq κ]
end
end L2
namespace EV
open PySem PySem.Spec PyProof.Rows L2
inductive D where
 | non | bl (b:Bool) | int (i:Int) | str (x:Str) | tup (ds:List D) | lst (ds:List D) | exc (C:Addr)
 | fdK (ks:List Key) (ds:List D) | fdT (ks:List (List Key)) (ds:List D) | adr (a:Addr)
noncomputable def mT (a C:Addr):Heap->Prop:=λh=>∃ o,h.get? a=some o/\o.cls=.ref C/\∃ vs,o.data=.fields vs
mutual
def Rep (K:Fi) (H:Hp):D->V->Prop
 | .non,v=>v=.non
 | .bl b,v=>v=.bl b
 | .int i,v=>v=.int i
 | .str x,v=>v=.str x
 | .tup ds,v=>∃ a xs,v=.ref a/\bO K H a xs/\aj K H ds xs
 | .lst ds,v=>∃ a xs,v=.ref a/\dJ K H a xs/\aj K H ds xs
 | .exc C,v=>∃ a,v=.ref a/\H a=some (.ext (mT a C))
 | .fdK ks ds,v=>∃ a ys o,v=.ref a/\H a=some (.frz o (.dK ys))/\ys.map (·.1)=ks/\aj K H ds (ys.map (·.2))
 | .fdT ks ds,v=>∃ a ys o,v=.ref a/\H a=some (.frz o (.dT ys))/\ys.map (·.1)=ks/\(∀ y∈ys,bO K H y.2.1 (y.1.map kV))/\aj K H ds (ys.map (·.2.2))
 | .adr a,v=>v=.ref a
def aj (K:Fi) (H:Hp):List D->List V->Prop
 | [],xs=>xs=[]
 | d::ds,xs=>∃ x r,xs=x::r/\Rep K H d x/\aj K H ds r
end
theorem ak {K:Fi} (e:aD H H') (h:bO K H a xs):bO K H' a xs:=by
 rcases h with (h | ⟨o,h⟩) | h
 ·exact .inl (.inl (e _ _ h))
 ·exact .inl (.inr ⟨o,e _ _ h⟩)
 ·exact .inr h
mutual
theorem Rep.mono {K:Fi} {H H':Hp} (e:aD H H'):∀ (d:D) {v:V},Rep K H d v->Rep K H' d v
 | .non,_,h=>by simpa [Rep] using h
 | .bl b,_,h=>by simpa [Rep] using h
 | .int i,_,h=>by simpa [Rep] using h
 | .str x,_,h=>by simpa [Rep] using h
 | .tup ds,_,h=>by
  simp only [Rep] at h |-
  obtain ⟨a,xs,e1,h1,h2⟩:=h
  exact ⟨a,xs,e1,ak e h1,aj.mono e ds h2⟩
 | .lst ds,_,h=>by
  simp only [Rep] at h |-
  obtain ⟨a,xs,e1,h1,h2⟩:=h
  exact ⟨a,xs,e1,e.seq h1,aj.mono e ds h2⟩
 | .exc C,_,h=>by
  simp only [Rep] at h |-
  obtain ⟨a,e1,h1⟩:=h
  exact ⟨a,e1,e _ _ h1⟩
 | .fdK ks ds,_,h=>by
  simp only [Rep] at h |-
  obtain ⟨a,ys,o,e1,h1,h2,h3⟩:=h
  exact ⟨a,ys,o,e1,e _ _ h1,h2,aj.mono e ds h3⟩
 | .fdT ks ds,_,h=>by
  simp only [Rep] at h |-
  obtain ⟨a,ys,o,e1,h1,h2,h3,h4⟩:=h
  exact ⟨a,ys,o,e1,e _ _ h1,h2,λy hy=>ak e (h3 y hy),aj.mono e ds h4⟩
 | .adr a,_,h=>by simpa [Rep] using h
theorem aj.mono {K:Fi} {H H':Hp} (e:aD H H'):∀ (ds:List D) {xs:List V},aj K H ds xs->aj K H' ds xs
 | [],_,h=>by simpa [aj] using h
 | d::ds,_,h=>by
  simp only [aj] at h |-
  obtain ⟨x,r,e1,h1,h2⟩:=h
  exact ⟨x,r,e1,Rep.mono e d h1,aj.mono e ds h2⟩
end
section
variable {K:Fi}
theorem az:Rep K H (.int i) v↔v=.int i:=by simp only [Rep]
theorem bR:Rep K H (.bl i) v↔v=.bl i:=by simp only [Rep]
theorem aV:Rep K H .non v↔v=.non:=by simp only [Rep]
theorem cU:Rep K H (.str i) v↔v=.str i:=by simp only [Rep]
theorem ay:Rep K H (.tup ds) v↔∃ a xs,v=.ref a/\bO K H a xs/\aj K H ds xs:=by simp only [Rep]
theorem aP:Rep K H (.lst ds) v↔∃ a xs,v=.ref a/\dJ K H a xs/\aj K H ds xs:=by simp only [Rep]
theorem gu:Rep K H (.fdK ks ds) v↔∃ a ys o,v=.ref a/\H a=some (.frz o (.dK ys))/\ys.map (·.1)=ks/\aj K H ds (ys.map (·.2)):=by simp only [Rep]
theorem jP:Rep K H (.fdT ks ds) v↔∃ a ys o,v=.ref a/\H a=some (.frz o (.dT ys))/\ys.map (·.1)=ks/\(∀ y∈ys,bO K H y.2.1 (y.1.map kV))/\aj K H ds (ys.map (·.2.2)):=by simp only [Rep]
theorem wC:Rep K H (.exc C) v↔∃ a,v=.ref a/\H a=some (.ext (mT a C)):=by simp only [Rep]
theorem au:aj K H [] xs↔xs=[]:=by simp only [aj]
theorem av:aj K H (d::ds) xs↔∃ x r,xs=x::r/\Rep K H d x/\aj K H ds r:=by simp only [aj]
theorem aj.length:∀ {ds:List D} {xs:List V},aj K H ds xs->ds.length=xs.length
 | [],_,h=>by rw [au] at h; subst h; rfl
 | d::ds,_,h=>by
  rw [av] at h
  obtain ⟨x,r,rfl,_,h2⟩:=h
  simp [aj.length h2]
theorem aj.get:∀ {ds:List D} {xs:List V} {i:Nat} {d:D},aj K H ds xs->ds[i]?=some d->∃ x,xs[i]?=some x/\Rep K H d x
 | [],_,_,_,_,e=>by simp at e
 | d::ds,_,i,d',h,e=>by
  rw [av] at h
  obtain ⟨x,r,rfl,h1,h2⟩:=h
  cases i with
  | zero=>simp at e; subst e; exact ⟨x,by simp,h1⟩
  | succ i =>
   obtain ⟨y,e2,h3⟩:=aj.get (i:=i) (d:=d') h2 (by simpa using e)
   exact ⟨y,by simpa using e2,h3⟩
theorem aj.get':∀ {ds:List D} {xs:List V} {i:Nat} {x:V},aj K H ds xs->xs[i]?=some x->∃ d,ds[i]?=some d/\Rep K H d x:=λ{ds xs i x} h e=>by
 have hl:=h.length
 have hi:i<xs.length:=(FA.mp e).1
 obtain ⟨y,e2,h2⟩:=h.get (i:=i) (d:=ds[i]'(by lia)) (by simp)
 rw [e] at e2; cases e2
 exact ⟨_,by simp,h2⟩
theorem aj.append:∀ {ds es:List D} {xs ys:List V},aj K H ds xs->aj K H es ys->aj K H (ds++es) (xs++ys)
 | [],_,_,_,h,g=>by rw [au] at h; subst h; exact g
 | d::ds,_,_,_,h,g=>by
  rw [av] at h
  obtain ⟨x,r,rfl,h1,h2⟩:=h
  exact av.mpr ⟨x,r++_,rfl,h1,aj.append h2 g⟩
theorem aj.drop:∀ (n:Nat) {ds:List D} {xs:List V},aj K H ds xs->aj K H (ds.drop n) (xs.drop n)
 | 0,_,_,h=>h
 | n+1,[],_,h=>by rw [au] at h; subst h; exact au.mpr rfl
 | n+1,d::ds,_,h=>by
  rw [av] at h
  obtain ⟨x,r,rfl,h1,h2⟩:=h
  exact aj.drop n h2
theorem aj.take:∀ (n:Nat) {ds:List D} {xs:List V},aj K H ds xs->aj K H (ds.take n) (xs.take n)
 | 0,_,_,h=>au.mpr rfl
 | n+1,[],_,h=>by rw [au] at h; subst h; exact au.mpr rfl
 | n+1,d::ds,_,h=>by
  rw [av] at h
  obtain ⟨x,r,rfl,h1,h2⟩:=h
  exact av.mpr ⟨x,r.take n,rfl,h1,aj.take n h2⟩
theorem aj.dropLast (h:aj K H ds xs):aj K H ds.dropLast xs.dropLast:=by
 rw [List.dropLast_eq_take,List.dropLast_eq_take,h.length]; exact h.take _
theorem aj.one (h:Rep K H d v):aj K H [d] [v]:=av.mpr ⟨v,[],rfl,h,au.mpr rfl⟩
theorem aj.cons (h:Rep K H d v) (t:aj K H ds xs):aj K H (d::ds) (v::xs):=av.mpr ⟨v,xs,rfl,h,t⟩
theorem jj:∀ (ns:List Int),aj K H (ns.map D.int) (ns.map V.int)
 | []=>au.mpr rfl
 | n::ns=>.cons (az.mpr rfl) (jj ns)
end
inductive Sh where
 | v (d:D) | l (ds:List D) | la (a:Addr) (ds:List D) | t (ss:List Sh) | ls (ss:List Sh)
noncomputable def pl (p:Addr) (xs:List V):HO:=.ext λh=>xs.length<=sizeLine/\∃ (its:List Value) (n:Nat),Vals xs its/\h.get? p=some { cls:=.type "list",data:=.seq its.toArray n }
mutual
def bU (K:Fi) (H Hf:Hp):Sh->V->List (Addr×List V)->Prop
 | .v d,v,fp=>Rep K Hf d v/\fp=[]
 | .l ds,v,fp=>∃ p xs,v=.ref p/\H p=some (pl p xs)/\Hf p=none/\aj K Hf ds xs/\fp=[(p,xs)]
 | .la p ds,v,fp=>∃ xs,v=.ref p/\H p=some (pl p xs)/\Hf p=none/\aj K Hf ds xs/\fp=[(p,xs)]
 | .t ss,v,fp=>∃ a xs,v=.ref a/\bO K Hf a xs/\aH K H Hf ss xs fp
 | .ls ss,v,fp=>∃ p xs fq,v=.ref p/\H p=some (pl p xs)/\Hf p=none/\aH K H Hf ss xs fq/\fp=(p,xs)::fq
def aH (K:Fi) (H Hf:Hp):List Sh->List V->List (Addr×List V)->Prop
 | [],xs,fp=>xs=[]/\fp=[]
 | s::ss,xs,fp=>∃ x r f1 f2,xs=x::r/\bU K H Hf s x f1/\aH K H Hf ss r f2/\fp=f1++f2
end
def sD (H:Hp) (q:Addr):Prop:=∃ xs,H q=some (pl q xs)
mutual
theorem bU.mv {K:Fi} {H Hf H' ai:Hp} (sf:aD Hf ai):∀ (s:Sh) {v:V} {fp:List (Addr×List V)},(∀ q∈fp,H q.1=some (pl q.1 q.2)->Hf q.1=none->H' q.1=some (pl q.1 q.2)/\ai q.1=none)->bU K H Hf s v fp->bU K H' ai s v fp
 | .v d,_,_,_,h=>by simp only [bU] at h |-; exact ⟨h.1.mono sf d,h.2⟩
 | .l ds,_,_,hk,h=>by
  simp only [bU] at h |-
  obtain ⟨p,xs,e,h1,h2,h3,rfl⟩:=h
  obtain ⟨q1,q2⟩:=hk _ FF h1 h2
  exact ⟨p,xs,e,q1,q2,h3.mono sf ds,rfl⟩
 | .la p ds,_,_,hk,h=>by
  simp only [bU] at h |-
  obtain ⟨xs,e,h1,h2,h3,rfl⟩:=h
  obtain ⟨q1,q2⟩:=hk _ FF h1 h2
  exact ⟨xs,e,q1,q2,h3.mono sf ds,rfl⟩
 | .t ss,_,_,hk,h=>by
  simp only [bU] at h |-
  obtain ⟨a,xs,e,h1,h2⟩:=h
  exact ⟨a,xs,e,ak sf h1,aH.mv sf ss hk h2⟩
 | .ls ss,_,_,hk,h=>by
  simp only [bU] at h |-
  obtain ⟨p,xs,fq,e,h1,h2,h3,rfl⟩:=h
  obtain ⟨q1,q2⟩:=hk _ FF h1 h2
  exact ⟨p,xs,fq,e,q1,q2,aH.mv sf ss (λq hq=>hk q (FL _ hq)) h3,rfl⟩
theorem aH.mv {K:Fi} {H Hf H' ai:Hp} (sf:aD Hf ai):∀ (ss:List Sh) {xs:List V} {fp:List (Addr×List V)},(∀ q∈fp,H q.1=some (pl q.1 q.2)->Hf q.1=none->H' q.1=some (pl q.1 q.2)/\ai q.1=none)->aH K H Hf ss xs fp->aH K H' ai ss xs fp
 | [],_,_,_,h=>by simpa only [aH] using h
 | s::ss,_,_,hk,h=>by
  simp only [aH] at h |-
  obtain ⟨x,r,f1,f2,e,h1,h2,rfl⟩:=h
  exact ⟨x,r,f1,f2,e,bU.mv sf s (λq hq=>hk q (Je _ hq)) h1,aH.mv sf ss (λq hq=>hk q (Gr _ hq)) h2,rfl⟩
end
inductive Sl where
 | un
 | va (d:D)
 | ow (ds:List D)
 | oT (kvs:List (List Key×D))
 | oK (kvs:List (Key×D))
 | aw (a:Addr) (ds:List D)
 | aT (a:Addr) (kvs:List (List Key×D))
 | aK (a:Addr) (kvs:List (Key×D))
 | fo (s:Sh)
noncomputable def jQ (K:Fi) (H:Hp) {κ:Type}:List (κ×D)->List (κ×V)->Prop:=Paired λa b=>a.1=b.1/\Rep K H a.2 b.2
theorem jQ.mono {K:Fi} (e:aD H H') (h:jQ K H ks xs):jQ K H' ks xs :=
 Paired.zl h λa b z=>⟨z.1,Rep.mono e _ z.2⟩
noncomputable def iR (K:Fi) (H:Hp):List (List Key×D)->List (List Key×Addr×V)->Prop:=Paired λa b=>a.1=b.1/\bO K H b.2.1 (a.1.map kV)/\Rep K H a.2 b.2.2
theorem iR.mono {K:Fi} (e:aD H H') (h:iR K H ks xs):iR K H' ks xs :=
 Paired.zl h λa b z=>⟨z.1,ak e z.2.1,Rep.mono e _ z.2.2⟩
noncomputable def aJ (K:Fi) (fr:Addr->Prop) (H Hf:Hp):Sl->V->Prop
 | .un,_=>False
 | .va d,v=>Rep K Hf d v
 | .ow ds,v=>∃ p xs,v=.ref p/\fr p/\H p=some (.lst xs)/\Hf p=none/\aj K Hf ds xs
 | .oT kvs,v=>∃ p xs,v=.ref p/\fr p/\H p=some (.dT xs)/\Hf p=none/\iR K Hf kvs xs
 | .oK kvs,v=>∃ p xs,v=.ref p/\fr p/\H p=some (.dK xs)/\Hf p=none/\jQ K Hf kvs xs
 | .aw a ds,v=>∃ p xs,v=.ref p/\(fr p/\p=a)/\H p=some (.lst xs)/\Hf p=none/\aj K Hf ds xs
 | .aT a kvs,v=>∃ p xs,v=.ref p/\(fr p/\p=a)/\H p=some (.dT xs)/\Hf p=none/\iR K Hf kvs xs
 | .aK a kvs,v=>∃ p xs,v=.ref p/\(fr p/\p=a)/\H p=some (.dK xs)/\Hf p=none/\jQ K Hf kvs xs
 | .fo s,v=>∃ fp,bU K H Hf s v fp/\(fp.map (·.1)).Nodup/\∀ a∈fp,fr a.1
noncomputable def Sl.owned:Sl->Bool
 | .ow _=>true | .oT _=>true | .oK _=>true | .aw _ _=>true | .aT _ _=>true | .aK _ _=>true | _=>false
structure bf (H Hf H' ai:Hp):Prop where
 s:aD H H'
 f:aD Hf ai
 b:aD ai H'
 n:∀ b,Hf b=none->H b≠none->(∀ xs,H b≠some (.tup xs))->ai b=none
theorem bf.refl (b:aD Hf H):bf H Hf H Hf:=⟨.refl _,.refl _,b,λ_ h _ _=>h⟩
theorem bf.trans (a:bf H Hf H1 aM) (b:bf H1 aM H2 bN):bf H Hf H2 bN :=
 ⟨a.s.trans b.s,a.f.trans b.f,b.b,λc h1 h2 h3=>by
   cases q:H c with
   | none=>exact absurd q h2
   | some o =>
    have e:=a.s c o q
    exact b.n c (a.n c h1 h2 h3) (by rw [e]; simp) (by intro xs; rw [e,<- q]; exact h3 xs)⟩
theorem bf.new (b:aD Hf H) (hp:H p=none):bf H Hf (upd H p o) (upd Hf p o):=by
 have hf:Hf p=none:=b.free hp
 refine ⟨λc u h=>?_,λc u h=>?_,λc u h=>?_,λc h1 h2 _=>?_⟩
 ·rw [af (aq h hp)]; exact h
 ·rw [af (aq h hf)]; exact h
 ·by_cases e:c=p
  ·subst e; rw [ah] at h |-; exact h
  ·rw [af e] at h |-; exact b c u h
 ·by_cases e:c=p
  ·subst e; exact absurd hp h2
  ·rw [af e]; exact h1
theorem bf.gS (b:aD Hf H) (hp:H p=none):bf H Hf (upd H p o) Hf :=
 ⟨(bf.new b hp (o:=o)).s,.refl _,λc u h=>(bf.new b hp (o:=o)).s c u (b c u h),λ_ h _ _=>h⟩
inductive At {α:Type}:List α->Nat->α->Prop where
 | z {x:α} {l:List α}:At (x::l) 0 x
 | s {x y:α} {l:List α} {i:Nat}:At l i x->At (y::l) (i+1) x
theorem At.get (h:At l i x):l[i]?=some x:=by
 induction h with
 | z=>rfl
 | s _ ih=>simpa using ih
theorem At.mem (h:At l i x):x∈l:=Ik h.get
inductive SSet {α:Type}:List α->Nat->α->List α->Prop where
 | z {x r:α} {l:List α}:SSet (x::l) 0 r (r::l)
 | s {r y:α} {l l':List α} {i:Nat}:SSet l i r l'->SSet (y::l) (i+1) r (y::l')
theorem SSet.eq (h:SSet l i r l'):l'=l.set i r:=by
 induction h with
 | z=>rfl
 | s _ ih=>simp [ih]
structure cJ (K:Fi) (H₀ cS:Hp) (O:L2.St) (H Hf:Hp) (ρ:List Sl):Prop where
 bas:bf H₀ cS H Hf
 len:O.length=ρ.length
 at_:∀ (i:Nat) (r:Sl),ρ[i]?=some r->r≠.un->∃ v,O[i]?=some (some v)/\aJ K (λp=>H₀ p=none) H Hf r v
 sep:∀ (i j:Nat) (r r':Sl) (p:Addr),i≠j->ρ[i]?=some r->ρ[j]?=some r'->r.owned=true->r'.owned=true->O[i]?=some (some (.ref p))->O[j]?≠some (some (.ref p))
structure Cy (P:Program) (w:World) (outer:List Env) (H:Hp) (s:Shared) (a C:Addr) (H':Hp) (s':Shared):Prop where
 os:s'.os=s.os
 bare:AllBare s'.gens
 un:Un (frs outer) [] H H' s.heap s'.heap
 hok:fC P w H' s'.heap
 new:s.heap.get? a=none
 free:H' a=none
 fly:∃ (t:Addr) (B:Heap),Heap.FlyingW B outer a (.ref C) (.ref t) s'.heap/\(∀ b o,s.heap.get? b=some o->b∉frs outer->∃ o',s'.heap.get? b=some o'/\B.get? b=some o') /\
  ∀ b o,H' b≠none->s'.heap.get? b=some o->B.get? b=some o
noncomputable def fZ (P:Program) (w:World):zU:=λouter H s E e s'=>∃ a C H',e=.ref a/\Cy P w outer H s a C H' s'/\E (.ref C) (some a) H'
set_option genInjectivity false in
structure Ctx (P:Program) (w:World) (K:Fi) (mg:Str->Option Value) (base:Heap) (k:Nat) (N:List Str) (sc:Scope) (bk:Bool) where
 X:Cx
 eP:X.prog=P
 ew:X.w=w
 eK:X.K=K
 emg:X.mg=mg
 eb:X.base=base
 eN:X.N=N
 esc:X.env.scope=sc
 calm:X.calm=true
 top:bk=false->X.stack=X.env::X.outer/\X.env.frame=some X.env.locals/\X.ex=[]
 cb:bk=false->∀ (aa:List (Addr×Obj)) (O:L2.St) (H:Hp) (s:Shared),Inv X aa O H s->∀ (x:Str) (c:Addr),X.env.cells.lookup x=some c->X.s₀.heap.objs.size<=c
 fn:∀ x,bk=false\/sc.names.lookup x=some .local->X.fn x=true\/X.env.scope.names.lookup x=some .local
 room:dB k X.A
 nd:N.Nodup
 vis:∀ x∈N,Loc sc x
 Hf:Hp
 B:Hp
 RX:Addr->List Sl->Prop
 exc:∀ (C a:Addr) (aa:List (Addr×Obj)) (O:L2.St) (H ai:Hp) (ρ:List Sl) (s:Shared) (H':Hp) (s':Shared),Inv X aa O H s->cJ X.K B Hf O H ai ρ->RX C ρ->Cy X.prog X.w X.stack H s a C H' s'->aD H H'->X.xe (.ref a) s'
 RM:Addr->List Sl->Prop
 mde:∀ (C a:Addr) (aa:List (Addr×Obj)) (O:L2.St) (H ai:Hp) (ρ:List Sl) (s:Shared) (h':Heap) (us:List Value),Inv X aa O H s->cJ X.K B Hf O H ai ρ->RM C ρ->Heap.MadeExcOf s.heap h' a (.ref C) us->X.xe (.ref a) { s with heap:=h' }
noncomputable def Sl.E9:Sl->Bool | .fo _=>true | _=>false
abbrev kD {α:Type} (fr:Addr->Prop) (H Hf:Hp) (o:α->HO) (R:α->Prop) (v:V):Prop:=∃ (p:Addr) (xs:α),v=.ref p/\fr p/\H p=some (o xs)/\Hf p=none/\R xs
theorem kD.BL (h:kD fr H Hf o R v) (hk:∀ p,v=.ref p->∀ u,(∀ ys,u≠.tup ys)->H p=some u->Hf p=none->H' p=some u/\ai p=none) (ho:∀ xs ys,o xs≠.tup ys) (hR:∀ xs,R xs->R' xs):kD fr H' ai o R' v:=by
 obtain ⟨p,xs,e,f,h1,h2,h3⟩:=h
 exact ⟨p,xs,e,f,(hk p e _ (ho xs) h1 h2).1,(hk p e _ (ho xs) h1 h2).2,hR xs h3⟩
theorem kD.BN (h:kD fr H Hf o R v) (hf:∀ p,fr p->fr' p):kD fr' H Hf o R v :=
 let ⟨p,xs,e,f,h⟩:=h; ⟨p,xs,e,hf p f,h⟩
theorem aJ.mv {K:Fi} {B:Addr->Prop} (sf:aD Hf ai) (hk:∀ q o,¬ B q->H q=some o->(∀ xs,o≠.tup xs)->Hf q=none->H' q=some o/\ai q=none):∀ {r:Sl} {v:V},
 (r.E9=true->∀ q,B q->¬ sD H q)->(r.owned=true->∀ q,v=.ref q->¬ B q)->aJ K fr H Hf r v->aJ K fr H' ai r v
 | .un,_,_,_,h=>h
 | .va d,_,_,_,h=>Rep.mono sf d h
 | .ow ds,_,_,hv,h=>kD.BL h (λp e o z ho hf=>hk p o (hv rfl p e) ho z hf) (λ_ _ z=>by cases z) λ_ h=>h.mono sf
 | .oT kvs,_,_,hv,h=>kD.BL h (λp e o z ho hf=>hk p o (hv rfl p e) ho z hf) (λ_ _ z=>by cases z) λ_ h=>h.mono sf
 | .oK kvs,_,_,hv,h=>kD.BL h (λp e o z ho hf=>hk p o (hv rfl p e) ho z hf) (λ_ _ z=>by cases z) λ_ h=>h.mono sf
 | .aw a ds,_,_,hv,h=>kD.BL h (λp e o z ho hf=>hk p o (hv rfl p e) ho z hf) (λ_ _ z=>by cases z) λ_ h=>h.mono sf
 | .aT a kvs,_,_,hv,h=>kD.BL h (λp e o z ho hf=>hk p o (hv rfl p e) ho z hf) (λ_ _ z=>by cases z) λ_ h=>h.mono sf
 | .aK a kvs,_,_,hv,h=>kD.BL h (λp e o z ho hf=>hk p o (hv rfl p e) ho z hf) (λ_ _ z=>by cases z) λ_ h=>h.mono sf
 | .fo s,_,hB,_,⟨fp,h1,h2,h3⟩=>⟨fp,bU.mv sf s (λq _ e1 e2=>hk q.1 _ (λb=>hB rfl q.1 b ⟨q.2,e1⟩) e1 (by intro ys z; cases z) e2) h1,h2,h3⟩
theorem aJ.bY {K:Fi} (g:bf H Hf H' ai) (h:aJ K fr H Hf r v):aJ K fr H' ai r v :=
 aJ.mv (B:=λ_=>False) g.f (λq o _ e1 e2 e3=>⟨g.s _ _ e1,g.n q e3 (by rw [e1]; simp) λxs z=>e2 xs (by rw [e1] at z; exact GJ z)⟩) (λ_ _ z=>z.elim) (λ_ _ _ z=>z) h
theorem aJ.weak {K:Fi} (hf:∀ p,fr p->fr' p):∀ {r:Sl} {v:V},aJ K fr H Hf r v->aJ K fr' H Hf r v
 | .un,_,h=>h
 | .va d,_,h=>h
 | .ow ds,_,h=>kD.BN h hf
 | .oT ds,_,h=>kD.BN h hf
 | .oK ds,_,h=>kD.BN h hf
 | .aw a ds,_,h=>kD.BN h λp f=>⟨hf p f.1,f.2⟩
 | .aT a ds,_,h=>kD.BN h λp f=>⟨hf p f.1,f.2⟩
 | .aK a ds,_,h=>kD.BN h λp f=>⟨hf p f.1,f.2⟩
 | .fo s,_,⟨fp,h1,h2,h3⟩=>⟨fp,h1,h2,λa ha=>hf _ (h3 a ha)⟩
section
variable {K:Fi}
def Ctx.fr (c:Ctx P w K mg base k N sc bk) (p:Addr):Prop:=c.B p=none
abbrev aL (c:Ctx P w K mg base k N sc bk) (O:L2.St) (H Hf:Hp) (ρ:List Sl):Prop:=cJ c.X.K c.B c.Hf O H Hf ρ
theorem cJ.bY (S:cJ K H₀ cS O H Hf ρ) (g:bf H Hf H' ai):cJ K H₀ cS O H' ai ρ :=
 ⟨S.bas.trans g,S.len,λi r h hr=>let ⟨v,e,q⟩:=S.at_ i r h hr; ⟨v,e,q.bY g⟩,S.sep⟩
theorem cJ.sb (S:cJ K H₀ cS O H Hf ρ):aD Hf H:=S.bas.b
theorem cJ.va (S:cJ K H₀ cS O H Hf ρ) {i:Nat} (h:ρ[i]?=some (.va d)):∃ v,O[i]?=some (some v)/\Rep K Hf d v:=S.at_ i _ h (by simp)
theorem cJ.set (S:cJ K H₀ cS O H Hf ρ) (g:bf H Hf H1 aM) (hr:aJ K (λp=>H p=none) H1 aM r v) :
 cJ K H₀ cS (O.set i (some v)) H1 aM (ρ.set i r):=by
 have S1:=S.bY g
 have fr0:∀ p,H p=none->H₀ p=none:=λp h=>S.bas.s.free h
 have fresh:∀ p,r.owned=true->v=.ref p->H p=none:=λp ho e=>by
  subst e
  cases r with
  | un=>cases ho
  | va d=>cases ho
  | ow ds=>obtain ⟨p',xs,e,h,_⟩:=hr; cases e; exact h
  | oT ds=>obtain ⟨p',xs,e,h,_⟩:=hr; cases e; exact h
  | oK ds=>obtain ⟨p',xs,e,h,_⟩:=hr; cases e; exact h
  | aw a ds=>obtain ⟨p',xs,e,h,_⟩:=hr; cases e; exact h.1
  | aT a ds=>obtain ⟨p',xs,e,h,_⟩:=hr; cases e; exact h.1
  | aK a ds=>obtain ⟨p',xs,e,h,_⟩:=hr; cases e; exact h.1
  | fo s=>cases ho
 have old:∀ (j:Nat) (r':Sl) (p:Addr),ρ[j]?=some r'->r'.owned=true->O[j]?=some (some (.ref p))->H p≠none:=λj r' p h ho hs=>by
  obtain ⟨v',e,q⟩:=S.at_ j r' h (by rintro rfl; cases ho)
  rw [hs] at e; cases e
  cases r' with
  | un=>cases ho
  | va d=>cases ho
  | ow ds=>obtain ⟨p',xs,e,_,h,_⟩:=q; cases e; rw [h]; simp
  | oT ds=>obtain ⟨p',xs,e,_,h,_⟩:=q; cases e; rw [h]; simp
  | oK ds=>obtain ⟨p',xs,e,_,h,_⟩:=q; cases e; rw [h]; simp
  | aw a ds=>obtain ⟨p',xs,e,_,h,_⟩:=q; cases e; rw [h]; simp
  | aT a ds=>obtain ⟨p',xs,e,_,h,_⟩:=q; cases e; rw [h]; simp
  | aK a ds=>obtain ⟨p',xs,e,_,h,_⟩:=q; cases e; rw [h]; simp
  | fo s=>cases ho
 refine ⟨S1.bas,by simp [S.len],λj r' hj hu=>?_,λj j' r1 r2 p hne h1 h2 o1 o2 e1 e2=>?_⟩
 ·by_cases q:j=i
  ·subst q
   have hi:j<ρ.length:=by
    have:=(FA.mp hj).1
    simpa using this
   rw [Gq hi] at hj; cases hj
   exact ⟨v,Gq (by rw [S.len]; exact hi),hr.weak fr0⟩
  ·rw [Gs (FI q)] at hj |-
   exact S1.at_ j r' hj hu
 ·have hlt:∀ {j:Nat} {r:Sl},(ρ.set i r)[j]?=some r->j<ρ.length:=λ{j r} h=>by
   have:=(FA.mp h).1
   simpa using this
  by_cases q1:j=i
  ·subst q1
   have hi:j<ρ.length:=by have:=(FA.mp h1).1; simpa using this
   rw [Gq hi] at h1; cases h1
   rw [Gq (by rw [S.len]; exact hi)] at e1
   rw [Gs hne] at h2 e2
   exact old j' r2 p h2 o2 e2 (fresh p o1 (by simpa using e1))
  ·by_cases q2:j'=i
   ·subst q2
    have hi:j'<ρ.length:=by have:=(FA.mp h2).1; simpa using this
    rw [Gq hi] at h2; cases h2
    rw [Gq (by rw [S.len]; exact hi)] at e2
    rw [Gs (FI hne)] at h1 e1
    exact old j r1 p h1 o1 e1 (fresh p o2 (by simpa using e2))
   ·rw [Gs (FI q1)] at h1 e1
    rw [Gs (FI q2)] at h2 e2
    exact S.sep j j' r1 r2 p hne h1 h2 o1 o2 e1 e2
theorem cJ.weak (S:cJ K H₀ cS O H Hf ρ) (hl:ρ'.length=ρ.length) (h:∀ (i:Nat) (r:Sl),ρ'[i]?=some r->r≠.un->ρ[i]?=some r):cJ K H₀ cS O H Hf ρ' :=
 ⟨S.bas,by rw [S.len,hl],λi r e hu=>S.at_ i r (h i r e hu) hu,λi j r r' p hne h1 h2 o1 o2=>S.sep i j r r' p hne (h i r h1 (by rintro rfl; cases o1)) (h j r' h2 (by rintro rfl; cases o2)) o1 o2⟩
end
section
variable {P:Program} {w:World} {K:Fi} {mg:Str->Option Value} {base:Heap} {k:Nat} {N:List Str} {sc:Scope} {bk:Bool}
noncomputable def bE (X:Cx) (e:Expr):TE:=λO H Q=>∀ aa s,Inv X aa O H s->wpAny (model X.prog X.w) X.A (eval e X.env) (EP X aa O Q) X.xe s
theorem cF:PE X e (bE X e):=λaa s O H Q I h=>h aa s I
theorem bw (h:PE X e t) (q:t O H Q):bE X e O H Q:=λaa s I=>h aa s O H Q I q
noncomputable def bT (X:Cx) (e:Expr):TT:=λO H Q=>∀ aa s,Inv X aa O H s->wpAny (model X.prog X.w) X.A (isTrue e X.env (eval e X.env)) (TP X aa O Q) X.xe s
theorem yz:PT X e (bT X e):=λaa s O H Q I h=>h aa s I
theorem kT (h:PT X e t) (q:t O H Q):bT X e O H Q:=λaa s I=>h aa s O H Q I q
noncomputable def bA (X:Cx) (es:List Expr):TA:=λO H Q=>∀ pos aa s,Inv X aa O H s->wpAny (model X.prog X.w) X.A (spliced (backTo pos (starEach es X.env))) (AP X aa O Q) X.xe s
theorem BO:PA X es (bA X es):=λpos aa s O H Q I h=>h pos aa s I
theorem yC (h:PA X es t) (q:t O H Q):bA X es O H Q:=λpos aa s I=>h pos aa s O H Q I q
noncomputable def bS (X:Cx) (st:Stmt):TS:=λD O H=>∀ aa s,Inv X aa O H s->wpAny (model X.prog X.w) X.A (exec st X.env) (SP X aa D) X.xe s
theorem Fb {st:Stmt}:PS X st (bS X st):=λaa s O H D I h=>h aa s I
theorem cY {st:Stmt} (h:PS X st t) {D:Ends} (q:t D O H):bS X st D O H:=λaa s I=>h aa s O H D I q
noncomputable def Cz (X:Cx) (st:List Stmt):TS:=λD O H=>∀ aa s,Inv X aa O H s->wpAny (model X.prog X.w) X.A (execs st X.env) (SP X aa D) X.xe s
theorem qk {st:List Stmt}:nN X st (Cz X st):=λaa s O H D I h=>h aa s I
theorem sE {st:List Stmt} (h:nN X st t) {D:Ends} (q:t D O H):Cz X st D O H:=λaa s I=>h aa s O H D I q
noncomputable def bG (X:Cx) (tg:Expr):TG:=λv O H Q=>∀ aa s u,Inv X aa O H s->RelV v u->wpAny (model X.prog X.w) X.A (assign tg X.env u) (λ_ s'=>∃ O' H',Inv X aa O' H' s'/\Q O' H') X.xe s
theorem ET:PG X tg (bG X tg):=λaa s O H v u Q I r h=>h aa s u I r
theorem sF (h:PG X tg t) (q:t v O H Q):bG X tg v O H Q:=λaa s u I r=>h aa s O H v u Q I r q
variable (c:Ctx P w K mg base k N sc bk)
def cR (e:Expr) (ρ:List Sl) (R:Sl->Prop):Prop :=
 ∀ (O:L2.St) (H Hf:Hp) (Q:VK),aL c O H Hf ρ->(∀ r v H' ai,R r->aJ c.X.K (λp=>H p=none) H' ai r v->bf H Hf H' ai->Q v H')->bE c.X e O H Q
def aA (e:Expr) (ρ:List Sl) (R:D->Prop):Prop :=
 ∀ (O:L2.St) (H Hf:Hp) (Q:VK),aL c O H Hf ρ->(∀ d v H' ai,R d->Rep c.X.K ai d v->bf H Hf H' ai->Q v H')->bE c.X e O H Q
def fH (e:Expr) (ρ:List Sl) (R:Bool->Prop):Prop :=
 ∀ (O:L2.St) (H Hf:Hp) (Q:Bool->Hp->Prop),aL c O H Hf ρ->(∀ b H' ai,R b->bf H Hf H' ai->Q b H')->bT c.X e O H Q
def mU (es:List Expr) (ρ:List Sl) (R:List D->Prop):Prop :=
 ∀ (O:L2.St) (H Hf:Hp) (Q:List V->Hp->Prop),aL c O H Hf ρ->(∀ ds vs H' ai,R ds->aj c.X.K ai ds vs->bf H Hf H' ai->Q vs H')->bA c.X es O H Q
structure Pt where
 rt:Sl->Prop
 bk:List Sl->Prop:=λ_=>False
 ct:List Sl->Prop:=λ_=>False
structure sG (nx:List Sl->Prop) (p:Pt) (D:Ends):Prop where
 nx:∀ O H Hf ρ,aL c O H Hf ρ->nx ρ->D.nx O H
 rt:∀ r v H Hf,bf c.B c.Hf H Hf->aJ c.X.K c.fr H Hf r v->p.rt r->D.rt v H
 bk:∀ O H Hf ρ,aL c O H Hf ρ->p.bk ρ->D.bk O H
 ct:∀ O H Hf ρ,aL c O H Hf ρ->p.ct ρ->D.ct O H
def d7 (st:Stmt) (ρ:List Sl) (nx:List Sl->Prop) (p:Pt):Prop :=
 ∀ (O:L2.St) (H Hf:Hp) (D:Ends),aL c O H Hf ρ->sG c nx p D->bS c.X st D O H
def aQ (st:List Stmt) (ρ:List Sl) (nx:List Sl->Prop) (p:Pt):Prop :=
 ∀ (O:L2.St) (H Hf:Hp) (D:Ends),aL c O H Hf ρ->sG c nx p D->Cz c.X st D O H
def mV (tg:Expr) (d:D) (ρ:List Sl) (R:List Sl->Prop):Prop :=
 ∀ (O:L2.St) (H Hf:Hp) (v:V) (Q:L2.St->Hp->Prop),aL c O H Hf ρ->Rep c.X.K Hf d v->(∀ O' H' ai ρ',aL c O' H' ai ρ'->bf H Hf H' ai->R ρ'->Q O' H')->bG c.X tg v O H Q
variable {c}
noncomputable def Sl.fz:Sl->Option D
 | .va d=>some d
 | .ow ds=>some (.lst ds)
 | _=>none
def yD (R:D->Prop) (r:Sl):Prop:=∃ d,r.fz=some d/\R d
theorem Am (e:r.fz=some d) (h:aJ K (λp=>H p=none) H' ai r v) (g:bf H Hf H' ai) :
 ∃ bN,Rep K bN d v/\bf H Hf H' bN:=by
 cases r with
 | un=>cases e
 | va d'=>cases e; exact ⟨ai,h,g⟩
 | oT _=>cases e
 | oK _=>cases e
 | aw _ _=>cases e
 | aT _ _=>cases e
 | aK _ _=>cases e
 | fo _=>cases e
 | ow ds =>
  cases e
  obtain ⟨p,xs,rfl,hp,h1,h2,h3⟩:=h
  have sf:aD ai (upd ai p (.lst xs)):=λb o e=>by rw [af (aq e h2)]; exact e
  have sb:aD (upd ai p (.lst xs)) H':=λb o e=>by
   by_cases q:b=p
   ·subst q; rw [ah] at e; rw [h1]; exact e
   ·rw [af q] at e; exact g.b b o e
  refine ⟨upd ai p (.lst xs),aP.mpr ⟨p,xs,rfl,.inl (.inl ah),h3.mono sf⟩,g.s,g.f.trans sf,sb,λb q1 q2 q3=>?_⟩
  have e:=g.n b q1 q2 q3
  by_cases q:b=p
  ·subst q; exact absurd hp q2
  ·rw [af q]; exact e
theorem e_x (h:cR c e ρ (yD R)):aA c e ρ R:=λO H Hf Q S q =>
 h O H Hf Q S λr v H' ai ⟨d,e1,rd⟩ rs g=>let ⟨bN,h1,g2⟩:=Am e1 rs g; q d v H' bN rd h1 g2
theorem BP (h:aA c e ρ λd=>R (.va d)):cR c e ρ R:=λO H Hf Q S q =>
 h O H Hf Q S λd v H' ai rd h1 g=>q (.va d) v H' ai rd h1 g
theorem aA.imp (h:aA c e ρ R) (hi:∀ d,R d->R' d):aA c e ρ R':=λO H Hf Q S q=>h O H Hf Q S λd v H' ai rd=>q d v H' ai (hi d rd)
theorem cR.imp (h:cR c e ρ R) (hi:∀ d,R d->R' d):cR c e ρ R':=λO H Hf Q S q=>h O H Hf Q S λd v H' ai rd=>q d v H' ai (hi d rd)
theorem fH.imp (h:fH c e ρ R) (hi:∀ d,R d->R' d):fH c e ρ R':=λO H Hf Q S q=>h O H Hf Q S λd H' ai rd=>q d H' ai (hi d rd)
theorem nX (hN:At N i x) (hs:At ρ i (.va d)) (hR:R d)
 (hd:(x == ("__debug__":Str))=false:=by decide) (hcd:(x == ("__classdict__":Str))=false:=by decide) :
 aA c (.Name x pos) ρ R:=λO H Hf Q S q=>by
 obtain ⟨v,e,r⟩:=S.va hs.get
 exact bw (mE (X:=c.X) (i:=i) (by rw [c.eN]; exact hN.get) (by rw [c.esc]; rcases c.vis x hN.mem with h | h; exact .inl h; exact .inr (.inl h)) hd hcd) ⟨v,e,q d v H Hf hR r (.refl S.sb)⟩
theorem CA (hR:R (.int i)):aA c (.Constant (.int i) j pos) ρ R:=λO H Hf Q S q =>
 bw zo (q _ _ H Hf hR (az.mpr rfl) (.refl S.sb))
theorem Er (hR:R (.bl i)):aA c (.Constant (.bool i) j pos) ρ R:=λO H Hf Q S q =>
 bw yv (q _ _ H Hf hR (bR.mpr rfl) (.refl S.sb))
theorem sH (hm:mg x=some (.int i t)) (hR:R (.int i)) (hg:sc.names.lookup x=some .globalImplicit:=by walk_at "u") (hd:(x == ("__debug__":Str))=false:=by decide) :
 aA c (.Name x pos) ρ R:=λO H Hf Q S q =>
 bw (vS (X:=c.X) (v:=.int i) (u:=.int i t) (by unfold Gl Gm; rw [c.esc]; exact hg) (by rw [c.emg]; exact hm) ⟨t,rfl⟩ hd) (q _ _ H Hf hR (az.mpr rfl) (.refl S.sb))
def DJ (K:Fi) (r:R2) (p:D->D->(Sl->Prop)->Prop):Prop :=
 ∀ (x y:D) (v u:V) (H Hf:Hp) (Q:VK) (R:Sl->Prop),aD Hf H->Rep K Hf x v->Rep K Hf y u->p x y R ->
  (∀ z v' H' ai,R z->aJ K (λp=>H p=none) H' ai z v'->bf H Hf H' ai->Q v' H')->r v u H Q
theorem jR (ho:c7 c.X (binaryOp op) r) (hd:DJ c.X.K r p)
 (h:aA c a ρ λx=>aA c b ρ λy=>p x y R):cR c (.BinOp a op b pos) ρ R:=λO H Hf Q S q =>
 bw (yx ho cF cF) (h O H Hf _ S λx v1 H1 aM h1 r1 g1=>h1 O H1 aM _ (S.bY g1) λy v2 H2 bN h2 r2 g2 =>
  hd x y v1 v2 H2 bN Q R g2.b (Rep.mono g2.f x r1) r2 h2 λz v' H' ai hz rz g3 =>
   q z v' H' ai hz (rz.weak λp hp=>(g1.trans g2).s.free hp) ((g1.trans g2).trans g3))
theorem jk {f:Int->Int->Int}:DJ K (rI C λi j=>.int (f i j)) λx y R=>∃ i j,x=.int i/\y=.int j/\C i j/\R (.va (.int (f i j))):=by
 rintro x y v u H Hf Q R s rx ry ⟨i,j,rfl,rfl,hC,hR⟩ q
 rw [az] at rx ry
 exact ⟨i,j,rx,ry,hC,q (.va (.int (f i j))) _ H Hf hR (show Rep K Hf (.int (f i j)) _ from az.mpr rfl) (.refl s)⟩
theorem sI {f:Int->Int->Int}:DJ K (vM λi j=>.int (f i j)) λx y R=>∃ i j,x=.int i/\y=.int j/\R (.va (.int (f i j))):=by
 rintro x y v u H Hf Q R s rx ry ⟨i,j,rfl,rfl,hR⟩ q
 rw [az] at rx ry
 exact ⟨i,j,rx,ry,q (.va (.int (f i j))) _ H Hf hR (show Rep K Hf (.int (f i j)) _ from az.mpr rfl) (.refl s)⟩
theorem eE (h:cR c e ρ λr=>∃ d,r=.va d/\R d):aA c e ρ R:=e_x (h.imp λr ⟨d,e,hr⟩=>⟨d,by subst e; rfl,hr⟩)
noncomputable def f6:D->D->Bool
 | .non,.non=>true | .non,.int _=>true | .int _,.non=>true | .non,.bl _=>true | .bl _,.non=>true | .non,.str _=>true | .str _,.non=>true
 | .int _,.int _=>true | .bl _,.bl _=>true | .str _,.str _=>true | .int _,.str _=>true | .str _,.int _=>true | .bl _,.str _=>true | .str _,.bl _=>true
 | _,_=>false
noncomputable instance:DecidableEq D:=λ_ _=>Classical.propDecidable _
inductive gm:Nat->D->D->Prop where
 | sc {n:Nat} {x y:D} (h:f6 x y=true):gm n x y
 | tup {n:Nat} {ds es:List D} (h:∀ (i:Nat) (d e:D),ds[i]?=some d->es[i]?=some e->gm n d e):gm (n+1) (.tup ds) (.tup es)
 | lst {n:Nat} {ds es:List D} (h:∀ (i:Nat) (d e:D),ds[i]?=some d->es[i]?=some e->gm n d e):gm (n+1) (.lst ds) (.lst es)
 | ln {n:Nat} {ds:List D}:gm n (.lst ds) .non
 | nl {n:Nat} {ds:List D}:gm n .non (.lst ds)
 | tn {n:Nat} {ds:List D}:gm n (.tup ds) .non
 | nt {n:Nat} {ds:List D}:gm n .non (.tup ds)
def iY (ds es:List D):Prop:=∀ (i:Nat) (d e:D),ds[i]?=some d->es[i]?=some e->gm 40 d e
def CB (x y:D):Prop:=f6 x y=true\/∃ ds es,((x=.tup ds/\y=.tup es)\/(x=.lst ds/\y=.lst es))/\iY ds es
section
variable {a b:Expr} {pos:Pos} {ρ:List Sl} {R:D->Prop}
structure Sd (A B:Prop):Prop where
 s:A
 r:B
structure gT (A B:Prop) (x:Bool):Prop where
 t:x=true->A
 f:x=false->B
theorem if2 (h1:x=true->A) (h2:x=false->B):gT A B x:=⟨h1,h2⟩
theorem CC (h1:A):gT A B true:=⟨λ_=>h1,λh=>by cases h⟩
theorem CD (h1:B):gT A B false:=⟨λh=>(by cases h),λ_=>h1⟩
theorem wD (h1:p->A) (h2:¬ p->B):gT A B (@decide p i):=⟨λh=>h1 (of_decide_eq_true h),λh=>h2 (of_decide_eq_false h)⟩
theorem wF (h:gT B A x):gT A B (!x):=⟨λe=>h.f (by simpa using e),λe=>h.t (by simpa using e)⟩
def sJ (x y:D) (T:Bool->Prop):Prop:=CB x y/\T (decide (x=y))
theorem wG (h:T (decide (i=j))):sJ (.int i) (.int j) T:=⟨.inl rfl,by
 have e:decide (D.int i=D.int j)=decide (i=j):=by simp
 rw [e]; exact h⟩
theorem wH (h:Sd (iY ds es) (T (decide (ds=es)))):sJ (.tup ds) (.tup es) T:=⟨.inr ⟨ds,es,.inl ⟨rfl,rfl⟩,h.s⟩,by
 have e:decide (D.tup ds=D.tup es)=decide (ds=es):=by simp
 rw [e]; exact h.r⟩
theorem wI (h:Sd (iY ds es) (T (decide (ds=es)))):sJ (.lst ds) (.lst es) T:=⟨.inr ⟨ds,es,.inr ⟨rfl,rfl⟩,h.s⟩,by
 have e:decide (D.lst ds=D.lst es)=decide (ds=es):=by simp
 rw [e]; exact h.r⟩
noncomputable def I2 (k:Int->Int->Prop):D->D->Prop:=λx y=>∃ i j,x=.int i/\y=.int j/\k i j
theorem i2 {k:Int->Int->Prop} (h:k i j):I2 k (.int i) (.int j):=⟨i,j,rfl,rfl,h⟩
noncomputable def I1 (k:Int->Prop):D->Prop:=λx=>∃ i,x=.int i/\k i
theorem i1 {k:Int->Prop} (h:k i):I1 k (.int i):=⟨i,rfl,h⟩
noncomputable def B1 (k:Bool->Prop):D->Prop:=λx=>∃ i,x=.bl i/\k i
theorem b1 {k:Bool->Prop} (h:k i):B1 k (.bl i):=⟨i,rfl,h⟩
theorem CF (h:aA c a ρ λx=>aA c b ρ λy=>I2 (λi j=>R (.int (i - j))) x y):aA c (.BinOp a .Sub b pos) ρ R :=
 eE (jR zL sI (h.imp λx hx=>hx.imp λy ⟨i,j,e1,e2,r⟩=>⟨i,j,e1,e2,_,rfl,r⟩))
def MulOk (i j:Int):Prop:=IntMulOk i j
def nY (j:Int):Prop:=0<j/\j.natAbs.log2<9000
theorem wJ:c7 c.X (binaryOp .Mult) (rI MulOk λi j=>.int (i * j)):=Cd λ_ _ _ _ _ _ _ hc q=>mul_int q hc
theorem sL:c7 c.X (binaryOp .FloorDiv) (rI (λ_ j=>nY j) λi j=>.int (i / j)):=Cd λi j _ _ _ _ _ hc q=>by
 have h1:(0:Int)<j:=hc.1
 exact floordiv_int (by lia) (by rw [IW i (by lia)]; exact q) (.inl (PyProof.noPylong_of_log2 hc.2))
theorem CG (h:aA c a ρ λx=>aA c b ρ λy=>I2 (λi j=>Sd (MulOk i j) (R (.int (i * j)))) x y):aA c (.BinOp a .Mult b pos) ρ R :=
 eE (jR wJ jk (h.imp λx hx=>hx.imp λy ⟨i,j,e1,e2,⟨hc,r⟩⟩=>⟨i,j,e1,e2,hc,_,rfl,r⟩))
theorem An (h:aA c a ρ λx=>aA c b ρ λy=>I2 (λi j=>Sd (nY j) (R (.int (i / j)))) x y):aA c (.BinOp a .FloorDiv b pos) ρ R :=
 eE (jR sL jk (h.imp λx hx=>hx.imp λy ⟨i,j,e1,e2,⟨hc,r⟩⟩=>⟨i,j,e1,e2,hc,_,rfl,r⟩))
theorem CH (h:aA c a ρ λx=>aA c b ρ λy=>I2 (λi j=>Sd (0<j) (R (.int (i % j)))) x y):aA c (.BinOp a .Mod b pos) ρ R :=
 eE (jR zM jk (h.imp λx hx=>hx.imp λy ⟨i,j,e1,e2,⟨hc,r⟩⟩=>⟨i,j,e1,e2,hc,_,rfl,r⟩))
theorem CI (h:aA c a ρ λx=>aA c b ρ λy=>I2 (λi j=>Sd (zJ i j) (R (.int (i ^ j.toNat)))) x y):aA c (.BinOp a .Pow b pos) ρ R :=
 eE (jR zN jk (h.imp λx hx=>hx.imp λy ⟨i,j,e1,e2,⟨hc,r⟩⟩=>⟨i,j,e1,e2,hc,_,rfl,r⟩))
theorem CJ (h:aA c a ρ (I1 λi=>R (.int (-i)))):aA c (.UnaryOp .USub a pos) ρ R:=λO H Hf Q S q =>
 bw (Cc zQ cF) (h O H Hf _ S λx v H' ai hx r g=>by
  obtain ⟨i,rfl,hR⟩:=hx
  rw [az] at r
  exact ⟨i,r,q _ _ H' ai hR (az.mpr rfl) g⟩)
def sM (K:Fi) (r:R2) (p:D->D->(Bool->Prop)->Prop):Prop :=
 ∀ (x y:D) (v u:V) (H Hf:Hp) (Q:VK) (R:Bool->Prop),aD Hf H->Rep K Hf x v->Rep K Hf y u->p x y R->(∀ b,R b->Q (.bl b) H)->r v u H Q
theorem CK (ho:c7 c.X (compareOp op) r) (hd:sM c.X.K r p) (h:aA c a ρ λx=>aA c b ρ λy=>p x y λz=>R (.bl z))
 (hm:behindInMarks op b=false):aA c (.Compare a [op] [b] pos) ρ R:=λO H Hf Q S q =>
 bw (vX ho cF cF hm) (h O H Hf _ S λx v1 H1 aM h1 r1 g1=>h1 O H1 aM _ (S.bY g1) λy v2 H2 bN h2 r2 g2 =>
  hd x y v1 v2 H2 bN Q _ g2.b (Rep.mono g2.f x r1) r2 h2 λz hz=>q _ _ H2 bN hz (bR.mpr rfl) (g1.trans g2))
theorem nZ (ho:c7 c.X (compareOp op) r) (hd:sM c.X.K r p) (h:aA c a ρ λx=>aA c b ρ λy=>p x y T)
 (hm:behindInMarks op b=false):fH c (.Compare a [op] [b] pos) ρ T:=λO H Hf Q S q =>
 kT (vY ho cF cF hm) (h O H Hf _ S λx v1 H1 aM h1 r1 g1=>h1 O H1 aM _ (S.bY g1) λy v2 H2 bN h2 r2 g2 =>
  hd x y v1 v2 H2 bN _ T g2.b (Rep.mono g2.f x r1) r2 h2 λz hz=>⟨z,rfl,q _ H2 bN hz (g1.trans g2)⟩)
theorem yE {f:Int->Int->Bool}:sM K (vM λi j=>.bl (f i j)) λx y R=>I2 (λi j=>R (f i j)) x y:=by
 rintro x y v u H Hf Q R s rx ry ⟨i,j,rfl,rfl,hR⟩ q
 rw [az] at rx ry
 exact ⟨i,j,rx,ry,q _ hR⟩
theorem n5 (h:f6 x y=true) (rx:Rep K H x v) (ry:Rep K H y u):vW v u=true/\decide (v=u)=decide (x=y):=by
 cases x <;> cases y <;> simp [f6] at h <;> simp only [az,bR,aV,cU] at rx ry <;> subst rx <;> subst ry <;> simp [vW]
theorem Es (h:aA c a ρ λx=>aA c b ρ λy=>I2 (λi j=>T (decide (i<j))) x y):fH c (.Compare a [.Lt] [b] pos) ρ T:=nZ Ci yE h (gF b)
theorem Et (h:aA c a ρ λx=>aA c b ρ λy=>I2 (λi j=>T (decide (j<i))) x y):fH c (.Compare a [.Gt] [b] pos) ρ T:=nZ Cj yE h (gF b)
end
end
section
variable {K:Fi} {c:Ctx P w K mg base k N sc bk}
variable {es rest:List Expr}
noncomputable def bW (X:Cx) (e:Expr):TT:=λO H Q=>∀ whole aa s,Inv X aa O H s->wpAny (model X.prog X.w) X.A (isTrue e X.env whole) (TP X aa O Q) X.xe s
theorem EU:PW X e (bW X e):=λwhole aa s O H Q I h=>h whole aa s I
theorem n6 (h:PW X e t) (q:t O H Q):bW X e O H Q:=λwhole aa s I=>h whole aa s O H Q I q
def yF (c:Ctx P w K mg base k N sc bk) (e:Expr) (ρ:List Sl) (R:Bool->Prop):Prop :=
 ∀ (O:L2.St) (H Hf:Hp) (Q:Bool->Hp->Prop),aL c O H Hf ρ->(∀ b H' ai,R b->bf H Hf H' ai->Q b H')->bW c.X e O H Q
theorem EW (h:yF c e ρ T):fH c e ρ T:=λO H Hf Q S q aa s I=>h O H Hf Q S q _ aa s I
theorem Ao (h:fH c a ρ T):yF c (.BoolOp .And [a] pos) ρ T:=λO H Hf Q S q=>n6 (pw_and1 yz) (h O H Hf Q S q)
theorem CL (h:fH c a ρ T):yF c (.BoolOp .Or [a] pos) ρ T:=λO H Hf Q S q=>n6 (pw_or1 yz) (h O H Hf Q S q)
theorem w_and (h:fH c a ρ (gT (yF c (.BoolOp .And (b::rest) pos) ρ T) (T false))):yF c (.BoolOp .And (a::b::rest) pos) ρ T:=λO H Hf Q S q =>
 n6 (pw_and yz EU) (h O H Hf _ S λx H' ai hx g=>by
  cases x with
  | true=>exact hx.t rfl O H' ai Q (S.bY g) λy H2 bN hy g2=>q y H2 bN hy (g.trans g2)
  | false=>exact q false H' ai (hx.f rfl) g)
theorem w_or (h:fH c a ρ (gT (T true) (yF c (.BoolOp .Or (b::rest) pos) ρ T))):yF c (.BoolOp .Or (a::b::rest) pos) ρ T:=λO H Hf Q S q =>
 n6 (pw_or yz EU) (h O H Hf _ S λx H' ai hx g=>by
  cases x with
  | false=>exact hx.f rfl O H' ai Q (S.bY g) λy H2 bN hy g2=>q y H2 bN hy (g.trans g2)
  | true=>exact q true H' ai (hx.t rfl) g)
theorem CM (h:fH c a ρ λx=>T (!x)):fH c (.UnaryOp .Not a pos) ρ T:=λO H Hf Q S q =>
 kT (zu yz) (h O H Hf _ S λx H' ai hx g=>q _ H' ai hx g)
theorem CN (h:aA c a ρ R):aA c (.BoolOp op [a] pos) ρ R:=λO H Hf Q S q=>bw (zv cF) (h O H Hf Q S q)
theorem CO (h:aA c a ρ (B1 (gT (aA c (.BoolOp .And (b::rest) pos) ρ R) (R (.bl false))))):aA c (.BoolOp .And (a::b::rest) pos) ρ R:=λO H Hf Q S q =>
 bw (zw cF cF) (h O H Hf _ S λx v H' ai ⟨k,e,h1⟩ r g=>by
  subst e
  rw [bR] at r
  refine ⟨k,r,?_⟩
  cases k with
  | true=>rw [if_pos rfl]; exact h1.t rfl O H' ai Q (S.bY g) λy v2 H2 bN hy r2 g2=>q y v2 H2 bN hy r2 (g.trans g2)
  | false=>rw [if_neg Fv]; exact q _ _ H' ai (h1.f rfl) (bR.mpr rfl) g)
theorem CP (h:aA c a ρ (B1 λk=>R (.bl (!k)))):aA c (.UnaryOp .Not a pos) ρ R:=λO H Hf Q S q =>
 bw (zz cF) (h O H Hf _ S λx v H' ai ⟨k,e,h1⟩ r g=>by
  subst e; rw [bR] at r
  exact ⟨k,r,q _ _ H' ai h1 (bR.mpr rfl) g⟩)
theorem wK {R:Sl->Prop} (h:fH c t ρ (gT (cR c a ρ R) (cR c b ρ R))):cR c (.IfExp t a b pos) ρ R:=λO H Hf Q S q =>
 bw (rH yz cF cF) (h O H Hf _ S λx H' ai hx g=>by
  cases x with
  | true=>rw [if_pos rfl]; exact hx.t rfl O H' ai Q (S.bY g) λy v2 H2 bN hy r2 g2=>q y v2 H2 bN hy (r2.weak λp hp=>g.s.free hp) (g.trans g2)
  | false=>rw [if_neg Fv]; exact hx.f rfl O H' ai Q (S.bY g) λy v2 H2 bN hy r2 g2=>q y v2 H2 bN hy (r2.weak λp hp=>g.s.free hp) (g.trans g2))
theorem wL (h:fH c t ρ (gT (aA c a ρ R) (aA c b ρ R))):aA c (.IfExp t a b pos) ρ R :=
 eE (wK (h.imp λx hx=>⟨λe=>BP ((hx.t e).imp λd h=>⟨d,rfl,h⟩),λe=>BP ((hx.f e).imp λd h=>⟨d,rfl,h⟩)⟩))
theorem CQ (h:aA c e ρ (B1 T)) (he:∀ (env:Env) whole,isTrue e env whole=(do let v <- whole; standAt e.pos; holding [v] (truthy v)):=by intro _ _; walk_at "u"):fH c e ρ T:=λO H Hf Q S q =>
 kT (zq cF (he _)) (h O H Hf _ S λx v H' ai ⟨k,e,h1⟩ r g=>by
  subst e; rw [bR] at r
  exact ⟨k,r,q k H' ai h1 g⟩)
theorem kU {R:List D->Prop} (h:R []):mU c [] ρ R:=λO H Hf Q S q=>yC fF (q [] [] H Hf h (au.mpr rfl) (.refl S.sb))
theorem gU {R:List D->Prop} (h:aA c e ρ λd=>mU c es ρ λds=>R (d::ds)) (hs:∀ env,starEach (e::es) env=(false,eval e env)::starEach es env:=by intro _; walk_at "u"):mU c (e::es) ρ R:=λO H Hf Q S q =>
 yC (cT cF BO (hs _)) (h O H Hf _ S λd v H1 aM h1 r1 g1=>h1 O H1 aM _ (S.bY g1) λds vs H2 bN h2 r2 g2=>q _ _ H2 bN h2 (.cons (Rep.mono g2.f d r1) r2) (g1.trans g2))
theorem CS (h:mU c es ρ λds=>Sd (ds.length<=sizeLine) (R (.tup ds))):aA c (.Tuple es j pos) ρ R:=λO H Hf Q S q =>
 bw (zS BO) (h O H Hf _ S λds vs H' ai ⟨hl,hR⟩ r g=>⟨by rw [<- r.length]; exact hl,λp hp=>by
  have g2:=bf.new g.b hp (o:=.tup vs)
  exact q _ _ _ _ hR (ay.mpr ⟨p,vs,rfl,.inl (.inl ah),r.mono g2.f⟩) (g.trans g2)⟩)
theorem yG {R:Sl->Prop} (h:mU c es ρ λds=>Sd (ds.length<=sizeLine) (R (.ow ds))):cR c (.List es pos) ρ R:=λO H Hf Q S q =>
 bw (zT BO) (h O H Hf _ S λds vs H' ai ⟨hl,hR⟩ r g=>⟨by rw [<- r.length]; exact hl,λp hp=>by
  have g2:=bf.gS g.b hp (o:=.lst vs)
  exact q _ _ _ _ hR ⟨p,vs,rfl,g.s.free hp,ah,g.b.free hp,r⟩ (g.trans g2)⟩)
variable {st:Stmt}
theorem Aq (h:nx ρ):aQ c [] ρ nx p:=λO H Hf D S o=>sE vU (o.nx O H Hf ρ S h)
theorem aW (h:d7 c st ρ (λρ'=>aQ c sts ρ' nx p) p):aQ c (st::sts) ρ nx p:=λO H Hf D S o =>
 sE (rJ Fb qk) (h O H Hf { D with nx:=Cz c.X sts D } S ⟨λO' H' ai ρ' S' q=>q O' H' ai D S' o,o.rt,o.bk,o.ct⟩)
theorem yH (h:cR c e ρ p.rt):d7 c (.Return (some e) pos) ρ nx p:=λO H Hf D S o =>
 cY (rK cF) (h O H Hf _ S λr v H' ai hr rs g=>o.rt r v H' ai (S.bas.trans g) (rs.weak λp hp=>S.bas.s.free hp) hr)
theorem sN (hN:At N i x) (hi:At ρ i r) (hu:r.owned=true) (h:p.rt r)
 (hd:(x == ("__debug__":Str))=false:=by decide) (hcd:(x == ("__classdict__":Str))=false:=by decide) :
 d7 c (.Return (some (.Name x pos2)) pos) ρ nx p:=λO H Hf D S o=>by
 obtain ⟨v,e,rs⟩:=S.at_ i r hi.get (by rintro rfl; cases hu)
 exact cY (rK (mE (X:=c.X) (i:=i) (by rw [c.eN]; exact hN.get) (by rw [c.esc]; rcases c.vis x hN.mem with h | h; exact .inl h; exact .inr (.inl h)) hd hcd)) ⟨v,e,o.rt r v H Hf S.bas rs h⟩
theorem CT (h:fH c t ρ (gT (aQ c A ρ nx p) (aQ c B ρ nx p))):d7 c (.If t A B pos) ρ nx p:=λO H Hf D S o =>
 cY (B6 yz qk qk) (h O H Hf _ S λx H' ai hx g=>by
  cases x with
  | true=>rw [if_pos rfl]; exact hx.t rfl O H' ai D (S.bY g) o
  | false=>rw [if_neg Fv]; exact hx.f rfl O H' ai D (S.bY g) o)
def Nx (ρ:List Sl) (i:Nat) (R:List Sl->Prop) (r:Sl):Prop:=∃ ρ',SSet ρ i r ρ'/\R ρ'
theorem yI {R:List Sl->Prop} (h:SSet ρ i r ρ') (hr:R ρ'):Nx ρ i R r:=⟨ρ',h,hr⟩
theorem sO (hN:At N i x) (h:cR c e ρ (Nx ρ i nx))
 (hs:∀ env,swapsWith e (some (.Name x pos2)) pos.line env=pure false:=by intro _; walk_at "u") (hf:bk=false\/sc.names.lookup x=some .local:=by first | exact .inl rfl | exact .inr (by walk_at "u")):d7 c (.Assign [.Name x pos2] e pos) ρ nx p:=λO H Hf D S o =>
 cY (zD (X:=c.X) (i:=i) (by rw [c.eN]; exact c.nd) (by rw [c.eN]; exact hN.get) (by rw [c.esc]; exact c.vis x hN.mem) cF (hs _) (c.fn x hf)) (h O H Hf _ S λr v H' ai ⟨ρ',hs,hx⟩ rs g=>o.nx _ H' ai _ (hs.eq ▸ S.set g rs) hx)
theorem fJ {R:List Sl->Prop} (hN:At N i x) (h:Nx ρ i R (.va d)) (hf:bk=false\/sc.names.lookup x=some .local:=by first | exact .inl rfl | exact .inr (by walk_at "u")):mV c (.Name x pos) d ρ R:=λO H Hf v Q S r q=>by
 obtain ⟨ρ',hs,h⟩:=h
 exact sF (jH (X:=c.X) (i:=i) (by rw [c.eN]; exact c.nd) (by rw [c.eN]; exact hN.get) (by rw [c.esc]; exact c.vis x hN.mem) (c.fn x hf)) (q _ H Hf _ (hs.eq ▸ S.set (.refl S.sb) (r:=.va d) r) (.refl S.sb) h)
def ql (c:Ctx P w K mg base k N sc bk) (ts:List Expr) (ds:List D) (ρ:List Sl) (R:List Sl->Prop):Prop :=
 ∀ (O:L2.St) (H Hf:Hp) (vs:List V) (Q:L2.St->Hp->Prop),aL c O H Hf ρ->aj c.X.K Hf ds vs->(∀ O' H' ai ρ',aL c O' H' ai ρ'->bf H Hf H' ai->R ρ'->Q O' H') ->
  ∀ aa s us,Inv c.X aa O H s->Vals vs us->wpAny (model c.X.prog c.X.w) c.X.A (assignInOrder ((assignEach ts c.X.env).map (·.2)) us) (λ_ s'=>∃ O' H',Inv c.X aa O' H' s'/\Q O' H') c.X.xe s
theorem Ar {R:List Sl->Prop} (h:R ρ):ql c [] [] ρ R:=λO H Hf vs Q S r q aa s us I rv=>by
 rw [au] at r; subst r
 exact vV aa s O H [] us Q I rv ⟨rfl,q O H Hf ρ S (.refl S.sb) h⟩
theorem wM {R:List Sl->Prop} (hN:At N i x) (h:Nx ρ i (λρ'=>ql c ts ds ρ' R) (.va d))
 (hs:∀ env,(assignEach (.Name x pos::ts) env).map (·.2)=assign (.Name x pos) env::(assignEach ts env).map (·.2):=by intro _; walk_at "u") (hf:bk=false\/sc.names.lookup x=some .local:=by first | exact .inl rfl | exact .inr (by walk_at "u")):ql c (.Name x pos::ts) (d::ds) ρ R:=λO H Hf vs Q S r q aa s us I rv=>by
 obtain ⟨ρ',hs',h⟩:=h
 rw [av] at r
 obtain ⟨v,vr,rfl,r1,r2⟩:=r
 have hp:BJ c.X ts (λvs' O' H' Q'=>∀ aa s us,Inv c.X aa O' H' s->Vals vs' us->wpAny (model c.X.prog c.X.w) c.X.A (assignInOrder ((assignEach ts c.X.env).map (·.2)) us) (λ_ s'=>∃ O'' H'',Inv c.X aa O'' H'' s'/\Q' O'' H'') c.X.xe s) :=
  λaa s O H vs us Q I r h=>h aa s us I r
 refine rL (jH (X:=c.X) (i:=i) (by rw [c.eN]; exact c.nd) (by rw [c.eN]; exact hN.get) (by rw [c.esc]; exact c.vis x hN.mem) (c.fn x hf)) hp (hs _) aa s O H _ us Q I rv ⟨v,vr,rfl,?_⟩
 have S1:=S.set (i:=i) (.refl S.sb) (r:=.va d) (v:=v) r1
 rw [<- hs'.eq] at S1
 exact h _ H Hf vr Q S1 r2 q
theorem CU {R:List Sl->Prop} (he:d=.tup ds) (hl:ds.length=ts.length) (h:ql c ts ds ρ R)
 (hn:∀ env,(assignEach ts env).length=ts.length:=by intro _; walk_at "u") (hst:∀ env,(assignEach ts env).findIdx? (·.1)=none:=by intro _; walk_at "u"):mV c (.Tuple ts j pos) d ρ R:=λO H Hf v Q S r q=>by
 subst he
 rw [ay] at r
 obtain ⟨a,xs,rfl,h1,h2⟩:=r
 have hp:BJ c.X ts (λvs' O' H' Q'=>∀ aa s us,Inv c.X aa O' H' s->Vals vs' us->wpAny (model c.X.prog c.X.w) c.X.A (assignInOrder ((assignEach ts c.X.env).map (·.2)) us) (λ_ s'=>∃ O'' H'',Inv c.X aa O'' H'' s'/\Q' O'' H'') c.X.xe s) :=
  λaa s O H vs us Q I r h=>h aa s us I r
 refine sF (zB (X:=c.X) (k:=j) (n:=ts.length) c.calm hp (hn _) (hst _)) ⟨a,xs,rfl,ak S.sb h1,by rw [<- h2.length,hl],?_⟩
 exact h O H Hf xs Q S h2 λO' H' ai ρ' S' g' hR=>q O' H' ai ρ' S' g' hR
theorem CV (h:aA c e ρ λd=>mV c tg d ρ nx) (hs:∀ env,swapsWithSole [tg] e pos.line env=pure false:=by intro _; walk_at "u") (hw:∀ env,swappedStores [tg] e env=pure none:=by intro _; walk_at "u") (h1:∀ env,(assignEach [tg] env).map (·.2)=[assign tg env]:=by intro _; walk_at "u"):d7 c (.Assign [tg] e pos) ρ nx p:=λO H Hf D S o =>
 cY (rM cF ET (hs _) (hw _) (h1 _)) (h O H Hf _ S λd v H' ai hx r g=>hx O H' ai v _ (S.bY g) r λO' H2 bN ρ' S' _ hR=>o.nx O' H2 bN ρ' S' hR)
theorem CW (hNi:At N i x) (hNj:At N j y) (hij:i≠j) (h:aA c a ρ λd1=>aA c b ρ λd2=>Nx ρ i (λρ'=>Nx ρ' j nx (.va d2)) (.va d1))
 (hx:sc.names.lookup x=some .local:=by walk_at "u") (hy:sc.names.lookup y=some .local:=by walk_at "u")
 (hw:∀ env:Env,env.scope=sc->swappedStores [.Tuple [.Name x px,.Name y py] kt pt] (.Tuple [a,b] k2 pt2) env=pure (some [x,y]):=by (intro env he; cases env; cases he; walk_at "u"))
 (hs:∀ env,swapsWithSole [.Tuple [.Name x px,.Name y py] kt pt] (.Tuple [a,b] k2 pt2) pos.line env=pure false:=by intro _; walk_at "u")
 (hst:∀ env,starEach [a,b] env=(false,eval a env)::starEach [b] env:=by intro _; walk_at "u") (hst2:∀ env,starEach [b] env=[(false,eval b env)]:=by intro _; walk_at "u") :
 d7 c (.Assign [.Tuple [.Name x px,.Name y py] kt pt] (.Tuple [a,b] k2 pt2) pos) ρ nx p:=λO H Hf D S o =>
 cY (zE (X:=c.X) (i:=i) (j:=j) c.calm (by rw [c.eN]; exact c.nd) (by rw [c.eN]; exact hNi.get) (by rw [c.eN]; exact hNj.get) hij (by rw [c.esc]; exact hx) (by rw [c.esc]; exact hy) (cT cF (cT cF fF (hst2 _)) (hst _)) (hw _ c.esc) (hs _))
  (h O H Hf _ S λd1 v1 H1 aM h1 r1 g1=>h1 O H1 aM _ (S.bY g1) λd2 v2 H2 bN ⟨ρ1,hs1,ρ2,hs2,h2⟩ r2 g2=>⟨v1,v2,rfl,by
    have S2:=(S.bY (g1.trans g2)).set (i:=i) (.refl g2.b) (r:=.va d1) (v:=v1) (Rep.mono g2.f d1 r1)
    rw [<- hs1.eq] at S2
    have S3:=S2.set (i:=j) (.refl g2.b) (r:=.va d2) (v:=v2) r2
    rw [<- hs2.eq] at S3
    exact o.nx _ H2 bN _ S3 h2⟩)
theorem gv (hq:c.X.xe=λ_ _=>False) (I:Nat->List Sl->Prop) (h0:I m₀ ρ)
 (h:∀ m ρ',I m ρ'->fH c t ρ' (gT (aQ c body ρ' (λr=>∃ m',m'<m/\I m' r) { ct:=λr=>∃ m',m'<m/\I m' r,bk:=nx,rt:=p.rt }) (nx ρ'))) :
 d7 c (.While t body [] pos) ρ nx p:=λO H Hf D S o =>
 cY (rN (by rw [hq]; exact PassesOwn.never) yz qk) ⟨λm O H=>∃ Hf ρ',aL c O H Hf ρ'/\I m ρ',⟨m₀,Hf,ρ,S,h0⟩,λm O H ⟨Hf,ρ',S,hI⟩=>h m ρ' hI O H Hf _ S λx H' ai hx g=>by
  cases x with
  | false=>rw [if_neg Fv]; exact o.nx O H' ai ρ' (S.bY g) (hx.f rfl)
  | true =>
   rw [if_pos rfl]
   refine ⟨λO' H'=>∃ m',m'<m/\∃ Hf ρ',aL c O' H' Hf ρ'/\I m' ρ',λO' H' ⟨m',hl,hh⟩=>⟨m',hl,hh⟩,?_⟩
   exact hx.t rfl O H' ai _ (S.bY g) ⟨λO H Hf ρ S ⟨m',hl,hi⟩=>⟨m',hl,Hf,ρ,S,hi⟩,o.rt,λO H Hf ρ S q=>o.nx O H Hf ρ S q,λO H Hf ρ S ⟨m',hl,hi⟩=>⟨m',hl,Hf,ρ,S,hi⟩⟩⟩
end
theorem sP (h:n<=1000):n<=sizeLine:=GN (qj h)
theorem sQ (h:0<j) (h2:j.natAbs.log2<9000):nY j:=⟨h,h2⟩
inductive Res where
 | ok (r:Sl)
 | ex (C:Addr)
noncomputable abbrev Fn:=List D->Res->Prop
noncomputable def fK (K:Fi) (F:Fn):Sp:=λvs H Q E=>∃ Hf ds r,aD Hf H/\aj K Hf ds vs/\F ds r/\match r with
 | .ok sl=>∀ v H' ai,bf H Hf H' ai->aJ K (λp=>H p=none) H' ai sl v->Q v H'
 | .ex C=>∀ a H',aD H H'->E (.ref C) (some a) H'
structure gn (P:Program) (w:World) (K:Fi) (mg:Str->Option Value) (base:Heap) (k:Nat) (x:Str) (F:Fn):Prop where
 ex:∃ f fd ps,mg x=some (.ref f)/\HA K (.ref f)=true/\Binds K fd ps []/\bD P w K mg base (fZ P w) k f fd ps (fK K F)
section
variable {K:Fi} {c:Ctx P w K mg base k N sc bk}
noncomputable def CY (c:Ctx P w K mg base k N sc bk) (ρ:List Sl) (R:Sl->Prop):Res->Prop
 | .ok sl=>R sl
 | .ex C=>c.RX C ρ
theorem wN (h:gn P w K mg base j x F) (hj:j<=k):∃ f,mg x=some (.ref f)/\HA K (.ref f)=true /\
 ∀ (aa:List (Addr×Obj)) (O:L2.St) (H Hf:Hp) (s:Shared) (us:List Value) (vs:List V) (ds:List D) (r:Res) (Q:VK),Inv c.X aa O H s->aL c O H Hf ρ->Vals vs us->aj c.X.K Hf ds vs->F ds r ->
  (∀ sl v H' ai,r=.ok sl->aJ c.X.K (λp=>H p=none) H' ai sl v->bf H Hf H' ai->Q v H')->(∀ C,r=.ex C->c.RX C ρ)->wpAny (model c.X.prog c.X.w) c.X.A (call (.ref f) us) (EP c.X aa O Q) c.X.xe s:=by
 obtain ⟨f,fd,ps,hm,hk,hb,hF⟩:=h.ex
 refine ⟨f,hm,hk,λaa O H Hf s us vs ds r Q I S rv rs hr q hx=>?_⟩
 have hF':bD c.X.prog c.X.w c.X.K c.X.mg c.X.base (fZ c.X.prog c.X.w) k f fd ps (fK c.X.K F):=by rw [c.eP,c.ew,c.eK,c.emg,c.eb]; exact hF.mono hj
 have mq:fK c.X.K F vs H Q (λcv ao H'=>∃ C,r=.ex C/\cv=.ref C/\aD H H'):=by
  refine ⟨Hf,ds,r,S.bas.b,rs,hr,?_⟩
  cases r with
  | ok sl=>exact λv H' ai g rs2=>q sl v H' ai rfl rs2 g
  | ex C=>exact λa H' s2=>⟨C,rfl,rfl,s2⟩
 have hl:us.length=ps.length:=by rw [<- rv.length]; exact hF'.len _ _ _ _ mq
 have hb':Binds c.X.K fd ps []:=by rw [c.eK]; exact hb
 have hb2:=hb' s us I.p6 (by simpa using hl)
 rw [GV] at hb2
 refine wpAny_call (codeAny_mono (hF'.run c.X.A c.X.stack s H ⟨us,[]⟩ us vs Q _ c.room I.Ef hb2 rv mq) λr' s' hq=>?_)
 cases r' with
 | error e =>
  obtain ⟨a,C,H',rfl,hE,C',e1,e2,sm⟩:=hq
  cases e2
  exact c.exc C a aa O H Hf ρ s H' s' I S (hx C e1) hE sm
 | ok fl =>
  cases fl with
  | ret u=>exact I.after hq
  | next=>exact GZ hq
  | brk=>exact GZ hq
  | cont=>exact GZ hq
theorem x_call {R:Sl->Prop} (h:gn P w K mg base j x F) (hj:j<=k)
 (ha:mU c (e::es) ρ λds=>∃ r,F ds r/\CY c ρ R r)
 (hg:sc.names.lookup x=some .globalImplicit:=by walk_at "u") (hdb:(x == ("__debug__":Str))=false:=by decide) (he:∀ env,starEach (e::es) env=(false,eval e env)::starEach es env:=by intro _; walk_at "u")
 (hpl:∀ env,(backTo pos (starEach es env)).any (·.1)=false:=by intro _; walk_at "u"):cR c (.Call (.Name x p) (e::es) [] pos) ρ R:=λO H Hf Q S q aa s I=>by
 obtain ⟨f,hm,hk,run⟩:=wN (c:=c) (ρ:=ρ) h hj
 refine Ip (jG I (by unfold Gl Gm; rw [c.esc]; exact hg) (by rw [c.emg]; exact hm) ?_ hdb)
 refine PySem.W.callWith_K (h₀:=c.X.base) I.ok.mod.kin (by rw [c.eK]; exact hk) (aZ (ha O H Hf (λvs H1=>∃ aM ds,(∃ r,F ds r/\CY c ρ R r)/\aj c.X.K aM ds vs/\bf H Hf H1 aM) S (λds vs H1 aM hr rs g=>⟨aM,ds,hr,rs,g⟩) pos aa s I) λus s1 hh=>z2 hh λvs H1 hh=>w3 hh λI1 rv hh=>z2 hh λaM ds hh=>w3 hh λhh rs g=>hh.elim λr hh=>w2 hh λhF hR=>⟨I1.p6,?_⟩) (he _) (hpl _)
 refine run aa O H1 aM s1 us vs ds r Q I1 (S.bY g) rv rs hF (λsl v H' ai e1 rs2 g2=>?_) λC e1=>?_
 ·subst e1
  exact q sl v H' ai hR (rs2.weak λp hp=>g.s.free hp) (g.trans g2)
 ·subst e1
  exact hR
theorem aX (h:gn P w K mg base j x F) (hj:j<=k)
 (ha:mU c (e::es) ρ λds=>∃ r,F ds r/\CY c ρ (yD R) r)
 (hg:sc.names.lookup x=some .globalImplicit:=by walk_at "u") (hdb:(x == ("__debug__":Str))=false:=by decide) (he:∀ env,starEach (e::es) env=(false,eval e env)::starEach es env:=by intro _; walk_at "u")
 (hpl:∀ env,(backTo pos (starEach es env)).any (·.1)=false:=by intro _; walk_at "u"):aA c (.Call (.Name x p) (e::es) [] pos) ρ R:=e_x (x_call h hj ha hg hdb he hpl)
noncomputable def dM (N:List Str) (ds:List D):List Sl:=ds.map .va++FW (N.length - ds.length) .un
theorem sR (r:aj K cS ds vs) (sb:aD cS H₀):cJ K H₀ cS (L2.start N vs) H₀ cS (dM N ds):=by
 have hl:=r.length
 refine ⟨.refl sb,by simp [L2.start,dM,hl],λi r' h hu=>?_,λi j r1 r2 p hne h1 h2 o1 o2=>?_⟩
 ·by_cases q:i<ds.length
  ·have e:(dM N ds)[i]?=some (.va ds[i]):=by
    unfold dM
    rw [Ii (by simpa using q)]; simp [q]
   rw [e] at h; cases h
   obtain ⟨x,e2,rx⟩:=r.get (i:=i) (d:=ds[i]) (by simp)
   refine ⟨x,?_,rx⟩
   unfold L2.start
   rw [Ii (by simp; lia)]
   simp [e2]
  ·unfold dM at h
   rw [IV (by simp; lia)] at h
   have:=Ik h
   exact absurd (List.eq_of_mem_replicate this) hu
 ·exfalso
  unfold dM at h1
  by_cases q:i<(ds.map Sl.va).length
  ·rw [Ii q] at h1
   rw [FN] at h1
   cases z:ds[i]? with
   | none=>rw [z] at h1; cases h1
   | some d=>rw [z] at h1; cases h1; cases o1
  ·rw [IV (by lia)] at h1
   have e3:=List.eq_of_mem_replicate (Ik h1)
   subst e3; cases o1
abbrev FS (N P:List Str) (st:Stmt):Prop:=(aF st).kind=.function/\(aF st).isCoroutine=false/\(aF st).isGenerator=false/\N.Nodup/\N.take P.length=P/\(∀ x∈P,(aF st).names.lookup x=some .local\/(aF st).names.lookup x=some .cell)/\(∀ y∈(aF st).names,y.2≠.free)/\∀ x∈N,(aF st).names.lookup x=some .local\/(aF st).names.lookup x=some .cell
theorem CZ {N P:List Str} {st:Stmt} (h:FS N P st):jJ N P (aF st)/\∀ x∈N,Loc (aF st) x:=⟨⟨h.1,h.2.1,h.2.2.1,h.2.2.2.1,h.2.2.2.2.1,h.2.2.2.2.2.1,h.2.2.2.2.2.2.1⟩,h.2.2.2.2.2.2.2⟩
theorem cZ {st:Stmt} (Fu:gr K x qual st f fd) (SV:FS N ps st) (ar:∀ ds r,F ds r->ds.length=ps.length)
 (hok:∀ ds r,F ds r->∃ sl,r=.ok sl)
 (body:∀ (c:Ctx P w K mg base k N (aF st) false),c.X.xe=(λ_ _=>False)->∀ ds sl,F ds (.ok sl)->aQ c (aE st) (dM N ds) (λ_=>sl=.va .non) { rt:=λr=>r=sl }) :
 bD P w K mg base (fZ P w) (k+1) f fd ps (fK K F):=by
 obtain ⟨Sc,Vi⟩:=CZ SV
 obtain ⟨oc,od,kV,doc,pm,an,cdv,ct,osl,rfl,lk,hcd⟩:=Fu.ex
 refine Co lk hcd Sc (λvs H Q E ⟨Hf,ds,r,_,rs,hF,_⟩=>by rw [<- rs.length]; exact ar _ _ hF) λA outer s H vs Q E hr ⟨Hf,ds,r,sb,rs,hF,hq⟩=>?_
 obtain ⟨sl,rfl⟩:=hok _ _ hF
 let X:Cx:=(qc (fZ P w) P w K mg base N qual (aF st) f cdv A outer s H E).DG
 let c:Ctx P w K mg base k N (aF st) false :=
  { X:=X,eP:=rfl,ew:=rfl,eK:=rfl,emg:=rfl,eb:=rfl,eN:=rfl,esc:=rfl,calm:=rfl,top:=λ_=>⟨rfl,rfl,rfl⟩,cb:=λ_ _ _ _ _ I x c h=>I.ok.cab x c rfl h,fn:=λ_ _=>.inl rfl,B:=H,room:=hr,nd:=Sc.nd,vis:=Vi,Hf:=Hf,RX:=λ_ _=>False,
    exc:=λ_ _ _ _ _ _ _ _ _ _ _ _ h _ _=>h.elim,RM:=λ_ _=>False,mde:=λ_ _ _ _ _ _ _ _ _ _ _ _ h _=>h.elim }
 refine ⟨_,nN.DG (t:=Cz X (aE st)) (qk (X:=X)),?_⟩
 refine body c rfl ds sl hF (L2.start N vs) H Hf _ (sR rs sb) ⟨λO H' ai ρ S e=>?_,λr v H' ai g rv e=>?_,λ_ _ _ _ _ h=>h.elim,λ_ _ _ _ _ h=>h.elim⟩
 ·subst e
  exact hq .non H' ai S.bas (show Rep K ai .non .non from aV.mpr rfl)
 ·have e:r=sl:=e
  subst e
  exact hq v H' ai g rv
def Eu (K:Fi) (r:List V->Hp->VK->Prop) (p:List D->(Sl->Prop)->Prop):Prop :=
 ∀ (ds:List D) (vs:List V) (H Hf:Hp) (Q:VK) (R:Sl->Prop),aD Hf H->aj K Hf ds vs->p ds R->(∀ z v' H' ai,R z->aJ K (λp=>H p=none) H' ai z v'->bf H Hf H' ai->Q v' H')->r vs H Q
theorem C0 {id:String} {R:Sl->Prop} (hc:ef c.X (.type id) r) (hd:Eu c.X.K r q) (hm:mg x=none) (hv:bootBuiltins x=some (.type id))
 (ha:mU c (e::es) ρ λds=>q ds R) (hg:sc.names.lookup x=some .globalImplicit:=by walk_at "u") (hn:x≠"__name__":=by decide) (hdb:(x == ("__debug__":Str))=false:=by decide)
 (he:∀ env,starEach (e::es) env=(false,eval e env)::starEach es env:=by intro _; walk_at "u") (hpl:∀ env,(backTo pos (starEach es env)).any (·.1)=false:=by intro _; walk_at "u"):cR c (.Call (.Name x p) (e::es) [] pos) ρ R:=λO H Hf Q S qq =>
 bw (je hc (by unfold Gl Gm; rw [c.esc]; exact hg) (by rw [c.emg]; exact hm) hv BO hn hdb (he _) (hpl _))
  (ha O H Hf _ S λds vs H1 aM h1 rs g=>hd ds vs H1 aM Q R g.b rs h1 λz v' H' ai hz rz g2=>qq z v' H' ai hz (rz.weak λp hp=>g.s.free hp) (g.trans g2))
theorem n8 (h:aj K H [d] vs):∃ v,vs=[v]/\Rep K H d v:=by
 rw [av] at h
 obtain ⟨x,r,rfl,h1,h2⟩:=h
 rw [au] at h2; subst h2
 exact ⟨x,rfl,h1⟩
def wO (K:Fi) (r:List V->Hp->VK->Prop) (p:List D->(D->Prop)->Prop):Prop :=
 ∀ (ds:List D) (vs:List V) (H Hf:Hp) (Q:VK) (R:D->Prop),aD Hf H->aj K Hf ds vs->p ds R->(∀ d v H' ai,R d->Rep K ai d v->bf H Hf H' ai->Q v H')->r vs H Q
theorem yJ {id:String} (hc:ef c.X (.builtin id) r) (hd:wO c.X.K r q) (hm:mg x=none) (hv:bootBuiltins x=some (.builtin id))
 (ha:mU c (e::es) ρ λds=>q ds R) (hg:sc.names.lookup x=some .globalImplicit) (hn:x≠"__name__") (hdb:(x == ("__debug__":Str))=false)
 (he:∀ env,starEach (e::es) env=(false,eval e env)::starEach es env) (hpl:∀ env,(backTo pos (starEach es env)).any (·.1)=false):aA c (.Call (.Name x p) (e::es) [] pos) ρ R:=λO H Hf Q S qq =>
 bw (rV hc (by unfold Gl Gm; rw [c.esc]; exact hg) (by rw [c.emg]; exact hm) hv BO hn hdb (he _) (hpl _))
  (ha O H Hf _ S λds vs H1 aM h1 rs g=>hd ds vs H1 aM Q R g.b rs h1 λz v' H' ai hz rz g2=>qq z v' H' ai hz rz (g.trans g2))
theorem C1 {id:String} (hc:ef c.X (.type id) r) (hd:wO c.X.K r q) (hm:mg x=none) (hv:bootBuiltins x=some (.type id))
 (ha:mU c (e::es) ρ λds=>q ds R) (hg:sc.names.lookup x=some .globalImplicit) (hn:x≠"__name__") (hdb:(x == ("__debug__":Str))=false)
 (he:∀ env,starEach (e::es) env=(false,eval e env)::starEach es env) (hpl:∀ env,(backTo pos (starEach es env)).any (·.1)=false):aA c (.Call (.Name x p) (e::es) [] pos) ρ R:=λO H Hf Q S qq =>
 bw (je hc (by unfold Gl Gm; rw [c.esc]; exact hg) (by rw [c.emg]; exact hm) hv BO hn hdb (he _) (hpl _))
  (ha O H Hf _ S λds vs H1 aM h1 rs g=>hd ds vs H1 aM Q R g.b rs h1 λz v' H' ai hz rz g2=>qq z v' H' ai hz rz (g.trans g2))
theorem As {f:Int->D} {g:Int->V} (hf:∀ i H,Rep K H (f i) (g i)):wO K (λxs H Q=>∃ i,xs=[V.int i]/\Q (g i) H) (λds R=>∃ i,ds=[.int i]/\R (f i)):=by
 rintro ds vs H Hf Q R s rs ⟨i,rfl,hR⟩ q
 obtain ⟨v,rfl,rv⟩:=n8 rs
 rw [az] at rv; subst rv
 exact ⟨i,rfl,q _ _ H Hf hR (hf i Hf) (.refl s)⟩
theorem C2 (hm:mg "abs"=none) (h:aA c e ρ (I1 λi=>R (.int (if i<0 then -i else i)))) (hg:sc.names.lookup (Fg "abs")=some .globalImplicit:=by walk_at "u")
 (he:∀ env,starEach [e] env=(false,eval e env)::starEach [] env:=by intro _; walk_at "u"):aA c (.Call (.Name "abs" p) [e] [] pos) ρ R :=
 yJ rT (As (f:=λi=>.int (if i<0 then -i else i)) λi H=>az.mpr rfl) hm PyProof.Rows.boot_abs (gU (h.imp λd ⟨i,e,r⟩=>kU ⟨i,by rw [e],r⟩) he) hg (by decide) (by decide) he (by intro _; rfl)
end
end EV
namespace EV
open PySem PySem.Spec PySem.Calls PyProof.Rows L2
theorem Au (x:aO P w H h a o):∃ u,h.get? a=some u:=by
 cases o with
 | lst xs=>obtain ⟨_,_,_,_,e⟩:=x; exact ⟨_,e⟩
 | tup xs=>obtain ⟨_,_,_,ob,e,_⟩:=x; exact ⟨_,e⟩
 | dK kvs=>obtain ⟨_,_,_,_,o,_,_,e,_⟩:=x; exact ⟨_,e⟩
 | dT kvs=>obtain ⟨_,_,_,_,o,_,_,e,_⟩:=x; exact ⟨_,e⟩
 | set S n=>obtain ⟨o,_,_,_,e,_⟩:=x; exact ⟨_,e⟩
 | ins C dx fs=>obtain ⟨_,_,_,e,_⟩:=x; exact ⟨_,e⟩
 | own y=>exact x
 | xd fs=>obtain ⟨_,⟨_,_,_,e,_⟩,_⟩:=x; exact ⟨_,e⟩
 | rng lo hi=>obtain ⟨_,_,_,e⟩:=x; exact ⟨_,e⟩
 | frz ob u=>obtain ⟨e,_⟩:=x; exact ⟨_,e⟩
 | tbl ps=>exact ⟨_,x⟩
 | met f y=>exact ⟨_,x⟩
 | ext φ =>exact x.2.1
section
variable {K:Fi}
end
open PySem.W Builtin Builtin.ObjectAttr Builtin.Getset_descriptor
structure DK (K:Fi) (C:Addr):Prop where
 ga:G9 K (.ref C) "__getattribute__"=some (some (.builtin "BaseException.__getattribute__"))
 hk:G9 K (.ref C) "__getattr__"=some none
 ca:G9 K (.ref C) "__class__"=some (some (.builtin "object.__class__"))
 gt:J5 K (.builtin "object.__class__") "__get__"=some (some (.builtin "getset_descriptor.__get__"))
 tk:PySem.W.takesIn K (.builtin "object.__class__")=some true
 mo:Jr K C (.type "object")=some true
 mb:Jr K C (.type "BaseException")=some true
section
variable {prog:Program} {w:World} {A:Around} {E:Value->Shared->Prop} {s:Shared} {K:Fi} {x C:Addr} {R:Result->Shared->Prop}
theorem n9 (p:mT x C h):Looks M h (typeOf (.ref x)) (.ref C):=by
 obtain ⟨o,ho,hc,_⟩:=p
 rw [<- hc]
 exact (Looks.ld ho).andThen .now
theorem iZ (X:K.In s.heap) (L:Looks (model prog w) s.heap (typeOf (.ref x)) (.ref C)) (hm:Jr K C (.type "object")=some true)
 (h:R (.ok (.ret (.ref C))) s):codeAny (model prog w) A (.call (.builtin "getset_descriptor.__get__") ⟨[.builtin "object.__class__",.ref x,tp],[]⟩) R s:=by
 obtain ⟨hh,g,dr,t,os⟩:=s
 have L0:=L
 have L1:=looks_mroIn (M:=model prog w) X hm
 refine codeAny_call_builtin KF.slot_gs.plain KF.entry_gs (KF.slot_gs.check _ _ _ _ _ _ _ _ KF.type_class (KF.args_gs _ _ _) ?_)
 unfold Builtin.«getset_descriptor.__get__» descrGet
 rw [dga_obj]
 refine Ff (Fl ?_)
 unfold descrGetter descrCheckInstance descrNameAndClass isInstance
 simp only [KF.owner_class]
 repeat lk
 refine ⟨Code.quiet_builtin _ (by decide +kernel),codeAny_builtin KF.entry_class ?_⟩
 unfold Builtin.«object.__class__» shownTypeOf
 repeat lk
 exact h
theorem sS (X:K.In h) (k:DK K C):Looks M h (find (.ref x) (.ref C) "__class__") (.bind (.builtin "getset_descriptor.__get__") (.builtin "object.__class__")):=by
 have L1:=looks_findIn (M:=M) X k.ca
 have L2:Looks M h (getOf (some (.builtin "object.__class__"))) (some (.builtin "getset_descriptor.__get__")):=looks_specialIn X k.gt
 have L3:=looks_takesIn (M:=M) X k.tk
 unfold find
 refine L1.andThen (L2.andThen ?_)
 refine Looks.andThen (a:=some (.builtin "getset_descriptor.__get__",.builtin "object.__class__")) ?_ (Looks.tag .now)
 unfold dataDescriptor?
 exact L3.andThen .now
theorem qm (X:K.In s.heap) (p:mT x C s.heap) (k:DK K C) (h:Q (some (.ref C)) { s with toks:=s.toks+1 }):wpAny (model prog w) A (getAttr? (.ref x) "__class__") Q E s:=by
 obtain ⟨hh,g,d,t,os⟩:=s
 have L0:Looks (model prog w) hh (typeOf (.ref x)) (.ref C):=n9 p
 have L1:=looks_findIn (M:=model prog w) X k.ga
 have L2:=looks_findIn (M:=model prog w) X k.hk
 have L3:=looks_mroIn (M:=model prog w) X k.mb
 have L4:=sS (M:=model prog w) (x:=x) X k
 unfold getAttr? getAttrBy? getAttrBy
 refine Ff (wpAny_mkText (Ff (IF (GK (Ff (L0.at (Ff (L1.at ?_))))))))
 dsimp only
 have hx2:(Value.builtin "BaseException.__getattribute__" == Value.builtin "object.__getattribute__")=false:=by decide +kernel
 rw [hx2,Bool.and_false,if_neg Fv]
 unfold getAttrByItsOwn hookBefore
 rw [if_pos (by rfl)]
 refine Ff (L2.at ?_)
 refine Ff (IF (GK ?_))
 unfold callGetattribute
 rw [if_neg (by simp)]
 unfold boundAndCalled
 have f3:=PySem.F.attrBase_ValueError.ga.bind (.ref x)
 rw [f3]
 refine Ff (Fl ?_)
 refine wpAny_call (codeAny_call_builtin PySem.F.attrBase_ValueError.ga.plain PySem.F.entry_bexc_ga ?_)
 have hk:builtinKind "BaseException.__getattribute__"=some .slot:=by decide +kernel
 have hsplit:splitId "BaseException.__getattribute__"=some ("BaseException","__getattribute__"):=by decide +kernel
 have ha:=PySem.F.args_bexc_ga (.ref x) (IT "__class__" t)
 simp only [checkBuiltinCall,hk,hsplit]
 dsimp only [Ji,List.nil_append]
 have LI:Looks (model prog w) hh (isInstance (.ref x) (.type "BaseException")) true:=L0.andThen L3
 refine Ff (LI.at ?_)
 rw [if_neg (by decide)]
 refine Gk (Q:=λ_ s1=>s1=⟨hh,g,d,t+1,os⟩) (E:=λ_ _=>False) ?_ (λ_ s1 e1=>?_) (λ_ _ z=>z.elim)
 ·repeat (any_goals (first | assumption | rfl | wp_step))
 subst e1
 unfold «object.__getattribute__»
 repeat (first | with_reducible refine wpAny_call ?_ | lk)
 refine iZ X L0 k.mo ?_
 repeat lk
 exact h
theorem sU (k:DK K C):PySem.W.KitX K (.ref x) (.ref C) (mT x C) where
 ty:=λ_ _ _ p=>n9 p
 it:=λ_ _ X _=>by
  have hdct:∃ cd,IG K C=some cd:=by
   obtain ⟨cd,h1,_⟩:=JK.mp (show (IG K C).bind _=some true from k.mo)
   exact ⟨cd,h1⟩
  obtain ⟨cdD,hcD⟩:=hdct
  unfold IG at hcD
  split at hcD
  ·rename_i c' d' cd' sl' ho
   intro A' Q' E' s' k q
   unfold isType loadHead
   exact Ff (wpAny_loadPart (k _ _ (X _ _ ho)) (Fl q))
  ·cases hcD
 ne:=λh tp dd its n sl X htp=>by
  obtain ⟨cdD,hcD,_⟩:=JK.mp (show (IG K C).bind _=some true from k.mo)
  refine Bool.eq_false_iff.mpr λq=>?_
  have e:C=tp:=FH.inj (beq_iff_eq.mp q)
  subst e
  unfold IG at hcD
  split at hcD
  ·rename_i c' d' cd' sl' ho
   have z:=(X _ _ ho).symm.trans htp
   cases z
  ·cases hcD
 ca:=λX p h=>qm X p k h
end
inductive qo (K:Fi):D->Value->Prop where
 | non:qo K .non (.type "NoneType")
 | bl {x:Bool}:qo K (.bl x) (.type "bool")
 | int {i:Int}:qo K (.int i) (.type "int")
 | str {x:Str}:qo K (.str x) (.type "str")
 | lst {ds:List EV.D}:qo K (.lst ds) (.type "list")
 | tup {ds:List EV.D}:qo K (.tup ds) (.type "tuple")
 | exc {C:Addr} (k:DK K C):qo K (.exc C) (.ref C)
theorem wQ (I:Inv X aa O H s) (sb:aD Hf H) (rx:RelV v u) (rd:Rep X.K Hf d v) (ty:qo X.K d t) (e:GC X.K t cv=some b) (h:∀ tk,Q (.bool b) { s with toks:=tk }) :
 wpAny (model X.prog X.w) A (call (.builtin "isinstance") [u,cv]) Q E s:=by
 cases ty with
 | non=>rw [aV] at rd; subst rd; cases (show u=Gx from rx); exact Hy PySem.W.kitx_none I.p6 GY e (λz=>nomatch z) h
 | bl=>rw [bR] at rd; subst rd; cases (show u=Value.bool _ from rx); exact Hy PySem.W.kitx_bool I.p6 GY e (λz=>nomatch z) h
 | int=>rw [az] at rd; subst rd; obtain ⟨t,q⟩:=(show ∃ t,u=Hl _ t from rx); cases q; exact Hy PySem.W.kitx_int I.p6 GY e (λz=>nomatch z) h
 | str=>rw [cU] at rd; subst rd; obtain ⟨t,q⟩:=(show ∃ t,u=IT _ t from rx); cases q; exact Hy PySem.W.kitx_str I.p6 GY e (λz=>nomatch z) h
 | lst =>
  rw [aP] at rd
  obtain ⟨a,xs,rfl,h1,_⟩:=rd
  cases (show u=FH a from rx)
  obtain ⟨its,_,p,_⟩:=I.list (sb.seq h1)
  obtain ⟨o,n1,p1,p2,_⟩:=p
  exact Hy PySem.W.kitx_list I.p6 ⟨o,p1,p2⟩ e (λz=>nomatch z) h
 | tup =>
  rw [ay] at rd
  obtain ⟨a,xs,rfl,h1,_⟩:=rd
  cases (show u=FH a from rx)
  obtain ⟨its,_,p,_⟩:=I.tuple (ak sb h1)
  obtain ⟨o,p1,p2,_⟩:=p
  exact Hy PySem.W.kitx_tuple I.p6 ⟨o,p1,p2⟩ e (λz=>nomatch z) h
 | @exc C k =>
  rw [wC] at rd
  obtain ⟨a,rfl,h1⟩:=rd
  cases (show u=FH a from rx)
  have p:mT a C s.heap:=(show aO X.prog X.w H s.heap a (.ext (mT a C)) from I.hok a _ (sb _ _ h1)).1
  exact Hy (sU k) I.p6 p e (λz=>nomatch z) h
section
variable {K:Fi} {c:Ctx P w K mg base k N sc bk}
def gw (mg:Str->Option Value) (x:Str) (cv:Value):Prop:=(∃ C,cv=.ref C/\mg x=some (.ref C))\/(∃ T,cv=.type T/\mg x=none/\bootBuiltins x=some (.type T)/\x≠"__name__")
theorem qp:bootBuiltins "isinstance"=some (.builtin "isinstance"):=by decide +kernel
theorem jS (hm:mg "isinstance"=none) (hc:gw mg x cv) (h:aA c e ρ λd=>∃ t b,qo K d t/\GC K t cv=some b/\R (.bl b))
 (hgi:sc.names.lookup (Fg "isinstance")=some .globalImplicit:=by walk_at "u") (hgx:sc.names.lookup x=some .globalImplicit:=by walk_at "u") (hdx:(x == ("__debug__":Str))=false:=by decide)
 (he:∀ env,starEach [e,.Name x cp] env=(false,eval e env)::starEach [.Name x cp] env:=by intro _; walk_at "u") (he2:∀ env,starEach [.Name x cp] env=[(false,eval (.Name x cp) env)]:=by intro _; walk_at "u")
 (hpl:∀ env,(backTo pos (starEach [.Name x cp] env)).any (·.1)=false:=by intro _; walk_at "u"):aA c (.Call (.Name "isinstance" np) [e,.Name x cp] [] pos) ρ R:=λO H Hf Q S q aa s I=>by
 refine Ip (dI I (by unfold Gl Gm; rw [c.esc]; exact hgi) (by rw [c.emg]; exact hm) qp ?_ (by decide) (by decide))
 have hx:∀ (s1:Shared) (H1:Hp) (Q':Value->Shared->Prop),Inv c.X aa O H1 s1->Q' cv s1->wpAny (model c.X.prog c.X.w) c.X.A (eval (.Name x cp) c.X.env) Q' c.X.xe s1:=λs1 H1 Q' I1 q'=>by
  rcases hc with ⟨C,rfl,hm'⟩ | ⟨T,rfl,hm',hb,hn⟩
  ·exact jG I1 (by unfold Gl Gm; rw [c.esc]; exact hgx) (by rw [c.emg]; exact hm') q' hdx
  ·exact dI I1 (by unfold Gl Gm; rw [c.esc]; exact hgx) (by rw [c.emg]; exact hm') hb q' hn hdx
 refine Kr (spliced_more (h O H Hf (λv H1=>∃ d aM,(∃ t b,qo K d t/\GC K t cv=some b/\R (.bl b))/\Rep c.X.K aM d v/\bf H Hf H1 aM) S (λd v H' ai hR r g=>⟨d,ai,hR,r,g⟩) aa s I |> (aZ · λu s1 hh=>z2 hh λv H1 hh=>w3 hh λI1 rv hh=>z2 hh λd aM hh=>w3 hh λhh rd g=>z2 hh λt b hh=>w3 hh λty ek hR=>?_)) (he _)) (he _) (hpl _)
 refine spliced_more (hx s1 H1 _ I1 (spliced_none ?_)) (he2 _)
 refine wQ I1 g.b rv rd (by rw [c.eK]; exact ty) (by rw [c.eK]; exact ek) λtk=>?_
 exact ⟨.bl b,H1,I1.tok tk,rfl,q _ _ H1 aM hR (bR.mpr rfl) g⟩
end
section
variable {X:Cx}
theorem jT (I:Inv X aa O H s) (sb:aD Hf H):∀ (n:Nat) (d e:D) (v:V),gm n d e->Rep X.K Hf d v->Rep X.K Hf e v->d=e:=by
 intro n
 induction n with
 | zero =>
  intro d e v h r1 r2
  cases h with
  | sc h=>cases d <;> cases e <;> simp [f6] at h <;> simp_all [Rep]
  | ln=>rw [aV] at r2; subst r2; rw [aP] at r1; obtain ⟨_,_,e,_⟩:=r1; cases e
  | nl=>rw [aV] at r1; subst r1; rw [aP] at r2; obtain ⟨_,_,e,_⟩:=r2; cases e
  | tn=>rw [aV] at r2; subst r2; rw [ay] at r1; obtain ⟨_,_,e,_⟩:=r1; cases e
  | nt=>rw [aV] at r1; subst r1; rw [ay] at r2; obtain ⟨_,_,e,_⟩:=r2; cases e
 | succ n ih =>
  have els:∀ (ds es:List D) (xs:List V),(∀ (i:Nat) (d e:D),ds[i]?=some d->es[i]?=some e->gm n d e)->aj X.K Hf ds xs->aj X.K Hf es xs->ds=es:=λds es xs h q1 q2=>by
   apply Iu
   intro i
   cases a:ds[i]? with
   | none =>
    have:ds.length<=i:=by simpa using a
    symm
    rw [List.getElem?_eq_none_iff,q2.length,<- q1.length]; exact this
   | some d =>
    obtain ⟨x,ex,rx⟩:=q1.get a
    obtain ⟨e,ee,re⟩:=q2.get' ex
    rw [ee,ih d e x (h i d e a ee) rx re]
  intro d e v h r1 r2
  cases h with
  | sc h=>cases d <;> cases e <;> simp [f6] at h <;> simp_all [Rep]
  | ln=>rw [aV] at r2; subst r2; rw [aP] at r1; obtain ⟨_,_,e,_⟩:=r1; cases e
  | nl=>rw [aV] at r1; subst r1; rw [aP] at r2; obtain ⟨_,_,e,_⟩:=r2; cases e
  | tn=>rw [aV] at r2; subst r2; rw [ay] at r1; obtain ⟨_,_,e,_⟩:=r1; cases e
  | nt=>rw [aV] at r1; subst r1; rw [ay] at r2; obtain ⟨_,_,e,_⟩:=r2; cases e
  | tup h =>
   rw [ay] at r1 r2
   obtain ⟨a,xs,rfl,p1,q1⟩:=r1
   obtain ⟨a',ys,e',p2,q2⟩:=r2
   cases e'
   have:=I.fD (ak sb p1) (ak sb p2)
   subst this
   rw [els _ _ _ h q1 q2]
  | lst h =>
   rw [aP] at r1 r2
   obtain ⟨a,xs,rfl,p1,q1⟩:=r1
   obtain ⟨a',ys,e',p2,q2⟩:=r2
   cases e'
   have:=I.kH (sb.seq p1) (sb.seq p2)
   subst this
   rw [els _ _ _ h q1 q2]
theorem jU {α:Type} [BEq α] [LawfulBEq α] {a b:α} {i:Decidable (a=b)}:(a == b)=@decide (a=b) i:=by
 by_cases h:a=b
 ·subst h; simp
 ·simp [h]
theorem all_range {ds es:List D} (hn:ds.length=n) (hm:es.length=m) (h:n=m):((Gf n).all λj=>decide (ds[j]?=es[j]?))=decide (ds=es):=by
 rw [IE,List.all_eq_true]
 simp only [List.mem_range,decide_eq_true_eq]
 constructor
 ·intro q
  apply Iu
  intro i
  by_cases hi:i<n
  ·exact q i hi
  ·rw [Ij (by lia),Ij (by lia)]
 ·rintro rfl; intro _ _; rfl
theorem oh (h:f6 x y=true) (r1:Rep X.K Hf x v) (r2:Rep X.K Hf y v') (e1:RelV v u) (e2:RelV v' u'):FE A s u u' (decide (x=y)):=by
 cases x <;> cases y <;> simp [f6] at h <;> simp only [az,bR,aV,cU] at r1 r2 <;> subst r1 <;> subst r2
 case non.non=>cases e1; cases e2; simpa using FE.same _
 case non.bl b=>cases e1; cases e2; simpa using FE.none_bool (A:=A) (s:=s) b
 case non.int i=>cases e1; obtain ⟨t,rfl⟩:=e2; simpa using FE.none_int (A:=A) (s:=s) i t
 case non.str i=>cases e1; obtain ⟨t,rfl⟩:=e2; simpa using FE.none_str (A:=A) (s:=s) i t
 case bl.non b=>cases e1; cases e2; simpa using FE.bool_none (A:=A) (s:=s) b
 case bl.bl a b=>cases e1; cases e2; have q:=FE.bool_bool (A:=A) (s:=s) a b; rw [jU (i:=inferInstance)] at q; simpa using q
 case bl.str a b=>cases e1; obtain ⟨t,rfl⟩:=e2; simpa using FE.bool_str (A:=A) (s:=s) a b t
 case int.non a=>obtain ⟨t,rfl⟩:=e1; cases e2; simpa using FE.int_none (A:=A) (s:=s) a t
 case int.int a b=>obtain ⟨t,rfl⟩:=e1; obtain ⟨t',rfl⟩:=e2; have q:=FE.int_int (A:=A) (s:=s) a t b t'; rw [jU (i:=inferInstance)] at q; simpa using q
 case int.str a b=>obtain ⟨t,rfl⟩:=e1; obtain ⟨t',rfl⟩:=e2; simpa using FE.int_str (A:=A) (s:=s) a t b t'
 case str.non a=>obtain ⟨t,rfl⟩:=e1; cases e2; simpa using FE.str_none (A:=A) (s:=s) a t
 case str.bl a b=>obtain ⟨t,rfl⟩:=e1; cases e2; simpa using FE.str_bool (A:=A) (s:=s) a t b
 case str.int a b=>obtain ⟨t,rfl⟩:=e1; obtain ⟨t',rfl⟩:=e2; simpa using FE.str_int (A:=A) (s:=s) a t b t'
 case str.str a b=>obtain ⟨t,rfl⟩:=e1; obtain ⟨t',rfl⟩:=e2; have q:=FE.str_str (A:=A) (s:=s) a t b t'; rw [jU (i:=inferInstance)] at q; simpa using q
theorem in1_units (A:Around):A.in1.units=A.units+1:=rfl
theorem oi:decide (D.tup ds=D.tup es)=decide (ds=es):=by simp
theorem gx:decide (D.lst ds=D.lst es)=decide (ds=es):=by simp
theorem jV (I:Inv X aa O H s) {A:Around} (h:∀ (i:Nat) (d e:D),ds[i]?=some d->es[i]?=some e->gm n d e)
 (ih:∀ (d e:D) (v v':V) (u u':Value) (A:Around),gm n d e->Rep X.K Hf d v->Rep X.K Hf e v'->RelV v u->RelV v' u'->A.units+n<cLine->FE A s u u' (decide (d=e)))
 (q1:aj X.K Hf ds xs) (q2:aj X.K Hf es ys) (r1:Vals xs us) (r2:Vals ys ws) (hu:A.in1.units+n<cLine) :
 ∀ j (h1:j<us.toArray.size) (h2:j<ws.toArray.size),FE A.in1 s us.toArray[j] ws.toArray[j] (decide (ds[j]?=es[j]?)):=λj h1 h2=>by
 have l1:=q1.length
 have l2:=q2.length
 have m1:=r1.length
 have m2:=r2.length
 simp only [FG] at h1 h2
 have hd:ds[j]?=some ds[j]:=F7 (by lia)
 have he:es[j]?=some es[j]:=F7 (by lia)
 obtain ⟨x,ex,rx⟩:=q1.get hd
 obtain ⟨y,ey,ry⟩:=q2.get he
 obtain ⟨u,eu,ru⟩:=r1.get ex
 obtain ⟨u',eu',ru'⟩:=r2.get ey
 have z1:us.toArray[j]=u:=by
  have:=F7 h1
  rw [this] at eu
  simpa using eu
 have z2:ws.toArray[j]=u':=by
  have:=F7 h2
  rw [this] at eu'
  simpa using eu'
 rw [z1,z2,hd,he]
 have q:=ih _ _ x y u u' A.in1 (h j _ _ hd he) rx ry ru ru' hu
 simpa using q
theorem jl (I:Inv X aa O H s) (sb:aD Hf H):∀ (n:Nat) (d e:D) (v v':V) (u u':Value) (A:Around),gm n d e->Rep X.K Hf d v->Rep X.K Hf e v'->RelV v u->RelV v' u'->A.units+n<cLine->FE A s u u' (decide (d=e)):=by
 have non:∀ (n:Nat) (d e:D) (v v':V) (u u':Value) (A:Around),A.units<cLine->Rep X.K Hf d v->Rep X.K Hf e v'->RelV v u->RelV v' u' ->
  ((∃ ds,d=.lst ds/\e=.non)\/(∃ ds,d=.non/\e=.lst ds)\/(∃ ds,d=.tup ds/\e=.non)\/(∃ ds,d=.non/\e=.tup ds))->FE A s u u' (decide (d=e)):=by
  intro n d e v v' u u' A hu r1 r2 e1 e2 h
  rcases h with ⟨ds,rfl,rfl⟩ | ⟨ds,rfl,rfl⟩ | ⟨ds,rfl,rfl⟩ | ⟨ds,rfl,rfl⟩
  ·rw [aV] at r2; subst r2; rw [aP] at r1; obtain ⟨a,xs,rfl,p,_⟩:=r1; cases e1; cases e2
   obtain ⟨its,_,q,_⟩:=I.list (sb.seq p)
   simpa using FE.list_none (A:=A) q.isList hu
  ·rw [aV] at r1; subst r1; rw [aP] at r2; obtain ⟨a,xs,rfl,p,_⟩:=r2; cases e1; cases e2
   obtain ⟨its,_,q,_⟩:=I.list (sb.seq p)
   simpa using FE.none_list (A:=A) q.isList hu
  ·rw [aV] at r2; subst r2; rw [ay] at r1; obtain ⟨a,xs,rfl,p,_⟩:=r1; cases e1; cases e2
   obtain ⟨its,_,q,_⟩:=I.tuple (ak sb p)
   simpa using FE.tuple_none (A:=A) (show s.heap.IsTuple a its.toArray from q) hu
  ·rw [aV] at r1; subst r1; rw [ay] at r2; obtain ⟨a,xs,rfl,p,_⟩:=r2; cases e1; cases e2
   obtain ⟨its,_,q,_⟩:=I.tuple (ak sb p)
   simpa using FE.none_tuple (A:=A) (show s.heap.IsTuple a its.toArray from q) hu
 intro n
 induction n with
 | zero =>
  intro d e v v' u u' A h r1 r2 e1 e2 hu
  cases h with
  | sc h=>exact oh h r1 r2 e1 e2
  | ln=>exact non 0 _ _ _ _ _ _ A (by lia) r1 r2 e1 e2 (.inl ⟨_,rfl,rfl⟩)
  | nl=>exact non 0 _ _ _ _ _ _ A (by lia) r1 r2 e1 e2 (.inr (.inl ⟨_,rfl,rfl⟩))
  | tn=>exact non 0 _ _ _ _ _ _ A (by lia) r1 r2 e1 e2 (.inr (.inr (.inl ⟨_,rfl,rfl⟩)))
  | nt=>exact non 0 _ _ _ _ _ _ A (by lia) r1 r2 e1 e2 (.inr (.inr (.inr ⟨_,rfl,rfl⟩)))
 | succ n ih =>
  intro d e v v' u u' A h r1 r2 e1 e2 hu
  cases h with
  | sc h=>exact oh h r1 r2 e1 e2
  | ln=>exact non 0 _ _ _ _ _ _ A (by lia) r1 r2 e1 e2 (.inl ⟨_,rfl,rfl⟩)
  | nl=>exact non 0 _ _ _ _ _ _ A (by lia) r1 r2 e1 e2 (.inr (.inl ⟨_,rfl,rfl⟩))
  | tn=>exact non 0 _ _ _ _ _ _ A (by lia) r1 r2 e1 e2 (.inr (.inr (.inl ⟨_,rfl,rfl⟩)))
  | nt=>exact non 0 _ _ _ _ _ _ A (by lia) r1 r2 e1 e2 (.inr (.inr (.inr ⟨_,rfl,rfl⟩)))
  | @tup _ ds es h =>
   have hh:=gm.tup h
   have r1':=r1; have r2':=r2
   rw [ay] at r1 r2
   obtain ⟨a,xs,rfl,p1,q1⟩:=r1
   obtain ⟨b,ys,rfl,p2,q2⟩:=r2
   cases e1; cases e2
   by_cases hab:a=b
   ·subst hab
    have:=jT I sb _ _ _ _ hh r1' r2'
    rw [this]
    simpa using FE.same _
   ·obtain ⟨us,v1,t1,_⟩:=I.tuple (ak sb p1)
    obtain ⟨ws,v2,t2,_⟩:=I.tuple (ak sb p2)
    have key:=HG.tuples (A:=A) (s:=s) (show s.heap.IsTuple a us.toArray from t1) (show s.heap.IsTuple b ws.toArray from t2) (by lia) (jV I h ih q1 q2 v1 v2 (by rw [in1_units]; lia))
    have hl1:us.toArray.size=ds.length:=by simp [<- v1.length,q1.length]
    have hl2:ws.toArray.size=es.length:=by simp [<- v2.length,q2.length]
    have e:((Gf (min us.toArray.size ws.toArray.size)).all (λj=>decide (ds[j]?=es[j]?)) && us.toArray.size == ws.toArray.size)=decide (D.tup ds=D.tup es):=by
     rw [oi,hl1,hl2]
     by_cases hl:ds.length=es.length
     ·rw [hl,Nat.min_self]
      simp only [beq_self_eq_true,Bool.and_true]
      exact all_range hl rfl rfl
     ·have:¬ ds=es:=λz=>hl (by rw [z])
      simp [hl,this]
    rw [e] at key
    exact .of_refs hab key
  | @lst _ ds es h =>
   have hh:=gm.lst h
   have r1':=r1; have r2':=r2
   rw [aP] at r1 r2
   obtain ⟨a,xs,rfl,p1,q1⟩:=r1
   obtain ⟨b,ys,rfl,p2,q2⟩:=r2
   cases e1; cases e2
   by_cases hab:a=b
   ·subst hab
    have:=jT I sb _ _ _ _ hh r1' r2'
    rw [this]
    simpa using FE.same _
   ·obtain ⟨us,v1,t1,_⟩:=I.list (sb.seq p1)
    obtain ⟨ws,v2,t2,_⟩:=I.list (sb.seq p2)
    have hl1:us.toArray.size=ds.length:=by simp [<- v1.length,q1.length]
    have hl2:ws.toArray.size=es.length:=by simp [<- v2.length,q2.length]
    by_cases hl:ds.length=es.length
    ·have key:=HG.lists (A:=A) (s:=s) t1.isList t2.isList (by rw [hl1,hl2,hl]) (by lia) (jV I h ih q1 q2 v1 v2 (by rw [in1_units]; lia))
     rw [hl1,all_range rfl hl.symm rfl,<- gx] at key
     exact .of_refs hab key
    ·have key:=HG.lists_lengths (A:=A) (s:=s) t1.isList t2.isList (by rw [hl1,hl2]; simpa using hl) (by lia)
     have e:decide (D.lst ds=D.lst es)=false:=by
      rw [gx]; exact decide_eq_false λz=>hl (by rw [z])
     rw [e]
     exact .of_refs hab key
theorem kW (I:Inv X aa O H s) (sb:aD Hf H) (hu:A.units+50<cLine) (hk:(d=.tup ds/\e=.tup es)\/(d=.lst ds/\e=.lst es)) (h:iY ds es)
 (r1:Rep X.K Hf d v) (r2:Rep X.K Hf e v') (e1:RelV v u) (e2:RelV v' u'):HG A s u u' (decide (d=e))/\Jy A s u u' (!decide (d=e)):=by
 have ih:=jl I sb 40
 rcases hk with ⟨rfl,rfl⟩ | ⟨rfl,rfl⟩
 ·rw [ay] at r1 r2
  obtain ⟨a,xs,rfl,p1,q1⟩:=r1
  obtain ⟨b,ys,rfl,p2,q2⟩:=r2
  cases e1; cases e2
  obtain ⟨us,v1,t1,_⟩:=I.tuple (ak sb p1)
  obtain ⟨ws,v2,t2,_⟩:=I.tuple (ak sb p2)
  have els:=jV (A:=A) I h ih q1 q2 v1 v2 (by rw [in1_units]; lia)
  have key:=HG.tuples (A:=A) (s:=s) (show s.heap.IsTuple a us.toArray from t1) (show s.heap.IsTuple b ws.toArray from t2) (by lia) els
  have key2:=Jy.tuples (A:=A) (s:=s) (show s.heap.IsTuple a us.toArray from t1) (show s.heap.IsTuple b ws.toArray from t2) (by lia) els
  have hl1:us.toArray.size=ds.length:=by simp [<- v1.length,q1.length]
  have hl2:ws.toArray.size=es.length:=by simp [<- v2.length,q2.length]
  have e:((Gf (min us.toArray.size ws.toArray.size)).all (λj=>decide (ds[j]?=es[j]?)) && us.toArray.size == ws.toArray.size)=decide (D.tup ds=D.tup es):=by
   rw [oi,hl1,hl2]
   by_cases hl:ds.length=es.length
   ·rw [hl,Nat.min_self]
    simp only [beq_self_eq_true,Bool.and_true]
    exact all_range hl rfl rfl
   ·have:¬ ds=es:=λz=>hl (by rw [z])
    simp [hl,this]
  rw [e] at key key2
  exact ⟨key,key2⟩
 ·rw [aP] at r1 r2
  obtain ⟨a,xs,rfl,p1,q1⟩:=r1
  obtain ⟨b,ys,rfl,p2,q2⟩:=r2
  cases e1; cases e2
  obtain ⟨us,v1,t1,_⟩:=I.list (sb.seq p1)
  obtain ⟨ws,v2,t2,_⟩:=I.list (sb.seq p2)
  have hl1:us.toArray.size=ds.length:=by simp [<- v1.length,q1.length]
  have hl2:ws.toArray.size=es.length:=by simp [<- v2.length,q2.length]
  by_cases hl:ds.length=es.length
  ·have els:=jV (A:=A) I h ih q1 q2 v1 v2 (by rw [in1_units]; lia)
   have key:=HG.lists (A:=A) (s:=s) t1.isList t2.isList (by rw [hl1,hl2,hl]) (by lia) els
   have key2:=Jy.lists (A:=A) (s:=s) t1.isList t2.isList (by rw [hl1,hl2,hl]) (by lia) els
   rw [hl1,all_range rfl hl.symm rfl,<- gx] at key key2
   exact ⟨key,key2⟩
  ·have key:=HG.lists_lengths (A:=A) (s:=s) t1.isList t2.isList (by rw [hl1,hl2]; simpa using hl) (by lia)
   have key2:=Jy.lists_lengths (A:=A) (s:=s) t1.isList t2.isList (by rw [hl1,hl2]; simpa using hl) (by lia)
   have e:decide (D.lst ds=D.lst es)=false:=by
    rw [gx]; exact decide_eq_false λz=>hl (by rw [z])
   rw [e]
   exact ⟨key,key2⟩
end
section
variable {K:Fi} {c:Ctx P w K mg base k N sc bk}
noncomputable def wR (K:Fi) (neg:Bool):R2:=λv u H Q=>∃ x y Hf,aD Hf H/\Rep K Hf x v/\Rep K Hf y u/\CB x y/\Q (.bl (if neg then !decide (x=y) else decide (x=y))) H
theorem sV:c7 c.X (compareOp .Eq) (wR c.X.K false):=λaa s O H v u v' u' Q I rv ru ⟨x,y,Hf,sb,rx,ry,ok,q⟩=>by
 rcases ok with h | ⟨ds,es,hk,hi⟩
 ·obtain ⟨z1,z2⟩:=n5 h rx ry
  exact Cf aa s O H v u v' u' Q I rv ru ⟨z1,by rw [z2]; exact q⟩
 ·exact (kW I sb (by have:=c.room.un; lia) hk hi rx ry rv ru).1 _ _ _ _ ⟨.bl (decide (x=y)),H,I,rfl,q⟩
theorem Av:c7 c.X (compareOp .NotEq) (wR c.X.K true):=λaa s O H v u v' u' Q I rv ru ⟨x,y,Hf,sb,rx,ry,ok,q⟩=>by
 rcases ok with h | ⟨ds,es,hk,hi⟩
 ·obtain ⟨z1,z2⟩:=n5 h rx ry
  exact Cg aa s O H v u v' u' Q I rv ru ⟨z1,by rw [z2]; exact q⟩
 ·exact (kW I sb (by have:=c.room.un; lia) hk hi rx ry rv ru).2 _ _ _ _ ⟨.bl (!decide (x=y)),H,I,rfl,q⟩
theorem sW:sM K (wR K false) λx y R=>sJ x y R:=λx y v u H Hf Q R s rx ry ⟨h1,h2⟩ q=>⟨x,y,Hf,s,rx,ry,h1,q _ h2⟩
theorem Aw:sM K (wR K true) λx y R=>sJ x y λb=>R (!b):=λx y v u H Hf Q R s rx ry ⟨h1,h2⟩ q=>⟨x,y,Hf,s,rx,ry,h1,q _ h2⟩
theorem Ew (h:aA c a ρ λx=>aA c b ρ λy=>sJ x y T):fH c (.Compare a [.Eq] [b] pos) ρ T:=nZ sV sW h (gF b)
theorem Ex (h:aA c a ρ λx=>aA c b ρ λy=>sJ x y λb=>T (!b)):fH c (.Compare a [.NotEq] [b] pos) ρ T:=nZ Av Aw h (gF b)
theorem Ey (h:aA c a ρ λx=>aA c b ρ λy=>sJ x y λb=>R (.bl b)):aA c (.Compare a [.Eq] [b] pos) ρ R:=CK sV sW h (gF b)
end
section
variable {P:Program} {w:World} {K:Fi} {mg:Str->Option Value} {base:Heap} {k:Nat} {N:List Str} {sc:Scope} {bk:Bool} {c:Ctx P w K mg base k N sc bk} {ρ:List Sl} {pos:Pos} {a b e:Expr} {es:List Expr} {R:D->Prop} {T:Bool->Prop}
noncomputable def D.row:D->Option (List D)
 | .lst ds=>some ds
 | .tup ds=>some ds
 | _=>none
theorem eF (e:d.row=some ds) (h:Rep K H d v):∃ p xs,v=.ref p/\aj K H ds xs/\((d=.lst ds/\dJ K H p xs)\/(d=.tup ds/\bO K H p xs)):=by
 cases d with
 | lst _=>cases e; rw [aP] at h; obtain ⟨p,xs,rfl,h1,h2⟩:=h; exact ⟨p,xs,rfl,h2,.inl ⟨rfl,h1⟩⟩
 | tup _=>cases e; rw [ay] at h; obtain ⟨p,xs,rfl,h1,h2⟩:=h; exact ⟨p,xs,rfl,h2,.inr ⟨rfl,h1⟩⟩
 | _=>cases e
def BQ (x y:D) (R:D->Prop):Prop:=∃ ds i d,x.row=some ds/\y=.int i/\gM ds i=some d/\R d
theorem gW (h:gM ds i=some d) (hR:R d):BQ (.lst ds) (.int i) R:=⟨ds,i,d,rfl,rfl,h,hR⟩
theorem yK (h:gM ds i=some d) (hR:R d):BQ (.tup ds) (.int i) R:=⟨ds,i,d,rfl,rfl,h,hR⟩
theorem sX (h:aj K H ds xs) (e:gM ds i=some d):∃ x,gM xs i=some x/\Rep K H d x:=by
 unfold gM at e |-
 rw [<- h.length]
 obtain ⟨j,e1,e2⟩:=JK.mp e
 obtain ⟨x,e3,rx⟩:=h.get e2
 exact ⟨x,by rw [e1]; exact e3,rx⟩
theorem C3 (h:aA c a ρ λx=>aA c b ρ λy=>BQ x y R) (hs:gq b:=by intro _ _; walk_at "u"):aA c (.Subscript a b pos) ρ R:=λO H Hf Q S q =>
 bw (Cq (yy.or we zX) cF cF hs) (h O H Hf _ S λx v H1 aM h1 r1 g1=>h1 O H1 aM _ (S.bY g1) λy u H2 bN ⟨ds,i,d,e1,e2,e3,hR⟩ r2 g2=>by
  subst e2
  rw [az] at r2; subst r2
  obtain ⟨p,xs,rfl,hr,hk⟩:=eF e1 (Rep.mono g2.f x r1)
  obtain ⟨z,ez,rz⟩:=sX hr e3
  have fin:=q d z H2 bN hR rz (g1.trans g2)
  rcases hk with ⟨_,hk⟩ | ⟨_,hk⟩
  ·exact .inl ⟨p,xs,i,z,rfl,rfl,g2.b.seq hk,ez,fin⟩
  ·exact .inr ⟨p,xs,i,z,rfl,rfl,ak g2.b hk,ez,fin⟩)
theorem oj (sb:aD Hf H) {d:D} (h:(d=.lst ds/\dJ K Hf p xs)\/(d=.tup ds/\bO K Hf p xs)):dJ K H p xs\/bO K H p xs:=h.elim (λz=>.inl (sb.seq z.2)) λz=>.inr (ak sb z.2)
theorem sY:wO K (λxs H Q=>∃ p ys,xs=[.ref p]/\(dJ K H p ys\/bO K H p ys)/\Q (.int ys.length) H) (λds R=>∃ x,ds=[x]/\∃ ys,x.row=some ys/\R (.int ys.length)):=by
 rintro ds vs H Hf Q R s rs ⟨x,rfl,ys,e,hR⟩ q
 obtain ⟨v,rfl,rv⟩:=n8 rs
 obtain ⟨p,xs,rfl,hr,hk⟩:=eF e rv
 exact ⟨p,xs,rfl,oj s hk,q _ _ H Hf hR (by rw [hr.length]; exact az.mpr rfl) (.refl s)⟩
theorem e_len (hm:mg "len"=none) (h:aA c e ρ λx=>∃ ys,x.row=some ys/\R (.int ys.length)) (hg:sc.names.lookup (Fg "len")=some .globalImplicit:=by walk_at "u")
 (he:∀ env,starEach [e] env=(false,eval e env)::starEach [] env:=by intro _; walk_at "u"):aA c (.Call (.Name "len" p) [e] [] pos) ρ R :=
 yJ jM sY hm PySem.boot_len (gU (h.imp λd hd=>kU ⟨d,rfl,hd⟩) he) hg (by decide) (by decide) he (by intro _; walk_at "u")
theorem sZ {R:Sl->Prop} (hm:mg "list"=none) (h:aA c e ρ λx=>∃ ys,x.row=some ys/\R (.ow ys)) (hg:sc.names.lookup (Fg "list")=some .globalImplicit:=by walk_at "u")
 (he:∀ env,starEach [e] env=(false,eval e env)::starEach [] env:=by intro _; walk_at "u"):cR c (.Call (.Name "list" p) [e] [] pos) ρ R :=
 C0 jN (q:=λds R=>∃ x ys,ds=[x]/\x.row=some ys/\R (.ow ys)) (λds vs H Hf Q R s rs ⟨x,ys,e1,e2,hR⟩ q=>by
  subst e1
  obtain ⟨v,rfl,rv⟩:=n8 rs
  obtain ⟨p,xs,rfl,hr,hk⟩:=eF e2 rv
  exact ⟨p,xs,rfl,oj s hk,λl hl=>by
   have g2:=bf.gS s hl (o:=.lst xs)
   exact q _ _ _ _ hR ⟨l,xs,rfl,hl,ah,s.free hl,hr⟩ g2⟩) hm PyProof.Rows.boot_list (gU (h.imp λd ⟨ys,h1,h2⟩=>kU ⟨d,ys,rfl,h1,h2⟩) he) hg (by decide) (by decide) he (by intro _; walk_at "u")
theorem om (hm:mg "tuple"=none) (h:aA c e ρ λx=>∃ ys,x.row=some ys/\R (.tup ys)) (hg:sc.names.lookup (Fg "tuple")=some .globalImplicit:=by walk_at "u")
 (he:∀ env,starEach [e] env=(false,eval e env)::starEach [] env:=by intro _; walk_at "u"):aA c (.Call (.Name "tuple" p) [e] [] pos) ρ R :=
 C1 iW (q:=λds R=>∃ x ys,ds=[x]/\x.row=some ys/\R (.tup ys)) (λds vs H Hf Q R s rs ⟨x,ys,e1,e2,hR⟩ q=>by
  subst e1
  obtain ⟨v,rfl,rv⟩:=n8 rs
  obtain ⟨p,xs,rfl,hr,hk⟩:=eF e2 rv
  rcases hk with ⟨_,hk⟩ | ⟨_,hk⟩
  ·exact ⟨p,xs,rfl,.inl ⟨s.seq hk,λl hl=>by
    have g2:=bf.new s hl (o:=.tup xs)
    exact q _ _ _ _ hR (ay.mpr ⟨l,xs,rfl,.inl (.inl ah),hr.mono g2.f⟩) g2⟩⟩
  ·exact ⟨p,xs,rfl,.inr ⟨ak s hk,q _ _ H Hf hR (ay.mpr ⟨p,xs,rfl,hk,hr⟩) (.refl s)⟩⟩) hm PyProof.Rows.boot_tuple (gU (h.imp λd ⟨ys,h1,h2⟩=>kU ⟨d,ys,rfl,h1,h2⟩) he) hg (by decide) (by decide) he (by intro _; walk_at "u")
noncomputable def yL (K:Fi):R2:=λx y H Q=>∃ l b xs zs,x=.ref l/\y=.ref b/\dJ K H l xs/\dJ K H b zs/\xs.length+zs.length<=sizeLine/\∀ p,H p=none->Q (.ref p) (upd H p (.lst (xs++zs)))
theorem wU:c7 X (binaryOp .Add) (yL X.K):=by
 intro aa s O H x y v u Q I rx ry h
 obtain ⟨l,b,xs,zs,rfl,rfl,hH,hB,hz,q⟩:=h
 cases rx
 cases ry
 obtain ⟨its,r,hl,z⟩:=I.list hH
 obtain ⟨its2,r2,hl2,z2⟩:=I.list hB
 have e1:=r.length
 have e2:=r2.length
 obtain ⟨⟨cls,dd,data,sl⟩,n,p1,p2,p3,p4⟩:=hl
 obtain ⟨⟨cls2,dd2,data2,sl2⟩,n',q1,q2,q3,q4⟩:=hl2
 simp only at p2 p3 p4 q2 q3 q4
 subst p2 p3 p4 q2 q3 q4
 have ea:its.toArray++its2.toArray=(its++its2).toArray:=by simp
 refine Jx ⟨_,p1,rfl⟩ ⟨_,q1,rfl⟩ noFill_list_add seq_list_add PySem.F.slot_list_add PySem.F.entry_list_add (PySem.F.args_list_add_2 _ _) (list_addW l b its.toArray its2.toArray n n' none none sl sl2 (by simp; lia)) ⟨p1,q1,?_⟩
 rw [ea]
 exact ⟨.ref _,_,I.Cs (t':=s.toks) (r.append r2) (by rw [Gz]; lia),rfl,q _ I.fresh⟩
noncomputable def tw (K:Fi):R2:=λx y H Q=>∃ a b xs ys,x=.ref a/\y=.ref b/\bO K H a xs/\bO K H b ys/\xs.length+ys.length<=sizeLine /\
 (xs=[]->Q (.ref b) H)/\(ys=[]->Q (.ref a) H)/\∀ p,H p=none->Q (.ref p) (upd H p (.tup (xs++ys)))
theorem tD:c7 X (binaryOp .Add) (tw X.K):=by
 intro aa s O H x y v u Q I rx ry h
 obtain ⟨t,b,xs,ys,rfl,rfl,hH,hB,hz,c1,c2,q⟩:=h
 cases rx
 cases ry
 obtain ⟨vs,r,ht,z⟩:=I.tuple hH
 obtain ⟨ws,r2,hb,z2⟩:=I.tuple hB
 obtain ⟨⟨cls,dd,data,sl⟩,ho,hc,n,hd⟩:=id ht
 obtain ⟨⟨cls2,dd2,data2,sl2⟩,ho2,hc2,n2,hd2⟩:=id hb
 simp only at hc hd hc2 hd2
 subst hc hd hc2 hd2
 have e:vs.toArray++ws.toArray=(vs++ws).toArray:=by simp
 have e1:=r.length
 have e2:=r2.length
 by_cases hv:vs=[]
 ·exact Jx ⟨_,ho,rfl⟩ ⟨_,ho2,rfl⟩ Ke seq_tuple_add JN JJ (JH _ _)
   (tuple_addW0 t b vs.toArray ws.toArray n n2 dd dd2 sl sl2 (by simp [hv])) ⟨ho,ho2,⟨.ref b,H,I,rfl,c1 (by rw [Vals.nU r] at hv; exact hv)⟩⟩
 ·by_cases hw:ws=[]
  ·exact Jx ⟨_,ho,rfl⟩ ⟨_,ho2,rfl⟩ Ke seq_tuple_add JN JJ (JH _ _)
    (tuple_addW1 t b vs.toArray ws.toArray n n2 dd dd2 sl sl2 (by simpa using hv) (by simp [hw])) ⟨ho,ho2,⟨.ref t,H,I,rfl,c2 (by rw [Vals.nU r2] at hw; exact hw)⟩⟩
  ·refine Jx ⟨_,ho,rfl⟩ ⟨_,ho2,rfl⟩ Ke seq_tuple_add JN JJ (JH _ _)
    (tuple_addW2 t b vs.toArray ws.toArray n n2 dd dd2 sl sl2 (by simpa using hv) (by simpa using hw) (by rw [FG,FG]; lia)) ⟨ho,ho2,?_⟩
   rw [e]
   refine ⟨.ref s.heap.objs.size,_,I.laid (t':=s.toks) (o:=.tup (xs++ys)) (λb ob q=>Fz _ q) (Fq _) ?_,rfl,q _ (I.hok.fresh (Fq _))⟩
   exact ⟨by rw [Gz]; exact hz,_,r.append r2,IsTup.new _ _⟩
inductive i0:D->D->(Sl->Prop)->Prop where
 | int {i j:Int} {R:Sl->Prop} (h:R (.va (.int (i+j)))):i0 (.int i) (.int j) R
 | lst {ds es:List D} {R:Sl->Prop} (h:Sd (ds.length+es.length<=sizeLine) (R (.ow (ds++es)))):i0 (.lst ds) (.lst es) R
 | tup {ds es:List D} {R:Sl->Prop} (h:Sd (ds.length+es.length<=sizeLine) (R (.va (.tup (ds++es))))):i0 (.tup ds) (.tup es) R
 | str {x y:Str} {R:Sl->Prop} (h:Sd (x.length+y.length<=sizeLine) (R (.va (.str (x++y))))):i0 (.str x) (.str y) R
theorem f7 (h:aj K H ds []):ds=[]:=by
 have:=h.length; cases ds with
 | nil=>rfl
 | cons _ _=>simp at this
theorem wV:DJ K (λx y H Q=>(((vM λi j=>V.int (i+j)) x y H Q\/yL K x y H Q)\/tw K x y H Q)\/∃ i j,x=.str i/\y=.str j/\i.length+j.length<=sizeLine/\Q (.str (i++j)) H) i0:=by
 rintro x y v u H Hf Q R s rx ry h q
 cases h with
 | @int i j _ h =>
  rw [az] at rx ry
  exact .inl (.inl (.inl ⟨i,j,rx,ry,q (.va (.int (i+j))) _ H Hf h (show Rep K Hf (.int (i+j)) _ from az.mpr rfl) (.refl s)⟩))
 | @lst ds es _ h =>
  rw [aP] at rx ry
  obtain ⟨a,xs,rfl,h1,h2⟩:=rx
  obtain ⟨b,ys,rfl,h3,h4⟩:=ry
  refine .inl (.inl (.inr ⟨a,b,xs,ys,rfl,rfl,s.seq h1,s.seq h3,by rw [<- h2.length,<- h4.length]; exact h.s,λp hp=>?_⟩))
  exact q (.ow (ds++es)) _ _ _ h.r ⟨p,xs++ys,rfl,hp,ah,s.free hp,h2.append h4⟩ (bf.gS s hp)
 | @tup ds es _ h =>
  rw [ay] at rx ry
  obtain ⟨a,xs,rfl,h1,h2⟩:=rx
  obtain ⟨b,ys,rfl,h3,h4⟩:=ry
  refine .inl (.inr ⟨a,b,xs,ys,rfl,rfl,ak s h1,ak s h3,by rw [<- h2.length,<- h4.length]; exact h.s,λe=>?_,λe=>?_,λp hp=>?_⟩)
  ·subst e
   have:=f7 h2
   subst this
   exact q (.va (.tup ([]++es))) _ H Hf h.r (show Rep K Hf (.tup ([]++es)) _ from ay.mpr ⟨b,ys,rfl,h3,h4⟩) (.refl s)
  ·subst e
   have:=f7 h4
   subst this
   exact q (.va (.tup (ds++[]))) _ H Hf h.r (show Rep K Hf (.tup (ds++[])) _ from ay.mpr ⟨a,xs,rfl,h1,by rw [GV]; exact h2⟩) (.refl s)
  ·have g:=bf.new s hp (o:=.tup (xs++ys))
   exact q (.va (.tup (ds++es))) _ _ _ h.r (show Rep K _ (.tup (ds++es)) _ from ay.mpr ⟨p,xs++ys,rfl,.inl (.inl ah),(h2.append h4).mono g.f⟩) g
 | @str x y _ h =>
  rw [cU] at rx ry
  exact .inr ⟨x,y,rx,ry,h.s,q (.va (.str (x++y))) _ H Hf h.r (show Rep K Hf (.str (x++y)) _ from cU.mpr rfl) (.refl s)⟩
theorem yM {R:Sl->Prop} (h:aA c a ρ λx=>aA c b ρ λy=>i0 x y R):cR c (.BinOp a .Add b pos) ρ R :=
 jR (c7.or (c7.or (c7.or zK wU) tD) mO) wV h
noncomputable def cutD {α:Type} (xs:List α) (lo hi:Option Int):List α:=(xs.drop (HT.bu xs.length 0 lo)).take (HT.bu xs.length xs.length hi - HT.bu xs.length 0 lo)
theorem kX (h:aj K H ds xs) (lo hi):aj K H (cutD ds lo hi) (jK xs lo hi):=by
 unfold cutD jK
 rw [h.length]
 exact (h.drop _).take _
noncomputable def bP (X:Cx) (e:Option Expr):TO:=λO H Q=>∀ aa s,Inv X aa O H s->wpAny (model X.prog X.w) X.A (evalPart e X.env) (λu s'=>∃ o H',Inv X aa O H' s'/\IsPart u o/\Q o H') X.xe s
theorem EX {X:Cx} {e:Option Expr}:PO X e (bP X e):=λaa s O H Q I h=>h aa s I
def Ax (c:Ctx P w K mg base k N sc bk) (e:Option Expr) (ρ:List Sl) (R:Option Int->Prop):Prop :=
 ∀ (O:L2.St) (H Hf:Hp) (Q:Option Int->Hp->Prop),aL c O H Hf ρ->(∀ o H' ai,R o->bf H Hf H' ai->Q o H')->bP c.X e O H Q
theorem Ay {R:Option Int->Prop} (h:R none):Ax c none ρ R:=λO H Hf Q S q aa s I=>v8 aa s O H Q I (q none H Hf h (.refl S.sb))
theorem Az {R:Option Int->Prop} (h:aA c e ρ (I1 λi=>R (some i))):Ax c (some e) ρ R:=λO H Hf Q S q aa s I =>
 v9 cF aa s O H Q I (h O H Hf _ S λd v H' ai ⟨i,e,hR⟩ r g=>by subst e; rw [az] at r; exact ⟨i,r,q _ H' ai hR g⟩)
noncomputable def C6 (K:Fi):V->Option Int->Option Int->Hp->VK->Prop:=λx lo hi H Q=>∃ a xs,x=.ref a/\bO K H a xs /\
 (HT.bu xs.length 0 lo=0/\HT.bu xs.length xs.length hi=xs.length)/\Q (.ref a) H
theorem dD {lo hi:Option Int} (ht:IsTup s.heap t items) (hs:s.heap.IsSliceOf sl vl vu .none) (pl:IsPart vl lo) (pu:IsPart vu hi)
 (hw:HT.bu items.size 0 lo=0/\HT.bu items.size items.size hi=items.size) (h:Q (.ref t) s):wpAny (model prog w) A (getItem (.ref t) (.ref sl)) Q E s:=by
 obtain ⟨os,hos,hcs,hds⟩:=id hs
 have hTs:s.TypeIs (.ref sl) "slice":=⟨os,hos,hcs⟩
 unfold getItem
 try with_reducible refine GK ?_
 first | refine Ff (Fl ?_) | skip
 refine Ff (J3 ht.typeIs (by decide) ?_)
 refine Ff (HP (name:=Fg "__getitem__") ht.typeIs HJ
  (G5 HJ ht.typeIs entry_tuple_getitem ?_ (args_tuple_getitem _ _)))
 show wpAny _ _ (Builtin.Tuple.tupleItemsOf (.ref t) >>= _) _ _ s
 refine Ff (tupleItemsOf_ ht ?_)
 refine Ff (Jv hTs ?_)
 rw [if_pos (by decide)]
 refine Ff (HT.cI hs pl pu ?_)
 have hyes:((((HT.bu items.size 0 lo:Nat):Int) == 0 && (1:Int) == 1 && (HT.bu items.size items.size hi - HT.bu items.size 0 lo) == items.size)=true):=by
  rw [hw.1,hw.2]; simp
 show wpAny _ _ (if (((HT.bu items.size 0 lo:Nat):Int) == 0 && (1:Int) == 1 && (HT.bu items.size items.size hi - HT.bu items.size 0 lo) == items.size)=true then _ else _) _ _ s
 rw [if_pos hyes]
 obtain ⟨⟨cls,dd,data,sl'⟩,ho,hc,n,hd⟩:=id ht
 simp only at hc hd
 subst hc hd
 unfold Builtin.Tuple.tupleIsExact
 wp_walk using Ja ho
 exact ⟨_,rfl,Fl h⟩
theorem tE:vN X (C6 X.K):=by
 intro aa s O H x v vl vu lo hi sl Q I rx hs pl pu h
 obtain ⟨a,xs,rfl,hx,hw,q⟩:=h
 cases rx
 obtain ⟨its,r,ht,hz⟩:=I.tuple hx
 have hlen:its.toArray.size=xs.length:=by rw [FG]; exact r.length.symm
 refine ⟨"tuple",_,HJ.lookup,ht.typeIs,?_⟩
 exact dD ht hs pl pu (by rw [hlen]; exact hw) ⟨.ref a,H,I,rfl,q⟩
inductive AA:D->Option Int->Option Int->(Sl->Prop)->Prop where
 | lst {ds:List D} {lo hi:Option Int} {R:Sl->Prop} (h:R (.ow (cutD ds lo hi))):AA (.lst ds) lo hi R
 | tup {ds:List D} {lo hi:Option Int} {R:Sl->Prop} (h:R (.va (.tup (cutD ds lo hi)))):AA (.tup ds) lo hi R
theorem qt {lo hi:Option Int} (h:HT.bu xs.length 0 lo=0/\HT.bu xs.length xs.length hi=xs.length):cutD xs lo hi=xs:=by
 unfold cutD; rw [h.1,h.2]; simp
theorem oq {lo hi:Option Expr} {R:Sl->Prop} (h:aA c e ρ λx=>Ax c lo ρ λl=>Ax c hi ρ λu=>AA x l u R):cR c (.Subscript e (.Slice lo hi none p2) pos) ρ R:=λO H Hf Q S q =>
 bw (r8 (vN.or (vN.or wg zW) tE) cF EX EX) (h O H Hf _ S λx v H1 aM h1 r1 g1=>h1 O H1 aM _ (S.bY g1) λl H2 bN h2 g2=>h2 O H2 bN _ (S.bY (g1.trans g2)) λu H3 Hf3 h3 g3=>by
  have r3:=Rep.mono g3.f x (Rep.mono g2.f x r1)
  have g:=(g1.trans g2).trans g3
  cases h3 with
  | lst h =>
   rw [aP] at r3
   obtain ⟨a,xs,rfl,k1,k2⟩:=r3
   refine .inl (.inl ⟨a,xs,rfl,g3.b.seq k1,λp hp=>?_⟩)
   exact q _ _ _ _ h ⟨p,_,rfl,g.s.free hp,ah,g3.b.free hp,kX k2 l u⟩ (g.trans (bf.gS g3.b hp))
  | tup h =>
   rw [ay] at r3
   obtain ⟨a,xs,rfl,k1,k2⟩:=r3
   by_cases hw:HT.bu xs.length 0 l=0/\HT.bu xs.length xs.length u=xs.length
   ·refine .inr ⟨a,xs,rfl,ak g3.b k1,hw,?_⟩
    refine q _ _ _ _ h (show Rep c.X.K Hf3 _ _ from ay.mpr ⟨a,xs,rfl,k1,?_⟩) g
    rw [qt (by rw [k2.length]; exact hw)]; exact k2
   ·refine .inl (.inr ⟨a,xs,rfl,ak g3.b k1,hw,λp hp=>?_⟩)
    have g4:=bf.new g3.b hp (o:=.tup (jK xs l u))
    exact q _ _ _ _ h (show Rep c.X.K _ _ _ from ay.mpr ⟨p,_,rfl,.inl (.inl ah),(kX k2 l u).mono g4.f⟩) (g.trans g4))
theorem tF (a:bf H₀ cS H1 aM) (b:bf H₀ aM H Hf):bf H₀ cS H Hf :=
 ⟨b.s,a.f.trans b.f,b.b,λc h1 h2 h3=>b.n c (a.n c h1 h2 h3) h2 h3⟩
theorem cJ.re (a:bf H₀ cS H1 aM) (S:cJ K H₀ aM O H Hf ρ):cJ K H₀ cS O H Hf ρ:=⟨tF a S.bas,S.len,S.at_,S.sep⟩
theorem cJ.anew (S:cJ K H₀ cS O H Hf ρ):cJ K H₀ Hf O H Hf ρ:=⟨⟨S.bas.s,.refl _,S.bas.b,λ_ h _ _=>h⟩,S.len,S.at_,S.sep⟩
noncomputable def Ctx.at_ (c:Ctx P w K mg base k N sc bk) {H1 aM:Hp} (a:bf c.B c.Hf H1 aM):Ctx P w K mg base k N sc bk :=
 { X:=c.X,eP:=c.eP,ew:=c.ew,eK:=c.eK,emg:=c.emg,eb:=c.eb,eN:=c.eN,esc:=c.esc,calm:=c.calm,top:=c.top,cb:=c.cb,fn:=c.fn,room:=c.room,nd:=c.nd,vis:=c.vis,B:=c.B,Hf:=aM,RX:=c.RX,RM:=c.RM,
   exc:=λC x aa O H ai ρ s H' s' I S h X sm=>c.exc C x aa O H ai ρ s H' s' I (S.re a) h X sm,mde:=λC x aa O H ai ρ s h' us I S h hx=>c.mde C x aa O H ai ρ s h' us I (S.re a) h hx }
theorem sG.at_ {nx:List Sl->Prop} {p:Pt} {D:Ends} {H1 aM:Hp} (a:bf c.B c.Hf H1 aM) (o:sG c nx p D):sG (c.at_ a) nx p D :=
 ⟨λO H Hf ρ S q=>o.nx O H Hf ρ (cJ.re a S) q,λr v H Hf g rv q=>o.rt r v H Hf (tF a g) rv q,λO H Hf ρ S q=>o.bk O H Hf ρ (cJ.re a S) q,λO H Hf ρ S q=>o.ct O H Hf ρ (cJ.re a S) q⟩
noncomputable def bI (X:Cx) (tg iter:Expr):TI:=λO H R=>∀ aa s,Inv X aa O H s->wpAny (model X.prog X.w) X.A (eval iter X.env) (λv s1=>wpAny (model X.prog X.w) X.A (pyIter v) (DZ X aa O tg R) X.xe s1) X.xe s
theorem Fc {X:Cx} {tg iter:Expr}:PI X tg iter (bI X tg iter):=λaa s O H R I h=>h aa s I
structure mW (K:Fi) (J:It) (ds:List D) (cS:Hp):Prop where
 go:∀ i d H Hf,aD cS Hf->aD Hf H->ds[i]?=some d->J.go i H/\∀ x H',J.yld i H x H'->∃ ai,bf H Hf H' ai/\Rep K ai d x
 stop:∀ i H Hf,aD cS Hf->aD Hf H->ds.length<=i->J.stop i H
def wX (c:Ctx P w K mg base k N sc bk) (tg iter:Expr) (ρ:List Sl) (R:List D->Prop):Prop :=
 ∀ (O:L2.St) (H Hf:Hp) (Q:It->Hp->Prop),aL c O H Hf ρ->(∀ ds J H' ai,R ds->bf H Hf H' ai->mW c.X.K J ds ai->Q J H')->bI c.X tg iter O H Q
theorem qu {K:Fi} {ds:List D} {xs:List V} {p:Addr} {cS:Hp} (h:dJ K cS p xs) (r:aj K cS ds xs):mW K (D0 K p) ds cS where
 go:=λi d H Hf s1 s2 e=>by
  obtain ⟨x,ex,rx⟩:=r.get e
  refine ⟨⟨xs,x,(s1.trans s2).seq h,ex⟩,λy H' ⟨e1,e2⟩=>?_⟩
  subst e1
  have:=e2 xs ((s1.trans s2).seq h)
  rw [ex] at this; cases this
  exact ⟨Hf,.refl s2,Rep.mono s1 d rx⟩
 stop:=λi H Hf s1 s2 e=>⟨xs,(s1.trans s2).seq h,by rw [<- r.length]; exact e⟩
theorem tG {K:Fi} {ds:List D} {xs:List V} {p:Addr} {cS:Hp} (h:bO K cS p xs) (r:aj K cS ds xs):mW K (D3 K p) ds cS where
 go:=λi d H Hf s1 s2 e=>by
  obtain ⟨x,ex,rx⟩:=r.get e
  refine ⟨⟨xs,x,ak (s1.trans s2) h,ex⟩,λy H' ⟨e1,e2⟩=>?_⟩
  subst e1
  have:=e2 xs (ak (s1.trans s2) h)
  rw [ex] at this; cases this
  exact ⟨Hf,.refl s2,Rep.mono s1 d rx⟩
 stop:=λi H Hf s1 s2 e=>⟨xs,ak (s1.trans s2) h,by rw [<- r.length]; exact e⟩
noncomputable def Ez (K:Fi) (tl:TE):TI:=λO H R=>tl O H λx H1=>∃ a,x=.ref a/\(((∃ xs,dJ K H1 a xs)/\R (D0 K a) H1)\/((∃ xs,bO K H1 a xs)/\R (D3 K a) H1))
theorem AB (hl:PE X l tl):PI X tg l (Ez X.K tl):=by
 intro aa s O H R I h
 refine aZ (hl aa s O H _ I h) λv s1 ⟨x,H1,I1,r1,q1⟩=>?_
 obtain ⟨a,e,h⟩:=q1
 subst e
 cases r1
 rcases h with ⟨⟨xs,hq⟩,q⟩ | ⟨⟨xs,hq⟩,q⟩
 ·obtain ⟨its,rv,p,hz⟩:=I1.list hq
  refine wpAny_pyIter_list p.isList ?_
  refine ⟨s1.heap.objs.size,[s1.heap.objs.size],_,_,H1,rfl,I1.kept (t':=s1.toks) λb o e=>Fz _ e,p9 a _,⟨_,FT _ rfl,rfl,rfl⟩,λb hb=>?_,q⟩
  have e:b=s1.heap.objs.size:=by simpa using hb
  subst e
  exact I1.p8 (Fq _) (I1.hok.fresh (Fq _))
 ·obtain ⟨its,rv,p,hz⟩:=I1.tuple hq
  refine JY (show s1.heap.IsTuple a its.toArray from p) ?_
  refine ⟨s1.heap.objs.size,[s1.heap.objs.size],_,_,H1,rfl,I1.kept (t':=s1.toks) λb o e=>Fz _ e,mF a _,⟨_,FT _ rfl,rfl,rfl⟩,λb hb=>?_,q⟩
  have e:b=s1.heap.objs.size:=by simpa using hb
  subst e
  exact I1.p8 (Fq _) (I1.hok.fresh (Fq _))
theorem gX {R:List D->Prop} (h:aA c e ρ λd=>∃ ds,d.row=some ds/\R ds):wX c tg e ρ R:=λO H Hf Q S q aa s I =>
 AB cF aa s O H Q I (h O H Hf _ S λd v H' ai ⟨ds,er,hR⟩ r g=>by
  obtain ⟨p,xs,rfl,hr,hk⟩:=eF er r
  refine ⟨p,rfl,?_⟩
  rcases hk with ⟨_,hk⟩ | ⟨_,hk⟩
  ·exact .inl ⟨⟨xs,g.b.seq hk⟩,q ds _ H' ai hR g (qu hk hr)⟩
  ·exact .inr ⟨⟨xs,ak g.b hk⟩,q ds _ H' ai hR g (tG hk hr)⟩)
noncomputable def i6 (lo:Int) (n:Nat):List D:=(Gf n).map λ(i:Nat)=>D.int (lo+(i:Int))
theorem tH {K:Fi} {lo:Int} {n:Nat} {cS:Hp}:mW K (DH lo n) (i6 lo n) cS where
 go:=λi d H Hf s1 s2 e=>by
  unfold i6 at e
  rw [FN] at e
  obtain ⟨j,e1,e2⟩:=F5.mp e
  have hi:i<n:=by
   have:=(FA.mp e1).1
   simpa using this
  have:j=i:=by
   rw [List.getElem?_range hi] at e1; cases e1; rfl
  subst this
  refine ⟨hi,λx H' ⟨e3,e4⟩=>?_⟩
  subst e3 e4 e2
  exact ⟨Hf,.refl s2,az.mpr rfl⟩
 stop:=λi H Hf s1 s2 e=>by
  show n<=i
  simpa [i6] using e
def C7 (i:Int):Prop:= -(2 ^ 62)<=i/\i<2 ^ 62
theorem cy {R:List D->Prop} (hm:mg "range"=none) (h:aA c e ρ (I1 λj=>Sd (C7 j) (R (i6 0 j.toNat)))) (hg:sc.names.lookup (Fg "range")=some .globalImplicit:=by walk_at "u")
 (hs:∀ env,starEach [e] env=(false,eval e env)::starEach [] env:=by intro _; walk_at "u"):wX c tg (.Call (.Name "range" p) [e] [] pos) ρ R:=λO H Hf Q S q aa s I =>
 qa (by unfold Gl Gm; rw [c.esc]; exact hg) (by rw [c.emg]; exact hm) (cT cF fF (hs _)) (hs _) aa s O H Q I (h O H Hf _ S λd v H' ai ⟨j,ed,⟨hj,hR⟩⟩ r g=>by
  subst ed; rw [az] at r; subst r
  exact ⟨j,rfl,hj.1,hj.2,q _ _ H' ai hR g tH⟩)
theorem cK {tg iter:Expr} {body:List Stmt} {nx:List Sl->Prop} {p:Pt} (hq:c.X.xe=λ_ _=>False)
 (h:wX c tg iter ρ λds=>∃ I:Nat->List Sl->Prop,I 0 ρ /\
   (∀ c':Ctx P w K mg base k N sc bk,c'.X=c.X->c'.RX=c.RX->c'.RM=c.RM->∀ i d ρ',ds[i]?=some d->I i ρ'->mV c' tg d ρ' λρ''=>aQ c' body ρ'' (I (i+1)) { rt:=p.rt,bk:=nx,ct:=I (i+1) })/\∀ ρ',I ds.length ρ'->nx ρ')
 (hs:∀ env x,foldedSetIterable iter env x=pure x:=by intro _ _; walk_at "u"):d7 c (.For tg iter body [] pos) ρ nx p:=λO H Hf D S o =>
 cY (zG (by rw [hq]; exact PassesOwn.never) c.calm Fc ET qk (hs _)) (h O H Hf _ S λds J H1 aM ⟨I,h0,hb,he⟩ g io=>by
  have S1:=S.bY g
  have gb:bf c.B c.Hf H1 aM:=S1.bas
  refine ⟨λi m O H=>m=ds.length - i/\i<=ds.length/\∃ Hf ρ',aL (c.at_ gb) O H Hf ρ'/\I i ρ',⟨_,rfl,Gw _,aM,ρ,S1.anew,h0⟩,?_⟩
  rintro i m O H ⟨rfl,hi,Hf,ρ',S',hI⟩
  by_cases hlt:i<ds.length
  ·have ed:ds[i]?=some ds[i]:=F7 hlt
   obtain ⟨hgo,hy⟩:=io.go i _ H Hf S'.bas.f S'.bas.b ed
   refine .inr ⟨hgo,λO' H'=>∃ ai ρ'',aL (c.at_ gb) O' H' ai ρ''/\I (i+1) ρ'',λO' H' ⟨ai,ρ'',S'',hI'⟩=>⟨_,by omega,rfl,hlt,ai,ρ'',S'',hI'⟩,λx H' hx=>?_⟩
   obtain ⟨ai,g',rx⟩:=hy x H' hx
   refine hb (c.at_ gb) rfl rfl rfl i _ ρ' ed hI O H' ai x _ (S'.bY g') rx λO2 H2 bN ρ2 S2 _ hbody=>?_
   exact hbody O2 H2 bN _ S2 ⟨λO H Hf ρ S q=>⟨Hf,ρ,S,q⟩,(o.at_ gb).rt,λO H Hf ρ S q=>(o.at_ gb).nx O H Hf ρ S q,λO H Hf ρ S q=>⟨Hf,ρ,S,q⟩⟩
  ·have e:i=ds.length:=by omega
   subst e
   exact .inl ⟨io.stop _ H Hf S'.bas.f S'.bas.b (Fq _),(o.at_ gb).nx O H Hf ρ' S' (he ρ' hI)⟩)
theorem gY (h:R d):yD R (.va d):=⟨d,rfl,h⟩
theorem tK (h:R (.lst ds)):yD R (.ow ds):=⟨.lst ds,rfl,h⟩
theorem AD (h:aA c a ρ λx=>aA c b ρ λy=>i0 x y (yD R)):aA c (.BinOp a .Add b pos) ρ R:=e_x (yM h)
theorem mU.imp {R R':List D->Prop} (h:mU c es ρ R) (hi:∀ d,R d->R' d):mU c es ρ R':=λO H Hf Q S q=>h O H Hf Q S λd v H' ai rd=>q d v H' ai (hi d rd)
theorem AE (h:mU c es ρ λds=>Sd (ds.length<=sizeLine) (R (.lst ds))):aA c (.List es pos) ρ R:=e_x (yG (h.imp λds hd=>⟨hd.s,tK hd.r⟩))
theorem kY {lo hi:Option Expr} (h:aA c e ρ λx=>Ax c lo ρ λl=>Ax c hi ρ λu=>AA x l u (yD R)):aA c (.Subscript e (.Slice lo hi none p2) pos) ρ R:=e_x (oq h)
theorem tL {R:Sl->Prop} (h:R (.va (.int (i+j)))):i0 (.int i) (.int j) R:=.int h
theorem tM {ds es:List D} {R:Sl->Prop} (h:Sd (ds.length+es.length<=sizeLine) (R (.ow (ds++es)))):i0 (.lst ds) (.lst es) R:=.lst h
theorem AF {b:Bool} (ty:qo K d t) (e:GC K t cv=some b) (h:R (.bl b)):∃ t b,qo K d t/\GC K t cv=some b/\R (.bl b):=⟨t,b,ty,e,h⟩
theorem kZ (h:aA c a ρ λx=>aA c b ρ λy=>BQ x y R) (hs:gq b:=by with_unfolding_all exact λ_ _=>rfl):aA c (.Subscript a b pos) ρ R:=C3 h hs
theorem EA {x:D} {Q:List D->Prop} (e:x.row=some ds) (h:Q ds):∃ ys,x.row=some ys/\Q ys:=⟨ds,e,h⟩
theorem bg {F:Fn} {R:Sl->Prop} (h:F ds (.ok sl)) (r:R sl):∃ r,F ds r/\CY c ρ R r:=⟨_,h,r⟩
end
noncomputable def del (H:Hp) (p:Addr):Hp:=λb=>if b=p then none else H b
theorem gZ:del H p p=none:=if_pos rfl
theorem bB (h:b≠p):del H p b=H b:=if_neg h
theorem tN (h:H₀ p=none) (s:aD H₀ H):aD H₀ (del H p):=λb o e=>by
 rw [bB (aq e h)]; exact s b o e
theorem g6 (h:del H p b=some o):b≠p/\H b=some o:=by
 by_cases e:b=p
 ·subst e; rw [gZ] at h; cases h
 ·rw [bB e] at h; exact ⟨e,h⟩
theorem eG (sb:aD Hf H) (hp:Hf p=none):bf (del H p) Hf (upd H p o) Hf :=
 ⟨λb u e=>by obtain ⟨h1,h2⟩:=g6 e; rw [af h1]; exact h2,.refl _,λb u e=>by rw [af (aq e hp)]; exact sb b u e,λ_ h _ _=>h⟩
section
variable {K:Fi}
theorem aJ.yN (ho:r.owned=true) (h:aJ K fr H Hf r v):∃ p o,v=.ref p/\fr p/\H p=some o/\Hf p=none/\¬ sD H p:=by
 have nf:∀ {p:Addr} {u:HO},H p=some u->(∀ φ,u≠.ext φ)->¬ sD H p:=λe k ⟨z,e2⟩=>by rw [e] at e2; exact k _ (GJ e2)
 cases r with
 | un=>cases ho
 | va d=>cases ho
 | fo s=>cases ho
 | ow ds=>obtain ⟨p,xs,rfl,f,h1,h2,_⟩:=h; exact ⟨p,_,rfl,f,h1,h2,nf h1 (by intro _ z; cases z)⟩
 | oT ds=>obtain ⟨p,xs,rfl,f,h1,h2,_⟩:=h; exact ⟨p,_,rfl,f,h1,h2,nf h1 (by intro _ z; cases z)⟩
 | oK ds=>obtain ⟨p,xs,rfl,f,h1,h2,_⟩:=h; exact ⟨p,_,rfl,f,h1,h2,nf h1 (by intro _ z; cases z)⟩
 | aw a ds=>obtain ⟨p,xs,rfl,f,h1,h2,_⟩:=h; exact ⟨p,_,rfl,f.1,h1,h2,nf h1 (by intro _ z; cases z)⟩
 | aT a ds=>obtain ⟨p,xs,rfl,f,h1,h2,_⟩:=h; exact ⟨p,_,rfl,f.1,h1,h2,nf h1 (by intro _ z; cases z)⟩
 | aK a ds=>obtain ⟨p,xs,rfl,f,h1,h2,_⟩:=h; exact ⟨p,_,rfl,f.1,h1,h2,nf h1 (by intro _ z; cases z)⟩
theorem aJ.ou (ho:r.owned=true) (h:aJ K fr H Hf r v):∃ p o,v=.ref p/\fr p/\H p=some o/\Hf p=none :=
 let ⟨p,o,a,b,c,d,_⟩:=h.yN ho; ⟨p,o,a,b,c,d⟩
theorem aJ.Dc (nf:¬ sD H p) (hv:r.owned=true->v≠.ref p) (h:aJ K fr H Hf r v):aJ K fr (del H p) Hf r v :=
 aJ.mv (B:=λq=>q=p) (.refl _) (λq o hq e1 _ e3=>⟨by rw [bB hq]; exact e1,e3⟩) (λ_ q e=>by subst e; exact nf) (λho q z e=>by subst e; exact hv ho z) h
theorem cJ.own (S:cJ K H₀ cS O H Hf ρ) {i:Nat} (hi:ρ[i]?=some r) (ho:r.owned=true):∃ p,O[i]?=some (some (.ref p))/\aJ K (λp=>H₀ p=none) H Hf r (.ref p):=by
 obtain ⟨v,e,q⟩:=S.at_ i r hi (by rintro rfl; cases ho)
 obtain ⟨p,o,rfl,_⟩:=q.ou ho
 exact ⟨p,e,q⟩
theorem cJ.upd (S:cJ K H₀ cS O H Hf ρ) (hi:ρ[i]?=some r) (ho:r.owned=true) (hp:O[i]?=some (some (.ref p))) (g:bf (del H p) Hf H1 aM)
 (hr:aJ K (λq=>q=p) H1 aM r' (.ref p)) (ho':r'.owned=true):cJ K H₀ cS O H1 aM (ρ.set i r'):=by
 obtain ⟨p',ep,q⟩:=S.own hi ho
 rw [hp] at ep; cases ep
 obtain ⟨_,o,e,fp,hHp,hfp,nfz⟩:=q.yN ho
 cases e
 have hlt:i<ρ.length:=(FA.mp hi).1
 refine ⟨⟨(tN fp S.bas.s).trans g.s,S.bas.f.trans g.f,g.b,λb h1 h2 h3=>?_⟩,by simp [S.len],λj r1 hj hu=>?_,λj j' r1 r2 q' hne h1 h2 o1 o2=>?_⟩
 ·have hb:b≠p:=λz=>by subst z; exact h2 fp
  cases z:H₀ b with
  | none=>exact absurd z h2
  | some o1 =>
   have e1:=S.bas.s b o1 z
   refine g.n b (S.bas.n b h1 h2 h3) (by rw [bB hb,e1]; simp) λxs=>?_
   rw [bB hb,e1,<- z]; exact h3 xs
 ·by_cases e:j=i
  ·subst e
   rw [Gq hlt] at hj; cases hj
   exact ⟨_,hp,hr.weak λq' z=>by subst z; exact fp⟩
  ·rw [Gs (FI e)] at hj
   obtain ⟨v,e1,e2⟩:=S.at_ j r1 hj hu
   exact ⟨v,e1,(e2.Dc (p:=p) nfz λow z=>by subst z; exact S.sep i j _ _ p (FI e) hi hj ho ow hp e1).bY g⟩
 ·have out:∀ {j:Nat} {r1:Sl},(ρ.set i r')[j]?=some r1->r1.owned=true->∃ r2,ρ[j]?=some r2/\r2.owned=true:=λ{j r1} hj how=>by
   by_cases e:j=i
   ·subst e; exact ⟨r,hi,ho⟩
   ·rw [Gs (FI e)] at hj; exact ⟨r1,hj,how⟩
  obtain ⟨r3,a1,a2⟩:=out h1 o1
  obtain ⟨r4,b1,b2⟩:=out h2 o2
  exact S.sep j j' r3 r4 q' hne a1 b1 a2 b2
end
section
variable {K:Fi} {c:Ctx P w K mg base k N sc bk}
theorem Ctx.qv (c:Ctx P w K mg base k N sc bk) (hN:At N i x) (hd:(x == ("__debug__":Str))=false) (hcd:(x == ("__classdict__":Str))=false):PE c.X (.Name x px) (BY i) :=
 mE (X:=c.X) (i:=i) (by rw [c.eN]; exact hN.get) (by rw [c.esc]; rcases c.vis x hN.mem with h | h; exact .inl h; exact .inr (.inl h)) hd hcd
noncomputable def Sl.getL:Sl->Option (List D) | .ow ds=>some ds | .aw _ ds=>some ds | _=>none
noncomputable def Sl.putL:Sl->List D->Sl | .ow _,es=>.ow es | .aw a _,es=>.aw a es | s,_=>s
theorem bM {r:Sl} (h:r.getL=some ds):r.owned=true:=by cases r <;> first | rfl | cases h
theorem dN {r:Sl} {ds es:List D} (h:r.getL=some ds):(r.putL es).owned=true:=by cases r <;> first | rfl | cases h
theorem AG {p:Addr} (h:r.getL=some ds) (q:aJ K fr H Hf r (.ref p)):∃ xs,H p=some (.lst xs)/\Hf p=none/\aj K Hf ds xs:=by
 cases r with
 | ow es=>cases h; obtain ⟨_,xs,e,_,h1,h2,h3⟩:=q; cases e; exact ⟨xs,h1,h2,h3⟩
 | aw a es=>cases h; obtain ⟨_,xs,e,_,h1,h2,h3⟩:=q; cases e; exact ⟨xs,h1,h2,h3⟩
 | _=>cases h
theorem ic {ds es:List D} {p:Addr} (h:r.getL=some ds) (q:aJ K fr H Hf r (.ref p)) (h1:H1 p=some (.lst ys)) (h2:aM p=none) (h3:aj K aM es ys) :
 aJ K (λq=>q=p) H1 aM (r.putL es) (.ref p):=by
 cases r with
 | ow _=>exact ⟨p,ys,rfl,rfl,h1,h2,h3⟩
 | aw a _=>obtain ⟨_,xs,e,f,_⟩:=q; cases e; exact ⟨p,ys,rfl,⟨rfl,f.2⟩,h1,h2,h3⟩
 | _=>cases h
theorem tO (hN:At N i x) (hi:At ρ i r) (hr:r.getL=some ds) (h:aA c e ρ λd=>Sd (ds.length<sizeLine) (Nx ρ i nx (r.putL (ds++[d]))))
 (hs:∀ env,swapsWith (.Call (.Attribute (.Name x px) "append" ap) [e] [] cp) none pos.line env=pure false:=by intro _; walk_at "u") (hd:(x == ("__debug__":Str))=false:=by decide) (hcd:(x == ("__classdict__":Str))=false:=by decide)
 (hbase:∀ env,attributeBase (.Name x px) "append" env (eval (.Name x px) env)=eval (.Name x px) env:=by intro _; walk_at "u")
 (hfew:∀ env,((backTo cp (starEach [e] env)).all (λx=> !x.1) && (backToKw cp (keywordEach [] env)).all (λx=>x.1.isSome)
   && decide (([e]:List Expr).length+([]:List Keyword).length+(if ([]:List Keyword).isEmpty then 0 else 1)<30))=true:=by intro _; walk_at "u")
 (hline:(ap.endLine == cp.line)=true:=by walk_at "u") (he:∀ env,starEach [e] env=(false,eval e env)::starEach [] env:=by intro _; walk_at "u") (hpl:∀ env,(backTo cp (starEach [] env)).any (·.1)=false:=by intro _; walk_at "u") :
 d7 c (.Expr (.Call (.Attribute (.Name x px) "append" ap) [e] [] cp) pos) ρ nx p:=λO H Hf D S o=>by
 obtain ⟨q,eq,rq⟩:=S.own hi.get (bM hr)
 obtain ⟨xs,h1,h2,h3⟩:=AG hr rq
 refine cY (nO (Cr PySem.F.plainAttrs_list PySem.F.slot_list_append PySem.F.type_list_append jf (c.qv hN hd hcd) (cT cF fF (he _)) (hbase _) (hfew _) hline (he _) (hpl _)) (hs _)) ⟨_,eq,.inl ⟨rfl,xs,.inl (.inl h1)⟩,?_⟩
 refine h O H Hf _ S λd v H' ai ⟨hz,ρ',hs',hn⟩ rd g=>?_
 have S':=S.bY g
 have e1:H' q=some (.lst xs):=g.s _ _ h1
 have e2:ai q=none:=g.n q h2 (by rw [h1]; simp) (by intro ys; rw [h1]; simp)
 refine ⟨q,xs,v,rfl,rfl,e1,by rw [<- h3.length]; exact hz,?_⟩
 refine o.nx _ _ ai ρ' ?_ hn
 rw [hs'.eq]
 have rq':=rq.bY g
 exact S'.upd hi.get (bM hr) eq (eG g.b e2) (ic hr rq' ah e2 ((h3.mono g.f).append (.one rd))) (dN hr)
end
section
variable {κ β:Type} [DecidableEq κ]
noncomputable def aS (kvs:List (κ×β)) (k:κ):Option β:=(kvs.find? λkv=>decide (kv.1=k)).map (·.2)
noncomputable def putD (kvs:List (κ×β)) (k:κ) (v:β):List (κ×β) :=
 if (aS kvs k).isSome=true then kvs.map (λkv=>if kv.1=k then (kv.1,v) else kv) else kvs++[(k,v)]
theorem cL {q:κ×β} {r:List (κ×β)} {k:κ} (e:q.1=k):aS (q::r) k=some q.2:=by simp [aS,Gu,e]
theorem cM {q:κ×β} {r:List (κ×β)} {k:κ} (e:¬ q.1=k):aS (q::r) k=aS r k:=by simp [aS,Gu,e]
end
noncomputable def D.qw:D->Option Key | .int i=>some (.inl i) | .str x=>some (.inr x) | _=>none
noncomputable def D.keys:List D->Option (List Key)
 | []=>some []
 | d::r=>match d.qw,D.keys r with | some k,some ks=>some (k::ks) | _,_=>none
theorem eO {K:Fi} (h:d.qw=some k) (r:Rep K H d v):v=kV k:=by
 cases d with
 | int i=>cases h; exact az.mp r
 | str x=>cases h; exact cU.mp r
 | _=>cases h
theorem fL {K:Fi}:∀ {ds:List D} {ks:List Key} {xs:List V},D.keys ds=some ks->aj K H ds xs->xs=ks.map kV
 | [],ks,xs,h,r=>by cases h; rw [au.mp r]; rfl
 | d::ds,ks,xs,h,r=>by
  obtain ⟨x,t,rfl,r1,r2⟩:=av.mp r
  unfold D.keys at h
  cases e1:d.qw with
  | none=>rw [e1] at h; cases h
  | some k =>
   cases e2:D.keys ds with
   | none=>rw [e1,e2] at h; cases h
   | some ks' =>
    rw [e1,e2] at h; cases h
    rw [eO e1 r1,fL e2 r2]; rfl
noncomputable def Sl.yO:Sl->Bool | .oK _=>true | .aK _ _=>true | .oT _=>true | .aT _ _=>true | _=>false
theorem k7 {r:Sl} (h:r.yO=true):r.owned=true:=by cases r <;> first | rfl | cases h
noncomputable def Sl.tP:Sl->Option (List (Key×D)) | .oK kvs=>some kvs | .aK _ kvs=>some kvs | _=>none
noncomputable def Sl.tQ:Sl->List (Key×D)->Sl | .oK _,es=>.oK es | .aK a _,es=>.aK a es | s,_=>s
noncomputable def Sl.qx:Sl->Option (List (List Key×D)) | .oT kvs=>some kvs | .aT _ kvs=>some kvs | _=>none
noncomputable def Sl.tR:Sl->List (List Key×D)->Sl | .oT _,es=>.oT es | .aT a _,es=>.aT a es | s,_=>s
theorem mX {r:Sl} (h:r.tP=some kvs):(r.tQ es).owned=true:=by cases r <;> first | rfl | cases h
theorem mY {r:Sl} (h:r.qx=some kvs):(r.tR es).owned=true:=by cases r <;> first | rfl | cases h
section
variable {K:Fi} {fr:Addr->Prop} {H Hf H1 aM:Hp} {r:Sl} {p:Addr}
theorem wY (h:r.tP=some kvs) (q:aJ K fr H Hf r (.ref p)):∃ xs,H p=some (.dK xs)/\Hf p=none/\jQ K Hf kvs xs:=by
 cases r with
 | oK es=>cases h; obtain ⟨_,xs,e,_,h1,h2,h3⟩:=q; cases e; exact ⟨xs,h1,h2,h3⟩
 | aK a es=>cases h; obtain ⟨_,xs,e,_,h1,h2,h3⟩:=q; cases e; exact ⟨xs,h1,h2,h3⟩
 | _=>cases h
theorem wZ (h:r.qx=some kvs) (q:aJ K fr H Hf r (.ref p)):∃ xs,H p=some (.dT xs)/\Hf p=none/\iR K Hf kvs xs:=by
 cases r with
 | oT es=>cases h; obtain ⟨_,xs,e,_,h1,h2,h3⟩:=q; cases e; exact ⟨xs,h1,h2,h3⟩
 | aT a es=>cases h; obtain ⟨_,xs,e,_,h1,h2,h3⟩:=q; cases e; exact ⟨xs,h1,h2,h3⟩
 | _=>cases h
theorem tS (h:r.tP=some kvs) (q:aJ K fr H Hf r (.ref p)) (h1:H1 p=some (.dK ys)) (h2:aM p=none) (h3:jQ K aM es ys):aJ K (λq=>q=p) H1 aM (r.tQ es) (.ref p):=by
 cases r with
 | oK _=>exact ⟨p,ys,rfl,rfl,h1,h2,h3⟩
 | aK a _=>obtain ⟨_,xs,e,f,_⟩:=q; cases e; exact ⟨p,ys,rfl,⟨rfl,f.2⟩,h1,h2,h3⟩
 | _=>cases h
theorem tT (h:r.qx=some kvs) (q:aJ K fr H Hf r (.ref p)) (h1:H1 p=some (.dT ys)) (h2:aM p=none) (h3:iR K aM es ys):aJ K (λq=>q=p) H1 aM (r.tR es) (.ref p):=by
 cases r with
 | oT _=>exact ⟨p,ys,rfl,rfl,h1,h2,h3⟩
 | aT a _=>obtain ⟨_,xs,e,f,_⟩:=q; cases e; exact ⟨p,ys,rfl,⟨rfl,f.2⟩,h1,h2,h3⟩
 | _=>cases h
noncomputable def tU (K:Fi) (Hf:Hp):Option D->Option V->Prop
 | none,none=>True
 | some d,some v=>Rep K Hf d v
 | _,_=>False
theorem jQ.val (h:jQ K Hf kvs xs) (k:Key):tU K Hf (aS kvs k) (gO xs k):=by
 unfold jQ at h
 induction h with
 | nil=>exact GY
 | @cons a b as bs h t ih =>
  by_cases e:a.1=k
  ·rw [cL e,gP (h.1.symm.trans e)]; exact h.2
  ·rw [cM e,gQ (λz=>e (h.1.trans z))]; exact ih
theorem tU.isSome (h:tU K Hf o u):o.isSome=u.isSome:=by
 cases o <;> cases u <;> first | rfl | exact h.elim
theorem jQ.put (h:jQ K Hf kvs xs) (k:Key) (rd:Rep K Hf d v):jQ K Hf (putD kvs k d) (putK xs k v):=by
 have e:=(h.val k).isSome
 unfold putD putK
 rw [e,kJ]
 by_cases q:(gO xs k).isSome=true
 ·rw [if_pos q,if_pos q]
  unfold jQ at h |-
  clear e q
  induction h with
  | nil=>exact .nil
  | @cons a b as bs h t ih =>
   rw [FD,FD]
   refine .cons ?_ ih
   by_cases e:a.1=k
   ·rw [if_pos e,if_pos (h.1.symm.trans e)]; exact ⟨h.1,rd⟩
   ·rw [if_neg e,if_neg (λz=>e (h.1.trans z))]; exact h
 ·rw [if_neg q,if_neg q]; exact JB h ⟨rfl,rd⟩
theorem iR.val (h:iR K Hf kvs xs) (k):tU K Hf (aS kvs k) (atT xs k):=by
 unfold iR at h
 induction h with
 | nil=>exact GY
 | @cons a b as bs h t ih =>
  by_cases e:a.1=k
  ·have z:L2.atT (b::bs) k=some b.2.2:=by simp [L2.atT,Gu,h.1.symm.trans e]
   rw [cL e,z]; exact h.2.2
  ·have z:L2.atT (b::bs) k=L2.atT bs k:=by
    have:¬ b.1=k:=λz=>e (h.1.trans z)
    simp [L2.atT,Gu,this]
   rw [cM e,z]; exact ih
theorem iR.put (h:iR K Hf kvs xs) (k) (hb:bO K Hf b (k.map kV)) (rd:Rep K Hf d v):iR K Hf (putD kvs k d) (kM xs k b v):=by
 have e:=(h.val k).isSome
 unfold putD kM
 rw [e]
 by_cases q:(atT xs k).isSome=true
 ·rw [if_pos q,if_pos q]
  unfold iR at h |-
  clear e q
  induction h with
  | nil=>exact .nil
  | @cons a b' as bs h t ih =>
   rw [FD,FD]
   refine .cons ?_ ih
   unfold jO
   by_cases e:a.1=k
   ·rw [if_pos e,if_pos (h.1.symm.trans e)]; exact ⟨h.1,h.2.1,rd⟩
   ·rw [if_neg e,if_neg (λz=>e (h.1.trans z))]; exact h
 ·rw [if_neg q,if_neg q]; exact JB h ⟨rfl,hb,rd⟩
theorem iR.tV (h:iR K Hf kvs xs):∀ x∈xs,bO K Hf x.2.1 (x.1.map kV):=by
 unfold iR at h
 induction h with
 | nil=>intro x hx; cases hx
 | @cons a b as bs h t ih =>
  intro x hx
  rcases FO.mp hx with e | hx
  ·subst e; rw [<- h.1]; exact h.2.1
  ·exact ih x hx
inductive AH:Sl->D->Option D->Prop
 | k {r:Sl} {kvs:List (Key×D)} {d:D} {k:Key} (h:r.tP=some kvs) (hk:d.qw=some k):AH r d (aS kvs k)
 | t {r:Sl} {kvs:List (List Key×D)} {ds:List D} {k:List Key} (h:r.qx=some kvs) (hk:D.keys ds=some k):AH r (.tup ds) (aS kvs k)
inductive yP:Sl->D->D->Sl->Prop
 | k {r:Sl} {kvs:List (Key×D)} {d e:D} {k:Key} (h:r.tP=some kvs) (hk:d.qw=some k) (hz:kvs.length<sizeLine):yP r d e (r.tQ (putD kvs k e))
 | t {r:Sl} {kvs:List (List Key×D)} {ds:List D} {e:D} {k:List Key} (h:r.qx=some kvs) (hk:D.keys ds=some k) (hz:kvs.length<sizeLine):yP r (.tup ds) e (r.tR (putD kvs k e))
theorem yP.owned' (h:yP r d e r'):r'.owned=true:=by cases h with | k h _ _=>exact mX h | t h _ _=>exact mY h
theorem AH.get (h:AH r d o) (q:aJ K fr H Hf r (.ref p)) (rv:Rep K Hf d v) (sb:aD Hf H):∃ u,kP K H p v u/\tU K Hf o u:=by
 cases h with
 | k h hk =>
  obtain ⟨xs,h1,_,h3⟩:=wY h q
  rw [eO hk rv]
  exact ⟨_,.inl ⟨xs,_,.inl h1,rfl,rfl⟩,h3.val _⟩
 | t h hk =>
  obtain ⟨xs,h1,_,h3⟩:=wZ h q
  obtain ⟨a,ys,rfl,h4,h5⟩:=ay.mp rv
  have:=fL hk h5
  subst this
  exact ⟨_,.inr ⟨xs,_,a,.inl h1,λx hx=>ak sb (h3.tV x hx),rfl,ak sb h4,rfl⟩,h3.val _⟩
theorem jQ.length (h:jQ K Hf kvs xs):kvs.length=xs.length:=Hg h
theorem iR.length (h:iR K Hf kvs xs):kvs.length=xs.length:=Hg h
theorem yP.put (h:yP r d e r') (q:aJ K fr H Hf r (.ref p)) (rv:Rep K Hf d v) (ry:Rep K Hf e y) (sb:aD Hf H) :
 ∃ o,Ac K H p v y (upd H p o)/\aJ K (λq=>q=p) (upd H p o) Hf r' (.ref p):=by
 cases h with
 | k h hk hz =>
  obtain ⟨xs,h1,h2,h3⟩:=wY h q
  rw [eO hk rv]
  exact ⟨_,.inl ⟨xs,_,h1,rfl,by rw [<- h3.length]; exact hz,rfl⟩,tS h q ah h2 (h3.put _ ry)⟩
 | t h hk hz =>
  obtain ⟨xs,h1,h2,h3⟩:=wZ h q
  obtain ⟨a,ys,rfl,h4,h5⟩:=ay.mp rv
  have:=fL hk h5
  subst this
  exact ⟨_,.inr ⟨xs,_,a,h1,λx hx=>ak sb (h3.tV x hx),rfl,ak sb h4,by rw [<- h3.length]; exact hz,rfl⟩,tT h q ah h2 (h3.put _ h4 ry)⟩
end
section
variable {K:Fi} {c:Ctx P w K mg base k N sc bk}
theorem Ctx.hu (c:Ctx P w K mg base k N sc bk):c.X.A.units+1<cLine:=Cw c.room
theorem w9 {R:Sl->Prop} (h:R (.oK [])):cR c (.Dict [] [] pos) ρ R:=λO H Hf Q S q =>
 bw su λp hp=>q (.oK []) (.ref p) _ Hf h ⟨p,[],rfl,hp,ah,S.sb.free hp,.nil⟩ (bf.gS S.sb hp)
theorem xg {R:Sl->Prop} (h:R (.oT [])):cR c (.Dict [] [] pos) ρ R:=λO H Hf Q S q =>
 bw sA λp hp=>q (.oT []) (.ref p) _ Hf h ⟨p,[],rfl,hp,ah,S.sb.free hp,.nil⟩ (bf.gS S.sb hp)
theorem AI (hN:At N i x) (hi:At ρ i r) (h:aA c e ρ λdk=>aA c f ρ λdf=>∃ o,AH r dk o/\R (o.getD df)) (hd:(x == ("__debug__":Str))=false:=by decide) (hcd:(x == ("__classdict__":Str))=false:=by decide) (ho:r.yO=true:=by rfl)
 (m1:∀ env,attributeBase (.Name x px) "get" env (eval (.Name x px) env)=eval (.Name x px) env:=by intro _; walk_at "u")
 (m2:∀ env,((backTo cp (starEach [e,f] env)).all (λx=> !x.1) && (backToKw cp (keywordEach [] env)).all (λx=>x.1.isSome)
   && decide (([e,f]:List Expr).length+([]:List Keyword).length+(if ([]:List Keyword).isEmpty then 0 else 1)<30))=true:=by intro _; walk_at "u")
 (m3:(ap.endLine == cp.line)=true:=by walk_at "u") (m4:∀ env,backTo cp (starEach [e,f] env)=[(false,eval e env),(false,eval f env)]:=by intro _; walk_at "u") :
 aA c (.Call (.Attribute (.Name x px) "get" ap) [e,f] [] cp) ρ R:=λO H Hf Q S q=>by
 obtain ⟨p,ep,rp⟩:=S.own hi.get (k7 ho)
 have AF:Ep H p:=by
  cases r with
  | oK kvs=>obtain ⟨xs,h1,_⟩:=wY (r:=.oK kvs) rfl rp; exact .inl ⟨xs,.inl h1⟩
  | aK a kvs=>obtain ⟨xs,h1,_⟩:=wY (r:=.aK a kvs) rfl rp; exact .inl ⟨xs,.inl h1⟩
  | oT kvs=>obtain ⟨xs,h1,_⟩:=wZ (r:=.oT kvs) rfl rp; exact .inr ⟨xs,.inl h1⟩
  | aT a kvs=>obtain ⟨xs,h1,_⟩:=wZ (r:=.aT a kvs) rfl rp; exact .inr ⟨xs,.inl h1⟩
  | _=>cases ho
 refine bw (sC c.hu (c.qv hN hd hcd) cF cF ⟨m1 _,m2 _,m3,m4 _⟩) ⟨_,ep,p,rfl,AF,h O H Hf _ S λdk v H1 aM h1 rv g1=>h1 O H1 aM _ (S.bY g1) λdf y H2 bN ⟨o,lk,hR⟩ ry g2=>?_⟩
 obtain ⟨u,dg,rel⟩:=lk.get (rp.bY (g1.trans g2)) (Rep.mono g2.f _ rv) g2.b
 refine ⟨u,dg,?_⟩
 cases o with
 | none=>cases u with
  | none=>exact q df y H2 bN hR ry (g1.trans g2)
  | some _=>exact rel.elim
 | some d=>cases u with
  | none=>exact rel.elim
  | some v'=>exact q d v' H2 bN hR rel (g1.trans g2)
theorem AJ (hN:At N i x) (hi:At ρ i r) (h:aA c e ρ λdv=>aA c b ρ λdk=>∃ r',yP r dk dv r'/\Nx ρ i nx r') (ho:r.owned=true:=by rfl)
 (hs:∀ env,swapsWith e (some (.Subscript (.Name x px) b tp)) pos.line env=pure false:=by intro _; walk_at "u") (hd:(x == ("__debug__":Str))=false:=by decide) (hcd:(x == ("__classdict__":Str))=false:=by decide) :
 d7 c (.Assign [.Subscript (.Name x px) b tp] e pos) ρ nx p:=λO H Hf D S o=>by
 obtain ⟨p,ep,rp⟩:=S.own hi.get ho
 refine cY (wB c.hu (c.qv hN hd hcd) cF cF (hs _)) (h O H Hf _ S λdv v H1 aM h1 rv g1=>⟨_,ep,h1 O H1 aM _ (S.bY g1) λdk y H2 bN ⟨r',pt,ρ',hs',hn⟩ ry g2=>?_⟩)
 have g:=g1.trans g2
 obtain ⟨ob,dp,rp'⟩:=pt.put (rp.bY g) ry (Rep.mono g2.f _ rv) g.b
 refine ⟨p,_,rfl,dp,o.nx _ _ bN ρ' ?_ hn⟩
 rw [hs'.eq]
 obtain ⟨_,_,e0,_,_,hf⟩:=(rp.bY g).ou ho
 cases e0
 exact (S.bY g).upd hi.get ho ep (eG g.b hf) rp' pt.owned'
theorem k8 (hN:At N i x) (hi:At ρ i r) (h:aA c e ρ λdk=>∃ o,AH r dk o/\T (!o.isSome)) (ho:r.owned=true:=by rfl) (hm:behindInMarks CmpOp.NotIn (.Name x px)=false:=by walk_at "u")
 (hd:(x == ("__debug__":Str))=false:=by decide) (hcd:(x == ("__classdict__":Str))=false:=by decide):fH c (.Compare e [.NotIn] [.Name x px] pos) ρ T:=λO H Hf Q S q=>by
 obtain ⟨p,ep,rp⟩:=S.own hi.get ho
 refine kT (zp (qg c.hu cF (c.qv hN hd hcd)) hm) (h O H Hf _ S λdk y H1 aM ⟨o,lk,hT⟩ ry g=>⟨_,ep,?_⟩)
 obtain ⟨u,dg,rel⟩:=lk.get (rp.bY g) ry g.b
 refine ⟨p,u,rfl,dg,!u.isSome,rfl,q _ H1 aM ?_ g⟩
 rw [<- rel.isSome]; exact hT
end
noncomputable abbrev eS:Value->Shared->Prop:=λ_ _=>False
section
variable {prog:Program} {w:World} {A:Around} {R:Result->Shared->Prop} {s:Shared}
theorem jW {elt target iter:Expr} {ifs:List Expr} {scope:Scope} {pos:Pos} {it acc:Value} {env:Env} (I:Nat->Shared->Prop)
 (turn:∀ n s,I n s->wpAny (model prog w) A (pyNext it) (λr s₁=>match r with
   | none=>R (.ok .next) s₁
   | some v=>wpAny (model prog w) A (letOwnedTupleGo target it v) (λ_ s₁'=>wpAny (model prog w) A (assign target env v) (λ_ s₂ =>
    wpAny (model prog w) A (forIn ifs true λc r=>if r=true then do let ok <- isTrue c env (eval c env); pure (F2 ok) else pure (F2 r)) (λok s₃ =>
     if ok=true then wpAny (model prog w) A (eval elt env) (λx s₄ =>
      wpAny (model prog w) A (call (.builtin "list.append") [acc,x]) (λ_ s₅=>∃ m,m<n/\I m s₅) eS s₄) eS s₃
     else ∃ m,m<n/\I m s₃) eS s₂) eS s₁') eS s₁) eS s)
 (n:Nat) (h:I n s) :
 codeAny (model prog w) A (.compLoop (.ListComp elt [⟨target,iter,ifs,0⟩] scope pos) 0 it acc env) R s:=by
 refine codeAny_loop rfl I (λn s hI=>?_) n h
 show wpAny _ A ((compTurn (.ListComp elt [⟨target,iter,ifs,0⟩] scope pos) 0 it acc env).onRaise (λx=>do noteFrame x env; theTreesLotGoes x)) _ _ s
 refine wpAny_noted ?_
 rw [compTurn_list]
 refine Ff (Jq (Ff (Gk (turn n s hI) (λr s₁ h₁=>?_) λ_ _ f=>f.elim)))
 cases r with
 | none=>exact Fl h₁
 | some v =>
  refine Ff (Gk h₁ (λ_ s₁' h₁'=>?_) λ_ _ f=>f.elim)
  refine Ff (Gk h₁' (λ_ s₂ h₂=>Ff (Gk h₂ (λok s₃ h₃=>?_) λ_ _ f=>f.elim)) λ_ _ f=>f.elim)
  cases ok with
  | false=>exact Fl ⟨rfl,h₃⟩
  | true =>
   exact Ff (Ff (Gk h₃ (λx s₄ h₄=>Ff (Gk h₄ (λ_ s₅ h₅=>Fl (Fl ⟨rfl,h₅⟩)) λ_ _ f=>f.elim)) λ_ _ f=>f.elim))
theorem f9:∀ (ifs:List Expr),Q false s ->
 wpAny (model prog w) A (forIn ifs false λc r=>if r=true then do let ok <- isTrue c env (eval c env); pure (F2 ok) else pure (F2 r)) Q E s
 | [],h=>Fl h
 | t::ts,h=>by
  simp only [ID,Ga,if_false]
  exact Ff (Fl (f9 ts h))
theorem mZ
 (h:wpAny (model prog w) A (isTrue t env (eval t env)) (λb s'=>if b=true then wpAny (model prog w) A (forIn ts true λc r=>if r=true then do let ok <- isTrue c env (eval c env); pure (F2 ok) else pure (F2 r)) Q E s' else Q false s') E s) :
 wpAny (model prog w) A (forIn (t::ts) true λc r=>if r=true then do let ok <- isTrue c env (eval c env); pure (F2 ok) else pure (F2 r)) Q E s:=by
 simp only [ID,if_true]
 refine Ff (Ff (Gk h (λb s' hb=>Fl ?_) λ_ _ x=>x))
 cases b with
 | true=>exact hb
 | false=>exact f9 ts hb
end
noncomputable def aY (scope sc:Scope):Scope:={ scope with names:=scope.names.map λ(n,k)=>if (k == .free && sc.kind == .function && sc.names.lookup n == some .cell) then (n,.cell) else (n,k) }
theorem k9 (h:env.scope=sc):relabel scope env=aY scope sc:=by
 subst h; rfl
noncomputable def Sl.tag (a:Addr):Sl->Sl
 | .ow ds=>.aw a ds | .oT ds=>.aT a ds | .oK ds=>.aK a ds
 | .aw b ds=>.aw b ds | .aT b ds=>.aT b ds | .aK b ds=>.aK b ds | .fo s=>.fo s
 | .un=>.un | .va d=>.va d
inductive qy (t:Str->Addr) (nm:List (Str×NameKind)) (N:List Str) (ρ:List Sl):List Str->List Sl->Prop
 | nil:qy t nm N ρ [] []
 | un {y:Str} {M:List Str} {r:List Sl}:qy t nm N ρ M r->qy t nm N ρ (y::M) (.un::r)
 | fr {y:Str} {i:Nat} {s s':Sl} {M:List Str} {r:List Sl} (hN:At N i y) (hs:At ρ i s) (hy:(y,G2)∈nm) (ht:s.tag (t y)=s'):qy t nm N ρ M r->qy t nm N ρ (y::M) (s'::r)
theorem qy.len (h:qy t nm N ρ M r):M.length=r.length:=by
 induction h with
 | nil=>rfl
 | un t ih=>simp [ih]
 | fr hN hs hy ht t ih=>simp [ih]
inductive vO:List Sl->List Sl->Prop
 | nil:vO [] []
 | un {r:Sl} {a b:List Sl}:vO a b->vO (.un::a) (r::b)
 | same {r:Sl} {a b:List Sl}:vO a b->vO (r::a) (r::b)
theorem vO.weak (h:vO a b):a.length=b.length/\∀ (i:Nat) (r:Sl),a[i]?=some r->r≠.un->b[i]?=some r:=by
 induction h with
 | nil=>exact ⟨rfl,λi r e=>by simp at e⟩
 | un t ih=>exact ⟨by simp [ih.1],λi r e hu=>by cases i with | zero=>simp at e; exact absurd e.symm hu | succ i=>simpa using ih.2 i r (by simpa using e) hu⟩
 | same t ih=>exact ⟨by simp [ih.1],λi r e hu=>by cases i with | zero=>simpa using e | succ i=>simpa using ih.2 i r (by simpa using e) hu⟩
section
variable {K:Fi}
noncomputable def oz (c:Ctx P w K mg base k N sc bk):List Expr->List Sl->(Bool->Prop)->Prop
 | [],_,T=>T true
 | t::ts,ρ,T=>fH c t ρ (gT (oz c ts ρ T) (T false))
theorem jm (hq:c.X.xe=eS):∀ (ifs:List Expr) {H Hf:Hp} {s:Shared},aL c O H Hf ρ->oz c ifs ρ T->(∀ b H' ai,T b->bf H Hf H' ai->Q b H')->Inv c.X aa O H s ->
 wpAny (model c.X.prog c.X.w) c.X.A (forIn ifs true λt r=>if r=true then do let ok <- isTrue t c.X.env (eval t c.X.env); pure (F2 ok) else pure (F2 r)) (TP c.X aa O Q) eS s
 | [],H,Hf,s,S,h,q,I=>wpAny_tests_nil ⟨H,I,q true H Hf h (.refl S.sb)⟩
 | t::ts,H,Hf,s,S,h,q,I=>by
  have h0:=h O H Hf (λb H'=>∃ ai,gT (oz c ts ρ T) (T false) b/\bf H Hf H' ai) S (λb H' ai hb g=>⟨ai,hb,g⟩) aa s I
  rw [hq] at h0
  refine mZ (aZ h0 λb s' ⟨H',I',ai,hb,g⟩=>?_)
  cases b with
  | true=>exact jm hq ts (S.bY g) (hb.t rfl) (λb H2 bN hT g2=>q b H2 bN hT (g.trans g2)) I'
  | false=>exact ⟨H',I',q false H' ai (hb.f rfl) g⟩
end
theorem ie:∀ (names:List (Str×NameKind)) (cs:List (Str×Addr)),(∀ x∈names,x.2=.free->∃ a,env.cells.lookup x.1=some a) ->
 ∃ cl,(forIn names cs (λ(x:Str×NameKind) (r:List (Str×Addr))=>(if (x.2 == G2)=true then do let a <- cellOf env x.1; pure (F2 ((x.1,a)::r)) else pure (F2 r):Sem (ForInStep (List (Str×Addr))))))=(pure cl:Sem (List (Str×Addr))) /\
  (∀ y a,cl.lookup y=some a->cs.lookup y=some a\/env.cells.lookup y=some a/\(y,G2)∈names)/\(∀ y a,(y,G2)∈names\/(∃ b,cs.lookup y=some b/\env.cells.lookup y=some b)->env.cells.lookup y=some a->cl.lookup y=some a)
 | [],cs,_=>⟨cs,rfl,λy a e=>.inl e,λy a h e=>by
  rcases h with h | ⟨b,h1,h2⟩
  ·cases h
  ·rw [e] at h2; cases h2; exact h1⟩
 | (n,kd)::r,cs,h=>by
  by_cases hk:kd=.free
  ·subst hk
   obtain ⟨a,ea⟩:=h (n,.free) FF rfl
   obtain ⟨cl,e1,e2,e3⟩:=ie r ((n,a)::cs) λx hx=>h x (FL _ hx)
   refine ⟨cl,?_,λy b e=>?_,λy b hy e=>?_⟩
   ·rw [ID]
    simp only [beq_self_eq_true,if_true,cellOf,ea,pure_bind]
    exact e1
   ·rcases e2 y b e with z | ⟨z1,z2⟩
    ·rw [Kf] at z
     cases q:(y == n) with
     | true =>
      rw [q] at z; cases z
      have:y=n:=by simpa using q
      subst this
      exact .inr ⟨ea,FF⟩
     | false=>rw [q] at z; exact .inl z
    ·exact .inr ⟨z1,FL _ z2⟩
   ·refine e3 y b ?_ e
    rcases hy with hy | ⟨b',h1,h2⟩
    ·rcases FO.mp hy with z | z
     ·cases z; exact .inr ⟨a,by simp,ea⟩
     ·exact .inl z
    ·refine .inr ⟨b',?_,h2⟩
     rw [Kf]
     cases q:(y == n) with
     | true =>
      have:y=n:=by simpa using q
      subst this
      rw [ea] at h2; exact h2
     | false=>exact h1
  ·have hb:(kd == G2)=false:=by simpa using hk
   obtain ⟨cl,e1,e2,e3⟩:=ie r cs λx hx=>h x (FL _ hx)
   refine ⟨cl,?_,λy b e=>?_,λy b hy e=>?_⟩
   ·rw [ID]
    simp only [hb,Ga,if_false,pure_bind]
    exact e1
   ·rcases e2 y b e with z | ⟨z1,z2⟩
    ·exact .inl z
    ·exact .inr ⟨z1,FL _ z2⟩
   ·refine e3 y b ?_ e
    rcases hy with hy | hy
    ·rcases FO.mp hy with z | z
     ·cases z; exact absurd rfl hk
     ·exact .inl z
    ·exact .inr hy
theorem xh (h:∀ x∈scope.names,x.2=.free->∃ a,env.cells.lookup x.1=some a) :
 ∃ cl,closureFor scope env=pure cl/\(∀ y a,cl.lookup y=some a->env.cells.lookup y=some a/\(y,G2)∈scope.names)/\(∀ y a,(y,G2)∈scope.names->env.cells.lookup y=some a->cl.lookup y=some a):=by
 obtain ⟨cl,e1,e2,e3⟩:=ie scope.names [] h
 refine ⟨cl,?_,λy a e=>?_,λy a hy e=>e3 y a (.inl hy) e⟩
 ·unfold closureFor
  have e1':=congrArg (· >>= λcs=>(pure cs:Sem _)) e1
  simp only [pure_bind] at e1'
  exact e1'
 ·rcases e2 y a e with z | z
  ·simp at z
  ·exact z
section
variable {P:Program} {w:World} {K:Fi} {mg:Str->Option Value} {base:Heap} {k:Nat} {N:List Str} {sc:Scope} {bk:Bool} {c:Ctx P w K mg base k N sc bk} {ρ:List Sl} {pos:Pos}
def oA (c:Ctx P w K mg base k N sc bk) (tg:Expr) (ifs:List Expr) (elt:Expr) (ρ0:List Sl) (d:D) (o:Option D):Prop :=
 mV c tg d ρ0 λρ1=>vO ρ0 ρ1/\oz c ifs ρ1 (gT (aA c elt ρ1 λe=>o=some e) (o=none))
theorem eT {nm:List (Str×NameKind)}:∀ {y:Str} {kd:NameKind},(nm.map λ(x:Str×NameKind)=>match x with | (n,k)=>(if (k == .free && sc.kind == .function && sc.names.lookup n == some .cell)=true then (n,NameKind.cell) else (n,k))).lookup y=some kd->∃ k0,(y,k0)∈nm/\(kd=k0\/kd=.cell/\k0=.free):=by
 induction nm with
 | nil=>intro y kd h; simp at h
 | cons x r ih =>
  obtain ⟨n,k0⟩:=x
  intro y kd h
  rw [FD,Kf] at h
  by_cases e:(k0 == .free && sc.kind == .function && sc.names.lookup n == some .cell)=true
  ·simp only [e,if_true] at h
   cases q:(y == n) with
   | true =>
    rw [q] at h; cases h
    have:y=n:=by simpa using q
    subst this
    have hf:k0=.free:=by simp only [Jj,beq_iff_eq] at e; exact e.1.1
    exact ⟨k0,FF,.inr ⟨rfl,hf⟩⟩
   | false=>rw [q] at h; obtain ⟨k1,h1,h2⟩:=ih h; exact ⟨k1,FL _ h1,h2⟩
  ·simp only [e,Ga,if_false] at h
   cases q:(y == n) with
   | true =>
    rw [q] at h; cases h
    have:y=n:=by simpa using q
    subst this
    exact ⟨k0,FF,.inl rfl⟩
   | false=>rw [q] at h; obtain ⟨k1,h1,h2⟩:=ih h; exact ⟨k1,FL _ h1,h2⟩
theorem qy.start {O:L2.St} (h:qy t nm N ρ M r) (hO:∀ (i:Nat) (s:Sl),ρ[i]?=some s->s≠.un->∃ v,O[i]?=some (some v)) :
 ∃ O0:L2.St,O0.length=r.length/\∀ (j:Nat) (s:Sl),r[j]?=some s->(s=.un/\O0[j]?=some none)\/∃ (i:Nat) (y:Str) (v:V) (s0:Sl),M[j]?=some y/\(y,G2)∈nm/\N[i]?=some y/\ρ[i]?=some s0/\s=s0.tag (t y)/\s0≠.un/\O[i]?=some (some v)/\O0[j]?=some (some v):=by
 induction h with
 | nil=>exact ⟨[],rfl,λj s e=>by simp at e⟩
 | un t ih =>
  obtain ⟨O0,hl,h0⟩:=ih
  refine ⟨none::O0,by simp [hl],λj s e=>?_⟩
  cases j with
  | zero=>simp at e; exact .inl ⟨e.symm,by simp⟩
  | succ j =>
   rcases h0 j s (by simpa using e) with ⟨h1,h2⟩ | ⟨i,y,v,s0,h1,h2,h3,h4,h5,h6,h7,h8⟩
   ·exact .inl ⟨h1,by simpa using h2⟩
   ·exact .inr ⟨i,y,v,s0,by simpa using h1,h2,h3,h4,h5,h6,h7,by simpa using h8⟩
 | @fr y i s' s'' M r hN hs hy ht t ih =>
  obtain ⟨O0,hl,h0⟩:=ih
  by_cases hu:s'=.un
  ·refine ⟨none::O0,by simp [hl],λj s e=>?_⟩
   cases j with
   | zero=>simp at e; subst hu; exact .inl ⟨e.symm.trans ht.symm,by simp⟩
   | succ j =>
    rcases h0 j s (by simpa using e) with ⟨h1,h2⟩ | ⟨i,y,v,s0,h1,h2,h3,h4,h5,h6,h7,h8⟩
    ·exact .inl ⟨h1,by simpa using h2⟩
    ·exact .inr ⟨i,y,v,s0,by simpa using h1,h2,h3,h4,h5,h6,h7,by simpa using h8⟩
  ·obtain ⟨v,ev⟩:=hO i s' hs.get hu
   refine ⟨some v::O0,by simp [hl],λj s e=>?_⟩
   cases j with
   | zero=>simp at e; subst e; exact .inr ⟨i,y,v,s',by simp,hy,hN.get,hs.get,ht.symm,hu,ev,by simp⟩
   | succ j =>
    rcases h0 j s (by simpa using e) with ⟨h1,h2⟩ | ⟨i,y,v,s0,h1,h2,h3,h4,h5,h6,h7,h8⟩
    ·exact .inl ⟨h1,by simpa using h2⟩
    ·exact .inr ⟨i,y,v,s0,by simpa using h1,h2,h3,h4,h5,h6,h7,by simpa using h8⟩
noncomputable def Sl.adr:Sl->Option Addr | .aw a _=>some a | .aT a _=>some a | .aK a _=>some a | _=>none
theorem jn {s:Sl}:(s.tag a).owned=s.owned:=by cases s <;> rfl
theorem xj {s:Sl} (h:s.owned=true):∃ b,(s.tag a).adr=some b:=by cases s <;> first | exact ⟨_,rfl⟩ | cases h
theorem oB (hv:s.owned=true->v=.ref a) (h:aJ K fr H Hf s v):aJ K fr H Hf (s.tag a) v:=by
 cases s with
 | ow ds=>obtain ⟨p,xs,e,f,r⟩:=h; exact ⟨p,xs,e,⟨f,by have:=hv rfl; rw [e] at this; cases this; rfl⟩,r⟩
 | oT ds=>obtain ⟨p,xs,e,f,r⟩:=h; exact ⟨p,xs,e,⟨f,by have:=hv rfl; rw [e] at this; cases this; rfl⟩,r⟩
 | oK ds=>obtain ⟨p,xs,e,f,r⟩:=h; exact ⟨p,xs,e,⟨f,by have:=hv rfl; rw [e] at this; cases this; rfl⟩,r⟩
 | _=>exact h
theorem oE (hb:s.adr=some b) (h:aJ K fr H Hf s (.ref p)):p=b:=by
 cases s with
 | aw a ds=>cases hb; obtain ⟨q,xs,e,f,r⟩:=h; cases e; exact f.2
 | aT a ds=>cases hb; obtain ⟨q,xs,e,f,r⟩:=h; cases e; exact f.2
 | aK a ds=>cases hb; obtain ⟨q,xs,e,f,r⟩:=h; cases e; exact f.2
 | _=>cases hb
theorem cJ.apart (S:cJ K H₀ cS O H Hf ρ) (h0:H₀ a=none) (hf:Hf a=none) (nf:¬ sD H a) (ha:∀ (i:Nat) (r:Sl),ρ[i]?=some r->r.owned=true->O[i]?≠some (some (.ref a))):cJ K H₀ cS O (L2.upd H a o) Hf ρ :=
 ⟨⟨λb u e=>by rw [L2.af (aq e h0)]; exact S.bas.s b u e,S.bas.f,λb u e=>by rw [L2.af (aq e hf)]; exact S.bas.b b u e,S.bas.n⟩,S.len,λi r hi hu=>by
   obtain ⟨v,e,q⟩:=S.at_ i r hi hu
   refine ⟨v,e,?_⟩
   have hg:bf (del H a) Hf (L2.upd H a o) Hf:=eG S.bas.b hf
   exact (q.Dc (p:=a) nf λow z=>by subst z; exact ha i r hi ow e).bY hg,S.sep⟩
theorem xm (g:bf H1 aM H' ai) (h1:H1 a=none) (hf:ai a=none):bf H1 aM (upd H' a o) ai :=
 ⟨λb u e=>by rw [af (aq e h1)]; exact g.s b u e,g.f,λb u e=>by rw [af (aq e hf)]; exact g.b b u e,g.n⟩
section
variable {K:Fi} {H Hf H' ai:Hp}
noncomputable abbrev Fp:=List (Addr×List V)
mutual
theorem bU.fz:∀ (s:Sh) {v:V} {fp:Fp},bU K H Hf s v fp->∀ a∈fp,H a.1=some (pl a.1 a.2)/\Hf a.1=none
 | .v d,_,_,h=>by simp only [bU] at h; obtain ⟨_,rfl⟩:=h; intro a ha; cases ha
 | .l ds,_,_,h=>by
  simp only [bU] at h
  obtain ⟨p,xs,e,h1,h2,h3,rfl⟩:=h
  intro a ha
  obtain rfl:=Gj.mp ha
  exact ⟨h1,h2⟩
 | .la p ds,_,_,h=>by
  simp only [bU] at h
  obtain ⟨xs,e,h1,h2,h3,rfl⟩:=h
  intro a ha
  obtain rfl:=Gj.mp ha
  exact ⟨h1,h2⟩
 | .t ss,_,_,h=>by
  simp only [bU] at h
  obtain ⟨a,xs,e,h1,h2⟩:=h
  exact aH.fz ss h2
 | .ls ss,_,_,h=>by
  simp only [bU] at h
  obtain ⟨p,xs,fq,e,h1,h2,h3,rfl⟩:=h
  intro a ha
  rcases FO.mp ha with rfl | ha
  ·exact ⟨h1,h2⟩
  ·exact aH.fz ss h3 a ha
theorem aH.fz:∀ (ss:List Sh) {xs:List V} {fp:Fp},aH K H Hf ss xs fp->∀ a∈fp,H a.1=some (pl a.1 a.2)/\Hf a.1=none
 | [],_,_,h=>by simp only [aH] at h; obtain ⟨_,rfl⟩:=h; intro a ha; cases ha
 | s::ss,_,_,h=>by
  simp only [aH] at h
  obtain ⟨x,r,f1,f2,e,h1,h2,rfl⟩:=h
  intro a ha
  rcases Gd.mp ha with ha | ha
  ·exact bU.fz s h1 a ha
  ·exact aH.fz ss h2 a ha
end
end
noncomputable def Sl.sh:Sl->Option Sh | .va d=>some (.v d) | .fo s=>some s | _=>none
theorem AK {H H' ai:Hp} (e:r.sh=some s) (h:aJ K (λp=>H p=none) H' ai r v):∃ fp,bU K H' ai s v fp/\(fp.map (·.1)).Nodup/\∀ a∈fp,H a.1=none:=by
 cases r with
 | va d=>cases e; exact ⟨[],by simp only [bU]; exact ⟨h,trivial⟩,by simp,by intro a ha; cases ha⟩
 | fo s=>cases e; exact h
 | _=>cases e
theorem aH.snoc (h:bU K H Hf s v fp):∀ {ss:List Sh} {vs:List V} {fq:Fp},aH K H Hf ss vs fq->aH K H Hf (ss++[s]) (vs++[v]) (fq++fp)
 | [],_,_,q=>by
  simp only [aH] at q
  obtain ⟨rfl,rfl⟩:=q
  simp only [List.nil_append,aH]
  exact ⟨v,[],fp,[],rfl,h,⟨rfl,rfl⟩,(GV _).symm⟩
 | s'::ss,_,_,q=>by
  simp only [aH] at q
  obtain ⟨x,r,f1,f2,rfl,h1,h2,rfl⟩:=q
  have:=aH.snoc h h2
  simp only [Ji,aH]
  exact ⟨x,r++[v],f1,f2++fp,rfl,h1,this,FZ _ _ _⟩
def tW (c:Ctx P w K mg base k N sc bk) (tg:Expr) (ifs:List Expr) (elt:Expr) (ρ0:List Sl) (d:D) (o:Option Sh):Prop :=
 mV c tg d ρ0 λρ1=>vO ρ0 ρ1/\oz c ifs ρ1 (gT (cR c elt ρ1 λr=>∃ z,o=some z/\r.sh=some z) (o=none))
abbrev DL (scope sc:Scope) (N':List Str):Prop:=scope.kind=.function/\(∀ x∈scope.names,x.2≠.cell)/\(∀ x∈scope.names,x.2=.local->scope.names.lookup x.1=some .local)/\(∀ x∈scope.names,x.2=.free->sc.names.lookup x.1=some .cell)/\N'.Nodup/\(∀ x∈N',(aY scope sc).names.lookup x=some .local\/(aY scope sc).names.lookup x=some .cell)/\∀ x∈scope.names,x.2=.free->(aY scope sc).names.lookup x.1=some .cell
theorem xo {elt tg iter:Expr} {ifs:List Expr} {scope:Scope} {N':List Str} {ρ0:(Str->Addr)->List Sl} {R:List Sh->Prop} (hq:c.X.xe=eS) (hfr:∀ t,qy t scope.names N ρ N' (ρ0 t))
 (h:wX c tg iter ρ λds=>Sd (ds.length<=sizeLine) (∃ os:List (Option Sh),os.length=ds.length /\
   (∀ c':Ctx P w K mg base k N' (aY scope sc) true,c'.X.xe=eS->∀ (t:Str->Addr) (i:Nat) (d:D) (o:Option Sh),ds[i]?=some d->os[i]?=some o->tW c' tg ifs elt (ρ0 t) d o)/\R (os.filterMap id)))
 (hcp:DL scope sc N':=by decide +kernel)
 (hs:∀ env v,foldedSetIterable iter env v=pure v:=by intro _ _; walk_at "u")
 {O:L2.St} {H Hf:Hp} (S:aL c O H Hf ρ) {aa:List (Addr×Obj)} {s:Shared} (I:Inv c.X aa O H s) {use:Option (Value->Sem Unit)} {QQ:Value->Shared->Prop}
 (kont:∀ (s':Shared) (H' ai:Hp) (a C:Addr) (ss:List Sh) (vs:List V) (fq:Fp),R ss->(∃ m,s'.heap.Ns C m)->C∉c.X.fs->d9 c.X aa H' C->H a=none->H' a=some (.lst vs)->ai a=none->aH c.X.K H' ai ss vs fq->(fq.map (·.1)).Nodup->(∀ b∈fq,H b.1=none)->bf H Hf H' ai->(∀ h5,GU C s'.heap h5->Inv c.X aa O H' { s' with heap:=h5 })->compPost (model c.X.prog c.X.w) c.X.A eS use QQ (.ref a) C (.ok .next) s') :
 wpAny (model c.X.prog c.X.w) c.X.A (comprehension (.ListComp elt [⟨tg,iter,ifs,0⟩] scope pos) scope c.X.env (firstIterPos [⟨tg,iter,ifs,0⟩] pos) (newList []) (firstAsync [⟨tg,iter,ifs,0⟩]) (firstIter [⟨tg,iter,ifs,0⟩] c.X.env) use) QQ eS s:=by
 obtain ⟨hk,hnc,hnl,hfree,hnd,hv,hvf⟩:=hcp
 have hI:=h O H Hf (λJ H1=>∃ ds aM,Sd (ds.length<=sizeLine) (∃ os:List (Option Sh),os.length=ds.length /\
  (∀ c':Ctx P w K mg base k N' (aY scope sc) true,c'.X.xe=eS->∀ (t:Str->Addr) (i:Nat) (d:D) (o:Option Sh),ds[i]?=some d->os[i]?=some o->tW c' tg ifs elt (ρ0 t) d o)/\R (os.filterMap id))/\bf H Hf H1 aM/\mW c.X.K J ds aM) S (λds J H' ai hR g io=>⟨ds,ai,hR,g,io⟩) aa s I
 rw [hq] at hI
 have hcells:∀ x∈scope.names,x.2=.free->∃ a,c.X.env.cells.lookup x.1=some a:=λx hx hf=>I.ok.has x.1 (.inl (by unfold Gm; rw [c.esc]; exact hfree x hx hf))
 obtain ⟨cl,hclos,rC,hcl2⟩:=xh hcells
 refine wpAny_comprehension_free (cl:=cl) (use:=use) rfl (hs _) hclos hk hnl ?_
 refine aZ (show wpAny _ _ (eval iter c.X.env) _ _ _ from hI) λv s1 h1=>aZ h1 λitv s2 hh=>z5 hh λit fp tn J H1 hh=>w6 hh λe0 I1 Tn t0 hfp hh=>z2 hh λds aM hh=>w3 hh λhz g io=>?_
 obtain ⟨hz,os,hh⟩:=hz
 refine w3 hh λhol hb hR=>?_
 subst e0
 have hcell':∀ y∈scope.names,y.2≠.cell:=hnc
 refine GA (wpAny_newFunctionEnv hcell' (by intro y hy; simp at hy) (λh4 hns hsb=>?_) hk)
 dsimp only at hns hsb |-
 generalize hDe:s2.heap.objs.size=Da at *
 have k3:∀ b u,s2.heap.get? b=some u->(s2.heap.push { cls:=.type "list",dict:=none,data:=.seq ([]:List Value).toArray }).get? b=some u:=λb u e=>Fz _ e
 generalize hH3:s2.heap.push { cls:=.type "list",dict:=none,data:=.seq ([]:List Value).toArray }=h3 at *
 have hCe:h3.objs.size=Da+1:=by rw [<- hH3,Jo,hDe]
 have hgD:h3.get? Da=some { cls:=.type "list",dict:=none,data:=.seq ([]:List Value).toArray }:=by rw [<- hH3,<- hDe]; exact FT _ rfl
 have nK:H1 Da=none:=by rw [<- hDe]; exact I1.hok.fresh (Fq _)
 have I3:Inv c.X aa O (upd H1 Da (.lst [])) { s2 with heap:=h3,toks:=s2.toks }:=I1.laid (a:=Da) (o:=.lst []) (t':=s2.toks) k3 (by rw [hDe]; exact Fq _) ⟨Gw _,[],0,.nil,hgD⟩
 have fpne:∀ b∈fp,b≠Da:=λb hb z=>by
  obtain ⟨o,e,_⟩:=Tn.obj _ _ t0 b hb
  subst z
  exact absurd (Fw e) (by rw [hDe]; exact GL _)
 have fplt:∀ b∈fp,b<h3.objs.size:=λb hb=>by
  obtain ⟨o,e,_⟩:=Tn.obj _ _ t0 b hb
  exact Fw (k3 b o e)
 let s3:Shared:={ s2 with heap:=h3,toks:=s2.toks }
 let H2:Hp:=upd H1 Da (.lst [])
 let X':Cx:={ prog:=c.X.prog,w:=c.X.w,K:=c.X.K,mg:=c.X.mg,base:=c.X.base,A:=c.X.A,N:=N',s₀:=s3,H₀:=H2,env:=compEnvC scope cl h3.objs.size c.X.env,outer:=c.X.stack,stack:=c.X.stack,ex:=fp,fn:=λ_=>false,calm:=true,pn:=[],xe:=eS }
 have S1:=S.bY g
 have S2:aL c O H2 aM ρ:=S1.bY (bf.gS g.b nK)
 obtain ⟨t,ht⟩:∃ t:Str->Addr,∀ (i:Nat) (y:Str) (p:Addr),N[i]?=some y->O[i]?=some (some (.ref p))->t y=p:=by
  classical
  refine ⟨λy=>if h:∃ (i:Nat) (p:Addr),N[i]?=some y/\O[i]?=some (some (.ref p)) then h.choose_spec.choose else 0,λi y p e1 e2=>?_⟩
  have h:∃ (i:Nat) (p:Addr),N[i]?=some y/\O[i]?=some (some (.ref p)):=⟨i,p,e1,e2⟩
  show (if h:_ then _ else _)=p
  rw [dif_pos h]
  obtain ⟨e3,e4⟩:=h.choose_spec.choose_spec
  have hi:h.choose<N.length:=(FA.mp e3).1
  have e5:h.choose=i:=(List.getElem?_inj hi c.nd).mp (e3.trans e1.symm)
  have e6:=(congrArg (λz=>O[z]?) e5).symm.trans e4
  rw [show O[i]?=some (some (.ref p)) from e2] at e6
  have e4:=e6
  exact (V.ref.inj (GJ (GJ e4))).symm
 have hfr:=hfr t
 generalize hρ:ρ0 t=ρt at hfr
 obtain ⟨O0,hOl,hO0⟩:=hfr.start (O:=O) λi s e hu=>let ⟨v,e2,_⟩:=S2.at_ i s e hu; ⟨v,e2⟩
 have k4:∀ b u,h3.get? b=some u->h4.get? b=some u:=λb u e=>hsb.extBut b u (F0 (Fw e)) (Fz _ e)
 have hsc:X'.env.scope=aY scope sc:=k9 c.esc
 have okX:X'.Ok:={
  mod:=I3.ok.mod
  kind:=hk
  glob:=I3.ok.glob
  blt:=I3.ok.blt
  above:=Fq _
  inj:=λx y a e1 e2=>I3.ok.inj x y a (rC x a e1).1 (rC y a e2).1
  has:=λx hx=>by
   have key:(x,G2)∈scope.names:=by
    have hx':(aY scope sc).names.lookup x=some .cell\/(aY scope sc).names.lookup x=some .free:=by
     unfold Gm at hx; rw [hsc] at hx; exact hx
    rcases hx' with hx' | hx'
    ·obtain ⟨k0,h1,h2⟩:=eT hx'
     rcases h2 with h2 | ⟨_,h2⟩
     ·subst h2; exact absurd rfl (hnc _ h1)
     ·subst h2; exact h1
    ·obtain ⟨k0,h1,h2⟩:=eT hx'
     rcases h2 with h2 | ⟨h2,_⟩
     ·subst h2; exact h1
     ·cases h2
   obtain ⟨a,ea⟩:=hcells _ key rfl
   exact ⟨a,hcl2 x a key ea⟩
  cab:=λx a hf=>by cases hf
  hd:=λ_=>I3.ok.hd c.calm
  frames:=I3.ok.frames
  stk:=.inl rfl
  exf:=λb hb=>⟨F0 (fplt b hb),λx a ea=>(hfp b hb).2.2.2.2.1 x a (rC x a ea).1⟩
  bs:=I3.bs
  bsz:=Fy I3.ok.bsz I3.sz
  noex:=λb o e hb=>by
   rcases (hfp b hb).2.2.2.1 with z | z
   ·exact I3.ok.noex b o e z
   ·exact absurd (F9 (Fw e) (Fy I3.ok.bsz z)) (GL _)
  exfs:=λb hb m=>by
   rcases FO.mp (I3.mD b m) with z | z
   ·exact (hfp b hb).2.1 z
   ·exact (hfp b hb).2.2.1 z
  gi:=I3.stack
  frf:=I3.nL }
 have I4:Inv X' [] O0 H2 { s2 with heap:=h4,toks:=s2.toks+([]:List (Str×Value)).length }:={
  ok:=okX
  os:=rfl
  bare:=I3.bare
  base:=Un.kept k4
  loc:=⟨_,hns,λj y v hy hv' _=>by
   have hj:j<ρt.length:=by
    have:=(FA.mp hv').1
    rw [hOl] at this; exact this
   rcases hO0 j ρt[j] (F7 hj) with ⟨_,z⟩ | hh
   ·rw [z] at hv'; cases hv'
   ·refine z4 hh λi y' v' s0 hh=>w8 hh λh1 h2 h3' h4' hs5 hs6 h5 h6=>?_
    rw [h6] at hv'; cases hv'
    have hy':N'[j]?=some y:=hy
    rw [h1] at hy'; cases hy'
    obtain ⟨m0,hm0,hl⟩:=I3.loc
    have hkc:c.X.env.kindOf y=some .cell:=by unfold Gm; rw [c.esc]; exact hfree _ h2 rfl
    obtain ⟨u,r,lk⟩:=hl i y v (by rw [c.eN]; exact h3') h5 (.inr (.inl hkc))
    refine ⟨u,r,?_⟩
    rcases lk with ⟨q1,_⟩ | ⟨_,a,e1,e2⟩
    ·rw [hkc] at q1; cases q1
    ·refine .inr ⟨.inl ?_,a,hcl2 _ a h2 e1,?_⟩
     ·show List.lookup y X'.env.scope.names=_
      rw [hsc]; exact hvf _ h2 rfl
     ·obtain ⟨oc,e3,e4⟩:=e2
      exact ⟨oc,k4 _ _ e3,e4⟩⟩
  cell:=λx a ea=>by
   obtain ⟨v',oc,e3,e4⟩:=I3.cell x a (rC x a ea).1
   exact ⟨v',oc,k4 _ _ e3,e4⟩
  free:=I3.hok.fresh (Fq _)
  freeC:=λx a ea=>I3.freeC x a (rC x a ea).1
  pin:=λq hq'=>by simp at hq'; cases hq'
  hok:=I3.hok.kept k4
  len:=by rw [hOl]; exact hfr.len.symm }
 let c':Ctx P w K mg base k N' (aY scope sc) true :=
  { X:=X',eP:=c.eP,ew:=c.ew,eK:=c.eK,emg:=c.emg,eb:=c.eb,eN:=rfl,esc:=hsc,calm:=rfl,top:=λz=>(by cases z),cb:=λz=>(by cases z),fn:=λx hx=>.inr (by rw [hsc]; exact hx.resolve_left (λz=>by cases z)),room:=c.room,nd:=hnd,vis:=hv,
    Hf:=c.Hf,B:=c.B,RX:=λ_ _=>False,exc:=λ_ _ _ _ _ _ _ _ _ _ _ _ h _ _=>h.elim,RM:=λ_ _=>False,mde:=λ_ _ _ _ _ _ _ _ _ _ _ _ h _=>h.elim }
 have hN0:N'.length=ρt.length:=hfr.len
 have S4:aL c' O0 H2 aM ρt:=by
  refine ⟨S2.bas,hOl,λj r hj hu=>?_,λj j' r r' p hne e1 e2 o1 o2 f1 f2=>?_⟩
  ·rcases hO0 j r hj with ⟨z,_⟩ | hh
   ·exact absurd z hu
   ·refine z4 hh λi y v s0 hh=>w8 hh λh1 h2 h3' h4' hs5 hs6 h5 h6=>?_
    obtain ⟨v',e3,q3⟩:=S2.at_ i s0 h4' hs6
    rw [h5] at e3; cases e3
    subst hs5
    exact ⟨v,h6,oB (λow=>by
     obtain ⟨p,_,rfl,_⟩:=q3.ou ow
     rw [ht i y p h3' h5]) q3⟩
  ·have u1:r≠.un:=by rintro rfl; cases o1
   have u2:r'≠.un:=by rintro rfl; cases o2
   rcases hO0 j r e1 with ⟨z,_⟩ | hh
   ·exact u1 z
   rcases hO0 j' r' e2 with ⟨z,_⟩ | hh'
   ·exact u2 z
   refine z4 hh λi y v s0 hh=>w8 hh λh1 h2 h3' h4' hs5 hs6 h5 h6=>z4 hh' λi' y' v' s0' hh'=>w8 hh' λh1' h2' h3'' h4'' hs5' hs6' h5' h6'=>?_
   rw [f1] at h6; cases h6
   rw [f2] at h6'; cases h6'
   have hii:i≠i':=λz=>by
    subst z
    rw [h3'] at h3''; cases h3''
    have a1:j<N'.length:=(FA.mp h1).1
    exact hne ((List.getElem?_inj a1 hnd).mp (h1.trans h1'.symm))
   subst hs5; subst hs5'
   rw [jn] at o1 o2
   exact S2.sep i i' s0 s0' p hii h4' h4'' o1 o2 h5 h5'
 have howA:∀ (j:Nat) (r:Sl),ρt[j]?=some r->r.owned=true->∃ b,r.adr=some b/\b≠Da:=λj r hj ho=>by
  rcases hO0 j r hj with ⟨z,_⟩ | hh
  ·subst z; cases ho
  ·refine z4 hh λi y v s0 hh=>w8 hh λh1 h2 h3' h4' hs5 hs6 h5 h6=>?_
   subst hs5
   rw [jn] at ho
   obtain ⟨b,eb⟩:=xj (a:=t y) ho
   refine ⟨b,eb,λz=>?_⟩
   obtain ⟨v',e3,q3⟩:=S1.at_ i s0 h4' hs6
   obtain ⟨p,o,e4,_,e5,_⟩:=q3.ou ho
   subst e4
   have q4:=oB (a:=t y) (λ_=>by rw [ht i y p h3' e3]) q3
   have:=oE eb q4
   rw [this,z,nK] at e5; cases e5
 have hB0:c.B Da=none:=S1.bas.s.free nK
 have fps:∀ {H':Hp},(∀ b∈fp,H' b=none)->∀ b∈fp,d9 X' [] H' b:=λhn b hb =>
  ⟨hn b hb,F0 (fplt b hb),okX.exfs b hb,.inl hb,λx a ea=>(hfp b hb).2.2.2.2.1 x a (rC x a ea).1,λp hp=>by cases hp⟩
 have fin:∀ (s':Shared) (O':L2.St) (H' ai:Hp) (vs:List V) (fq:Fp),Inv X' [] O' H' s'->bf H1 aM H' ai->H' Da=some (.lst vs)->ai Da=none->aH c.X.K H' ai (os.filterMap id) vs fq->(fq.map (·.1)).Nodup->(∀ b∈fq,H1 b.1=none) ->
  compPost (model c.X.prog c.X.w) c.X.A eS use QQ (.ref Da) h3.objs.size (.ok .next) s':=λs' O' H' ai vs fq I' g' hD hfD hr hnd2 hfr2=>by
  obtain ⟨m,hm,_⟩:=I'.loc
  have hCX:h3.objs.size∉c.X.fs:=I3.BX (Fq _)
  have hCf:d9 c.X aa H' h3.objs.size:=by
   refine ⟨I'.free,λz=>?_,hCX,.inr I3.sz,λx a ea z=>?_,λp hp z=>?_⟩
   ·obtain ⟨m0,hm0,_⟩:=I3.loc
    obtain ⟨o,_,_,e,_⟩:=hm0
    exact absurd (Fw e) (by rw [<- z]; exact GL _)
   ·obtain ⟨v',oc,e,_⟩:=I3.cell x a ea
    exact absurd (Fw e) (by rw [z]; exact GL _)
   ·exact absurd (Fw (I3.pin p hp).1) (by rw [z]; exact GL _)
  refine kont s' H' ai Da h3.objs.size (os.filterMap id) vs fq hR ⟨m,hm⟩ hCX hCf (g.s.free nK) hD hfD hr hnd2 (λb hb=>g.s.free (hfr2 b hb)) (g.trans g') λh5 rD=>?_
  have ub:Un (frs c.X.stack) fp H2 H' s3.heap h5:=by
   have u:=I'.base
   have ne:∀ b o,s3.heap.get? b=some o->b≠h3.objs.size:=λb o e=>F0 (Fw e)
   refine ⟨λb o e n hf hx=>(rD.2 b (ne b o e)).trans (u.keep b o e n hf hx),λb o e n hf hx=>?_,u.free,λb o e hx=>?_,u.tups,u.frzs,u.tbls⟩
   ·obtain ⟨sl,e2⟩:=u.slot b o e n hf hx
    exact ⟨sl,(rD.2 b (ne b o e)).trans e2⟩
   ·obtain ⟨o',e2⟩:=u.there b o e hx
    exact ⟨o',(rD.2 b (ne b o e)).trans e2⟩
  have hokf:fC c.X.prog c.X.w H' h5:=λb u e=>(I'.hok b u e).stay (λa o ha e2=>by
   refine (rD.2 a ?_).trans e2
   intro z; subst z
   have hfree':H' h3.objs.size=none:=I'.free
   rcases ha with z | z
   ·subst z; rw [hfree'] at e; cases e
   ·rw [hfree'] at z; cases z) (λ_ z=>z) λ_ _ z=>z
  exact I3.yu (ch:=fp) I'.os ub hokf I'.bare λb hb=>⟨(hfp b hb).2.2.2.1,(hfp b hb).2.1,(hfp b hb).2.2.2.2.1,(hfp b hb).2.2.2.2.2⟩
 have loop:codeAny (model c.X.prog c.X.w) c.X.A (.compLoop (.ListComp elt [⟨tg,iter,ifs,0⟩] scope pos) 0 (.ref it) (.ref Da) X'.env) (compPost (model c.X.prog c.X.w) c.X.A eS use QQ (.ref Da) h3.objs.size) { s2 with heap:=h4,toks:=s2.toks+([]:List (Str×Value)).length }:=by
  refine jW (λn s'=>∃ (i:Nat) (O':L2.St) (H' ai:Hp) (vs:List V) (fq:Fp),n=ds.length - i/\i<=ds.length/\Inv X' [] O' H' s'/\tn i s'.heap/\aL c' O' H' ai ρt/\bf H1 aM H' ai/\H' Da=some (.lst vs)/\ai Da=none/\aH c.X.K H' ai ((os.take i).filterMap id) vs fq/\(fq.map (·.1)).Nodup/\(∀ b∈fq,H1 b.1=none)/\vs.length<=i/\∀ b∈fp,H' b=none) ?_ ds.length
   ⟨0,O0,H2,aM,[],[],by simp,Gw _,I4,Tn.keep _ _ _ t0 λb hb o e=>k4 b o (k3 b o e),S4,bf.gS g.b nK,ah,g.b.free nK,by simp [aH],List.nodup_nil,(λb hb=>by cases hb),Fq _,λb hb=>by show upd H1 Da _ b=none; rw [af (fpne b hb)]; exact (hfp b hb).1⟩
  refine λn s5 hh=>z5 hh λi O5 H5 Hf5 vs hh=>hh.elim λfq hh=>w6 hh λen hi I5 t5 S5 hh=>w6 hh λg5 hD5 hfD5 hr5 hnd5 hh=>w3 hh λhfr5 hlv fr5=>?_
  subst en
  by_cases hlt:i<ds.length
  ·have ed:ds[i]?=some ds[i]:=F7 hlt
   have eo:os[i]?=some (os[i]'(by rw [hol]; exact hlt)):=F7 _
   generalize ds[i]=d at ed
   generalize os[i]'(by rw [hol]; exact hlt)=o at eo
   obtain ⟨hgo,hy⟩:=io.go i d H5 Hf5 g5.f g5.b ed
   refine aZ (Tn.item X' rfl rfl rfl rfl i [] s5 O5 H5 eS I5 (fps fr5) t5 hgo) λr s6 hh=>hh.elim λu hh=>w2 hh λhr h6=>?_
   subst hr
   refine aZ h6 λ_ s7 hh=>z2 hh λx H7 hh=>w5 hh λI7 rx y7 t7 fr7=>?_
   obtain ⟨Hf7,g7,rx7⟩:=hy x H7 y7
   have I7':=I7.pinned (fps fr7) (Tn.obj _ _ t7)
   have S7:aL c' O5 H7 Hf7 ρt:=S5.bY g7
   have hasg0:=hb c' rfl t i d o ed eo
   rw [hρ] at hasg0
   have hasg:=hasg0 O5 H7 Hf7 x (λO2 H2'=>∃ bN ρ1,aL c' O2 H2' bN ρ1/\bf H7 Hf7 H2' bN/\vO ρt ρ1/\oz c' ifs ρ1 (gT (cR c' elt ρ1 λr=>∃ z,o=some z/\r.sh=some z) (o=none))) S7 rx7 (λO2 H2' bN ρ1 S' g' hw=>⟨bN,ρ1,S',g',hw⟩) _ s7 u I7' rx
   refine aZ (show wpAny _ _ _ _ eS _ from hasg) λ_ s8 hh=>z2 hh λO8 H8 hh=>w2 hh λI8 hh=>z2 hh λHf8 ρ8 hh=>w4 hh λS8 g8 w8 hC8=>?_
   refine aZ (jm (c:=c') rfl ifs S8 hC8 (Q:=λb H'=>∃ ai,gT (cR c' elt ρ8 λr=>∃ z,o=some z/\r.sh=some z) (o=none) b/\bf H8 Hf8 H' ai) (λb H' ai hb' g'=>⟨ai,hb',g'⟩) I8) λb s9 hh=>hh.elim λH9 hh=>w2 hh λI9 hh=>hh.elim λHf9 hh=>w2 hh λhb9 g9=>?_
   have g79:=(g7.trans g8).trans g9
   have hD9:H9 Da=some (.lst vs):=g79.s _ _ hD5
   have hfD9:Hf9 Da=none:=g79.n Da hfD5 (by rw [hD5]; simp) (by intro ys; rw [hD5]; simp)
   have keepT:∀ {O':L2.St} {H':Hp} {s':Shared},Inv X' ([]++fE fp s7.heap) O' H' s'->tn (i+1) s'.heap/\∀ b∈fp,H' b=none:=λ{O' H' s'} I' =>
    ⟨Tn.keep _ _ _ t7 λb hb' ob e=>(I'.pin (b,ob) (Gr _ (Gr _ (ck hb' e)))).1,λb hb'=>by
      obtain ⟨ob,e,_⟩:=Tn.obj _ _ t7 b hb'
      exact (I'.pin (b,ob) (Gr _ (Gr _ (ck hb' e)))).2.1⟩
   have wk:∀ {O':L2.St} {H' ai:Hp},aL c' O' H' ai ρ8->aL c' O' H' ai ρt:=λS'=>cJ.weak S' w8.weak.1 w8.weak.2
   have tk:(os.take (i+1)).filterMap id=(os.take i).filterMap id++o.toList:=by
    rw [List.take_add_one,eo,List.filterMap_append]
    cases o <;> rfl
   cases b with
   | false =>
    have eo':=hb9.f rfl
    subst eo'
    rw [if_neg Fv]
    obtain ⟨t9,fr9⟩:=keepT I9
    have hr9:aH c.X.K H9 Hf9 ((os.take i).filterMap id) vs fq:=aH.mv g79.f _ (λa _ e1 e2=>⟨g79.s _ _ e1,g79.n a.1 e2 (by rw [e1]; simp) (by intro ys z; rw [e1] at z; cases z)⟩) hr5
    exact ⟨_,Nat.sub_lt_sub_left hlt (IB i),i+1,O8,H9,Hf9,vs,fq,rfl,hlt,I9.cH,t9,wk (S8.bY g9),g5.trans g79,hD9,hfD9,by rw [tk]; simpa using hr9,hnd5,hfr5,J7 hlv,fr9⟩
   | true =>
    rw [if_pos rfl]
    have hev:=hb9.t rfl O8 H9 Hf9 (λv H'=>∃ ai r,(∃ z,o=some z/\r.sh=some z)/\aJ c.X.K (λp=>H9 p=none) H' ai r v/\bf H9 Hf9 H' ai) (S8.bY g9) (λr v H' ai he r' g'=>⟨ai,r,he,r',g'⟩) _ s9 I9
    refine aZ (show wpAny _ _ _ _ eS _ from hev) λu2 s10 hh=>z2 hh λv2 H10 hh=>w3 hh λI10 r10 hh=>z2 hh λHf10 r hh=>w3 hh λeo0 re g10=>?_
    obtain ⟨z,rfl,eo'⟩:=eo0
    obtain ⟨f1,rf1,nd1,fr1⟩:=AK eo' re
    have z1:=bU.fz z rf1
    have z0:=aH.fz _ hr5
    have g510:=g79.trans g10
    have hr10:aH c.X.K H10 Hf10 ((os.take i).filterMap id) vs fq:=aH.mv g510.f _ (λa _ e1 e2=>⟨g510.s _ _ e1,g510.n a.1 e2 (by rw [e1]; simp) (by intro ys z; rw [e1] at z; cases z)⟩) hr5
    have hD10:H10 Da=some (.lst vs):=g10.s _ _ hD9
    have hfD10:Hf10 Da=none:=g10.n Da hfD9 (by rw [hD9]; simp) (by intro ys; rw [hD9]; simp)
    have app:=jf (X:=X') _ s10 O8 H10 (.ref Da) [v2] (.ref Da) [u2] (λ_ H'=>H'=upd H10 Da (.lst (vs++[v2]))) I10 rfl (.cons r10 .nil) ⟨Da,vs,v2,rfl,rfl,hD10,F9 (GI hlv hlt) hz,rfl⟩
    refine aZ (show wpAny _ _ _ _ eS _ from app) λ_ s11 ⟨_,H11,I11,_,e11⟩=>?_
    subst e11
    obtain ⟨t11,fr11⟩:=keepT I11
    have S10:aL c' O8 H10 Hf10 ρ8:=(S8.bY g9).bY g10
    have gA:bf H1 aM (upd H10 Da (.lst (vs++[v2]))) Hf10:=xm ((g5.trans g79).trans g10) nK hfD10
    refine ⟨_,Nat.sub_lt_sub_left hlt (IB i),i+1,O8,_,Hf10,vs++[v2],fq++f1,rfl,hlt,I11.cH,t11,?_,gA,ah,hfD10,?_,?_,?_,by rw [Gz]; exact Iw hlv,fr11⟩
    ·refine (wk S10).apart hB0 hfD10 (λ⟨_,z⟩=>by rw [hD10] at z; cases z) λj r hj ho=>λz=>?_
     obtain ⟨b,eb,nb⟩:=howA j r hj ho
     obtain ⟨v',e3,q3⟩:=(wk S10).at_ j r hj (by rintro rfl; cases ho)
     rw [z] at e3; cases e3
     exact nb (oE eb q3).symm
    ·rw [tk]
     refine aH.mv (.refl _) _ (λa ha e1 e2=>⟨?_,e2⟩) (aH.snoc rf1 hr10)
     rw [af λz=>by rw [z,hD10] at e1; cases e1]; exact e1
    ·rw [G7,List.nodup_append]
     refine ⟨hnd5,nd1,λa ha b hb z=>?_⟩
     subst z
     obtain ⟨p,hp,ep⟩:=GF.mp ha
     obtain ⟨q,hq',eq⟩:=GF.mp hb
     have e1:=g79.s _ _ (z0 p hp).1
     have e2:=fr1 q hq'
     rw [eq,<- ep,e1] at e2; cases e2
    ·intro b hb
     rcases Gd.mp hb with hb | hb
     ·exact hfr5 b hb
     ·exact (g5.trans g79).s.free (fr1 b hb)
  ·have e:i=ds.length:=Nat.le_antisymm hi (Nat.le_of_not_lt hlt)
   subst e
   refine aZ (Tn.done X' rfl rfl rfl rfl ds.length [] s5 O5 H5 eS I5 (fps fr5) t5 (io.stop _ H5 Hf5 g5.f g5.b (Fq _))) λr s6 ⟨hr,I6⟩=>?_
   subst hr
   refine fin s6 O5 H5 Hf5 vs fq I6 g5 hD5 hfD5 ?_ hnd5 hfr5
   rw [HS (by rw [hol]; exact Fq _)] at hr5
   exact hr5
 exact codeAny_compStart_list loop (Tn.self _ 0 _ _ _ (Tn.keep _ _ _ t0 λb hb o e=>k4 b o (k3 b o e)) loop)
theorem oF:∀ {ds:List D} {vs:List V} {fq:Fp},aH K H Hf (ds.map .v) vs fq->aj K Hf ds vs
 | [],_,_,h=>by simp only [HD,aH] at h; exact au.mpr h.1
 | d::ds,_,_,h=>by
  simp only [FD,aH,bU] at h
  obtain ⟨x,r,f1,f2,rfl,h1,h2,-⟩:=h
  exact aj.cons h1.1 (oF h2)
theorem AL:∀ os:List (Option D),(os.map (Option.map Sh.v)).filterMap id=(os.filterMap id).map Sh.v
 | []=>rfl
 | none::os=>AL os
 | some d::os=>congrArg (Sh.v d:: ·) (AL os)
theorem oz.imp (h:∀ b,T b->T' b):∀ {ifs:List Expr} {ρ:List Sl},oz c ifs ρ T->oz c ifs ρ T'
 | [],_,q=>h _ q
 | _::_,_,q=>λO H Hf Q S z=>q O H Hf Q S λb H' ai hb g=>z b H' ai ⟨λe=>oz.imp h (hb.t e),λe=>h _ (hb.f e)⟩ g
theorem tX (h:oA c tg ifs elt ρ0 d o):tW c tg ifs elt ρ0 d (o.map .v):=λO H Hf v Q S r q=>h O H Hf v Q S r λO' H' ai ρ' S' g hw=>q O' H' ai ρ' S' g ⟨hw.1,oz.imp (λb hb=>⟨λe=>λO2 H2 bN Q2 S2 q2=>hb.t e O2 H2 bN Q2 S2 λd2 v2 H3 Hf3 ed rv g3=>q2 (.va d2) v2 H3 Hf3 ⟨.v d2,by rw [ed]; rfl,rfl⟩ rv g3,λe=>by rw [hb.f e]; rfl⟩) hw.2⟩
theorem oG {elt tg iter:Expr} {ifs:List Expr} {scope:Scope} {N':List Str} {ρ0:(Str->Addr)->List Sl} {R:Sl->Prop} (hq:c.X.xe=eS) (hfr:∀ t,qy t scope.names N ρ N' (ρ0 t))
 (h:wX c tg iter ρ λds=>Sd (ds.length<=sizeLine) (∃ os:List (Option D),os.length=ds.length /\
   (∀ c':Ctx P w K mg base k N' (aY scope sc) true,c'.X.xe=eS->∀ (t:Str->Addr) (i:Nat) (d:D) (o:Option D),ds[i]?=some d->os[i]?=some o->oA c' tg ifs elt (ρ0 t) d o)/\R (.ow (os.filterMap id))))
 (hcp:DL scope sc N':=by decide +kernel)
 (hs:∀ env v,foldedSetIterable iter env v=pure v:=by intro _ _; walk_at "u")
 {O:L2.St} {H Hf:Hp} (S:aL c O H Hf ρ) {aa:List (Addr×Obj)} {s:Shared} (I:Inv c.X aa O H s) {use:Option (Value->Sem Unit)} {QQ:Value->Shared->Prop}
 (kont:∀ (s':Shared) (H' ai:Hp) (a C:Addr) (r:Sl),R r->(∃ m,s'.heap.Ns C m)->C∉c.X.fs->d9 c.X aa H' C->aJ c.X.K (λp=>H p=none) H' ai r (.ref a)->bf H Hf H' ai->(∀ h5,GU C s'.heap h5->Inv c.X aa O H' { s' with heap:=h5 })->compPost (model c.X.prog c.X.w) c.X.A eS use QQ (.ref a) C (.ok .next) s') :
 wpAny (model c.X.prog c.X.w) c.X.A (comprehension (.ListComp elt [⟨tg,iter,ifs,0⟩] scope pos) scope c.X.env (firstIterPos [⟨tg,iter,ifs,0⟩] pos) (newList []) (firstAsync [⟨tg,iter,ifs,0⟩]) (firstIter [⟨tg,iter,ifs,0⟩] c.X.env) use) QQ eS s:=by
 refine xo (R:=λss=>∃ os:List D,ss=os.map .v/\R (.ow os)) hq hfr (λO' H' ai Q S' q=>h O' H' ai Q S' λds J H1 aM hd=>q ds J H1 aM ⟨hd.1,hd.2.elim λos ho=>⟨os.map (Option.map .v),by rw [Fx]; exact ho.1,λc' hc t i d o e1 e2=>?_,os.filterMap id,?_,ho.2.2⟩⟩) hcp hs S I λs' H' ai a C ss vs fq hR hC1 hC2 rB ha h1 h2 r nd fr g hJ=>?_
 ·rw [FN,F5] at e2
  obtain ⟨o',e3,rfl⟩:=e2
  exact tX (ho.2.1 c' hc t i d o' e1 e3)
 ·exact AL os
 ·obtain ⟨os,rfl,hR⟩:=hR
  exact kont s' H' ai a C (.ow os) hR hC1 hC2 rB ⟨a,vs,rfl,ha,h1,h2,oF r⟩ g hJ
theorem tY {elt tg iter:Expr} {ifs:List Expr} {scope:Scope} {N':List Str} {ρ0:(Str->Addr)->List Sl} {R:Sl->Prop} (hq:c.X.xe=eS) (hfr:∀ t,qy t scope.names N ρ N' (ρ0 t))
 (h:wX c tg iter ρ λds=>Sd (ds.length<=sizeLine) (∃ os:List (Option D),os.length=ds.length /\
   (∀ c':Ctx P w K mg base k N' (aY scope sc) true,c'.X.xe=eS->∀ (t:Str->Addr) (i:Nat) (d:D) (o:Option D),ds[i]?=some d->os[i]?=some o->oA c' tg ifs elt (ρ0 t) d o)/\R (.ow (os.filterMap id))))
 (hcp:DL scope sc N':=by decide +kernel)
 (hs:∀ env v,foldedSetIterable iter env v=pure v:=by intro _ _; walk_at "u"):cR c (.ListComp elt [⟨tg,iter,ifs,0⟩] scope pos) ρ R:=λO H Hf Q S q aa s I=>by
 rw [hq]
 rw [show (eval (.ListComp elt [⟨tg,iter,ifs,0⟩] scope pos) c.X.env)=comprehension (.ListComp elt [⟨tg,iter,ifs,0⟩] scope pos) scope c.X.env (firstIterPos [⟨tg,iter,ifs,0⟩] pos) (newList []) (firstAsync [⟨tg,iter,ifs,0⟩]) (firstIter [⟨tg,iter,ifs,0⟩] c.X.env) from rfl]
 exact oG hq hfr h hcp hs S I λs' H' ai a C r hr ⟨m,hm⟩ _ _ hrep g hJ=>⟨m,hm,λh5 rD=>⟨.ref a,H',hJ h5 rD,rfl,q r _ H' ai hr hrep g⟩⟩
theorem jX:GU a h h:=⟨rfl,λ_ _=>rfl⟩
theorem xq (I:Inv X aa O H s) (hC:d9 X aa H C) (hsb:GU C s.heap h5):Inv X aa O H { s with heap:=h5 }:=by
 refine I.yu (ch:=[C]) rfl ⟨λb o e _ _ hx=>?_,λb o e _ _ hx=>⟨o.slots,?_⟩,λb o e n _=>n,λb o e hx=>⟨o,?_⟩,λb xs e=>e,λb o u e=>e,λb ps e=>⟨#[],by simpa using e⟩⟩ (λb u e=>(I.hok b u e).stay (λa o ha e2=>?_) (λ_ z=>z) λ_ _ z=>z) I.bare λb hb=>?_
 ·exact (hsb.2 b (λz=>hx (by rw [z]; exact FF))).trans e
 ·exact (hsb.2 b (λz=>hx (by rw [z]; exact FF))).trans e
 ·exact (hsb.2 b (λz=>hx (by rw [z]; exact FF))).trans e
 ·refine (hsb.2 a ?_).trans e2
  intro z; subst z
  rcases ha with z | z
  ·subst z; rw [hC.1] at e; cases e
  ·rw [hC.1] at z; cases z
 ·have:b=C:=by simpa using hb
  subst this
  exact ⟨hC.2.2.2.1,hC.2.1,hC.2.2.2.2.1,hC.2.2.2.2.2⟩
theorem AM {elt tg iter:Expr} {ifs:List Expr} {scope:Scope} {N':List Str} {ρ0:(Str->Addr)->List Sl} {nx:List Sl->Prop} {p:Pt} {x:Str} {pos2 posA:Pos} {i:Nat} (hN:At N i x) (hq:c.X.xe=eS) (hfr:∀ t,qy t scope.names N ρ N' (ρ0 t))
 (h:wX c tg iter ρ λds=>Sd (ds.length<=sizeLine) (∃ os:List (Option D),os.length=ds.length /\
   (∀ c':Ctx P w K mg base k N' (aY scope sc) true,c'.X.xe=eS->∀ (t:Str->Addr) (i:Nat) (d:D) (o:Option D),ds[i]?=some d->os[i]?=some o->oA c' tg ifs elt (ρ0 t) d o)/\Nx ρ i nx (.ow (os.filterMap id))))
 (hsw:(pos2.line == pos.line && !scope.names.any λ(n,k)=>n == x && (k == NameKind.local || k == NameKind.cell))=true:=by decide +kernel) (hl:sc.names.lookup x=some .local:=by walk_at "u")
 (hcp:DL scope sc N':=by decide +kernel)
 (hs:∀ env v,foldedSetIterable iter env v=pure v:=by intro _ _; walk_at "u"):d7 c (.Assign [.Name x pos2] (.ListComp elt [⟨tg,iter,ifs,0⟩] scope pos) posA) ρ nx p:=λO H Hf D S o aa s I=>by
 have hsw':swapsWith (.ListComp elt [⟨tg,iter,ifs,0⟩] scope pos) (some (.Name x pos2)) posA.line c.X.env=pure true:=by
  have e1:c.X.env.blockKind=.function:=by unfold Env.blockKind; rw [show c.X.env.scope.kind=.function from I.ok.kind]; rfl
  have e2:c.X.env.kindOf x=some .local:=by unfold Gm; rw [c.esc]; exact hl
  show pure (c.X.env.blockKind == ScopeKind.function && c.X.env.kindOf x == some NameKind.local && pos2.line == pos.line && !scope.names.any λ(n,k)=>n == x && (k == NameKind.local || k == NameKind.cell))=pure true
  rw [e1,e2]; exact congrArg pure hsw
 rw [hq,exec_Assign_Name_used x pos2 _ posA hsw']
 refine Ff (Jq ?_)
 refine Ff ?_
 rw [show (evalThenUse (.ListComp elt [⟨tg,iter,ifs,0⟩] scope pos) c.X.env (assign (.Name x pos2) c.X.env))=(do let _ <- comprehension (.ListComp elt [⟨tg,iter,ifs,0⟩] scope pos) scope c.X.env (firstIterPos [⟨tg,iter,ifs,0⟩] pos) (newList []) (firstAsync [⟨tg,iter,ifs,0⟩]) (firstIter [⟨tg,iter,ifs,0⟩] c.X.env) (some (assign (.Name x pos2) c.X.env)); pure ()) from rfl]
 refine Ff (oG hq hfr h hcp hs S I λs' H' ai a C r hr ⟨m,hm⟩ hCX hCf hrep g hJ=>?_)
 have J:=hJ s'.heap jX
 obtain ⟨oC,es,ep,e1,e2,e3,e4⟩:=hm
 have fps:∀ b∈[C],d9 c.X aa H' b:=λb hb=>by rw [Gj.mp hb]; exact hCf
 have hob:∀ b∈[C],∃ o,s'.heap.get? b=some o/\∀ v:Option Value,o.data≠.cell v:=λb hb=>by
  rw [Gj.mp hb]; exact ⟨oC,e1,λv z=>by rw [e2] at z; cases z⟩
 have J2:=J.pinned fps hob
 have hmem:(C,oC)∈fE [C] s'.heap:=ck FF e1
 obtain ⟨ρ',hset,hx⟩:=hr
 have st:=sF (jH (X:=c.X) (i:=i) (pos:=pos2) (by rw [c.eN]; exact c.nd) (by rw [c.eN]; exact hN.get) (by rw [c.esc]; exact c.vis x hN.mem) (c.fn x (.inr hl))) (v:=.ref a) (O:=O) (H:=H') (Q:=λO' H''=>D.nx O' H'') (o.nx _ H' ai _ (hset.eq ▸ S.set g hrep) hx) _ s' (.ref a) J2 rfl
 rw [hq] at st
 refine aZ st λ_ s'' ⟨O',H'',I'',dn⟩=>?_
 have pC:=I''.pin (C,oC) (Gr _ (Gr _ hmem))
 refine ⟨m,⟨oC,es,ep,pC.1,e2,e3,e4⟩,λh' hsb=>?_⟩
 have I3:Inv c.X aa O' H'' s'':=I''.cH
 have I4:=xq I3 (C:=C) ⟨pC.2.1,hCf.2⟩ hsb
 exact Fl (Fl ⟨_,_,I4,dn⟩)
end
mutual
def D.nl:D->Prop
 | .lst _=>False
 | .fdK _ _=>False
 | .fdT _ _=>False
 | .tup ds=>D.m5 ds
 | _=>True
def D.m5:List D->Prop
 | []=>True
 | d::ds=>d.nl/\D.m5 ds
end
theorem oH:∀ {ds:List D},D.m5 ds↔∀ d∈ds,d.nl
 | []=>by simp [D.m5]
 | d::ds=>by simp [D.m5,oH (ds:=ds)]
theorem jY {α:Type} {f:α->D} {l:List α} (h:∀ x∈l,(f x).nl):D.m5 (l.map f):=oH.mpr λd hd=>by
 obtain ⟨x,hx,rfl⟩:=GF.mp hd
 exact h x hx
theorem jZ:(D.int i).nl:=by simp [D.nl]
theorem gy (l:List Int):D.m5 (l.map D.int):=jY λx _=>jZ
theorem m7 (h:D.m5 ds):(D.tup ds).nl:=by simpa [D.nl] using h
noncomputable def HO.mt:HO->Prop | .lst _=>True | .dK _=>True | .dT _=>True | _=>False
theorem qz {K:Fi} (hp:Hf p=some o) (hm:HO.mt o) (h:bO K Hf a xs):bO K (del Hf p) a xs:=by
 rcases h with (h | ⟨o',h⟩) | h
 ·exact .inl (.inl (by rw [bB (by rintro rfl; rw [hp] at h; cases h; exact hm)]; exact h))
 ·exact .inl (.inr ⟨o',by rw [bB (by rintro rfl; rw [hp] at h; cases h; exact hm)]; exact h⟩)
 ·exact .inr h
mutual
theorem tZ {K:Fi} {Hf:Hp} {p:Addr} {o:HO} (hp:Hf p=some o) (hm:HO.mt o):∀ (d:D) {v:V},d.nl->Rep K Hf d v->Rep K (del Hf p) d v
 | .non,_,_,h=>by simpa [Rep] using h
 | .bl _,_,_,h=>by simpa [Rep] using h
 | .int _,_,_,h=>by simpa [Rep] using h
 | .str _,_,_,h=>by simpa [Rep] using h
 | .adr _,_,_,h=>by simpa [Rep] using h
 | .tup ds,v,f,h=>by
  simp only [Rep] at h |-
  obtain ⟨a,xs,e,h1,h2⟩:=h
  exact ⟨a,xs,e,qz hp hm h1,oJ hp hm ds (by simpa [D.nl] using f) h2⟩
 | .lst _,_,f,_=>by simp [D.nl] at f
 | .fdK _ _,_,f,_=>by simp [D.nl] at f
 | .fdT _ _,_,f,_=>by simp [D.nl] at f
 | .exc C,_,_,h=>by
  simp only [Rep] at h |-
  obtain ⟨a,e,h⟩:=h
  exact ⟨a,e,by rw [bB (by rintro rfl; rw [hp] at h; cases h; exact hm)]; exact h⟩
theorem oJ {K:Fi} {Hf:Hp} {p:Addr} {o:HO} (hp:Hf p=some o) (hm:HO.mt o):∀ (ds:List D) {xs:List V},D.m5 ds->aj K Hf ds xs->aj K (del Hf p) ds xs
 | [],_,_,h=>by simpa [aj] using h
 | d::ds,xs,f,h=>by
  simp only [aj] at h |-
  simp only [D.m5] at f
  obtain ⟨x,r,e,h1,h2⟩:=h
  exact ⟨x,r,e,tZ hp hm d f.1 h1,oJ hp hm ds f.2 h2⟩
end
noncomputable def Sl.nl:Sl->Prop
 | .va d=>d.nl
 | .ow ds=>D.m5 ds
 | _=>False
section
variable {P:Program} {w:World} {K:Fi} {mg:Str->Option Value} {base:Heap} {k:Nat} {N:List Str} {sc:Scope} {bk:Bool} {c:Ctx P w K mg base k N sc bk} {ρ ρ':List Sl} {pos ap cp px tp:Pos} {a b e f:Expr} {es:List Expr} {R:D->Prop} {T:Bool->Prop} {nx:List Sl->Prop} {p:Pt} {x:Str} {i:Nat} {r:Sl} {ds:List D}
noncomputable def Sl.gp:Sl->Option D
 | .ow ds=>some (.lst ds) | .aw _ ds=>some (.lst ds)
 | _=>none
theorem ig (h:r.gp=some d):r.owned=true:=by cases r <;> first | rfl | cases h
theorem eU {κ:Type} {Hf:Hp} {kvs:List (κ×D)} {xs:List (κ×V)} (h:jQ K Hf kvs xs):xs.map (·.1)=kvs.map (·.1)/\aj K Hf (kvs.map (·.2)) (xs.map (·.2)):=by
 unfold jQ at h
 induction h with
 | nil=>exact ⟨rfl,au.mpr rfl⟩
 | cons h t ih=>exact ⟨by rw [FD,FD,ih.1,h.1],.cons h.2 ih.2⟩
theorem cN (h:iR K Hf kvs xs):xs.map (·.1)=kvs.map (·.1)/\(∀ y∈xs,bO K Hf y.2.1 (y.1.map kV))/\aj K Hf (kvs.map (·.2)) (xs.map (·.2.2)):=by
 refine ⟨?_,h.tV,?_⟩
 ·unfold iR at h
  induction h with
  | nil=>rfl
  | cons h t ih=>rw [FD,FD,ih,h.1]
 ·unfold iR at h
  induction h with
  | nil=>exact au.mpr rfl
  | cons h t ih=>exact .cons h.2.2 ih
theorem aJ.gp (h:r.gp=some d) (q:aJ K fr H Hf r v):∃ p o,v=.ref p/\fr p/\H p=some o/\Hf p=none/\HO.mt o/\Rep K (upd Hf p o) d v:=by
 have sf:∀ {p:Addr} {o:HO},Hf p=none->aD Hf (upd Hf p o):=λhp b u e=>by rw [af (aq e hp)]; exact e
 cases r with
 | ow ds=>cases h; obtain ⟨p,xs,rfl,f,h1,h2,h3⟩:=q; exact ⟨p,_,rfl,f,h1,h2,trivial,aP.mpr ⟨p,xs,rfl,.inl (.inl ah),h3.mono (sf h2)⟩⟩
 | aw a ds=>cases h; obtain ⟨p,xs,rfl,f,h1,h2,h3⟩:=q; exact ⟨p,_,rfl,f.1,h1,h2,trivial,aP.mpr ⟨p,xs,rfl,.inl (.inl ah),h3.mono (sf h2)⟩⟩
 | _=>cases h
theorem cJ.oM (S:cJ K H₀ cS O H Hf ρ) (h:ρ[i]?=some r) (hr:r.gp=some d) :
 ∃ q o,H q=some o/\Hf q=none/\HO.mt o/\cJ K H₀ cS O H (L2.upd Hf q o) (ρ.set i (.va d)):=by
 obtain ⟨q,ev,rq⟩:=S.own h (ig hr)
 obtain ⟨_,o,e0,fq,hq,nI,hm,rd⟩:=rq.gp hr
 cases e0
 have hi:i<ρ.length:=(FA.mp h).1
 have hown:=ig hr
 have sf:aD Hf (L2.upd Hf q o):=λb u e=>by rw [L2.af (aq e nI)]; exact e
 have sb:aD (L2.upd Hf q o) H:=λb u e=>by
  by_cases z:b=q
  ·subst z; rw [L2.ah] at e; rw [hq]; exact e
  ·rw [L2.af z] at e; exact S.sb b u e
 refine ⟨q,o,hq,nI,hm,⟨S.bas.s,S.bas.f.trans sf,sb,λb h1 h2 h3=>?_⟩,by simp [S.len],λj r' hj hu=>?_,λj j' r1 r2 q' hne h1 h2 o1 o2=>?_⟩
 ·have e:=S.bas.n b h1 h2 h3
  by_cases z:b=q
  ·subst z; exact absurd fq h2
  ·rw [L2.af z]; exact e
 ·by_cases z:j=i
  ·subst z
   rw [Gq hi] at hj
   cases hj
   exact ⟨_,ev,rd⟩
  ·rw [Gs (FI z)] at hj
   obtain ⟨v,e1,e2⟩:=S.at_ j r' hj hu
   refine ⟨v,e1,?_⟩
   have key:r'.owned=true->v≠.ref q:=λho z=>by
    subst z
    exact S.sep i j _ _ q (FI ‹_›) h hj hown ho ev e1
   exact aJ.mv (B:=λz=>z=q) sf (λz u hz e1 _ e3=>⟨e1,by rw [L2.af hz]; exact e3⟩) (by rintro _ z rfl ⟨ys,e9⟩; rw [hq] at e9; cases e9; exact hm) (λho z e=>by rintro rfl; exact key ho e) e2
 ·have out:∀ {j:Nat} {r:Sl},(ρ.set i (.va d))[j]?=some r->r.owned=true->ρ[j]?=some r:=λ{j r} hj ho=>by
   by_cases z:j=i
   ·subst z; rw [Gq hi] at hj; cases hj; cases ho
   ·rw [Gs (FI z)] at hj; exact hj
  exact S.sep j j' r1 r2 q' hne (out h1 o1) (out h2 o2) o1 o2
theorem t6 (sb:aD Hf H) (hq:H q=some o) (nI:Hf q=none) (g:bf H (upd Hf q o) H' ai):bf H Hf H' (del ai q) :=
 ⟨g.s,λb o e=>by rw [bB (aq e nI)]; exact g.f b o (by rw [af (aq e nI)]; exact e),λb o e=>by obtain ⟨_,e2⟩:=g6 e; exact g.b b o e2,λb h1 h2 h3=>by
   by_cases z:b=q
   ·subst z; exact gZ
   ·rw [bB z]; exact g.n b (by rw [af z]; exact h1) h2 h3⟩
theorem t8 (i) (hi:At ρ i r) (hr:r.gp=some d0) (hs:SSet ρ i (.va d0) ρ') (h:aA c e ρ' λd=>Sd d.nl (R d)):aA c e ρ R:=λO H Hf Q S q=>by
 obtain ⟨a,o,ha,BV,hm,S1⟩:=S.oM hi.get hr
 rw [<- hs.eq] at S1
 exact h O H _ Q S1 λd v H' ai ⟨fl,rd⟩ rv g=>q d v H' _ rd (tZ (g.f a _ ah) hm d fl rv) (t6 S.sb ha BV g)
theorem dO {st:List Stmt} (i) (hi:At ρ i r) (hr:r.gp=some d0) (hs:SSet ρ i (.va d0) ρ') (h:aQ c st ρ' nx p):aQ c st ρ nx p:=λO H Hf D S o=>by
 obtain ⟨a,ob,ha,BV,hm,S1⟩:=S.oM hi.get hr
 rw [<- hs.eq] at S1
 exact h O H _ D S1 o
theorem Dd (hN:At N i x) (hi:At ρ i r) (hr:r.gp=some (.lst ds)) (hs:SSet ρ i (.va (.lst ds)) ρ') (h:aA c b ρ' λy=>Sd y.nl (∃ j d,y=.int j/\gM ds j=some d/\Sd d.nl (R d))) (hx:At ρ' i (.va (.lst ds)))
 (hd:(x == ("__debug__":Str))=false:=by decide) (hcd:(x == ("__classdict__":Str))=false:=by decide) (hp:gq b:=by with_unfolding_all exact λ_ _=>rfl):aA c (.Subscript (.Name x p2) b pos) ρ R :=
 t8 i hi hr hs (C3 (nX hN hx (h.imp λy ⟨_,j,d,e1,e2,e3⟩=>⟨ds,j,d,rfl,e1,e2,e3⟩) hd hcd) hp)
theorem SSet.at (h:SSet l i r l'):At l' i r:=by
 induction h with
 | z=>exact .z
 | s _ ih=>exact .s ih
theorem AN (hm:mg "len"=none) (hN:At N i x) (hi:At ρ i r) (hr:r.gp=some (.lst ds)) (hs:SSet ρ i (.va (.lst ds)) ρ') (h:R (.int ds.length)) (hg:sc.names.lookup (Fg "len")=some .globalImplicit:=by walk_at "u")
 (hd:(x == ("__debug__":Str))=false:=by decide) (hcd:(x == ("__classdict__":Str))=false:=by decide)
 (he:∀ env,starEach [.Name x p2] env=(false,eval (.Name x p2) env)::starEach [] env:=by intro _; walk_at "u"):aA c (.Call (.Name "len" p1) [.Name x p2] [] pos) ρ R :=
 t8 i hi hr hs (e_len hm (nX hN hs.at ⟨ds,rfl,jZ,h⟩ hd hcd) hg he)
theorem uc (hm:mg "tuple"=none) (hN:At N i x) (hi:At ρ i r) (hr:r.gp=some (.lst ds)) (hs:SSet ρ i (.va (.lst ds)) ρ') (h:Sd (D.m5 ds) (R (.tup ds))) (hg:sc.names.lookup (Fg "tuple")=some .globalImplicit:=by walk_at "u")
 (hd:(x == ("__debug__":Str))=false:=by decide) (hcd:(x == ("__classdict__":Str))=false:=by decide)
 (he:∀ env,starEach [.Name x p2] env=(false,eval (.Name x p2) env)::starEach [] env:=by intro _; walk_at "u"):aA c (.Call (.Name "tuple" p1) [.Name x p2] [] pos) ρ R :=
 t8 i hi hr hs (om hm (nX hN hs.at ⟨ds,rfl,m7 h.s,h.r⟩ hd hcd) hg he)
theorem EB (h:cR c e ρ (yD R)):aA c e ρ R:=e_x h
end
end EV
set_option maxHeartbeats 0
namespace EV
open PySem PySem.Spec PyProof.Rows L2
section
variable {P:Program} {w:World} {K:Fi} {mg:Str->Option Value} {base h:Heap}
def aI (K:Fi) (mg:Str->Option Value) (x:Str) (st:Stmt):Prop:=∃ f fd,mg x=some (.ref f)/\gr K x x st f fd
theorem AO {st:Stmt} {kV doc pm cdv ct:Value} (KX:K.In h) (G:h.Ns mainGlobals mg) (a:F6 K mainGlobals x=some (some (.ref f)))
 (l:K.lookup f=some ⟨oc,od,.func (Hh x x (di st) (aE st) (aF st) .none kV doc pm an cdv ct),osl⟩) (c:Jl K cdv x=true) (k:HA K (.ref f)=true):aI K mg x st :=
 ⟨f,_,PySem.W.mg_of KX G a,Al l c k⟩
theorem AQ (e:(t == Hi T)=false) (m:PySem.W.kitMeta T=true) (s:PySem.W.subIn K t (.type T)=some b):GC K t (.type T)=some b:=by
 unfold GC PySem.W.kitCls
 simp [e,m,s]
theorem lg (e:(t == t)=true):GC K t t=some true:=by
 unfold GC
 simp [e]
structure Txt (K:Fi) (mg:Str->Option Value):Prop where
 abs:mg "abs"=none
 len:mg "len"=none
 isin:mg "isinstance"=none
 range:mg "range"=none
 int:mg "int"=none
 bool:mg "bool"=none
 tuple:mg "tuple"=none
 list:mg "list"=none
 max:mg "max"=none
 min:mg "min"=none
 sum:mg "sum"=none
 sorted:mg "sorted"=none
 zip:mg "zip"=none
 enum:mg "enumerate"=none
 all:mg "all"=none
 any:mg "any"=none
 dict:mg "dict"=none
 ib:GC K (.type "int") (.type "bool")=some false
theorem Txt.De (T:Txt K mg):gw mg "int" (.type "int"):=.inr ⟨_,rfl,T.int,by decide +kernel,by decide +kernel⟩
theorem Txt.AR (T:Txt K mg):gw mg "bool" (.type "bool"):=.inr ⟨_,rfl,T.bool,by decide +kernel,by decide +kernel⟩
theorem Txt.xr (T:Txt K mg):gw mg "tuple" (.type "tuple"):=.inr ⟨_,rfl,T.tuple,by decide +kernel,by decide +kernel⟩
theorem AS:GC K (.type "int") (.type "int")=some true:=lg (by decide)
theorem AU:GC K (.type "tuple") (.type "tuple")=some true:=lg (by decide)
theorem AV (KX:K.In h) (G:h.Ns mainGlobals mg)
 (z1:F6 K mainGlobals "abs"=some none)
 (z2:F6 K mainGlobals "len"=some none)
 (z3:F6 K mainGlobals "isinstance"=some none)
 (z4:F6 K mainGlobals "range"=some none)
 (z5:F6 K mainGlobals "int"=some none)
 (z6:F6 K mainGlobals "bool"=some none)
 (z7:F6 K mainGlobals "tuple"=some none)
 (z8:F6 K mainGlobals "list"=some none)
 (z9:F6 K mainGlobals "max"=some none)
 (z10:F6 K mainGlobals "min"=some none)
 (z11:F6 K mainGlobals "sum"=some none)
 (z12:F6 K mainGlobals "sorted"=some none)
 (z13:F6 K mainGlobals "zip"=some none)
 (z14:F6 K mainGlobals "enumerate"=some none)
 (z15:F6 K mainGlobals "all"=some none)
 (z16:F6 K mainGlobals "any"=some none)
 (z17:F6 K mainGlobals "dict"=some none)
 (sib:PySem.W.subIn K (.type "int") (.type "bool")=some false):Txt K mg :=
 ⟨Gb KX G z1,Gb KX G z2,Gb KX G z3,Gb KX G z4,Gb KX G z5,Gb KX G z6,Gb KX G z7,Gb KX G z8,
  Gb KX G z9,Gb KX G z10,Gb KX G z11,Gb KX G z12,Gb KX G z13,Gb KX G z14,Gb KX G z15,Gb KX G z16,Gb KX G z17,
  AQ (by decide) (by decide) sib⟩
theorem EC {α:Type} (us:List α) (h:us.length=1):∃ a,us=[a]:=by match us,h with | [a],_=>exact ⟨a,rfl⟩
theorem ED {α:Type} (us:List α) (h:us.length=2):∃ a b,us=[a,b]:=by match us,h with | [a,b],_=>exact ⟨a,b,rfl⟩
theorem EE {α:Type} (us:List α) (h:us.length=3):∃ a b c,us=[a,b,c]:=by match us,h with | [a,b,c],_=>exact ⟨a,b,c,rfl⟩
theorem EF {α:Type} (us:List α) (h:us.length=4):∃ a b c d,us=[a,b,c,d]:=by match us,h with | [a,b,c,d],_=>exact ⟨a,b,c,d,rfl⟩
theorem bx (P) (w) (base) {st:Stmt} (D:aI K mg x st) (ok:∀ {f:Addr} {fd:FuncData},gr K x x st f fd->bD P w K mg base (fZ P w) k f fd ps (fK K F))
 (hb:∀ (kV doc pm:Value) (an:Option Addr) (cdv ct:Value) (us:List Value),us.length=ps.length->bindArgs (Hh x x (di st) (aE st) (aF st) .none kV doc pm an cdv ct) ⟨us,[]⟩=pure (ps.zip us):=by intro _ _ _ _ _ _ us hl; first | (obtain ⟨a,rfl⟩:=EC us hl; rfl) | (obtain ⟨a,b,rfl⟩:=ED us hl; rfl) | (obtain ⟨a,b,c,rfl⟩:=EE us hl; rfl) | (obtain ⟨a,b,c,d,rfl⟩:=EF us hl; rfl) | (obtain ⟨a,b,c,d,e,rfl⟩:=len5 us hl; rfl) | (obtain ⟨a,b,c,d,e,f,rfl⟩:=len6 us hl; rfl) | (obtain rfl:=len0 us hl; rfl)):gn P w K mg base k x F :=
 let ⟨f,fd,m,Fu⟩:=D; ⟨f,fd,ps,m,Fu.kp,Fu.binds hb,ok Fu⟩
noncomputable def ud:Fn:=λds r=>∃ ns:List Int,ns.length<=63/\ds=[.lst (ns.map D.int)]/\r=.ok (.va (.bl true))
theorem AW (H) (a) (ns:List Int) (hl:ns.length<=63) (hS:dJ K H a (ns.map V.int)):fK K ud [.ref a] H (λv _=>v=.bl true) λ_ _ _=>False :=
 ⟨H,[.lst (ns.map D.int)],.ok (.va (.bl true)),.refl H,.cons (aP.mpr ⟨a,_,rfl,hS,jj ns⟩) (au.mpr rfl),⟨ns,hl,rfl,rfl⟩,λv H' ai _ r=>(bR (K:=K) (H:=ai)).mp r⟩
end
theorem lq (x y):Ft y (x % y)=Ft x y:=by
 have h:Ft y (y * (x / y)+x % y)=Ft y (x % y):=by simp
 rw [Int.mul_ediv_add_emod] at h
 rw [<- h,Int.gcd_comm]
theorem qA {j:Int} (h:j.natAbs<10 ^ n) (hn:n<=2700):j.natAbs.log2<9000:=by
 by_cases z:j.natAbs=0
 ·rw [z]; decide
 ·refine (JC z).mpr (F9 h ?_)
  calc 10 ^ n<=10 ^ 2700:=G0 (by decide) hn
   _<=2 ^ 9000:=by decide +kernel
@[irreducible] def Zs (n:Nat) (a:Int):Prop:=a.natAbs<10 ^ n
theorem ue:Zs n a↔a.natAbs<10 ^ n:=by unfold Zs; exact Iff.rfl
abbrev Pz (a:Int):Prop:=Zs 2600 a
noncomputable def bF (a b:Int):Int:=if b<0 then 0 - (Ft a b:Int) else Ft a b
noncomputable def nT (a b:Int):Int:=a.fdiv (bF a b)
noncomputable def nB (a b:Int):Int:=b.fdiv (bF a b)
noncomputable abbrev bZ (a b:Int):D:=.tup [.int (nT a b),.int (nB a b)]
theorem xu (h:Pz b) (hb:b≠0):(Ft a b:Int).natAbs.log2<9000:=by
 refine qA (n:=2600) ?_ (by decide)
 have:Ft a b<=b.natAbs:=Nat.le_of_dvd (by lia) (Int.gcd_dvd_natAbs_right a b)
 simp only [Int.natAbs_natCast]
 have h:=ue.mp h
 lia
theorem uf (h:b<0):D.tup [.int ((-a) / (Ft (-a) (-b))),.int ((-b) / (Ft (-a) (-b)))]=bZ a b:=by
 have hp:(0:Int)<Ft a b:=by have:=HL a (show b≠0 by lia); lia
 have key:∀ x:Int,(Ft a b:Int) ∣ x->(-x) / (Ft a b:Int)=x.fdiv (0 - (Ft a b:Int)):=λx ⟨q,hq⟩=>by
  rw [hq,show (0:Int) - (Ft a b:Int)= -(Ft a b:Int) by lia]
  rw [show -((Ft a b:Int) * q)=(Ft a b:Int) * (-q) by rw [Int.mul_neg],Int.mul_ediv_cancel_left _ (by lia)]
  rw [show (Ft a b:Int) * q=(-q) * (-(Ft a b:Int)) by rw [Int.neg_mul_neg,Ih],JW _ (by lia)]
 unfold bZ nT nB bF
 rw [if_pos h]
 simp only [IM,IK]
 rw [key a (Kh ..),key b (Kc ..)]
theorem ug (h:0<b):D.tup [.int (a / (Ft a b)),.int (b / (Ft a b))]=bZ a b:=by
 unfold bZ nT nB bF
 rw [if_neg (by lia),IW _ (by lia),IW _ (by lia)]
theorem m8 (a b):bF a b ∣ a:=by
 unfold bF; split
 ·rw [show (0:Int) - (Ft a b:Int)= -(Ft a b:Int) by lia]; exact Int.neg_dvd.mpr (Kh ..)
 ·exact Kh ..
theorem m9 (a b):bF a b ∣ b:=by
 unfold bF; split
 ·rw [show (0:Int) - (Ft a b:Int)= -(Ft a b:Int) by lia]; exact Int.neg_dvd.mpr (Kc ..)
 ·exact Kc ..
theorem gz (hb:b≠0):bF a b≠0:=by
 have hp:0<Ft a b:=HL a hb
 unfold bF; split <;> lia
theorem nc (hb:b≠0):a=bF a b * nT a b:=by
 obtain ⟨q,hq⟩:=m8 a b
 have h0:=gz (a:=a) hb
 have:nT a b=q:=by
  unfold nT
  rw [show a.fdiv (bF a b)=(q * bF a b).fdiv (bF a b) by rw [Ih q,<- hq],JW _ h0]
 rw [this]; exact hq
theorem j0 (hb:b≠0):b=bF a b * nB a b:=by
 obtain ⟨q,hq⟩:=m9 a b
 have h0:=gz (a:=a) hb
 have:nB a b=q:=by
  unfold nB
  rw [show b.fdiv (bF a b)=(q * bF a b).fdiv (bF a b) by rw [Ih q,<- hq],JW _ h0]
 rw [this]; exact hq
theorem j3 (hb:b≠0):0<nB a b:=by
 have h:=j0 (a:=a) hb
 have hp:(0:Int)<Ft a b:=by have:=HL a hb; lia
 by_cases s:b<0
 ·have e:bF a b= -(Ft a b:Int):=by unfold bF; rw [if_pos s]; lia
  rw [e] at h
  by_cases z:0<nB a b
  ·exact z
  ·exfalso
   have:=Int.mul_nonneg (GP hp) (show 0<= -nB a b by lia)
   have e2:(Ft a b:Int) * -nB a b= -(Ft a b:Int) * nB a b:=by rw [Int.mul_neg,Int.neg_mul]
   lia
 ·have e:bF a b=(Ft a b:Int):=by unfold bF; rw [if_neg s]
  rw [e] at h
  by_cases z:0<nB a b
  ·exact z
  ·exfalso
   have:=Int.mul_nonneg (GP hp) (show 0<= -nB a b by lia)
   have e2:(Ft a b:Int) * -nB a b= -((Ft a b:Int) * nB a b):=by rw [Int.mul_neg]
   lia
theorem Df (hb:b≠0):nB a b≠0:=Int.ne_of_gt (j3 hb)
theorem j4 (hb:b≠0):nT a b * b=a * nB a b:=by
 have h1:=nc (a:=a) hb
 have h2:=j0 (a:=a) hb
 generalize nT a b=t at *
 generalize nB a b=u at *
 generalize bF a b=g at *
 subst h1; subst h2
 rw [Ih g t,Jt t g u]
theorem yQ (hb:b≠0):Ft (nT a b) (nB a b)=1:=by
 have h1:=nc (a:=a) hb
 have h2:=j0 (a:=a) hb
 have hp:0<Ft a b:=HL a hb
 have hg:(bF a b).natAbs=Ft a b:=by unfold bF; split <;> lia
 have e:Ft a b=(bF a b).natAbs * Ft (nT a b) (nB a b):=by
  have z:Ft a b=Ft (bF a b * nT a b) (bF a b * nB a b):=by rw [<- h1,<- h2]
  rw [z,Int.gcd_mul_left]
 rw [hg] at e
 exact Nat.eq_of_mul_eq_mul_left hp (by lia)
theorem oN (hb:b≠0):(nT a b).natAbs<=a.natAbs:=by
 have h:=nc (a:=a) hb
 have h0:=gz (a:=a) hb
 conv=>rhs; rw [h,HB]
 exact Nat.le_mul_of_pos_left _ (by lia)
theorem oO (hb:b≠0):(nB a b).natAbs<=b.natAbs:=by
 have h:=j0 (a:=a) hb
 have h0:=gz (a:=a) hb
 conv=>rhs; rw [h,HB]
 exact Nat.le_mul_of_pos_left _ (by lia)
theorem uh (g:Ft p q=1) (h:q ∣ p * x):q ∣ x:=by
 have h2:q.natAbs ∣ p.natAbs * x.natAbs:=by rw [<- HB]; exact Int.natAbs_dvd_natAbs.mpr h
 have c:Nat.Coprime q.natAbs p.natAbs:=by rw [Nat.coprime_comm]; exact g
 exact Int.natAbs_dvd_natAbs.mp (c.dvd_of_dvd_mul_left h2)
theorem xw (hq:0<q) (hq':0<q') (g:Ft p q=1) (g':Ft p' q'=1) (h:p * q'=p' * q):p=p'/\q=q':=by
 have d1:q ∣ q':=by
  have:q ∣ p * q':=⟨p',by rw [h,Ih]⟩
  exact uh g this
 have d2:q' ∣ q:=by
  have:q' ∣ p' * q:=⟨p,by rw [<- h,Ih]⟩
  exact uh g' this
 have e:q=q':=by
  have a1:=Int.le_of_dvd hq' d1
  have a2:=Int.le_of_dvd hq d2
  lia
 subst e
 exact ⟨Int.eq_of_mul_eq_mul_right (by lia) h,rfl⟩
theorem gc {a b c d e f:Int} (hd:d≠0) (h1:a * d=c * b) (h2:c * f=e * d):a * f=e * b:=by
 refine Int.eq_of_mul_eq_mul_right hd ?_
 calc a * f * d=a * d * f:=by rw [J0]
  _=c * b * f:=by rw [h1]
  _=c * f * b:=by rw [J0]
  _=e * d * b:=by rw [h2]
  _=e * b * d:=by rw [J0]
theorem n_eq (hb:b≠0) (hd:d≠0) (h:a * d=c * b):nT a b=nT c d/\nB a b=nB c d:=by
 refine xw (j3 hb) (j3 hd) (yQ hb) (yQ hd) ?_
 have e1:=j4 (a:=a) hb
 have e2:=j4 (a:=c) hd
 exact gc hd (gc hb e1 h) e2.symm
theorem ir (f:α->β) (xs) (lo hi):EV.cutD (xs.map f) lo hi=(EV.cutD xs lo hi).map f:=by
 unfold EV.cutD; simp only [Fx,Ig,List.map_drop]
theorem dj (h0:0<=j) (h1:j<xs.length):gM xs j=xs[j.toNat]?:=by
 unfold gM BK
 rw [if_pos h0,if_pos h1]; rfl
theorem xx {j:Int} (h0:j<0) (h1:0<=j+xs.length):gM xs j=xs[(j+xs.length).toNat]?:=by
 unfold gM BK
 rw [if_neg (by lia)]
 rw [if_pos (by lia)]; rfl
theorem um (h:a.natAbs<2 ^ 63):HZ a<=64:=by
 unfold HZ
 by_cases z:a=0
 ·subst z; decide
 ·have e:(a == 0)=false:=by simpa using z
  rw [e,if_neg Fv]
  have:=(JC (n:=a.natAbs) (k:=63) (by lia)).mpr h
  lia
theorem uo (h:a.natAbs<2 ^ 63):EV.MulOk a b:=IntMulOk.of_left (um h)
theorem cV (h:(i6 0 n)[i]?=some d):i<n/\d=.int (i:Int):=by
 unfold i6 at h
 simp only [FN,F5] at h
 obtain ⟨j,h1,rfl⟩:=h
 obtain ⟨hj,rfl⟩:=FA.mp h1
 simp at hj
 exact ⟨hj,by simp⟩
section
variable {K:Fi}
theorem Dg (I) (h:fH c t ρ (gT (aQ c A ρ I p) (aQ c B ρ I p))) (hI:∀ ρ',I ρ'->nx ρ'):d7 c (.If t A B pos) ρ nx p :=
 CT (h.imp λx hx=>⟨λe O H Hf D S o=>hx.t e O H Hf D S ⟨λO H Hf ρ S q=>o.nx O H Hf ρ S (hI _ q),o.rt,o.bk,o.ct⟩,λe O H Hf D S o=>hx.f e O H Hf D S ⟨λO H Hf ρ S q=>o.nx O H Hf ρ S (hI _ q),o.rt,o.bk,o.ct⟩⟩)
end
end EV
namespace EV
open PySem PySem.Spec PySem.Calls PyProof.Rows L2
noncomputable def HO.dct:HO->Prop | .dK _=>True | .dT _=>True | _=>False
theorem uq (I:Inv X aa O H s) (hu:H a=some u) (nu:∀ xs,u≠.tup xs) (nw:∀ y,u≠.own y) (nt:∀ ps,u≠.tbl ps) (nf:∀ o z,X.H₀ a≠some (.frz o z))
 (hv:aO X.prog X.w H s.heap a v):Inv X aa O (upd H a v) s:=by
 have hne:∀ {b:Addr} {z:HO},H b=some z->z≠u->b≠a:=λe d q=>by subst q; rw [hu] at e; cases e; exact d rfl
 have hno:∀ {b:Addr},H b=none->b≠a:=λe q=>by subst q; rw [hu] at e; cases e
 have hst:∀ {b:Addr} {z:HO},aO X.prog X.w H s.heap b z->aO X.prog X.w (upd H a v) s.heap b z:=λq =>
  q.stay (λ_ _ _ e=>e) (λb e=>by rw [af (hne e (FI (nw _)))]; exact e) λb xs e=>by rw [af (hne e (FI (nu xs)))]; exact e
 have fr:=I.free
 exact {
  ok:=I.ok,os:=I.os,bare:=I.bare,loc:=I.loc,cell:=I.cell,len:=I.len
  base:=⟨I.base.keep,I.base.slot,λb o h1 h2 h3=>by have e:=I.base.free b o h1 h2 h3; rw [af (hno e)]; exact e,I.base.there,
   λb xs e=>by have q:=I.base.tups b xs e; rw [af (hne q (FI (nu xs)))]; exact q,
   λb o z e=>by
    have q:=I.base.frzs b o z e
    by_cases w:b=a
    ·subst w; exact absurd e (nf o z)
    ·rw [af w]; exact q,
   λb ps e=>by obtain ⟨m,q⟩:=I.base.tbls b ps e; exact ⟨m,by rw [af (hne q (FI (nt _)))]; exact q⟩⟩
  free:=by rw [af (hno I.free)]; exact I.free
  freeC:=λx c e=>by have q:=I.freeC x c e; rw [af (hno q)]; exact q
  pin:=λq hq=>by obtain ⟨h1,h2,h3⟩:=I.pin q hq; exact ⟨h1,by rw [af (hno h2)]; exact h2,h3⟩
  hok:=λb z e=>by
   by_cases w:b=a
   ·subst w; rw [ah] at e; cases e; exact hst hv
   ·rw [af w] at e; exact hst (I.hok b z e) }
theorem oQ (I:Inv X aa O H s) (hu:H a=some u) (hd:HO.dct u) :
 ∃ o,Inv X aa O (upd H a (.frz o u)) s/\∀ o z,X.H₀ a≠some (.frz o z):=by
 obtain ⟨o,ho⟩:=Au (I.hok a u hu)
 have nf:∀ o z,X.H₀ a≠some (.frz o z):=λo z e=>by
  have q:=I.base.frzs a o z e
  rw [hu] at q; cases q; exact hd
 exact ⟨o,uq I hu (by rintro xs rfl; exact hd) (by rintro y rfl; exact hd) (by rintro ps rfl; exact hd) nf ⟨ho,I.hok a u hu⟩,nf⟩
theorem uu (I:Inv X aa O H s) (hu:H a=some (.frz o u)) (nf:∀ o z,X.H₀ a≠some (.frz o z)):Inv X aa O (upd H a u) s :=
 uq I hu (by intro xs z; cases z) (by intro y z; cases z) (by intro ps z; cases z) nf (I.hok a _ hu).2
noncomputable def Sl.j5:Sl->Option D
 | .oK kvs=>some (.fdK (kvs.map (·.1)) (kvs.map (·.2))) | .aK _ kvs=>some (.fdK (kvs.map (·.1)) (kvs.map (·.2)))
 | .oT kvs=>some (.fdT (kvs.map (·.1)) (kvs.map (·.2))) | .aT _ kvs=>some (.fdT (kvs.map (·.1)) (kvs.map (·.2)))
 | _=>none
theorem iu {r:Sl} (h:r.j5=some d):r.owned=true:=by cases r <;> first | rfl | cases h
section
variable {K:Fi}
theorem aJ.j5 (h:r.j5=some d) (q:aJ K fr H Hf r v):∃ p u,v=.ref p/\fr p/\H p=some u/\Hf p=none/\HO.dct u/\∀ o,Rep K (L2.upd Hf p (.frz o u)) d v:=by
 have sf:∀ {p:Addr} {o:HO},Hf p=none->aD Hf (L2.upd Hf p o):=λhp b u e=>by rw [af (aq e hp)]; exact e
 cases r with
 | oK ds=>cases h; obtain ⟨p,xs,rfl,f,h1,h2,h3⟩:=q; exact ⟨p,_,rfl,f,h1,h2,trivial,λo=>gu.mpr ⟨p,xs,o,rfl,ah,(eU h3).1,(eU h3).2.mono (sf h2)⟩⟩
 | aK a ds=>cases h; obtain ⟨p,xs,rfl,f,h1,h2,h3⟩:=q; exact ⟨p,_,rfl,f.1,h1,h2,trivial,λo=>gu.mpr ⟨p,xs,o,rfl,ah,(eU h3).1,(eU h3).2.mono (sf h2)⟩⟩
 | oT ds=>cases h; obtain ⟨p,xs,rfl,f,h1,h2,h3⟩:=q; exact ⟨p,_,rfl,f,h1,h2,trivial,λo=>jP.mpr ⟨p,xs,o,rfl,ah,(cN h3).1,λy hy=>ak (sf h2) ((cN h3).2.1 y hy),(cN h3).2.2.mono (sf h2)⟩⟩
 | aT a ds=>cases h; obtain ⟨p,xs,rfl,f,h1,h2,h3⟩:=q; exact ⟨p,_,rfl,f.1,h1,h2,trivial,λo=>jP.mpr ⟨p,xs,o,rfl,ah,(cN h3).1,λy hy=>ak (sf h2) ((cN h3).2.1 y hy),(cN h3).2.2.mono (sf h2)⟩⟩
 | _=>cases h
theorem cJ.oR (S:cJ K H₀ cS O H Hf ρ) (h:ρ[i]?=some r) (hr:r.j5=some d) :
 ∃ q u,H q=some u/\Hf q=none/\HO.dct u/\∀ o,cJ K H₀ cS O (L2.upd H q (.frz o u)) (L2.upd Hf q (.frz o u)) (ρ.set i (.va d)):=by
 obtain ⟨q,ev,rq⟩:=S.own h (iu hr)
 obtain ⟨_,u,e0,fq,hq,nI,hd,rd⟩:=rq.j5 hr
 cases e0
 have hi:i<ρ.length:=(FA.mp h).1
 have hown:=iu hr
 refine ⟨q,u,hq,nI,hd,λo=>⟨⟨λb z e=>?_,λb z e=>?_,λb z e=>?_,λb h1 h2 h3=>?_⟩,by simp [S.len],λj r' hj hu=>?_,λj j' r1 r2 q' hne h1 h2 o1 o2=>?_⟩⟩
 ·rw [L2.af (aq e fq)]; exact S.bas.s b z e
 ·have e2:=S.bas.f b z e
  rw [L2.af (aq e2 nI)]; exact e2
 ·by_cases w:b=q
  ·subst w; rw [L2.ah] at e |-; exact e
  ·rw [L2.af w] at e |-; exact S.sb b z e
 ·have e:=S.bas.n b h1 h2 h3
  by_cases z:b=q
  ·subst z; exact absurd fq h2
  ·rw [L2.af z]; exact e
 ·have sf:aD Hf (L2.upd Hf q (.frz o u)):=λb z e=>by rw [L2.af (aq e nI)]; exact e
  by_cases z:j=i
  ·subst z
   rw [Gq hi] at hj
   cases hj
   exact ⟨_,ev,rd o⟩
  ·rw [Gs (FI z)] at hj
   obtain ⟨v,e1,e2⟩:=S.at_ j r' hj hu
   refine ⟨v,e1,?_⟩
   have key:r'.owned=true->v≠.ref q:=λho z=>by
    subst z
    exact S.sep i j _ _ q (FI ‹_›) h hj hown ho ev e1
   exact aJ.mv (B:=λz=>z=q) sf (λz w hz e1 _ e3=>⟨by rw [L2.af hz]; exact e1,by rw [L2.af hz]; exact e3⟩) (by rintro _ z rfl ⟨ys,e9⟩; rw [hq] at e9; cases e9; exact hd) (λho z e=>by rintro rfl; exact key ho e) e2
 ·have out:∀ {j:Nat} {r:Sl},(ρ.set i (.va d))[j]?=some r->r.owned=true->ρ[j]?=some r:=λ{j r} hj ho=>by
   by_cases z:j=i
   ·subst z; rw [Gq hi] at hj; cases hj; cases ho
   ·rw [Gs (FI z)] at hj; exact hj
  exact S.sep j j' r1 r2 q' hne (out h1 o1) (out h2 o2) o1 o2
end
theorem qB (sb:aD Hf H) (hq:H q=some u) (nI:Hf q=none) (g:bf (upd H q (.frz o u)) (upd Hf q (.frz o u)) H' ai):bf H Hf (upd H' q u) (del ai q) :=
 ⟨λb z e=>by
   by_cases w:b=q
   ·subst w; rw [ah]; rw [hq] at e; exact e
   ·rw [af w]; exact g.s b z (by rw [af w]; exact e),
   λb z e=>by rw [bB (aq e nI)]; exact g.f b z (by rw [af (aq e nI)]; exact e),
   λb z e=>by obtain ⟨w,e2⟩:=g6 e; rw [af w]; exact g.b b z e2,λb h1 h2 h3=>by
   by_cases w:b=q
   ·subst w; exact gZ
   ·rw [bB w]; exact g.n b (by rw [af w]; exact h1) (by rw [af w]; exact h2) λxs=>by rw [af w]; exact h3 xs⟩
theorem xy {K:Fi} (hp:Hf p=some (.frz o u)) (hd:HO.dct u) (h:bO K Hf a xs):bO K (del Hf p) a xs:=by
 rcases h with (h | ⟨o',h⟩) | h
 ·exact .inl (.inl (by rw [bB (by rintro rfl; rw [hp] at h; cases h)]; exact h))
 ·exact .inl (.inr ⟨o',by rw [bB (by rintro rfl; rw [hp] at h; cases h; exact hd)]; exact h⟩)
 ·exact .inr h
mutual
theorem uv {K:Fi} {Hf:Hp} {p:Addr} {o:Obj} {u:HO} (hp:Hf p=some (.frz o u)) (hd:HO.dct u):∀ (d:D) {v:V},d.nl->Rep K Hf d v->Rep K (del Hf p) d v
 | .non,_,_,h=>by simpa [Rep] using h
 | .bl _,_,_,h=>by simpa [Rep] using h
 | .int _,_,_,h=>by simpa [Rep] using h
 | .str _,_,_,h=>by simpa [Rep] using h
 | .adr _,_,_,h=>by simpa [Rep] using h
 | .tup ds,v,f,h=>by
  simp only [Rep] at h |-
  obtain ⟨a,xs,e,h1,h2⟩:=h
  exact ⟨a,xs,e,xy hp hd h1,j6 hp hd ds (by simpa [D.nl] using f) h2⟩
 | .lst _,_,f,_=>by simp [D.nl] at f
 | .fdK _ _,_,f,_=>by simp [D.nl] at f
 | .fdT _ _,_,f,_=>by simp [D.nl] at f
 | .exc C,_,_,h=>by
  simp only [Rep] at h |-
  obtain ⟨a,e,h⟩:=h
  exact ⟨a,e,by rw [bB (by rintro rfl; rw [hp] at h; cases h)]; exact h⟩
theorem j6 {K:Fi} {Hf:Hp} {p:Addr} {o:Obj} {u:HO} (hp:Hf p=some (.frz o u)) (hd:HO.dct u):∀ (ds:List D) {xs:List V},D.m5 ds->aj K Hf ds xs->aj K (del Hf p) ds xs
 | [],_,_,h=>by simpa [aj] using h
 | d::ds,xs,f,h=>by
  simp only [aj] at h |-
  simp only [D.m5] at f
  obtain ⟨x,r,e,h1,h2⟩:=h
  exact ⟨x,r,e,uv hp hd d f.1 h1,j6 hp hd ds f.2 h2⟩
end
section
variable {K:Fi}
theorem uw (S:aL c O H Hf ρ) (hi:At ρ i r) (hr:r.j5=some d0) (hs:SSet ρ i (.va d0) ρ')
 (h:∀ q u o,H q=some u->Hf q=none->HO.dct u->aL c O (upd H q (.frz o u)) (upd Hf q (.frz o u)) ρ'->bE c.X e O (upd H q (.frz o u)) λv H'=>∃ ai,bf (upd H q (.frz o u)) (upd Hf q (.frz o u)) H' ai/\Q v (upd H' q u)):bE c.X e O H Q:=by
 obtain ⟨q,u,hq,nI,hd,S1⟩:=S.oR hi.get hr
 intro aa s I
 obtain ⟨o,I1,nf⟩:=oQ I hq hd
 have S2:=S1 o
 rw [<- hs.eq] at S2
 refine aZ (h q u o hq nI hd S2 aa s I1) λv s' ⟨x,H',I',rv,ai,g,hQ⟩=>⟨x,_,uu I' (g.s q _ ah) nf,rv,hQ⟩
theorem AX (i) {R:Sl->Prop} (hi:At ρ i r) (hr:r.j5=some d0) (hs:SSet ρ i (.va d0) ρ') (h:cR c e ρ' λd=>Sd d.nl (R d)):cR c e ρ R:=λO H Hf Q S q=>by
 refine uw S hi hr hs λa u o ha BV hd S1=>h O _ _ _ S1 λr1 v H' ai ⟨fl,rd⟩ rv g=>⟨ai,g,?_⟩
 have hp:=g.f a _ ah
 refine q r1 v _ (del ai a) rd ?_ (qB S.sb ha BV g)
 have hH:H' a=some (.frz o u):=g.s a _ ah
 cases r1 with
 | va d=>exact uv hp hd d fl rv
 | ow ds =>
  obtain ⟨b,xs,rfl,fb,h1,h2,h3⟩:=rv
  have nb:b≠a:=by rintro rfl; rw [show (upd H b (.frz o u)) b=_ from ah] at fb; cases fb
  exact ⟨b,xs,rfl,by rw [af nb] at fb; exact fb,by rw [af nb]; exact h1,by rw [bB nb]; exact h2,j6 hp hd ds fl h3⟩
 | _=>exact fl.elim
end
def xA (h:Heap) (it d:Addr) (i n ep:Nat):Prop :=
 ∃ (x:Value) (f:Bool) (k v:Value),h.get? it=some { cls:=.type "dict_itemiterator",dict:=none,data:=.fields #[x,.bool f,.ref d,.int i 0,.int n 0,.int ep 0,k,v],slots:= #[] }/\(x=.none\/∃ a:Addr,x=rawInt a)
section
variable {s:Shared} {i n ep:Nat}
theorem j7:Builtin.Dict_items.ownsTuple "dict_itemiterator"=true:=by decide
theorem lu (h:Q (s.heap.get? a) s):wpAny M A (loadIfAlive a) Q E s:=λΓ p z=>by
 show Sem.wp M Γ (Sem.loadIfAlive a Sem.pure) _ _ p s
 rw [Sem.wp_loadIfAlive,Sem.wp]
 exact h
theorem uz (hs:s.heap=h) (hit:h.get? it=some { cls:=.type "dict_itemiterator",dict:=none,data:=.fields #[x,.bool f,.ref d,.int i 0,.int n 0,.int ep 0,k,v],slots:= #[] }) (hx:x=.none\/∃ a:Addr,x=rawInt a)
 (hQ:∀ h',xA h' it d i n ep->h'.get? h.objs.size=some { cls:=.type "tuple",data:=.seq #[a,b] }->h'.objs.size=h.objs.size+1->(∀ c o,c≠it->h.get? c=some o->h'.get? c=some o)->Q (.ref h.objs.size) { s with heap:=h' }) :
 wpAny (model prog w) A (JD (.ref it) 6 a b) Q E s:=by
 subst hs
 have lt:it<s.heap.objs.size:=Fw hit
 have ne:s.heap.objs.size≠it:=Nat.ne_of_gt lt
 unfold JD
 refine Ff (wpAny_newTuple ?_)
 have mw:=Fz ({ cls:=.type "tuple",data:=.seq [a,b].toArray }:Obj) hit
 have htu:(s.heap.push { cls:=.type "tuple",data:=.seq [a,b].toArray }).get? s.heap.objs.size=some { cls:=.type "tuple",data:=.seq #[a,b] }:=FT _ rfl
 have hsz:(s.heap.push { cls:=.type "tuple",data:=.seq [a,b].toArray }).objs.size=s.heap.objs.size+1:=Jo ..
 have hold:∀ c o,s.heap.get? c=some o->(s.heap.push { cls:=.type "tuple",data:=.seq [a,b].toArray }).get? c=some o:=λc o e=>Fz _ e
 generalize (s.heap.push { cls:=.type "tuple",data:=.seq [a,b].toArray })=h2 at mw htu hsz hold |-
 have free:wpAny (model prog w) A (do
  let old:=[<- field (.ref it) 6,<- field (.ref it) (6+1)]
  setField (.ref it) 6 a; setField (.ref it) (6+1) b
  setField (.ref it) 0 (rawInt s.heap.objs.size); setField (.ref it) 1 (.bool false)
  letGo old [.ref s.heap.objs.size]
  pure (FH s.heap.objs.size)) Q E { s with heap:=h2 }:=by
  refine Ff (GW mw rfl (x:=k) rfl (Ff (GW mw rfl (x:=v) rfl ?_)))
  refine Ff (Ht mw (by simp) λh3 e3 s3=>?_)
  refine Ff (Ht e3 (by simp) λh4 e4 s4=>?_)
  refine Ff (Ht e4 (by simp) λh5 e5 s5=>?_)
  refine Ff (Ht e5 (by simp) λh6 e6 s6=>?_)
  have keep:∀ c o,c≠it->h2.get? c=some o->h6.get? c=some o:=λc o hc e=>s6.extBut c o hc (s5.extBut c o hc (s4.extBut c o hc (s3.extBut c o hc e)))
  refine Ff (wpAny_letGo (Fl (hQ h6 ⟨_,_,_,_,e6,.inr ⟨_,rfl⟩⟩ (keep _ _ ne htu) ?_ λc o hc e=>keep c o hc (hold c o e))))
  rw [s6.1,s5.1,s4.1,s3.1,hsz]
 have told:∀ (h3:Heap) (x:Value) (f:Bool),h3.get? it=some { cls:=.type "dict_itemiterator",dict:=none,data:=.fields #[x,.bool f,.ref d,.int i 0,.int n 0,.int ep 0,k,v],slots:= #[] }->(x=.none\/∃ a:Addr,x=rawInt a) ->
  GU it h2 h3->Q (.ref s.heap.objs.size) { s with heap:=h3 }:=λh3 x f e hx' s3 =>
  hQ h3 ⟨x,f,k,v,e,hx'⟩ (s3.extBut _ _ ne htu) (by rw [s3.1,hsz]) λc o hc e=>s3.extBut c o hc (hold c o e)
 show wpAny _ _ (Kn (.ref it) >>= _) _ _ _
 unfold Kn
 refine Ff (Ff (GW mw rfl (x:=x) rfl ?_))
 rcases hx with rfl | ⟨a0,rfl⟩
 ·exact Fl free
 ·show wpAny _ _ (loadIfAlive (a0:Int).toNat >>= _) _ _ _
  refine Ff (lu ?_)
  split
  ·exact Fl free
  ·refine Ff ?_
   refine GW mw rfl (x:=.bool f) rfl ?_
   cases f with
   | true =>
    dsimp only
    rw [if_neg (by decide)]
    exact Fl (Fl (told h2 _ _ mw (.inr ⟨a0,rfl⟩) (.refl ..)))
   | false =>
    dsimp only
    rw [if_pos (by decide)]
    refine Ff (Ht mw (by simp) λh3 e3 s3=>?_)
    exact Fl (Fl (told h3 _ true e3 (.inr ⟨a0,rfl⟩) s3))
theorem xA.AY (h:xA s.heap it d i n ep):s.TypeIs (.ref it) "dict_itemiterator":=let ⟨_,_,_,_,e,_⟩:=h; ⟨_,e,rfl⟩
theorem next_item (hit:xA s.heap it d i es.size ep) (hod:s.heap.get? d=some od) (hdd:od.data=.dict es ep) (hx:es[i]?=some e)
 (hQ:∀ h',xA h' it d (i+1) es.size ep->h'.get? s.heap.objs.size=some { cls:=.type "tuple",data:=.seq #[e.key,e.val] }->h'.objs.size=s.heap.objs.size+1->(∀ c o,c≠it->s.heap.get? c=some o->h'.get? c=some o)->Q (some (.ref s.heap.objs.size)) { s with heap:=h' }) :
 wpAny (model prog w) A (pyNext (.ref it)) Q E s:=by
 have hT:=hit.AY
 obtain ⟨x,f,k,v,hat,hxx⟩:=hit
 have hlt:i<es.size:=(HN.mp hx).1
 unfold pyNext
 refine Ff (IF (HP (name:=Fg "__next__") hT HK (G5 HK hT Ks ?_ (Kp _))))
 refine Ff (Fl (Ff (Ff ?_)))
 first | refine Ff (IU hT (Fl ?_)) | refine Ff (IX hT (Fl ?_))
 refine Ff (wpAny_fieldsOf hat rfl ?_)
 simp only [j7,if_true]
 show wpAny _ _ (if (FH d == Gx)=true then _ else _) _ _ _
 rw [if_neg (show ¬ (FH d == Gx)=true from Fv)]
 refine Ff (Fl (Ff (J4 hod hdd ?_)))
 rw [if_neg (by simp)]
 refine Ff (Fl (Ff (wpAny_dictEpoch hod hdd ?_)))
 rw [if_neg (by simp)]
 refine Fl ?_
 simp only [show ¬ ((i:Int)<0) from by lia,if_false,Gg,hx]
 refine Ff ?_
 first | refine Ff (IU hT (Fl ?_)) | refine Ff (IX hT (Fl ?_))
 refine Ff (JM hT ?_)
 show wpAny _ _ (setField (.ref it) 3 (rawInt ((i:Int)+1)) >>= _) _ _ s
 refine Ff (Ht hat (by simp) λh1 e1 s1=>?_)
 have e1':h1.get? it=some { cls:=.type "dict_itemiterator",dict:=none,data:=.fields #[x,.bool f,.ref d,.int ((i+1:Nat):Int) 0,.int es.size 0,.int ep 0,k,v],slots:= #[] }:=by
  have q:((i+1:Nat):Int)=(i:Int)+1:=by lia
  rw [q]; simpa [rawInt] using e1
 have hT1:Shared.TypeIs { s with heap:=h1 } (.ref it) "dict_itemiterator":=⟨_,e1',rfl⟩
 refine Ff (GK ?_)
 refine Ff (JM hT1 (Ff (JM hT1 ?_)))
 show wpAny _ _ (JD (.ref it) 6 e.key e.val) _ _ { s with heap:=h1 }
 have z1:h1.objs.size=s.heap.objs.size:=s1.1
 refine uz (s:={ s with heap:=h1 }) rfl e1' hxx λh2 g2 t2 z2 k2=>?_
 rw [z1] at t2 z2 |-
 exact Fl ⟨_,rfl,Fl (hQ h2 g2 t2 z2 λc o hc q=>k2 c o hc (s1.extBut c o hc q))⟩
theorem next_end (hh:A.handled=none) (hit:xA s.heap it d i es.size ep) (hod:s.heap.get? d=some od) (hdd:od.data=.dict es ep) (hx:es.size<=i)
 (hQ:∀ h',Heap.ExtBut it s.heap h'->Q none { s with heap:=h' }):wpAny (model prog w) A (pyNext (.ref it)) Q E s:=by
 have hT:=hit.AY
 obtain ⟨x,f,k,v,hat,hxx⟩:=hit
 unfold pyNext
 refine Ff (IF (HP (name:=Fg "__next__") hT HK (G5 HK hT Ks ?_ (Kp _))))
 refine Ff (Fl (Ff (Ff ?_)))
 first | refine Ff (IU hT (Fl ?_)) | refine Ff (IX hT (Fl ?_))
 refine Ff (wpAny_fieldsOf hat rfl ?_)
 simp only [j7,if_true]
 show wpAny _ _ (if (FH d == Gx)=true then _ else _) _ _ _
 rw [if_neg (show ¬ (FH d == Gx)=true from Fv)]
 refine Ff (Fl (Ff (J4 hod hdd ?_)))
 rw [if_neg (by simp)]
 refine Ff (Fl (Ff (wpAny_dictEpoch hod hdd ?_)))
 rw [if_neg (by simp)]
 refine Fl ?_
 simp only [show ¬ ((i:Int)<0) from by lia,if_false,Gg,Array.getElem?_eq_none hx]
 refine Ff ?_
 first | refine Ff (IU hT (Fl ?_)) | refine Ff (IX hT (Fl ?_))
 show wpAny _ _ (setField (.ref it) 2 .none >>= _) _ _ s
 refine Ff (wpAny_setField hat rfl (by simp) (Ff ?_))
 simp only [newExc,newTuple]
 refine Ff (GA ?_ (by size_fits))
 refine Ff (m:=firstArgMember _ _) (wpAny_of_eq (a:=Gx) (by first | rfl | (simp only [firstArgMember]; rfl)) ?_)
 refine GA ?_ (by size_fits)
 simp only [raiseNew]
 refine Ff (wpAny_handled ?_)
 rw [show A.in1.handled=none from hh]
 refine Ff (Fl (wpAny_throw ?_))
 refine Ff (wpAny_isInstance (T:="StopIteration") (b:=true) ⟨_,FT _ rfl,rfl⟩ isSubtype_stop ?_)
 exact Fl (hQ _ (((JX ..).extBut.push _).push _))
theorem xB (hit:xA s.heap it d i n ep) (h:∀ h',xA h' it d i n ep->GU it s.heap h'->Q () { s with heap:=h' }):wpAny (model prog w) A (letOwnedTupleGo tg (.ref it) (.ref a)) Q E s:=by
 have stay:Q () s:=h s.heap hit (.refl ..)
 obtain ⟨x,f,k,v,hat,hxx⟩:=hit
 have part:wpAny (model prog w) A (do
  let o <- load it
  match o.cls,o.data with
  | .type n,.fields vs =>
   if (["enumerate","zip","dict_itemiterator","dict_reverseitemiterator","odict_iterator","itertools.zip_longest","itertools.pairwise"].contains n && vs[0]? == some (rawInt a))=true then do
    rule "for.unpacks-the-owned-tuple"
    updateField it 0 .none
   else pure ()
  | _,_=>pure ()) Q E s:=by
  refine Ff (wpAny_load hat ?_)
  dsimp only
  split
  ·refine Ff (GG ?_)
   show wpAny _ _ (setField (.ref it) 0 .none) Q E s
   exact Ht hat (by simp) λh' e' s'=>h h' ⟨_,_,_,_,e',.inl rfl⟩ s'
  ·exact Fl stay
 unfold letOwnedTupleGo
 cases tg <;> first
  | exact Fl stay
  | exact part
end
noncomputable def bV:HO->List (V×V)
 | .dK ys=>ys.map λy=>(kV y.1,y.2)
 | .dT ys=>ys.map λy=>(.ref y.2.1,y.2.2)
 | _=>[]
theorem xC (h:gE k v=true):RelV (kV k) v:=by
 rcases aN h with ⟨i,t,rfl,rfl⟩ | ⟨x,t,rfl,rfl⟩
 ·exact ⟨t,rfl⟩
 ·exact ⟨t,rfl⟩
theorem gg (ok:aO P w H h d u) (hd:HO.dct u) (ho:h.get? d=some o) :
 o.ExactDict/\∃ es ep,o.data=.dict es ep/\Paired (λ(a:V×V) (e:DictEntry)=>RelV a.1 e.key/\RelV a.2 e.val) (bV u) es.toList/\(d == sysModules)=false/\(bV u).length<=sizeLine:=by
 cases u with
 | dK ys =>
  obtain ⟨z,y,vs,kv,o',es,ep,h1,h2,h3,h4,h5,h6⟩:=ok
  rw [ho] at h1; cases h1
  refine ⟨h2,es,ep,h3,?_,y,by simpa [bV] using z⟩
  show Paired _ (ys.map _) _
  clear h3 h4 h6 z
  generalize es.toList=l at h5 |-
  unfold KV at kv
  induction kv generalizing l with
  | nil=>cases h5; exact .nil
  | @cons a b as bs q t ih =>
   cases h5 with
   | cons r t' t''=>exact .cons ⟨by show L2.RelV (kV a.1) _; rw [q.1]; exact xC r,by rw [t']; exact q.2⟩ (ih hd _ t'')
 | dT ys =>
  obtain ⟨z,y,xs,kv,o',es,ep,h1,h2,h3,h4,h5⟩:=ok
  rw [ho] at h1; cases h1
  refine ⟨h2,es,ep,h3,?_,y,by simpa [bV] using z⟩
  rw [h4]
  show Paired _ (ys.map _) _
  clear h3 h4 h5 z
  induction kv with
  | nil=>exact .nil
  | @cons a b as bs q t ih =>
   rw [FD,FD]
   refine .cons ⟨?_,q.2.2⟩ (ih hd)
   show FH b.2.1=FH a.2.1
   rw [q.2.1]
 | _=>exact hd.elim
theorem dP:∀ {l:List α} {m:List β} {i:Nat} {a:α},Paired F l m->l[i]?=some a->∃ b,m[i]?=some b/\F a b
 | _,_,_,_,.nil,e=>by simp at e
 | _,_,0,_,.cons r _,e=>by simp at e; subst e; exact ⟨_,rfl,r⟩
 | _,_,i+1,a,.cons _ t,e=>by
  obtain ⟨b,h1,h2⟩:=dP (i:=i) t (by simpa using e)
  exact ⟨b,by simpa using h1,h2⟩
noncomputable def EG (d:Addr) (o:Obj) (u:HO):It :=
 ⟨λi H=>H d=some (.frz o u)/\i<(bV u).length,λi H x H'=>∃ p kv,(bV u)[i]?=some kv/\x=.ref p/\H p=none/\H'=upd H p (.tup [kv.1,kv.2]),λi H=>H d=some (.frz o u)/\(bV u).length<=i⟩
theorem qC:entryFor table "dict_itemiterator.__iter__"=some Builtin.«dict_keyiterator.__iter__» :=entryFor_alias (id':="dict_keyiterator.__iter__") (by kernel_rfl) rfl (by decide +kernel) (by kernel_rfl)
theorem ng {P:Program} {w:World} {K:Fi} {tg:Expr} {d it:Addr} {o:Obj} {u:HO} {es:Array DictEntry} {ep:Nat} (hd:HO.dct u) (hod:o.data=.dict es ep) (hne:it≠d) (hes:es.size=(bV u).length) :
 Turn P w K tg (EG d o u) [it] it (λi h=>xA h it d i es.size ep) where
 mem:=by simp
 obj:=λi h st b hb=>by
  have e:b=it:=by simpa using hb
  subst e
  obtain ⟨x,f,k,v,e,_⟩:=st
  exact ⟨_,e,λv z=>by
   have z':Data.fields _=Data.cell v:=z
   cases z'⟩
 keep:=λi h h' st k=>by
  obtain ⟨x,f,kk,v,e,hx⟩:=st
  exact ⟨x,f,kk,v,k it (by simp) _ e,hx⟩
 item:=by
  intro X hP hw hK hc i aa s O H E I hf st hg
  subst hP hw hK
  obtain ⟨hH,hi⟩:=hg
  obtain ⟨f0,f1,f2,f3,f4,f5⟩:=hf it (by simp)
  obtain ⟨ho,ok⟩:=(show aO X.prog X.w H s.heap d (.frz o u) from I.hok d _ hH)
  obtain ⟨_,es',ep',e1,e2,_⟩:=gg ok hd ho
  rw [hod] at e1; cases e1
  obtain ⟨e,he,re⟩:=dP e2 (F7 hi)
  have he':es[i]?=some e:=by simpa using he
  refine next_item st ho hod he' λh1 g1 t1 z1 k1=>?_
  have hil:it<s.heap.objs.size:=by
   obtain ⟨_,_,_,_,q,_⟩:=st
   exact Fw q
  have Hp:H s.heap.objs.size=none:=I.hok.fresh (Fq _)
  have hit0:it≠s.heap.objs.size:=F0 hil
  generalize hkv:(bV u)[i]=kv at re
  have IA:Inv X aa O (upd H s.heap.objs.size (.tup [kv.1,kv.2])) { s with heap:=s.heap.push { cls:=.type "tuple",data:=.seq #[e.key,e.val] },toks:=s.toks } :=
   I.laid (a:=s.heap.objs.size) (o:=.tup [kv.1,kv.2]) (λ_ _ q=>Fz _ q) (Fq _) ⟨by show 2<=sizeLine; decide,[e.key,e.val],.cons re.1 (.cons re.2 .nil),_,FT _ rfl,rfl,0,rfl⟩
  have g0:upd H s.heap.objs.size (.tup [kv.1,kv.2]) it=none:=by rw [af hit0]; exact f0
  have I1:Inv X aa O (upd H s.heap.objs.size (.tup [kv.1,kv.2])) { s with heap:=h1,toks:=s.toks }:=IA.turned (λb o hb q=>by
   by_cases z:b=s.heap.objs.size
   ·subst z
    rw [FT _ rfl] at q; cases q; exact t1
   ·have lt:b<s.heap.objs.size:=by
     have:=Fw q
     rw [Jo] at this
     exact Nat.lt_of_le_of_ne (Nat.le_of_lt_succ this) z
    refine k1 b o hb ?_
    rw [Heap.get?_push_ne _ _ _ z] at q; exact q) g0 f1 f3 f4 f5
  refine ⟨_,rfl,xB (s:={ s with heap:=h1 }) g1 λh2 g2 s2=>?_⟩
  refine ⟨.ref s.heap.objs.size,_,I1.turned (t':=s.toks) (λb o hb q=>(s2.2 b hb).trans q) g0 f1 f3 f4 f5,rfl,⟨_,kv,by rw [F7 hi,hkv],rfl,Hp,rfl⟩,g2,λb hb=>?_⟩
  have e:b=it:=by simpa using hb
  rw [e]; exact g0
 done:=by
  intro X hP hw hK hc i aa s O H E I hf st hg
  subst hP hw hK
  obtain ⟨hH,hi⟩:=hg
  obtain ⟨f0,f1,f2,f3,f4,f5⟩:=hf it (by simp)
  obtain ⟨ho,ok⟩:=(show aO X.prog X.w H s.heap d (.frz o u) from I.hok d _ hH)
  exact next_end (I.ok.hd hc) st ho hod (by lia) λh' eb=>⟨rfl,I.turned (t':=s.toks) (λb o hb e=>eb b o hb e) f0 f1 f3 f4 f5⟩
 self:=by
  intro A i s Q E st h
  have hT:=st.AY
  refine wpAny_pyIter_slot hT Kv (G5 Kv hT qC ?_ (F.args_dict_itemiterator_iter_1 _))
  show wpAny _ _ (ret (.ref it)) _ _ s
  exact Fl ⟨_,rfl,"dict_itemiterator",_,hT,HK.lookup,h⟩
theorem ly (d) (hd:(d == sysModules)=false) :
 MeetsIn prog w (Builtin.«dict.items» ⟨[.ref d],[]⟩) (λ_ R s=>s.TypeIs (.ref d) "dict"/\R (.ok (.ret (.ref s.heap.objs.size))) { s with heap:=s.heap.push { cls:=.type "dict_items",data:=.fields #[.ref d] } }) :=
 .of_wp λA R s ⟨hT,h⟩=>by
  unfold Builtin.«dict.items»
  refine Ff ?_
  unfold Builtin.Dict.noArgs
  refine Ff (wpAny_notOrdered_dict hT (show wpAny _ _ (pure d) _ _ s from Fl ?_))
  show wpAny _ _ (Builtin.Dict.showsAll d >>= _) _ _ s
  unfold Builtin.Dict.showsAll
  rw [if_neg (by rw [hd]; exact Fv)]
  exact Ff (Fl (Ff (GA (Fl ⟨_,rfl,h⟩))))
theorem qD (hv:s.heap.IsItemsView v d) (hod:s.heap.get? d=some od) (hdd:od.data=.dict es ep)
 (hQ:Q (.ref s.heap.objs.size) { s with heap:=s.heap.push { cls:=.type "dict_itemiterator",data:=.fields #[.none,.bool false,.ref d,.int 0 0,.int es.size 0,.int ep 0,.none,.none] } }) :
 wpAny (model prog w) A (pyIter (.ref v)) Q E s:=by
 obtain ⟨ov,hov,hcv,hdv⟩:=id hv
 refine wpAny_pyIter_slot hv.typeIs F.slot_dict_items_iter (G5 F.slot_dict_items_iter hv.typeIs F.entry_dict_items_iter ?_ (F.args_dict_items_iter_1 _))
 unfold Builtin.«dict_items.__iter__»
 refine Ff (Fl (Ff ?_))
 unfold Builtin.Dict_items.dictOf
 refine Ff (GW hov hdv (x:=.ref d) rfl (Fl (Ff ?_)))
 unfold Builtin.Dict_items.newIterator
 refine Ff (J4 hod hdd (Ff (wpAny_dictEpoch hod hdd ?_)))
 simp only [j7,if_true]
 refine GA (Fl ⟨_,rfl,"dict_itemiterator",_,⟨_,FT _ rfl,rfl⟩,HK.lookup,?_⟩)
  (by simp only [sizeOk,Ko,FG,Gz,GB,G8,sizeLine_eq]; lia)
 simpa [rawInt,Ko] using hQ
noncomputable def qE:Key->D | .inl i=>.int i | .inr x=>.str x
noncomputable def D.pairs:D->Option (List D)
 | .fdK ks ds=>some (Jz (λk d=>D.tup [qE k,d]) ks ds)
 | .fdT ks ds=>some (Jz (λk d=>D.tup [.tup (k.map qE),d]) ks ds)
 | _=>none
noncomputable def AZ (te:TE):TI:=λO H R=>te O H λx H1=>∃ d o u,x=.ref d/\H1 d=some (.frz o u)/\HO.dct u/\∀ v,H1 v=none->R (EG d o u) (upd H1 v (.ext λh=>h.IsItemsView v d))
theorem uA (he:PE X e te) (hbase:attributeBase e "items" X.env (eval e X.env)=eval e X.env) (hline:(ap.endLine == cp.line)=true):PI X tg (.Call (.Attribute e "items" ap) [] [] cp) (AZ te):=by
 intro aa s O H R I h
 refine wpAny_Call_method (T:="dict") (id:="dict.items") hbase rfl hline F.plainAttrs_dict F.slot_dict_items F.type_dict_items (aZ (he aa s O H _ I h) λv s1 hh=>z2 hh λx H1 hh=>w3 hh λI1 r1 hh=>z3 hh λd o u hh=>w4 hh λex hH hd q=>?_)
 subst ex
 cases r1
 obtain ⟨ho,ok⟩:=(show aO X.prog X.w H1 s1.heap d (.frz o u) from I1.hok d _ hH)
 obtain ⟨hx,es,ep,hod,hp,hs,hz⟩:=gg ok hd ho
 have hT:s1.TypeIs (.ref d) "dict":=⟨o,ho,hx.1⟩
 refine ⟨hT,λb z=>by cases z; exact ⟨o,ho,hx.2.1⟩,?_⟩
 show wpAny _ _ (callWith cp (.builtin "dict.items") [.ref d] [] []) _ _ s1
 refine method_meetsIn F.slot_dict_items F.entry_dict_items rfl (PySem.evalArgs_none ⟨rfl,hT,F.args_dict_items_1 _,_,ly d hs,hT,?_⟩)
 have Hv:H1 s1.heap.objs.size=none:=I1.hok.fresh (Fq _)
 have hve:(s1.heap.push { cls:=.type "dict_items",data:=.fields #[.ref d] }).IsItemsView s1.heap.objs.size d:=⟨_,FT _ rfl,rfl,rfl⟩
 have I2:Inv X aa O (upd H1 s1.heap.objs.size (.ext λh=>h.IsItemsView s1.heap.objs.size d)) { s1 with heap:=s1.heap.push { cls:=.type "dict_items",data:=.fields #[.ref d] },toks:=s1.toks } :=
  I1.laid (a:=s1.heap.objs.size) (λ_ _ q=>Fz _ q) (Fq _) ⟨hve,⟨_,FT _ rfl⟩,λh1 h2 ⟨o,e,r⟩ k=>⟨o,k o e,r⟩⟩
 refine qD hve (Fz _ ho) hod ?_
 have hsz:es.size=(bV u).length:=by rw [Hg hp]; simp
 have I3:=I2.kept (t':=s1.toks) (h':=(s1.heap.push { cls:=.type "dict_items",data:=.fields #[.ref d] }).push { cls:=.type "dict_itemiterator",data:=.fields #[.none,.bool false,.ref d,.int 0 0,.int es.size 0,.int ep 0,.none,.none] }) λb o e=>Fz _ e
 refine ⟨_,[_],_,_,_,rfl,I3,ng (o:=o) (u:=u) (es:=es) (ep:=ep) hd hod (λz=>?_) hsz,⟨.none,false,.none,.none,FT _ rfl,.inl rfl⟩,λb hb=>?_,q _ Hv⟩
 ·have lt:=Fw (Fz ({ cls:=.type "dict_items",data:=.fields #[.ref d] }:Obj) ho)
  rw [z] at lt
  exact absurd lt (GL _)
 ·have e:b=(s1.heap.push { cls:=.type "dict_items",data:=.fields #[.ref d] }).objs.size:=by simpa using hb
  subst e
  exact I2.p8 (Fq _) (I2.hok.fresh (Fq _))
section
variable {K:Fi} {Hf:Hp}
theorem lz:Rep K Hf (qE k) (kV k):=by
 cases k with
 | inl i=>exact az.mpr rfl
 | inr x=>exact cU.mpr rfl
theorem jo:∀ {ks:List Key},aj K Hf (ks.map qE) (ks.map kV)
 | []=>au.mpr rfl
 | k::ks=>.cons lz jo
def oS (K:Fi) (Hf:Hp) (d:D) (kv:V×V):Prop:=∃ k e,d=.tup [k,e]/\Rep K Hf k kv.1/\Rep K Hf e kv.2
theorem oU:∀ {ys:List (Key×V)} {vs:List D},aj K Hf vs (ys.map (·.2))->Paired (oS K Hf) (Jz (λk d=>D.tup [qE k,d]) (ys.map (·.1)) vs) (ys.map λy=>(kV y.1,y.2))
 | [],vs,h=>by
  cases vs with
  | nil=>exact .nil
  | cons d ds=>obtain ⟨x,r,e,_⟩:=av.mp h; cases e
 | y::ys,vs,h=>by
  cases vs with
  | nil=>rw [au] at h; cases h
  | cons d ds =>
   obtain ⟨x,r,e,h1,h2⟩:=av.mp h
   cases e
   exact .cons ⟨_,_,rfl,lz,h1⟩ (oU h2)
theorem oV:∀ {ys:List (List Key×Addr×V)} {vs:List D},(∀ y∈ys,bO K Hf y.2.1 (y.1.map kV))->aj K Hf vs (ys.map (·.2.2))->Paired (oS K Hf) (Jz (λk d=>D.tup [.tup (k.map qE),d]) (ys.map (·.1)) vs) (ys.map λy=>(.ref y.2.1,y.2.2))
 | [],vs,_,h=>by
  cases vs with
  | nil=>exact .nil
  | cons d ds=>obtain ⟨x,r,e,_⟩:=av.mp h; cases e
 | y::ys,vs,hk,h=>by
  cases vs with
  | nil=>rw [au] at h; cases h
  | cons d ds =>
   obtain ⟨x,r,e,h1,h2⟩:=av.mp h
   cases e
   exact .cons ⟨_,_,rfl,ay.mpr ⟨_,_,rfl,hk y FF,jo⟩,h1⟩ (oV (λz hz=>hk z (FL _ hz)) h2)
theorem qF (hp:d.pairs=some ds) (h:Rep K Hf d v):∃ a o u,v=.ref a/\Hf a=some (.frz o u)/\HO.dct u/\Paired (oS K Hf) ds (bV u):=by
 cases d with
 | fdK ks vs =>
  cases hp
  obtain ⟨a,ys,o,rfl,h1,h2,h3⟩:=gu.mp h
  subst h2
  exact ⟨a,o,_,rfl,h1,trivial,oU h3⟩
 | fdT ks vs =>
  cases hp
  obtain ⟨a,ys,o,rfl,h1,h2,h3,h4⟩:=jP.mp h
  subst h2
  exact ⟨a,o,_,rfl,h1,trivial,oV h3 h4⟩
 | _=>cases hp
theorem nh {ds:List D} {a:Addr} {o:Obj} {u:HO} (h:Hf a=some (.frz o u)) (hp:Paired (oS K Hf) ds (bV u)):mW K (EG a o u) ds Hf where
 go:=λi d H aM s1 s2 e=>by
  obtain ⟨kv,ekv,k,dd,rfl,r1,r2⟩:=dP hp e
  refine ⟨⟨s2 _ _ (s1 _ _ h),(FA.mp ekv).1⟩,λx H' ⟨p,kv',e1,e2,e3,e4⟩=>?_⟩
  rw [ekv] at e1; cases e1
  subst e2 e4
  have g:=bf.new s2 e3 (o:=.tup [kv.1,kv.2])
  exact ⟨upd aM p (.tup [kv.1,kv.2]),g,ay.mpr ⟨p,_,rfl,.inl (.inl ah),.cons (Rep.mono (s1.trans g.f) _ r1) (.cons (Rep.mono (s1.trans g.f) _ r2) (au.mpr rfl))⟩⟩
 stop:=λi H aM s1 s2 e=>⟨s2 _ _ (s1 _ _ h),by rw [<- Hg hp]; exact e⟩
end
section
variable {K:Fi}
theorem xD (h:aA c e ρ λd=>∃ ds,d.pairs=some ds/\R ds)
 (hb:∀ env,attributeBase e "items" env (eval e env)=eval e env:=by intro _; walk_at "u") (hl:(ap.endLine == cp.line)=true:=by walk_at "u") :
 wX c tg (.Call (.Attribute e "items" ap) [] [] cp) ρ R:=λO H Hf Q S q aa s I =>
 uA (cF (X:=c.X)) (hb _) hl aa s O H Q I (h O H Hf _ S λd v H1 aM ⟨ds,hp,hR⟩ rv g=>by
  obtain ⟨a,o,u,e1,e2,e3,e4⟩:=qF hp rv
  refine ⟨a,o,u,e1,g.b _ _ e2,e3,λvw hv=>?_⟩
  exact q ds _ _ aM hR (g.trans (bf.gS g.b hv)) (nh e2 e4))
theorem A0 {x:D} {Q:List D->Prop} (e:x.pairs=some ds) (h:Q ds):∃ ys,x.pairs=some ys/\Q ys:=⟨ds,e,h⟩
end
end EV
namespace SR
open PySem PyProof.Rows
noncomputable def bH:Bool->Keyed->Array Keyed->Nat->Nat->Nat->StateT SortSt Sem (Option Nat):=sortPriv% PySem.Builtin.gallop
noncomputable def bC:Nat->StateT SortSt Sem Unit:=sortPriv% PySem.Builtin.setMinGallop
noncomputable def cg (left:Bool) (key:Keyed) (arr:Array Keyed) (base i:Nat):StateT SortSt Sem (Option Bool):=do
 let x <- elem' arr (base+i)
 if left then lt' x key else return (<- lt' key x).map (!·)
noncomputable abbrev lB:=Option (Option Nat)×Nat×Nat
noncomputable def iw (bey:Nat->StateT SortSt Sem (Option Bool)) (n lo hi:Nat):StateT SortSt Sem (Option Nat):=do
 let __s <- forIn [0:n] ((none,lo,hi):lB) λ_ __s =>
  if __s.snd.fst>=__s.snd.snd then pure (Gv (none,__s.snd.fst,__s.snd.snd))
  else do
   let __x <- bey (__s.snd.fst+(__s.snd.snd - __s.snd.fst) / 2)
   match __x with
   | some more=>if more=true then pure (F2 (none,__s.snd.fst+(__s.snd.snd - __s.snd.fst) / 2+1,__s.snd.snd)) else pure (F2 (none,__s.snd.fst,__s.snd.fst+(__s.snd.snd - __s.snd.fst) / 2))
   | _=>pure (Gv (some none,__s.snd.fst,__s.snd.snd))
 match __s.fst with
 | some r=>pure r
 | none=>pure (some __s.snd.snd)
noncomputable def uB (bey:Nat->StateT SortSt Sem (Option Bool)) (n hint maxofs:Nat):StateT SortSt Sem lB :=
 forIn [0:n] ((none,0,1):lB) λ_ __s =>
  if __s.snd.snd>=maxofs then pure (Gv (none,__s.snd.fst,__s.snd.snd))
  else do
   let __x <- bey (hint+__s.snd.snd)
   match __x with
   | some more=>if (!more)=true then pure (Gv (none,__s.snd.fst,__s.snd.snd)) else pure (F2 (none,__s.snd.snd,2 * __s.snd.snd+1))
   | _=>pure (Gv (some none,__s.snd.fst,__s.snd.snd))
noncomputable def uC (bey:Nat->StateT SortSt Sem (Option Bool)) (n hint maxofs:Nat):StateT SortSt Sem lB :=
 forIn [0:n] ((none,0,1):lB) λ_ __s =>
  if __s.snd.snd>=maxofs then pure (Gv (none,__s.snd.fst,__s.snd.snd))
  else do
   let __x <- bey (hint - __s.snd.snd)
   match __x with
   | some found=>if found=true then pure (Gv (none,__s.snd.fst,__s.snd.snd)) else pure (F2 (none,__s.snd.snd,2 * __s.snd.snd+1))
   | _=>pure (Gv (some none,__s.snd.fst,__s.snd.snd))
local macro_rules | `(tactic| walk_at "dl gallop")=>do
 let i:=HE (Hr `PySem.Builtin.List.W1All `PySem.Builtin.gallop)
 `(tactic| delta $i)
theorem ni (left) (key) (arr) (base n hint):bH left key arr base n hint=(do
 let __x <- cg left key arr base hint
 match __x with
 | some right =>
  if right=true then do
   let __s <- uB (cg left key arr base) n hint (n - hint)
   match __s.fst with
   | some r=>pure r
   | none=>iw (cg left key arr base) n (hint+__s.snd.fst+1) (hint+min __s.snd.snd (n - hint))
  else do
   let __s <- uC (cg left key arr base) n hint (hint+1)
   match __s.fst with
   | some r=>pure r
   | none=>iw (cg left key arr base) n (hint+1 - min __s.snd.snd (hint+1)) (hint - __s.snd.fst)
 | _=>pure none):=by
 unfold bH
 walk_at "dl gallop"
 unfold uB uC iw cg
 dsimp only
 congr 1
 funext x
 cases x with
 | none=>rfl
 | some right =>
  dsimp only
  cases right with
  | true =>
   rw [if_pos rfl,if_pos rfl]
   congr 1
   funext c
   obtain ⟨r,l,o⟩:=c
   cases r with
   | some r=>rfl
   | none =>
    dsimp only
    congr 1
    funext c
    obtain ⟨r,l,o⟩:=c
    cases r <;> rfl
  | false =>
   rw [if_neg Fv,if_neg Fv]
   congr 1
   funext c
   obtain ⟨r,l,o⟩:=c
   cases r with
   | some r=>rfl
   | none =>
    dsimp only
    congr 1
    funext c
    obtain ⟨r,l,o⟩:=c
    cases r <;> rfl
def eV (prog:Program) (w:World) (A:Around) (s:Shared) (κ:SortKind) (rk:Keyed->Int) (L:List Keyed):Prop :=
 ∀ x∈L,∀ y∈L,∀ (E:Value->Shared->Prop) (Q:Bool->Shared->Prop),Q (decide (rk x<rk y)) s->wpAny (model prog w) A (keyLt' κ x.1 y.1) Q E s
noncomputable def R (rk:Keyed->Int) (xs:Array Keyed) (i:Nat):Int:=match xs[i]? with | some p=>rk p | none=>0
theorem cj (h:xs[i]?=some p):R rk xs i=rk p:=by unfold R; rw [h]
theorem br (h:xs[i]?=ys[j]?):R rk xs i=R rk ys j:=by unfold R; rw [h]
theorem iy {st:SortSt} (hC:eV prog w A s κ rk L) (hk:kindOf st=κ) (hx:x∈L) (hy:y∈L) (h:Q (some (decide (rk x<rk y))) st):wpS (model prog w) A E s (lt' x y) Q st:=by
 rw [lt'_eq]
 refine Fj (Gy ?_)
 rw [hk]
 refine Fj (Ho (IF (hC x hx y hy _ _ ⟨rfl,?_⟩)))
 exact Fo h
theorem aC {st:SortSt} (hi:arr[i]?=some p) (h:Q p st):wpS (model prog w) A E s (elem' arr i) Q st:=by
 rw [elem'_eq,hi]; exact Fo h
theorem qG {st:SortSt} (hC:eV prog w A s κ rk L) (hk:kindOf st=κ) (hi:(arrOf st)[i]?=some p) (hj:(arrOf st)[j]?=some q) (hp:p∈L) (hq:q∈L)
 (h:Q (some (decide (R rk (arrOf st) i<R rk (arrOf st) j))) st):wpS (model prog w) A E s (ltAt' i j) Q st:=by
 rw [ltAt'_eq]
 refine Fj (Gy ?_)
 show wpS _ _ _ _ (do let x <- elem' (arrOf st) i; let y <- elem' (arrOf st) j; lt' x y) Q st
 refine Fj (aC hi (Fj (aC hj (iy hC hk hp hq ?_))))
 rw [cj hi,cj hj] at h
 exact h
theorem nj {st:SortSt} (hC:eV prog w A s κ rk L) (hk:kindOf st=κ) (hkey:key∈L) (hi:arr[base+i]?=some p) (hp:p∈L)
 (hb:(if left=true then rk p<rk key else rk p<=rk key)↔i<k) (h:Q (some (decide (i<k))) st):wpS (model prog w) A E s (cg left key arr base i) Q st:=by
 unfold cg
 refine Fj (aC hi ?_)
 cases left with
 | true =>
  simp only [if_true] at hb |-
  refine iy hC hk hp hkey ?_
  rw [decide_eq_decide.mpr hb]; exact h
 | false =>
  simp only [Ga,if_false] at hb |-
  refine Fj (iy hC hk hkey hp (Fo ?_))
  have e:(!decide (rk key<rk p))=decide (i<k):=by
   rw [<- decide_not]; exact decide_eq_decide.mpr (by rw [<- hb]; omega)
  rw [Option.map_some,e]; exact h
theorem iz {st:SortSt} {n lo hi k:Nat} (hb:∀ i,i<n->∀ (Q:Option Bool->SortSt->Prop),Q (some (decide (i<k))) st->wpS (model prog w) A E s (bey i) Q st)
 (h1:lo<=k) (h2:k<=hi) (h3:hi<=n) (h:Q (some k) st):wpS (model prog w) A E s (iw bey n lo hi) Q st:=by
 unfold iw
 refine Fj (FQ (Ge (I:=λx c st'=>st'=st/\∃ l r,c=(none,l,r)/\l<=k/\k<=r/\r<=n/\r - l<=n - x) (Q:=λc st'=>st'=st/\∃ l,c=(none,l,k)) ?step ?fin ⟨rfl,lo,hi,rfl,h1,h2,h3,by omega⟩) ?post)
 case fin =>
  rintro c st' ⟨rfl,l,r,rfl,a1,a2,a3,a4⟩
  have:r=k:=by omega
  subst this
  exact ⟨rfl,l,rfl⟩
 case step =>
  rintro x c st' _ hx ⟨rfl,l,r,rfl,a1,a2,a3,a4⟩
  dsimp only
  by_cases hge:l>=r
  ·rw [if_pos hge]
   have:r=k:=by omega
   subst this
   exact Fo ⟨rfl,l,rfl⟩
  ·rw [if_neg hge]
   refine Fj (hb _ (by omega) _ ?_)
   dsimp only
   by_cases hm:l+(r - l) / 2<k
   ·rw [decide_eq_true hm,if_pos rfl]
    exact Fo ⟨rfl,_,_,rfl,by omega,by omega,by omega,by omega⟩
   ·rw [decide_eq_false hm,if_neg Fv]
    exact Fo ⟨rfl,_,_,rfl,by omega,by omega,by omega,by omega⟩
 case post =>
  rintro c st' ⟨rfl,l,rfl⟩
  exact Fo h
theorem cW {st:SortSt} (hC:eV prog w A s κ rk L) (hk:kindOf st=κ) (hkey:key∈L) (harr:∀ i,i<n->∃ p,arr[base+i]?=some p/\p∈L)
 (hb:∀ i,i<n->((if left=true then R rk arr (base+i)<rk key else R rk arr (base+i)<=rk key)↔i<k)) (hkn:k<=n) (hh:hint<n) (h:Q (some k) st):wpS (model prog w) A E s (bH left key arr base n hint) Q st:=by
 have bey:∀ i,i<n->∀ (Q:Option Bool->SortSt->Prop),Q (some (decide (i<k))) st->wpS (model prog w) A E s (cg left key arr base i) Q st:=λi hi Q hQ=>by
  obtain ⟨p,e,hp⟩:=harr i hi
  refine nj hC hk hkey e hp ?_ hQ
  have:=hb i hi
  rw [cj e] at this
  exact this
 rw [ni]
 refine Fj (bey hint hh _ ?_)
 dsimp only
 by_cases hr:hint<k
 ·rw [decide_eq_true hr,if_pos rfl]
  unfold uB
  refine Fj (FQ (Ge (I:=λx c st'=>st'=st/\∃ l o,c=(none,l,o)/\hint+l<k/\x<o) (Q:=λc st'=>st'=st/\∃ l o,c=(none,l,o)/\hint+l<k/\(k<=hint+o\/n - hint<=o)) ?step ?fin ⟨rfl,0,1,rfl,hr,by omega⟩) ?post)
  case fin =>
   rintro c st' ⟨rfl,l,o,rfl,a1,a2⟩
   exact ⟨rfl,l,o,rfl,a1,.inr (by omega)⟩
  case step =>
   rintro x c st' _ hx ⟨rfl,l,o,rfl,a1,a2⟩
   dsimp only
   by_cases hge:o>=n - hint
   ·rw [if_pos hge]; exact Fo ⟨rfl,l,o,rfl,a1,.inr hge⟩
   ·rw [if_neg hge]
    refine Fj (bey _ (by omega) _ ?_)
    dsimp only
    by_cases hm:hint+o<k
    ·rw [decide_eq_true hm]; simp only [HC,Ga,if_false]
     exact Fo ⟨rfl,o,2 * o+1,rfl,hm,by omega⟩
    ·rw [decide_eq_false hm]; simp only [Bool.not_false,if_true]
     exact Fo ⟨rfl,l,o,rfl,a1,.inl (by omega)⟩
  case post =>
   rintro c st' ⟨rfl,l,o,rfl,a1,a2⟩
   dsimp only
   exact iz bey (by omega) (by omega) (by omega) h
 ·rw [decide_eq_false hr,if_neg Fv]
  unfold uC
  refine Fj (FQ (Ge (I:=λx c st'=>st'=st/\∃ l o,c=(none,l,o)/\l<=hint/\k<=hint - l/\x<o) (Q:=λc st'=>st'=st/\∃ l o,c=(none,l,o)/\l<=hint/\k<=hint - l/\(hint+1<=k+o\/hint+1<=o)) ?step ?fin ⟨rfl,0,1,rfl,by omega,by omega,by omega⟩) ?post)
  case fin =>
   rintro c st' ⟨rfl,l,o,rfl,a1,a2,a3⟩
   exact ⟨rfl,l,o,rfl,a1,a2,.inr (by omega)⟩
  case step =>
   rintro x c st' _ hx ⟨rfl,l,o,rfl,a1,a2,a3⟩
   dsimp only
   by_cases hge:o>=hint+1
   ·rw [if_pos hge]; exact Fo ⟨rfl,l,o,rfl,a1,a2,.inr hge⟩
   ·rw [if_neg hge]
    refine Fj (bey _ (by omega) _ ?_)
    dsimp only
    by_cases hm:hint - o<k
    ·rw [decide_eq_true hm,if_pos rfl]
     exact Fo ⟨rfl,l,o,rfl,a1,a2,.inl (by omega)⟩
    ·rw [decide_eq_false hm,if_neg Fv]
     exact Fo ⟨rfl,o,2 * o+1,rfl,by omega,by omega,by omega⟩
  case post =>
   rintro c st' ⟨rfl,l,o,rfl,a1,a2,a3⟩
   dsimp only
   exact iz bey (by omega) (by omega) (by omega) h
noncomputable def iA:Array Keyed->Array Keyed->StateT SortSt Sem (Array Keyed):=sortPriv% PySem.Builtin.mergeLo
theorem cX {st:SortSt} (h:Q () (IP (kindOf st) (arrOf st) (pendingOf st) g (failedOf st))):wpS M A E s (bC g) Q st :=
 GQ (f:=λst=>IP (kindOf st) (arrOf st) (pendingOf st) g (failedOf st)) h
section
variable {rk:Keyed->Int} {a b:Array Keyed}
def uD (rk:Keyed->Int) (xs:List Keyed):Prop:=xs.Pairwise λp q=>rk p<=rk q
theorem oW (h:xs.length<=1):uD rk xs:=by
 cases xs with
 | nil=>exact Iv
 | cons x xs =>
  cases xs with
  | nil=>exact HQ _ _
  | cons y ys=>simp at h
def Res (rk:Keyed->Int) (a b r:Array Keyed):Prop:=r.toList.Perm (a.toList++b.toList)/\uD rk r.toList
structure WL (rk:Keyed->Int) (a b:Array Keyed) (out:Array Keyed) (ia ib:Nat):Prop where
 pa:ia<=a.size
 pb:ib<=b.size
 pm:out.toList.Perm (a.toList.take ia++b.toList.take ib)
 sr:uD rk out.toList
 ha:∀ p∈out.toList,∀ (j:Nat) (q:Keyed),ia<=j->a[j]?=some q->rk p<=rk q
 hb:∀ p∈out.toList,∀ (j:Nat) (q:Keyed),ib<=j->b[j]?=some q->rk p<=rk q
def Up (rk:Keyed->Int) (a:Array Keyed):Prop:=∀ (i j:Nat) (p q:Keyed),i<=j->a[i]?=some p->a[j]?=some q->rk p<=rk q
theorem fM (h:Up rk a):uD rk a.toList:=by
 unfold uD
 rw [JF]
 intro i j hi hj hij
 exact h i j _ _ (GN hij) (by simp at hi |-) (by simp at hj |-)
theorem A1 (h:uD rk a.toList):Up rk a:=λi j p q hij e1 e2=>by
 rw [<- F1] at e1 e2
 obtain ⟨h1,r1⟩:=FA.mp e1
 obtain ⟨h2,r2⟩:=FA.mp e2
 subst r1 r2
 rcases Nat.lt_or_eq_of_le hij with z | z
 ·exact (JF.mp h) i j h1 h2 z
 ·subst z; exact GX _
theorem aU (h1:uD rk xs) (h2:uD rk ys) (h3:∀ p∈xs,∀ q∈ys,rk p<=rk q):uD rk (xs++ys):=List.pairwise_append.mpr ⟨h1,h2,h3⟩
theorem cz (xs:Array Keyed) (i j):(xs.extract i j).toList=(xs.toList.take j).drop i:=by
 rw [List.drop_take]; simp [List.extract_eq_take_drop]
theorem dw (xs:Array Keyed) (i):(xs.extract i xs.size).toList=xs.toList.drop i:=by
 rw [cz,HS (by simp)]
theorem eX (xs:Array Keyed) (i):(xs.extract i i).toList=[]:=by
 rw [cz,List.drop_take]; simp
theorem oX {xs:Array Keyed} (h:q∈(xs.extract i j).toList):∃ k,i<=k/\k<j/\xs[k]?=some q:=by
 obtain ⟨n,hn⟩:=HW h
 rw [F1,Jc] at hn
 split at hn
 ·rename_i z
  exact ⟨i+n,by lia,by lia,hn⟩
 ·cases hn
theorem WL.fN (h:WL rk a b out ia ib) (ua:Up rk a) (e:ib=b.size):Res rk a b (out++a.extract ia a.size++b.extract ib b.size):=by
 subst e
 have e0:(out++a.extract ia a.size++b.extract b.size b.size).toList=out.toList++a.toList.drop ia:=by
  rw [Gi,Gi,dw,dw,List.drop_of_length_le (show b.toList.length<=b.size by simp),GV]
 refine ⟨?_,?_⟩
 ·rw [e0]
  have hp:=h.pm
  rw [HS (show b.toList.length<=b.size by simp)] at hp
  refine (hp.append_right _).trans ?_
  have:(a.toList.take ia++b.toList++a.toList.drop ia).Perm (a.toList.take ia++a.toList.drop ia++b.toList):=by
   rw [FZ,FZ]
   exact HV _ Hs
  rw [HU] at this
  exact this
 ·rw [e0]
  refine aU h.sr ((fM ua).sublist (Ka _ _)) λp hp q hq=>?_
  obtain ⟨n,hn⟩:=HW hq
  rw [Ia] at hn
  exact h.ha p hp (ia+n) q (by lia) (by rw [<- F1]; exact hn)
theorem WL.fO (h:WL rk a b out ia ib) (ub:Up rk b) (e:ia=a.size):Res rk a b (out++a.extract ia a.size++b.extract ib b.size):=by
 subst e
 have e0:(out++a.extract a.size a.size++b.extract ib b.size).toList=out.toList++b.toList.drop ib:=by
  rw [Gi,Gi,dw,dw,List.drop_of_length_le (show a.toList.length<=a.size by simp),GV]
 refine ⟨?_,?_⟩
 ·rw [e0]
  have hp:=h.pm
  rw [HS (show a.toList.length<=a.size by simp)] at hp
  refine (hp.append_right _).trans ?_
  rw [FZ,HU]
 ·rw [e0]
  refine aU h.sr ((fM ub).sublist (Ka _ _)) λp hp q hq=>?_
  obtain ⟨n,hn⟩:=HW hq
  rw [Ia] at hn
  exact h.hb p hp (ib+n) q (by lia) (by rw [<- F1]; exact hn)
theorem WL.last (h:WL rk a b out ia ib) (ub:Up rk b) (e:ia+1=a.size) (hl:∀ (j:Nat) (p q:Keyed),a[ia]?=some p->b[j]?=some q->rk q<=rk p) :
 Res rk a b (out++b.extract ib b.size++a.extract ia a.size):=by
 have e0:(out++b.extract ib b.size++a.extract ia a.size).toList=out.toList++(b.toList.drop ib++a.toList.drop ia):=by
  rw [Gi,Gi,dw,dw,FZ]
 refine ⟨?_,?_⟩
 ·rw [e0]
  refine (h.pm.append_right _).trans ?_
  have:(a.toList.take ia++b.toList.take ib++(b.toList.drop ib++a.toList.drop ia)).Perm (a.toList.take ia++a.toList.drop ia++(b.toList.take ib++b.toList.drop ib)):=by
   rw [FZ,FZ]
   refine HV _ ?_
   rw [<- FZ]
   exact Hs
  rw [HU,HU] at this
  exact this
 ·rw [e0]
  have ml:∀ q∈b.toList.drop ib,∃ j,ib<=j/\b[j]?=some q:=λq hq=>by
   obtain ⟨n,hn⟩:=HW hq
   rw [Ia] at hn
   exact ⟨ib+n,by lia,by rw [<- F1]; exact hn⟩
  have ml2:∀ q∈a.toList.drop ia,a[ia]?=some q:=λq hq=>by
   obtain ⟨n,hn⟩:=HW hq
   rw [Ia] at hn
   have:=(FA.mp hn).1
   have hn0:n=0:=by simp at this; lia
   subst hn0
   rw [<- F1]; exact hn
  refine aU h.sr (aU ((fM ub).sublist (Ka _ _)) ?_ λp hp q hq=>?_) λp hp q hq=>?_
  ·exact oW (by simp; lia)
  ·obtain ⟨j,_,e1⟩:=ml p hp
   exact hl j q p (ml2 q hq) e1
  ·rcases Gd.mp hq with z | z
   ·obtain ⟨j,h1,e1⟩:=ml q z
    exact h.hb p hp j q h1 e1
   ·exact h.ha p hp ia q (Fq _) (ml2 q z)
theorem bJ {xs:Array Keyed} (h:xs[i]?=some p):xs.toList.take (i+1)=xs.toList.take i++[p]:=by
 rw [List.take_add_one,F1,h]; rfl
theorem WL.c8 {out:Array Keyed} {ia ib:Nat} {p:Keyed} (h:WL rk a b out ia ib) (ub:Up rk b) (e:b[ib]?=some p) (hl:∀ (j:Nat) (q:Keyed),ia<=j->a[j]?=some q->rk p<=rk q):WL rk a b (out.push p) ia (ib+1) where
 pa:=h.pa
 pb:=(HN.mp e).1
 pm:=by
  rw [FU,bJ e,<- FZ]
  exact h.pm.append_right _
 sr:=by
  rw [FU]
  exact aU h.sr (HQ _ _) λq hq r hr=>by
   rw [Gj.mp hr]; exact h.hb q hq ib p (Fq _) e
 ha:=λq hq j r hj er=>by
  rw [FU] at hq
  rcases Gd.mp hq with z | z
  ·exact h.ha q z j r hj er
  ·rw [Gj.mp z]; exact hl j r hj er
 hb:=λq hq j r hj er=>by
  rw [FU] at hq
  rcases Gd.mp hq with z | z
  ·exact h.hb q z j r (by lia) er
  ·rw [Gj.mp z]; exact ub ib j p r (by lia) e er
theorem WL.c9 {out:Array Keyed} {ia ib:Nat} {p:Keyed} (h:WL rk a b out ia ib) (ua:Up rk a) (e:a[ia]?=some p) (hl:∀ (j:Nat) (q:Keyed),ib<=j->b[j]?=some q->rk p<=rk q):WL rk a b (out.push p) (ia+1) ib where
 pa:=(HN.mp e).1
 pb:=h.pb
 pm:=by
  rw [FU,bJ e]
  refine (h.pm.append_right _).trans ?_
  rw [FZ,FZ]
  exact HV _ Hs
 sr:=by
  rw [FU]
  exact aU h.sr (HQ _ _) λq hq r hr=>by
   rw [Gj.mp hr]; exact h.ha q hq ia p (Fq _) e
 hb:=λq hq j r hj er=>by
  rw [FU] at hq
  rcases Gd.mp hq with z | z
  ·exact h.hb q z j r hj er
  ·rw [Gj.mp z]; exact hl j r hj er
 ha:=λq hq j r hj er=>by
  rw [FU] at hq
  rcases Gd.mp hq with z | z
  ·exact h.ha q z j r (by lia) er
  ·rw [Gj.mp z]; exact ua ia j p r (by lia) e er
theorem WL.lC (h:WL rk a b out ia ib) (ua:Up rk a):∀ (k:Nat),ia+k<=a.size->(∀ (i j:Nat) (p q:Keyed),ia<=i->i<ia+k->ib<=j->a[i]?=some p->b[j]?=some q->rk p<=rk q)->WL rk a b (out++a.extract ia (ia+k)) (ia+k) ib
 | 0,_,_=>by
  have:out++a.extract ia (ia+0)=out:=by
   apply Hj
   rw [Gi,Nat.add_zero,eX,GV]
  rw [this]; exact h
 | k+1,hk,hl=>by
  have ih:=h.lC ua k (by lia) λi j p q h1 h2=>hl i j p q h1 (by lia)
  have e:a[ia+k]?=some (a[ia+k]'(by lia)):=FJ _
  have z:=ih.c9 ua e λj q hj eq=>hl _ j _ q (by lia) (by lia) hj e eq
  have:out++a.extract ia (ia+(k+1))=(out++a.extract ia (ia+k)).push (a[ia+k]'(by lia)):=by
   apply Hj
   simp only [Gi,FU,cz]
   rw [show ia+(k+1)=(ia+k)+1 by lia,bJ e,Ku (by simp; lia),FZ]
  rw [this]; exact z
theorem WL.lD (h:WL rk a b out ia ib) (ub:Up rk b):∀ (k:Nat),ib+k<=b.size->(∀ (i j:Nat) (p q:Keyed),ib<=i->i<ib+k->ia<=j->b[i]?=some p->a[j]?=some q->rk p<=rk q)->WL rk a b (out++b.extract ib (ib+k)) ia (ib+k)
 | 0,_,_=>by
  have:out++b.extract ib (ib+0)=out:=by
   apply Hj
   rw [Gi,Nat.add_zero,eX,GV]
  rw [this]; exact h
 | k+1,hk,hl=>by
  have ih:=h.lD ub k (by lia) λi j p q h1 h2=>hl i j p q h1 (by lia)
  have e:b[ib+k]?=some (b[ib+k]'(by lia)):=FJ _
  have z:=ih.c8 ub e λj q hj eq=>hl _ j _ q (by lia) (by lia) hj e eq
  have:out++b.extract ib (ib+(k+1))=(out++b.extract ib (ib+k)).push (b[ib+k]'(by lia)):=by
   apply Hj
   simp only [Gi,FU,cz]
   rw [show ib+(k+1)=(ib+k)+1 by lia,bJ e,Ku (by simp; lia),FZ]
  rw [this]; exact z
end
section
variable {prog:Program} {w:World} {A:Around} {E:Value->Shared->Prop} {s:Shared} {L:List Keyed} {κ:SortKind} {rk:Keyed->Int} {a b:Array Keyed}
theorem iB (f:Nat->Int) (c):∀ n,(∀ i j,i<=j->j<n->f i<=f j)->∃ k,k<=n/\∀ i,i<n->(f i<=c↔i<k)
 | 0,_=>⟨0,Fq _,λi hi=>by lia⟩
 | n+1,hm=>by
  obtain ⟨k,h1,h2⟩:=iB f c n λi j hij hj=>hm i j hij (by lia)
  by_cases hc:f n<=c
  ·refine ⟨n+1,Fq _,λi hi=>⟨λ_=>hi,λ_=>?_⟩⟩
   exact F3 (hm i n (by lia) (by lia)) hc
  ·refine ⟨k,by lia,λi hi=>?_⟩
   by_cases hin:i<n
   ·exact h2 i hin
   ·have:i=n:=by lia
    subst this
    exact ⟨λz=>absurd z hc,λz=>by lia⟩
theorem iC (f:Nat->Int) (c):∀ n,(∀ i j,i<=j->j<n->f i<=f j)->∃ k,k<=n/\∀ i,i<n->(f i<c↔i<k)
 | 0,_=>⟨0,Fq _,λi hi=>by lia⟩
 | n+1,hm=>by
  obtain ⟨k,h1,h2⟩:=iC f c n λi j hij hj=>hm i j hij (by lia)
  by_cases hc:f n<c
  ·refine ⟨n+1,Fq _,λi hi=>⟨λ_=>hi,λ_=>?_⟩⟩
   exact Int.lt_of_le_of_lt (hm i n (by lia) (by lia)) hc
  ·refine ⟨k,by lia,λi hi=>?_⟩
   by_cases hin:i<n
   ·exact h2 i hin
   ·have:i=n:=by lia
    subst this
    exact ⟨λz=>absurd z hc,λz=>by lia⟩
theorem Dh (h:Up rk a) (hij:i<=j) (hj:j<a.size):R rk a i<=R rk a j:=by
 have e1:a[i]?=some (a[i]'(by lia)):=FJ _
 have e2:a[j]?=some a[j]:=FJ _
 rw [cj e1,cj e2]
 exact h i j _ _ hij e1 e2
structure bK (st st':SortSt):Prop where
 k:kindOf st'=kindOf st
 a:arrOf st'=arrOf st
 p:pendingOf st'=pendingOf st
 f:failedOf st'=failedOf st
theorem bK.refl (st:SortSt):bK st st:=⟨rfl,rfl,rfl,rfl⟩
theorem bK.min {st st':SortSt} (h:bK st st') (g):bK st (IP (kindOf st') (arrOf st') (pendingOf st') g (failedOf st')):=⟨h.k,h.a,h.p,h.f⟩
theorem bK.trans (h:bK s1 s2) (g:bK s2 s3):bK s1 s3:=⟨g.k.trans h.k,g.a.trans h.a,g.p.trans h.p,g.f.trans h.f⟩
theorem lE {st:SortSt} (hC:eV prog w A s κ rk L) (hk:kindOf st=κ) (hkey:key∈L) (mx:∀ (i:Nat) (p:Keyed),xs[i]?=some p->p∈L) (ux:Up rk xs) (n) (hn:base+n<=xs.size) (hh:hint<n)
 (h:∀ k,k<=n->(∀ (i:Nat) (p:Keyed),i<k->xs[base+i]?=some p->rk p<=rk key)->(∀ (i:Nat) (p:Keyed),k<=i->base+i<base+n->xs[base+i]?=some p->rk key<rk p)->Q (some k) st) :
 wpS (model prog w) A E s (bH false key xs base n hint) Q st:=by
 obtain ⟨k,h1,h2⟩:=iB (λi=>R rk xs (base+i)) (rk key) n λi j hij hj=>Dh ux (by lia) (by lia)
 refine cW hC hk hkey (λi hi=>⟨xs[base+i]'(by lia),FJ _,mx _ _ (FJ _)⟩) (λi hi=>by simp only [Ga,if_false]; exact h2 i hi) h1 hh (h k h1 (λi p hi e=>?_) λi p hi hb e=>?_)
 ·have:=(h2 i (by lia)).mpr hi
  rw [cj e] at this; exact this
 ·have:=mt (h2 i (by lia)).mp (by lia)
  rw [cj e] at this; lia
theorem lF {st:SortSt} (hC:eV prog w A s κ rk L) (hk:kindOf st=κ) (hkey:key∈L) (mx:∀ (i:Nat) (p:Keyed),xs[i]?=some p->p∈L) (ux:Up rk xs) (n) (hn:base+n<=xs.size) (hh:hint<n)
 (h:∀ k,k<=n->(∀ (i:Nat) (p:Keyed),i<k->xs[base+i]?=some p->rk p<rk key)->(∀ (i:Nat) (p:Keyed),k<=i->base+i<base+n->xs[base+i]?=some p->rk key<=rk p)->Q (some k) st) :
 wpS (model prog w) A E s (bH true key xs base n hint) Q st:=by
 obtain ⟨k,h1,h2⟩:=iC (λi=>R rk xs (base+i)) (rk key) n λi j hij hj=>Dh ux (by lia) (by lia)
 refine cW hC hk hkey (λi hi=>⟨xs[base+i]'(by lia),FJ _,mx _ _ (FJ _)⟩) (λi hi=>by simp only [if_true]; exact h2 i hi) h1 hh (h k h1 (λi p hi e=>?_) λi p hi hb e=>?_)
 ·have:=(h2 i (by lia)).mpr hi
  rw [cj e] at this; exact this
 ·have:=mt (h2 i (by lia)).mp (by lia)
  rw [cj e] at this; lia
structure i7 (rk:Keyed->Int) (a b out:Array Keyed) (ia ib:Nat):Prop where
 w:WL rk a b out ia ib
 la:ia+1<a.size
 lb:ib<b.size
end
section
local macro_rules | `(tactic| walk_at "dl mergeLo")=>do
 let i:=HE (Hr `PySem.Builtin.List.W1All `PySem.Builtin.mergeLo)
 `(tactic| delta $i)
noncomputable abbrev uE:=Option (Array Keyed)×Array Keyed×Nat×Nat×Nat×Nat×Nat
noncomputable def yR (a b out:Array Keyed) (ia ib:Nat):Array Keyed:=out++a.extract ia a.size++b.extract ib b.size
noncomputable def vP (a b out:Array Keyed) (ia ib:Nat):Array Keyed:=out++b.extract ib b.size++a.extract ia a.size
noncomputable def oY (a b:Array Keyed) (mg ac bc ia ib:Nat) (out:Array Keyed):StateT SortSt Sem (ForInStep uE):=do
 let p <- elem' a ia
 if (ia+1+1 == a.size)=true then pure (.done (some (vP a b (out.push p) (ia+1) ib),out.push p,ia+1,ib,mg,ac,bc))
 else if (decide (ac<7) && decide (bc<7))=true then pure (.done (none,out.push p,ia+1,ib,mg,ac,bc))
 else pure (.yield (none,out.push p,ia+1,ib,mg,ac,bc))
noncomputable def oZ (a b:Array Keyed) (mg ac bc ia ib:Nat) (out:Array Keyed):StateT SortSt Sem (ForInStep uE):=do
 let q <- elem' b ib
 if (ib+1 == b.size)=true then pure (.done (some (yR a b (out.push q) ia (ib+1)),out.push q,ia,ib+1,mg,ac,bc))
 else do
  let p <- elem' a ia
  let x <- bH true p b (ib+1) (b.size - (ib+1)) 0
  match x with
  | some k=>(if k>0 then
   (if (ib+1+k == b.size)=true then pure (.done (some (yR a b (out.push q++b.extract (ib+1) (ib+1+k)) ia (ib+1+k)),out.push q++b.extract (ib+1) (ib+1+k),ia,ib+1+k,mg,ac,k))
    else oY a b mg ac k ia (ib+1+k) (out.push q++b.extract (ib+1) (ib+1+k)))
   else oY a b mg ac k ia (ib+1) (out.push q))
  | _=>pure (.done (some (yR a b (out.push q) ia (ib+1)),out.push q,ia,ib+1,mg,ac,bc))
noncomputable def o4 (a b:Array Keyed) (mg ac bc ia ib:Nat) (out:Array Keyed):StateT SortSt Sem (ForInStep uE):=do
 bC mg
 let q <- elem' b ib
 let x <- bH false q a ia (a.size - ia) 0
 match x with
 | some k=>(if k>0 then
  (if (ia+k+1 == a.size)=true then pure (.done (some (vP a b (out++a.extract ia (ia+k)) (ia+k) ib),out++a.extract ia (ia+k),ia+k,ib,mg,k,bc))
   else if (ia+k == a.size)=true then pure (.done (some (yR a b (out++a.extract ia (ia+k)) (ia+k) ib),out++a.extract ia (ia+k),ia+k,ib,mg,k,bc))
   else oZ a b mg k bc (ia+k) ib (out++a.extract ia (ia+k)))
  else oZ a b mg k bc ia ib out)
 | _=>pure (.done (some (yR a b out ia ib),out,ia,ib,mg,ac,bc))
noncomputable def uF (a b:Array Keyed) (c:uE):StateT SortSt Sem (ForInStep uE) :=
 if c.2.2.2.2.1>1 then o4 a b (c.2.2.2.2.1 - 1) c.2.2.2.2.2.1 c.2.2.2.2.2.2 c.2.2.1 c.2.2.2.1 c.2.1 else o4 a b c.2.2.2.2.1 c.2.2.2.2.2.1 c.2.2.2.2.2.2 c.2.2.1 c.2.2.2.1 c.2.1
noncomputable abbrev A2:=Option (Array Keyed)×Array Keyed×Nat×Nat×Nat×Nat
noncomputable def uG (a b:Array Keyed) (mg:Nat) (c:A2):StateT SortSt Sem (ForInStep A2):=do
 let q <- elem' b c.2.2.2.1
 let p <- elem' a c.2.2.1
 let x <- lt' q p
 match x with
 | some y=>(if y=true then (do
  let q <- elem' b c.2.2.2.1
  if (c.2.2.2.1+1 == b.size)=true then pure (.done (some (yR a b (c.2.1.push q) c.2.2.1 (c.2.2.2.1+1)),c.2.1.push q,c.2.2.1,c.2.2.2.1+1,0,c.2.2.2.2.2+1))
  else if c.2.2.2.2.2+1>=mg then pure (.done (none,c.2.1.push q,c.2.2.1,c.2.2.2.1+1,0,c.2.2.2.2.2+1))
  else pure (.yield (none,c.2.1.push q,c.2.2.1,c.2.2.2.1+1,0,c.2.2.2.2.2+1)))
  else (do
   let p <- elem' a c.2.2.1
   if (c.2.2.1+1+1 == a.size)=true then pure (.done (some (vP a b (c.2.1.push p) (c.2.2.1+1) c.2.2.2.1),c.2.1.push p,c.2.2.1+1,c.2.2.2.1,c.2.2.2.2.1+1,0))
   else if c.2.2.2.2.1+1>=mg then pure (.done (none,c.2.1.push p,c.2.2.1+1,c.2.2.2.1,c.2.2.2.2.1+1,0))
   else pure (.yield (none,c.2.1.push p,c.2.2.1+1,c.2.2.2.1,c.2.2.2.2.1+1,0))))
 | _=>pure (.done (some (yR a b c.2.1 c.2.2.1 c.2.2.2.1),c.2.1,c.2.2.1,c.2.2.2.1,c.2.2.2.2.1,c.2.2.2.2.2))
noncomputable abbrev xE:=Option (Array Keyed)×Array Keyed×Nat×Nat×Nat
noncomputable def j8 (a b:Array Keyed) (c:xE):StateT SortSt Sem (ForInStep xE):=do
 let s <- forIn [:a.size+b.size] ((none,c.2.1,c.2.2.1,c.2.2.2.1,0,0):A2) λ_ s=>uG a b c.2.2.2.2 s
 match s.1 with
 | some r=>pure (.done (some r,s.2.1,s.2.2.1,s.2.2.2.1,c.2.2.2.2))
 | none=>do
  liftM (rule "list.sort.gallop")
  let t <- forIn [:a.size+b.size] ((none,s.2.1,s.2.2.1,s.2.2.2.1,c.2.2.2.2+1,s.2.2.2.2.1,s.2.2.2.2.2):uE) λ_ t=>uF a b t
  match t.1 with
  | some r=>pure (.done (some r,t.2.1,t.2.2.1,t.2.2.2.1,t.2.2.2.2.1))
  | none=>do
   bC (t.2.2.2.2.1+1)
   pure (.yield (none,t.2.1,t.2.2.1,t.2.2.2.1,t.2.2.2.2.1+1))
theorem lG (a b):iA a b=(do
 liftM (rule "list.sort.merge-lo")
 let p <- elem' b 0
 if (1 == b.size)=true then pure (yR a b #[p] 0 1)
 else if (0+1 == a.size)=true then pure (vP a b #[p] 0 1)
 else do
  let st <- get
  let s <- forIn [:a.size+b.size] ((none,#[p],0,1,gallopOf st):xE) λ_ c=>j8 a b c
  match s.1 with
  | some r=>pure r
  | none=>liftM (unsupported (α:=Array Keyed) "internal:list.sort.merge-bound")):=by
 unfold iA
 walk_at "dl mergeLo"
 dsimp only
 refine congrArg _ (funext λ_=>?_)
 refine congrArg _ (funext λp=>?_)
 refine congrArg _ (congrArg _ ?_)
 refine congrArg _ (funext λst=>?_)
 have e:∀ (f g:Nat->xE->StateT SortSt Sem (ForInStep xE)) (c:xE) (k:xE->StateT SortSt Sem (Array Keyed)),f=g->(forIn [:a.size+b.size] c f >>= k)=(forIn [:a.size+b.size] c g >>= k):=λ_ _ _ _ h=>by rw [h]
 refine (e _ _ _ _ (funext λ_=>funext λc=>?_)).trans (congrArg _ (funext λs=>?_))
 ·obtain ⟨o,out,ia,ib,mg⟩:=c
  unfold j8
  dsimp only
  have e2:∀ (f g:Nat->A2->StateT SortSt Sem (ForInStep A2)) (c:A2) (k l:A2->StateT SortSt Sem (ForInStep xE)),f=g->k=l->(forIn [:a.size+b.size] c f >>= k)=(forIn [:a.size+b.size] c g >>= l):=λ_ _ _ _ _ h h2=>by rw [h,h2]
  refine e2 _ _ _ _ _ (funext λ_=>funext λc=>?_) (funext λs=>?_)
  ·rfl
  ·obtain ⟨o,out,ia,ib,ac,bc⟩:=s
   cases o with
   | some r=>rfl
   | none =>
    dsimp only
    refine congrArg _ (funext λ_=>?_)
    have e3:∀ (f g:Nat->uE->StateT SortSt Sem (ForInStep uE)) (c:uE) (k l:uE->StateT SortSt Sem (ForInStep xE)),f=g->k=l->(forIn [:a.size+b.size] c f >>= k)=(forIn [:a.size+b.size] c g >>= l):=λ_ _ _ _ _ h h2=>by rw [h,h2]
    refine e3 _ _ _ _ _ (funext λ_=>funext λc=>?_) (funext λs=>?_)
    ·rfl
    ·obtain ⟨o,s⟩:=s
     cases o <;> rfl
 ·obtain ⟨o,s⟩:=s
  cases o <;> rfl
end
theorem some_at {xs:Array Keyed} (h:i<xs.size):∃ p,xs[i]?=some p:=⟨xs[i],FJ h⟩
def xF (rk:Keyed->Int) (a b:Array Keyed) (n:Nat) (o:Option (Array Keyed)) (ia ib:Nat) (out:Array Keyed):Prop:=(∃ r,o=some r/\Res rk a b r)\/(o=none/\i7 rk a b out ia ib/\n<=ia+ib)
noncomputable def xG (rk:Keyed->Int) (a b:Array Keyed) (n:Nat):ForInStep uE->Prop
 | .done c=>xF rk a b n c.1 c.2.2.1 c.2.2.2.1 c.2.1
 | .yield c=>c.1=none/\i7 rk a b c.2.1 c.2.2.1 c.2.2.2.1/\n<=c.2.2.1+c.2.2.2.1
theorem jq {st:SortSt} (lA:∀ {out:Array Keyed} {ia ib:Nat},WL rk a b out ia ib->ia+1=a.size->Res rk a b (vP a b out ia ib)) (W:WL rk a b out ia ib) (ua:Up rk a) (la:ia+1<a.size) (lb:ib<b.size) (ep:a[ia]?=some p)
 (hl:∀ (j:Nat) (r:Keyed),ib<=j->b[j]?=some r->rk p<=rk r) (hn:n<=ia+1+ib) (hQ:∀ x,xG rk a b n x->Q x st):wpS (model prog w) A E s (oY a b mg ac bc ia ib out) Q st:=by
 unfold oY
 have W4:=W.c9 ua ep hl
 refine Fj (aC ep ?_)
 by_cases e9:ia+1+1=a.size
 ·rw [if_pos (by simpa using e9)]
  exact Fo (hQ _ (.inl ⟨_,rfl,lA W4 e9⟩))
 rw [if_neg (by simpa using e9)]
 have hL:i7 rk a b (out.push p) (ia+1) ib:=⟨W4,Nat.lt_of_le_of_ne la e9,lb⟩
 split
 ·exact Fo (hQ _ (.inr ⟨rfl,hL,hn⟩))
 ·exact Fo (hQ _ ⟨rfl,hL,hn⟩)
theorem j9 {xs:Array Keyed} {i j:Nat} (h:i<=j) (e:xs[j]?=some p):xs[i+(j - i)]?=some p:=by rw [JU h]; exact e
theorem jr {st:SortSt} (hC:eV prog w A s κ rk L) (hk:kindOf st=κ) (ma:∀ (i:Nat) (p:Keyed),a[i]?=some p->p∈L) (mb:∀ (i:Nat) (p:Keyed),b[i]?=some p->p∈L)
 (lA:∀ {out:Array Keyed} {ia ib:Nat},WL rk a b out ia ib->ia+1=a.size->Res rk a b (vP a b out ia ib)) (W:WL rk a b out ia ib) (ua:Up rk a) (ub:Up rk b) (la:ia+1<a.size) (lb:ib<b.size) (eq:b[ib]?=some q)
 (hl:∀ (j:Nat) (r:Keyed),ia<=j->a[j]?=some r->rk q<=rk r) (hn:n<=ia+ib+2) (hQ:∀ x,xG rk a b n x->Q x st):wpS (model prog w) A E s (oZ a b mg ac bc ia ib out) Q st:=by
 unfold oZ
 have W2:=W.c8 ub eq hl
 refine Fj (aC eq ?_)
 by_cases e5:ib+1=b.size
 ·rw [if_pos (by simpa using e5)]
  exact Fo (hQ _ (.inl ⟨_,rfl,W2.fN ua e5⟩))
 rw [if_neg (by simpa using e5)]
 obtain ⟨p,ep⟩:=some_at (xs:=a) (i:=ia) (by lia)
 refine Fj (aC ep ?_)
 refine Fj (lF hC hk (ma _ _ ep) mb ub _ (by lia) (by lia) λk hj1 hj2 hj3=>?_)
 dsimp only
 have W3:=W2.lD ub k (by lia) λi j r p' z1 z2 z3 e6 e7=>F3 (GP (hj2 (i - (ib+1)) r (by lia) (j9 z1 e6))) (ua ia j p p' z3 ep e7)
 have bwd:∀ (j:Nat) (r:Keyed),ib+1+k<=j->b[j]?=some r->rk p<=rk r:=λj r hj e6=>hj3 (j - (ib+1)) r (by lia) (by have:=(HN.mp e6).1; lia) (j9 (Fy (IC _ _) hj) e6)
 by_cases hj0:k>0
 ·rw [if_pos hj0]
  by_cases e8:ib+1+k=b.size
  ·rw [if_pos (by simpa using e8)]
   exact Fo (hQ _ (.inl ⟨_,rfl,W3.fN ua e8⟩))
  rw [if_neg (by simpa using e8)]
  exact jq lA W3 ua la (by lia) ep bwd (by lia) hQ
 ·rw [if_neg hj0]
  exact jq lA W2 ua la (by lia) ep (λj r hj e6=>bwd j r (by lia) e6) (by lia) hQ
theorem ju {st:SortSt} (hC:eV prog w A s κ rk L) (hk:kindOf st=κ) (ma:∀ (i:Nat) (p:Keyed),a[i]?=some p->p∈L) (mb:∀ (i:Nat) (p:Keyed),b[i]?=some p->p∈L)
 (lA:∀ {out:Array Keyed} {ia ib:Nat},WL rk a b out ia ib->ia+1=a.size->Res rk a b (vP a b out ia ib)) (ua:Up rk a) (ub:Up rk b) (hL:i7 rk a b out ia ib) (hn:n<=ia+ib) (hQ:∀ x st',bK st st'->xG rk a b n x->Q x st') :
 wpS (model prog w) A E s (o4 a b mg ac bc ia ib out) Q st:=by
 unfold o4
 have W:=hL.w
 have la:=hL.la
 have lb:=hL.lb
 obtain ⟨q,eq⟩:=some_at (xs:=b) lb
 refine Fj (cX ?_)
 have zf:=λx=>hQ x _ ((bK.refl st).min mg)
 refine Fj (aC eq ?_)
 refine Fj (lE hC (by exact hk) (mb _ _ eq) ma ua _ (by lia) (by lia) λk hk1 hk2 hk3=>?_)
 dsimp only
 have Wk:=W.lC ua k (by lia) λi j p r z1 z2 z3 e3 e4=>F3 (hk2 (i - ia) p (by lia) (j9 z1 e3)) (ub ib j q r z3 eq e4)
 have fwd:∀ (j:Nat) (r:Keyed),ia+k<=j->a[j]?=some r->rk q<=rk r:=λj r hj e3=>GP (hk3 (j - ia) r (by lia) (by have:=(HN.mp e3).1; lia) (j9 (Fy (IC _ _) hj) e3))
 by_cases hk0:k>0
 ·rw [if_pos hk0]
  by_cases e3:ia+k+1=a.size
  ·rw [if_pos (by simpa using e3)]
   exact Fo (zf _ (.inl ⟨_,rfl,lA Wk e3⟩))
  rw [if_neg (by simpa using e3)]
  by_cases e4:ia+k=a.size
  ·rw [if_pos (by simpa using e4)]
   exact Fo (zf _ (.inl ⟨_,rfl,Wk.fO ub e4⟩))
  rw [if_neg (by simpa using e4)]
  exact jr hC (by exact hk) ma mb lA Wk ua ub (by lia) lb eq fwd (by lia) zf
 ·rw [if_neg hk0]
  exact jr hC (by exact hk) ma mb lA W ua ub la lb eq (λj r hj e3=>fwd j r (by lia) e3) (by lia) zf
theorem qH {st:SortSt} (hC:eV prog w A s κ rk L) (hk:kindOf st=κ) (ma:∀ (i:Nat) (p:Keyed),a[i]?=some p->p∈L) (mb:∀ (i:Nat) (p:Keyed),b[i]?=some p->p∈L)
 (lA:∀ {out:Array Keyed} {ia ib:Nat},WL rk a b out ia ib->ia+1=a.size->Res rk a b (vP a b out ia ib)) (ua:Up rk a) (ub:Up rk b) (hL:i7 rk a b c.2.1 c.2.2.1 c.2.2.2.1) (hn:n<=c.2.2.1+c.2.2.2.1+1)
 (hQ:∀ o ia ib out z y,xF rk a b n o ia ib out->Q (.done (o,out,ia,ib,z)) st/\(o=none->Q (.yield (none,out,ia,ib,y)) st)):wpS (model prog w) A E s (uG a b mg c) Q st:=by
 obtain ⟨_,out,ia,ib,ac,bc⟩:=c
 unfold uG
 dsimp only at hL hn |-
 have W:=hL.w
 have la:=hL.la
 have lb:=hL.lb
 obtain ⟨q,eq⟩:=some_at (xs:=b) lb
 obtain ⟨p,ep⟩:=some_at (xs:=a) (Nat.lt_of_succ_lt la)
 refine Fj (aC eq (Fj (aC ep (Fj (iy hC hk (mb _ _ eq) (ma _ _ ep) ?_)))))
 dsimp only
 by_cases hw:rk q<rk p
 ·rw [decide_eq_true hw,if_pos rfl]
  have W1:=W.c8 ub eq λj r hj e=>F3 (GP hw) (ua ia j p r hj ep e)
  refine Fj (aC eq ?_)
  by_cases e3:ib+1=b.size
  ·rw [if_pos (by simpa using e3)]
   exact Fo (hQ _ _ _ _ _ (0,0) (.inl ⟨_,rfl,W1.fN ua e3⟩)).1
  rw [if_neg (by simpa using e3)]
  have z:=hQ none ia (ib+1) (out.push q) (0,bc+1) (0,bc+1) (.inr ⟨rfl,⟨W1,la,by lia⟩,by lia⟩)
  split
  ·exact Fo z.1
  ·exact Fo (z.2 rfl)
 ·rw [decide_eq_false hw,if_neg Fv]
  have W1:=W.c9 ua ep λj r hj e=>F3 (Int.not_lt.mp hw) (ub ib j q r hj eq e)
  refine Fj (aC ep ?_)
  by_cases e3:ia+1+1=a.size
  ·rw [if_pos (by simpa using e3)]
   exact Fo (hQ _ _ _ _ _ (0,0) (.inl ⟨_,rfl,lA W1 e3⟩)).1
  rw [if_neg (by simpa using e3)]
  have z:=hQ none (ia+1) ib (out.push p) (ac+1,0) (ac+1,0) (.inr ⟨rfl,⟨W1,by lia,lb⟩,by lia⟩)
  split
  ·exact Fo z.1
  ·exact Fo (z.2 rfl)
theorem nk {st:SortSt} (hC:eV prog w A s κ rk L) (hk:kindOf st=κ) (ma:∀ (i:Nat) (p:Keyed),a[i]?=some p->p∈L) (mb:∀ (i:Nat) (p:Keyed),b[i]?=some p->p∈L)
 (lA:∀ {out:Array Keyed} {ia ib:Nat},WL rk a b out ia ib->ia+1=a.size->Res rk a b (vP a b out ia ib)) (ua:Up rk a) (ub:Up rk b) (hL:i7 rk a b c.2.1 c.2.2.1 c.2.2.2.1) (hn:n<=c.2.2.1+c.2.2.2.1+1)
 (h1:∀ r z st',bK st st'->Res rk a b r->Q (.done (some r,z)) st') (h2:∀ ia ib out g st',bK st st'->i7 rk a b out ia ib->n<=ia+ib->Q (.yield (none,out,ia,ib,g)) st'):wpS (model prog w) A E s (j8 a b c) Q st:=by
 unfold j8
 refine Fj (FQ (Ge (I:=λy c st'=>st'=st/\c.1=none/\i7 rk a b c.2.1 c.2.2.1 c.2.2.2.1/\n+y<=c.2.2.1+c.2.2.2.1+1) (Q:=λc st'=>st'=st/\xF rk a b n c.1 c.2.2.1 c.2.2.2.1 c.2.1) ?step ?fin ⟨rfl,rfl,hL,hn⟩) ?post)
 case fin =>
  rintro c st' ⟨rfl,hc,hL',hx⟩
  exact ⟨rfl,.inr ⟨hc,hL',by have:=hL'.la; have:=hL'.lb; lia⟩⟩
 case step =>
  rintro y c st' _ hy ⟨rfl,_,hL',hx⟩
  refine qH (n:=n+y) hC hk ma mb lA ua ub hL' hx λo ia ib out z y hR=>⟨?_,?_⟩
  ·refine ⟨rfl,?_⟩
   rcases hR with hR | ⟨q1,q2,q3⟩
   ·exact .inl hR
   ·exact .inr ⟨q1,q2,Fy (IC _ _) q3⟩
  ·rintro rfl
   rcases hR with ⟨_,q,_⟩ | ⟨q1,q2,q3⟩
   ·cases q
   ·exact ⟨rfl,rfl,q2,Iw q3⟩
 case post =>
  rintro ⟨o,out,ia,ib,ac,bc⟩ st' ⟨rfl,hR⟩
  dsimp only at hR |-
  rcases hR with ⟨r,rfl,hr⟩ | ⟨rfl,hL2,hn2⟩
  ·exact Fo (h1 r _ _ (.refl _) hr)
  refine Fj (Ho (GG ⟨rfl,?_⟩))
  refine Fj (FQ (Ge (I:=λy c st''=>bK st' st''/\c.1=none/\i7 rk a b c.2.1 c.2.2.1 c.2.2.2.1/\n<=c.2.2.1+c.2.2.2.1) (Q:=λc st''=>bK st' st''/\xF rk a b n c.1 c.2.2.1 c.2.2.2.1 c.2.1) ?gstep ?gfin ⟨.refl _,rfl,hL2,hn2⟩) ?gpost)
  case gfin=>exact λc st'' ⟨q1,q2,q3,q4⟩=>⟨q1,.inr ⟨q2,q3,q4⟩⟩
  case gstep =>
   rintro y c st'' _ _ ⟨q1,q2,q3,q4⟩
   have key:wpS (model prog w) A E s (uF a b c) (λx st3=>bK st'' st3/\xG rk a b n x) st'':=by
    unfold uF
    split
    ·exact ju hC (q1.k.trans hk) ma mb lA ua ub q3 q4 λx st3 k h=>⟨k,h⟩
    ·exact ju hC (q1.k.trans hk) ma mb lA ua ub q3 q4 λx st3 k h=>⟨k,h⟩
   refine FQ key λx st3 ⟨k,h⟩=>?_
   cases x with
   | done c=>exact ⟨q1.trans k,h⟩
   | yield c=>exact ⟨q1.trans k,h⟩
  case gpost =>
   rintro ⟨o,out,ia,ib,g,ac,bc⟩ st'' ⟨q1,hR⟩
   dsimp only at hR |-
   rcases hR with ⟨r,rfl,hr⟩ | ⟨rfl,hL3,hn3⟩
   ·exact Fo (h1 r _ _ q1 hr)
   ·exact Fj (cX (Fo (h2 _ _ _ _ _ (q1.min _) hL3 hn3)))
theorem lH {st:SortSt} (hC:eV prog w A s κ rk L) (hk:kindOf st=κ) (ma:∀ (i:Nat) (p:Keyed),a[i]?=some p->p∈L) (mb:∀ (i:Nat) (p:Keyed),b[i]?=some p->p∈L) (ua:Up rk a) (ub:Up rk b) (na:1<=a.size) (nb:1<=b.size)
 (h0:∀ p q,a[0]?=some p->b[0]?=some q->rk q<=rk p) (hl:∀ (j:Nat) (p q:Keyed),a[a.size - 1]?=some p->b[j]?=some q->rk q<=rk p) (h:∀ r st',Res rk a b r->bK st st'->Q r st'):wpS (model prog w) A E s (iA a b) Q st:=by
 have lastA:∀ {out:Array Keyed} {ia ib:Nat},WL rk a b out ia ib->ia+1=a.size->Res rk a b (vP a b out ia ib):=λhw e=>hw.last ub e λj p q e1 e2=>hl j p q (by rw [<- e]; exact e1) e2
 obtain ⟨q0,eq0⟩:=some_at (xs:=b) (i:=0) nb
 obtain ⟨p0,ep0⟩:=some_at (xs:=a) (i:=0) na
 have W0:WL rk a b #[q0] 0 1:=by
  have z:WL rk a b #[] 0 0:=⟨Gw _,Gw _,by simp,Iv,by simp,by simp⟩
  exact z.c8 ub eq0 λj q _ e=>F3 (h0 p0 q0 ep0 eq0) (ua 0 j p0 q (Gw _) ep0 e)
 rw [lG]
 refine Fj (Ho (GG ⟨rfl,?_⟩))
 refine Fj (aC eq0 ?_)
 by_cases e1:1=b.size
 ·rw [if_pos (by simpa using e1)]
  exact Fo (h _ _ (W0.fN ua e1) (.refl _))
 rw [if_neg (by simpa using e1)]
 by_cases e2:0+1=a.size
 ·rw [if_pos (by simpa using e2)]
  exact Fo (h _ _ (lastA W0 e2) (.refl _))
 rw [if_neg (by simpa using e2)]
 refine Fj (Gy ?_)
 refine Fj (FQ (Ge (I:=λx c st'=>bK st st'/\c.1=none/\i7 rk a b c.2.1 c.2.2.1 c.2.2.2.1/\x+1<=c.2.2.1+c.2.2.2.1) (Q:=λc st'=>bK st st'/\∃ r,c.1=some r/\Res rk a b r) ?step ?fin ⟨.refl _,rfl,⟨W0,by dsimp only; lia,by dsimp only; lia⟩,by dsimp only; lia⟩) ?post)
 case fin =>
  rintro c st' ⟨hK,hc,hL,hx⟩
  have h1:=hL.la
  have h2:=hL.lb
  lia
 case post =>
  rintro c st' ⟨hK,r,hc,hr⟩
  rw [hc]
  exact Fo (h r st' hr hK)
 case step =>
  rintro x c st1 _ hx ⟨hK,_,hL,hn⟩
  exact nk (n:=x+2) hC (hK.k.trans hk) ma mb lastA ua ub hL (Iw hn) (λr z st' k hr=>⟨hK.trans k,r,rfl,hr⟩) λia ib out g st' k q1 q2=>⟨hK.trans k,rfl,q1,q2⟩
noncomputable def iD:Array Keyed->Array Keyed->StateT SortSt Sem (Array Keyed):=sortPriv% PySem.Builtin.mergeHi
local macro_rules | `(tactic| walk_at "dl mergeHi")=>do
 let i:=HE (Hr `PySem.Builtin.List.W1All `PySem.Builtin.mergeHi)
 `(tactic| delta $i)
section
variable {rk:Keyed->Int} {a b:Array Keyed}
structure WH (rk:Keyed->Int) (a b:Array Keyed) (out:Array Keyed) (na nb:Nat):Prop where
 pa:na<=a.size
 pb:nb<=b.size
 pm:out.toList.Perm (a.toList.drop na++b.toList.drop nb)
 sr:uD rk out.toList.reverse
 ha:∀ p∈out.toList,∀ (j:Nat) (q:Keyed),j<na->a[j]?=some q->rk q<=rk p
 hb:∀ p∈out.toList,∀ (j:Nat) (q:Keyed),j<nb->b[j]?=some q->rk q<=rk p
theorem bQ (xs:Array Keyed) (i):(xs.extract 0 i).toList=xs.toList.take i:=by rw [cz,List.drop_zero]
theorem eY {xs:Array Keyed} (h:q∈xs.toList.take i):∃ j,j<i/\xs[j]?=some q:=by
 obtain ⟨n,hn⟩:=HW h
 have hl:=(FA.mp hn).1
 rw [Gh] at hl
 rw [IZ (by lia)] at hn
 exact ⟨n,by lia,by rw [<- F1]; exact hn⟩
theorem WH.res (h:WH rk a b out na nb) (x) (hx:x.toList.Perm (a.toList.take na++b.toList.take nb)) (hs:uD rk x.toList):Res rk a b (x++out.reverse):=by
 have e0:(x++out.reverse).toList=x.toList++out.toList.reverse:=by simp
 refine ⟨?_,?_⟩
 ·rw [e0]
  refine (hx.append ((J8 _).trans h.pm)).trans ?_
  have:(a.toList.take na++b.toList.take nb++(a.toList.drop na++b.toList.drop nb)).Perm (a.toList.take na++a.toList.drop na++(b.toList.take nb++b.toList.drop nb)):=by
   rw [FZ,FZ]
   refine HV _ ?_
   rw [<- FZ,<- FZ]
   exact List.Perm.append_right _ Hs
  rw [HU,HU] at this
  exact this
 ·rw [e0]
  refine aU hs h.sr λp hp q hq=>?_
  have hq':q∈out.toList:=by simpa using hq
  rcases Gd.mp (hx.mem_iff.mp hp) with z | z
  ·obtain ⟨j,h1,e⟩:=eY z
   exact h.ha q hq' j p h1 e
  ·obtain ⟨j,h1,e⟩:=eY z
   exact h.hb q hq' j p h1 e
theorem WH.fO (h:WH rk a b out na nb) (ub:Up rk b) (e:na=0):Res rk a b (a.extract 0 na++b.extract 0 nb++out.reverse):=by
 subst e
 refine h.res _ ?_ ?_
 ·simp [bQ]
 ·have:(a.extract 0 0++b.extract 0 nb).toList=b.toList.take nb:=by rw [Gi,bQ,bQ]; simp
  rw [this]; exact (fM ub).sublist (Jg _ _)
theorem WH.fN (h:WH rk a b out na nb) (ua:Up rk a) (e:nb=0):Res rk a b (a.extract 0 na++b.extract 0 nb++out.reverse):=by
 subst e
 refine h.res _ ?_ ?_
 ·simp [bQ]
 ·have:(a.extract 0 na++b.extract 0 0).toList=a.toList.take na:=by rw [Gi,bQ,bQ]; simp
  rw [this]; exact (fM ua).sublist (Jg _ _)
theorem WH.first (h:WH rk a b out na nb) (ua:Up rk a) (e:nb=1) (hf:∀ (j:Nat) (p q:Keyed),a[j]?=some p->b[0]?=some q->rk q<=rk p) :
 Res rk a b (b.extract 0 nb++a.extract 0 na++out.reverse):=by
 subst e
 have e1:(b.extract 0 1++a.extract 0 na).toList=b.toList.take 1++a.toList.take na:=by rw [Gi,bQ,bQ]
 refine h.res _ ?_ ?_
 ·rw [e1]; exact Hs
 ·rw [e1]
  refine aU ?_ ((fM ua).sublist (Jg _ _)) λp hp q hq=>?_
  ·exact oW (by simp; lia)
  ·obtain ⟨j,h1,e2⟩:=eY hp
   obtain ⟨j2,h2,e3⟩:=eY hq
   have:j=0:=by lia
   subst this
   exact hf j2 q p e3 e2
theorem jv {xs:Array Keyed} (hi:1<=i) (h:xs[i - 1]?=some p):xs.toList.drop (i - 1)=p::xs.toList.drop i:=by
 rw [<- F1] at h
 obtain ⟨h1,h2⟩:=FA.mp h
 rw [List.drop_eq_getElem_cons h1,h2,show i - 1+1=i by lia]
theorem WH.c9 {out:Array Keyed} {na nb:Nat} {p:Keyed} (h:WH rk a b out na nb) (ua:Up rk a) (hn:1<=na) (e:a[na - 1]?=some p) (hl:∀ (j:Nat) (q:Keyed),j<nb->b[j]?=some q->rk q<=rk p):WH rk a b (out.push p) (na - 1) nb where
 pa:=by have:=h.pa; lia
 pb:=h.pb
 pm:=by
  rw [FU,jv hn e]
  refine (h.pm.append_right _).trans ?_
  rw [Ji]
  exact Hs
 sr:=by
  rw [FU,JV]
  exact aU (HQ _ _) h.sr λr hr q hq=>by
   have hr':r=p:=by simpa using hr
   rw [hr']
   exact h.ha q (by simpa using hq) (na - 1) p (by lia) e
 ha:=λq hq j r hj er=>by
  rw [FU] at hq
  rcases Gd.mp hq with z | z
  ·exact h.ha q z j r (by lia) er
  ·rw [Gj.mp z]; exact ua j (na - 1) r p (by lia) er e
 hb:=λq hq j r hj er=>by
  rw [FU] at hq
  rcases Gd.mp hq with z | z
  ·exact h.hb q z j r hj er
  ·rw [Gj.mp z]; exact hl j r hj er
theorem WH.c8 {out:Array Keyed} {na nb:Nat} {p:Keyed} (h:WH rk a b out na nb) (ub:Up rk b) (hn:1<=nb) (e:b[nb - 1]?=some p) (hl:∀ (j:Nat) (q:Keyed),j<na->a[j]?=some q->rk q<=rk p):WH rk a b (out.push p) na (nb - 1) where
 pa:=h.pa
 pb:=by have:=h.pb; lia
 pm:=by
  rw [FU,jv hn e]
  refine (h.pm.append_right _).trans ?_
  rw [FZ]
  exact HV _ Hs
 sr:=by
  rw [FU,JV]
  exact aU (HQ _ _) h.sr λr hr q hq=>by
   have hr':r=p:=by simpa using hr
   rw [hr']
   exact h.hb q (by simpa using hq) (nb - 1) p (by lia) e
 hb:=λq hq j r hj er=>by
  rw [FU] at hq
  rcases Gd.mp hq with z | z
  ·exact h.hb q z j r (by lia) er
  ·rw [Gj.mp z]; exact ub j (nb - 1) r p (by lia) er e
 ha:=λq hq j r hj er=>by
  rw [FU] at hq
  rcases Gd.mp hq with z | z
  ·exact h.ha q z j r hj er
  ·rw [Gj.mp z]; exact hl j r hj er
theorem o5 {xs:Array Keyed} (h:m<n) (e:xs[m]?=some p):(xs.extract m n).reverse=(xs.extract (m+1) n).reverse.push p:=by
 apply Hj
 rw [FU,HX,HX,cz,cz]
 rw [<- F1] at e
 obtain ⟨h1,h2⟩:=FA.mp e
 have h3:m<(xs.toList.take n).length:=by rw [Gh]; lia
 rw [List.drop_eq_getElem_cons h3,List.reverse_cons,List.getElem_take,h2]
theorem lI (xs ys:Array Keyed) (p):xs++ys.push p=(xs++ys).push p:=by
 apply Hj; simp
theorem WH.lC (h:WH rk a b out na nb) (ua:Up rk a):∀ (k m:Nat),m+k=na->(∀ (i j:Nat) (p q:Keyed),m<=i->i<na->j<nb->a[i]?=some p->b[j]?=some q->rk q<=rk p)->WH rk a b (out++(a.extract m na).reverse) m nb
 | 0,m,hm,_=>by
  have e:m=na:=by lia
  subst e
  have:out++(a.extract m m).reverse=out:=by
   apply Hj
   rw [Gi,HX,eX,List.reverse_nil,GV]
  rw [this]; exact h
 | k+1,m,hm,hl=>by
  have hp:=h.pa
  have ih:=h.lC ua k (m+1) (by lia) λi j p q h1 h2=>hl i j p q (by lia) h2
  have e:a[m+1 - 1]?=some (a[m]'(by lia)):=FJ (show m<a.size by lia)
  have z:=ih.c9 ua (by lia) e λj q hj eq=>hl m j _ q (Fq _) (by lia) hj (FJ (show m<a.size by lia)) eq
  rw [o5 (show m<na by lia) (FJ (show m<a.size by lia)),lI]
  exact z
theorem WH.lD (h:WH rk a b out na nb) (ub:Up rk b):∀ (k m:Nat),m+k=nb->(∀ (i j:Nat) (p q:Keyed),m<=i->i<nb->j<na->b[i]?=some p->a[j]?=some q->rk q<=rk p)->WH rk a b (out++(b.extract m nb).reverse) na m
 | 0,m,hm,_=>by
  have e:m=nb:=by lia
  subst e
  have:out++(b.extract m m).reverse=out:=by
   apply Hj
   rw [Gi,HX,eX,List.reverse_nil,GV]
  rw [this]; exact h
 | k+1,m,hm,hl=>by
  have hp:=h.pb
  have ih:=h.lD ub k (m+1) (by lia) λi j p q h1 h2=>hl i j p q (by lia) h2
  have e:b[m+1 - 1]?=some (b[m]'(by lia)):=FJ (show m<b.size by lia)
  have z:=ih.c8 ub (by lia) e λj q hj eq=>hl m j _ q (Fq _) (by lia) hj (FJ (show m<b.size by lia)) eq
  rw [o5 (show m<nb by lia) (FJ (show m<b.size by lia)),lI]
  exact z
structure dF (rk:Keyed->Int) (a b out:Array Keyed) (na nb:Nat):Prop where
 w:WH rk a b out na nb
 la:1<=na
 lb:2<=nb
end
noncomputable abbrev uH:=Option (Array Keyed)×Nat×Nat×Array Keyed×Nat×Nat×Nat
noncomputable def yS (a b out:Array Keyed) (na nb:Nat):Array Keyed:=a.extract 0 na++b.extract 0 nb++out.reverse
noncomputable def xH (a b out:Array Keyed) (na nb:Nat):Array Keyed:=b.extract 0 nb++a.extract 0 na++out.reverse
noncomputable def o6 (a b:Array Keyed) (mg ac bc na nb:Nat) (out:Array Keyed):StateT SortSt Sem (ForInStep uH):=do
 let p <- elem' a (na - 1)
 if (na - 1 == 0)=true then pure (.done (some (yS a b (out.push p) (na - 1) nb),na - 1,nb,out.push p,mg,ac,bc))
 else if (decide (ac<7) && decide (bc<7))=true then pure (.done (none,na - 1,nb,out.push p,mg,ac,bc))
 else pure (.yield (none,na - 1,nb,out.push p,mg,ac,bc))
noncomputable def o7 (a b:Array Keyed) (mg ac bc na nb:Nat) (out:Array Keyed):StateT SortSt Sem (ForInStep uH):=do
 let q <- elem' b (nb - 1)
 if (nb - 1 == 1)=true then pure (.done (some (xH a b (out.push q) na (nb - 1)),na,nb - 1,out.push q,mg,ac,bc))
 else do
  let p <- elem' a (na - 1)
  let x <- bH true p b 0 (nb - 1) (nb - 1 - 1)
  match x with
  | some k=>(if nb - 1 - k>0 then
   (if (k == 1)=true then pure (.done (some (xH a b (out.push q++(b.extract k (nb - 1)).reverse) na k),na,k,out.push q++(b.extract k (nb - 1)).reverse,mg,ac,nb - 1 - k))
    else if (k == 0)=true then pure (.done (some (yS a b (out.push q++(b.extract k (nb - 1)).reverse) na k),na,k,out.push q++(b.extract k (nb - 1)).reverse,mg,ac,nb - 1 - k))
    else o6 a b mg ac (nb - 1 - k) na k (out.push q++(b.extract k (nb - 1)).reverse))
   else o6 a b mg ac (nb - 1 - k) na (nb - 1) (out.push q))
  | _=>pure (.done (some (yS a b (out.push q) na (nb - 1)),na,nb - 1,out.push q,mg,ac,bc))
noncomputable def o8 (a b:Array Keyed) (mg ac bc na nb:Nat) (out:Array Keyed):StateT SortSt Sem (ForInStep uH):=do
 bC mg
 let q <- elem' b (nb - 1)
 let x <- bH false q a 0 na (na - 1)
 match x with
 | some k=>(if na - k>0 then
  (if (k == 0)=true then pure (.done (some (yS a b (out++(a.extract k na).reverse) k nb),k,nb,out++(a.extract k na).reverse,mg,na - k,bc))
   else o7 a b mg (na - k) bc k nb (out++(a.extract k na).reverse))
  else o7 a b mg (na - k) bc na nb out)
 | _=>pure (.done (some (yS a b out na nb),na,nb,out,mg,ac,bc))
noncomputable def uI (a b:Array Keyed) (c:uH):StateT SortSt Sem (ForInStep uH) :=
 if c.2.2.2.2.1>1 then o8 a b (c.2.2.2.2.1 - 1) c.2.2.2.2.2.1 c.2.2.2.2.2.2 c.2.1 c.2.2.1 c.2.2.2.1 else o8 a b c.2.2.2.2.1 c.2.2.2.2.2.1 c.2.2.2.2.2.2 c.2.1 c.2.2.1 c.2.2.2.1
noncomputable abbrev A3:=Option (Array Keyed)×Nat×Nat×Array Keyed×Nat×Nat
noncomputable def uJ (a b:Array Keyed) (mg:Nat) (c:A3):StateT SortSt Sem (ForInStep A3):=do
 let q <- elem' b (c.2.2.1 - 1)
 let p <- elem' a (c.2.1 - 1)
 let x <- lt' q p
 match x with
 | some y=>(if y=true then (do
  let p <- elem' a (c.2.1 - 1)
  if (c.2.1 - 1 == 0)=true then pure (.done (some (yS a b (c.2.2.2.1.push p) (c.2.1 - 1) c.2.2.1),c.2.1 - 1,c.2.2.1,c.2.2.2.1.push p,c.2.2.2.2.1+1,0))
  else if c.2.2.2.2.1+1>=mg then pure (.done (none,c.2.1 - 1,c.2.2.1,c.2.2.2.1.push p,c.2.2.2.2.1+1,0))
  else pure (.yield (none,c.2.1 - 1,c.2.2.1,c.2.2.2.1.push p,c.2.2.2.2.1+1,0)))
  else (do
   let q <- elem' b (c.2.2.1 - 1)
   if (c.2.2.1 - 1 == 1)=true then pure (.done (some (xH a b (c.2.2.2.1.push q) c.2.1 (c.2.2.1 - 1)),c.2.1,c.2.2.1 - 1,c.2.2.2.1.push q,0,c.2.2.2.2.2+1))
   else if c.2.2.2.2.2+1>=mg then pure (.done (none,c.2.1,c.2.2.1 - 1,c.2.2.2.1.push q,0,c.2.2.2.2.2+1))
   else pure (.yield (none,c.2.1,c.2.2.1 - 1,c.2.2.2.1.push q,0,c.2.2.2.2.2+1))))
 | _=>pure (.done (some (yS a b c.2.2.2.1 c.2.1 c.2.2.1),c.2.1,c.2.2.1,c.2.2.2.1,c.2.2.2.2.1,c.2.2.2.2.2))
noncomputable abbrev vQ:=Option (Array Keyed)×Nat×Nat×Array Keyed×Nat
noncomputable def fP (a b:Array Keyed) (c:vQ):StateT SortSt Sem (ForInStep vQ):=do
 let s <- forIn [:a.size+b.size] ((none,c.2.1,c.2.2.1,c.2.2.2.1,0,0):A3) λ_ s=>uJ a b c.2.2.2.2 s
 match s.1 with
 | some r=>pure (.done (some r,s.2.1,s.2.2.1,s.2.2.2.1,c.2.2.2.2))
 | none=>do
  liftM (rule "list.sort.gallop")
  let t <- forIn [:a.size+b.size] ((none,s.2.1,s.2.2.1,s.2.2.2.1,c.2.2.2.2+1,s.2.2.2.2.1,s.2.2.2.2.2):uH) λ_ t=>uI a b t
  match t.1 with
  | some r=>pure (.done (some r,t.2.1,t.2.2.1,t.2.2.2.1,t.2.2.2.2.1))
  | none=>do
   bC (t.2.2.2.2.1+1)
   pure (.yield (none,t.2.1,t.2.2.1,t.2.2.2.1,t.2.2.2.2.1+1))
theorem lJ (a b):iD a b=(do
 liftM (rule "list.sort.merge-hi")
 let p <- elem' a (a.size - 1)
 if (a.size - 1 == 0)=true then pure (yS a b #[p] (a.size - 1) b.size)
 else if (b.size == 1)=true then pure (xH a b #[p] (a.size - 1) b.size)
 else do
  let st <- get
  let s <- forIn [:a.size+b.size] ((none,a.size - 1,b.size,#[p],gallopOf st):vQ) λ_ c=>fP a b c
  match s.1 with
  | some r=>pure r
  | none=>liftM (unsupported (α:=Array Keyed) "internal:list.sort.merge-bound")):=by
 unfold iD
 walk_at "dl mergeHi"
 dsimp only
 refine congrArg _ (funext λ_=>?_)
 refine congrArg _ (funext λp=>?_)
 refine congrArg _ (congrArg _ ?_)
 refine congrArg _ (funext λst=>?_)
 have h1:∀ (c:vQ),fP a b c=fP a b c:=λ_=>rfl
 have e:∀ (f g:Nat->vQ->StateT SortSt Sem (ForInStep vQ)) (c:vQ) (k:vQ->StateT SortSt Sem (Array Keyed)),f=g->(forIn [:a.size+b.size] c f >>= k)=(forIn [:a.size+b.size] c g >>= k):=λ_ _ _ _ h=>by rw [h]
 refine (e _ _ _ _ (funext λ_=>funext λc=>?_)).trans (congrArg _ (funext λs=>?_))
 ·obtain ⟨o,na,nb,out,mg⟩:=c
  unfold fP
  dsimp only
  have e2:∀ (f g:Nat->A3->StateT SortSt Sem (ForInStep A3)) (c:A3) (k l:A3->StateT SortSt Sem (ForInStep vQ)),f=g->k=l->(forIn [:a.size+b.size] c f >>= k)=(forIn [:a.size+b.size] c g >>= l):=λ_ _ _ _ _ h h2=>by rw [h,h2]
  refine e2 _ _ _ _ _ (funext λ_=>funext λc=>?_) (funext λs=>?_)
  ·rfl
  ·obtain ⟨o,na,nb,out,ac,bc⟩:=s
   cases o with
   | some r=>rfl
   | none =>
    dsimp only
    refine congrArg _ (funext λ_=>?_)
    have e3:∀ (f g:Nat->uH->StateT SortSt Sem (ForInStep uH)) (c:uH) (k l:uH->StateT SortSt Sem (ForInStep vQ)),f=g->k=l->(forIn [:a.size+b.size] c f >>= k)=(forIn [:a.size+b.size] c g >>= l):=λ_ _ _ _ _ h h2=>by rw [h,h2]
    refine e3 _ _ _ _ _ (funext λ_=>funext λc=>?_) (funext λs=>?_)
    ·rfl
    ·obtain ⟨o,s⟩:=s
     cases o <;> rfl
 ·obtain ⟨o,s⟩:=s
  cases o <;> rfl
def xJ (rk:Keyed->Int) (a b:Array Keyed) (n:Nat) (o:Option (Array Keyed)) (na nb:Nat) (out:Array Keyed):Prop:=(∃ r,o=some r/\Res rk a b r)\/(o=none/\dF rk a b out na nb/\na+nb<=n)
noncomputable def xK (rk:Keyed->Int) (a b:Array Keyed) (n:Nat):ForInStep uH->Prop
 | .done c=>xJ rk a b n c.1 c.2.1 c.2.2.1 c.2.2.2.1
 | .yield c=>c.1=none/\dF rk a b c.2.2.2.1 c.2.1 c.2.2.1/\c.2.1+c.2.2.1<=n
theorem jw {st:SortSt} (W:WH rk a b out na nb) (ua:Up rk a) (ub:Up rk b) (la:1<=na) (lb:2<=nb) (ep:a[na - 1]?=some p)
 (hl:∀ (j:Nat) (r:Keyed),j<nb->b[j]?=some r->rk r<=rk p) (hn:na - 1+nb<=n) (hQ:∀ x,xK rk a b n x->Q x st):wpS (model prog w) A E s (o6 a b mg ac bc na nb out) Q st:=by
 unfold o6
 have W4:=W.c9 ua la ep hl
 refine Fj (aC ep ?_)
 by_cases e9:na - 1=0
 ·rw [if_pos (by simpa using e9)]
  exact Fo (hQ _ (.inl ⟨_,rfl,W4.fO ub e9⟩))
 rw [if_neg (by simpa using e9)]
 have hL:dF rk a b (out.push p) (na - 1) nb:=⟨W4,JO.mpr e9,lb⟩
 split
 ·exact Fo (hQ _ (.inr ⟨rfl,hL,hn⟩))
 ·exact Fo (hQ _ ⟨rfl,hL,hn⟩)
theorem jx {st:SortSt} (hC:eV prog w A s κ rk L) (hk:kindOf st=κ) (ma:∀ (i:Nat) (p:Keyed),a[i]?=some p->p∈L) (mb:∀ (i:Nat) (p:Keyed),b[i]?=some p->p∈L)
 (fB:∀ {out:Array Keyed} {na nb:Nat},WH rk a b out na nb->nb=1->Res rk a b (xH a b out na nb)) (W:WH rk a b out na nb) (ua:Up rk a) (ub:Up rk b) (la:1<=na) (lb:2<=nb) (eq:b[nb - 1]?=some q)
 (hl:∀ (j:Nat) (r:Keyed),j<na->a[j]?=some r->rk r<=rk q) (hn:na+nb<=n+2) (hQ:∀ x,xK rk a b n x->Q x st):wpS (model prog w) A E s (o7 a b mg ac bc na nb out) Q st:=by
 unfold o7
 have W2:=W.c8 ub (Nat.le_of_succ_le lb) eq hl
 have hpa:=W.pa
 have hpb:=W.pb
 refine Fj (aC eq ?_)
 by_cases e5:nb - 1=1
 ·rw [if_pos (by simpa using e5)]
  exact Fo (hQ _ (.inl ⟨_,rfl,fB W2 e5⟩))
 rw [if_neg (by simpa using e5)]
 have lb1:2<=nb - 1:=by lia
 obtain ⟨p,ep⟩:=some_at (xs:=a) (i:=na - 1) (by lia)
 refine Fj (aC ep ?_)
 refine Fj (lF hC hk (ma _ _ ep) mb ub _ (by lia) (by lia) λk hj1 hj2 hj3=>?_)
 dsimp only
 have dn2:∀ (i:Nat) (r:Keyed),i<k->b[i]?=some r->rk r<rk p:=λi r z1 e6=>hj2 i r z1 (by rw [G3]; exact e6)
 by_cases hj0:nb - 1 - k>0
 ·rw [if_pos hj0]
  have W3:=W2.lD ub (nb - 1 - k) k (JU hj1) λi j r p' z1 z2 z3 e6 e7=>F3 (ua j (na - 1) p' p (Jd z3) e7 ep) (hj3 i r z1 (Nat.add_lt_add_left z2 0) (by rw [G3]; exact e6))
  by_cases e8:k=1
  ·rw [if_pos (by simpa using e8)]
   exact Fo (hQ _ (.inl ⟨_,rfl,fB W3 e8⟩))
  rw [if_neg (by simpa using e8)]
  by_cases e10:k=0
  ·rw [if_pos (by simpa using e10)]
   exact Fo (hQ _ (.inl ⟨_,rfl,W3.fN ua e10⟩))
  rw [if_neg (by simpa using e10)]
  exact jw W3 ua ub la (by lia) ep (λj r hj e6=>GP (dn2 j r hj e6)) (by lia) hQ
 ·rw [if_neg hj0]
  exact jw W2 ua ub la lb1 ep (λj r hj e6=>GP (dn2 j r (by lia) e6)) (by lia) hQ
theorem jy {st:SortSt} (hC:eV prog w A s κ rk L) (hk:kindOf st=κ) (ma:∀ (i:Nat) (p:Keyed),a[i]?=some p->p∈L) (mb:∀ (i:Nat) (p:Keyed),b[i]?=some p->p∈L)
 (fB:∀ {out:Array Keyed} {na nb:Nat},WH rk a b out na nb->nb=1->Res rk a b (xH a b out na nb)) (ua:Up rk a) (ub:Up rk b) (hL:dF rk a b out na nb) (hn:na+nb<=n) (hQ:∀ x st',bK st st'->xK rk a b n x->Q x st') :
 wpS (model prog w) A E s (o8 a b mg ac bc na nb out) Q st:=by
 unfold o8
 have W:=hL.w
 have la:=hL.la
 have lb:=hL.lb
 have hpa:=W.pa
 have hpb:=W.pb
 obtain ⟨q,eq⟩:=some_at (xs:=b) (i:=nb - 1) (by lia)
 refine Fj (cX ?_)
 have zf:=λx=>hQ x _ ((bK.refl st).min mg)
 refine Fj (aC eq ?_)
 refine Fj (lE hC (by exact hk) (mb _ _ eq) ma ua _ (by lia) (by lia) λk hk1 hk2 hk3=>?_)
 dsimp only
 have dn1:∀ (i:Nat) (p:Keyed),i<k->a[i]?=some p->rk p<=rk q:=λi p z1 e3=>hk2 i p z1 (by rw [G3]; exact e3)
 by_cases hk0:na - k>0
 ·rw [if_pos hk0]
  have Wk:=W.lC ua (na - k) k (JU hk1) λi j p r z1 z2 z3 e3 e4=>F3 (ub j (nb - 1) r q (Jd z3) e4 eq) (GP (hk3 i p z1 (Nat.add_lt_add_left z2 0) (by rw [G3]; exact e3)))
  by_cases e4:k=0
  ·rw [if_pos (by simpa using e4)]
   exact Fo (zf _ (.inl ⟨_,rfl,Wk.fO ub e4⟩))
  rw [if_neg (by simpa using e4)]
  exact jx hC (by exact hk) ma mb fB Wk ua ub (JO.mpr e4) lb eq dn1 (by lia) zf
 ·rw [if_neg hk0]
  exact jx hC (by exact hk) ma mb fB W ua ub la lb eq (λj r hj e3=>dn1 j r (by lia) e3) (by lia) zf
theorem qI {st:SortSt} (hC:eV prog w A s κ rk L) (hk:kindOf st=κ) (ma:∀ (i:Nat) (p:Keyed),a[i]?=some p->p∈L) (mb:∀ (i:Nat) (p:Keyed),b[i]?=some p->p∈L)
 (fB:∀ {out:Array Keyed} {na nb:Nat},WH rk a b out na nb->nb=1->Res rk a b (xH a b out na nb)) (ua:Up rk a) (ub:Up rk b) (hL:dF rk a b c.2.2.2.1 c.2.1 c.2.2.1) (hn:c.2.1+c.2.2.1<=n+1)
 (hQ:∀ o na nb out z y,xJ rk a b n o na nb out->Q (.done (o,na,nb,out,z)) st/\(o=none->Q (.yield (none,na,nb,out,y)) st)):wpS (model prog w) A E s (uJ a b mg c) Q st:=by
 obtain ⟨_,na,nb,out,ac,bc⟩:=c
 unfold uJ
 dsimp only at hL hn |-
 have W:=hL.w
 have la:=hL.la
 have lb:=hL.lb
 have hpa:=W.pa
 have hpb:=W.pb
 obtain ⟨q,eq⟩:=some_at (xs:=b) (i:=nb - 1) (by lia)
 obtain ⟨p,ep⟩:=some_at (xs:=a) (i:=na - 1) (by lia)
 refine Fj (aC eq (Fj (aC ep (Fj (iy hC hk (mb _ _ eq) (ma _ _ ep) ?_)))))
 dsimp only
 by_cases hw:rk q<rk p
 ·rw [decide_eq_true hw,if_pos rfl]
  have W1:=W.c9 ua la ep λj r hj e=>F3 (ub j (nb - 1) r q (Jd hj) e eq) (GP hw)
  refine Fj (aC ep ?_)
  by_cases e3:na - 1=0
  ·rw [if_pos (by simpa using e3)]
   exact Fo (hQ _ _ _ _ _ (0,0) (.inl ⟨_,rfl,W1.fO ub e3⟩)).1
  rw [if_neg (by simpa using e3)]
  have z:=hQ none (na - 1) nb (out.push p) (ac+1,0) (ac+1,0) (.inr ⟨rfl,⟨W1,JO.mpr e3,lb⟩,by lia⟩)
  split
  ·exact Fo z.1
  ·exact Fo (z.2 rfl)
 ·rw [decide_eq_false hw,if_neg Fv]
  have W1:=W.c8 ub (Nat.le_of_succ_le lb) eq λj r hj e=>F3 (ua j (na - 1) r p (Jd hj) e ep) (Int.not_lt.mp hw)
  refine Fj (aC eq ?_)
  by_cases e3:nb - 1=1
  ·rw [if_pos (by simpa using e3)]
   exact Fo (hQ _ _ _ _ _ (0,0) (.inl ⟨_,rfl,fB W1 e3⟩)).1
  rw [if_neg (by simpa using e3)]
  have z:=hQ none na (nb - 1) (out.push q) (0,bc+1) (0,bc+1) (.inr ⟨rfl,⟨W1,la,by lia⟩,by lia⟩)
  split
  ·exact Fo z.1
  ·exact Fo (z.2 rfl)
theorem nq {st:SortSt} (hC:eV prog w A s κ rk L) (hk:kindOf st=κ) (ma:∀ (i:Nat) (p:Keyed),a[i]?=some p->p∈L) (mb:∀ (i:Nat) (p:Keyed),b[i]?=some p->p∈L)
 (fB:∀ {out:Array Keyed} {na nb:Nat},WH rk a b out na nb->nb=1->Res rk a b (xH a b out na nb)) (ua:Up rk a) (ub:Up rk b) (hL:dF rk a b c.2.2.2.1 c.2.1 c.2.2.1) (hn:c.2.1+c.2.2.1<=n+1) (hm:n+1<=a.size+b.size)
 (h1:∀ r z st',bK st st'->Res rk a b r->Q (.done (some r,z)) st') (h2:∀ na nb out g st',bK st st'->dF rk a b out na nb->na+nb<=n->Q (.yield (none,na,nb,out,g)) st'):wpS (model prog w) A E s (fP a b c) Q st:=by
 unfold fP
 refine Fj (FQ (Ge (I:=λy c st'=>st'=st/\c.1=none/\dF rk a b c.2.2.2.1 c.2.1 c.2.2.1/\y+c.2.1+c.2.2.1<=n+1) (Q:=λc st'=>st'=st/\xJ rk a b n c.1 c.2.1 c.2.2.1 c.2.2.2.1) ?step ?fin ⟨rfl,rfl,hL,by dsimp only; lia⟩) ?post)
 case fin =>
  rintro c st' ⟨rfl,hc,hL',hx⟩
  exact ⟨rfl,.inr ⟨hc,hL',by lia⟩⟩
 case step =>
  rintro y c st' _ hy ⟨rfl,_,hL',hx⟩
  refine qI (n:=n - y) hC hk ma mb fB ua ub hL' (by have:=hL'.la; have:=hL'.lb; lia) λo na nb out z y hR=>⟨?_,?_⟩
  ·refine ⟨rfl,?_⟩
   rcases hR with hR | ⟨q1,q2,q3⟩
   ·exact .inl hR
   ·exact .inr ⟨q1,q2,by dsimp only; lia⟩
  ·rintro rfl
   rcases hR with ⟨_,q,_⟩ | ⟨q1,q2,q3⟩
   ·cases q
   ·exact ⟨rfl,rfl,q2,by have:=q2.la; have:=q2.lb; dsimp only; lia⟩
 case post =>
  rintro ⟨o,na,nb,out,ac,bc⟩ st' ⟨rfl,hR⟩
  dsimp only at hR |-
  rcases hR with ⟨r,rfl,hr⟩ | ⟨rfl,hL2,hn2⟩
  ·exact Fo (h1 r _ _ (.refl _) hr)
  refine Fj (Ho (GG ⟨rfl,?_⟩))
  refine Fj (FQ (Ge (I:=λy c st''=>bK st' st''/\c.1=none/\dF rk a b c.2.2.2.1 c.2.1 c.2.2.1/\c.2.1+c.2.2.1<=n) (Q:=λc st''=>bK st' st''/\xJ rk a b n c.1 c.2.1 c.2.2.1 c.2.2.2.1) ?gstep ?gfin ⟨.refl _,rfl,hL2,hn2⟩) ?gpost)
  case gfin=>exact λc st'' ⟨q1,q2,q3,q4⟩=>⟨q1,.inr ⟨q2,q3,q4⟩⟩
  case gstep =>
   rintro y c st'' _ _ ⟨q1,q2,q3,q4⟩
   have key:wpS (model prog w) A E s (uI a b c) (λx st3=>bK st'' st3/\xK rk a b n x) st'':=by
    unfold uI
    split
    ·exact jy hC (q1.k.trans hk) ma mb fB ua ub q3 q4 λx st3 k h=>⟨k,h⟩
    ·exact jy hC (q1.k.trans hk) ma mb fB ua ub q3 q4 λx st3 k h=>⟨k,h⟩
   refine FQ key λx st3 ⟨k,h⟩=>?_
   cases x with
   | done c=>exact ⟨q1.trans k,h⟩
   | yield c=>exact ⟨q1.trans k,h⟩
  case gpost =>
   rintro ⟨o,na,nb,out,g,ac,bc⟩ st'' ⟨q1,hR⟩
   dsimp only at hR |-
   rcases hR with ⟨r,rfl,hr⟩ | ⟨rfl,hL3,hn3⟩
   ·exact Fo (h1 r _ _ q1 hr)
   ·exact Fj (cX (Fo (h2 _ _ _ _ _ (q1.min _) hL3 hn3)))
theorem lK {st:SortSt} (hC:eV prog w A s κ rk L) (hk:kindOf st=κ) (ma:∀ (i:Nat) (p:Keyed),a[i]?=some p->p∈L) (mb:∀ (i:Nat) (p:Keyed),b[i]?=some p->p∈L) (ua:Up rk a) (ub:Up rk b) (na1:1<=a.size) (nb1:1<=b.size)
 (h0:∀ p q,a[0]?=some p->b[0]?=some q->rk q<=rk p) (hl:∀ (j:Nat) (p q:Keyed),a[a.size - 1]?=some p->b[j]?=some q->rk q<=rk p) (h:∀ r st',Res rk a b r->bK st st'->Q r st'):wpS (model prog w) A E s (iD a b) Q st:=by
 obtain ⟨p0,ep0⟩:=some_at (xs:=a) (i:=0) na1
 have firstB:∀ {out:Array Keyed} {na nb:Nat},WH rk a b out na nb->nb=1->Res rk a b (xH a b out na nb):=λhw e=>hw.first ua e λj p q e1 e2=>F3 (h0 p0 q ep0 e2) (ua 0 j p0 p (Gw _) ep0 e1)
 obtain ⟨pl,epl⟩:=some_at (xs:=a) (i:=a.size - 1) (by lia)
 have W0:WH rk a b #[pl] (a.size - 1) b.size:=by
  have z:WH rk a b #[] a.size b.size:=⟨Fq _,Fq _,by simp,Iv,by simp,by simp⟩
  exact z.c9 ua na1 epl λj q _ e=>hl j pl q epl e
 rw [lJ]
 refine Fj (Ho (GG ⟨rfl,?_⟩))
 refine Fj (aC epl ?_)
 by_cases e1:a.size - 1=0
 ·rw [if_pos (by simpa using e1)]
  exact Fo (h _ _ (W0.fO ub e1) (.refl _))
 rw [if_neg (by simpa using e1)]
 by_cases e2:b.size=1
 ·rw [if_pos (by simpa using e2)]
  exact Fo (h _ _ (firstB W0 e2) (.refl _))
 rw [if_neg (by simpa using e2)]
 refine Fj (Gy ?_)
 refine Fj (FQ (Ge (I:=λx c st'=>bK st st'/\c.1=none/\dF rk a b c.2.2.2.1 c.2.1 c.2.2.1/\x+c.2.1+c.2.2.1<a.size+b.size) (Q:=λc st'=>bK st st'/\∃ r,c.1=some r/\Res rk a b r) ?step ?fin ⟨.refl _,rfl,⟨W0,by dsimp only; lia,by dsimp only; lia⟩,by dsimp only; lia⟩) ?post)
 case fin =>
  rintro c st' ⟨hK,hc,hL,hx⟩
  have h1:=hL.la
  lia
 case post =>
  rintro c st' ⟨hK,r,hc,hr⟩
  rw [hc]
  exact Fo (h r st' hr hK)
 case step =>
  rintro x c st1 _ hx ⟨hK,_,hL,hn⟩
  have l1:=hL.la
  have l2:=hL.lb
  exact nq (n:=a.size+b.size - x - 2) hC (hK.k.trans hk) ma mb firstB ua ub hL (by lia) (by lia) (λr z st' k hr=>⟨hK.trans k,r,rfl,hr⟩) λna nb out g st' k q1 q2=>⟨hK.trans k,rfl,q1,by have:=q1.la; dsimp only; lia⟩
def Seg (rk:Keyed->Int) (xs:Array Keyed) (lo hi:Nat):Prop:=∀ i j,lo<=i->i<=j->j<hi->R rk xs i<=R rk xs j
def yT (rk:Keyed->Int) (xs:Array Keyed) (lo hi:Nat):Prop:=∀ i j,lo<=i->i<=j->j<hi->R rk xs j<=R rk xs i
structure Bs (κ:SortKind) (L:List Keyed) (st:SortSt):Prop where
 perm:(arrOf st).toList.Perm L
 kind:kindOf st=κ
 failed:failedOf st=none
structure Mv (st st':SortSt) (lo hi:Nat):Prop where
 out:∀ i,i<lo\/hi<=i->(arrOf st')[i]?=(arrOf st)[i]?
 pend:pendingOf st'=pendingOf st
section
variable {st st' st'':SortSt} {lo hi:Nat}
theorem Bs.size (h:Bs κ L st):(arrOf st).size=L.length:=by simpa using h.perm.length_eq
theorem Bs.at (h:Bs κ L st) (hi:i<L.length):∃ p,(arrOf st)[i]?=some p/\p∈L:=by
 have hs:=h.size
 refine ⟨(arrOf st)[i]'(by lia),FJ _,h.perm.mem_iff.mp ?_⟩
 rw [JT]; exact Kd _
theorem Bs.arr (h:Bs κ L st) (hp:xs.toList.Perm (arrOf st).toList):Bs κ L (setArr st xs):=⟨hp.trans h.perm,h.kind,h.failed⟩
theorem Mv.refl:Mv st st lo hi:=⟨λ_ _=>rfl,rfl⟩
theorem Mv.trans (a:Mv st st' lo hi) (b:Mv st' st'' lo hi):Mv st st'' lo hi:=⟨λi h=>(b.out i h).trans (a.out i h),b.pend.trans a.pend⟩
theorem uK (hj:j<=xs.size) (k):R rk (mirror xs i j ((j - i) / 2)) k=if i<=k/\k<j then R rk xs (i+j - 1 - k) else R rk xs k:=by
 have e:=getElem?_mirror_all (i:=i) hj k
 by_cases h:i<=k/\k<j
 ·rw [if_pos h] at e |-; exact br e
 ·rw [if_neg h] at e |-; exact br e
theorem iE (hj:j<=(arrOf st).size) (h1:lo<=i) (h2:j<=hi):Mv st (setArr st (mirror (arrOf st) i j ((j - i) / 2))) lo hi :=
 ⟨λk hk=>by
   have e:=getElem?_mirror_all (i:=i) hj k
   rw [if_neg (by lia)] at e; exact e,rfl⟩
theorem xM (i) (xs):Seg rk xs i (i+1):=λa b h1 h2 h3=>by
 have:a=b:=by lia
 subst this; exact GX _
theorem uL (h:Seg rk xs lo (lo+n)) (hn:1<=n) (hl:¬ R rk xs (lo+n)<R rk xs (lo+n - 1)):Seg rk xs lo (lo+(n+1)):=λa b h1 h2 h3=>by
 by_cases hb:b<lo+n
 ·exact h a b h1 h2 hb
 ·have e:b=lo+n:=by lia
  subst e
  by_cases ha:a=lo+n
  ·subst ha; exact GX _
  ·exact F3 (h a (lo+n - 1) h1 (by lia) (by lia)) (Int.not_lt.mp hl)
theorem dh (h:yT rk xs lo (lo+n)) (hn:1<=n) (hl:R rk xs (lo+n)<=R rk xs (lo+n - 1)):yT rk xs lo (lo+(n+1)):=λa b h1 h2 h3=>by
 by_cases hb:b<lo+n
 ·exact h a b h1 h2 hb
 ·have e:b=lo+n:=by lia
  subst e
  by_cases ha:a=lo+n
  ·subst ha; exact GX _
  ·exact F3 hl (h a (lo+n - 1) h1 (by lia) (by lia))
end
section
variable {st:SortSt} {lo nrem:Nat}
theorem iF (hC:eV prog w A s κ rk L) (hB:Bs κ L st) (hi:i<L.length) (hj:j<L.length) (h:Q (some (decide (R rk (arrOf st) i<R rk (arrOf st) j))) st):wpS (model prog w) A E s (ltAt' i j) Q st:=by
 obtain ⟨p,ep,hp⟩:=hB.at hi
 obtain ⟨q,eq,hq⟩:=hB.at hj
 exact qG hC hB.kind ep eq hp hq h
theorem cD (h:Q () (setArr st (mirror (arrOf st) i j ((j - i) / 2)))):wpS (model prog w) A E s (reverseSlice' i j) Q st :=
 GQ (f:=λs=>setArr s (mirror (arrOf s) i j ((j - i) / 2))) h
noncomputable abbrev Di:=Option (Option Nat)×Nat
noncomputable def asc (lo a nrem:Nat):StateT SortSt Sem Di :=
 forIn [a:nrem] ((none,a):Di) λ_ c=>ltAt' (lo+c.2) (lo+c.2 - 1) >>= λx=>match x with
  | some smaller=>if smaller=true then pure (Gv (none,c.2)) else pure (F2 (none,c.2+1))
  | _=>pure (Gv (some none,c.2))
theorem o9 (hC:eV prog w A s κ rk L) (hB:Bs κ L st) (hn:lo+nrem<=L.length) (h1:1<=a) (h2:a<=nrem) (hs:Seg rk (arrOf st) lo (lo+a))
 (h:∀ n,a<=n->n<=nrem->Seg rk (arrOf st) lo (lo+n)->(n=nrem\/R rk (arrOf st) (lo+n)<R rk (arrOf st) (lo+n - 1))->Q (none,n) st):wpS (model prog w) A E s (asc lo a nrem) Q st:=by
 unfold asc
 refine Ge (I:=λx c st'=>st'=st/\c=(none,x)/\Seg rk (arrOf st) lo (lo+x)) ?step ?fin ⟨rfl,rfl,hs⟩
 case fin =>
  rintro c st' ⟨rfl,rfl,hs'⟩
  rw [show max a nrem=nrem by lia] at hs' |-
  exact h nrem h2 (Fq _) hs' (.inl rfl)
 case step =>
  rintro x c st' hax hxn ⟨rfl,rfl,hs'⟩
  refine Fj (iF hC hB (by dsimp only; lia) (by dsimp only; lia) ?_)
  dsimp only
  by_cases hl:R rk (arrOf st') (lo+x)<R rk (arrOf st') (lo+x - 1)
  ·rw [decide_eq_true hl,if_pos rfl]
   exact Fo (h x hax (by lia) hs' (.inr hl))
  ·rw [decide_eq_false hl,if_neg Fv]
   exact Fo ⟨rfl,rfl,uL hs' (by lia) hl⟩
noncomputable abbrev Dj:=Option (Option Nat)×Nat×Nat
noncomputable def Dk (lo n nrem:Nat):StateT SortSt Sem Dj :=
 forIn [n:nrem] ((none,n,0):Dj) λ_ c=>ltAt' (lo+c.2.1) (lo+c.2.1 - 1) >>= λx=>match x with
  | some smaller=>if smaller=true then
   (if c.2.2>0 then reverseSlice' (lo+c.2.1 - (c.2.2+1)) (lo+c.2.1) >>= λ_=>pure (F2 (none,c.2.1+1,0)) else pure (F2 (none,c.2.1+1,0)))
   else ltAt' (lo+c.2.1 - 1) (lo+c.2.1) >>= λy=>match y with
    | some larger=>if larger=true then pure (Gv (none,c.2.1,c.2.2)) else pure (F2 (none,c.2.1+1,c.2.2+1))
    | _=>pure (Gv (some none,c.2.1,c.2.2))
  | _=>pure (Gv (some none,c.2.1,c.2.2))
theorem eZ (hj:j<=xs.size) (he:∀ k,i<=k->k<j->R rk xs k=R rk xs (j - 1)) (k):R rk (mirror xs i j ((j - i) / 2)) k=R rk xs k:=by
 rw [uK hj]
 split
 ·rw [he _ (by lia) (by lia),he k (by lia) (by lia)]
 ·rfl
theorem xN (hC:eV prog w A s κ rk L) (hB:Bs κ L st) (hn:lo+nrem<=L.length) (h1:1<=n) (h2:n<=nrem) (hs:yT rk (arrOf st) lo (lo+n))
 (h:∀ m neq st',Bs κ L st'->Mv st st' lo (lo+nrem)->n<=m->m<=nrem->yT rk (arrOf st') lo (lo+m)->neq+1<=m->(∀ i,lo+m - (neq+1)<=i->i<lo+m->R rk (arrOf st') i=R rk (arrOf st') (lo+m - 1))->Q (none,m,neq) st') :
 wpS (model prog w) A E s (Dk lo n nrem) Q st:=by
 unfold Dk
 refine Ge (I:=λx c st'=>∃ neq,c=(none,x,neq)/\Bs κ L st'/\Mv st st' lo (lo+nrem)/\yT rk (arrOf st') lo (lo+x)/\neq+1<=x/\(∀ i,lo+x - (neq+1)<=i->i<lo+x->R rk (arrOf st') i=R rk (arrOf st') (lo+x - 1))) ?step ?fin
  ⟨0,rfl,hB,.refl,hs,h1,λi a1 a2=>by congr 1; lia⟩
 case fin =>
  rintro c st' ⟨neq,rfl,fX,hM',hs',hq,he⟩
  rw [show max n nrem=nrem by lia] at hs' hq he |-
  exact h nrem neq st' fX hM' h2 (Fq _) hs' hq he
 case step =>
  rintro x c st' hax hxn ⟨neq,rfl,fX,hM',hs',hq,he⟩
  have hsz:=fX.size
  refine Fj (iF hC fX (by dsimp only; lia) (by dsimp only; lia) ?_)
  dsimp only
  by_cases hl:R rk (arrOf st') (lo+x)<R rk (arrOf st') (lo+x - 1)
  ·rw [decide_eq_true hl,if_pos rfl]
   by_cases hq0:neq>0
   ·rw [if_pos hq0]
    have key:=eZ (rk:=rk) (xs:=arrOf st') (i:=lo+x - (neq+1)) (j:=lo+x) (by lia) he
    refine Fj (cD (Fo ⟨0,rfl,fX.arr (HM.mp (II _ _ _ _)),hM'.trans (iE (by lia) (by lia) (by lia)),?_,by lia,λi a1 a2=>by congr 1; lia⟩))
    refine dh (λa b z1 z2 z3=>?_) (by lia) ?_
    ·show R rk (mirror _ _ _ _) b<=R rk (mirror _ _ _ _) a
     rw [key,key]; exact hs' a b z1 z2 z3
    ·show R rk (mirror _ _ _ _) _<=R rk (mirror _ _ _ _) _
     rw [key,key]; lia
   ·rw [if_neg hq0]
    exact Fo ⟨0,rfl,fX,hM',dh hs' (by lia) (by lia),by lia,λi a1 a2=>by congr 1; lia⟩
  ·rw [decide_eq_false hl,if_neg Fv]
   refine Fj (iF hC fX (by lia) (by lia) ?_)
   dsimp only
   by_cases hg:R rk (arrOf st') (lo+x - 1)<R rk (arrOf st') (lo+x)
   ·rw [decide_eq_true hg,if_pos rfl]
    exact Fo (h x neq st' fX hM' hax (by lia) hs' hq he)
   ·rw [decide_eq_false hg,if_neg Fv]
    have heq:R rk (arrOf st') (lo+x)=R rk (arrOf st') (lo+x - 1):=by lia
    refine Fo ⟨neq+1,rfl,fX,hM',dh hs' (by lia) (by lia),by lia,λi a1 a2=>?_⟩
    rw [show lo+(x+1) - 1=lo+x by lia]
    by_cases hi:i=lo+x
    ·rw [hi]
    ·rw [heq]; exact he i (by lia) (by lia)
noncomputable def countRun':Nat->Nat->StateT SortSt Sem (Option Nat):=sortPriv% PySem.Builtin.countRun
theorem fc {Q:Option Nat->SortSt->Prop} (hC:eV prog w A s κ rk L) (hB:Bs κ L st) (hn:lo+nrem<=L.length) (h1:1<=n) (h2:n<=nrem) (hs:yT rk (arrOf st) lo (lo+n))
 (h:∀ m st',Bs κ L st'->Mv st st' lo (lo+nrem)->1<=m->m<=nrem->Seg rk (arrOf st') lo (lo+m)->Q (some m) st') :
 wpS (model prog w) A E s (asc lo n nrem) (λc st'=>c.1=none/\Q (some c.2) st') (setArr st (mirror (arrOf st) lo (lo+n) ((lo+n - lo) / 2))):=by
 have hsz:=hB.size
 have fX:=hB.arr (HM.mp (II (arrOf st) lo (lo+n) ((lo+n - lo) / 2)))
 refine o9 hC fX hn h1 h2 (λa b z1 z2 z3=>?_) λm m1 m2 ms _=>⟨rfl,h m _ fX (iE (by lia) (Fq _) (by lia)) (by lia) m2 ms⟩
 show R rk (mirror _ _ _ _) a<=R rk (mirror _ _ _ _) b
 rw [uK (by lia),uK (by lia),if_pos (by lia),if_pos (by lia)]
 exact hs _ _ (by lia) (by lia) (by lia)
local macro_rules | `(tactic| walk_at "dl countRun")=>do
 let i:=HE (Hr `PySem.Builtin.List.W1All `PySem.Builtin.countRun)
 `(tactic| delta $i)
theorem wpS_countRun (hC:eV prog w A s κ rk L) (hB:Bs κ L st) (hn:lo+nrem<=L.length) (h1:1<=nrem)
 (h:∀ m st',Bs κ L st'->Mv st st' lo (lo+nrem)->1<=m->m<=nrem->Seg rk (arrOf st') lo (lo+m)->Q (some m) st'):wpS (model prog w) A E s (countRun' lo nrem) Q st:=by
 unfold countRun'
 walk_at "dl countRun"
 dsimp only
 have hsz:=hB.size
 refine Fj (show wpS _ _ _ _ (asc lo 1 nrem) _ _ from o9 hC hB hn (Fq _) h1 (xM lo _) λn n1 n2 ns nor=>?_)
 dsimp only
 by_cases hnn:n=nrem
 ·rw [if_pos (by simpa using hnn)]
  exact Fo (h n st hB .refl n1 n2 ns)
 rw [if_neg (by simpa using hnn)]
 have hlt:=nor.resolve_left hnn
 have rest:∀ (st1:SortSt),Bs κ L st1->Mv st st1 lo (lo+nrem)->yT rk (arrOf st1) lo (lo+(n+1))->wpS (model prog w) A E s (Dk lo (n+1) nrem) (λc st2=>Bs κ L st2/\Mv st st2 lo (lo+nrem)/\c.1=none/\n+1<=c.2.1/\c.2.1<=nrem/\yT rk (arrOf st2) lo (lo+c.2.1)/\c.2.2+1<=c.2.1/\(∀ i,lo+c.2.1 - (c.2.2+1)<=i->i<lo+c.2.1->R rk (arrOf st2) i=R rk (arrOf st2) (lo+c.2.1 - 1))) st1 :=
  λst1 hB1 hM1 hs1=>xN hC hB1 hn (by lia) (by lia) hs1 λm neq st2 a1 a2 a3 a4 a5 a6 a7=>⟨a1,hM1.trans a2,rfl,a3,a4,a5,a6,a7⟩
 by_cases hgt:n>1
 ·rw [if_pos hgt]
  refine Fj (iF hC hB (by lia) (by lia) ?_)
  dsimp only
  by_cases hrose:R rk (arrOf st) lo<R rk (arrOf st) (lo+n - 1)
  ·rw [decide_eq_true hrose,if_pos rfl]
   exact Fo (h n st hB .refl n1 n2 ns)
  ·rw [decide_eq_false hrose,if_neg Fv]
   have hall:∀ k,lo<=k->k<lo+n->R rk (arrOf st) k=R rk (arrOf st) (lo+n - 1):=λk z1 z2=>by
    have a1:=ns lo k (Fq _) z1 z2
    have a2:=ns k (lo+n - 1) z1 (by lia) (by lia)
    lia
   have key:=eZ (rk:=rk) (xs:=arrOf st) (i:=lo) (j:=lo+n) (by lia) hall
   refine Fj (cD ?_)
   refine Fj (Ho (GG ⟨rfl,?_⟩))
   refine Fj (FQ (show wpS _ _ _ _ (Dk lo (n+1) nrem) _ _ from rest _ (hB.arr (HM.mp (II _ _ _ _))) (iE (by lia) (Fq _) (by lia)) (dh (λa b z1 z2 z3=>?_) (by lia) ?_)) λc st2 hc=>?_)
   ·show R rk (mirror _ _ _ _) b<=R rk (mirror _ _ _ _) a
    rw [key,key,hall b (by lia) z3,hall a z1 (by lia)]; exact GX _
   ·show R rk (mirror _ _ _ _) _<=R rk (mirror _ _ _ _) _
    rw [key,key]; lia
   ·obtain ⟨r,m,neq⟩:=c
    obtain ⟨b1,b2,b3,b4,b5,b6,b7,b8⟩:=hc
    dsimp only at b3 b4 b5 b6 b7 b8 |-
    rw [b3]
    dsimp only
    by_cases hq0:neq>0
    ·rw [if_pos hq0]
     have hsz2:=b1.size
     have key2:=eZ (rk:=rk) (xs:=arrOf st2) (i:=lo+m - (neq+1)) (j:=lo+m) (by lia) b8
     refine Fj (cD (Fj (cD (Fj (FQ (show wpS _ _ _ _ (asc lo m nrem) _ _ from fc (Q:=Q) hC (b1.arr (HM.mp (II _ _ _ _))) hn (by lia) b5 (λa b z1 z2 z3=>?_) λk st3 c1 c2 c3 c4 c5=>h k st3 c1 ((b2.trans (iE (by lia) (by lia) (by lia))).trans c2) c3 c4 c5) λc st4 hc=>?_)))))
     ·show R rk (mirror _ _ _ _) b<=R rk (mirror _ _ _ _) a
      rw [key2,key2]; exact b6 a b z1 z2 z3
     ·obtain ⟨r,k⟩:=c
      obtain ⟨e,hQ⟩:=hc
      dsimp only at e hQ |-
      rw [e]
      exact Fo hQ
    ·rw [if_neg hq0]
     refine Fj (cD (Fj (FQ (show wpS _ _ _ _ (asc lo m nrem) _ _ from fc (Q:=Q) hC b1 hn (by lia) b5 b6 λk st3 c1 c2 c3 c4 c5=>h k st3 c1 (b2.trans c2) c3 c4 c5) λc st4 hc=>?_)))
     obtain ⟨r,k⟩:=c
     obtain ⟨e,hQ⟩:=hc
     dsimp only at e hQ |-
     rw [e]
     exact Fo hQ
 ·rw [if_neg hgt]
  have e1:n=1:=by lia
  subst e1
  refine Fj (Ho (GG ⟨rfl,?_⟩))
  refine Fj (FQ (show wpS _ _ _ _ (Dk lo (1+1) nrem) _ _ from rest st hB .refl (dh (λa b z1 z2 z3=>?_) (Fq _) (GP hlt))) λc st2 hc=>?_)
  ·have:a=b:=by lia
   subst this; exact GX _
  ·obtain ⟨r,m,neq⟩:=c
   obtain ⟨b1,b2,b3,b4,b5,b6,b7,b8⟩:=hc
   dsimp only at b3 b4 b5 b6 b7 b8 |-
   rw [b3]
   dsimp only
   by_cases hq0:neq>0
   ·rw [if_pos hq0]
    have hsz2:=b1.size
    have key2:=eZ (rk:=rk) (xs:=arrOf st2) (i:=lo+m - (neq+1)) (j:=lo+m) (by lia) b8
    refine Fj (cD (Fj (cD (Fj (FQ (show wpS _ _ _ _ (asc lo m nrem) _ _ from fc (Q:=Q) hC (b1.arr (HM.mp (II _ _ _ _))) hn (by lia) b5 (λa b z1 z2 z3=>?_) λk st3 c1 c2 c3 c4 c5=>h k st3 c1 ((b2.trans (iE (by lia) (by lia) (by lia))).trans c2) c3 c4 c5) λc st4 hc=>?_)))))
    ·show R rk (mirror _ _ _ _) b<=R rk (mirror _ _ _ _) a
     rw [key2,key2]; exact b6 a b z1 z2 z3
    ·obtain ⟨r,k⟩:=c
     obtain ⟨e,hQ⟩:=hc
     dsimp only at e hQ |-
     rw [e]
     exact Fo hQ
   ·rw [if_neg hq0]
    refine Fj (cD (Fj (FQ (show wpS _ _ _ _ (asc lo m nrem) _ _ from fc (Q:=Q) hC b1 hn (by lia) b5 b6 λk st3 c1 c2 c3 c4 c5=>h k st3 c1 (b2.trans c2) c3 c4 c5) λc st4 hc=>?_)))
    obtain ⟨r,k⟩:=c
    obtain ⟨e,hQ⟩:=hc
    dsimp only at e hQ |-
    rw [e]
    exact Fo hQ
end
section
variable {st:SortSt} {lo:Nat}
theorem yU (hs:src<xs.size) (hd:d<=src) (k):R rk (bubble xs src d) k=if k=src - d then R rk xs src else if src - d<k/\k<=src then R rk xs (k - 1) else R rk xs k:=by
 have e:=getElem?_bubble hs d hd k
 by_cases h1:k=src - d
 ·rw [if_pos h1] at e |-; exact br e
 ·rw [if_neg h1] at e |-
  by_cases h2:src - d<k/\k<=src
  ·rw [if_pos h2] at e |-; exact br e
  ·rw [if_neg h2] at e |-; exact br e
theorem uM (h:Q () (setArr st (bubble (arrOf st) i (i - j)))):wpS (model prog w) A E s (moveDown' i j) Q st :=
 GQ (f:=λs=>setArr s (bubble (arrOf s) i (i - j))) h
noncomputable def binarySort':Nat->Nat->Nat->StateT SortSt Sem Bool:=sortPriv% PySem.Builtin.binarySort
local macro_rules | `(tactic| walk_at "dl binarySort")=>do
 let i:=HE (Hr `PySem.Builtin.List.W1All `PySem.Builtin.binarySort)
 `(tactic| delta $i)
theorem wpS_binarySort (hC:eV prog w A s κ rk L) (hB:Bs κ L st) (hn:lo+n<=L.length) (hok:ok<=n) (hs:Seg rk (arrOf st) lo (lo+ok))
 (h:∀ st',Bs κ L st'->Mv st st' lo (lo+n)->Seg rk (arrOf st') lo (lo+n)->Q true st'):wpS (model prog w) A E s (binarySort' lo n ok) Q st:=by
 unfold binarySort'
 walk_at "dl binarySort"
 dsimp only
 refine Fj (FQ (Ge (I:=λk c st'=>c.1=none/\Bs κ L st'/\Mv st st' lo (lo+n)/\Seg rk (arrOf st') lo (lo+min k n)) (Q:=λc st'=>c.1=none/\Bs κ L st'/\Mv st st' lo (lo+n)/\Seg rk (arrOf st') lo (lo+n)) ?step ?fin ?init) ?post)
 case post =>
  rintro ⟨c,u⟩ st' ⟨hc,fX,hM',hs'⟩
  dsimp only at hc |-
  rw [hc]
  exact Fo (h st' fX hM' hs')
 case init =>
  refine ⟨rfl,hB,.refl,λa b z1 z2 z3=>?_⟩
  by_cases h1:ok=0
  ·have:a=b:=by lia
   subst this; exact GX _
  ·exact hs a b z1 z2 (by lia)
 case fin =>
  rintro c st' ⟨hc,fX,hM',hs'⟩
  rw [show min (max (max ok 1) n) n=n by lia] at hs'
  exact ⟨hc,fX,hM',hs'⟩
 case step =>
  rintro k ⟨c,u⟩ st' hak hkn ⟨rfl,fX,hM',hs'⟩
  rw [show min k n=k by lia] at hs'
  have hsz:=fX.size
  refine Fj (FQ (Ge (I:=λx c st2=>st2=st'/\∃ l r,c=(none,l,r)/\l<=r/\r<=k/\r - l<=k - x/\(∀ i,i<l->R rk (arrOf st') (lo+i)<=R rk (arrOf st') (lo+k))/\(∀ i,r<=i->i<k->R rk (arrOf st') (lo+k)<R rk (arrOf st') (lo+i)))
   (Q:=λc st2=>st2=st'/\∃ l r,c=(none,l,r)/\l<=k/\(∀ i,i<l->R rk (arrOf st') (lo+i)<=R rk (arrOf st') (lo+k))/\(∀ i,l<=i->i<k->R rk (arrOf st') (lo+k)<R rk (arrOf st') (lo+i))) ?istep ?ifin ⟨rfl,0,k,rfl,by lia,by lia,by lia,λi hi=>by lia,λi h1 h2=>by lia⟩) ?ipost)
  case ifin =>
   rintro c st2 ⟨rfl,l,r,rfl,a1,a2,a3,a4,a5⟩
   have:l=r:=by lia
   subst this
   exact ⟨rfl,l,l,rfl,a2,a4,a5⟩
  case istep =>
   rintro x c st2 _ hx ⟨rfl,l,r,rfl,a1,a2,a3,a4,a5⟩
   dsimp only
   by_cases hge:l>=r
   ·rw [if_pos hge]
    have:l=r:=by lia
    subst this
    exact Fo ⟨rfl,l,l,rfl,a2,a4,a5⟩
   ·rw [if_neg hge]
    refine Fj (iF hC fX (by lia) (by lia) ?_)
    dsimp only
    by_cases hl:R rk (arrOf st2) (lo+k)<R rk (arrOf st2) (lo+(l+r) / 2)
    ·rw [decide_eq_true hl,if_pos rfl]
     refine Fo ⟨rfl,l,(l+r) / 2,rfl,by lia,by lia,by lia,a4,λi h1 h2=>?_⟩
     exact Int.lt_of_lt_of_le hl (hs' _ _ (by lia) (by lia) (by lia))
    ·rw [decide_eq_false hl,if_neg Fv]
     refine Fo ⟨rfl,(l+r) / 2+1,r,rfl,by lia,by lia,by lia,λi h1=>?_,a5⟩
     exact F3 (hs' (lo+i) (lo+(l+r) / 2) (by lia) (by lia) (by lia)) (Int.not_lt.mp hl)
  case ipost =>
   rintro c st2 ⟨rfl,l,r,rfl,hlk,a4,a5⟩
   dsimp only
   have e1:lo+k - (lo+l)=k - l:=by lia
   refine Fj (uM (Fo ⟨rfl,fX.arr (HM.mp (bubble_perm _ _ _)),?_,?_⟩))
   ·refine hM'.trans ⟨λi hi=>?_,rfl⟩
    have e:=getElem?_bubble (xs:=arrOf st2) (src:=lo+k) (by lia) (lo+k - (lo+l)) (by lia) i
    rw [if_neg (by lia),if_neg (by lia)] at e
    exact e
   ·rw [show min (k+1) n=k+1 by lia]
    intro i j hi hij hj
    show R rk (bubble (arrOf st2) (lo+k) (lo+k - (lo+l))) i<=R rk (bubble (arrOf st2) (lo+k) (lo+k - (lo+l))) j
    rw [yU (by lia) (by lia),yU (by lia) (by lia),e1]
    have sub:∀ i,lo<=i->lo+(i - lo)=i:=λi hi=>by lia
    have f4:∀ i,lo<=i->i<lo+l->R rk (arrOf st2) i<=R rk (arrOf st2) (lo+k):=λi h1 h2=>by have:=a4 (i - lo) (by lia); rwa [sub i h1] at this
    have f5:∀ i,lo+l<=i->i<lo+k->R rk (arrOf st2) (lo+k)<R rk (arrOf st2) i:=λi h1 h2=>by have:=a5 (i - lo) (by lia) (by lia); rwa [sub i (by lia)] at this
    repeat' split
    all_goals first
     | (exfalso; lia)
     | exact GX _
     | exact f4 _ (by lia) (by lia)
     | exact GP (f5 _ (by lia) (by lia))
     | exact hs' _ _ (by lia) (by lia) (by lia)
theorem jz:∀ (l:List Keyed) (k sa:Nat) (A:Array Keyed),sa+k+l.length<=A.size->((l.zipIdx k).foldl (λa (x:Keyed×Nat)=>a.setIfInBounds (sa+x.2) x.1) A).size=A.size /\
 ∀ i:Nat,((l.zipIdx k).foldl (λa (x:Keyed×Nat)=>a.setIfInBounds (sa+x.2) x.1) A)[i]?=if sa+k<=i/\i<sa+k+l.length then l[i - (sa+k)]? else A[i]?
 | [],k,sa,A,h=>⟨rfl,λi=>by rw [if_neg (by simp only [G8]; lia)]; rfl⟩
 | x::l,k,sa,A,h=>by
  rw [GB] at h
  obtain ⟨h1,h2⟩:=jz l (k+1) sa (A.setIfInBounds (sa+k) x) (by rw [Array.size_setIfInBounds]; lia)
  rw [List.zipIdx_cons,Jk]
  refine ⟨by rw [h1,Array.size_setIfInBounds],λi=>?_⟩
  rw [h2 i,GB]
  by_cases c1:sa+(k+1)<=i/\i<sa+(k+1)+l.length
  ·rw [if_pos c1,if_pos (by lia),show i - (sa+k)=i - (sa+(k+1))+1 by lia,List.getElem?_cons_succ]
  ·rw [if_neg c1]
   by_cases c2:i=sa+k
   ·subst c2
    rw [if_pos (by lia),Nat.sub_self,List.getElem?_cons_zero,Array.getElem?_setIfInBounds_self_of_lt (by lia)]
   ·rw [if_neg (by lia),Array.getElem?_setIfInBounds_ne (by lia)]
end
noncomputable def dQ:Nat->StateT SortSt Sem Bool:=sortPriv% PySem.Builtin.mergeAt
local macro_rules | `(tactic| walk_at "dl mergeAt")=>do
 let i:=HE (Hr `PySem.Builtin.List.W1All `PySem.Builtin.mergeAt)
 `(tactic| delta $i)
section
variable {st:SortSt}
theorem xO (h:Q ⟨⟩ st1):wpS M A E s (set st1:StateT SortSt Sem PUnit) Q st:=by
 unfold wpS; rw [StateT.run_set]; exact Fl ⟨rfl,h⟩
theorem qJ (hC:eV prog w A s κ rk L) (hk:kindOf st=κ) (hkey:key∈L) (mx:∀ (i:Nat) (p:Keyed),xs[i]?=some p->p∈L) (hn:base+n<=xs.size) (us:Seg rk xs base (base+n)) (hh:hint<n)
 (h:∀ k,k<=n->(∀ i,base<=i->i<base+k->R rk xs i<=rk key)->(∀ i,base+k<=i->i<base+n->rk key<R rk xs i)->Q (some k) st):wpS (model prog w) A E s (bH false key xs base n hint) Q st:=by
 obtain ⟨k,h1,h2⟩:=iB (λi=>R rk xs (base+i)) (rk key) n λi j hij hj=>us _ _ (by lia) (by lia) (by lia)
 refine cW hC hk hkey (λi hi=>⟨xs[base+i]'(by lia),FJ _,mx _ _ (FJ _)⟩) (λi hi=>by simp only [Ga,if_false]; exact h2 i hi) h1 hh (h k h1 (λi hi hk=>?_) λi hi hk=>?_)
 ·have:=(h2 (i - base) (by lia)).mpr (by lia)
  rwa [show base+(i - base)=i by lia] at this
 ·have:=mt (h2 (i - base) (by lia)).mp (by lia)
  rw [show base+(i - base)=i by lia] at this
  lia
theorem qK (hC:eV prog w A s κ rk L) (hk:kindOf st=κ) (hkey:key∈L) (mx:∀ (i:Nat) (p:Keyed),xs[i]?=some p->p∈L) (hn:base+n<=xs.size) (us:Seg rk xs base (base+n)) (hh:hint<n)
 (h:∀ k,k<=n->(∀ i,base<=i->i<base+k->R rk xs i<rk key)->(∀ i,base+k<=i->i<base+n->rk key<=R rk xs i)->Q (some k) st):wpS (model prog w) A E s (bH true key xs base n hint) Q st:=by
 obtain ⟨k,h1,h2⟩:=iC (λi=>R rk xs (base+i)) (rk key) n λi j hij hj=>us _ _ (by lia) (by lia) (by lia)
 refine cW hC hk hkey (λi hi=>⟨xs[base+i]'(by lia),FJ _,mx _ _ (FJ _)⟩) (λi hi=>by simp only [if_true]; exact h2 i hi) h1 hh (h k h1 (λi hi hk=>?_) λi hi hk=>?_)
 ·have:=(h2 (i - base) (by lia)).mpr (by lia)
  rwa [show base+(i - base)=i by lia] at this
 ·have:=mt (h2 (i - base) (by lia)).mp (by lia)
  rw [show base+(i - base)=i by lia] at this
  lia
theorem cE {xs:Array Keyed} (h:(xs.extract i j)[m]?=some p):xs[i+m]?=some p/\i+m<j:=by
 rw [Jc] at h
 split at h
 ·exact ⟨h,by lia⟩
 ·cases h
theorem pe {lo hi i j:Nat} (h:Seg rk xs lo hi) (h1:lo<=i) (h2:j<=hi):Up rk (xs.extract i j):=λa b p q hab e1 e2=>by
 obtain ⟨f1,g1⟩:=cE e1
 obtain ⟨f2,g2⟩:=cE e2
 have:=h (i+a) (i+b) (by lia) (by lia) (by lia)
 rwa [cj f1,cj f2] at this
theorem lM (hC:eV prog w A s κ rk L) (hB:Bs κ L st) (p1:(pendingOf st)[i]?=some (sa,na,pw)) (p2:(pendingOf st)[i+1]?=some (sa+na,nb,pw2)) (h1:1<=na) (h2:1<=nb) (hz:sa+na+nb<=L.length)
 (s1:Seg rk (arrOf st) sa (sa+na)) (s2:Seg rk (arrOf st) (sa+na) (sa+na+nb))
 (h:∀ st',Bs κ L st'->(∀ j,j<sa\/sa+na+nb<=j->(arrOf st')[j]?=(arrOf st)[j]?)->pendingOf st'=((pendingOf st).setIfInBounds i (sa,na+nb,pw)).eraseIdxIfInBounds (i+1)->Seg rk (arrOf st') sa (sa+na+nb)->Q true st') :
 wpS (model prog w) A E s (dQ i) Q st:=by
 unfold dQ
 walk_at "dl mergeAt"
 dsimp only
 refine Fj (Gy ?_)
 rw [p1,p2]
 dsimp only
 have hsz:=hB.size
 have mL:∀ (i:Nat) (p:Keyed),(arrOf st)[i]?=some p->p∈L:=λi p e=>hB.perm.mem_iff.mp (by
  obtain ⟨h1,h2⟩:=HN.mp e
  rw [<- h2,JT]; exact Kd _)
 refine Fj (xO ?_)
 obtain ⟨key,ek,hkL⟩:=hB.at (i:=sa+na) (by lia)
 refine Fj (aC ek ?_)
 have rkey:R rk (arrOf st) (sa+na)=rk key:=cj ek
 refine Fj (qJ hC hB.kind hkL mL (by show _<=(arrOf st).size; lia) s1 (by lia) λk k1 k2 k3=>?_)
 dsimp only
 by_cases e0:na - k=0
 ·rw [if_pos (by simpa using e0)]
  refine Fo (h _ ⟨hB.perm,hB.kind,hB.failed⟩ (λ_ _=>rfl) rfl λa b z1 z2 z3=>?_)
  by_cases hb:b<sa+na
  ·exact s1 a b z1 z2 hb
  ·by_cases ha:sa+na<=a
   ·exact s2 a b ha z2 z3
   ·refine F3 (k2 a z1 (by lia)) ?_
    rw [<- rkey]; exact s2 (sa+na) b (Fq _) (by lia) z3
 rw [if_neg (by simpa using e0)]
 obtain ⟨key2,ek2,hk2L⟩:=hB.at (i:=sa+k+(na - k) - 1) (by lia)
 have rkey2:R rk (arrOf st) (sa+na - 1)=rk key2:=by rw [<- cj (rk:=rk) ek2]; congr 1; lia
 refine Fj (aC ek2 ?_)
 refine Fj (qK hC (by exact hB.kind) hk2L mL (by show _<=(arrOf st).size; lia) s2 (by lia) λm m1 m2 m3=>?_)
 dsimp only
 by_cases e1:m=0
 ·exfalso
  have a1:=m3 (sa+na) (by lia) (by lia)
  have a2:=k3 (sa+na - 1) (by lia) (by lia)
  rw [rkey2] at a2; rw [rkey] at a1; lia
 rw [if_neg (by simpa using e1)]
 have mx:∀ (i:Nat) (p:Keyed),((arrOf st).extract (sa+k) (sa+na))[i]?=some p->p∈L:=λi p e=>mL _ p (cE e).1
 have my:∀ (i:Nat) (p:Keyed),((arrOf st).extract (sa+na) (sa+na+m))[i]?=some p->p∈L:=λi p e=>mL _ p (cE e).1
 have ux:Up rk ((arrOf st).extract (sa+k) (sa+na)):=pe s1 (by lia) (Fq _)
 have uy:Up rk ((arrOf st).extract (sa+na) (sa+na+m)):=pe s2 (Fq _) (by lia)
 have zx:((arrOf st).extract (sa+k) (sa+na)).size=na - k:=by rw [Array.size_extract]; lia
 have zy:((arrOf st).extract (sa+na) (sa+na+m)).size=m:=by rw [Array.size_extract]; lia
 have h0:∀ p q,((arrOf st).extract (sa+k) (sa+na))[0]?=some p->((arrOf st).extract (sa+na) (sa+na+m))[0]?=some q->rk q<=rk p:=λp q e2 e3=>by
  obtain ⟨f1,g1⟩:=cE e2
  obtain ⟨f2,g2⟩:=cE e3
  have a1:=k3 (sa+k+0) (by lia) (by lia)
  rw [cj f1] at a1
  have a2:rk q=rk key:=by rw [<- rkey,<- cj (rk:=rk) f2]; rfl
  lia
 have hl:∀ (j:Nat) (p q:Keyed),((arrOf st).extract (sa+k) (sa+na))[((arrOf st).extract (sa+k) (sa+na)).size - 1]?=some p->((arrOf st).extract (sa+na) (sa+na+m))[j]?=some q->rk q<=rk p:=λj p q e2 e3=>by
  rw [zx] at e2
  obtain ⟨f1,g1⟩:=cE e2
  obtain ⟨f2,g2⟩:=cE e3
  have a1:=m2 (sa+na+j) (by lia) (by lia)
  rw [cj f2] at a1
  have a2:rk p=rk key2:=by rw [<- rkey2,<- cj (rk:=rk) f1]; congr 1; lia
  lia
 have fin:∀ (r:Array Keyed) (st2:SortSt),Res rk ((arrOf st).extract (sa+k) (sa+na)) ((arrOf st).extract (sa+na) (sa+na+m)) r->kindOf st2=kindOf st->arrOf st2=arrOf st->pendingOf st2=((pendingOf st).setIfInBounds i (sa,na+nb,pw)).eraseIdxIfInBounds (i+1)->failedOf st2=failedOf st ->
  Q true (setArr st2 (IQ (λa (x:Keyed×Nat)=>a.setIfInBounds (sa+k+x.2) x.1) (arrOf st2) r.toList.zipIdx)):=λr st2 hr e2 e3 e4 e5=>by
  have hlen:r.toList.length=na - k+m:=by
   have:=hr.1.length_eq
   simp only [Gz,F8,zx,zy] at this |-
   exact this
  obtain ⟨w1,w2⟩:=jz r.toList 0 (sa+k) (arrOf st) (by lia)
  generalize hW:IQ (λa (x:Keyed×Nat)=>a.setIfInBounds (sa+k+x.2) x.1) (arrOf st) r.toList.zipIdx=W at w1 w2
  rw [e3,hW]
  have rW:∀ i,sa+k<=i->i<sa+na+m->R rk W i=R rk r (i - (sa+k)):=λi z1 z2=>by
   refine br ?_
   rw [w2,if_pos (by lia),F1]; rfl
  have rO:∀ i,(i<sa+k\/sa+na+m<=i)->R rk W i=R rk (arrOf st) i:=λi z=>by
   refine br ?_
   rw [w2,if_neg (by lia)]
  have elt:∀ i,sa+k<=i->i<sa+na+m->∃ t,sa+k<=t/\t<sa+na+m/\R rk W i=R rk (arrOf st) t:=λi z1 z2=>by
   have hi:i - (sa+k)<r.size:=by rw [<- F8]; lia
   have e6:r[i - (sa+k)]?=some r[i - (sa+k)]:=FJ hi
   have hm:r[i - (sa+k)]∈r.toList:=by rw [JT]; exact Kd _
   rw [rW i z1 z2,cj e6]
   rcases Gd.mp (hr.1.mem_iff.mp hm) with z | z
   ·obtain ⟨t,t1,t2,t3⟩:=oX z
    exact ⟨t,t1,by lia,(cj t3).symm⟩
   ·obtain ⟨t,t1,t2,t3⟩:=oX z
    exact ⟨t,by lia,by lia,(cj t3).symm⟩
  have ur:=A1 hr.2
  refine h _ ⟨?_,e2.trans hB.kind,e5.trans hB.failed⟩ (λj hj=>?_) e4 λa b z1 z2 z3=>?_
  ·
   refine List.Perm.trans ?_ hB.perm
   have eW:W.toList=(arrOf st).toList.take (sa+k)++r.toList++(arrOf st).toList.drop (sa+na+m):=by
    apply Iu
    intro j
    rw [F1,w2,FZ,Il,Il,Gh,Ia,Nat.min_eq_left (by rw [F8]; lia)]
    by_cases c1:j<sa+k
    ·rw [if_neg (by lia),if_pos c1,IZ c1,F1]
    ·rw [if_neg c1]
     by_cases c2:j - (sa+k)<r.toList.length
     ·rw [if_pos (by lia),if_pos c2]; rfl
     ·rw [if_neg (by lia),if_neg c2,F1]; congr 1; lia
   have eA:(arrOf st).toList=(arrOf st).toList.take (sa+k)++(((arrOf st).extract (sa+k) (sa+na)).toList++((arrOf st).extract (sa+na) (sa+na+m)).toList)++(arrOf st).toList.drop (sa+na+m):=by
    apply Iu
    intro j
    rw [FZ,FZ,Il,Il,Il,Gh,F8,F8,F8,zx,zy,Ia,Nat.min_eq_left (by lia)]
    by_cases c1:j<sa+k
    ·rw [if_pos c1,IZ c1]
    ·rw [if_neg c1]
     by_cases c2:j - (sa+k)<na - k
     ·rw [if_pos c2,F1,F1,Jc,if_pos (by lia)]; congr 1; lia
     ·rw [if_neg c2]
      by_cases c3:j - (sa+k) - (na - k)<m
      ·rw [if_pos c3,F1,F1,Jc,if_pos (by lia)]; congr 1; lia
      ·rw [if_neg c3]; congr 1; lia
   show W.toList.Perm _
   rw [eW]
   conv=>rhs; rw [eA]
   exact (HV _ hr.1).append_right _
  ·show W[j]?=_
   rw [w2,if_neg (by lia)]
  ·show R rk W a<=R rk W b
   have kk:∀ t,sa+na<=t->t<sa+na+nb->rk key<=R rk (arrOf st) t:=λt t1 t2=>by rw [<- rkey]; exact s2 _ t (Fq _) t1 t2
   have kk2:∀ t,sa<=t->t<sa+na->R rk (arrOf st) t<=rk key2:=λt t1 t2=>by rw [<- rkey2]; exact s1 t _ t1 (by lia) (by lia)
   by_cases c1:a<sa+k
   ·rw [rO a (.inl c1)]
    have la:=k2 a z1 c1
    by_cases d1:b<sa+k
    ·rw [rO b (.inl d1)]; exact s1 a b z1 z2 (by lia)
    ·by_cases d2:b<sa+na+m
     ·obtain ⟨t,t1,t2,t3⟩:=elt b (by lia) d2
      rw [t3]
      by_cases d3:t<sa+na
      ·exact s1 a t z1 (by lia) d3
      ·exact F3 la (kk t (by lia) (by lia))
     ·rw [rO b (.inr (by lia))]
      exact F3 la (kk b (by lia) z3)
   ·by_cases c2:a<sa+na+m
    ·by_cases d2:b<sa+na+m
     ·rw [rW a (by lia) c2,rW b (by lia) d2]
      have f1:r[a - (sa+k)]?=some (r[a - (sa+k)]'(by rw [<- F8]; lia)):=FJ _
      have f2:r[b - (sa+k)]?=some (r[b - (sa+k)]'(by rw [<- F8]; lia)):=FJ _
      rw [cj f1,cj f2]
      exact ur _ _ _ _ (by lia) f1 f2
     ·obtain ⟨t,t1,t2,t3⟩:=elt a (by lia) c2
      rw [t3,rO b (.inr (by lia))]
      by_cases d3:t<sa+na
      ·exact F3 (kk2 t (by lia) d3) (m3 b (by lia) z3)
      ·exact s2 t b (by lia) (by lia) z3
    ·rw [rO a (.inr (by lia)),rO b (.inr (by lia))]
     exact s2 a b (by lia) z2 z3
 have post:∀ (r:Array Keyed) (st2:SortSt),failedOf st2=failedOf st->(failedOf st2).isNone=true:=λr st2 e=>by rw [e,hB.failed]; rfl
 by_cases hle:na - k<=m
 ·rw [if_pos hle]
  refine Fj (lH hC (by exact hB.kind) mx my ux uy (by show 1<=((arrOf st).extract (sa+k) (sa+na)).size; lia) (by show 1<=((arrOf st).extract (sa+na) (sa+na+m)).size; lia) h0 hl λr st2 hr hK=>?_)
  refine Fj (GQ (Fj (Gy ?_)))
  have e9:failedOf st2=none:=hK.f.trans hB.failed
  have z:=fin r st2 hr hK.k hK.a hK.p hK.f
  refine Fo ?_
  show Q (failedOf st2).isNone _
  rw [e9]; exact z
 ·rw [if_neg hle]
  refine Fj (lK hC (by exact hB.kind) mx my ux uy (by show 1<=((arrOf st).extract (sa+k) (sa+na)).size; lia) (by show 1<=((arrOf st).extract (sa+na) (sa+na+m)).size; lia) h0 hl λr st2 hr hK=>?_)
  refine Fj (GQ (Fj (Gy ?_)))
  have e9:failedOf st2=none:=hK.f.trans hB.failed
  have z:=fin r st2 hr hK.k hK.a hK.p hK.f
  refine Fo ?_
  show Q (failedOf st2).isNone _
  rw [e9]; exact z
end
noncomputable abbrev Dl:Nat->Nat->Nat->Nat:=sortPriv% PySem.Builtin.minRun
noncomputable def lN:StateT SortSt Sem Unit:=sortPriv% PySem.Builtin.sortRuns
local macro_rules | `(tactic| walk_at "dl sortRuns")=>do
 let i:=HE (Hr `PySem.Builtin.List.W1All `PySem.Builtin.sortRuns)
 `(tactic| delta $i)
noncomputable def cO (rk:Keyed->Int) (xs:Array Keyed):Nat->List (Nat×Nat×Nat)->Nat->Prop
 | a,[],b=>a=b
 | a,p::r,b=>p.1=a/\1<=p.2.1/\Seg rk xs a (a+p.2.1)/\cO rk xs (a+p.2.1) r b
theorem cO.le:∀ {ps:List (Nat×Nat×Nat)} {a b:Nat},cO rk xs a ps b->a+ps.length<=b
 | [],a,b,h=>by have:a=b:=h; simp; lia
 | p::r,a,b,h=>by
  obtain ⟨_,h1,_,h2⟩:=h
  have:=h2.le
  rw [GB]; lia
theorem cO.app:∀ {ps qs:List (Nat×Nat×Nat)} {a b:Nat},cO rk xs a (ps++qs) b↔∃ m,cO rk xs a ps m/\cO rk xs m qs b
 | [],qs,a,b=>⟨λh=>⟨a,rfl,h⟩,λ⟨m,h1,h2⟩=>by have:a=m:=h1; subst this; exact h2⟩
 | p::r,qs,a,b=>by
  constructor
  ·rintro ⟨h1,h2,h3,h4⟩
   obtain ⟨m,h5,h6⟩:=cO.app.mp h4
   exact ⟨m,⟨h1,h2,h3,h5⟩,h6⟩
  ·rintro ⟨m,⟨h1,h2,h3,h5⟩,h6⟩
   exact ⟨h1,h2,h3,cO.app.mpr ⟨m,h5,h6⟩⟩
theorem cO.congr:∀ {ps:List (Nat×Nat×Nat)} {a b:Nat},cO rk xs a ps b->(∀ i,a<=i->i<b->R rk ys i=R rk xs i)->cO rk ys a ps b
 | [],a,b,h,_=>h
 | p::r,a,b,h,e=>by
  obtain ⟨h1,h2,h3,h4⟩:=h
  have hl:=h4.le
  refine ⟨h1,h2,λi j z1 z2 z3=>?_,h4.congr λi z1 z2=>e i (by lia) z2⟩
  rw [e i z1 (by lia),e j (by lia) (by lia)]
  exact h3 i j z1 z2 z3
theorem cO.mod (f) (hf:∀ p,(f p).1=p.1/\(f p).2.1=p.2.1):∀ {ps:List (Nat×Nat×Nat)} {a b:Nat} (i:Nat),cO rk xs a ps b->cO rk xs a (ps.modify i f) b
 | [],a,b,i,h=>by simpa using h
 | p::r,a,b,0,h=>by
  obtain ⟨h1,h2,h3,h4⟩:=h
  rw [List.modify_zero_cons]
  refine ⟨(hf p).1.trans h1,by rw [(hf p).2]; exact h2,by rw [(hf p).2]; exact h3,by rw [(hf p).2]; exact h4⟩
 | p::r,a,b,i+1,h=>by
  obtain ⟨h1,h2,h3,h4⟩:=h
  rw [List.modify_succ_cons]
  exact ⟨h1,h2,h3,h4.mod f hf i⟩
theorem cO.two:∀ {ps:List (Nat×Nat×Nat)} {a b:Nat} (i:Nat),cO rk xs a ps b->i+1<ps.length->∃ s n pw m pw2,ps[i]?=some (s,n,pw)/\ps[i+1]?=some (s+n,m,pw2)/\1<=n/\1<=m/\a<=s/\s+n+m<=b/\Seg rk xs s (s+n)/\Seg rk xs (s+n) (s+n+m) /\
 ∀ ys:Array Keyed,(∀ j,j<s\/s+n+m<=j->R rk ys j=R rk xs j)->Seg rk ys s (s+n+m)->cO rk ys a ((ps.set i (s,n+m,pw)).eraseIdx (i+1)) b
 | [],a,b,i,h,hi=>by simp at hi
 | [p],a,b,i,h,hi=>by simp at hi
 | p::q::r,a,b,0,h,hi=>by
  obtain ⟨h1,h2,h3,h4,h5,h6,h7⟩:=h
  obtain ⟨s,n,pw⟩:=p
  obtain ⟨s',m,pw2⟩:=q
  dsimp only at h1 h2 h3 h4 h5 h6 h7
  subst h1; subst h4
  have hl:=h7.le
  refine ⟨s,n,pw,m,pw2,rfl,rfl,h2,h5,Fq _,by lia,h3,h6,λys e hs=>?_⟩
  refine ⟨rfl,by dsimp only; lia,by dsimp only; rw [<- Js]; exact hs,?_⟩
  dsimp only
  rw [<- Js]
  exact h7.congr λi z1 z2=>e i (.inr z1)
 | p::q::r,a,b,i+1,h,hi=>by
  obtain ⟨h1,h2,h3,h4⟩:=h
  obtain ⟨s,n,pw,m,pw2,e1,e2,a1,a2,a3,a4,a5,a6,a7⟩:=h4.two i (by simpa using hi)
  refine ⟨s,n,pw,m,pw2,by simpa using e1,by simpa using e2,a1,a2,by lia,a4,a5,a6,λys e hs=>?_⟩
  rw [List.set_cons_succ,List.eraseIdx_cons_succ]
  refine ⟨h1,h2,λj j' z1 z2 z3=>?_,a7 ys e hs⟩
  rw [e j (.inl (by lia)),e j' (.inl (by lia))]
  exact h3 j j' z1 z2 z3
section
variable {st:SortSt}
theorem dR (hC:eV prog w A s κ rk L) (hB:Bs κ L st) (hc:cO rk (arrOf st) 0 (pendingOf st).toList b) (hb:b<=L.length) (hi:i+1<(pendingOf st).size)
 (h:∀ st',Bs κ L st'->cO rk (arrOf st') 0 (pendingOf st').toList b->(∀ j,b<=j->(arrOf st')[j]?=(arrOf st)[j]?)->(pendingOf st').size+1=(pendingOf st).size->Q true st'):wpS (model prog w) A E s (dQ i) Q st:=by
 obtain ⟨sa,n,pw,m,pw2,e1,e2,a1,a2,a3,a4,a5,a6,a7⟩:=hc.two i (by rw [F8]; exact hi)
 rw [F1] at e1 e2
 refine lM hC hB e1 e2 a1 a2 (by lia) a5 a6 λst' b1 b2 b3 b4=>h st' b1 ?_ (λj hj=>b2 j (.inr (by lia))) ?_
 ·rw [b3,Kq,Array.toList_setIfInBounds]
  exact a7 _ (λj hj=>br (b2 j hj)) b4
 ·rw [b3,<- F8,Kq,Array.toList_setIfInBounds,List.length_eraseIdx,List.length_set,F8,if_pos hi]; lia
theorem wpS_sortRuns (hC:eV prog w A s κ rk L) (hB:Bs κ L st) (hp:pendingOf st= #[]) (h:∀ st',Bs κ L st'->Seg rk (arrOf st') 0 L.length->Q () st'):wpS (model prog w) A E s lN Q st:=by
 unfold lN
 walk_at "dl sortRuns"
 dsimp only
 refine Fj (Gy ?_)
 have hsz:=hB.size
 rw [hsz]
 obtain ⟨mr,hmr⟩:∃ mr,Dl L.length L.length 0=mr:=⟨_,rfl⟩
 delta Dl at hmr
 rw [hmr]
 refine Fj (FQ (Ge (I:=λx c st'=>c.1=none/\Bs κ L st'/\cO rk (arrOf st') 0 (pendingOf st').toList c.2/\c.2<=L.length/\(x<=c.2\/L.length<=c.2)) (Q:=λc st'=>c.1=none/\Bs κ L st'/\cO rk (arrOf st') 0 (pendingOf st').toList L.length) ?step ?fin ?init) ?post)
 case init=>exact ⟨rfl,hB,by rw [hp]; rfl,Gw _,.inl (Fq _)⟩
 case fin =>
  rintro ⟨c,lo⟩ st' ⟨rfl,fX,hC',h1,h2⟩
  dsimp only at hC' h1 h2 |-
  have e:lo=L.length:=by
   rcases h2 with z | z
   ·lia
   ·lia
  subst e
  exact ⟨rfl,fX,hC'⟩
 case step =>
  rintro x ⟨c,lo⟩ st' _ hx ⟨rfl,fX,hC',h1,h2⟩
  dsimp only at hC' h1 h2 |-
  by_cases hge:lo>=L.length
  ·rw [if_pos hge]
   have e:lo=L.length:=by lia
   subst e
   exact Fo ⟨rfl,fX,hC'⟩
  rw [if_neg hge]
  refine Fj (show wpS _ _ _ _ (countRun' lo (L.length - lo)) _ _ from wpS_countRun hC fX (by lia) (by lia) λm st1 hB1 hM1 m1 m2 ms=>?_)
  have hC1:cO rk (arrOf st1) 0 (pendingOf st1).toList lo:=by
   rw [hM1.pend]; exact hC'.congr λi _ z=>br (hM1.out i (.inl z))
  dsimp only
  by_cases hmin:m<mr
  ·rw [if_pos (show m<_ from hmin)]
   refine Fj (Ho (GG ⟨rfl,?_⟩))
   have hf1:m<=min (L.length - lo) mr:=by lia
   have hf2:lo+min (L.length - lo) mr<=L.length:=by lia
   refine Fj (show wpS _ _ _ _ (binarySort' lo (min (L.length - lo) mr) m) _ _ from wpS_binarySort hC hB1 hf2 hf1 ms λst2 hB2 hM2 hS2=>?_)
   have hC2:cO rk (arrOf st2) 0 (pendingOf st2).toList lo:=by
    rw [hM2.pend]; exact hC1.congr λi _ z=>br (hM2.out i (.inl z))
   simp only [HC,Ga,if_false]
   generalize hF:min (L.length - lo) mr=F at hf1 hf2 hS2
   have hF':=hF
   clear hM2 hM1
   refine Fj (Gy ?_)
   rcases hbk:(pendingOf st2).back? with _ | ⟨q1,q2,q3⟩
   ·dsimp only
    refine Fj (GQ (Fo ⟨rfl,⟨hB2.perm,hB2.kind,hB2.failed⟩,?_,by dsimp only; lia,by dsimp only; lia⟩))
    show cO rk (arrOf st2) 0 ((pendingOf st2).push (lo,F,0)).toList (lo+(F))
    rw [FU]
    exact cO.app.mpr ⟨lo,hC2,rfl,by dsimp only; lia,hS2,rfl⟩
   ·dsimp only
    refine Fj (FQ (Ge (I:=λy c st'=>c.1=none/\Bs κ L st'/\cO rk (arrOf st') 0 (pendingOf st').toList lo/\Seg rk (arrOf st') lo (lo+(F))) (Q:=λc st'=>c.1=none/\Bs κ L st'/\cO rk (arrOf st') 0 (pendingOf st').toList lo/\Seg rk (arrOf st') lo (lo+(F))) ?_ (λ_ _ z=>z) ⟨rfl,hB2,hC2,hS2⟩) ?_)
    ·rintro y ⟨c,u⟩ st3 _ hy ⟨rfl,nJ,rB,vL⟩
     refine Fj (Gy ?_)
     by_cases hs1:(pendingOf st3).size>1
     ·rw [if_pos hs1]
      obtain ⟨⟨r1,r2,r3⟩,er⟩:∃ t,(pendingOf st3)[(pendingOf st3).size - 2]?=some t:=⟨_,FJ (show (pendingOf st3).size - 2<(pendingOf st3).size by lia)⟩
      rw [er]
      dsimp only
      split
      ·exact Fo ⟨rfl,nJ,rB,vL⟩
      ·refine Fj (show wpS _ _ _ _ (dQ ((pendingOf st3).size - 2)) _ _ from dR hC nJ rB (by lia) (by lia) λst4 hB4 hC4 ho4 hz4=>?_)
       simp only [HC,Ga,if_false]
       exact Fo ⟨rfl,hB4,hC4,λa b z1 z2 z3=>by rw [br (ho4 a z1),br (ho4 b (by lia))]; exact vL a b z1 z2 z3⟩
     ·rw [if_neg hs1]
      exact Fo ⟨rfl,nJ,rB,vL⟩
    ·rintro ⟨c,u⟩ st3 ⟨hc,nJ,rB,vL⟩
     dsimp only at hc |-
     rw [hc]
     dsimp only
     refine Fj (GQ (Fj (GQ (Fo ⟨rfl,⟨nJ.perm,nJ.kind,nJ.failed⟩,?_,by dsimp only; lia,by dsimp only; lia⟩))))
     show cO rk (arrOf st3) 0 (((pendingOf st3).modify ((pendingOf st3).size - 1) _).push (lo,F,0)).toList (lo+(F))
     rw [FU,Array.toList_modify]
     refine cO.app.mpr ⟨lo,?_,rfl,by dsimp only; lia,vL,rfl⟩
     refine cO.mod _ (λp=>?_) _ rB
     exact ⟨rfl,rfl⟩
  ·rw [if_neg (show ¬ m<_ from hmin)]
   refine Fj (Gy ?_)
   rcases hbk:(pendingOf st1).back? with _ | ⟨q1,q2,q3⟩
   ·dsimp only
    refine Fj (GQ (Fo ⟨rfl,⟨hB1.perm,hB1.kind,hB1.failed⟩,?_,by dsimp only; lia,by dsimp only; lia⟩))
    show cO rk (arrOf st1) 0 ((pendingOf st1).push (lo,m,0)).toList (lo+(m))
    rw [FU]
    exact cO.app.mpr ⟨lo,hC1,rfl,by dsimp only; lia,ms,rfl⟩
   ·dsimp only
    refine Fj (FQ (Ge (I:=λy c st'=>c.1=none/\Bs κ L st'/\cO rk (arrOf st') 0 (pendingOf st').toList lo/\Seg rk (arrOf st') lo (lo+(m))) (Q:=λc st'=>c.1=none/\Bs κ L st'/\cO rk (arrOf st') 0 (pendingOf st').toList lo/\Seg rk (arrOf st') lo (lo+(m))) ?_ (λ_ _ z=>z) ⟨rfl,hB1,hC1,ms⟩) ?_)
    ·rintro y ⟨c,u⟩ st3 _ hy ⟨rfl,nJ,rB,vL⟩
     refine Fj (Gy ?_)
     by_cases hs1:(pendingOf st3).size>1
     ·rw [if_pos hs1]
      obtain ⟨⟨r1,r2,r3⟩,er⟩:∃ t,(pendingOf st3)[(pendingOf st3).size - 2]?=some t:=⟨_,FJ (show (pendingOf st3).size - 2<(pendingOf st3).size by lia)⟩
      rw [er]
      dsimp only
      split
      ·exact Fo ⟨rfl,nJ,rB,vL⟩
      ·refine Fj (show wpS _ _ _ _ (dQ ((pendingOf st3).size - 2)) _ _ from dR hC nJ rB (by lia) (by lia) λst4 hB4 hC4 ho4 hz4=>?_)
       simp only [HC,Ga,if_false]
       exact Fo ⟨rfl,hB4,hC4,λa b z1 z2 z3=>by rw [br (ho4 a z1),br (ho4 b (by lia))]; exact vL a b z1 z2 z3⟩
     ·rw [if_neg hs1]
      exact Fo ⟨rfl,nJ,rB,vL⟩
    ·rintro ⟨c,u⟩ st3 ⟨hc,nJ,rB,vL⟩
     dsimp only at hc |-
     rw [hc]
     dsimp only
     refine Fj (GQ (Fj (GQ (Fo ⟨rfl,⟨nJ.perm,nJ.kind,nJ.failed⟩,?_,by dsimp only; lia,by dsimp only; lia⟩))))
     show cO rk (arrOf st3) 0 (((pendingOf st3).modify ((pendingOf st3).size - 1) _).push (lo,m,0)).toList (lo+(m))
     rw [FU,Array.toList_modify]
     refine cO.app.mpr ⟨lo,?_,rfl,by dsimp only; lia,vL,rfl⟩
     refine cO.mod _ (λp=>?_) _ rB
     exact ⟨rfl,rfl⟩
 case post =>
  rintro ⟨c,lo⟩ st' ⟨hc,fX,hC'⟩
  dsimp only at hc |-
  rw [hc]
  dsimp only
  have hl0:=hC'.le
  rw [F8] at hl0
  refine Fj (FQ (Ge (I:=λx c st2=>c.1=none/\Bs κ L st2/\cO rk (arrOf st2) 0 (pendingOf st2).toList L.length/\((pendingOf st2).size<=1\/(pendingOf st2).size+x<=L.length)) (Q:=λc st2=>c.1=none/\Bs κ L st2/\cO rk (arrOf st2) 0 (pendingOf st2).toList L.length/\(pendingOf st2).size<=1) ?mstep ?mfin ⟨rfl,fX,hC',.inr (by lia)⟩) ?mpost)
  case mfin =>
   rintro c2 st2 ⟨a1,a2,a3,a4⟩
   exact ⟨a1,a2,a3,by lia⟩
  case mpost =>
   rintro ⟨c2,u⟩ st2 ⟨a1,a2,a3,a4⟩
   dsimp only at a1 |-
   rw [a1]
   refine Fo (h st2 a2 ?_)
   rw [<- F8] at a4
   match e:(pendingOf st2).toList,a4 with
   | [],_ =>
    rw [e] at a3
    have z:0=L.length:=a3
    intro i j _ _ hj; lia
   | [p],_ =>
    rw [e] at a3
    obtain ⟨b1,b2,b3,b4⟩:=a3
    have z:0+p.2.1=L.length:=b4
    rw [<- z]; exact b3
  case mstep =>
   rintro x ⟨c2,u⟩ st2 _ hx ⟨a1,a2,a3,a4⟩
   refine Fj (Gy ?_)
   by_cases hs1:(pendingOf st2).size<=1
   ·rw [if_pos hs1]
    exact Fo ⟨rfl,a2,a3,hs1⟩
   ·rw [if_neg hs1]
    have key:∀ i,i+1<(pendingOf st2).size->wpS (model prog w) A E s (dQ i) (λr st3=>r=true/\Bs κ L st3/\cO rk (arrOf st3) 0 (pendingOf st3).toList L.length/\(pendingOf st3).size+1=(pendingOf st2).size) st2:=λi hi =>
     dR hC a2 a3 (Fq _) hi λst3 b1 b2 _ b3=>⟨rfl,b1,b2,b3⟩
    refine Fj (FQ (show wpS _ _ _ _ (dQ _) _ _ from key _ ?_) λr st3 hr=>?_)
    ·unfold pendingOf at hs1 |-
     repeat' split
     all_goals lia
    ·obtain ⟨rfl,b1,b2,b3⟩:=hr
     simp only [HC,Ga,if_false]
     exact Fo ⟨rfl,b1,b2,.inr (by lia)⟩
end
end SR
namespace SR
open PySem PyProof.Rows
noncomputable def dup (vs:List Value):List Keyed:=vs.map λv=>(v,v)
theorem pq (vs):(vs.toArray.zip vs.toArray).toList=dup vs:=by
 unfold dup
 rw [Array.toList_zip]
 induction vs with
 | nil=>rfl
 | cons v vs ih=>simpa using ih
def Ord (rk:Keyed->Int) (b:Bool) (out:List Value):Prop:=out.Pairwise λx y=>if b then rk (y,y)<=rk (x,x) else rk (x,x)<=rk (y,y)
theorem lO {xs:Array Keyed} (h:xs.toList.Perm (dup vs)):(xs.toList.map (·.2)).Perm vs/\∀ p∈xs.toList,p=(p.2,p.2):=by
 refine ⟨?_,λp hp=>?_⟩
 ·have q:=h.map (·.2)
  have e:(dup vs).map (·.2)=vs:=by
   unfold dup
   rw [GO]
   exact List.map_id' vs
  rwa [e] at q
 ·have:=h.mem_iff.mp hp
  simp only [dup,GF] at this
  obtain ⟨v,_,rfl⟩:=this
  rfl
theorem xP {st:SortSt} (hp:(arrOf st).toList.Perm (dup vs)) (hs:Seg rk (arrOf st) 0 (dup vs).length) (b) :
 ((if b=true then ((arrOf st).map (·.2)).reverse else (arrOf st).map (·.2)).toList).Perm vs/\Ord rk b (if b=true then ((arrOf st).map (·.2)).reverse else (arrOf st).map (·.2)).toList:=by
 obtain ⟨h1,h2⟩:=lO hp
 have up:((arrOf st).toList.map (·.2)).Pairwise λx y=>rk (x,x)<=rk (y,y):=by
  rw [List.pairwise_map]
  refine JF.mpr λi j hi hj hij=>?_
  have l:=hp.length_eq
  simp only [F8] at hi hj l
  have z:=hs i j (Gw _) (GN hij) (by lia)
  have ei:(arrOf st)[i]?=some ((arrOf st).toList[i]'(by simpa using hi)):=by simp [hi]
  have ej:(arrOf st)[j]?=some ((arrOf st).toList[j]'(by simpa using hj)):=by simp [hj]
  rw [cj ei,cj ej] at z
  have e1:=h2 _ (G6 (show i<(arrOf st).toList.length by simpa using hi))
  have e2:=h2 _ (G6 (show j<(arrOf st).toList.length by simpa using hj))
  rw [e1,e2] at z
  exact z
 cases b with
 | false=>simp only [Ga,if_false,Array.toList_map]; exact ⟨h1,up.imp λh=>by simpa using h⟩
 | true =>
  simp only [if_true,HX,Array.toList_map]
  refine ⟨(J8 _).trans h1,?_⟩
  unfold Ord
  rw [List.pairwise_reverse]
  exact up.imp λh=>by simpa using h
def EH (prog:Program) (w:World) (A:Around) (s:Shared) (a:Addr) (vs:List Value) (κ:SortKind) (rk:Keyed->Int):Prop :=
 ∀ h':Heap,(∀ c o,c≠a->s.heap.get? c=some o->h'.get? c=some o) ->
  (∀ (Q:SortKind->Shared->Prop) (E:Value->Shared->Prop),2<=vs.length->Q κ { s with heap:=h' }->wpAny (model prog w) A (keyKind' vs.toArray) Q E { s with heap:=h' })/\eV prog w A { s with heap:=h' } κ rk (dup vs)
theorem qL (ho:s.heap.get? a=some (seqObj "list" vs.toArray n)) (hk:EH prog w A s a vs κ rk) (hz:vs.length<=sizeLine)
 (h:∀ out:Array Value,out.toList.Perm vs->Ord rk b out.toList->P (.done (.ret .none)) { s with heap:=sortedHeap s.heap a vs out }) :
 wpAny (model prog w) A (Builtin.«list.sort» ⟨[.ref a],[(Fg "reverse",.bool b)]⟩) P E s:=by
 rw [list_sort_rev]
 have lta:a<s.heap.objs.size:=Fw ho
 refine Ff (Jw ho rfl (Ff (listUpdate_at ho rfl ?_ (by simpa using hz))))
 obtain ⟨e1,ho1⟩:∃ e1,(s.heap.update a (GH λ_=> #[])).get? a=some (seqObj "list" #[] e1):=⟨_,get?_update_seq ho (λ_=> #[])⟩
 have oth:∀ c o,c≠a->s.heap.get? c=some o->(s.heap.update a (GH λ_=> #[])).get? c=some o:=λc o hc q=>by rw [Heap.get?_update_ne _ _ _ _ hc]; exact q
 have sz1:(s.heap.update a (GH λ_=> #[])).objs.size=s.heap.objs.size:=Heap.size_update ..
 refine Ff (seqEpoch_at ho1 rfl (Ff (wpAny_newTuple ?_ (by simpa using hz))))
 refine Ff (wpAny_newList (GK ?_))
 show wpAny (model prog w) A _ P E { s with heap:=((s.heap.update a (GH λ_=> #[])).push (seqObj "tuple" vs.toArray 0)).push (seqObj "list" #[] 0) }
 have ho6:(((s.heap.update a (GH λ_=> #[])).push (seqObj "tuple" vs.toArray 0)).push (seqObj "list" #[] 0)).get? a=some (seqObj "list" #[] e1):=Fz _ (Fz _ ho1)
 obtain ⟨hkk,hC⟩:=hk (((s.heap.update a (GH λ_=> #[])).push (seqObj "tuple" vs.toArray 0)).push (seqObj "list" #[] 0)) λc o hc q=>Fz _ (Fz _ (oth c o hc q))
 have fin:∀ st':SortSt,(arrOf st').toList.Perm (dup vs)->Seg rk (arrOf st') 0 (dup vs).length ->
  P (.done (.ret .none)) { s with heap:=sortedHeap s.heap a vs (if b then ((arrOf st').map (·.2)).reverse else (arrOf st').map (·.2)) }:=λst' hp hs =>
  let ⟨q1,q2⟩:=xP hp hs b; h _ q1 q2
 have hstart:(if b=true then (vs.toArray.zip vs.toArray).reverse else vs.toArray.zip vs.toArray).toList.Perm (dup vs):=by
  cases b with
  | false=>rw [if_neg Fv,pq]
  | true=>rw [if_pos rfl,HX,pq]; exact J8 _
 dsimp only
 have told:∀ t:Sem Fin,wpAny (model prog w) A t P E { s with heap:=((s.heap.update a (GH λ_=> #[])).push (seqObj "tuple" vs.toArray 0)).push (seqObj "list" #[] 0) } ->
  wpAny (model prog w) A (if b=true then (do let _ <- rule "list.sort.reverse"; t) else t) P E { s with heap:=((s.heap.update a (GH λ_=> #[])).push (seqObj "tuple" vs.toArray 0)).push (seqObj "list" #[] 0) }:=λt ht=>by
  split
  ·exact Ff (GG ht)
  ·exact ht
 refine told _ ?_
 have hlen:∀ {xs:Array Keyed},xs.toList.Perm (dup vs)->(if b=true then (Array.map (λx=>x.snd) xs).reverse else Array.map (λx=>x.snd) xs).size<=sizeLine+1:=λ{xs} hp=>by
  have l:=hp.length_eq
  simp only [F8,dup,Fx] at l
  split
  ·rw [Array.size_reverse,Array.size_map]; lia
  ·rw [Array.size_map]; lia
 by_cases h2:vs.toArray.size<2
 ·rw [if_pos h2,if_pos h2]
  refine Ff (Fl ?_)
  rw [StateT.run_pure]
  refine Ff (Fl ?_)
  dsimp only
  refine Ff (seqEpoch_at ho6 rfl (Ff (listUpdate_at ho6 rfl ?_ (hsz2:=hlen hstart))))
  simp only [bne_self_eq_false,Ga,if_false]
  refine Fl (fin (IP general' (if b=true then (vs.toArray.zip vs.toArray).reverse else vs.toArray.zip vs.toArray) #[] 7 none) hstart ?_)
  intro i j _ hij hj
  have hl:(dup vs).length<2:=by simpa [dup] using h2
  have:i=j:=by lia
  subst this; exact GX _
 ·rw [if_neg h2,if_neg h2]
  refine Ff (hkk _ _ (by simpa using h2) ?_)
  refine Ff (Gk (wpS_sortRuns (κ:=κ) (rk:=rk) (L:=dup vs) (st:=IP κ (if b=true then (vs.toArray.zip vs.toArray).reverse else vs.toArray.zip vs.toArray) #[] 7 none)
   (Q:=λ_ st'=>(arrOf st').toList.Perm (dup vs)/\failedOf st'=none/\Seg rk (arrOf st') 0 (dup vs).length) hC ⟨hstart,rfl,rfl⟩ rfl λst' a1 a2=>⟨a1.perm,a1.failed,a2⟩) ?_ λ_ _ e=>e)
  rintro ⟨⟨⟩,st'⟩ s' ⟨rfl,hp,hf,hs⟩
  dsimp only
  refine Ff (seqEpoch_at ho6 rfl (Ff (listUpdate_at ho6 rfl ?_ (hsz2:=hlen hp))))
  rw [hf]
  simp only [bne_self_eq_false,Ga,if_false]
  exact Fl (fin st' hp hs)
section
variable {α:Type} {lt:α->α->Bool} {L:List α}
theorem filter_le:∀ {l:List α},(∀ z∈l,p z=true->q z=true)->(l.filter p).length<=(l.filter q).length
 | [],_=>Fq _
 | x::l,h=>by
  have ih:=filter_le (l:=l) λz hz=>h z (FL _ hz)
  have hx:=h x FF
  cases e:p x with
  | false =>
   rw [Jb (by simp [e])]
   by_cases e2:q x=true
   ·rw [HR e2]; exact J7 ih
   ·rw [Jb e2]; exact ih
  | true =>
   rw [HR e,HR (hx e)]
   exact Iw ih
theorem filter_lt:∀ {l:List α},(∀ z∈l,p z=true->q z=true)->(∃ z∈l,q z=true/\p z=false)->(l.filter p).length<(l.filter q).length
 | [],_,h=>by obtain ⟨z,h,_⟩:=h; cases h
 | x::l,h,g=>by
  have h':∀ z∈l,p z=true->q z=true:=λz hz=>h z (FL _ hz)
  have hx:=h x FF
  by_cases e:p x=true
  ·rw [HR e,HR (hx e)]
   obtain ⟨z,hz,z1,z2⟩:=g
   rcases FO.mp hz with rfl | hz
   ·rw [e] at z2; cases z2
   ·exact Nat.succ_lt_succ (filter_lt h' ⟨z,hz,z1,z2⟩)
  ·rw [Jb e]
   by_cases e2:q x=true
   ·rw [HR e2]; exact Nat.lt_succ_of_le (filter_le h')
   ·rw [Jb e2]
    obtain ⟨z,hz,z1,z2⟩:=g
    rcases FO.mp hz with rfl | hz
    ·exact absurd z1 e2
    ·exact filter_lt h' ⟨z,hz,z1,z2⟩
structure BR (lt:α->α->Bool) (L:List α):Prop where
 irr:∀ x∈L,lt x x=false
 tr:∀ x∈L,∀ y∈L,∀ z∈L,lt x y=true->lt y z=true->lt x z=true
 tot:∀ x∈L,∀ y∈L,x≠y->lt x y=true\/lt y x=true
noncomputable def rank (lt:α->α->Bool) (L:List α) (x:α):Int:=((L.filter λz=>lt z x).length:Int)
theorem gB (h:BR lt L) (hx:x∈L) (hy:y∈L) (e:lt x y=true):rank lt L x<rank lt L y:=by
 have q:=filter_lt (l:=L) (p:=λz=>lt z x) (q:=λz=>lt z y) (λz hz hzx=>h.tr z hz x hx y hy hzx e) ⟨x,hx,e,h.irr x hx⟩
 unfold rank; lia
theorem xQ (h:BR lt L) (hx:x∈L) (hy:y∈L):decide (rank lt L x<rank lt L y)=lt x y:=by
 classical
 cases e:lt x y with
 | true=>exact decide_eq_true (gB h hx hy e)
 | false =>
  refine decide_eq_false λz=>?_
  by_cases w:x=y
  ·subst w; exact absurd z (Int.lt_irrefl _)
  ·rcases h.tot x hx y hy w with q | q
   ·rw [e] at q; cases q
   ·have:=gB h hy hx q; lia
theorem lP (hp:n.Perm m):∀ {l:List α},Paired S l m->∃ l',l'.Perm l/\Paired S l' n:=by
 induction hp with
 | nil=>intro l h; exact ⟨l,.refl _,h⟩
 | cons x _ ih =>
  intro l h
  cases h with
  | cons r t=>obtain ⟨l',h1,h2⟩:=ih t; exact ⟨_::l',h1.cons _,.cons r h2⟩
 | swap x y l' =>
  intro l h
  cases h with
  | cons r t=>cases t with | cons r2 t2=>exact ⟨_,.swap _ _ _,.cons r2 (.cons r t2)⟩
 | trans _ _ ih1 ih2 =>
  intro l h
  obtain ⟨l1,h1,h2⟩:=ih2 h
  obtain ⟨l2,h3,h4⟩:=ih1 h2
  exact ⟨l2,h3.trans h1,h4⟩
theorem iG (h:Paired S l m):∀ u∈m,∃ x∈l,S x u:=by
 induction h with
 | nil=>intro u hu; cases hu
 | cons r t ih =>
  intro u hu
  rcases FO.mp hu with rfl | hu
  ·exact ⟨_,FF,r⟩
  ·obtain ⟨x,h1,h2⟩:=ih u hu; exact ⟨x,FL _ h1,h2⟩
open Classical in
noncomputable def uN {β:Type} (S:α->Value->Prop) (lt:α->α->Bool) (L:List α) (p:Value×β):Int:=if h:∃ x,x∈L/\S x p.1 then rank lt L h.choose else 0
theorem gC (inj:∀ x y u,S x u->S y u->x=y) (hx:x∈L) (h:S x p.1):uN S lt L p=rank lt L x:=by
 have e:∃ x,x∈L/\S x p.1:=⟨x,hx,h⟩
 unfold uN
 rw [dif_pos e,inj _ _ _ e.choose_spec.2 h]
theorem uO (inj:∀ x y u,S x u->S y u->x=y) (h:BR lt L) (nd:L.Nodup) (hL:Paired S L us) (hp:out.Perm us) (ho:Ord (uN S lt L) b out) :
 ∃ L',L'.Perm L/\L'.Pairwise (λx y=>if b then lt y x=true else lt x y=true)/\Paired S L' out:=by
 obtain ⟨L',h1,h2⟩:=lP hp hL
 refine ⟨L',h1,?_,h2⟩
 have hm:∀ x∈L',x∈L:=λx hx=>h1.mem_iff.mp hx
 have nd':L'.Nodup:=h1.nodup_iff.mpr nd
 clear h1 hp hL nd
 unfold Ord at ho
 induction h2 with
 | nil=>exact .nil
 | @cons x u xs us r t ih =>
  obtain ⟨q1,q2⟩:=Iq.mp ho
  obtain ⟨n1,n2⟩:=Ie.mp nd'
  refine .cons (λy hy=>?_) (ih q2 (λz hz=>hm z (FL _ hz)) n2)
  have hx:=hm x FF
  have hyL:=hm y (FL _ hy)
  obtain ⟨v,hv,sv⟩:∃ v∈us,S y v:=by
   clear ih ho q1 q2 n1 n2 hm nd'
   induction t with
   | nil=>cases hy
   | cons r t ih2 =>
    rcases FO.mp hy with rfl | hy
    ·exact ⟨_,FF,r⟩
    ·obtain ⟨v,h1,h2⟩:=ih2 hy; exact ⟨v,FL _ h1,h2⟩
  have q:=q1 v hv
  rw [gC inj hx (p:=(u,u)) r,gC inj hyL (p:=(v,v)) sv] at q
  have ne:x≠y:=λz=>n1 (z ▸ hy)
  cases b with
  | true =>
   simp only [if_true] at q |-
   rcases h.tot x hx y hyL ne with w | w
   ·have:=gB h hx hyL w; lia
   ·exact w
  | false =>
   simp only [Ga,if_false] at q |-
   rcases h.tot x hx y hyL ne with w | w
   ·exact w
   ·have:=gB h hyL hx w; lia
end
theorem A4 (inj:∀ x y u,S x u->S y u->x=y) (h:BR lt L) (hL:Paired S L us)
 (hk:∀ x∈L,∀ y∈L,∀ u v,S x u->S y v->∀ (E:Value->Shared->Prop) (Q:Bool->Shared->Prop),Q (lt x y) s->wpAny (model prog w) A (keyLt' κ u v) Q E s):eV prog w A s κ (uN S lt L) (dup us):=by
 intro p hp q hq E Q hQ
 simp only [dup,GF] at hp hq
 obtain ⟨u,hu,rfl⟩:=hp
 obtain ⟨v,hv,rfl⟩:=hq
 obtain ⟨x,hx,sx⟩:=iG hL u hu
 obtain ⟨y,hy,sy⟩:=iG hL v hv
 refine hk x hx y hy u v sx sy E Q ?_
 rw [gC inj hx (p:=(u,u)) sx,gC inj hy (p:=(v,v)) sy,xQ h hx hy] at hQ
 exact hQ
end SR
namespace EV
open PySem PySem.Spec PySem.Calls PyProof.Rows L2
theorem qM (b) (x y):keyLt' (tuples' b) x y=(do
 let xs <- JQ x
 let ys <- JQ y
 for ((p,q),i) in (xs.toList.zip ys.toList).zipIdx do
  if !(<- eqBool p q) then return <- oneLt' (b && i == 0) p q
 return decide (xs.size<ys.size)):=rfl
theorem pA:∀ l:List Int,HT.lexLt l l=false
 | []=>rfl
 | x::l=>by rw [HT.cu,if_pos rfl]; exact pA l
theorem uP:∀ {a b c:List Int},HT.lexLt a b=true->HT.lexLt b c=true->HT.lexLt a c=true
 | [],[],_,h,_=>by cases h
 | [],_::_,[],_,h=>by cases h
 | [],_::_,_::_,_,_=>rfl
 | _::_,[],_,h,_=>by cases h
 | _::_,_::_,[],_,h=>by cases h
 | x::a,y::b,z::c,h,g=>by
  rw [HT.cu] at h g |-
  by_cases e:x=y
  ·subst e
   rw [if_pos rfl] at h
   by_cases f:x=z
   ·subst f; rw [if_pos rfl] at g |-; exact uP h g
   ·rw [if_neg f] at g |-; exact g
  ·rw [if_neg e] at h
   have h:=of_decide_eq_true h
   by_cases f:y=z
   ·subst f; rw [if_neg e]; exact decide_eq_true h
   ·rw [if_neg f] at g
    have g:=of_decide_eq_true g
    rw [if_neg (by lia)]; exact decide_eq_true (by lia)
theorem pB:∀ {a b:List Int},a≠b->HT.lexLt a b=true\/HT.lexLt b a=true
 | [],[],h=>absurd rfl h
 | [],_::_,_=>.inl rfl
 | _::_,[],_=>.inr rfl
 | x::a,y::b,h=>by
  rw [HT.cu,HT.cu]
  by_cases e:x=y
  ·subst e
   rw [if_pos rfl,if_pos rfl]
   exact pB λz=>h (by rw [z])
  ·rw [if_neg e,if_neg (FI e)]
   rcases Int.lt_or_gt_of_ne e with z | z
   ·exact .inl (decide_eq_true z)
   ·exact .inr (decide_eq_true z)
noncomputable abbrev bz:=List Int×Int
noncomputable def b9 (x y:bz):Bool:=if x.1=y.1 then decide (x.2<y.2) else HT.lexLt x.1 y.1
theorem gD (L:List bz):SR.BR b9 L where
 irr:=λx _=>by unfold b9; rw [if_pos rfl]; exact decide_eq_false (Int.lt_irrefl _)
 tr:=λx _ y _ z _ h g=>by
  unfold b9 at *
  by_cases e:x.1=y.1
  ·rw [if_pos e] at h
   by_cases f:y.1=z.1
   ·rw [if_pos f] at g; rw [if_pos (e.trans f)]
    exact decide_eq_true (Int.lt_trans (of_decide_eq_true h) (of_decide_eq_true g))
   ·rw [if_neg f] at g; rw [if_neg (λw=>f (e.symm.trans w)),e]; exact g
  ·rw [if_neg e] at h
   by_cases f:y.1=z.1
   ·rw [if_neg (λw=>e (w.trans f.symm)),<- f]; exact h
   ·rw [if_neg f] at g
    have q:=uP h g
    rw [if_neg λw=>by rw [w,pA] at q; cases q]; exact q
 tot:=λx _ y _ h=>by
  unfold b9
  by_cases e:x.1=y.1
  ·rw [if_pos e,if_pos e.symm]
   have:x.2≠y.2:=λz=>h (Prod.ext e z)
   rcases Int.lt_or_gt_of_ne this with z | z
   ·exact .inl (decide_eq_true z)
   ·exact .inr (decide_eq_true z)
  ·rw [if_neg e,if_neg (FI e)]
   exact pB e
noncomputable abbrev aB (t:bz):D:=.tup [.tup (t.1.map .int),.int t.2]
section
variable {X:Cx}
def mz (K:Fi) (Hf:Hp) (d:D) (u:Value):Prop:=∃ v,RelV v u/\Rep K Hf d v
theorem lQ (l m:List Int):gm 1 (.tup (l.map .int)) (.tup (m.map .int)):=.tup λi d e h1 h2=>by
 simp only [FN,F5] at h1 h2
 obtain ⟨x,_,rfl⟩:=h1
 obtain ⟨y,_,rfl⟩:=h2
 exact .sc rfl
theorem xR (x y):gm 2 (aB x) (aB y):=.tup λi d e h1 h2=>by
 rcases i with _ | _ | i
 ·simp at h1 h2; subst h1 h2; exact lQ _ _
 ·simp at h1 h2; subst h1 h2; exact .sc rfl
 ·simp at h1
theorem uQ (h:aB x=aB y):x=y:=by
 simp only [D.tup.injEq,List.cons.injEq,D.int.injEq,and_true] at h
 have e:x.1=y.1:=by
  exact (List.map_inj_right (f:=D.int) (λa b e=>by injection e)).mp h.1
 exact Prod.ext e h.2
theorem ff:∀ {l:List Int} {ys:List V},aj X.K Hf (l.map D.int) ys->ys=l.map V.int
 | [],ys,h=>au.mp h
 | n::l,ys,h=>by
  obtain ⟨y,r,rfl,z1,z2⟩:=av.mp h
  rw [az] at z1; subst z1
  rw [ff z2]; rfl
theorem xS (I:Inv X aa O H s) (sb:aD Hf H) (h1:mz X.K Hf (aB x) u) (h2:mz X.K Hf (aB y) u):x=y:=by
 obtain ⟨v,r1,q1⟩:=h1
 obtain ⟨v',r2,q2⟩:=h2
 have:=r1.inj r2
 subst this
 exact uQ (jT I sb 2 _ _ _ (xR x y) q1 q2)
theorem kc (I:Inv X aa O H s) (sb:aD Hf H) (h:mz X.K Hf (aB x) u):∃ a b its t,u=.ref a/\IsTup s.heap a #[.ref b,.int x.2 t]/\IsTup s.heap b its/\IntsAre its.toList x.1/\mz X.K Hf (.tup (x.1.map .int)) (.ref b):=by
 obtain ⟨v,rv,q⟩:=h
 obtain ⟨a,xs,rfl,h1,h2⟩:=ay.mp q
 cases rv
 obtain ⟨p,r,rfl,q1,q2⟩:=av.mp h2
 obtain ⟨p2,r2,rfl,q3,q4⟩:=av.mp q2
 rw [au] at q4; subst q4
 rw [az] at q3; subst q3
 obtain ⟨its,rel,tu,_⟩:=I.tuple (ak sb h1)
 cases rel with
 | cons r1 t1=>cases t1 with
  | cons r2 t2 =>
   cases t2
   obtain ⟨t,rfl⟩:=r2
   obtain ⟨b,ys,rfl,h3,h4⟩:=ay.mp q1
   cases r1
   obtain ⟨its2,rel2,tu2,_⟩:=I.tuple (ak sb h3)
   refine ⟨a,b,its2.toArray,t,rfl,tu,tu2,?_,.ref b,rfl,ay.mpr ⟨b,ys,rfl,h3,h4⟩⟩
   have e:=ff h4
   subst e
   exact intsAre_of rel2
theorem dS:∀ (l:List α) (r:List β) {Q:List β->Shared->Prop},Paired (λa b=>∀ (Q:β->Shared->Prop),Q b s->wpAny M A (f a) Q E s) l r->Q r s->wpAny M A (l.mapM f) Q E s
 | _,_,Q,.nil,h=>by rw [List.mapM_nil]; exact Fl h
 | _,_,Q,.cons q t,h=>by
  rw [List.mapM_cons]
  exact Ff (q _ (Ff (dS _ _ t (Fl h))))
theorem uR (I:Inv X aa O H s) (sb:aD Hf H) (h:Paired (λx u=>mz X.K Hf (aB x) u) L us) (h2:2<=us.length) (hQ:Q (tuples' false) s):wpAny (model X.prog X.w) A (keyKind' us.toArray) Q E s:=by
 have key:∃ fs:List Value,fs.length=us.length/\(∀ f∈fs,s.TypeIs f "tuple")/\Paired (λu o=>∀ (Q:Option Value->Shared->Prop),Q o s->wpAny (model X.prog X.w) A (firstOfTuple' u) Q E s) us (fs.map some):=by
  clear h2 hQ
  induction h with
  | nil=>exact ⟨[],rfl,by simp,.nil⟩
  | @cons x u L us r t ih =>
   obtain ⟨fs,e1,e2,e3⟩:=ih
   obtain ⟨a,b,its,tk,rfl,t1,t2,_⟩:=kc I sb r
   refine ⟨.ref b::fs,by simp [e1],λf hf=>?_,.cons (λQ hQ=>?_) e3⟩
   ·rcases FO.mp hf with rfl | hf
    ·obtain ⟨o,ho,hc,_⟩:=t2; exact ⟨o,ho,hc⟩
    ·exact e2 f hf
   ·obtain ⟨o,ho,hc,n,hd⟩:=t1
    show wpAny _ _ (do
     if (<- typeOf (.ref a)) != .type "tuple" then return none
     return (<- JQ (.ref a))[0]?) _ _ _
    refine Ff (Jv (T:="tuple") ⟨o,ho,hc⟩ ?_)
    rw [if_neg (by simp)]
    exact Ff (Jw ho hd (Fl hQ))
 obtain ⟨fs,e1,e2,e3⟩:=key
 rw [keyKind'_eq,List.mapM_toArray]
 simp only [bind_map_left]
 refine Ff (dS _ _ e3 ?_)
 rw [if_pos (by simp)]
 refine Ff (GG ?_)
 have e4:(List.map some fs).toArray.filterMap id=fs.toArray:=by simp
 rw [e4,oneTypeOnly'_eq,List.mapM_toArray]
 simp only [bind_map_left]
 have e5:Paired (λu o=>∀ (Q:Value->Shared->Prop),Q o s->wpAny (model X.prog X.w) A (typeOf u) Q E s) fs (fs.map λ_=>Hi "tuple"):=by
  clear e1 e3 e4
  induction fs with
  | nil=>exact .nil
  | cons f fs ih=>exact .cons (λQ hQ=>Jv (e2 f FF) hQ) (ih λg hg=>e2 g (FL _ hg))
 refine Ff (Ff (dS _ _ e5 ?_))
 obtain ⟨f,fs',rfl⟩:∃ f fs',fs=f::fs':=by
  match fs,e1 with
  | [],e1=>simp at e1; lia
  | f::fs',_=>exact ⟨f,fs',rfl⟩
 have h0:(List.map (λ_=>Hi "tuple") (f::fs')).toArray[0]?=some (Hi "tuple"):=by simp
 rw [h0]
 dsimp only
 rw [if_pos (by simp)]
 refine Fl (Fl ?_)
 have e6:(some (Hi "tuple")).any (λx=>x != Hi "tuple")=false:=by simp
 rw [e6]
 exact hQ
theorem A5 (I:Inv X aa O H s) (sb:aD Hf H) (hA:A.units+10<cLine) (hx:mz X.K Hf (aB x) u) (hy:mz X.K Hf (aB y) v) (hQ:Q (b9 x y) s):wpAny (model X.prog X.w) A (keyLt' (tuples' false) u v) Q E s:=by
 obtain ⟨a,b,its,t,rfl,⟨o,ho,hc,n,hd⟩,t2,i2,z1⟩:=kc I sb hx
 obtain ⟨a',b',its',t',rfl,⟨o',ho',hc',n',hd'⟩,t2',i2',z2⟩:=kc I sb hy
 rw [qM]
 refine Ff (Jw ho hd (Ff (Jw ho' hd' ?_)))
 obtain ⟨w1,r1,q1⟩:=z1
 obtain ⟨w2,r2,q2⟩:=z2
 have e1:FE A s (.ref b) (.ref b') (decide (D.tup (x.1.map .int)=D.tup (y.1.map .int))):=jl I sb 1 _ _ _ _ _ _ A (lQ x.1 y.1) q1 q2 r1 r2 (by lia)
 have e2:decide (D.tup (x.1.map D.int)=D.tup (y.1.map D.int))=decide (x.1=y.1):=by
  by_cases z:x.1=y.1
  ·rw [z]; simp
  ·have:¬ D.tup (x.1.map D.int)=D.tup (y.1.map D.int):=λw=>by
    injection w with w
    exact z ((List.map_inj_right (f:=D.int) (λa b e=>by injection e)).mp w)
   rw [decide_eq_false this,decide_eq_false z]
 rw [e2] at e1
 have ez:((#[FH b,Hl x.2 t]:Array Value).toList.zip (#[FH b',Hl y.2 t']:Array Value).toList).zipIdx=[((FH b,FH b'),0),((Hl x.2 t,Hl y.2 t'),1)]:=rfl
 rw [ez]
 have lti:∀ (bb:Bool) (m n:Int) (t u:Tok) (Q:Bool->Shared->Prop),Q (decide (m<n)) s->wpAny (model X.prog X.w) A (oneLt' (false && bb) (.int m t) (.int n u)) Q E s:=λbb m n t u Q h=>by
  rw [Bool.false_and,oneLt'_eq,if_neg Fv]
  exact Ff (lt_int (Fl h))
 simp only [ID,List.forIn_nil]
 refine Ff (Ff (Ff (e1 _ _ _ _ ?_)))
 unfold b9 at hQ
 by_cases z:x.1=y.1
 ·rw [if_pos z] at hQ
  rw [decide_eq_true z]
  simp only [HC,Ga,if_false]
  refine Fl ?_
  dsimp only
  refine Ff (Ff ?_)
  refine wpAny_eqBool_int ?_
  by_cases w:x.2=y.2
  ·rw [show (x.2 == y.2)=true by simpa using w]
   simp only [HC,Ga,if_false]
   refine Fl (Fl ?_)
   dsimp only
   refine Fl ?_
   rw [w] at hQ
   simpa using hQ
  ·rw [show (x.2 == y.2)=false by simpa using w]
   simp only [Bool.not_false,if_true]
   refine Ff (lti _ _ _ _ _ _ (Fl ?_))
   dsimp only
   exact Fl (Fl hQ)
 ·rw [if_neg z] at hQ
  rw [decide_eq_false z]
  simp only [Bool.not_false,if_true]
  refine Ff ?_
  rw [Bool.false_and,oneLt'_eq,if_neg Fv]
  refine Ff (HT.mP (s:=s) t2 t2' i2 i2' (by lia) ?_)
  refine Fl (Fl ?_)
  dsimp only
  exact Fl (Fl hQ)
end
section
variable {X:Cx} {aa:List (Addr×Obj)} {O:L2.St} {H Hf:Hp} {s:Shared} {E:Value->Shared->Prop} {α:Type} {enc:α->D} {lt:α->α->Bool} {κ:SortKind}
theorem lR {K:Fi}:∀ {L:List α} {xs:List V} {us:List Value},aj K Hf (L.map enc) xs->Vals xs us->Paired (λx u=>mz K Hf (enc x) u) L us
 | [],xs,us,h,v=>by rw [HD,au] at h; subst h; cases v; exact .nil
 | t::L,xs,us,h,v=>by
  rw [FD] at h
  obtain ⟨x,r,rfl,h1,h2⟩:=av.mp h
  cases v with
  | cons r1 r2=>exact .cons ⟨x,r1,h1⟩ (lR h2 r2)
theorem lS {K:Fi}:∀ {L:List α} {us:List Value},Paired (λx u=>mz K Hf (enc x) u) L us->∃ xs,aj K Hf (L.map enc) xs/\Vals xs us
 | _,_,.nil=>⟨[],au.mpr rfl,.nil⟩
 | _,_,.cons ⟨x,r1,h1⟩ t=>by
  obtain ⟨xs,h2,h3⟩:=lS t
  exact ⟨x::xs,.cons h1 h2,.cons r1 h3⟩
structure Dm (X:Cx) (enc:α->D) (lt:α->α->Bool) (κ:SortKind):Prop where
 lin:∀ L:List α,SR.BR lt L
 inj:∀ (aa:List (Addr×Obj)) (O:L2.St) (H Hf:Hp) (s:Shared),Inv X aa O H s->aD Hf H->∀ x y u,mz X.K Hf (enc x) u->mz X.K Hf (enc y) u->x=y
 kind:∀ (aa:List (Addr×Obj)) (O:L2.St) (H Hf:Hp) (s:Shared) (A:Around) (E:Value->Shared->Prop),Inv X aa O H s->aD Hf H->∀ (L:List α) (us:List Value),Paired (λx u=>mz X.K Hf (enc x) u) L us->2<=us.length->∀ Q:SortKind->Shared->Prop,Q κ s->wpAny (model X.prog X.w) A (keyKind' us.toArray) Q E s
 cmp:∀ (aa:List (Addr×Obj)) (O:L2.St) (H Hf:Hp) (s:Shared) (A:Around) (E:Value->Shared->Prop),Inv X aa O H s->aD Hf H->A.units+10<cLine->∀ (x y:α) (u v:Value),mz X.K Hf (enc x) u->mz X.K Hf (enc y) v->∀ Q:Bool->Shared->Prop,Q (lt x y) s->wpAny (model X.prog X.w) A (keyLt' κ u v) Q E s
theorem xT:Dm X aB b9 (tuples' false) :=
 ⟨gD,λ_ _ _ _ _ I sb _ _ _ h1 h2=>xS I sb h1 h2,λ_ _ _ _ _ _ _ I sb _ _ p h2 _ hQ=>uR I sb p h2 hQ,λ_ _ _ _ _ _ _ I sb hA _ _ _ _ hx hy _ hQ=>A5 I sb hA hx hy hQ⟩
def qN (lt:α->α->Bool) (b:Bool) (L:List α):Prop:=L.Pairwise λx y=>if b then lt y x=true else lt x y=true
abbrev fQ (b:Bool) (L:List bz):Prop:=qN b9 b L
theorem uS {Q:Value->Shared->Prop} (hs:Dm X enc lt κ) (I:Inv X aa O H s) (sb:aD Hf H) (hA:A.units+20<cLine) (hr:aj X.K Hf (L.map enc) xs) (hv:Vals xs us) (hz:us.length<=sizeLine) (nd:L.Nodup)
 (hQ:∀ (L':List α) (xs':List V) (s':Shared),L'.Perm L->qN lt b L'->aj X.K Hf (L'.map enc) xs'->xs'.length<=sizeLine->Inv X aa O (upd H s.heap.objs.size (.lst xs')) s'->Q (.ref s.heap.objs.size) s') :
 wpAny (model X.prog X.w) A (newList us >>= λl=>(holding [l] (call (.builtin "list.sort") [l] [(Fg "reverse",.bool b)]) >>= λ_=>ret l)) (λfin s'=>∃ v,fin=.done (.ret v)/\Q v s') E s:=by
 refine Ff (wpAny_newList ?_ hz)
 have ha:(s.heap.push (seqObj "list" us.toArray 0)).get? s.heap.objs.size=some (seqObj "list" us.toArray 0):=FT _ rfl
 have I1:Inv X aa O H { s with heap:=s.heap.push (seqObj "list" us.toArray 0),toks:=s.toks }:=I.kept λb o e=>Fz _ e
 have Ha:H s.heap.objs.size=none:=I.hok.fresh (Fq _)
 obtain ⟨f0,f1,f2,f3,f4,f5⟩:=I.p8 (H':=H) (Fq _) Ha
 have pL:=lR hr hv
 refine Ff (GK (wpAny_call_entry_kw slot_list_sort ⟨_,ha,rfl⟩ entry_list_sort (SR.qL (κ:=κ) (rk:=SR.uN (λx u=>mz X.K Hf (enc x) u) lt L) (b:=b) ha ?_ hz λout hp ho=>⟨_,rfl,?_⟩) (args_list_sort_rev _ _)))
 ·intro h' k
  have I2:=I1.turned (h':=h') (t':=s.toks) (it:=s.heap.objs.size) (λb o hb e=>k b o hb e) f0 f1 f3 f4 f5
  refine ⟨λQ E h2 hQ=>hs.kind _ _ _ _ _ _ _ I2 sb _ _ pL h2 _ hQ,SR.A4 (λx y u h1 h2=>hs.inj _ _ _ _ _ I2 sb x y u h1 h2) (hs.lin L) pL λx _ y _ u v hx hy E Q hQ=>hs.cmp _ _ _ _ _ _ _ I2 sb ?_ _ _ _ _ hx hy _ hQ⟩
  show A.units+1+10<cLine
  lia
 ·obtain ⟨L',p1,p2,p3⟩:=SR.uO (S:=λx u=>mz X.K Hf (enc x) u) (λx y u h1 h2=>hs.inj _ _ _ _ _ I sb x y u h1 h2) (hs.lin L) nd pL hp ho
  obtain ⟨xs',r',v'⟩:=lS p3
  obtain ⟨e,he⟩:=sortedHeap_at (vs:=us) (out:=out) ha
  have hl:out.toList.length=us.length:=hp.length_eq
  refine Fl ⟨_,rfl,hQ L' xs' _ p1 p2 r' ?_ ?_⟩
  ·have:=v'.length; lia
  ·refine I.laid (t':=s.toks) (λb o q=>?_) (Fq _) ⟨by have:=v'.length; lia,out.toList,e,v',by simpa using he⟩
   have lt:=Fw q
   rw [sortedHeap_old (F0 lt) (by rw [size_push']; exact Nat.lt_succ_of_lt lt)]
   exact Fz _ q
end
section
variable {K:Fi}
end
theorem kg (hc:X.calm=true) (I:Inv X aa O H s) (sb:aD Hf H) (hA:X.A.units+60<cLine) (hl:dJ X.K Hf l ys) (hr:aj X.K Hf (L.map aB) ys) (nd:L.Nodup)
 (hQ:∀ (L':List bz) (xs':List V) (s':Shared) (a:Addr),L'.Perm L->fQ b L'->aj X.K Hf (L'.map aB) xs'->H a=none->Inv X aa O (upd H a (.lst xs')) s'->Q (.ref a) s') :
 wpAny (model X.prog X.w) X.A (call (.builtin "sorted") [.ref l] [(Fg "reverse",.bool b)]) Q E s:=by
 refine call_function_entry_kw kind_sorted plain_sorted entry_sorted (args_sorted_rev _ _) ?_
 unfold Builtin.«sorted»
 refine Ff (m:=checkCount "sorted" 1 1 _) (Fl ?_)
 obtain ⟨its,rv,p,hz⟩:=I.list (sb.seq hl)
 have el:=rv.length
 refine Ff (collect_list p.isList ?_ (by lia))
 have I2:Inv X aa O H { s with heap:=(s.heap.push (seqObj "list" #[] 0)).update s.heap.objs.size (GH (· ++its.toArray)),toks:=s.toks }:=I.kept λc o e=>by
  rw [Heap.get?_update_ne _ _ _ _ (F0 (Fw e))]
  exact Fz _ e
 refine uS (b:=b) xT I2 sb ?_ hr rv (by lia) nd λL' xs' s2 p1 p2 p3 p4 I3=>hQ L' xs' s2 _ p1 p2 p3 (I2.hok.fresh (Fq _)) I3
 show X.A.units+1+20<cLine
 lia
section
variable {K:Fi} {c:Ctx P w K mg base k N sc bk}
theorem nv (hm:mg "sorted"=none) (h:aA c e ρ λd=>∃ L:List bz,d=.lst (L.map aB)/\Sd L.Nodup (∀ L':List bz,L'.Perm L->fQ true L'->R (.ow (L'.map aB))))
 (hg:sc.names.lookup (Fg "sorted")=some .globalImplicit:=by walk_at "u")
 (he:∀ env,starEach [e] env=(false,eval e env)::starEach [] env:=by intro _; walk_at "u")
 (hpl:∀ env,(backTo pos (starEach [e] env)).any (·.1)=false:=by intro _; walk_at "u") :
 cR c (.Call (.Name "sorted" np) [e] [⟨some "reverse",.Constant (.bool true) j kp1,kp⟩] pos) ρ R:=λO H Hf Q S q aa s I=>by
 have hgl:Gl c.X "sorted":=by unfold Gl Gm; rw [c.esc]; exact hg
 refine Ip (dI I hgl (by rw [c.emg]; exact hm) (show bootBuiltins "sorted"=some (.builtin "sorted") by decide +kernel) ?_ (by decide) (by decide))
 refine callWith_kw ?_ (by rw [he]; rfl) (hpl _)
 have hpa:=cT (X:=c.X) (e:=e) (es:=[]) cF fF (he _)
 refine aZ (hpa pos aa s O H (λvs H1=>∃ x,vs=[x]/\∃ (L:List bz) (aM:Hp),Rep c.X.K aM (.lst (L.map aB)) x/\L.Nodup/\bf H Hf H1 aM/\∀ L':List bz,L'.Perm L->fQ true L'->R (.ow (L'.map aB))) I ?_) λus s1 hh=>z2 hh λvs H1 hh=>w3 hh λI1 r1 hh=>hh.elim λx hh=>w2 hh λex hh=>z2 hh λL aM hh=>w4 hh λe1 e7 e8 e9=>?_
 ·exact h O H Hf _ S λd v H1 aM ⟨L,hp,⟨hn,hR⟩⟩ rv g=>⟨_,rfl,L,aM,by rw [<- hp]; exact rv,hn,g,hR⟩
 ·subst ex
  obtain ⟨a0,ys,rfl,hs,hr⟩:=aP.mp e1
  have eu:us=[.ref a0]:=by
   cases r1 with
   | cons q1 q2=>cases q2; cases q1; rfl
  subst eu
  refine kws_cons (aZ (yv (X:=c.X) (b:=true) (j:=j) (pos:=kp1) aa s1 O _ (λx H2=>x=.bl true/\H2=H1) I1 ⟨rfl,rfl⟩) λkv s2 ⟨x,H2,I2,rx,e10,e11⟩=>kws_nil ?_)
  subst e10 e11
  have ek:kv=.bool true:=rx
  subst ek
  refine kg (b:=true) c.calm I2 e8.b ?_ hs hr e7 λL' xs' s' a p1 p2 p3 na I3=>?_
  ·have:=c.room.un
   lia
  ·exact ⟨.ref a,_,I3,rfl,q (.ow (L'.map aB)) _ _ aM (e9 L' p1 p2) ⟨a,xs',rfl,e8.s.free na,ah,e8.b.free na,p3⟩ (e8.trans (bf.gS e8.b na))⟩
end
end EV
namespace EV
open PySem PySem.Spec PyProof.Rows L2
noncomputable def trim (l:List Int):List Int:=(l.reverse.dropWhile λx=>x == 0).reverse
theorem qO (l):trim (l++[0])=trim l:=by simp [trim]
theorem qP (l) (h:x≠0):trim (l++[x])=l++[x]:=by simp [trim,List.dropWhile_cons,h]
theorem fR {l:List Int} (h:m<l.length):l.take (m+1)=l.take m++[l.getD m 0]:=by
 rw [HH h]; simp [GS,h]
theorem qQ (h:m<l.length) (z:l.getD m 0=0) (e:trim (l.take (m+1))=trim l):trim (l.take m)=trim l:=by
 rw [fR h,z,qO] at e; exact e
theorem qR (h:m<l.length) (z:l.getD m 0≠0) (e:trim (l.take (m+1))=trim l):l.take (m+1)=trim l:=by
 rw [<- e,fR h,qP _ z]
theorem uT (l):(trim l).length<=l.length:=by
 unfold trim
 rw [List.length_reverse]
 exact Fy (List.dropWhile_sublist _).length_le (by simp)
section
variable {K:Fi} {c:Ctx P w K mg base k N sc bk}
theorem s_pop (hN:At N i x) (hi:At ρ i r) (hr:r.getL=some ds) (h:Sd (ds≠[]) (Nx ρ i nx (r.putL ds.dropLast)))
 (hs:∀ env,swapsWith (.Call (.Attribute (.Name x px) "pop" ap) [] [] cp) none pos.line env=pure false:=by intro _; walk_at "u") (hd:(x == ("__debug__":Str))=false:=by decide) (hcd:(x == ("__classdict__":Str))=false:=by decide)
 (hbase:∀ env,attributeBase (.Name x px) "pop" env (eval (.Name x px) env)=eval (.Name x px) env:=by intro _; walk_at "u")
 (hline:(ap.endLine == cp.line)=true:=by walk_at "u") :
 d7 c (.Expr (.Call (.Attribute (.Name x px) "pop" ap) [] [] cp) pos) ρ nx p:=λO H Hf D S o=>by
 obtain ⟨q,eq,rq⟩:=S.own hi.get (bM hr)
 obtain ⟨xs,h1,h2,h3⟩:=AG hr rq
 obtain ⟨hz,ρ',hs',hn⟩:=h
 have hl:=h3.length
 have hlen:0<xs.length:=by
  rw [<- hl]; exact List.length_pos_iff.mpr hz
 obtain ⟨y,hy⟩:∃ y,xs[xs.length - 1]?=some y:=⟨_,F7 (by omega)⟩
 refine cY (nO (zY PySem.F.plainAttrs_list PySem.F.slot_list_pop PySem.F.type_list_pop Aa (c.qv hN hd hcd) (hbase _) hline) (hs _)) ⟨_,eq,.inl ⟨rfl,xs,.inl (.inl h1)⟩,?_⟩
 refine ⟨q,xs,y,rfl,rfl,h1,hy,?_⟩
 refine o.nx _ _ Hf ρ' ?_ hn
 rw [hs'.eq]
 exact S.upd hi.get (bM hr) eq (eG S.sb h2) (ic hr rq ah h2 h3.dropLast) (dN hr)
end
noncomputable def encA (A:List bz):List (List Key×D):=A.map λt=>(t.1.map FY,.int t.2)
theorem kh:∀ {l m:List Int},(l.map (FY:Int->Key))=m.map FY->l=m
 | [],[],_=>rfl
 | x::l,y::m,h=>by
  simp only [FD,List.cons.injEq,FY.injEq] at h
  rw [h.1,kh h.2]
 | [],_::_,h=>by simp at h
 | _::_,[],h=>by simp at h
theorem pD (A) (l):aS (encA A) (l.map FY)=(aS A l).map D.int:=by
 induction A with
 | nil=>rfl
 | cons t A ih =>
  by_cases e:t.1=l
  ·rw [cL e]
   show aS ((t.1.map FY,D.int t.2)::encA A) _=_
   rw [cL (by rw [e])]; rfl
  ·rw [cM e,<- ih]
   show aS ((t.1.map FY,D.int t.2)::encA A) _=_
   rw [cM λz=>e (kh z)]
theorem xU (A) (l) (n):putD (encA A) (l.map FY) (.int n)=encA (putD A l n):=by
 unfold putD
 rw [pD]
 by_cases h:(aS A l).isSome=true
 ·rw [if_pos h,if_pos (by rw [Hu]; exact h)]
  unfold encA
  rw [GO,GO]
  refine Io λt _=>?_
  simp only [Function.comp]
  by_cases e:t.1=l
  ·rw [if_pos e,if_pos (by rw [e])]
  ·rw [if_neg e,if_neg λz=>e (kh z)]
 ·rw [if_neg h,if_neg (by rw [Hu]; exact h)]
  unfold encA
  simp
theorem fS:∀ l:List Int,D.keys (l.map D.int)=some (l.map FY)
 | []=>rfl
 | x::l=>by
  simp only [FD]
  unfold D.keys
  rw [fS l]; rfl
theorem xV (A:List bz) (l:List Int) (n:Int):(putD A l n).length<=A.length+1:=by
 unfold putD; split <;> simp
theorem xW (A):(encA A).length=A.length:=by simp [encA]
theorem uU (l:List Int) (n:Int) (h:(A.map (·.1)).Nodup):((putD A l n).map (·.1)).Nodup:=by
 unfold putD
 split
 ·rw [GO]
  have e:(A.map ((·.1)∘λkv:bz=>if kv.1=l then (kv.1,n) else kv))=A.map (·.1):=Io λt _=>by
   simp only [Function.comp]; split <;> rfl
  rw [e]; exact h
 ·rename_i q
  rw [G7,List.nodup_append]
  refine ⟨h,by simp,?_⟩
  intro a ha b hb
  simp at hb
  subst hb
  intro z
  subst z
  apply q
  obtain ⟨t,ht,e⟩:=GF.mp ha
  unfold aS
  rw [Hu,List.find?_isSome]
  exact ⟨t,ht,decide_eq_true e⟩
theorem keys_nodup {A:List bz} (h:(A.map (·.1)).Nodup):A.Nodup:=by
 unfold List.Nodup at *
 rw [List.pairwise_map] at h
 exact h.imp λq z=>q (by rw [z])
noncomputable def i8 (A:List bz) (t:bz):List bz:=putD A (trim t.1) ((aS A (trim t.1)).getD 0+t.2)
noncomputable def cB (ts:List bz):List bz:=ts.foldl i8 []
theorem uV (ts) (t):cB (ts++[t])=i8 (cB ts) t:=by simp [cB]
theorem ki (ts:List bz) (A):(ts.foldl i8 A).length<=A.length+ts.length:=by
 induction ts generalizing A with
 | nil=>simp
 | cons t ts ih =>
  have h1:=ih (i8 A t)
  have h2:=xV A (trim t.1) ((aS A (trim t.1)).getD 0+t.2)
  simp only [Jk,GB]
  unfold i8 at *
  lia
theorem kj (ts):(cB ts).length<=ts.length:=by
 have:=ki ts []
 simpa [cB] using this
theorem uW (ts):((cB ts).map (·.1)).Nodup:=by
 unfold cB
 have:∀ A:List bz,(A.map (·.1)).Nodup->((ts.foldl i8 A).map (·.1)).Nodup:=by
  induction ts with
  | nil=>exact λA h=>h
  | cons t ts ih=>exact λA h=>ih _ (uU _ _ h)
 exact this [] (by simp)
theorem xX (x):b9 x x=false:=(gD [x]).irr x (by simp)
theorem uX (h:b9 x y=true) (g:b9 y z=true):b9 x z=true:=(gD [x,y,z]).tr x (by simp) y (by simp) z (by simp) h g
theorem lT:∀ {L M:List bz},L.Perm M->fQ true L->fQ true M->L=M
 | [],M,h,_,_=>by rw [List.nil_perm] at h; exact h.symm
 | x::L,[],h,_,_=>by simp at h
 | x::L,y::M,h,h1,h2=>by
  unfold fQ qN at h1 h2
  rw [Iq] at h1 h2
  by_cases e:x=y
  ·subst e
   rw [lT ((List.perm_cons _).mp h) h1.2 h2.2]
  ·exfalso
   have hx:x∈M:=by
    have:=h.subset (FF)
    rcases FO.mp this with z | z
    ·exact absurd z e
    ·exact z
   have hy:y∈L:=by
    have:=h.symm.subset (FF)
    rcases FO.mp this with z | z
    ·exact absurd z.symm e
    ·exact z
   have a:=h1.1 y hy
   have b:=h2.1 x hx
   simp only [if_true] at a b
   have:=uX a b
   rw [xX] at this; cases this
noncomputable def qS (t:bz):List bz->List bz
 | []=>[t]
 | x::r=>if b9 x t=true then t::x::r else x::qS t r
noncomputable def ny (L:List bz):List bz:=L.foldr qS []
theorem iH (t):∀ L:List bz,(qS t L).Perm (t::L)
 | []=>.refl _
 | x::r=>by
  unfold qS
  split
  ·exact .refl _
  ·exact ((iH t r).cons x).trans (.swap _ _ _)
theorem fh:∀ L:List bz,(ny L).Perm L
 | []=>.refl _
 | t::L=>(iH t (ny L)).trans ((fh L).cons t)
theorem xY (h:x≠y):b9 x y=true\/b9 y x=true:=(gD [x,y]).tot x (by simp) y (by simp) h
theorem pF (t):∀ L:List bz,t∉L->fQ true L->fQ true (qS t L)
 | [],_,_=>HQ _ _
 | x::r,hn,h=>by
  have h':=h
  unfold fQ qN at h'
  rw [Iq] at h'
  unfold qS
  by_cases e:b9 x t=true
  ·rw [if_pos e]
   unfold fQ qN
   rw [Iq]
   refine ⟨λy hy=>?_,h⟩
   simp only [if_true]
   rcases FO.mp hy with rfl | z
   ·exact e
   ·have:=h'.1 y z
    simp only [if_true] at this
    exact uX this e
  ·rw [if_neg e]
   unfold fQ qN
   rw [Iq]
   refine ⟨λy hy=>?_,pF t r (λz=>hn (FL _ z)) h'.2⟩
   rcases FO.mp ((iH t r).subset hy) with rfl | z
   ·simp only [if_true]
    rcases xY (x:=x) (y:=y) (λz=>hn (by rw [z]; exact FF)) with q | q
    ·exact absurd q e
    ·exact q
   ·exact h'.1 y z
theorem pG:∀ {L:List bz},L.Nodup->fQ true (ny L)
 | [],_=>Iv
 | t::L,h=>by
  rw [Ie] at h
  exact pF t _ (λz=>h.1 ((fh L).subset z)) (pG h.2)
theorem A6 (hn:L.Nodup) (hp:L'.Perm L) (hs:fQ true L'):L'=ny L:=lT (hp.trans (fh L).symm) hs (pG hn)
noncomputable def nz (L:List bz):List bz:=L.filter λt=>t.2 != 0
theorem encK (A):(Sl.oT (encA A)).j5=some (.fdT (A.map λt=>t.1.map FY) (A.map λt=>.int t.2)):=by
 show some _=some _
 unfold encA
 rw [GO,GO]; rfl
theorem qT (A:List bz):(D.fdT (A.map λt=>t.1.map FY) (A.map λt=>.int t.2)).pairs=some (A.map aB):=by
 show some _=some _
 congr 1
 rw [List.zipWith_map,List.zipWith_self]
 refine Io λt _=>?_
 unfold aB
 congr 3
 rw [GO]; rfl
theorem A7 (h:r.qx=some (encA A)) (l):AH r (.tup (l.map .int)) ((aS A l).map D.int):=by
 rw [<- pD]; exact .t h (fS l)
theorem A8 (hz:A.length<sizeLine):yP (.oT (encA A)) (.tup (l.map .int)) (.int n) (.oT (encA (putD A l n))):=by
 rw [<- xU]
 exact .t (r:=.oT (encA A)) rfl (fS l) (by rw [xW]; exact hz)
theorem uY (o:Option Int):(o.map D.int).getD (.int 0)=.int (o.getD 0):=by cases o <;> rfl
end EV
namespace EV
open PySem PySem.Spec PySem.Calls PyProof.Rows L2
theorem ko {L:List Addr} (I:Inv X aa O H s) (k:∀ b o,b∉L->s.heap.get? b=some o->h'.get? b=some o) (hf:∀ b∈L,d9 X aa H b):Inv X aa O H { s with heap:=h',toks:=t' }:=by
 have nit:∀ b u,H b=some u->b∉L:=λb u e z=>by rw [(hf b z).1] at e; cases e
 refine I.step (g':=s.gens) (d':=s.drawn) (ch:=L) (λb hb=>?_) (λb o _ _ hc e _=>k b o hc e) (λb o _ _ hc e _=>⟨o.slots,k b o hc e⟩) (λ_ _ _ _ n=>n)
  (λb o hc e=>⟨o,k b o hc e⟩) (λ_ _ e=>e) (λ_ _ _ e=>e) (λb ps e=>⟨#[],by rw [e]; simp⟩) (λm hm=>?_) (λb u e=>?_) I.bare
 ·obtain ⟨_,f1,_,f3,f4,f5⟩:=hf b hb
  exact ⟨f3,f1,f4,f5⟩
 ·obtain ⟨o,es,ep,ho,r⟩:=hm
  exact ⟨o,es,ep,k _ o (λz=>(hf _ z).2.1 rfl) ho,r⟩
 ·refine (I.hok b u e).stay (λc v hc q=>k c v ?_ q) (λ_ q=>q) λ_ _ q=>q
  rcases hc with z | z
  ·rw [z]; exact nit b u e
  ·exact nit c _ z
end EV
namespace EV
open PySem PySem.Spec PyProof.Rows L2
noncomputable def dG (ts:List bz):List bz:=ny (nz (cB ts))
theorem jA (ts):(dG ts).Perm (nz (cB ts)):=fh _
theorem lU (h:t∈dG ts):t∈cB ts/\t.2≠0:=by
 have:=(jA ts).subset h
 unfold nz at this
 rw [List.mem_filter] at this
 exact ⟨this.1,by simpa using this.2⟩
theorem uZ (ts):(dG ts).length<=ts.length:=by
 rw [(jA ts).length_eq]
 exact Fy (List.length_filter_le _ _) (kj ts)
end EV
namespace EV
open PySem PySem.Spec PySem.Calls PyProof.Rows L2
section
variable {K:Fi}
theorem Dn (h:aA c a ρ λx=>aA c b ρ λy=>I2 (λi j=>Sd (0<=j) (R (.int (i / 2 ^ j.toNat)))) x y):aA c (.BinOp a .RShift b pos) ρ R :=
 eE (jR zO jk (h.imp λx hx=>hx.imp λy ⟨i,j,e1,e2,⟨hc,r⟩⟩=>⟨i,j,e1,e2,hc,_,rfl,r⟩))
theorem A9 (h:aA c a ρ λx=>aA c b ρ λy=>I2 (λi j=>R (.int (Jp i j))) x y):aA c (.BinOp a .BitAnd b pos) ρ R :=
 eE (jR zP sI (h.imp λx hx=>hx.imp λy ⟨i,j,e1,e2,r⟩=>⟨i,j,e1,e2,_,rfl,r⟩))
end
theorem aj.many {K:Fi} (h:aj K H ds xs):∀ k:Nat,aj K H (FW k ds).flatten (FW k xs).flatten
 | 0=>au.mpr rfl
 | k+1=>by
  rw [G4,G4,Ic,Ic]
  exact h.append (aj.many h k)
theorem aj.set {K:Fi}:∀ {ds:List D} {xs:List V} (i:Nat) {d:D} {v:V},aj K H ds xs->Rep K H d v->aj K H (ds.set i d) (xs.set i v)
 | [],_,i,_,_,h,_=>by rw [au] at h; subst h; exact au.mpr rfl
 | e::ds,_,i,d,v,h,q=>by
  obtain ⟨x,r,rfl,h1,h2⟩:=av.mp h
  cases i with
  | zero=>exact .cons q h2
  | succ i=>exact .cons h1 (aj.set i h2 q)
theorem u0 {n k:Nat} {i:Int} (hi:i=k) (e:s.heap.get? l=some { cls:=.type "list",data:=.seq items n }) (hk:k<items.size) (hf:items.size<2 ^ 63)
 (hQ:Q () { s with heap:=s.heap.update l (GH λxs=>xs.setIfInBounds k v) }):wpAny (model prog w) A (setItem (.ref l) (.int i t) v) Q E s:=by
 have ht:s.TypeIs (.ref l) "list":=⟨_,e,rfl⟩
 have hx:items[k]?=some items[k]:=FJ hk
 unfold setItem
 refine GK (Ff (J3 ht (by decide) ?_))
 refine Ff (HP (name:=Fg "__setitem__") ht PySem.slot_list_setitem (G5 PySem.slot_list_setitem ht PySem.entry_list_setitem ?_ (PySem.args_list_setitem _ _ _)))
 show wpAny _ _ (Builtin.List.listSubscript? (.int i t) >>= _) _ _ s
 refine Ff (wpAny_listSubscript_int (fitsIndex_of (show 0<=i by lia) (show i<2 ^ 63 by lia)) ?_)
 clear hf
 subst hi
 show wpAny _ _ ((seqItemAt l k >>= λr=>pure (r.map λx=>(k,x))) >>= _) _ _ s
 refine Ff (Ff (wpAny_seqItemAt e rfl (Fl ?_)))
 rw [hx]
 show wpAny _ _ (setSeqItemAt l k v >>= _) _ _ s
 refine Ff (wpAny_setSeqItemAt e rfl ?_)
 first
  | exact Ff (Fl (Fl ⟨Gx,rfl,Fl hQ⟩))
  | exact Fl ⟨Gx,rfl,Fl hQ⟩
noncomputable def Dp:zA:=λo i v H Q=>∃ l xs k,o=.ref l/\i=.int (k:Nat)/\H l=some (.lst xs)/\k<xs.length/\Q (upd H l (.lst (xs.set k v)))
theorem u5:B8 X Dp:=by
 intro aa s O H o i v ov iv u Q I r1 r2 r3 h
 obtain ⟨l,xs,k,rfl,rfl,hH,hk,q⟩:=h
 cases r1
 obtain ⟨t,rfl⟩:=r2
 obtain ⟨z,its,n,r,hl,e⟩:=I.wj hH
 have hbig:xs.length<2 ^ 63:=GI z (by decide)
 refine u0 rfl e (by rw [FG,<- hl]; exact hk) (by rw [FG,<- hl]; exact hbig) ⟨_,I.zZ (its':=its.set k u) (t':=s.toks) hH e ?_ (Vals.set r3 k r) (by rw [List.length_set]; exact z),q⟩
 show its.toArray.setIfInBounds k u=(its.set k u).toArray
 simp
section
variable {K:Fi} {c:Ctx P w K mg base k N sc bk}
theorem yV {R:Sl->Prop} (h:cR c a ρ λr=>∃ ds,r=.ow ds/\aA c b ρ (I1 λn=>Sd ((0<=n/\n<2 ^ 63)/\ds.length * n.toNat<=sizeLine) (R (.ow (FW n.toNat ds).flatten)))):cR c (.BinOp a .Mult b pos) ρ R:=λO H Hf Q S q =>
 bw (yx Ab cF cF) (h O H Hf _ S λr v H1 aM ⟨ds,er,h1⟩ rr g1=>h1 O H1 aM _ (S.bY g1) λdn u H2 bN ⟨n,en,⟨⟨n0,n1⟩,hz⟩,hR⟩ rn g2=>by
  subst er en
  rw [az] at rn; subst rn
  obtain ⟨l,xs,rfl,fl,k1,k2,k3⟩:=rr
  have k1':=g2.s _ _ k1
  refine ⟨l,n,xs,rfl,rfl,k1',by lia,n1,by rw [<- k3.length]; exact hz,λp hp=>?_⟩
  have g3:=bf.gS (o:=.lst (FW n.toNat xs).flatten) g2.b hp
  exact q _ _ _ _ hR ⟨p,_,rfl,(g1.trans g2).s.free hp,ah,g2.b.free hp,(k3.mono g2.f).many _⟩ ((g1.trans g2).trans g3))
theorem Ba (hN:At N i x) (hi:At ρ i r) (hr:r.getL=some ds) (h:aA c e ρ λdv=>aA c b ρ λdk=>∃ m:Nat,dk=.int m/\Sd (m<ds.length) (Nx ρ i nx (r.putL (ds.set m dv))))
 (hs:∀ env,swapsWithSole [.Subscript (.Name x px) b tp] e pos.line env=pure false:=by intro _; walk_at "u") (hw:∀ env,swappedStores [.Subscript (.Name x px) b tp] e env=pure none:=by intro _; walk_at "u")
 (h1:∀ env,(assignEach [.Subscript (.Name x px) b tp] env).map (·.2)=[assign (.Subscript (.Name x px) b tp) env]:=by intro _; walk_at "u")
 (ha:∀ env v,assign (.Subscript (.Name x px) b tp) env v=(do
   let ov <- holding [v] (eval (.Name x px) env)
   let iv <- holding [v,ov] (eval b env)
   standAt tp
   holding [v,ov,iv] (setItem ov iv v)
   release [v,ov,iv] []):=by intro _ _; walk_at "u")
 (hd:(x == ("__debug__":Str))=false:=by decide) (hcd:(x == ("__classdict__":Str))=false:=by decide):d7 c (.Assign [.Subscript (.Name x px) b tp] e pos) ρ nx p:=λO H Hf D S o=>by
 obtain ⟨q,eq,rq⟩:=S.own hi.get (bM hr)
 refine cY (rM cF (zC (c.qv hN hd hcd) cF u5 (ha _)) (hs _) (hw _) (h1 _)) (h O H Hf _ S λdv v H1 aM h2 rv g1=>⟨_,eq,h2 O H1 aM _ (S.bY g1) λdk y H2 bN ⟨m,em,hm,ρ',hs',hn⟩ ry g2=>?_⟩)
 subst em
 rw [az] at ry; subst ry
 have g:=g1.trans g2
 obtain ⟨xs,k1,k2,k3⟩:=AG hr (rq.bY g)
 refine ⟨q,xs,m,rfl,rfl,k1,by rw [<- k3.length]; exact hm,o.nx _ _ bN ρ' ?_ hn⟩
 rw [hs'.eq]
 exact (S.bY g).upd hi.get (bM hr) eq (eG g.b k2) (ic hr (rq.bY g) ah k2 (k3.set m (Rep.mono g2.f _ rv))) (dN hr)
end
section
variable {prog:Program} {w:World} {A:Around} {E:Value->Shared->Prop} {s:Shared}
variable {jt tp:Addr} {i:Nat} {items:Array Value}
theorem nextT (hh:A.handled=none) (h1:s.heap.IsTupleIter jt tp i) (h2:s.heap.IsTuple tp items)
 (hv:∀ v,items[i]?=some v->∀ h',h'.IsTupleIter jt tp (i+1)->GU jt s.heap h'->Q v { s with heap:=h' })
 (hn:items[i]?=none->∀ h' e,Heap.ExtBut jt s.heap h'->(∃ o,h'.get? e=some o/\o.cls=.type "StopIteration")->E (.ref e) { s with heap:=h' }) :
 wpAny (model prog w) A (Builtin.SmallTypes.nextOf (.ref jt)) Q E s:=by
 obtain ⟨ob,hob,hcb,hdb⟩:=id h1
 obtain ⟨ot,hot,_,m,hdt⟩:=id h2
 unfold Builtin.SmallTypes.nextOf
 refine Ff (HP (name:=Fg "__next__") h1.typeIs F.slot_tuple_iterator_next (G5 F.slot_tuple_iterator_next h1.typeIs F.entry_tuple_iterator_next ?_ (F.args_tuple_iterator_next_1 _)))
 show wpAny _ _ (field (.ref jt) 0 >>= _) _ _ s
 refine Ff (GW hob hdb (x:=.ref tp) rfl ?_)
 show wpAny _ _ (if (FH tp == Gx)=true then _ else _) _ _ s
 rw [if_neg (show ¬ ((FH tp == Gx)=true) from Fv)]
 show wpAny _ _ (field (.ref jt) 1 >>= _) _ _ s
 refine Ff (GW hob hdb (x:=.int i 0) rfl ?_)
 show wpAny _ _ (seqItems? (.ref tp) >>= _) _ _ s
 refine Ff (wpAny_seqItems hot hdt ?_)
 rw [Gg]
 dsimp only
 cases hx:items[i]? with
 | some v =>
  have q:=hv v hx (s.heap.update jt (Obj.mapFields λvs=>vs.setIfInBounds 1 (rawInt ((i:Int)+1)))) ⟨_,Heap.get?_update_self _ hob (Obj.isFreed_of_fields (Obj.data_mapFields hdb _)),(Obj.cls_mapFields ..).trans hcb,by rw [Obj.data_mapFields hdb]; simp [rawInt]⟩ (JX ..)
  dsimp only
  exact Ff (wpAny_setField hob hdb (by simp) (Fl ⟨v,rfl,Fl q⟩))
 | none =>
  dsimp only
  refine Ff (GG (Ff (wpAny_setField hob hdb (by simp) (show wpAny _ _ (newExc (.type "StopIteration") [] >>= _) _ _ _ from Ff ?_))))
  simp only [newExc,newTuple]
  refine Ff (GA (Ff (m:=firstArgMember _ _) (wpAny_of_eq (a:=Gx) (by first | rfl | (simp only [firstArgMember]; rfl)) (GA ?_ (by size_fits)))) (by size_fits))
  simp only [raiseNew]
  refine Ff (wpAny_handled ?_)
  rw [show A.in1.handled=none from hh]
  exact Ff (Fl (wpAny_throw (hn hx _ _ (((JX ..).extBut.push _).push _) ⟨_,FT _ rfl,rfl⟩)))
theorem Bb (hh:A.handled=none) (jt tp:Addr) (hne:tp≠jt) (items:Array Value) :
 Draws prog w A jt [jt,tp] items.size (λi v=>items[i]?=some v) (λi h=>h.IsTupleIter jt tp i/\h.IsTuple tp items) where
 live:=λ_ _ ⟨⟨o,ho,_⟩,_⟩=>⟨o,ho⟩
 frame:=λ_ _ _ ⟨⟨o,e,r⟩,⟨o',e',r'⟩⟩ hk=>⟨⟨o,hk jt (by simp) o e,r⟩,o',hk tp (by simp) o' e',r'⟩
 item:=λi s Q E hi ⟨s1,s2⟩ q=>nextT hh s1 s2 (λv hv h' a b=>q v h' s.toks hv ⟨a,s2.extBut b.extBut hne⟩ b) λhx=>by
  rw [FJ hi] at hx; cases hx
 done:=λs Q E ⟨s1,s2⟩ q=>nextT hh s1 s2 (λv hv=>by simp at hv) λ_=>q
end
set_option maxHeartbeats 1000000 in
theorem lV (tp) (items) (n) (dc) (sl) :
 Meets (Builtin.«enumerate.__new__» ⟨[.type "enumerate",.ref tp],[]⟩) (λ_ R s=>s.heap.get? tp=some { cls:=.type "tuple",dict:=dc,data:=.seq items n,slots:=sl } /\
  R (.ok (.ret (.ref (s.heap.push { cls:=.type "tuple_iterator",data:=.fields #[.ref tp,.int 0 0] }).objs.size)))
   { s with heap:=(s.heap.push { cls:=.type "tuple_iterator",data:=.fields #[.ref tp,.int 0 0] }).push { cls:=.type "enumerate",data:=.fields #[.none,.bool false,.ref s.heap.objs.size,rawInt 0,.none,.none] } }) :=
 .of_wp λprog w A R ⟨hp,g,d,tk,os⟩ ⟨hl,h⟩=>by
  have hz:=sub_enumerate
  have hT:Heap.IsTuple (Shared.heap ⟨hp,g,d,tk,os⟩) tp items:=⟨_,hl,rfl,n,rfl⟩
  wp_walk using Ja hl
  refine wpAny_stack_any λst=>Fl ?_
  split
  ·rename_i k _ _ _ _ _
   cases (k == Hi "enumerate") <;> (wp_walk using Ja hl,JY hT; exact ⟨_,rfl,h⟩)
  ·wp_walk using Ja hl,JY hT; exact ⟨_,rfl,h⟩
theorem nA (hT:s.heap.IsTuple tp items)
 (h:∀ h',IsEnum h' (s.heap.objs.size+1) s.heap.objs.size 0 .none->h'.IsTupleIter s.heap.objs.size tp 0->(∀ b o,s.heap.get? b=some o->h'.get? b=some o)->Q (.ref (s.heap.objs.size+1)) { s with heap:=h' }) :
 wpAny (model prog w) A (call (.type "enumerate") [.ref tp]) Q E s:=by
 obtain ⟨⟨c,dc,dt,sl⟩,hl,hc,n,hd⟩:=hT
 obtain rfl:c=.type "tuple":=hc
 obtain rfl:dt=.seq items n:=hd
 refine callType_new F.called_enumerate (by decide) (F.typeCall_enumerate_1 _) (F.newCall_enumerate_1 _) (λob=>F.args_object_init_2 ob _) F.entry_enumerate_new (lV tp items n dc sl) ⟨hl,?_⟩
 generalize e1:s.heap.push { cls:=.type "tuple_iterator",data:=.fields #[.ref tp,.int 0 0] }=g1
 have hz:g1.objs.size=s.heap.objs.size+1:=by rw [<- e1]; exact Jo ..
 have hi:g1.get? s.heap.objs.size=some { cls:=.type "tuple_iterator",data:=.fields #[.ref tp,.int 0 0] }:=by rw [<- e1]; exact FT _ rfl
 have hb:∀ b o,s.heap.get? b=some o->g1.get? b=some o:=λb o q=>by rw [<- e1]; exact Fz _ q
 have he:IsEnum (g1.push { cls:=.type "enumerate",data:=.fields #[.none,.bool false,.ref s.heap.objs.size,rawInt 0,.none,.none] }) g1.objs.size s.heap.objs.size 0 .none:=FT _ rfl
 rw [hz] at he
 show _/\_
 rw [hz]
 exact ⟨⟨_,he,rfl⟩,h _ he ⟨_,Fz _ hi,rfl,rfl⟩ λb o q=>Fz _ (hb b o q)⟩
noncomputable def iI (ds:List D):List D:=ds.zipIdx.map λx=>D.tup [.int x.2,x.1]
noncomputable def EI (K:Fi) (t:Addr):It :=
 ⟨λi H=>∃ xs x,bO K H t xs/\xs[i]?=some x,
  λi H v H'=>∃ p x,v=.ref p/\H p=none/\H'=upd H p (.tup [.int (i:Nat),x])/\∀ xs,bO K H t xs->xs[i]?=some x,
  λi H=>∃ xs,bO K H t xs/\xs.length<=i⟩
theorem xZ (I:Inv X aa O H s) (h1:bO X.K H a xs) (h2:bO X.K H a ys):xs=ys:=I.fD h1 h2
theorem u6 {prog:Program} {w:World} {A:Around} (hh:A.handled=none) (j t:Addr) (items:Array Value) (i:Nat) (hx:items[i]?=none) :
 Draws prog w A j [j,t] i (λ_ _=>False) (λk h=>k=i/\h.IsTupleIter j t i/\h.IsTuple t items) where
 live:=λ_ _ ⟨_,⟨o,ho,_⟩,_⟩=>⟨o,ho⟩
 frame:=λ_ _ _ ⟨ek,⟨o,e,r⟩,⟨o',e',r'⟩⟩ hk=>⟨ek,⟨o,hk j (by simp) o e,r⟩,o',hk t (by simp) o' e',r'⟩
 item:=λk s Q E hi ⟨ek,_⟩ _=>absurd ek (F0 hi)
 done:=λs Q E ⟨_,s1,s2⟩ q=>nextT hh s1 s2 (λv hv=>by rw [hx] at hv; cases hv) λ_=>q
theorem qU {P:Program} {w:World} {K:Fi} {elts:List Expr} {k:Nat} {pos:Pos} {e j t:Addr} (hne:e≠j) :
 Turn P w K (.Tuple elts k pos) (EI K t) [e,j] e (λi h=>(∃ old,IsEnum h e j i old)/\h.IsTupleIter j t i) where
 mem:=by simp
 obj:=λi h ⟨⟨old,he⟩,⟨o1,e1,_,d1⟩⟩ b hb=>by
  simp only [FO,Jh,or_false] at hb
  rcases hb with rfl | rfl
  ·exact ⟨_,he,λv q=>by have q':Data.fields _=Data.cell v:=q; cases q'⟩
  ·exact ⟨_,e1,λv q=>by rw [d1] at q; cases q⟩
 keep:=λi h h' ⟨⟨old,he⟩,⟨o1,e1,r1⟩⟩ hk=>⟨⟨old,hk e (by simp) _ he⟩,⟨o1,hk j (by simp) _ e1,r1⟩⟩
 item:=by
  intro X hP hw hK hc i aa s O H E I hf st hg
  subst hP hw hK
  obtain ⟨⟨old,he⟩,hj⟩:=st
  obtain ⟨xs,x,q1,hx⟩:=hg
  obtain ⟨its,rv,p1,z1⟩:=I.tuple q1
  obtain ⟨u,hu,ru⟩:=rv.get hx
  have pT:s.heap.IsTuple t its.toArray:=by obtain ⟨o,ho,hc',n,hd⟩:=p1; exact ⟨o,ho,hc',n,hd⟩
  have hjt:t≠j:=by
   obtain ⟨o,ho,hc',n,hd⟩:=pT
   obtain ⟨o',ho',hc'',_⟩:=hj
   rintro rfl
   rw [ho] at ho'; cases ho'
   rw [hc'] at hc''; exact absurd hc'' (by simp)
  have het:e≠t:=by
   obtain ⟨o,ho,hc',n,hd⟩:=pT
   rintro rfl
   rw [he] at ho; cases ho
   exact absurd hc' (by simp)
  have hi:i<its.toArray.size:=by
   have:i<its.length:=(FA.mp hu).1
   simpa using this
  have hh:X.A.in1.handled=none:=I.ok.hd hc
  refine wpAny_pyNext_enum_itemD (Bb hh j t hjt its.toArray) he ⟨hj,pT⟩ hi hne (by simp; exact ⟨hne,het⟩) λx' h' tk hPx a1 a2 a3 a4 hk=>?_
  have ex:x'=u:=by
   have:its[i]?=some x':=by simpa using hPx
   rw [hu] at this; cases this; rfl
  subst ex
  have Hp:H s.heap.objs.size=none:=I.hok.fresh (Fq _)
  have IA:Inv X aa O (upd H s.heap.objs.size (.tup [.int (i:Nat),x])) { s with heap:=s.heap.push { cls:=.type "tuple",data:=.seq #[.int (i:Nat) tk,x'] },toks:=tk+1 } :=
   I.laid (a:=s.heap.objs.size) (o:=.tup [.int (i:Nat),x]) (λ_ _ q=>Fz _ q) (Fq _) ⟨by show 2<=sizeLine; decide,[.int (i:Nat) tk,x'],.cons ⟨tk,rfl⟩ (.cons ru .nil),_,FT _ rfl,rfl,0,rfl⟩
  have lt:∀ b∈[e,j],b<s.heap.objs.size:=λb hb=>by
   obtain ⟨o1,e1,_⟩:=hj
   simp only [FO,Jh,or_false] at hb
   rcases hb with rfl | rfl
   ·exact Fw he
   ·exact Fw e1
  have gf:∀ b∈[e,j],d9 X aa (upd H s.heap.objs.size (.tup [.int (i:Nat),x])) b:=λb hb=>⟨by rw [af (F0 (lt b hb))]; exact (hf b hb).1,(hf b hb).2⟩
  have I1:Inv X aa O (upd H s.heap.objs.size (.tup [.int (i:Nat),x])) { s with heap:=h',toks:=tk+1 } :=
   ko (s:={ s with heap:=s.heap.push { cls:=.type "tuple",data:=.seq #[.int (i:Nat) tk,x'] },toks:=tk+1 }) (t':=tk+1) (h':=h') (L:=[e,j]) IA (λb o hb q=>by
    simp only [FO,Jh,or_false,not_or] at hb
    by_cases z:b=s.heap.objs.size
    ·subst z
     rw [FT _ rfl] at q; cases q; exact a3
    ·refine hk b o hb.1 hb.2 ?_
     rw [Heap.get?_push_ne _ _ _ z] at q; exact q) gf
  refine ⟨_,rfl,wpAny_letOwnedTupleGo_enum (s:={ s with heap:=h',toks:=tk+1 }) a1 λh2' hz' hs'=>?_⟩
  refine ⟨.ref s.heap.objs.size,_,ko (s:={ s with heap:=h',toks:=tk+1 }) (t':=tk+1) (h':=h2') (L:=[e,j]) I1 (λb o hb q=>hs'.extBut b o (λz=>hb (by simp [z])) q) gf,rfl,
   ⟨_,x,rfl,Hp,rfl,λxs' h=>by rw [xZ I h q1]; exact hx⟩,⟨⟨x',?_⟩,a2.1.extBut hs'.extBut (FI hne)⟩,λb hb=>(gf b hb).1⟩
  have hz2:=hz'
  rw [show ((i:Int)+1)=((i+1:Nat):Int) by lia] at hz2
  exact hz2
 done:=by
  intro X hP hw hK hc i aa s O H E I hf st hg
  subst hP hw hK
  obtain ⟨⟨old,he⟩,hj⟩:=st
  obtain ⟨xs,q1,hend⟩:=hg
  obtain ⟨its,rv,p1,z1⟩:=I.tuple q1
  have pT:s.heap.IsTuple t its.toArray:=by obtain ⟨o,ho,hc',n,hd⟩:=p1; exact ⟨o,ho,hc',n,hd⟩
  have hl:=rv.length
  have hx:its.toArray[i]?=none:=by simp; lia
  have hh:X.A.in1.handled=none:=I.ok.hd hc
  exact wpAny_pyNext_enum_endD (u6 hh j t its.toArray i hx) he ⟨rfl,hj,pT⟩ λh' hk=>⟨rfl,ko (t':=s.toks) (L:=[e,j]) I (λb o hb q=>hk b o (λz=>hb (by simp [z])) q) hf⟩
 self:=λA i s Q E ⟨⟨old,he⟩,_⟩ h=>wpAny_pyIter_enum he h
theorem qV {K:Fi} {Hf:Hp} {ds:List D} {xs:List V} {t:Addr} (h1:bO K Hf t xs) (r1:aj K Hf ds xs):mW K (EI K t) (iI ds) Hf where
 go:=λi d H aM s1 s2 e=>by
  unfold iI at e
  rw [FN,F5] at e
  obtain ⟨⟨x,m⟩,ex,rfl⟩:=e
  rw [List.getElem?_zipIdx,F5] at ex
  obtain ⟨x',ex,ee⟩:=ex
  cases ee
  obtain ⟨v1,f1,g1⟩:=r1.get ex
  have q1:=ak (s1.trans s2) h1
  refine ⟨⟨xs,v1,q1,f1⟩,λv H' ⟨p,y,e1,e2,e3,e4⟩=>?_⟩
  have z1:=e4 xs q1
  rw [f1] at z1; cases z1
  subst e1 e3
  have g:=bf.new s2 e2 (o:=.tup [.int (i:Nat),v1])
  rw [G3]
  exact ⟨upd aM p (.tup [.int (i:Nat),v1]),g,ay.mpr ⟨p,_,rfl,.inl (.inl ah),.cons (az.mpr rfl) (.cons (Rep.mono (s1.trans g.f) _ g1) (au.mpr rfl))⟩⟩
 stop:=λi H aM s1 s2 e=>⟨xs,ak (s1.trans s2) h1,by
  rw [<- r1.length]
  simpa [iI] using e⟩
theorem qW:bootBuiltins "enumerate"=some (.type "enumerate"):=by decide +kernel
noncomputable def Dq (K:Fi) (ta:TA):TI:=λO H R=>ta O H λvs H1=>∃ t xs,vs=[.ref t]/\bO K H1 t xs/\R (EI K t) H1
theorem x6 (hg:Gl X "enumerate") (hm:X.mg "enumerate"=none) (ha:PA X [a] ta) (hs:starEach [a] X.env=[(false,eval a X.env)]) :
 PI X (.Tuple elts kt tpos) (.Call (.Name "enumerate" p) [a] [] pos) (Dq X.K ta):=by
 intro aa s O H R I h
 refine Call_ (dI I hg hm qW (JE (aZ (ha pos aa s O H _ I h) λus s1 ⟨vs,H1,I1,r1,q1⟩=>?_) hs (by rfl)))
 obtain ⟨t,xs,e,q1,q⟩:=q1
 subst e
 obtain ⟨u,rfl,rx⟩:=vals1 r1
 cases rx
 obtain ⟨its,rv,p1,z1⟩:=I1.tuple q1
 have pT:s1.heap.IsTuple t its.toArray:=by obtain ⟨o,ho,hc',n,hd⟩:=p1; exact ⟨o,ho,hc',n,hd⟩
 refine nA pT λh' a1 a2 hk=>wpAny_pyIter_enum a1 ?_
 refine ⟨s1.heap.objs.size+1,[s1.heap.objs.size+1,s1.heap.objs.size],_,_,H1,rfl,I1.kept (t':=s1.toks) hk,qU (Nat.ne_of_gt (IB _)),⟨⟨.none,a1⟩,a2⟩,λb hb=>?_,q⟩
 have hb':s1.heap.objs.size<=b:=by
  simp only [FO,Jh,or_false] at hb
  rcases hb with rfl | rfl
  ·exact IC _ _
  ·exact Fq _
 exact I1.p8 hb' (I1.hok.fresh hb')
section
variable {K:Fi} {c:Ctx P w K mg base k N sc bk}
theorem Bc (hm:mg "enumerate"=none) (h:aA c a ρ λx=>∃ ds,x=.tup ds/\R (iI ds)) (hg:sc.names.lookup (Fg "enumerate")=some .globalImplicit:=by walk_at "u")
 (hs:∀ env,starEach [a] env=(false,eval a env)::starEach [] env:=by intro _; walk_at "u"):wX c (.Tuple elts kt tpos) (.Call (.Name "enumerate" p) [a] [] pos) ρ R:=λO H Hf Q S q aa s I =>
 x6 (by unfold Gl Gm; rw [c.esc]; exact hg) (by rw [c.emg]; exact hm) (cT cF fF (hs _)) (by rw [hs]; rfl) aa s O H Q I
  (h O H Hf _ S λx v1 H1 aM ⟨ds,e1,hR⟩ r1 g1=>by
    subst e1
    rw [ay] at r1
    obtain ⟨t,xs,rfl,s1,t1⟩:=r1
    exact ⟨t,xs,rfl,ak g1.b s1,q _ _ H1 aM hR g1 (qV s1 t1)⟩)
end
end EV
namespace EV
open PySem PySem.Spec PyProof.Rows L2
noncomputable abbrev dz (p:List Int) (i:Nat):Int:=p.getD i 0
theorem nC (z:j<p.length):dz p j=p[j]:=by unfold dz; rw [GS,F7 z]; rfl
theorem kq (z:p.length<=j):dz p j=0:=by unfold dz; rw [GS,Ij z]; rfl
theorem u7 (p):∃ m,p=trim p++FW m 0:=by
 suffices H:∀ r:List Int,∃ m,r=FW m 0++r.dropWhile λx=>x == 0 by
  obtain ⟨m,h⟩:=H p.reverse
  refine ⟨m,?_⟩
  have:=congrArg List.reverse h
  rw [List.reverse_reverse,JV,List.reverse_replicate] at this
  exact this
 intro r
 induction r with
 | nil=>exact ⟨0,rfl⟩
 | cons x r ih =>
  by_cases e:x=0
  ·subst e
   obtain ⟨m,h⟩:=ih
   refine ⟨m+1,?_⟩
   rw [G4,List.dropWhile_cons_of_pos (by simp),Ji,<- h]
  ·exact ⟨0,by rw [List.dropWhile_cons_of_neg (by simpa using e)]; rfl⟩
theorem u9 (h:x∈trim p):x∈p:=by
 obtain ⟨m,e⟩:=u7 p
 rw [e]; exact Je _ h
noncomputable def dU (B:List (Int×Int)):List (Key×D):=B.map λx=>(.inl x.1,.int x.2)
theorem iJ (B) (k):aS (dU B) (.inl k)=(aS B k).map D.int:=by
 induction B with
 | nil=>rfl
 | cons t B ih =>
  by_cases e:t.1=k
  ·rw [cL e]
   show aS ((FY t.1,D.int t.2)::dU B) _=_
   rw [cL (by rw [e])]; rfl
  ·rw [cM e,<- ih]
   show aS ((FY t.1,D.int t.2)::dU B) _=_
   rw [cM λz=>e (FY.inj z)]
theorem vc (B) (k n):putD (dU B) (.inl k) (.int n)=dU (putD B k n):=by
 unfold putD
 rw [iJ]
 by_cases h:(aS B k).isSome=true
 ·rw [if_pos h,if_pos (by rw [Hu]; exact h)]
  unfold dU
  rw [GO,GO]
  refine Io λt _=>?_
  simp only [Function.comp]
  by_cases e:t.1=k
  ·rw [if_pos e,if_pos (by rw [e])]
  ·rw [if_neg e,if_neg λz=>e (FY.inj z)]
 ·rw [if_neg h,if_neg (by rw [Hu]; exact h)]
  unfold dU
  simp
theorem two_pos (W):(0:Int)<2 ^ W:=Int.pow_pos (by decide)
theorem pH (W):((2:Int) ^ W)=((2 ^ W:Nat):Int):=by rw [Int.natCast_pow]; rfl
theorem qX (W) (h:0<=x):Jp x (1 * 2 ^ W - 1)=x % 2 ^ W:=by
 have hp:=two_pos W
 have e0:(1:Int) * 2 ^ W - 1=((2 ^ W - 1:Nat):Int):=by
  have:0<2 ^ W:=Nat.pow_pos (by decide)
  rw [Int.one_mul,pH]; lia
 rw [e0]
 show (match decide (0<=x),decide (0<=((2 ^ W - 1:Nat):Int)) with
  | true,true=>(((x.toNat &&& (((2 ^ W - 1:Nat):Int)).toNat:Nat)):Int)
  | true,false=>_ | false,true=>_ | false,false=>_)=_
 rw [decide_eq_true h,decide_eq_true (Int.natCast_nonneg _)]
 show ((x.toNat &&& (2 ^ W - 1):Nat):Int)=_
 rw [Nat.and_two_pow_sub_one_eq_mod,pH,Int.natCast_emod,Int.toNat_of_nonneg h]
end EV
namespace EV
open PySem PySem.Spec PySem.Calls PyProof.Rows L2
theorem vd {K:Fi}:∀ {kvs:List (Key×D)} {ys:List (Key×V)},ys.map (·.1)=kvs.map (·.1)->aj K H (kvs.map (·.2)) (ys.map (·.2))->jQ K H kvs ys
 | [],[],_,_=>.nil
 | [],y::ys,h,_=>by simp at h
 | x::kvs,[],h,_=>by simp at h
 | x::kvs,y::ys,h,r=>by
  rw [FD,FD] at h r
  obtain ⟨v,t,e,r1,r2⟩:=av.mp r
  injection e with e1 e2
  injection h with h1 h2
  subst e1 e2
  exact .cons ⟨h1.symm,r1⟩ (vd h2 r2)
section
variable {K:Fi}
theorem Bd (h:aA c a ρ λx=>aA c b ρ λy=>∃ (kvs:List (Key×D)) (kk:Key) (d:D),x=.fdK (kvs.map (·.1)) (kvs.map (·.2))/\y.qw=some kk/\aS kvs kk=some d/\R d) (hs:Ae b:=by with_unfolding_all exact λ_ _=>rfl):aA c (.Subscript a b pos) ρ R:=λO H Hf Q S q =>
 bw (wA c.hu cF cF hs) (h O H Hf _ S λx v H1 aM h1 r1 g1=>h1 O H1 aM _ (S.bY g1) λy u H2 bN ⟨kvs,kk,d,e1,e2,e3,hR⟩ r2 g2=>by
  subst e1
  obtain ⟨p,ys,o,rfl,k1,k2,k3⟩:=gu.mp r1
  have kv:=(vd k2 k3).mono g2.f
  have rel:=kv.val kk
  rw [e3] at rel
  rw [eO e2 r2]
  cases z:gO ys kk with
  | none=>rw [z] at rel; exact rel.elim
  | some v =>
   rw [z] at rel
   exact ⟨p,v,rfl,.inl ⟨ys,kk,.inr ⟨o,g2.b _ _ (g2.f _ _ k1)⟩,rfl,z.symm⟩,q d v H2 bN hR rel (g1.trans g2)⟩)
end
end EV
namespace EV
open PySem PySem.Spec PyProof.Rows L2
theorem lW {A:List bz} {l:List Int} {n:Int} {t:bz} (h:t∈putD A l n):t=(l,n)\/t∈A:=by
 unfold putD at h
 split at h
 ·obtain ⟨u,hu,e⟩:=GF.mp h
  split at e
  ·rename_i q; subst e; exact .inl (by rw [q])
  ·subst e; exact .inr hu
 ·rcases Gd.mp h with q | q
  ·exact .inr q
  ·simp at q; exact .inl q
theorem Be {A:List bz} (h:∀ t∈A,t.2.natAbs<=c) (l):((aS A l).getD 0).natAbs<=c:=by
 unfold aS
 cases e:A.find? (λkv=>decide (kv.1=l)) with
 | none=>exact Gw _
 | some u=>exact h u (List.mem_of_find?_eq_some e)
theorem pI:∀ (ts A:List bz) (c:Nat),(∀ t∈A,t.2.natAbs<=c)->(∀ t∈ts,t.2.natAbs<=m)->∀ t∈ts.foldl i8 A,t.2.natAbs<=c+ts.length * m
 | [],A,c,h,_,t,ht=>by simpa using h t ht
 | u::ts,A,c,h,g,t,ht=>by
  have:=pI (m:=m) ts (i8 A u) (c+m) (λt' ht'=>by
   rcases lW ht' with rfl | q
   ·have a:=Be h (trim u.1)
    have b:=g u FF
    show ((aS A (trim u.1)).getD 0+u.2).natAbs<=c+m
    omega
   ·have:=h t' q; omega) (λt h=>g t (FL _ h)) t ht
  rw [GB,Nat.succ_mul]
  omega
theorem Bf (h:∀ t∈ts,t.2.natAbs<=m):∀ t∈cB ts,t.2.natAbs<=ts.length * m:=λt ht=>by
 have:=pI ts [] 0 (by simp) h t ht
 omega
def Pq (t:bz):Prop:=t.1.length<=6/\∀ x∈t.1,0<=x/\x<=12
theorem pJ:∀ (ts A:List bz),(∀ t∈A,Pq t)->(∀ t∈ts,Pq t)->∀ t∈ts.foldl i8 A,Pq t
 | [],A,h,_,t,ht=>h t ht
 | u::ts,A,h,g,t,ht=>pJ ts (i8 A u) (λt' ht'=>by
  rcases lW ht' with rfl | q
  ·have:=g u FF
   exact ⟨Fy (uT _) this.1,λx hx=>this.2 x (u9 hx)⟩
  ·exact h t' q) (λt h=>g t (FL _ h)) t ht
theorem Bg (h:∀ t∈ts,Pq t):∀ t∈cB ts,Pq t:=pJ ts [] (by simp) h
theorem qY (l m:List Int):gm (n+1) (.tup (l.map D.int)) (.tup (m.map D.int)):=.tup λi d e h1 h2=>by
 simp only [FN,F5] at h1 h2
 obtain ⟨a,_,rfl⟩:=h1
 obtain ⟨b,_,rfl⟩:=h2
 exact .sc rfl
theorem ve (x y):gm (n+2) (aB x) (aB y):=.tup λi d e h1 h2=>by
 rcases i with _ | _ | i
 ·simp at h1 h2; subst h1 h2; exact qY _ _
 ·simp at h1 h2; subst h1 h2; exact .sc rfl
 ·simp at h1
theorem vf (L M:List bz):gm (n+3) (.lst (L.map aB)) (.lst (M.map aB)):=.lst λi d e h1 h2=>by
 simp only [FN,F5] at h1 h2
 obtain ⟨a,_,rfl⟩:=h1
 obtain ⟨b,_,rfl⟩:=h2
 exact ve a b
theorem vg (es):iY [] es:=λi d e h _=>by simp at h
theorem jB (h:gm 40 d e) (t:iY ds es):iY (d::ds) (e::es):=λi a b h1 h2=>by
 cases i with
 | zero=>simp at h1 h2; subst h1 h2; exact h
 | succ i=>exact t i a b (by simpa using h1) (by simpa using h2)
theorem lX (h:iY ds ds) (t:T true):sJ (.lst ds) (.lst ds) T:=wI ⟨h,by rw [decide_eq_true rfl]; exact t⟩
section
variable {K:Fi}
theorem int_mk (KX:K.In h) (G:h.Ns mainGlobals mg) (a:F6 K mainGlobals x=some (some (.int i tk))):∃ tk:Tok,mg x=some (.int i tk):=⟨tk,PySem.W.mg_of KX G a⟩
end
section
variable {P:Program} {w:World} {K:Fi} {mg:Str->Option Value} {base:Heap} {k:Nat} {N:List Str} {sc:Scope}
structure EJ (P:Program) (base:Heap) (sc:Scope) (k:Nat):Prop where
 s:base.NoSeer
 t:P.given.tree=none
 g:sc.isGenerator=false
 c:sc.isCoroutine=false
 k:32<=k
theorem vh (c:EV.Ctx P w K mg base k N sc false) (B:EJ P base sc k):c7 c.X (binaryOp .FloorDiv) (rI (λ_ j=>j≠0) λi j=>.int (i.fdiv j)):=by
 intro aa s O H x y v u Q I rx ry h
 obtain ⟨i,j,rfl,rfl,hc,q⟩:=h
 obtain ⟨t,rfl⟩:=rx
 obtain ⟨t',rfl⟩:=ry
 have hr:=c.room.dp
 have hk:=B.k
 refine floordiv_int hc ⟨.int (i.fdiv j),H,I.tok _,⟨_,rfl⟩,q⟩ (.inr (PylongRoom.of I.nolimit (by show _+100<_; lia) ?_))
 have hb:c.X.base.NoSeer:=by rw [c.eb]; exact B.s
 have ht:c.X.prog.given.tree=none:=by rw [c.eP]; exact B.t
 have hf:c.X.A.frames=some (c.X.env::c.X.outer):=by rw [I.ok.frames,(c.top rfl).1]
 exact SeerAt.of (hb.keeps I.bk) ht hf (by rw [c.esc]; exact B.g) (by rw [c.esc]; exact B.c) I.ok.blt I.ok.glob
theorem x8 {c:EV.Ctx P w K mg base k N sc false} (B:EJ P base sc k) (h:aA c a ρ λx=>aA c b ρ λy=>I2 (λi j=>Sd (j≠0) (R (.int (i.fdiv j)))) x y):aA c (.BinOp a .FloorDiv b pos) ρ R :=
 eE (jR (vh c B) jk (h.imp λx hx=>hx.imp λy ⟨i,j,e1,e2,⟨hc,r⟩⟩=>⟨i,j,e1,e2,hc,_,rfl,r⟩))
end
end EV
namespace L2
open PySem PySem.Spec PyProof.Rows
theorem qZ {K:Fi}
 (KX:K.In s₁.heap) (hns:s₁.heap.Ns mainGlobals mg) (hb:s₁.heap.Ns builtinsNs mb) (hbb:∀ x:Str,x≠"__name__"->mb x=bootBuiltins x) (hlim:s₁.heap.NoLimit) (hsr:s₁.heap.NoSeer) (hg:s₁.gens= #[])
 (ha:s₁.heap.get? a=some { cls:=.type "list",data:=.seq vs.toArray }) (hi:IntsAre vs ns) (hl:ns.length<=sizeLine) (hr:dB k callerA)
 (F:∀ base:Heap,K.In base->base.Ns mainGlobals mg->base.NoSeer->bD P w K mg base CX k fa fd [x] sp) (hbind:∀ (s:Shared) (u:Value),BindsTo s fd ⟨[u],[]⟩ [(x,u)])
 (mq:∀ H:Hp,Ak H->dJ K H a (ns.map V.int)->sp [.ref a] H (λv _=>v=.bl true) λ_ _ _=>False)
 (hCX:∀ H e s',CX [] H s₁ (λ_ _ _=>False) e s'->False) :
 codeAny (model P w) callerA (.call (.ref fa) ⟨[.ref a],[]⟩) (λr s'=>r=.ok (.ret (.bool true))/\OldK s₁.heap s'.heap/\s'.os=s₁.os/\AllBare s'.gens) s₁:=by
 have rv:=ji hi
 have lenV:=hi.length
 have core:∀ H:Hp,Ak H->dJ K H a (ns.map V.int)->fC P w H s₁.heap->(∀ b,H b≠none->b=a)->(H a≠none->K.lookup a=none) ->
  codeAny (model P w) callerA (.call (.ref fa) ⟨[.ref a],[]⟩) (λr s'=>r=.ok (.ret (.bool true))/\OldK s₁.heap s'.heap/\s'.os=s₁.os/\AllBare s'.gens) s₁:=by
  intro H hO hS hok hA hK
  have base_of:∀ {b:Addr} {o:Obj},s₁.heap.get? b=some o->H b=none->(jF s₁.heap H).get? b=some o:=λe n=>rG e n
  have noA:∀ {b:Addr} {o:Obj} {es:Array DictEntry} {ep:Nat},s₁.heap.get? b=some o->o.data=.dict es ep->H b=none:=λ{b o es ep} e d=>by
   cases q:H b with
   | none=>rfl
   | some u =>
    have e':b=a:=hA b (by rw [q]; simp)
    subst e'
    rw [ha] at e; cases e
    have d':Data.seq vs.toArray _=Data.dict es ep:=d
    cases d'
  have nsK:∀ {b:Addr} {m:Str->Option Value},s₁.heap.Ns b m->(jF s₁.heap H).Ns b m:=λ{b m} ⟨o,es,ep,e,d,r⟩=>⟨o,es,ep,base_of e (noA e d),d,r⟩
  have hKb:K.In (jF s₁.heap H):=λb o e=>base_of (KX b o e) (by
   cases q:H b with
   | none=>rfl
   | some u =>
    have e':b=a:=hA b (by rw [q]; simp)
    subst e'
    rw [hK (by rw [q]; simp)] at e; cases e)
  have hM:Mod K mg (jF s₁.heap H):=⟨hKb,nsK hns,⟨mb,nsK hb,hbb⟩,let ⟨mc,h1,h2⟩:=hlim; ⟨mc,nsK h1,h2⟩⟩
  have e0:vZ P w K mg (jF s₁.heap H) callerA [] s₁ H:=⟨rfl,hM,λb o e=>vR e,Nat.le_of_eq (p5 _ _),trivial,λb hb=>absurd (show b∈([]:List Addr) from hb) (by simp),hok,.of_eq hg⟩
  refine codeAny_mono ((F _ hKb (nsK hns) (by
   refine ⟨hsr.statics.imp λ_ h=>⟨nsK h.1,h.2⟩,hsr.mods.imp λ_ h=>⟨nsK h.1,h.2⟩,hsr.imp.imp λ_ h=>⟨nsK h.1,h.2⟩,?_⟩
   obtain ⟨mg',bm,ob,h1,h2,h3,h4,h5⟩:=hsr.main
   refine ⟨mg',bm,ob,nsK h1,h2,base_of h3 ?_,h4,h5⟩
   cases q:H bm with
   | none=>rfl
   | some u =>
    have e':bm=a:=hA bm (by rw [q]; simp)
    subst e'
    rw [ha] at h3; cases h3
    injection h4 with z
    exact absurd z (by decide))).run callerA [] s₁ H ⟨[.ref a],[]⟩ [.ref a] [.ref a] _ _ hr e0 (hbind s₁ (.ref a)) (.cons rfl .nil) (mq H hO hS)) λr s' h=>?_
  cases r with
  | error e=>exact (hCX H e s' h).elim
  | ok fl =>
   cases fl with
   | next=>exact GZ h
   | brk=>exact GZ h
   | cont=>exact GZ h
   | ret u =>
    obtain ⟨v,H',os,bare,un,hok',r',q⟩:=h
    have q':v=.bl true:=q
    subst q'
    obtain rfl:u=Value.bool true:=r'
    refine ⟨rfl,OldK.of_keep λb o e=>?_,os,bare⟩
    cases q:H b with
    | none=>exact un.keep b o e q (by intro z; exact absurd (show b∈([]:List Addr) from z) (by simp)) (by simp)
    | some u =>
     rcases hO b with z | ⟨ob,xs,z⟩
     ·rw [q] at z; cases z
     ·have z2:=un.frzs b ob _ z
      obtain ⟨e1,_⟩:=hok b _ z
      obtain ⟨e2,_⟩:=hok' b _ z2
      rw [e] at e1; cases e1
      exact e2
 cases hk:K.lookup a with
 | some o =>
  have e:=KX a o hk
  rw [ha] at e
  cases e
  refine core (λ_=>none) (λ_=>.inl rfl) (.inr ⟨_,vs.toArray,_,hk,rfl,rfl,rfl,by rw [FG,lenV]; exact hl,by simpa using rv⟩) (λb u z=>by have z':(none:Option HO)=some u:=z; cases z') (λb z=>absurd rfl z) λz=>absurd rfl z
 | none =>
  refine core (λb=>if b=a then some (.frz { cls:=.type "list",data:=.seq vs.toArray } (.lst (ns.map V.int))) else none) (λb=>?_) (.inl (.inr ⟨{ cls:=.type "list",data:=.seq vs.toArray },if_pos rfl⟩)) (λb u z=>?_) (λb z=>?_) λ_=>hk
  ·by_cases hb:b=a
   ·exact .inr ⟨_,_,if_pos hb⟩
   ·exact .inl (if_neg hb)
  ·by_cases hb:b=a
   ·have z':=(if_pos hb).symm.trans z
    cases z'
    subst hb
    exact ⟨ha,by rw [Fx]; exact hl,vs,_,rv,ha⟩
   ·have z':=(if_neg hb).symm.trans z
    cases z'
  ·by_cases hb:b=a
   ·exact hb
   ·exact absurd (if_neg hb) z
theorem vj {l:PySem.W.OpenLaw} {K:Params->Fi} {CX:World->zU} {sp:World->Sp}
 (hn:l.most=some n) (hn2:n<=sizeLine) (hdf:d.params.defaults=[]) (hr:dB k callerA) (hi:importsNone q=true)
 (hY:∀ (w:World) (h:Heap),YP w h->(K w.params).In h)
 (F:∀ (w:World) (mg:Str->Option Value) (fa:Addr) (h:Heap),(K w.params).In h->h.Ns mainGlobals mg->mg d.name=some (.ref fa) ->
   ∃ fd:FuncData,(∀ (s:Shared) (u:Value),BindsTo s fd ⟨[u],[]⟩ [(x,u)]) /\
    ∀ base:Heap,(K w.params).In base->base.Ns mainGlobals mg->base.NoSeer->bD l.prog w (K w.params) mg base (CX w) k fa fd [x] (sp w))
 (mq:∀ (w:World) (H:Hp) (a:Addr) (ns:List Int),ns.length<=n->Ak H->dJ (K w.params) H a (ns.map V.int)->sp w [.ref a] H (λv _=>v=.bl true) λ_ _ _=>False)
 (hCX:∀ (w:World) (H:Hp) (s:Shared) (e:Value) (s':Shared),CX w [] H s (λ_ _ _=>False) e s'->False) :
 PySem.W.WalkO q loose XP YP l.row.toRowW d [] (λf vs=>PySem.call f vs):=by
 refine Att.kR hn hdf λw s₀ s₁ mg mb fa o pm cd doc a vs ns G Y ho hd hcd hmg hobj hints hlen hg=>?_
 have KX:=hY w _ Y
 obtain ⟨fd,hb,hF⟩:=F w mg fa _ KX G.T.g hmg
 exact qZ KX G.T.g G.T.b G.T.builtins G.T.nolimit (G.T.seer hi) hg hobj hints (Fy hlen hn2) hr hF hb (λH hO hS=>mq w H a ns hlen hO hS) λH e s'=>hCX w H s₁ e s'
end L2
namespace EV
open PySem PySem.Spec PyProof.Rows L2
theorem Dr {l:PySem.W.OpenLaw} {K:Params->Fi} (hk:k<=40) (hn:l.most=some 63) (hdf:d.params.defaults=[]) (hi:importsNone q=true)
 (hY:∀ (w:World) (h:Heap),YP w h->(K w.params).In h)
 (F:∀ (w:World) (mg:Str->Option Value) (fa:Addr) (h:Heap),(K w.params).In h->h.Ns mainGlobals mg->mg d.name=some (.ref fa) ->
   ∃ fd:FuncData,(∀ (s:Shared) (u:Value),BindsTo s fd ⟨[u],[]⟩ [("_law_script",u)])/\∀ base:Heap,(K w.params).In base->base.Ns mainGlobals mg->base.NoSeer->bD l.prog w (K w.params) mg base (fZ l.prog w) 40 fa fd ["_law_script"] (fK (K w.params) ud)) :
 PySem.W.WalkO q loose XP YP l.row.toRowW d [] (λf vs=>PySem.call f vs) :=
 L2.vj (n:=63) (k:=40) (x:="_law_script") (CX:=λw=>fZ l.prog w) (sp:=λw=>fK (K w.params) ud) hn (by decide) hdf ⟨rfl,by decide,by decide⟩ hi hY F (λ_ H a ns hl _ hS=>AW H a ns hl hS) λ_ _ _ _ _ ⟨_,_,_,_,_,q⟩=>q
end EV
namespace EV
open PySem PySem.Spec PySem.Calls PyProof.Rows L2
section
variable {K:Fi}
theorem x9 {st:List Stmt} (i) (hi:At ρ i r) (hr:r.j5=some d0) (hs:SSet ρ i (.va d0) ρ') (h:aQ c st ρ' nx p):aQ c st ρ nx p:=λO H Hf D S o=>by
 obtain ⟨q,u,hq,nI,hd,S1⟩:=S.oR hi.get hr
 intro aa s I
 obtain ⟨ob,I1,nf⟩:=oQ I hq hd
 have S2:=S1 ob
 rw [<- hs.eq] at S2
 exact h O _ _ D S2 o aa s I1
theorem ya {st:List Stmt} (i) (hi:At ρ i r) (hr:r=.va d0\/r.gp=some d0) (hs:SSet ρ i (.va d0) ρ') (h:aQ c st ρ' nx p):aQ c st ρ nx p:=by
 rcases hr with rfl | hr
 ·have e:ρ'=ρ:=by
   rw [hs.eq]
   refine Iu λj=>?_
   rw [List.getElem?_set]
   split
   ·rename_i e
    subst e
    have g:=hi.get
    rw [g,if_pos (FA.mp g).1]
   ·rfl
  rw [<- e]; exact h
 ·exact dO i hi hr hs h
theorem Bh (h:aA c e ρ (I1 λi=>T (i != 0))) (he:∀ (env:Env) whole,isTrue e env whole=(do let v <- whole; standAt e.pos; holding [v] (truthy v)):=by intro _ _; walk_at "u"):fH c e ρ T:=λO H Hf Q S q =>
 kT (rS cF (he _)) (h O H Hf _ S λx v H' ai ⟨k,e,h1⟩ r g=>by
  subst e; rw [az] at r
  subst r
  exact ⟨_,rfl,q _ H' ai h1 g⟩)
end
end EV
namespace My
open PySem PySem.Spec PyProof.Rows L2 EV
noncomputable abbrev top (i:Nat):Stmt:=PySem.Challenge.pw_everydraw_k07_worths_at_places.main.body.getD i (.Pass ⟨0,0,0,0⟩)
theorem fj:FS ["one","other","rest"] ["one","other"] (top 4):=by decide +kernel
theorem iK:FS ["top","bottom","common"] ["top","bottom"] (top 5):=by decide +kernel
theorem lY:FS ["powers","k"] ["powers","k"] (top 8):=by decide +kernel
theorem dW:FS ["some","greatest","powers","number","k","power"] ["some"] (top 9):=by decide +kernel
theorem q8:FS ["base","power","worth"] ["base","power"] (top 10):=by decide +kernel
theorem fT:FS ["some","k","fraction","most","scaled","powers","number","power"] ["some","k","fraction","most"] (top 11):=by decide +kernel
theorem lZ:FS ["some","place","greatest","scaled","bottom","k","fraction","top","powers","number","worth"] ["some","place"] (top 12):=by decide +kernel
theorem nD:FS ["_law_found"] ["_law_found"] (top 14):=by decide +kernel
theorem q9:FS ["_law_script","_law_k"] ["_law_script","_law_k"] (top 15):=by decide +kernel
theorem nE:FS ["_law_cell_here","_law_k","_law_many","_law_number"] ["_law_cell_here","_law_k","_law_many"] (top 16):=by decide +kernel
theorem rf:FS ["_law_cell_here","_law_size","_law_rest","_law_powers","_law_k"] ["_law_cell_here","_law_size"] (top 17):=by decide +kernel
theorem i9:FS ["_law_top","_law_bottom","_law_one","_law_other"] ["_law_top","_law_bottom"] (top 18):=by decide +kernel
theorem dX:FS ["_law_found","_law_due"] ["_law_found","_law_due"] (top 19):=by decide +kernel
theorem kr:FS ["_law_powers","_law_found"] ["_law_powers"] (top 20):=by decide +kernel
theorem vm:FS ["_law_terms","_law_counts","_law_powers","_law_number","_law_short"] ["_law_terms"] (top 21):=by decide +kernel
theorem nF:FS ["_law_some","_law_place","_law_top","_law_bottom","_law_powers","_law_number","_law_over","_law_under","_law_k","_law_spot_here","_law_step"] ["_law_some","_law_place"] (top 22):=by decide +kernel
theorem rg:FS ["_law_cell_here","_law_size","_law_number"] ["_law_cell_here","_law_size"] (top 23):=by decide +kernel
theorem Bj:FS ["_law_script","_law_cell_here","_law_terms","_law_size","_law_some","_law_cells","_law_place","_law_handed","_law_wide","_law_found"] ["_law_script"] (top 24):=by decide +kernel
local macro_rules | `(tactic| walk_at "side")=> `(tactic| first | lia | assumption | exact jZ | exact sP (Nat.le_of_ble_eq_true rfl) | exact sQ (by decide) (by decide +kernel) | (show zJ _ _; exact ⟨by decide,by decide,by decide +kernel⟩))
local macro_rules | `(tactic| walk_at "at")=> `(tactic| with_reducible (repeat (first | exact At.z | apply At.s)))
local macro_rules | `(tactic| walk_at "sset")=> `(tactic| with_reducible (repeat (first | exact SSet.z | apply SSet.s)))
local macro_rules | `(tactic| walk_at "atI")=> `(tactic| first | assumption | rfl)
local macro_rules | `(tactic| walk_at "own")=> `(tactic| walk_at "u")
local macro_rules | `(tactic| walk_at "evSs")=> `(tactic| first
 | with_reducible refine aW ?_
 | with_reducible refine Aq ?_)
local macro_rules | `(tactic| walk_at "evS")=> `(tactic| first
 | ((with_reducible show d7 _ (JA [FP _ _] _ _) _ _ _); with_reducible refine sO (by walk_at "at") ?_)
 | ((with_reducible show d7 _ (Stmt.If _ _ _ _) _ _ _); walk_at "evIf")
 | ((with_reducible show d7 _ (Stmt.Expr _ _) _ _ _); walk_at "evXp")
 | ((with_reducible show d7 _ (Stmt.Return (some (FP _ _)) _) _ _ _); with_reducible refine sN (by walk_at "at") (by walk_at "at") rfl ?_)
 | ((with_reducible show d7 _ (Stmt.Return (some _) _) _ _ _); with_reducible refine yH ?_)
 | ((with_reducible show d7 _ (Stmt.Return none _) _ _ _); with_reducible refine s_retN ?_)
 | ((with_reducible show d7 _ (Stmt.AugAssign (FP _ _) Operator.Add _ _) _ _ _); with_reducible refine s_addq (by walk_at "at") (by walk_at "at") ?_)
 | ((with_reducible show d7 _ (Stmt.AugAssign (FP _ _) Operator.Sub _ _) _ _ _); with_reducible refine s_subq (by walk_at "at") (by walk_at "at") ?_)
 | ((with_reducible show d7 _ (Stmt.AugAssign (GD (FP _ _) _ _) Operator.Add _ _) _ _ _); with_reducible refine s_daddq (by walk_at "at") (by walk_at "at") ?_)
 | ((with_reducible show d7 _ (JA [Expr.Tuple [FP _ _,FP _ _] _ _] (Expr.Tuple [_,_] _ _) _) _ _ _); with_reducible refine CW (by walk_at "at") (by walk_at "at") (by decide) ?_)
 | ((with_reducible show d7 _ (JA [Expr.Tuple _ _ _] _ _) _ _ _); with_reducible refine CV ?_)
 | ((with_reducible show d7 _ (JA [GD (FP _ _) _ _] _ _) _ _ _); walk_at "evPut")
 | with_reducible refine s_break ?_
 | with_reducible refine s_continue ?_
 | with_reducible refine s_pass ?_)
local macro_rules | `(tactic| walk_at "evIf")=> `(tactic| with_reducible refine CT ?_)
local macro_rules | `(tactic| walk_at "evXp")=> `(tactic| with_reducible refine tO (by walk_at "at") (by walk_at "at") (by walk_at "own") ?_)
local macro_rules | `(tactic| walk_at "evPut")=> `(tactic| with_reducible refine AJ (by walk_at "at") (by walk_at "at") ?_ (ho:=by walk_at "own"))
local macro_rules | `(tactic| walk_at "evK")=> `(tactic| first
 | with_reducible refine CA ?_
 | with_reducible refine Er ?_
 | with_reducible refine e_non ?_
 | with_reducible refine e_str ?_)
local macro_rules | `(tactic| walk_at "evCm")=> `(tactic| first
 | with_reducible refine e_isN ?_
 | with_reducible refine e_notN ?_
 | with_reducible refine e_lt ?_
 | with_reducible refine Ey ?_
 | with_reducible refine e_ne ?_)
local macro_rules | `(tactic| walk_at "evIx")=> `(tactic| first
 | ((with_reducible show aA _ (GD _ (Expr.Slice _ _ _ _) _) _ _); with_reducible refine kY ?_)
 | ((with_reducible show aA _ (GD (FP _ _) _ _) _ _); with_reducible refine Dd (by walk_at "at") (by walk_at "at") (by walk_at "own") (by walk_at "sset") ?_ (by walk_at "at"))
 | ((with_reducible show aA _ (GD (FP _ _) _ _) _ _); with_reducible refine e_dix (by walk_at "at") (by walk_at "at") ?_)
 | with_reducible refine kZ ?_)
local macro_rules | `(tactic| walk_at "evBo")=> `(tactic| first
 | with_reducible refine AD ?_
 | with_reducible refine CF ?_
 | with_reducible refine CG ?_
 | with_reducible refine CH ?_
 | with_reducible refine An ?_
 | with_reducible refine CI ?_)
local macro_rules | `(tactic| walk_at "evCa")=> `(tactic| first
 | ((with_reducible show aA _ (Gp (Expr.Attribute _ _ _) _ _ _) _ _); walk_at "evMt")
 | ((with_reducible show aA _ (Gp (FP "isinstance" _) _ _ _) _ _); first
  | with_reducible refine jS (Txt.isin (by assumption)) (Txt.De (by assumption)) ?_
  | with_reducible refine jS (Txt.isin (by assumption)) (Txt.xr (by assumption)) ?_
  | with_reducible refine jS (Txt.isin (by assumption)) (Txt.c_list (by assumption)) ?_
  | with_reducible refine jS (Txt.isin (by assumption)) (Txt.AR (by assumption)) ?_)
 | ((with_reducible show aA _ (Gp (FP "len" _) _ _ _) _ _); first
  | ((with_reducible show aA _ (Gp _ [FP _ _] _ _) _ _); with_reducible refine AN (Txt.len (by assumption)) (by walk_at "at") (by walk_at "at") (by walk_at "own") (by walk_at "sset") ?_)
  | with_reducible refine e_len (Txt.len (by assumption)) ?_)
 | ((with_reducible show aA _ (Gp (FP "tuple" _) _ _ _) _ _); first
  | ((with_reducible show aA _ (Gp _ [FP _ _] _ _) _ _); with_reducible refine uc (Txt.tuple (by assumption)) (by walk_at "at") (by walk_at "at") (by walk_at "own") (by walk_at "sset") ?_)
  | with_reducible refine om (Txt.tuple (by assumption)) ?_)
 | ((with_reducible show aA _ (Gp (FP "abs" _) _ _ _) _ _); with_reducible refine C2 (Txt.abs (by assumption)) ?_)
 | ((with_reducible show aA _ (Gp (FP "int" _) _ _ _) _ _); with_reducible refine e_intB (Txt.int (by assumption)) ?_))
local macro_rules | `(tactic| walk_at "evMt")=> `(tactic| with_reducible refine AI (by walk_at "at") (by walk_at "at") ?_ (ho:=by walk_at "own"))
local macro_rules | `(tactic| walk_at "evE")=> `(tactic| first
 | ((with_reducible show aA _ (FP _ _) _ _); with_reducible refine nX (by walk_at "at") (by walk_at "at") ?_)
 | ((with_reducible show aA _ (Ju _ _ _) _ _); walk_at "evK")
 | ((with_reducible show aA _ (Gp _ _ _ _) _ _); walk_at "evCa")
 | ((with_reducible show aA _ (GD _ _ _) _ _); walk_at "evIx")
 | ((with_reducible show aA _ (IS _ _ _ _) _ _); walk_at "evBo")
 | ((with_reducible show aA _ (Expr.Compare _ _ _ _) _ _); walk_at "evCm")
 | with_reducible refine CS ?_
 | with_reducible refine AE ?_
 | with_reducible refine CJ ?_
 | with_reducible refine CP ?_
 | with_reducible refine CO ?_
 | with_reducible refine e_or ?_
 | with_reducible refine CN ?_
 | with_reducible refine wL ?_)
local macro_rules | `(tactic| walk_at "evX")=> `(tactic| first
 | ((with_reducible show cR _ (Expr.List _ _) _ _); with_reducible refine yG ?_)
 | ((with_reducible show cR _ (Gp _ _ _ _) _ _); walk_at "evXC")
 | ((with_reducible show cR _ (IS _ Operator.Add _ _) _ _); with_reducible refine yM ?_)
 | ((with_reducible show cR _ (GD _ (Expr.Slice _ _ _ _) _) _ _); with_reducible refine oq ?_)
 | with_reducible refine BP ?_)
local macro_rules | `(tactic| walk_at "evXC")=> `(tactic| first
 | ((with_reducible show cR _ (Gp (FP "list" _) _ _ _) _ _); first
  | ((with_reducible show cR _ (Gp _ [FP _ _] _ _) _ _); with_reducible refine x_listO (Txt.list (by assumption)) (by walk_at "at") (by walk_at "at") (by walk_at "own") (by walk_at "sset") ?_)
  | with_reducible refine sZ (Txt.list (by assumption)) ?_)
 | with_reducible refine BP ?_)
local macro_rules | `(tactic| walk_at "evT")=> `(tactic| first
 | ((with_reducible show fH _ (Expr.Compare _ _ _ _) _ _); first
  | with_reducible refine t_isN ?_
  | with_reducible refine t_notN ?_
  | with_reducible refine Ex ?_
  | with_reducible refine Ew ?_
  | with_reducible refine Es ?_
  | with_reducible refine t_le ?_
  | with_reducible refine Et ?_
  | with_reducible refine t_ge ?_
  | with_reducible refine t_din (by walk_at "at") (by walk_at "at") ?_
  | with_reducible refine k8 (by walk_at "at") (by walk_at "at") ?_)
 | with_reducible refine CM ?_
 | with_reducible refine EW (w_and ?_)
 | with_reducible refine EW (w_or ?_)
 | with_reducible refine CQ ?_)
local macro_rules | `(tactic| walk_at "evW")=> `(tactic| first
 | with_reducible refine w_and ?_
 | with_reducible refine w_or ?_
 | with_reducible refine Ao ?_
 | with_reducible refine CL ?_)
local macro_rules | `(tactic| walk_at "evG")=> `(tactic| first
 | ((with_reducible show mV _ (FP _ _) _ _ _); with_reducible refine fJ (by walk_at "at") ?_)
 | with_reducible refine CU rfl (by walk_at "u") ?_)
local macro_rules | `(tactic| walk_at "evGs")=> `(tactic| first
 | with_reducible refine Ar ?_
 | ((with_reducible show ql _ (_::_) _ _ _); with_reducible refine wM (by walk_at "at") ?_))
local macro_rules | `(tactic| walk_at "evL")=> `(tactic| first
 | ((with_reducible show Nx _ _ _ _); with_reducible refine yI (by walk_at "sset") ?_)
 | ((with_reducible show Sd _ _); first | with_reducible refine Sd.mk (by walk_at "side") ?_ | with_reducible refine Sd.mk ?_ ?_)
 | ((with_reducible show gT _ _ _); first
  | with_reducible refine CC ?_
  | with_reducible refine CD ?_
  | with_reducible refine wF ?_
  | with_reducible refine wD (λh=>?_) (λh=>?_)
  | with_reducible refine if2 (λh=>?_) (λh=>?_))
 | with_reducible refine i2 ?_
 | with_reducible refine i1 ?_
 | with_reducible refine b1 ?_
 | ((with_reducible show sJ _ _ _); first
  | with_reducible refine wG ?_
  | with_reducible refine eqp_bl ?_
  | with_reducible refine eqp_str ?_)
 | ((with_reducible show i0 _ _ _); first
  | with_reducible refine tL ?_
  | with_reducible refine tM ?_
  | with_reducible refine addp_tup ?_)
 | ((with_reducible show yD _ _); first
  | with_reducible refine gY ?_
  | with_reducible refine tK ?_)
 | ((with_reducible show IsN _ _); first
  | with_reducible refine isn_t ?_
  | with_reducible refine isn_f (by intro q; cases q) ?_)
 | ((with_reducible show BQ _ _ _); first
  | refine yK (by rfl) ?_
  | refine gW (by rfl) ?_)
 | ((with_reducible show AA _ _ _ _); first
  | with_reducible refine EV.AA.lst ?_
  | with_reducible refine EV.AA.tup ?_)
 | ((with_reducible show ∃ ys,D.row _=some ys/\_); refine EA (by rfl) ?_)
 | ((with_reducible show ∃ t b,qo _ _ t/\_); first
  | with_reducible refine AF .int AS ?_
  | with_reducible refine AF .int (Txt.ib (by assumption)) ?_
  | with_reducible refine AF .bl kit_bb ?_
  | with_reducible refine AF .lst kit_ll ?_
  | with_reducible refine AF .tup AU ?_)
 | ((with_reducible show ∃ j d,D.int _=D.int j/\_); refine ⟨_,_,rfl,(by walk_at "atI"),?_⟩)
 | ((with_reducible show ∃ r,_/\CY _ _ _ r); walk_at "evR"))
local macro_rules | `(tactic| walk_at "ev1")=> `(tactic| first
 | ((with_reducible show aA _ _ _ _); walk_at "evE")
 | ((with_reducible show cR _ _ _ _); walk_at "evX")
 | ((with_reducible show fH _ _ _ _); walk_at "evT")
 | ((with_reducible show aQ _ _ _ _ _); walk_at "evSs")
 | ((with_reducible show d7 _ _ _ _ _); walk_at "evS")
 | ((with_reducible show mU _ _ _ _); first | with_reducible refine gU ?_ | with_reducible refine kU ?_)
 | ((with_reducible show yF _ _ _ _); walk_at "evW")
 | ((with_reducible show mV _ _ _ _ _); walk_at "evG")
 | ((with_reducible show ql _ _ _ _ _); walk_at "evGs")
 | ((with_reducible show Ax _ _ _ _); first | with_reducible refine Ay ?_ | with_reducible refine Az ?_)
 | walk_at "evL")
local macro_rules | `(tactic| walk_at "ev")=> `(tactic| repeat' (walk_at "ev1"))
section
variable {K:Fi}
theorem fU (h:n<=1000000):n<sizeLine:=GI h (by decide)
theorem Ds (h:n<=1000000):n<=sizeLine:=GN (fU h)
noncomputable def ku:Fn:=λds r=>∃ n:Int,ds=[.int n]/\r=.ok (.va (.bl true))
theorem yb (n):ku [.int n] (.ok (.va (.bl true))):=⟨n,rfl,rfl⟩
theorem vn (Fu:gr K "_law_whole" "_law_whole" (top 14) f fd) (T:Txt K mg):bD P w K mg base (fZ P w) 1 f fd ["_law_found"] (fK K ku):=by
 refine cZ Fu nD (by rintro ds r ⟨a,rfl,_⟩; rfl) (by rintro ds r ⟨a,_,rfl⟩; exact ⟨_,rfl⟩) λc hq ds sl hF=>?_
 obtain ⟨a,rfl,e⟩:=hF
 injection e with e
 subst e
 show aQ c _ [.va (.int a)] _ _
 conv in (aE _)=>whnf
 walk_at "ev"
 rfl
noncomputable def pK:Fn:=λds r=>∃ l:List Int,l.length<=64/\ds=[.tup (l.map .int)]/\r=.ok (.va (.tup ((trim l).map .int)))
theorem Bk (h:l.length<=64):pK [.tup (l.map .int)] (.ok (.va (.tup ((trim l).map .int)))):=⟨l,h,rfl,rfl⟩
theorem l0 {cl:List Int} {j:Int} (h0:0<=j) (h1:j<cl.length) (h:R (.int (cl.getD j.toNat 0))):BQ (.tup (cl.map D.int)) (.int j) R:=by
 refine yK ?_ h
 rw [dj h0 (by simpa using h1)]
 have hj:j.toNat<cl.length:=by lia
 simp [FN,hj]
noncomputable def thing (a k m:Int):Int :=
 ((a % 2147483647 * 48271+69621 * k * k+7 * k) % 2147483629 * ((a % 2147483647 * 48271+69621 * k * k+7 * k) % 2147483629) % 2147483587) * ((a % 2147483647 * 48271+69621 * k * k+7 * k) % 2147483629 * ((a % 2147483647 * 48271+69621 * k * k+7 * k) % 2147483629) % 2147483587+48271) % 2147483563 % m
theorem cP (a k) (h:0<m):0<=thing a k m/\thing a k m<m:=⟨Hz _ (by lia),Ir _ h⟩
noncomputable def fV:Fn:=λds r=>∃ a k m:Int,0<m/\m.natAbs<2 ^ 63/\k.natAbs<2 ^ 40/\ds=[.int a,.int k,.int m]/\r=.ok (.va (.int (thing a k m)))
theorem pM (hm:0<m) (h2:m.natAbs<2 ^ 63) (hk:k.natAbs<2 ^ 40):fV [.int a,.int k,.int m] (.ok (.va (.int (thing a k m)))):=⟨a,k,m,hm,h2,hk,rfl,rfl⟩
theorem vo (Fu:gr K "_law_thing" "_law_thing" (top 16) f fd) (T:Txt K mg):bD P w K mg base (fZ P w) 1 f fd ["_law_cell_here","_law_k","_law_many"] (fK K fV):=by
 refine cZ Fu nE (by rintro ds r ⟨a,k,m,_,_,_,rfl,_⟩; rfl) (by rintro ds r ⟨a,k,m,_,_,_,_,rfl⟩; exact ⟨_,rfl⟩) λc hq ds sl hF=>?_
 obtain ⟨a,k,m,hm,hm2,hk,rfl,e⟩:=hF
 injection e with e
 subst e
 show aQ c _ [.va (.int a),.va (.int k),.va (.int m),.un] _ _
 conv in (aE _)=>whnf
 walk_at "ev"
 all_goals first
  | exact uo (by lia)
  | exact dv_few hm hm2
  | rfl
  | trace_state
theorem vp {l:List Int} (h:m<l.length):gM ((l.take (m+1)).map D.int) (-1)=some (.int (l.getD m 0)):=by
 have hl:(l.take (m+1)).length=m+1:=by simp; lia
 rw [xx (by decide) (by simp only [Fx,hl]; lia),Fx,hl]
 have e:(-1+((m+1:Nat):Int)).toNat=m:=by lia
 rw [e,FN,List.getElem?_take]
 simp [GS,h]
section
local macro_rules | `(tactic| walk_at "side")=> `(tactic| exact gy _)
local macro_rules | `(tactic| walk_at "evXp")=> `(tactic| ((with_reducible show d7 _ (Stmt.Expr (Gp _ [] _ _) _) _ _ _); with_reducible refine s_pop (by walk_at "at") (by walk_at "at") (by walk_at "own") ?_))
theorem vq (Fu:gr K "_law_trimmed" "_law_trimmed" (top 20) f fd) (T:Txt K mg):bD P w K mg base (fZ P w) 1 f fd ["_law_powers"] (fK K pK):=by
 refine cZ Fu kr (by rintro ds r ⟨a,_,rfl,_⟩; rfl) (by rintro ds r ⟨a,_,_,rfl⟩; exact ⟨_,rfl⟩) λc hq ds sl hF=>?_
 obtain ⟨l,hl,rfl,e⟩:=hF
 injection e with e
 subst e
 show aQ c _ [.va (.tup (l.map .int)),.un] _ _
 conv in (aE _)=>whnf
 walk_at "ev"
 with_reducible refine gv hq (λm ρ'=>m<=l.length/\trim (l.take m)=trim l/\ρ'=[.va (.tup (l.map .int)),.ow ((l.take m).map .int)]) (m₀:=l.length) ?_ ?_
 ·exact ⟨Fq _,by rw [Hw],by rw [Hw]⟩
 ·rintro m ρ' ⟨hm,ht,rfl⟩
  have hL:((l.take m).map D.int).length=m:=by simp; lia
  walk_at "ev"
  ·rw [hL] at *
   obtain ⟨n,rfl⟩:∃ n,m=n+1:=⟨m - 1,by lia⟩
   refine ⟨_,_,rfl,vp (by lia),?_⟩
   walk_at "ev"
   ·intro z; have z':=congrArg List.length z; rw [Fx,Gh,G8] at z'; lia
   ·refine ⟨n,by lia,by lia,qQ (by lia) (by assumption) ht,?_⟩
    show [_,Sl.ow _]=_
    rw [fR (by lia),G7,List.map_singleton,List.dropLast_concat]
   ·show Sl.va _=Sl.va _
    rw [qR (by lia) (by assumption) ht]
  ·show Sl.va _=Sl.va _
   have:m=0:=by rw [hL] at *; lia
   subst this
   rw [<- ht]
   rfl
end
end
section
variable {K:Fi}
theorem Bl (x):(aB x).nl:=m7 (by unfold D.m5; exact ⟨m7 (gy _),jY (f:=D.int) (l:=[x.2]) λ_ _=>jZ⟩)
noncomputable def yW (t:bz):Option D:=if t.2≠0 then some (aB t) else none
theorem kB:∀ L:List bz,(L.map yW).filterMap id=(nz L).map aB
 | []=>rfl
 | t::L=>by
  unfold nz
  by_cases h:t.2=0
  ·simp only [FD,yW,h,ne_eq,not_true,if_false,HY,id,List.filter_cons,bne_self_eq_false,Ga]
   exact kB L
  ·have hb:(t.2 != 0)=true:=by simpa using h
   rw [List.filter_cons,if_pos hb,FD,FD,HY]
   simp only [yW,ne_eq,h,not_false_eq_true,if_true,id]
   rw [kB L]; rfl
noncomputable def vt:Fn:=λds r=>∃ ts:List bz,ts.length<=400000/\(∀ t∈ts,t.1.length<=64)/\ds=[.lst (ts.map aB)]/\r=.ok (.ow ((ny (nz (cB ts))).map aB))
theorem Bm (h:ts.length<=400000) (h2:∀ t∈ts,t.1.length<=64):vt [.lst (ts.map aB)] (.ok (.ow ((ny (nz (cB ts))).map aB))):=⟨ts,h,h2,rfl,rfl⟩
section
local macro_rules | `(tactic| walk_at "evX")=> `(tactic| first | ((with_reducible show cR _ (Expr.Dict _ _ _) _ _); with_reducible refine xg ?_))
local macro_rules | `(tactic| walk_at "evCa")=> `(tactic| first | with_reducible refine aX (F:=pK) (by assumption) (by decide) ?_)
local macro_rules | `(tactic| walk_at "evR")=> `(tactic| first | with_reducible refine bg (Bk ?_) ?_)
theorem yc (Fu:gr K "_law_sum" "_law_sum" (top 21) f fd) (T:Txt K mg) (h1:gn P w K mg base 1 "_law_trimmed" pK):bD P w K mg base (fZ P w) 2 f fd ["_law_terms"] (fK K vt):=by
 refine cZ Fu vm (by rintro ds r ⟨n,_,_,rfl,_⟩; rfl) (by rintro ds r ⟨n,_,_,_,rfl⟩; exact ⟨_,rfl⟩) λc hq ds sl hF=>?_
 obtain ⟨ts,hl,hlen,rfl,e⟩:=hF
 injection e with e
 subst e
 show aQ c _ [.va (.lst (ts.map aB)),.un,.un,.un,.un] _ _
 conv in (aE _)=>whnf
 walk_at "ev"
 with_reducible refine cK hq (gX ?_)
 walk_at "ev"
 refine ⟨λi ρ'=>∃ s2 s3 s4:Sl,ρ'=[.va (.lst (ts.map aB)),.oT (encA (cB (ts.take i))),s2,s3,s4],⟨_,_,_,rfl⟩,?_,?_⟩
 ·rintro c' rF zd ze i d ρ' hd ⟨s2,s3,s4,rfl⟩
  simp only [FN,F5] at hd
  obtain ⟨t,ht,rfl⟩:=hd
  obtain ⟨hi,rfl⟩:=FA.mp ht
  have h6:=hlen _ (G6 hi)
  have hsz:(cB (ts.take i)).length<sizeLine:=fU (by have:=kj (ts.take i); rw [Gh] at this; lia)
  show mV c' _ (D.tup [.tup (ts[i].1.map .int),.int ts[i].2]) _ _
  walk_at "ev"
  ·exact h6
  walk_at "ev"
  refine ⟨_,A7 (A:=cB (ts.take i)) rfl _,?_⟩
  rw [uY]
  walk_at "ev"
  refine ⟨_,A8 hsz,?_⟩
  walk_at "ev"
  have e:cB (ts.take (i+1))=putD (cB (ts.take i)) (trim ts[i].1) ((aS (cB (ts.take i)) (trim ts[i].1)).getD 0+ts[i].2):=by
   rw [HH hi,uV]; rfl
  show ∃ s2 s3 s4:Sl,_=[_,Sl.oT (encA (cB (ts.take (i+1)))),s2,s3,s4]
  rw [e]
  exact ⟨_,_,_,rfl⟩
 ·rintro ρ' ⟨s2,s3,s4,rfl⟩
  rw [Fx,Hw]
  have hn:=keys_nodup (uW ts)
  with_reducible refine aW ?_
  with_reducible refine yH ?_
  refine nv (Txt.sorted T) (e_x (AX 1 (by walk_at "at") (encK _) (by walk_at "sset") (tY hq (N':=["_law_powers","_law_number"]) (ρ0:=λ_=>[.un,.un]) (λt=>.un (.un .nil)) (xD ?_))))
  walk_at "ev"
  refine A0 (qT _) ⟨?_,(cB ts).map yW,by simp,?_,?_⟩
  ·exact Ds (by rw [Fx]; have:=kj ts; lia)
  ·intro c' hc t i d o hd ho
   simp only [FN,F5] at hd ho
   obtain ⟨x,hx,rfl⟩:=hd
   obtain ⟨x',hx',rfl⟩:=ho
   rw [hx] at hx'; cases hx'
   show mV c' _ (.tup [.tup (x.1.map .int),.int x.2]) _ _
   walk_at "ev"
   refine ⟨.un (.un .nil),?_⟩
   simp only [oz]
   walk_at "ev"
   all_goals first
    | (show yW x=some (aB x); unfold yW; rw [if_pos (by assumption)])
    | (show yW x=none; unfold yW; rw [if_neg λh=>h (by assumption)])
  ·rw [kB]
   refine ⟨jY λx _=>Bl x,tK ⟨_,rfl,Km.filter _ hn,λL' hp hs=>?_⟩⟩
   have eL:=A6 (Km.filter _ hn) hp hs
   rw [eL]
   rfl
end
end
section
variable {K:Fi}
noncomputable def mC:Nat->Int->List Int×Int
 | 0,r=>([],r)
 | i+1,r=>((mC i r).1++[(mC i r).2 / 7 % 13],(mC i r).2 / 13)
noncomputable def aR (n:Int):bz :=
 if n % 2=1 then ((mC (n / 2 % 7).toNat (n / 2)).1,(mC (n / 2 % 7).toNat (n / 2)).2 / 7 % (2 * (10 ^ GR 28)+1) - (10 ^ GR 28))
 else ((Gf (thing (n / 2) 0 4).toNat).map λ(i:Nat)=>thing (n / 2) (1+(i:Int)) 3,thing (n / 2) 9 19 - 9)
theorem pN (i) (r):(mC i r).1.length=i:=by
 induction i with
 | zero=>rfl
 | succ i ih=>simp [mC,ih]
theorem fW (n):(aR n).1.length<=6:=by
 unfold aR
 split
 ·rw [pN]; lia
 ·have:=cP (n / 2) 0 (m:=4) (by decide)
  simp; lia
theorem pO (n):(i6 0 n).length=n:=by simp [i6]
noncomputable def pP:Fn:=λds r=>∃ n:Int,ds=[.int n,.int (10 ^ GR 28)]/\r=.ok (.va (aB (aR n)))
theorem Bo (n):pP [.int n,.int (10 ^ GR 28)] (.ok (.va (aB (aR n)))):=⟨n,rfl,rfl⟩
section
local macro_rules | `(tactic| walk_at "side")=> `(tactic| exact gy _)
local macro_rules | `(tactic| walk_at "evCa")=> `(tactic| with_reducible refine aX (F:=fV) (by assumption) (by decide) ?_)
local macro_rules | `(tactic| walk_at "evR")=> `(tactic| first | with_reducible refine bg (pM ?_ ?_ ?_) ?_)
theorem yd (Fu:gr K "_law_term" "_law_term" (top 17) f fd) (T:Txt K mg) (h1:gn P w K mg base 1 "_law_thing" fV):bD P w K mg base (fZ P w) 2 f fd ["_law_cell_here","_law_size"] (fK K pP):=by
 refine cZ Fu rf (by rintro ds r ⟨n,rfl,_⟩; rfl) (by rintro ds r ⟨n,_,rfl⟩; exact ⟨_,rfl⟩) λc hq ds sl hF=>?_
 obtain ⟨n,rfl,e⟩:=hF
 injection e with e
 subst e
 show aQ c _ [.va (.int n),.va (.int (10 ^ GR 28)),.un,.un,.un] _ _
 conv in (aE _)=>whnf
 walk_at "ev"
 ·with_reducible refine cK hq (cy (Txt.range (by assumption)) ?_)
  walk_at "ev"
  ·exact ⟨by lia,by lia⟩
  refine ⟨λi ρ'=>∃ s4:Sl,ρ'=[.va (.int n),.va (.int (10 ^ GR 28)),.va (.int (mC i (n / 2)).2),.ow ((mC i (n / 2)).1.map .int),s4],⟨.un,rfl⟩,?_,?_⟩
  ·rintro c' rF zd ze i d ρ' hd ⟨s4,rfl⟩
   obtain ⟨hi,rfl⟩:=cV hd
   have hlen:((mC i (n / 2)).1.map D.int).length=i:=by rw [Fx,pN]
   walk_at "ev"
   ·exact fU (by lia)
   ·refine ⟨.va (.int (i:Int)),?_⟩
    show [_,_,_,Sl.ow _,_]=_
    simp only [mC,G7,FD,HD]
  ·rintro ρ' ⟨s4,rfl⟩
   rw [pO]
   walk_at "ev"
   ·exact uo (by decide)
   ·show Sl.va _=Sl.va _
    unfold aR
    rw [if_pos (by assumption)]
 ·have t4:=cP (n / 2) 0 (m:=4) (by decide)
  with_reducible refine cK hq (cy (Txt.range (by assumption)) ?_)
  walk_at "ev"
  ·decide
  ·decide
  ·decide
  walk_at "ev"
  ·exact ⟨by lia,by lia⟩
  refine ⟨λi ρ'=>∃ s4:Sl,ρ'=[.va (.int n),.va (.int (10 ^ GR 28)),.va (.int (n / 2)),.ow (((Gf i).map λ(i:Nat)=>thing (n / 2) (1+(i:Int)) 3).map .int),s4],⟨.un,rfl⟩,?_,?_⟩
  ·rintro c' rF zd ze i d ρ' hd ⟨s4,rfl⟩
   obtain ⟨hi,rfl⟩:=cV hd
   have hlen:(((Gf i).map λ(i:Nat)=>thing (n / 2) (1+(i:Int)) 3).map D.int).length=i:=by simp
   walk_at "ev"
   ·decide
   ·decide
   ·lia
   walk_at "ev"
   ·exact fU (by lia)
   ·refine ⟨.va (.int (i:Int)),?_⟩
    show [_,_,_,Sl.ow _,_]=_
    simp only [List.range_succ,G7,FD,HD]
  ·rintro ρ' ⟨s4,rfl⟩
   rw [pO]
   walk_at "ev"
   ·decide
   ·decide
   ·decide
   walk_at "ev"
   show Sl.va _=Sl.va _
   unfold aR
   rw [if_neg (by assumption)]
end
end
section
variable {K:Fi}
noncomputable def DM:Fn:=λds r=>∃ a b:Int,b≠0/\Pz b/\ds=[.int a,.int b]/\r=.ok (.va (bZ a b))
theorem EK (hb:b≠0) (h:Pz b):DM [.int a,.int b] (.ok (.va (bZ a b))):=⟨a,b,hb,h,rfl,rfl⟩
noncomputable def nG:Fn:=λds r=>∃ a b:Int,b≠0/\ds=[.int a,.int b]/\r=.ok (.va (bZ a b))
theorem vv (hb:b≠0):nG [.int a,.int b] (.ok (.va (bZ a b))):=⟨a,b,hb,rfl,rfl⟩
section
local macro_rules | `(tactic| walk_at "evBo")=> `(tactic| with_reducible refine x8 (by assumption) ?_)
theorem Bp (hS:base.NoSeer) (hT:P.given.tree=none) (Fu:gr K "_law_fraction" "_law_fraction" (top 18) f fd) (T:Txt K mg):bD P w K mg base (fZ P w) 34 f fd ["_law_top","_law_bottom"] (fK K nG):=by
 refine cZ Fu i9 (by rintro ds r ⟨a,b,_,rfl,_⟩; rfl) (by rintro ds r ⟨a,b,_,_,rfl⟩; exact ⟨_,rfl⟩) λc hq ds sl hF=>?_
 have hB:EJ P base (aF (top 18)) 33:=⟨hS,hT,rfl,rfl,by decide⟩
 obtain ⟨a,b,hb,rfl,e⟩:=hF
 injection e with e
 subst e
 show aQ c _ [.va (.int a),.va (.int b),.un,.un] _ _
 conv in (aE _)=>whnf
 walk_at "ev"
 with_reducible refine gv hq (λm ρ'=>∃ x y:Int,0<=x/\0<=y/\m=y.toNat/\Ft x y=Ft a b/\ρ'=[.va (.int a),.va (.int b),.va (.int x),.va (.int y)]) (m₀:=b.natAbs) ?_ ?_
 ·refine ⟨_,_,?_,?_,?_,?_,rfl⟩
  ·split <;> lia
  ·split <;> lia
  ·split <;> lia
  ·split <;> split <;> simp
 ·rintro m ρ' ⟨x,y,hx,hy,rfl,hg,rfl⟩
  have hp:0<Ft a b:=HL a hb
  have done:¬0<y->x=Ft a b:=λh=>by
   have:y=0:=by lia
   subst this
   simp at hg
   lia
  walk_at "ev"
  ·show ∃ _,_
   refine ⟨_,?_,_,_,hy,?_,rfl,?_,rfl⟩
   ·have:=Ir x (b:=y) (by lia); have:=Hz x (b:=y) (by lia); lia
   ·exact Hz _ (by lia)
   ·rw [<- hg,lq]
  ·have e:=done (by assumption)
   subst e
   show Sl.va _=Sl.va _
   unfold bZ nT nB bF
   rw [if_pos (by assumption)]
  ·have e:=done (by assumption)
   subst e
   show Sl.va _=Sl.va _
   unfold bZ nT nB bF
   rw [if_neg (by assumption)]
end
noncomputable def pQ:Fn:=λds r=>∃ a b:Int,ds=[.tup [.int a,.int b],.tup [.int a,.int b]]/\r=.ok (.va (.bl true))
theorem Bq (a b):pQ [.tup [.int a,.int b],.tup [.int a,.int b]] (.ok (.va (.bl true))):=⟨_,_,rfl,rfl⟩
theorem Br (a b a' b'):iY [D.int a,D.int b] [D.int a',D.int b']:=by
 intro i d e h1 h2
 rcases i with _ | _ | i
 ·simp at h1 h2; subst h1 h2; exact .sc rfl
 ·simp at h1 h2; subst h1 h2; exact .sc rfl
 ·simp at h1
section
local macro_rules | `(tactic| walk_at "evCa")=> `(tactic| with_reducible refine aX (F:=ku) (by assumption) (by decide) ?_)
local macro_rules | `(tactic| walk_at "evR")=> `(tactic| with_reducible refine bg (yb _) ?_)
local macro_rules | `(tactic| walk_at "evL")=> `(tactic| first | ((with_reducible show sJ _ _ _); refine wH (Sd.mk (Br _ _ _ _) ?_)))
theorem ye (Fu:gr K "_law_same_fraction" "_law_same_fraction" (top 19) f fd) (T:Txt K mg) (hw:gn P w K mg base 1 "_law_whole" ku):bD P w K mg base (fZ P w) 2 f fd ["_law_found","_law_due"] (fK K pQ):=by
 refine cZ Fu dX (by rintro ds r ⟨a,b,rfl,_⟩; rfl) (by rintro ds r ⟨a,b,_,rfl⟩; exact ⟨_,rfl⟩) λc hq ds sl hF=>?_
 obtain ⟨a,b,rfl,e⟩:=hF
 injection e with e
 subst e
 show aQ c _ [.va (.tup [.int a,.int b]),.va (.tup [.int a,.int b])] _ _
 conv in (aE _)=>whnf
 walk_at "ev"
 ·show Sl.va _=Sl.va _
  simp
 ·rename_i h; exact absurd rfl h
end
noncomputable def yf:Fn:=λds r=>∃ a b:Int,ds=[.int a,.int b]/\r=.ok (.va (.int (Ft a b)))
theorem Dt (a b):yf [.int a,.int b] (.ok (.va (.int (Ft a b)))):=⟨a,b,rfl,rfl⟩
theorem Bt (Fu:gr K "common_divisor" "common_divisor" (top 4) f fd) (T:Txt K mg):bD P w K mg base (fZ P w) 1 f fd ["one","other"] (fK K yf):=by
 refine cZ Fu fj (by rintro ds r ⟨a,b,rfl,_⟩; rfl) (by rintro ds r ⟨a,b,_,rfl⟩; exact ⟨_,rfl⟩) λc hq ds sl hF=>?_
 obtain ⟨a,b,rfl,e⟩:=hF
 injection e with e
 subst e
 show aQ c _ [.va (.int a),.va (.int b),.un] _ _
 conv in (aE _)=>whnf
 walk_at "ev"
 with_reducible refine gv hq (λm ρ'=>∃ (x y:Int) (s:Sl),0<=x/\0<=y/\m=y.toNat/\Ft x y=Ft a b/\ρ'=[.va (.int x),.va (.int y),s]) (m₀:=b.natAbs) ?_ ?_
 ·refine ⟨_,_,_,?_,?_,?_,?_,rfl⟩
  ·split <;> lia
  ·split <;> lia
  ·split <;> lia
  ·split <;> split <;> simp
 ·rintro m ρ' ⟨x,y,s,hx,hy,rfl,hg,rfl⟩
  walk_at "ev"
  ·show Sl.va _=Sl.va _
   subst_vars
   simp at hg |-
   lia
  ·show ∃ _,_
   refine ⟨_,?_,_,_,_,hy,?_,rfl,?_,rfl⟩
   ·have:=Ir x (b:=y) (by lia); have:=Hz x (b:=y) (by lia); lia
   ·exact Hz _ (by lia)
   ·rw [<- hg,lq]
section
local macro_rules | `(tactic| walk_at "evCa")=> `(tactic| with_reducible refine aX (F:=yf) (by assumption) (by decide) ?_)
local macro_rules | `(tactic| walk_at "evR")=> `(tactic| with_reducible refine bg (Dt _ _) ?_)
theorem Du (Fu:gr K "fraction_of" "fraction_of" (top 5) f fd) (T:Txt K mg) (hg:gn P w K mg base 1 "common_divisor" yf):bD P w K mg base (fZ P w) 2 f fd ["top","bottom"] (fK K DM):=by
 refine cZ Fu iK (by rintro ds r ⟨a,b,_,_,rfl,_⟩; rfl) (by rintro ds r ⟨a,b,_,_,_,rfl⟩; exact ⟨_,rfl⟩) λc hq ds sl hF=>?_
 obtain ⟨a,b,hb,hs,rfl,e⟩:=hF
 injection e with e
 subst e
 show aQ c _ [.va (.int a),.va (.int b),.un] _ _
 conv in (aE _)=>whnf
 have hG:=xu (a:=a) hs hb
 have hp:0<Ft a b:=HL a hb
 walk_at "ev"
 ·exact absurd (by assumption:b=0) hb
 ·exact ⟨by simp only [IM,IK]; lia,by simp only [IM,IK]; exact hG⟩
 ·exact ⟨by simp only [IM,IK]; lia,by simp only [IM,IK]; exact hG⟩
 ·show Sl.va _=Sl.va _
  rw [uf (by assumption)]
 ·exact ⟨by lia,hG⟩
 ·exact ⟨by lia,hG⟩
 ·show Sl.va _=Sl.va _
  rw [ug (by lia)]
end
end
section
variable {K:Fi}
noncomputable def yg (p:List Int) (g:Nat->Int) (k:Nat):Int:=if dz p k>g k then dz p k else g k
noncomputable def gk (L:List bz) (k:Nat):Int:=L.foldl (λa t=>if dz t.1 k>a then dz t.1 k else a) 0
noncomputable def dY (p:List Int) (g:Nat->Int) (j k:Nat):Int:=if k<j then yg p g k else g k
theorem pR (L:List bz) (k):∀ a:Int,a<=L.foldl (λa t=>if dz t.1 k>a then dz t.1 k else a) a:=by
 induction L with
 | nil=>exact λa=>GX _
 | cons t L ih =>
  intro a
  rw [Jk]
  refine F3 ?_ (ih _)
  split <;> lia
theorem yX (L) (k):0<=gk L k:=pR L k 0
theorem yh (L) (t):gk (L++[t])=yg t.1 (gk L):=by
 funext k
 unfold gk yg
 rw [J9]; rfl
theorem yi:dY p (gk L) p.length=yg p (gk L):=by
 funext k
 unfold dY
 split
 ·rfl
 ·unfold yg
  rw [kq (by lia)]
  have:=yX L k
  rw [if_neg (by lia)]
theorem vz (p) (g):dY p g 0=g:=by funext k; unfold dY; rw [if_neg (by lia)]
noncomputable def bX (g:Nat->Int):List D:=((Gf 6).map g).map D.int
theorem vA (p) (g) (h:j<6) (q:yg p g j=dz p j):(bX (dY p g j)).set j (.int (dz p j))=bX (dY p g (j+1)):=by
 refine List.ext_getElem (by simp [bX]) λi h1 h2=>?_
 have hi:i<6:=by simpa [bX] using h2
 rw [List.getElem_set]
 simp only [bX,List.getElem_map,List.getElem_range]
 unfold dY
 by_cases e:j=i
 ·subst e
  rw [if_pos rfl,if_pos (by lia),q]
 ·rw [if_neg e]
  by_cases z:i<j
  ·rw [if_pos z,if_pos (by lia)]
  ·rw [if_neg z,if_neg (by lia)]
theorem ri (p) (g) (q:yg p g j=g j):bX (dY p g j)=bX (dY p g (j+1)):=by
 unfold bX
 congr 1
 refine Io λi _=>?_
 unfold dY
 by_cases z:i<j
 ·rw [if_pos z,if_pos (by lia)]
 ·by_cases e:i=j
  ·subst e; rw [if_neg z,if_pos (by lia),q]
  ·rw [if_neg z,if_neg (by lia)]
theorem pS (g) {j:Nat} (h:j<6):gM (bX g) (j:Int)=some (.int (g j)):=by
 rw [dj (by lia) (by simp [bX]; lia),Gg]
 simp [bX,h]
noncomputable def iL:Fn:=λds r=>∃ L:List bz,(∀ t∈L,t.1.length<=6)/\ds=[.lst (L.map aB)]/\r=.ok (.ow (bX (gk L)))
theorem yj (h:∀ t∈L,t.1.length<=6):iL [.lst (L.map aB)] (.ok (.ow (bX (gk L)))):=⟨L,h,rfl,rfl⟩
section
local macro_rules | `(tactic| walk_at "evPut")=> `(tactic| with_reducible refine Ba (by walk_at "at") (by walk_at "at") (by walk_at "own") ?_)
local macro_rules | `(tactic| walk_at "evX")=> `(tactic| first | ((with_reducible show cR _ (IS _ Operator.Mult _ _) _ _); with_reducible refine yV ?_))
local macro_rules | `(tactic| walk_at "evE")=> `(tactic| first | ((with_reducible show aA _ (FP "PLACES" _) _ _); with_reducible refine sH (by assumption) ?_))
theorem vB (Fu:gr K "greatest_powers" "greatest_powers" (top 9) f fd) (T:Txt K mg) (PL:∃ tk:Tok,mg "PLACES"=some (.int 6 tk)):bD P w K mg base (fZ P w) 1 f fd ["some"] (fK K iL):=by
 obtain ⟨tk,hPL⟩:=PL
 refine cZ Fu dW (by rintro ds r ⟨L,_,rfl,_⟩; rfl) (by rintro ds r ⟨L,_,_,rfl⟩; exact ⟨_,rfl⟩) λc hq ds sl hF=>?_
 obtain ⟨L,hl,rfl,e⟩:=hF
 injection e with e
 subst e
 show aQ c _ [.va (.lst (L.map aB)),.un,.un,.un,.un,.un] _ _
 conv in (aE _)=>whnf
 walk_at "ev"
 refine ⟨_,rfl,?_⟩
 walk_at "ev"
 ·exact ⟨⟨by decide,by decide⟩,by decide⟩
 walk_at "ev"
 show d7 c _ [.va (.lst (L.map aB)),.ow (bX (gk [])),.un,.un,.un,.un] _ _
 with_reducible refine cK hq (gX ?_)
 walk_at "ev"
 refine ⟨λi ρ'=>∃ s2 s3 s4 s5:Sl,ρ'=[.va (.lst (L.map aB)),.ow (bX (gk (L.take i))),s2,s3,s4,s5],⟨_,_,_,_,rfl⟩,?_,?_⟩
 ·rintro c' rF zd ze i d ρ' hd ⟨s2,s3,s4,s5,rfl⟩
  simp only [FN,F5] at hd
  obtain ⟨t,ht,rfl⟩:=hd
  obtain ⟨hi,rfl⟩:=FA.mp ht
  have h6:=hl _ (G6 hi)
  have hq':c'.X.xe=λ_ _=>False:=by rw [rF]; exact hq
  show mV c' _ (D.tup [.tup (L[i].1.map .int),.int L[i].2]) _ _
  walk_at "ev"
  have eg:gk (L.take (i+1))=dY L[i].1 (gk (L.take i)) L[i].1.length:=by rw [HH hi,yh,yi]
  generalize L[i]=t at h6 eg |-
  generalize gk (L.take i)=g at eg |-
  with_reducible refine cK hq' (Bc (Txt.enum (by assumption)) ?_)
  walk_at "ev"
  refine ⟨_,rfl,?_⟩
  refine ⟨λj ρ'=>∃ s4 s5:Sl,ρ'=[.va (.lst (L.map aB)),.ow (bX (dY t.1 g j)),.va (.tup (t.1.map .int)),.va (.int t.2),s4,s5],⟨s4,s5,by rw [vz]⟩,?_,?_⟩
  ·rintro c2 hcX2 hcR2 hcM2 j d ρ' hd ⟨s4,s5,rfl⟩
   unfold iI at hd
   simp only [FN,F5,List.getElem?_zipIdx] at hd
   obtain ⟨⟨x,m⟩,⟨y,⟨z,hz,rfl⟩,e⟩,rfl⟩:=hd
   obtain ⟨rfl,rfl⟩:D.int z=x/\0+j=m:=by simpa using e
   obtain ⟨hj,rfl⟩:=FA.mp hz
   have hj6:j<6:=by lia
   have ha:gM (bX (dY t.1 g j)) (((0+j:Nat):Int))=some (.int (g j)):=by
    rw [G3,pS _ hj6]; unfold dY; rw [if_neg (by lia)]
   have ep:dz t.1 j=t.1[j]:=nC hj
   have hj0:0+j=j:=G3 j
   rw [hj0] at ha |-
   show mV c2 _ (D.tup [.int (j:Nat),.int t.1[j]]) _ _
   walk_at "ev"
   ·refine ⟨j,rfl,⟨by simp [bX]; lia,?_⟩⟩
    walk_at "ev"
    refine ⟨.va (.int (j:Nat)),.va (.int t.1[j]),?_⟩
    show [_,Sl.ow ((bX (dY t.1 g j)).set j (.int t.1[j])),_,_,_,_]=_
    rw [<- ep,vA t.1 g hj6 (by unfold yg; rw [ep,if_pos (by assumption)])]
   ·refine ⟨.va (.int (j:Nat)),.va (.int t.1[j]),?_⟩
    rw [ri t.1 g (by unfold yg; rw [ep,if_neg (by assumption)])]
  ·rintro ρ' ⟨s4,s5,rfl⟩
   rw [show (iI (t.1.map D.int)).length=t.1.length by simp [iI]]
   walk_at "ev"
   exact ⟨_,_,_,_,by rw [eg]⟩
 ·rintro ρ' ⟨s2,s3,s4,s5,rfl⟩
  rw [Fx,Hw]
  walk_at "ev"
  rfl
end
end
section
variable {P:Program} {w:World} {K:Fi} {mg:Str->Option Value} {base:Heap}
theorem pU (h:a.natAbs<2 ^ m):HZ a<=m+1:=by
 unfold HZ
 by_cases z:a=0
 ·subst z; simp
 ·have e:(a == 0)=false:=by simpa using z
  rw [e,if_neg Fv]
  have:=(JC (n:=a.natAbs) (k:=m) (by lia)).mpr h
  lia
theorem Bu (h:a.natAbs<2 ^ m) (g:b.natAbs<2 ^ n) (hm:m+n<=1000000):EV.MulOk a b:=by
 have h1:=pU h
 have h2:=pU g
 unfold EV.MulOk IntMulOk Builtin.Int.intTooBig bitsLine
 have e:decide (((HZ a+HZ b:Nat):Int)>((2 ^ 27:Nat):Int))=false:=by
  apply decide_eq_false
  rw [show (2:Nat) ^ 27=134217728 by decide]
  lia
 simp only [Jj]
 rintro ⟨_,z⟩
 have z':=of_decide_eq_true z
 rw [show (2:Nat) ^ 27=134217728 by decide] at z'
 lia
noncomputable def cG (n:Int) (f:Nat->Int):Nat->Int
 | 0=>n
 | k+1=>cG n f k * f k
noncomputable def cQ (x:Int×Int):D:=.tup [.int x.1,.int x.2]
noncomputable def fk (pl:List (Int×Int)) (k:Nat):Int×Int:=pl.getD k (0,1)
noncomputable def pw (t:bz) (k:Nat):Nat:=(dz t.1 k).toNat
noncomputable def gN (L:List bz) (k:Nat):Nat:=(gk L k).toNat
noncomputable def nH (pl:List (Int×Int)) (g p:Nat->Nat) (k:Nat):Int:=(fk pl k).1 ^ p k * (fk pl k).2 ^ (g k - p k)
noncomputable def wW (L:List bz) (pl:List (Int×Int)) (t:bz):Int:=cG t.2 (nH pl (gN L) (pw t)) 6
noncomputable def cC (L:List bz) (pl:List (Int×Int)):Int:=cG 1 (λk=>(fk pl k).2 ^ gN L k) 6
noncomputable def bL (L:List bz) (pl:List (Int×Int)) (M:List bz):Int:=M.foldl (λa t=>a+wW L pl t) 0
theorem jC (L) (pl) (M) (t):bL L pl (M++[t])=bL L pl M+wW L pl t:=by
 unfold bL
 rw [J9]
 rfl
structure bq (L:List bz) (pl:List (Int×Int)) (m G nb:Nat):Prop where
 p:∀ t∈L,t.1.length<=6/\∀ x∈t.1,0<=x/\x<=(G:Int)
 n:∀ t∈L,t.2.natAbs<2 ^ nb
 l:L.length<=400000
 q:pl.length<=6
 b:∀ x∈pl,x.1.natAbs<2 ^ m/\x.2.natAbs<2 ^ m/\0<x.2
 s:m * G * 6<=8600
 s2:nb<=10000
 s3:0<m/\m<=1000
 s4:G<=1000
theorem dH (h:a.natAbs<=2 ^ m) (g:b.natAbs<=2 ^ n) (hm:m+n+2<=1000000):EV.MulOk a b :=
 Bu (m:=m+1) (n:=n+1) (GI h (Nat.pow_lt_pow_right (by decide) (IB _))) (GI g (Nat.pow_lt_pow_right (by decide) (IB _))) (by lia)
theorem cA {a:Int} (h:a.natAbs<=2 ^ m) (n):(a ^ n).natAbs<=2 ^ (m * n):=by
 rw [Int.natAbs_pow,Nat.pow_mul]
 exact Nat.pow_le_pow_left h n
theorem dZ {a:Int} (h:a.natAbs<=2 ^ m) (g:m<=n):a.natAbs<=2 ^ n:=Fy h (G0 (by decide) g)
theorem iM (hn:n.natAbs<=2 ^ nb) (hf:∀ k,(f k).natAbs<=2 ^ c):∀ k,(cG n f k).natAbs<=2 ^ (nb+c * k)
 | 0=>hn
 | k+1=>by
  show (cG n f k * f k).natAbs<=_
  rw [HB,Nat.mul_succ,<- Js,IJ]
  exact Jm (iM hn hf k) (hf k)
theorem l5 (h:∀ k,f k * g k=f' k * g' k):∀ k,cG n f k * cG n' g k=cG n f' k * cG n' g' k
 | 0=>rfl
 | k+1=>by
  show cG n f k * f k * (cG n' g k * g k)=cG n f' k * f' k * (cG n' g' k * g' k)
  have e:=l5 (n:=n) (n':=n') h k
  have e2:=h k
  grind
theorem l6 (h:∀ k,a<=k->f k=1):∀ k,a<=k->cG n f k=cG n f a:=by
 intro k hk
 induction k with
 | zero=>rw [Nat.le_zero.mp hk]
 | succ k ih =>
  by_cases e:a=k+1
  ·rw [e]
  ·show cG n f k * f k=_
   rw [h k (by lia),IL,ih (by lia)]
theorem kC (hn:0<n) (hf:∀ k,0<f k):∀ k,0<cG n f k
 | 0=>hn
 | k+1=>Int.mul_pos (kC hn hf k) (hf k)
theorem iN:∀ {L:List bz} (a:Int),a<=m->(∀ t∈L,dz t.1 k<=m)->L.foldl (λa t=>if dz t.1 k>a then dz t.1 k else a) a<=m
 | [],a,h,_=>h
 | t::L,a,h,h2=>by
  refine iN (L:=L) _ ?_ λu hu=>h2 u (FL _ hu)
  have:=h2 t FF
  show (if dz t.1 k>a then dz t.1 k else a)<=m
  split <;> lia
theorem iO:∀ {L:List bz} (a:Int) {t:bz},t∈L->dz t.1 k<=L.foldl (λa t=>if dz t.1 k>a then dz t.1 k else a) a
 | u::L,a,t,h=>by
  rcases FO.mp h with rfl | h
  ·refine F3 ?_ (pR L k _)
   show dz t.1 k<=if dz t.1 k>a then dz t.1 k else a
   split <;> lia
  ·exact iO (L:=L) _ h
section
variable {pl:List (Int×Int)}
theorem bq.at (h:bq L pl m G nb) (ht:t∈L) (k):0<=dz t.1 k/\dz t.1 k<=G:=by
 by_cases z:k<t.1.length
 ·rw [nC z]; exact (h.p t ht).2 _ (G6 _)
 ·rw [kq (by lia)]; lia
theorem bq.BS (h:bq L pl m G nb) (ht:t∈L) (k):pw t k<=G/\((pw t k:Nat):Int)=dz t.1 k:=by
 have:=h.at ht k
 unfold pw
 lia
theorem bq.g (h:bq L pl m G nb) (k):gN L k<=G/\((gN L k:Nat):Int)=gk L k:=by
 have h0:=yX L k
 have h1:gk L k<=G:=iN 0 (by lia) λt ht=>(h.at ht k).2
 unfold gN
 lia
theorem bq.le (h:bq L pl m G nb) (ht:t∈L) (k):pw t k<=gN L k:=by
 have h1:dz t.1 k<=gk L k:=iO 0 ht
 have:=(h.BS ht k).2
 have:=(h.g k).2
 lia
theorem bq.sp (h:bq L pl m G nb) (k):(fk pl k).1.natAbs<=2 ^ m/\(fk pl k).2.natAbs<=2 ^ m/\0<(fk pl k).2:=by
 unfold fk
 rw [GS]
 cases e:pl[k]? with
 | none=>exact ⟨Gw _,Nat.one_le_two_pow,by decide⟩
 | some x =>
  have:=h.b x (Ik e)
  exact ⟨GN this.1,GN this.2.1,this.2.2⟩
theorem bq.EY (h:bq L pl m G nb) {p g:Nat->Nat} {k:Nat} (hp:p k<=g k) (hg:g k<=G):(nH pl g p k).natAbs<=2 ^ (m * G):=by
 have s:=h.sp k
 unfold nH
 rw [HB]
 refine Fy (Jm (cA s.1 (p k)) (cA s.2.1 (g k - p k))) ?_
 rw [<- IJ,<- Nat.mul_add,show p k+(g k - p k)=g k by lia]
 exact G0 (by decide) (Gn _ hg)
theorem bq.Dv (h:bq L pl m G nb) (ht:t∈L) (k):(cG t.2 (nH pl (gN L) (pw t)) k).natAbs<=2 ^ (nb+m * G * k) :=
 iM (GN (h.n t ht)) (λj=>h.EY (h.le ht j) (h.g j).1) k
theorem bq.Bv (h:bq L pl m G nb) (k):(cG 1 (λk=>(fk pl k).2 ^ gN L k) k).natAbs<=2 ^ (m * G * k):=by
 have:=iM (n:=1) (nb:=0) (c:=m * G) (f:=λk=>(fk pl k).2 ^ gN L k) (by decide) (λj=>dZ (cA (h.sp j).2.1 _) (Gn _ (h.g j).1)) k
 rw [G3] at this; exact this
theorem bq.bpos (h:bq L pl m G nb):0<cC L pl:=kC (by decide) (λk=>Int.pow_pos (h.sp k).2.2) 6
theorem bq.Fd (h:bq L pl m G nb):Pz (cC L pl):=ue.mpr (GI (Fy (h.Bv 6) (G0 (by decide) h.s)) (by decide +kernel))
theorem bq.Fe (h:bq L pl m G nb):∀ {M:List bz},(∀ t∈M,t∈L)->(bL L pl M).natAbs<=M.length * 2 ^ (nb+m * G * 6):=by
 have key:∀ (M:List bz) (a:Int),(∀ t∈M,t∈L)->(M.foldl (λa t=>a+wW L pl t) a).natAbs<=a.natAbs+M.length * 2 ^ (nb+m * G * 6):=by
  intro M
  induction M with
  | nil=>intro a _; simp
  | cons t M ih =>
   intro a hM
   refine Fy (ih _ λu hu=>hM u (FL _ hu)) ?_
   have hw:(wW L pl t).natAbs<=2 ^ (nb+m * G * 6):=h.Dv (hM t FF) 6
   have e:(t::M).length * 2 ^ (nb+m * G * 6)=2 ^ (nb+m * G * 6)+M.length * 2 ^ (nb+m * G * 6):=by rw [GB,Nat.succ_mul,Nat.add_comm]
   rw [e]
   generalize 2 ^ (nb+m * G * 6)=B at *
   generalize M.length * B=C
   lia
 intro M hM
 have:=key M 0 hM
 simpa [bL] using this
end
end
section
variable {K:Fi}
noncomputable def BU:Fn:=λds r=>∃ (l:List Int) (k:Nat),ds=[.tup (l.map .int),.int (k:Int)]/\r=.ok (.va (.int (dz l k)))
theorem Dw (l) (k:Nat):BU [.tup (l.map .int),.int (k:Int)] (.ok (.va (.int (dz l k)))):=⟨l,k,rfl,rfl⟩
theorem Dy (Fu:gr K "power_at" "power_at" (top 8) f fd) (T:Txt K mg):bD P w K mg base (fZ P w) 1 f fd ["powers","k"] (fK K BU):=by
 refine cZ Fu lY (by rintro ds r ⟨l,k,rfl,_⟩; rfl) (by rintro ds r ⟨l,k,_,rfl⟩; exact ⟨_,rfl⟩) λc hq ds sl hF=>?_
 obtain ⟨l,k,rfl,e⟩:=hF
 injection e with e
 subst e
 show aQ c _ [.va (.tup (l.map .int)),.va (.int (k:Int))] _ _
 conv in (aE _)=>whnf
 walk_at "ev"
 ·rename_i h
  rw [Fx] at h
  refine l0 (by lia) (by lia) ?_
  show Sl.va _=Sl.va _
  rw [Gg,nC (by lia),GS,F7 (by lia)]
  rfl
 ·rename_i h
  rw [Fx] at h
  show Sl.va _=Sl.va _
  rw [kq (by lia)]
noncomputable def rj:Fn:=λds r=>∃ (m n:Nat) (b:Int),b.natAbs<=2 ^ m/\2 * (m * n)+10<=1000000/\ds=[.int b,.int (n:Int)]/\r=.ok (.va (.int (b ^ n)))
theorem vC {m n:Nat} (h:b.natAbs<=2 ^ m) (h2:2 * (m * n)+10<=1000000):rj [.int b,.int (n:Int)] (.ok (.va (.int (b ^ n)))):=⟨m,n,b,h,h2,rfl,rfl⟩
theorem l7 (b:Int) (j):b ^ 2 ^ j * b ^ 2 ^ j=b ^ 2 ^ (j+1):=by
 rw [<- Int.pow_add,Nat.pow_succ,Nat.mul_two]
theorem pV (q:Nat):(q:Int) / 2 ^ GR 1=((q / 2:Nat):Int):=by
 show (q:Int) / 2=_
 lia
theorem vD (q:Nat):Jp (q:Int) 1=(q:Int) % 2:=qX 1 (by lia)
section
local macro_rules | `(tactic| walk_at "evBo")=> `(tactic| first | with_reducible refine A9 ?_ | with_reducible refine Dn ?_)
local macro_rules | `(tactic| walk_at "evT")=> `(tactic| ((with_reducible show fH _ (IS _ _ _ _) _ _); with_reducible refine Bh ?_))
theorem Bw (Fu:gr K "raised" "raised" (top 10) f fd) (T:Txt K mg):bD P w K mg base (fZ P w) 1 f fd ["base","power"] (fK K rj):=by
 refine cZ Fu q8 (by rintro ds r ⟨m,n,b,_,_,rfl,_⟩; rfl) (by rintro ds r ⟨m,n,b,_,_,_,rfl⟩; exact ⟨_,rfl⟩) λc hq ds sl hF=>?_
 obtain ⟨m,n,b,hb,hm,rfl,e⟩:=hF
 injection e with e
 subst e
 show aQ c _ [.va (.int b),.va (.int (n:Int)),.un] _ _
 conv in (aE _)=>whnf
 walk_at "ev"
 with_reducible refine gv hq (λu ρ'=>∃ i j q:Nat,u=q/\i+2 ^ j * q=n/\ρ'=[.va (.int (b ^ (2 ^ j))),.va (.int (q:Int)),.va (.int (b ^ i))]) (m₀:=n) ?_ ?_
 ·exact ⟨0,0,n,rfl,by lia,by rw [HF,Nat.pow_zero,Int.pow_succ,HF,Int.one_mul]⟩
 ·rintro u ρ' ⟨i,j,q,rfl,hq,rfl⟩
  have hx:∀ e,e<=n->(b ^ e).natAbs<=2 ^ (m * n):=λe he=>dZ (cA hb e) (Gn _ he)
  have hi:i<=n:=by rw [<- hq]; exact IC _ _
  have hj:0<(u:Int)->2 ^ j<=n:=λh0=>by
   have:2 ^ j<=2 ^ j * u:=JL _ (by lia)
   lia
  walk_at "ev"
  all_goals first
   | exact dH (hx _ hi) (hx _ (hj (by assumption))) (by lia)
   | exact dH (hx _ (hj (by assumption))) (hx _ (hj (by assumption))) (by lia)
   | skip
  ·walk_at "ev"
   rename_i h0 h
   rw [vD] at h
   have h1:(u:Int) % 2≠0:=by simpa using h
   refine ⟨u / 2,by lia,i+2 ^ j,j+1,u / 2,rfl,?_,?_⟩
   ·rw [<- hq,Nat.pow_succ,Js,Nat.mul_assoc]
    have e:u=1+2 * (u / 2):=by lia
    conv=>rhs; rw [e,Nat.mul_add,Nat.mul_one]
   ·rw [pV,l7,<- Int.pow_add]
  ·rename_i h0 h
   rw [vD] at h
   have h1:(u:Int) % 2=0:=by simpa using h
   refine ⟨u / 2,by lia,i,j+1,u / 2,rfl,?_,?_⟩
   ·rw [<- hq,Nat.pow_succ,Nat.mul_assoc]
    have e:u=2 * (u / 2):=by lia
    conv=>rhs; rw [e]
   ·rw [pV,l7]
  ·have h0:u=0:=by lia
   subst h0
   have e:i=n:=by lia
   subst e
   rfl
end
end
section
variable {P:Program} {w:World} {K:Fi} {mg:Str->Option Value} {base:Heap}
noncomputable def EL (C:List (Int×Int)):D:=.fdK ((dU C).map (·.1)) ((dU C).map (·.2))
theorem jD (C:List (Int×Int)) (q v p:Int):aS (C++[(q,v)]) p=(aS C p).or (if q=p then some v else none):=by
 unfold aS
 rw [List.find?_append]
 cases C.find? (λkv=>decide (kv.1=p)) with
 | some x=>rfl
 | none =>
  rw [Gu]
  by_cases e:q=p <;> simp [e]
noncomputable def Dz (a b:Int) (g:Nat) (C:List (Int×Int)) (p:Nat):List (Int×Int):=if (aS C (p:Int)).isSome then C else C++[((p:Int),a ^ p * b ^ (g - p))]
noncomputable def iP (a b:Int) (g k:Nat) (M:List bz):List (Int×Int):=M.foldl (λC t=>Dz a b g C (pw t k)) []
theorem l8 (a b) (g k) (M) (t):iP a b g k (M++[t])=Dz a b g (iP a b g k M) (pw t k):=by
 unfold iP
 rw [J9]
 rfl
theorem yY (a b) (g k) (M):(iP a b g k M).length<=M.length/\(∀ p v,aS (iP a b g k M) p=some v->v=a ^ p.toNat * b ^ (g - p.toNat))/\∀ t∈M,(aS (iP a b g k M) (pw t k)).isSome:=by
 have key:∀ M:List bz,(iP a b g k M.reverse).length<=M.length/\(∀ p v,aS (iP a b g k M.reverse) p=some v->v=a ^ p.toNat * b ^ (g - p.toNat))/\∀ t∈M,(aS (iP a b g k M.reverse) (pw t k)).isSome:=by
  intro M
  induction M with
  | nil=>exact ⟨Fq _,(λp v h=>by cases h),λt h=>by cases h⟩
  | cons t M ih =>
   obtain ⟨i1,i2,i3⟩:=ih
   rw [List.reverse_cons,l8]
   generalize iP a b g k M.reverse=C at *
   unfold Dz
   by_cases h:(aS C (pw t k:Int)).isSome=true
   ·rw [if_pos h]
    refine ⟨J7 i1,i2,λu hu=>?_⟩
    rcases FO.mp hu with rfl | hu
    ·exact h
    ·exact i3 u hu
   ·rw [if_neg h]
    refine ⟨by rw [Gz]; exact Iw i1,λp v hv=>?_,λu hu=>?_⟩
    ·rw [jD] at hv
     cases e:aS C p with
     | some x=>rw [e] at hv; cases hv; exact i2 p _ e
     | none =>
      rw [e] at hv
      by_cases z:(pw t k:Int)=p
      ·simp only [z,if_true,Option.none_or] at hv
       cases hv
       rw [<- z,Gg]
      ·simp [z] at hv
    ·rw [jD]
     rcases FO.mp hu with rfl | hu
     ·cases aS C (pw u k:Int) <;> simp
     ·have:=i3 u hu
      cases e:aS C (pw u k:Int) with
      | some x=>rfl
      | none=>rw [e] at this; cases this
 have:=key M.reverse
 rw [List.reverse_reverse,List.length_reverse] at this
 exact ⟨this.1,this.2.1,λt ht=>this.2.2 t (List.mem_reverse.mpr ht)⟩
theorem Bx (ht:t∈M):aS (iP a b g k M) (pw t k)=some (a ^ pw t k * b ^ (g - pw t k)):=by
 have h:=yY a b g k M
 have h3:=h.2.2 t ht
 cases e:aS (iP a b g k M) (pw t k) with
 | none=>rw [e] at h3; cases h3
 | some v=>rw [h.2.1 _ v e,Gg]
noncomputable def yk:Fn:=λds r=>∃ (L:List bz) (k g m:Nat) (a b:Int),(∀ t∈L,((pw t k:Nat):Int)=dz t.1 k/\pw t k<=g)/\L.length<=400000/\a.natAbs<=2 ^ m/\b.natAbs<=2 ^ m/\4 * (m * g)+20<=1000000 /\
 ds=[.lst (L.map aB),.int (k:Int),.tup [.int a,.int b],.int (g:Int)]/\r=.ok (.va (EL (iP a b g k L)))
theorem DA (h:∀ t∈L,((pw t k:Nat):Int)=dz t.1 k/\pw t k<=g) (hl:L.length<=400000) (ha:a.natAbs<=2 ^ m) (hb:b.natAbs<=2 ^ m) (hm:4 * (m * g)+20<=1000000) :
 yk [.lst (L.map aB),.int (k:Int),.tup [.int a,.int b],.int (g:Int)] (.ok (.va (EL (iP a b g k L)))):=⟨L,k,g,m,a,b,h,hl,ha,hb,hm,rfl,rfl⟩
section
local macro_rules | `(tactic| walk_at "evX")=> `(tactic| first | ((with_reducible show cR _ (Expr.Dict _ _ _) _ _); with_reducible refine w9 ?_))
local macro_rules | `(tactic| walk_at "evCa")=> `(tactic| first
 | with_reducible refine aX (F:=BU) (by assumption) (by decide) ?_
 | with_reducible refine aX (F:=rj) (by assumption) (by decide) ?_)
local macro_rules | `(tactic| walk_at "evR")=> `(tactic| first | with_reducible refine bg (Dw _ _) ?_)
local macro_rules | `(tactic| walk_at "evIx")=> `(tactic| first | ((with_reducible show aA _ (GD _ (Ju _ _ _) _) _ _); with_reducible refine kZ ?_))
theorem By (Fu:gr K "scaled_powers" "scaled_powers" (top 11) f fd) (T:Txt K mg) (h1:gn P w K mg base 1 "power_at" BU) (h2:gn P w K mg base 1 "raised" rj):bD P w K mg base (fZ P w) 2 f fd ["some","k","fraction","most"] (fK K yk):=by
 refine cZ Fu fT (by rintro ds r ⟨L,k,g,m,a,b,_,_,_,_,_,rfl,_⟩; rfl) (by rintro ds r ⟨L,k,g,m,a,b,_,_,_,_,_,_,rfl⟩; exact ⟨_,rfl⟩) λc hq ds sl hF=>?_
 obtain ⟨L,k,g,m,a,b,hL,hl,ha,hb,hm,rfl,e⟩:=hF
 injection e with e
 subst e
 show aQ c _ [.va (.lst (L.map aB)),.va (.int (k:Int)),.va (.tup [.int a,.int b]),.va (.int (g:Int)),.un,.un,.un,.un] _ _
 conv in (aE _)=>whnf
 walk_at "ev"
 with_reducible refine cK hq (gX ?_)
 walk_at "ev"
 refine ⟨λi ρ'=>∃ s5 s6 s7:Sl,ρ'=[.va (.lst (L.map aB)),.va (.int (k:Int)),.va (.tup [.int a,.int b]),.va (.int (g:Int)),.oK (dU (iP a b g k (L.take i))),s5,s6,s7],⟨_,_,_,rfl⟩,?_,?_⟩
 ·rintro c' rF zd ze i d ρ' hd ⟨s5,s6,s7,rfl⟩
  simp only [FN,F5] at hd
  obtain ⟨t,ht,rfl⟩:=hd
  obtain ⟨hi,rfl⟩:=FA.mp ht
  have hmem:L[i]∈L:=G6 hi
  have et:L.take (i+1)=L.take i++[L[i]]:=HH hi
  obtain ⟨hp,hg⟩:=hL _ hmem
  have hsz:(dU (iP a b g k (L.take i))).length<sizeLine:=fU (by
   have:=(yY a b g k (L.take i)).1
   unfold dU
   rw [Fx]
   rw [Gh] at this; lia)
  have est:iP a b g k (L.take (i+1))=Dz a b g (iP a b g k (L.take i)) (pw L[i] k):=by rw [et,l8]
  unfold Dz at est
  generalize iP a b g k (L.take i)=C at hsz est |-
  generalize L[i]=t at hp hg est |-
  show mV c' _ (D.tup [.tup (t.1.map .int),.int t.2]) _ _
  walk_at "ev"
  rw [<- hp]
  generalize pw t k=p at hg est |-
  have e1:(g:Int) - (p:Int)=((g - p:Nat):Int):=by lia
  have m1:m * p<=m * g:=Gn _ hg
  have m2:m * (g - p)<=m * g:=Gn _ (by lia)
  refine k8 (by walk_at "at") (by walk_at "at") ?_
  walk_at "ev"
  refine ⟨_,.k rfl rfl,?_⟩
  rw [iJ]
  cases hv:aS C (p:Int) with
  | some v =>
   show gT _ _ false
   walk_at "ev"
   show ∃ s5 s6 s7:Sl,_=[_,_,_,_,Sl.oK (dU (iP a b g k (L.take (i+1)))),s5,s6,s7]
   rw [est,hv,show (if (some v).isSome=true then C else C++[((p:Int),a ^ p * b ^ (g - p))])=C from rfl]
   exact ⟨_,_,_,rfl⟩
  | none =>
   show gT _ _ true
   walk_at "ev"
   refine bg (vC ha (by lia)) ?_
   walk_at "ev"
   rw [e1]
   refine bg (vC hb (by lia)) ?_
   walk_at "ev"
   ·exact dH (dZ (cA ha _) m1) (dZ (cA hb _) m2) (by lia)
   walk_at "ev"
   refine ⟨_,.k rfl rfl hsz,?_⟩
   walk_at "ev"
   rw [vc,show putD C (p:Int) (a ^ p * b ^ (g - p))=C++[((p:Int),a ^ p * b ^ (g - p))] from if_neg (by rw [hv]; simp)]
   show ∃ s5 s6 s7:Sl,_=[_,_,_,_,Sl.oK (dU (iP a b g k (L.take (i+1)))),s5,s6,s7]
   rw [est,hv,if_neg (by simp)]
   exact ⟨_,_,_,rfl⟩
 ·rintro ρ' ⟨s5,s6,s7,rfl⟩
  rw [Fx,Hw]
  refine x9 4 (by walk_at "at") rfl (by walk_at "sset") ?_
  walk_at "ev"
  rfl
end
end
section
variable {K:Fi}
theorem fm (n):(i6 0 n).length=n:=by simp [i6]
noncomputable def yZ (L:List bz) (pl:List (Int×Int)) (k:Nat):D:=EL (iP (fk pl k).1 (fk pl k).2 (gN L k) k L)
noncomputable def rm:Fn:=λds r=>∃ (L:List bz) (pl:List (Int×Int)) (m G nb:Nat),bq L pl m G nb/\ds=[.lst (L.map aB),.lst (pl.map cQ)]/\r=.ok (.va (bZ (bL L pl L) (cC L pl)))
theorem vE {pl:List (Int×Int)} (h:bq L pl m G nb):rm [.lst (L.map aB),.lst (pl.map cQ)] (.ok (.va (bZ (bL L pl L) (cC L pl)))):=⟨L,pl,m,G,nb,h,rfl,rfl⟩
theorem DB {pl:List (Int×Int)} (h:k<pl.length):gM (pl.map cQ) (k:Int)=some (cQ (fk pl k)):=by
 rw [dj (by lia) (by rw [Fx]; lia),Gg,FN,F7 h]
 unfold fk
 rw [GS,F7 h]
 rfl
theorem yl {pl:List (Int×Int)} (h:¬ k<pl.length):fk pl k=(0,1):=by
 unfold fk
 rw [GS,Ij (by lia)]
 rfl
theorem DC {pl:List (Int×Int)} {k:Nat} (h:k<6):gM ((Gf 6).map (yZ L pl)) (k:Int)=some (yZ L pl k):=by
 rw [dj (by lia) (by rw [Fx,List.length_range]; lia),Gg,FN,List.getElem?_range h]
 rfl
section
local macro_rules | `(tactic| walk_at "evE")=> `(tactic| first | ((with_reducible show aA _ (FP "PLACES" _) _ _); with_reducible refine sH (by assumption) ?_))
local macro_rules | `(tactic| walk_at "evCa")=> `(tactic| first
 | with_reducible refine aX (F:=BU) (by assumption) (by decide) ?_
 | with_reducible refine aX (F:=iL) (by assumption) (by decide) ?_
 | with_reducible refine aX (F:=yk) (by assumption) (by decide) ?_
 | with_reducible refine aX (F:=rj) (by assumption) (by decide) ?_)
local macro_rules | `(tactic| walk_at "evXC")=> `(tactic| first
 | with_reducible refine x_call (x:=Fg "greatest_powers") (F:=iL) (by assumption) (by decide) ?_
 | with_reducible refine x_call (x:=Fg "fraction_of") (F:=DM) (by assumption) (by decide) ?_)
local macro_rules | `(tactic| walk_at "evR")=> `(tactic| first | with_reducible refine bg (Dw _ _) ?_)
local macro_rules | `(tactic| walk_at "evIx")=> `(tactic| first | ((with_reducible show aA _ (GD _ (Ju _ _ _) _) _ _); with_reducible refine kZ ?_))
local macro_rules | `(tactic| walk_at "evIx")=> `(tactic| first | ((with_reducible show aA _ (GD (GD _ _ _) _ _) _ _); with_reducible refine Bd ?_))
theorem BA (Fu:gr K "worth_at" "worth_at" (top 12) f fd) (T:Txt K mg) (PL:∃ tk:Tok,mg "PLACES"=some (.int 6 tk)) (h1:gn P w K mg base 1 "power_at" BU) (h2:gn P w K mg base 1 "raised" rj) (h3:gn P w K mg base 1 "greatest_powers" iL) (h4:gn P w K mg base 2 "scaled_powers" yk) (h5:gn P w K mg base 2 "fraction_of" DM):bD P w K mg base (fZ P w) 3 f fd ["some","place"] (fK K rm):=by
 obtain ⟨tk,hPL⟩:=PL
 refine cZ Fu lZ (by rintro ds r ⟨L,pl,m,G,nb,_,rfl,_⟩; rfl) (by rintro ds r ⟨L,pl,m,G,nb,_,_,rfl⟩; exact ⟨_,rfl⟩) λc hq ds sl hF=>?_
 obtain ⟨L,pl,m,G,nb,ok,rfl,e⟩:=hF
 injection e with e
 subst e
 have mge:∀ {z:Nat},z<=G->m * z<=8600:=λ{z} he=>by
  have h:=ok.s
  have:m * z<=m * G:=Gn _ he
  have:m * G<=m * G * 6:=JL _ (by decide)
  lia
 show aQ c _ [.va (.lst (L.map aB)),.va (.lst (pl.map cQ)),.un,.un,.un,.un,.un,.un,.un,.un,.un] _ _
 conv in (aE _)=>whnf
 refine aW ?_
 generalize hG:(λρ'=>aQ c _ ρ' _ _)=Z
 walk_at "ev"
 refine bg (yj λt ht=>(ok.p t ht).1) ?_
 walk_at "ev"
 subst hG
 refine dO 2 (d0:=.lst (bX (gk L))) (by walk_at "at") rfl (by walk_at "sset") ?_
 walk_at "ev"
 with_reducible refine cK hq (cy (Txt.range (by assumption)) ?_)
 walk_at "ev"
 ·exact ⟨by decide,by decide⟩
 refine ⟨λk ρ'=>∃ s5 s6:Sl,ρ'=[.va (.lst (L.map aB)),.va (.lst (pl.map cQ)),.va (.lst (bX (gk L))),.ow ((Gf k).map (yZ L pl)),.va (.int (cG 1 (λk=>(fk pl k).2 ^ gN L k) k)),s5,s6,.un,.un,.un,.un],⟨_,_,rfl⟩,?_,?_⟩
 ·rintro c' rF zd ze k d ρ' hd ⟨s5,s6,rfl⟩
  obtain ⟨hk,rfl⟩:=cV hd
  have hk:k<6:=hk
  refine fJ (by walk_at "at") (yI (by walk_at "sset") ?_)
  have hs:=ok.sp k
  have hg:=ok.g k
  have gat:gM (bX (gk L)) (k:Int)=some (.int (gN L k:Nat)):=by rw [pS _ hk,hg.2]
  have bb:=ok.Bv k
  refine aW (sO (i:=6) (by walk_at "at") (BP (aA.imp (R:=λd=>d=cQ (fk pl k)) ?_ ?_)))
  ·walk_at "ev"
   ·rename_i h
    rw [Fx] at h
    refine gW (DB (by lia)) rfl
   ·rename_i h
    rw [Fx] at h
    rw [yl (by lia)]; rfl
  rintro d rfl
  refine yI (by walk_at "sset") ?_
  refine aW (tO (by walk_at "at") (by walk_at "at") rfl ?_)
  walk_at "ev"
  refine gW gat ?_
  walk_at "ev"
  refine bg (DA (m:=m) (a:=(fk pl k).1) (b:=(fk pl k).2) (λt ht=>⟨(ok.BS ht k).2,ok.le ht k⟩) ok.l hs.1 hs.2.1 (by have:=mge hg.1; lia)) ?_
  walk_at "ev"
  ·exact fU (by rw [Fx,List.length_range]; lia)
  walk_at "ev"
  refine gW gat ?_
  walk_at "ev"
  refine bg (vC hs.2.1 (by have:=mge hg.1; lia)) ?_
  walk_at "ev"
  ·exact dH bb (dZ (cA hs.2.1 _) (Gn _ hg.1)) (by
    have h:=ok.s
    have h1:m * G * k<=m * G * 6:=Gn _ (by lia)
    have h2:=mge (Fq G)
    lia)
  walk_at "ev"
  refine ⟨.va (.int (k:Int)),.va (cQ (fk pl k)),?_⟩
  show [_,_,_,Sl.ow _,_,_,_,_,_,_,_]=[_,_,_,Sl.ow ((Gf (k+1)).map (yZ L pl)),_,_,_,_,_,_,_]
  rw [List.range_succ,G7]
  rfl
 ·rintro ρ' ⟨s5,s6,rfl⟩
  rw [fm]
  refine dO 3 (d0:=.lst ((Gf 6).map (yZ L pl))) (by walk_at "at") rfl (by walk_at "sset") ?_
  show aQ c _ [.va (.lst (L.map aB)),.va (.lst (pl.map cQ)),.va (.lst (bX (gk L))),.va (.lst ((Gf 6).map (yZ L pl))),.va (.int (cC L pl)),s5,s6,.un,.un,.un,.un] _ _
  walk_at "ev"
  with_reducible refine cK hq (gX ?_)
  walk_at "ev"
  refine ⟨λi ρ'=>∃ s5 s8 s9 s10:Sl,ρ'=[.va (.lst (L.map aB)),.va (.lst (pl.map cQ)),.va (.lst (bX (gk L))),.va (.lst ((Gf 6).map (yZ L pl))),.va (.int (cC L pl)),s5,s6,.va (.int (bL L pl (L.take i))),s8,s9,s10],⟨_,_,_,_,rfl⟩,?_,?_⟩
  ·rintro c' rF zd ze i d ρ' hd ⟨s5,s8,s9,s10,rfl⟩
   simp only [FN,F5] at hd
   obtain ⟨t,ht,rfl⟩:=hd
   obtain ⟨hi,rfl⟩:=FA.mp ht
   have hmem:L[i]∈L:=G6 hi
   have est:bL L pl (L.take (i+1))=bL L pl (L.take i)+wW L pl L[i]:=by rw [HH hi,jC]
   unfold wW at est
   generalize bL L pl (L.take i)=S at est |-
   generalize L[i]=t at hmem est |-
   show mV c' _ (D.tup [.tup (t.1.map .int),.int t.2]) _ _
   walk_at "ev"
   refine cK (by rw [rF]; exact hq) (cy (Txt.range (by assumption)) ?_)
   walk_at "ev"
   ·exact ⟨by decide,by decide⟩
   refine ⟨λk ρ''=>∃ s5:Sl,ρ''=[.va (.lst (L.map aB)),.va (.lst (pl.map cQ)),.va (.lst (bX (gk L))),.va (.lst ((Gf 6).map (yZ L pl))),.va (.int (cC L pl)),s5,s6,.va (.int S),.va (.tup (t.1.map .int)),.va (.int t.2),.va (.int (cG t.2 (nH pl (gN L) (pw t)) k))],⟨_,rfl⟩,?_,?_⟩
   ·rintro c'' hdX hdR hdM k d ρ'' hd ⟨s5,rfl⟩
    obtain ⟨hk,rfl⟩:=cV hd
    have hk:k<6:=hk
    have hv:aS (dU (iP (fk pl k).1 (fk pl k).2 (gN L k) k L)) (.inl (dz t.1 k))=some (.int (nH pl (gN L) (pw t) k)):=by
     rw [iJ,<- (ok.BS hmem k).2,Bx hmem]
     rfl
    have hw:=ok.Dv hmem k
    have hf:=ok.EY (ok.le hmem k) (ok.g k).1
    refine fJ (by walk_at "at") (yI (by walk_at "sset") ?_)
    walk_at "ev"
    refine gW (DC hk) ?_
    walk_at "ev"
    refine ⟨_,_,_,rfl,rfl,hv,?_⟩
    walk_at "ev"
    ·exact dH hw hf (by
      have h:=ok.s
      have h1:m * G * k<=m * G * 6:=Gn _ (by lia)
      have h2:=mge (Fq G)
      have h3:=ok.s2
      lia)
    walk_at "ev"
    exact ⟨_,rfl⟩
   ·rintro ρ'' ⟨s5,rfl⟩
    rw [fm]
    walk_at "ev"
    show ∃ s5 s8 s9 s10:Sl,_=[_,_,_,_,_,s5,s6,.va (.int (bL L pl (L.take (i+1)))),s8,s9,s10]
    rw [est]
    exact ⟨_,_,_,_,rfl⟩
  ·rintro ρ' ⟨s5,s8,s9,s10,rfl⟩
   rw [Fx,Hw]
   walk_at "ev"
   exact bg (EK (Int.ne_of_gt ok.bpos) ok.Fd) rfl
end
end
section
variable {K:Fi}
noncomputable def rE (pl:List (Int×Int)) (p:Nat->Nat) (k:Nat):Int:=(fk pl k).1 ^ p k
noncomputable def pW (pl:List (Int×Int)) (p:Nat->Nat) (k:Nat):Int:=(fk pl k).2 ^ p k
theorem vF (hb:b≠0):nT 0 b=0/\nB 0 b=1:=by
 have h:=n_eq (a:=0) (c:=0) hb (show (1:Int)≠0 by decide) (by lia)
 exact ⟨h.1.trans (by decide +kernel),h.2.trans (by decide +kernel)⟩
theorem pw_out (h:t.1.length<=k):pw t k=0:=by
 unfold pw
 rw [kq h]; rfl
section
variable {pl:List (Int×Int)}
theorem bq.over (h:bq L pl m G nb) (ht:t∈L) (k):(cG t.2 (rE pl (pw t)) k).natAbs<=2 ^ (nb+m * G * k) :=
 iM (GN (h.n t ht)) (λj=>dZ (cA (h.sp j).1 _) (Gn _ (h.BS ht j).1)) k
theorem bq.under (h:bq L pl m G nb) (ht:t∈L) (k):(cG 1 (pW pl (pw t)) k).natAbs<=2 ^ (m * G * k):=by
 have:=iM (n:=1) (nb:=0) (c:=m * G) (f:=pW pl (pw t)) (by decide) (λj=>dZ (cA (h.sp j).2.1 _) (Gn _ (h.BS ht j).1)) k
 rw [G3] at this; exact this
theorem bq.EM (h:bq L pl m G nb) (k):0<cG 1 (pW pl (pw t)) k:=kC (by decide) (λj=>Int.pow_pos (h.sp j).2.2) k
theorem vG:cG t.2 (rE pl (pw t)) 6=cG t.2 (rE pl (pw t)) t.1.length\/6<t.1.length:=by
 by_cases h:t.1.length<=6
 ·exact .inl (l6 (λk hk=>by unfold rE; rw [pw_out hk,HF]) 6 h)
 ·exact .inr (by lia)
theorem rA:cG 1 (pW pl (pw t)) 6=cG 1 (pW pl (pw t)) t.1.length\/6<t.1.length:=by
 by_cases h:t.1.length<=6
 ·exact .inl (l6 (λk hk=>by unfold pW; rw [pw_out hk,HF]) 6 h)
 ·exact .inr (by lia)
theorem bq.same (h:bq L pl m G nb) (ht:t∈L):cG t.2 (rE pl (pw t)) t.1.length * cC L pl=wW L pl t * cG 1 (pW pl (pw t)) t.1.length:=by
 have h6:=(h.p t ht).1
 rw [<- (vG (pl:=pl) (t:=t)).resolve_right (by lia),<- (rA (pl:=pl) (t:=t)).resolve_right (by lia)]
 refine l5 (λk=>?_) 6
 unfold rE pW nH
 have hl:=h.le ht k
 rw [Jt,<- Int.pow_add,show gN L k - pw t k+pw t k=gN L k by lia]
theorem step_eq {T B S W o u Z:Int} (h1:T * Z=S * B) (h2:o * Z=W * u):(T * u+o * B) * Z=(S+W) * (B * u):=by grind
end
theorem BB {pl:List (Int×Int)} {k:Nat} (h:k<6):gM (pl.map cQ++(FW 6 [D.tup [.int 0,.int 1]]).flatten) (k:Int)=some (cQ (fk pl k)):=by
 have e:(FW 6 [D.tup [.int 0,.int 1]]).flatten=(FW 6 ((0,1):Int×Int)).map cQ:=rfl
 rw [e,<- G7,dj (by lia) (by rw [Fx,Gz,List.length_replicate]; lia),Gg,FN]
 unfold fk
 rw [GS]
 by_cases z:k<pl.length
 ·rw [Ii z,F7 z]; rfl
 ·rw [IV (by lia),Ij (l:=pl) (by lia),List.getElem?_replicate,if_pos (by lia)]; rfl
noncomputable def ym:Fn:=λds r=>∃ (L:List bz) (pl:List (Int×Int)) (m G nb:Nat),bq L pl m G nb/\ds=[.lst (L.map aB),.lst (pl.map cQ)]/\r=.ok (.va (bZ (bL L pl L) (cC L pl)))
theorem y9 {pl:List (Int×Int)} (h:bq L pl m G nb):ym [.lst (L.map aB),.lst (pl.map cQ)] (.ok (.va (bZ (bL L pl L) (cC L pl)))):=⟨L,pl,m,G,nb,h,rfl,rfl⟩
section
local macro_rules | `(tactic| walk_at "evBo")=> `(tactic| first | ((with_reducible show aA _ (IS (Expr.List _ _) Operator.Mult _ _) _ _); with_reducible refine EB (yV ?_)))
local macro_rules | `(tactic| walk_at "evIx")=> `(tactic| first | ((with_reducible show aA _ (GD _ (Ju _ _ _) _) _ _); with_reducible refine kZ ?_))
local macro_rules | `(tactic| walk_at "evCa")=> `(tactic| first | with_reducible refine aX (F:=nG) (by assumption) (by decide) ?_)
theorem BC (Fu:gr K "_law_worth" "_law_worth" (top 22) f fd) (T:Txt K mg) (h1:gn P w K mg base 34 "_law_fraction" nG):bD P w K mg base (fZ P w) 35 f fd ["_law_some","_law_place"] (fK K ym):=by
 refine cZ Fu nF (by rintro ds r ⟨L,pl,m,G,nb,_,rfl,_⟩; rfl) (by rintro ds r ⟨L,pl,m,G,nb,_,_,rfl⟩; exact ⟨_,rfl⟩) λc hq ds sl hF=>?_
 obtain ⟨L,pl,m,G,nb,ok,rfl,e⟩:=hF
 injection e with e
 subst e
 have hb:cC L pl≠0:=Int.ne_of_gt ok.bpos
 have z0:=vF hb
 have mG:m * G * 6<=8600:=ok.s
 have mG1:m * G<=8600:=by
  have:m * G<=m * G * 6:=JL _ (by decide)
  lia
 have nb1:=ok.s2
 have m1:=ok.s3.2
 show aQ c _ [.va (.lst (L.map aB)),.va (.lst (pl.map cQ)),.un,.un,.un,.un,.un,.un,.un,.un,.un] _ { rt:=λz=>z=.va (bZ (bL L pl L) (cC L pl)) }
 conv in (aE _)=>whnf
 walk_at "ev"
 with_reducible refine cK hq (gX ?_)
 walk_at "ev"
 refine ⟨λi ρ'=>∃ s4 s5 s6 s7 s8 s9 s10:Sl,ρ'=[.va (.lst (L.map aB)),.va (.lst (pl.map cQ)),.va (.int (nT (bL L pl (L.take i)) (cC L pl))),.va (.int (nB (bL L pl (L.take i)) (cC L pl))),s4,s5,s6,s7,s8,s9,s10],⟨_,_,_,_,_,_,_,by rw [List.take_zero,show bL L pl []=0 from rfl,z0.1,z0.2]⟩,?_,?_⟩
 ·rintro c' rF zd ze i d ρ' hd ⟨s4,s5,s6,s7,s8,s9,s10,rfl⟩
  simp only [FN,F5] at hd
  obtain ⟨t,ht,rfl⟩:=hd
  obtain ⟨hi,rfl⟩:=FA.mp ht
  have hmem:L[i]∈L:=G6 hi
  have est:bL L pl (L.take (i+1))=bL L pl (L.take i)+wW L pl L[i]:=by rw [HH hi,jC]
  have hS:(nT (bL L pl (L.take i)) (cC L pl)).natAbs<=2 ^ (30000):=by
   refine Fy (oN hb) (Fy (ok.Fe λt ht=>JS ht) ?_)
   have hl:(L.take i).length<=2 ^ 19:=by rw [Gh]; have:=ok.l; exact Fy (Iz _ _) (Fy this (by decide))
   refine Fy (Nat.mul_le_mul_right _ hl) ?_
   rw [<- IJ]
   exact G0 (by decide) (by lia)
  have hB:(nB (bL L pl (L.take i)) (cC L pl)).natAbs<=2 ^ 8600:=Fy (oO hb) (Fy (ok.Bv 6) (G0 (by decide) mG))
  have hc:=j4 (a:=bL L pl (L.take i)) hb
  have hp:=Df (a:=bL L pl (L.take i)) hb
  generalize bL L pl (L.take i)=S at est hS hB hc hp |-
  generalize nT S (cC L pl)=T0 at hS hc |-
  generalize nB S (cC L pl)=B0 at hB hc hp |-
  generalize L[i]=t at hmem est |-
  have hs:=ok.same hmem
  have hu:=ok.EM (t:=t) t.1.length
  have hlen:=(ok.p t hmem).1
  show mV c' _ (D.tup [.tup (t.1.map .int),.int t.2]) _ _
  walk_at "ev"
  refine cK (by rw [rF]; exact hq) (cy (Txt.range (by assumption)) ?_)
  walk_at "ev"
  ·exact ⟨by lia,by rw [Fx]; lia⟩
  rw [Fx,Gg]
  refine ⟨λk ρ''=>∃ s8 s9 s10:Sl,ρ''=[.va (.lst (L.map aB)),.va (.lst (pl.map cQ)),.va (.int T0),.va (.int B0),.va (.tup (t.1.map .int)),.va (.int t.2),.va (.int (cG t.2 (rE pl (pw t)) k)),.va (.int (cG 1 (pW pl (pw t)) k)),s8,s9,s10],⟨_,_,_,rfl⟩,?_,?_⟩
  ·rintro c'' hdX hdR hdM k d ρ'' hd ⟨s8,s9,s10,rfl⟩
   obtain ⟨hk,rfl⟩:=cV hd
   have hk6:k<6:=by lia
   have ho:=ok.over hmem k
   have hn:=ok.under hmem k
   have mq:=ok.sp k
   have hpw:=ok.BS hmem k
   refine fJ (by walk_at "at") (yI (by walk_at "sset") ?_)
   walk_at "ev"
   refine ⟨_,rfl,?_⟩
   walk_at "ev"
   ·exact ⟨⟨by decide,by decide⟩,by decide⟩
   ·exact Ds (by
     have:=ok.q
     show (pl.map cQ).length+6<=1000000
     rw [Fx]; lia)
   walk_at "ev"
   refine gW (BB hk6) ?_
   walk_at "ev"
   refine cK (by rw [hdX,rF]; exact hq) (cy (Txt.range (by assumption)) ?_)
   refine aA.imp (R:=λd=>d=.int (pw t k:Nat)) ?_ ?_
   ·refine kZ ?_
    walk_at "ev"
    refine l0 (by lia) (by lia) ?_
    rw [hpw.2,Gg]
   rintro _ rfl
   have hG:pw t k<=G:=hpw.1
   refine i1 (Sd.mk ⟨by lia,by have:=ok.s4; lia⟩ ?_)
   rw [Gg]
   have ea:cG t.2 (rE pl (pw t)) (k+1)=cG t.2 (rE pl (pw t)) k * (fk pl k).1 ^ pw t k:=rfl
   have eb:cG 1 (pW pl (pw t)) (k+1)=cG 1 (pW pl (pw t)) k * (fk pl k).2 ^ pw t k:=rfl
   have k6:m * G * k<=8600:=Fy (Gn _ (by lia)) mG
   generalize cG t.2 (rE pl (pw t)) k=o at ho ea |-
   generalize cG 1 (pW pl (pw t)) k=u at hn eb |-
   generalize hx:fk pl k=x at mq ea eb |-
   obtain ⟨a,b⟩:=x
   have mq:a.natAbs<=2 ^ m/\b.natAbs<=2 ^ m/\0<b:=mq
   refine ⟨λj ρ3=>∃ s10:Sl,ρ3=[.va (.lst (L.map aB)),.va (.lst (pl.map cQ)),.va (.int T0),.va (.int B0),.va (.tup (t.1.map .int)),.va (.int t.2),.va (.int (o * a ^ j)),.va (.int (u * b ^ j)),.va (.int (k:Int)),.va (.tup [.int a,.int b]),s10],⟨_,by rw [HF,HF,IL,IL]; rfl⟩,?_,?_⟩
   ·rintro c3 heX heR heM j d ρ3 hd ⟨s10,rfl⟩
    obtain ⟨hj,rfl⟩:=cV hd
    have mj:m * j<=m * G:=Gn _ (by lia)
    have hoj:(o * a ^ j).natAbs<=2 ^ 40000:=by
     rw [HB]
     refine Fy (Jm ho (cA mq.1 j)) ?_
     rw [<- IJ]
     exact G0 (by decide) (by lia)
    have huj:(u * b ^ j).natAbs<=2 ^ 40000:=by
     rw [HB]
     refine Fy (Jm hn (cA mq.2.1 j)) ?_
     rw [<- IJ]
     exact G0 (by decide) (by lia)
    walk_at "ev"
    ·exact dH hoj mq.1 (by lia)
    walk_at "ev"
    ·exact dH huj mq.2.1 (by lia)
    walk_at "ev"
    refine ⟨.va (.int (j:Int)),?_⟩
    rw [Int.pow_succ,Int.pow_succ,<- Jt,<- Jt]
   ·rintro ρ3 ⟨s10,rfl⟩
    rw [fm]
    walk_at "ev"
    show ∃ s8 s9 s10:Sl,_=[_,_,_,_,_,_,.va (.int (cG t.2 (rE pl (pw t)) (k+1))),.va (.int (cG 1 (pW pl (pw t)) (k+1))),s8,s9,s10]
    rw [ea,eb]
    exact ⟨_,_,_,rfl⟩
  ·rintro ρ'' ⟨s8,s9,s10,rfl⟩
   rw [fm]
   have ho:=ok.over hmem t.1.length
   have hn:=ok.under hmem t.1.length
   have m6:m * G * t.1.length<=8600:=Fy (Gn _ hlen) mG
   generalize cG t.2 (rE pl (pw t)) t.1.length=o at ho hs |-
   generalize cG 1 (pW pl (pw t)) t.1.length=u at hn hs hu |-
   have eq:=step_eq hc hs
   have hbu:B0 * u≠0:=Int.mul_ne_zero hp (by lia)
   have ne:=n_eq (a:=T0 * u+o * B0) (b:=B0 * u) (c:=S+wW L pl t) (d:=cC L pl) hbu hb eq
   walk_at "ev"
   ·exact dH hS hn (by lia)
   ·exact dH ho hB (by lia)
   walk_at "ev"
   ·exact dH hB hn (by lia)
   walk_at "ev"
   refine bg (vv hbu) ?_
   walk_at "ev"
   show ∃ s4 s5 s6 s7 s8 s9 s10:Sl,[_,_,.va (.int (nT (T0 * u+o * B0) (B0 * u))),.va (.int (nB (T0 * u+o * B0) (B0 * u))),_,_,_,_,_,_,_]=[_,_,.va (.int (nT (bL L pl (L.take (i+1))) (cC L pl))),.va (.int (nB (bL L pl (L.take (i+1))) (cC L pl))),s4,s5,s6,s7,s8,s9,s10]
   rw [est,ne.1,ne.2]
   exact ⟨_,_,_,_,_,_,_,rfl⟩
 ·rintro ρ' ⟨s4,s5,s6,s7,s8,s9,s10,rfl⟩
  rw [Fx,Hw]
  walk_at "ev"
  rfl
end
end
section
variable {P:Program} {w:World} {K:Fi} {mg:Str->Option Value} {base:Heap}
theorem iQ {α:Type} (f:α->D):∀ L:List α,(L.map λt=>some (f t)).filterMap id=L.map f
 | []=>rfl
 | x::L=>by
  rw [FD,FD,HY]
  exact congrArg (f x:: ·) (iQ f L)
noncomputable def spT (n s:Int):Int:=if n % 2=1 then n / 2 % (2 * s+1) - s else thing (n / 2) 1 41 - 20
noncomputable def za (n s:Int):Int:=if n % 2=1 then 1+n / 2 / (2 * s+1) % s else 1+thing (n / 2) 2 12
noncomputable def pX (s n:Int):Int×Int:=(nT (spT n s) (za n s),nB (spT n s) (za n s))
structure vH (s:Int):Prop where
 a:20<=s
 b:s<=10 ^ 29
theorem zb:(10:Int) ^ 29=100000000000000000000000000000:=rfl
theorem zc (h:vH s) (n):(spT n s).natAbs<2 ^ 97/\0<za n s/\(za n s).natAbs<2 ^ 97:=by
 have h1:=h.a
 have h2:=h.b
 rw [zb] at h2
 have t1:=cP (n / 2) 1 (m:=41) (by decide)
 have t2:=cP (n / 2) 2 (m:=12) (by decide)
 have e:(2:Nat) ^ 97=158456325028528675187087900672:=by decide
 rw [e]
 unfold spT za
 split
 ·have a1:=Hz (n / 2) (b:=2 * s+1) (by lia)
  have a2:=Ir (n / 2) (b:=2 * s+1) (by lia)
  have a3:=Hz (n / 2 / (2 * s+1)) (b:=s) (by lia)
  have a4:=Ir (n / 2 / (2 * s+1)) (b:=s) (by lia)
  generalize n / 2 % (2 * s+1)=x at *
  generalize n / 2 / (2 * s+1) % s=y at *
  lia
 ·lia
theorem BD (h:vH s) (n):(pX s n).1.natAbs<2 ^ 97/\(pX s n).2.natAbs<2 ^ 97/\0<(pX s n).2:=by
 obtain ⟨h1,h2,h3⟩:=zc h n
 have hb:za n s≠0:=by lia
 exact ⟨GI (oN hb) h1,GI (oO hb) h3,j3 hb⟩
noncomputable def yo:Fn:=λds r=>∃ n s:Int,vH s/\ds=[.int n,.int s]/\r=.ok (.va (cQ (pX s n)))
theorem DE (n) (h:vH s):yo [.int n,.int s] (.ok (.va (cQ (pX s n)))):=⟨n,s,h,rfl,rfl⟩
section
local macro_rules | `(tactic| walk_at "evCa")=> `(tactic| first
 | with_reducible refine aX (F:=nG) (by assumption) (by decide) ?_
 | with_reducible refine aX (F:=fV) (by assumption) (by decide) ?_)
local macro_rules | `(tactic| walk_at "evXC")=> `(tactic| first
 | with_reducible refine x_call (x:=Fg "_law_fraction") (F:=nG) (by assumption) (by decide) ?_)
local macro_rules | `(tactic| walk_at "evR")=> `(tactic| first | with_reducible refine bg (pM ?_ ?_ ?_) ?_)
theorem BE (Fu:gr K "_law_spot" "_law_spot" (top 23) f fd) (T:Txt K mg) (h1:gn P w K mg base 34 "_law_fraction" nG) (h2:gn P w K mg base 1 "_law_thing" fV):bD P w K mg base (fZ P w) 35 f fd ["_law_cell_here","_law_size"] (fK K yo):=by
 refine cZ Fu rg (by rintro ds r ⟨n,s,_,rfl,_⟩; rfl) (by rintro ds r ⟨n,s,_,_,rfl⟩; exact ⟨_,rfl⟩) λc hq ds sl hF=>?_
 obtain ⟨n,s,hs,rfl,e⟩:=hF
 injection e with e
 subst e
 have h20:=hs.a
 have h29:=hs.b
 rw [zb] at h29
 have hd:nY (2 * s+1):=⟨by lia,(JC (by lia)).mpr (F9 (show (2 * s+1).natAbs<2 ^ 100 by rw [show (2:Nat) ^ 100=1267650600228229401496703205376 by decide]; lia) (G0 (by decide) (by decide)))⟩
 have sp:=zc hs n
 have pn:2 * s+1>0:=by lia
 have ps:0<s:=by lia
 show aQ c _ [.va (.int n),.va (.int s),.un] _ _
 conv in (aE _)=>whnf
 walk_at "ev"
 all_goals first
  | exact uo (by decide)
  | decide
  | skip
 ·rename_i h
  rw [show n / 2 % (2 * s+1) - s=spT n s from (if_pos h).symm,show 1+n / 2 / (2 * s+1) % s=za n s from (if_pos h).symm]
  exact bg (vv (by lia)) rfl
 ·rename_i h
  rw [show thing (n / 2) 1 41 - 20=spT n s from (if_neg h).symm,show 1+thing (n / 2) 2 12=za n s from (if_neg h).symm]
  exact bg (vv (by lia)) rfl
end
theorem vI (r):∀ (i:Nat),∀ x∈(mC i r).1,0<=x/\x<=12
 | 0,x,h=>by simp [mC] at h
 | i+1,x,h=>by
  simp only [mC,Gd,Gj] at h
  rcases h with h | rfl
  ·exact vI r i x h
  ·lia
theorem vJ (n):Pq (aR n)/\(aR n).2.natAbs<=10 ^ 28:=by
 refine ⟨⟨fW n,?_⟩,?_⟩
 ·unfold aR
  split
  ·exact vI _ _
  ·intro x hx
   obtain ⟨i,_,rfl⟩:=GF.mp hx
   have:=cP (n / 2) (1+(i:Int)) (m:=3) (by decide)
   lia
 ·unfold aR
  split
  ·show ((mC (n / 2 % 7).toNat (n / 2)).2 / 7 % (2 * (10 ^ GR 28)+1) - (10 ^ GR 28)).natAbs<=10 ^ 28
   generalize (mC (n / 2 % 7).toNat (n / 2)).2 / 7=y
   rw [show (10:Int) ^ GR 28=10000000000000000000000000000 by decide,show (10:Nat) ^ 28=10000000000000000000000000000 by decide]
   lia
  ·show (thing (n / 2) 9 19 - 9).natAbs<=10 ^ 28
   have:=cP (n / 2) 9 (m:=19) (by decide)
   rw [show (10:Nat) ^ 28=10000000000000000000000000000 by decide]
   lia
theorem fu {l:List Int} (h:l.length<=31):(dG (l.map aR)).length<=31/\∀ t∈dG (l.map aR),Pq t/\t.2.natAbs<2 ^ 110:=by
 have h1:∀ t∈l.map aR,Pq t/\t.2.natAbs<=10 ^ 28:=λt ht=>by
  obtain ⟨n,_,rfl⟩:=GF.mp ht
  exact vJ n
 refine ⟨Fy (uZ _) (by rw [Fx]; exact h),λt ht=>⟨Bg (λt ht=>(h1 t ht).1) t (lU ht).1,?_⟩⟩
 have:=Bf (m:=10 ^ 28) (λt ht=>(h1 t ht).2) t (lU ht).1
 rw [Fx] at this
 refine GI (Fy this (Nat.mul_le_mul_right _ h)) (by decide)
noncomputable def jE (ns:List Int) (k:Nat):Int:=if k<ns.length then ns.getD k 0 % 2147483647 else 0
noncomputable def l9:Fn:=λds r=>∃ (ns:List Int) (k:Nat),ds=[.lst (ns.map .int),.int (k:Int)]/\r=.ok (.va (.int (jE ns k)))
theorem BF (ns) (k:Nat):l9 [.lst (ns.map .int),.int (k:Int)] (.ok (.va (.int (jE ns k)))):=⟨ns,k,rfl,rfl⟩
theorem BG {ns:List Int} (h:k<ns.length):gM (ns.map D.int) (k:Int)=some (D.int (ns.getD k 0)):=by
 rw [dj (by lia) (by simp; lia),Gg,FN,F7 h,GS,F7 h]
 rfl
theorem yp (ns):l9 [.lst (ns.map .int),.int 0] (.ok (.va (.int (jE ns 0)))):=BF ns 0
theorem yq (Fu:gr K "_law_cell" "_law_cell" (top 15) f fd) (T:Txt K mg):bD P w K mg base (fZ P w) 1 f fd ["_law_script","_law_k"] (fK K l9):=by
 refine cZ Fu q9 (by rintro ds r ⟨ns,k,rfl,_⟩; rfl) (by rintro ds r ⟨ns,k,_,rfl⟩; exact ⟨_,rfl⟩) λc hq ds sl hF=>?_
 obtain ⟨ns,k,rfl,e⟩:=hF
 injection e with e
 subst e
 show aQ c _ [.va (.lst (ns.map .int)),.va (.int (k:Int))] _ _
 conv in (aE _)=>whnf
 walk_at "ev"
 ·have hk:k<ns.length:=by simp only [Fx] at *; lia
  refine gW (BG hk) ?_
  walk_at "ev"
  show Sl.va _=Sl.va _
  unfold jE
  rw [if_pos hk]
 ·have hk:¬ k<ns.length:=by simp only [Fx] at *; lia
  show Sl.va _=Sl.va _
  unfold jE
  rw [if_neg hk]
theorem mh (xs:List α) (a b:Nat):(EV.cutD xs (some (a:Int)) (some (b:Int))).length<=b - a:=by
 unfold EV.cutD HT.bu
 simp only [show ¬ ((a:Int)<0) by lia,show ¬ ((b:Int)<0) by lia,if_false,Gh,Kg,Gg]
 lia
theorem fy (xs:List α) (k:Nat):EV.cutD xs none (some (k:Int))=xs.take k:=by
 unfold EV.cutD
 rw [HT.rZ,HT.v5,List.drop_zero,Nat.sub_zero]
 rcases Nat.le_total k xs.length with h | h
 ·rw [Nat.min_eq_left h]
 ·rw [Nat.min_eq_right h,HS (Fq _),HS h]
theorem BH (x y):gm (n+1) (cQ x) (cQ y):=.tup λi d e h1 h2=>by
 rcases i with _ | _ | i
 ·simp at h1 h2; subst h1 h2; exact .sc rfl
 ·simp at h1 h2; subst h1 h2; exact .sc rfl
 ·simp at h1
theorem yr (L M:List (Int×Int)):gm (n+3) (.lst (L.map cQ)) (.lst (M.map cQ)):=.lst λi d e h1 h2=>by
 rw [FN] at h1 h2
 simp only [F5] at h1 h2
 obtain ⟨x,_,rfl⟩:=h1
 obtain ⟨y,_,rfl⟩:=h2
 exact BH x y
theorem vK {cs:List Int} {pl:List (Int×Int)} (hc:cs.length<=31) (hl:pl.length<=6) (hp:∀ x∈pl,x.1.natAbs<2 ^ 97/\x.2.natAbs<2 ^ 97/\0<x.2):bq (dG (cs.map aR)) pl 97 12 110 where
 p:=λt ht=>((fu hc).2 t ht).1
 n:=λt ht=>((fu hc).2 t ht).2
 l:=Fy (fu hc).1 (by decide)
 q:=hl
 b:=hp
 s:=by decide
 s2:=by decide
 s3:=by decide
 s4:=by decide
section
local macro_rules | `(tactic| walk_at "side")=> `(tactic| exact gy _)
local macro_rules | `(tactic| walk_at "evR")=> `(tactic| first
 | with_reducible refine bg (yp _) ?_
 | with_reducible refine bg (Bq _ _) ?_)
local macro_rules | `(tactic| walk_at "evCa")=> `(tactic| first
 | with_reducible refine aX (F:=l9) (by assumption) (by decide) ?_
 | with_reducible refine aX (F:=pP) (by assumption) (by decide) ?_
 | with_reducible refine aX (F:=vt) (by assumption) (by decide) ?_
 | with_reducible refine aX (F:=yo) (by assumption) (by decide) ?_
 | with_reducible refine aX (F:=rm) (by assumption) (by decide) ?_
 | with_reducible refine aX (F:=ym) (by assumption) (by decide) ?_
 | with_reducible refine aX (F:=pQ) (by assumption) (by decide) ?_
 | ((with_reducible show aA _ (Gp (FP "list" _) _ _ _) _ _); with_reducible refine e_x (sZ (Txt.list (by assumption)) ?_)))
local macro_rules | `(tactic| walk_at "evXC")=> `(tactic| first
 | with_reducible refine x_call (x:=Fg "_law_sum") (F:=vt) (by assumption) (by decide) ?_
 | with_reducible refine x_call (x:=Fg "worth_at") (F:=rm) (by assumption) (by decide) ?_)
theorem BI (Fu:gr K "law" "law" (top 24) f fd) (T:Txt K mg) (h1:gn P w K mg base 1 "_law_cell" l9) (h2:gn P w K mg base 2 "_law_term" pP) (h3:gn P w K mg base 2 "_law_sum" vt) (h4:gn P w K mg base 35 "_law_spot" yo) (h5:gn P w K mg base 3 "worth_at" rm) (h6:gn P w K mg base 35 "_law_worth" ym) (h7:gn P w K mg base 2 "_law_same_fraction" pQ):bD P w K mg base (fZ P w) 36 f fd ["_law_script"] (fK K ud):=by
 refine cZ Fu Bj (by rintro ds r ⟨ns,_,rfl,_⟩; rfl) (by rintro ds r ⟨ns,_,_,rfl⟩; exact ⟨_,rfl⟩) λc hq ds sl hF=>?_
 obtain ⟨ns,hl,rfl,e⟩:=hF
 injection e with e
 subst e
 show aQ c _ [.va (.lst (ns.map D.int)),.un,.un,.un,.un,.un,.un,.un,.un,.un] _ _
 conv in (aE _)=>whnf
 refine aW ?_
 generalize hG:(λρ'=>aQ c _ ρ' _ _)=G
 walk_at "ev"
 subst hG
 generalize jE ns 0=ch
 have hcl:(EV.cutD ns (some 8) (some 28)).length<=20:=mh _ 8 28
 have hct:∀ t∈(EV.cutD ns (some 8) (some 28)).map aR,t.1.length<=64:=λt ht=>by
  obtain ⟨n,_,rfl⟩:=GF.mp ht
  exact Fy (fW n) (by decide)
 have hcm:EV.cutD (ns.map D.int) (some 8) (some 28)=(EV.cutD ns (some 8) (some 28)).map D.int:=ir _ _ _ _
 generalize EV.cutD ns (some 8) (some 28)=cs at hcl hct hcm
 refine aW (AM (by walk_at "at") hq (N':=["_law_one"]) (ρ0:=λ_=>[.un]) (λt=>.un .nil) (gX ?_))
 generalize hG:(λρ'=>aQ c _ ρ' _ _)=G
 walk_at "ev"
 ·rw [hcm,Fx]; exact Ds (by lia)
 rw [hcm]
 refine ⟨cs.map λn=>some (aB (aR n)),by simp,?_,?_⟩
 ·intro c3 hc3 t k d o hd ho
  simp only [FN,F5] at hd ho
  obtain ⟨x,hx,rfl⟩:=hd
  obtain ⟨x',hx',rfl⟩:=ho
  rw [hx] at hx'; cases hx'
  refine fJ (by walk_at "at") (yI (by walk_at "sset") ⟨.un .nil,?_⟩)
  simp only [oz]
  refine ⟨λ_=>?_,λh=>by cases h⟩
  walk_at "ev"
  ·exact ⟨by decide,by decide,by decide⟩
  refine bg (Bo x) (gY ?_)
  rfl
 refine yI (by walk_at "sset") ?_
 subst hG
 rw [show (cs.map λn=>some (aB (aR n))).filterMap id=(cs.map aR).map aB by rw [GO]; exact iQ (λn=>aB (aR n)) cs]
 refine dO 2 (d0:=.lst ((cs.map aR).map aB)) (by walk_at "at") rfl (by walk_at "sset") ?_
 refine aW ?_
 generalize hG:(λρ'=>aQ c _ ρ' _ _)=G
 walk_at "ev"
 subst hG
 refine aW (Dg (λρ'=>∃ (s:Int) (cs':List Int) (r:Sl),vH s/\cs'.length<=20/\(r=.va (.lst ((cs'.map aR).map aB))\/r.gp=some (.lst ((cs'.map aR).map aB)))/\ρ'=[.va (.lst (ns.map D.int)),.va (.int ch),r,.va (.int s),.un,.un,.un,.un,.un,.un]) ?_ ?_)
 ·walk_at "ev"
  ·exact ⟨by decide,by decide,by decide⟩
  ·refine ⟨10 ^ 29,cs.take 3,_,⟨by decide,by decide⟩,Fy (by rw [Gh]; exact Iz _ _) hcl,.inr ?_,rfl⟩
   show some (D.lst (EV.cutD ((cs.map aR).map aB) none (some 3)))=_
   rw [show EV.cutD ((cs.map aR).map aB) none (some 3)=_ from fy _ 3,Ig,Ig]
  ·exact ⟨20,cs,_,⟨by decide,by decide⟩,hcl,.inl rfl,rfl⟩
 clear hcl hct hcm
 rintro ρ' ⟨s,cs,r2,hs,hcl,hr,rfl⟩
 refine ya 2 (by walk_at "at") hr (by walk_at "sset") ?_
 have hct:∀ t∈cs.map aR,t.1.length<=64:=λt ht=>by
  obtain ⟨n,_,rfl⟩:=GF.mp ht
  exact Fy (fW n) (by decide)
 refine aW ?_
 generalize hG:(λρ'=>aQ c _ ρ' _ _)=G
 walk_at "ev"
 refine bg (Bm (by rw [Fx]; lia) hct) ?_
 walk_at "ev"
 subst hG
 refine dO 4 (d0:=.lst ((dG (cs.map aR)).map aB)) (by walk_at "at") rfl (by walk_at "sset") ?_
 have hcut:(EV.cutD ns (some 1) (some 7)).length<=6:=mh _ 1 7
 refine aW ?_
 generalize hG:(λρ'=>aQ c _ ρ' _ _)=G
 walk_at "ev"
 ·exact Ds (by rw [show EV.cutD (ns.map D.int) (some 1) (some 7)=_ from ir _ _ _ _,Fx]; show _+6<=1000000; lia)
 subst hG
 have hcm:EV.cutD (EV.cutD (ns.map D.int) (some 1) (some 7)++[D.int 5,.int 12,.int 7,.int 30,.int 9,.int 2]) none (some 6)=((EV.cutD ns (some 1) (some 7)++[5,12,7,30,9,2]).take 6).map D.int:=by
  rw [show EV.cutD (ns.map D.int) (some 1) (some 7)=_ from ir _ _ _ _,show EV.cutD _ none (some 6)=_ from fy _ 6,Ig,G7]
  rfl
 rw [hcm]
 have hxl:((EV.cutD ns (some 1) (some 7)++[5,12,7,30,9,2]).take 6).length<=6:=by rw [Gh]; exact Nat.min_le_left _ _
 clear hcm hcut
 generalize (EV.cutD ns (some 1) (some 7)++[5,12,7,30,9,2]).take 6=xs at hxl |-
 refine dO 5 (d0:=.lst (xs.map D.int)) (by walk_at "at") rfl (by walk_at "sset") ?_
 obtain ⟨q,hq7,eq⟩:∃ q:Nat,q<7/\ch % 7=q:=⟨(ch % 7).toNat,by lia,by lia⟩
 refine aW (sO (by walk_at "at") (BP (kY (e_x (tY hq (N':=["_law_one","_law_size"]) (ρ0:=λ_=>[.un,.va (.int s)]) (λt=>.un (.fr (by walk_at "at") (by walk_at "at") (by decide) rfl .nil)) (gX ?_))))))
 generalize hG:(λρ'=>aQ c _ ρ' _ _)=G
 walk_at "ev"
 ·rw [Fx]; exact Ds (by lia)
 refine ⟨xs.map λn=>some (cQ (pX s n)),by simp,?_,?_⟩
 ·intro c3 hc3 t k d o hd ho
  simp only [FN,F5] at hd ho
  obtain ⟨x,hx,rfl⟩:=hd
  obtain ⟨x',hx',rfl⟩:=ho
  rw [hx] at hx'; cases hx'
  refine fJ (by walk_at "at") (yI (by walk_at "sset") ⟨.un (.same .nil),?_⟩)
  simp only [oz]
  refine ⟨λ_=>?_,λh=>by cases h⟩
  walk_at "ev"
  refine bg (DE x hs) (gY ?_)
  rfl
 rw [show (xs.map λn=>some (cQ (pX s n))).filterMap id=(xs.map (pX s)).map cQ by rw [GO]; exact iQ (λn=>cQ (pX s n)) xs]
 walk_at "ev"
 subst hG
 rw [eq,show EV.cutD ((xs.map (pX s)).map cQ) none (some (q:Int))=((xs.map (pX s)).take q).map cQ by rw [fy,<- Ig]]
 have hpl:((xs.map (pX s)).take q).length<=6:=by rw [Gh,Fx]; exact Fy (Iz _ _) hxl
 have hpb:∀ x∈(xs.map (pX s)).take q,x.1.natAbs<2 ^ 97/\x.2.natAbs<2 ^ 97/\0<x.2:=λx hx=>by
  obtain ⟨n,_,rfl⟩:=GF.mp (JS hx)
  exact BD hs n
 generalize (xs.map (pX s)).take q=pl at hpl hpb |-
 have hcl':cs.length<=31:=by lia
 have ok:∀ n,bq (dG (cs.map aR)) (pl.take n) 97 12 110:=λn=>vK hcl' (Fy (by rw [Gh]; exact Iz _ _) hpl) λx hx=>hpb x (JS hx)
 have ok0:bq (dG (cs.map aR)) pl 97 12 110:=vK hcl' hpl hpb
 have okn:bq [] pl 97 12 110:=vK (cs:=[]) (by decide) hpl hpb
 have hLl:=(fu hcl').1
 generalize dG (cs.map aR)=L at ok ok0 hLl |-
 clear hct hcl hcl'
 refine aW ?_
 generalize hG:(λρ'=>aQ c _ ρ' _ _)=G
 walk_at "ev"
 subst hG
 refine dO 7 (d0:=.lst [.lst (L.map aB),.lst (pl.map cQ)]) (by walk_at "at") rfl (by walk_at "sset") ?_
 have hcut:∀ n:Nat,EV.cutD (pl.map cQ) none (some (n:Int))=(pl.take n).map cQ:=λn=>by rw [fy,<- Ig]
 refine aW (cK hq (cy (Txt.range T) ?_))
 walk_at "ev"
 ·rw [Fx]; exact ⟨by lia,by lia⟩
 refine ⟨λ_ ρ'=>∃ s8:Sl,ρ'=[.va (.lst (ns.map D.int)),.va (.int ch),.va (.lst ((cs.map aR).map aB)),.va (.int s),.va (.lst (L.map aB)),.va (.lst (xs.map D.int)),.va (.lst (pl.map cQ)),.va (.lst [.lst (L.map aB),.lst (pl.map cQ)]),s8,.un],⟨_,rfl⟩,?_,?_⟩
 ·rintro c' rF zd ze k d ρ' hd ⟨s8,rfl⟩
  obtain ⟨hk,rfl⟩:=cV hd
  walk_at "ev"
  rw [hcut]
  refine bg (vE (ok k)) (gY ?_)
  walk_at "ev"
  rw [hcut]
  refine bg (y9 (ok k)) (gY ?_)
  walk_at "ev"
  exact ⟨_,rfl⟩
 ·rintro ρ' ⟨s8,rfl⟩
  refine aW ?_
  generalize hG:(λρ'=>aQ c _ ρ' _ _)=G
  walk_at "ev"
  refine bg (vE ok0) ?_
  walk_at "ev"
  subst hG
  have self:iY [D.lst (L.map aB),.lst (pl.map cQ)] [D.lst (L.map aB),.lst (pl.map cQ)]:=jB (vf L L) (jB (yr pl pl) (vg _))
  refine aW ?_
  generalize hG:(λρ'=>aQ c _ ρ' _ _)=G
  walk_at "ev"
  refine bg (y9 ok0) (gY ?_)
  walk_at "ev"
  refine lX self ?_
  walk_at "ev"
  subst hG
  have z:=vF (b:=1) (by decide)
  have wn:rm [.lst [],.lst (pl.map cQ)] (.ok (.va (.tup [.int 0,.int 1]))):=by
   have h:=vE okn
   have e:cC [] pl=1:=by
    show (1:Int) * _ ^ 0 * _ ^ 0 * _ ^ 0 * _ ^ 0 * _ ^ 0 * _ ^ 0=1
    simp only [HF,IL]
   rw [e,show bL [] pl []=0 from rfl] at h
   unfold bZ at h
   rw [z.1,z.2] at h
   exact h
  walk_at "ev"
  refine bg wn (gY ?_)
  walk_at "ev"
  refine lX self ?_
  rfl
end
end
section
variable {K:Fi}
theorem yt (BV:mg "law"=some (.ref fa)) (T:Txt K mg) (hT:P.given.tree=none) (xPLACES:∃ tk:Tok,mg "PLACES"=some (.int 6 tk))
 (D4:aI K mg "common_divisor" (top 4))
 (D5:aI K mg "fraction_of" (top 5))
 (D8:aI K mg "power_at" (top 8))
 (D9:aI K mg "greatest_powers" (top 9))
 (D10:aI K mg "raised" (top 10))
 (D11:aI K mg "scaled_powers" (top 11))
 (D12:aI K mg "worth_at" (top 12))
 (D14:aI K mg "_law_whole" (top 14))
 (D15:aI K mg "_law_cell" (top 15))
 (D16:aI K mg "_law_thing" (top 16))
 (D17:aI K mg "_law_term" (top 17))
 (D18:aI K mg "_law_fraction" (top 18))
 (D19:aI K mg "_law_same_fraction" (top 19))
 (D20:aI K mg "_law_trimmed" (top 20))
 (D21:aI K mg "_law_sum" (top 21))
 (D22:aI K mg "_law_worth" (top 22))
 (D23:aI K mg "_law_spot" (top 23))
 (D24:aI K mg "law" (top 24))
 : ∃ fd:FuncData,(∀ (s:Shared) (u:Value),BindsTo s fd ⟨[u],[]⟩ [("_law_script",u)])/\∀ base:Heap,K.In base->base.Ns mainGlobals mg->base.NoSeer->bD P w K mg base (fZ P w) 40 fa fd ["_law_script"] (fK K ud):=by
 refine Classical.byContradiction λhG=>?_
 obtain ⟨f24,fd24,m24,Fu24⟩:=D24
 have e:=BV.symm.trans m24
 cases e
 refine hG ⟨fd24,?_,λbase _ _ hS=>?_⟩
 ·obtain ⟨oc,od,kV,doc,pm,an,cdv,ct,osl,rfl,lk,hcd⟩:=Fu24.ex
  exact λs u=>.of_eq rfl
 have C4:=bx P w base D4 λu=>Bt u T
 have C5:=bx P w base D5 λu=>Du u T C4
 have C8:=bx P w base D8 λu=>Dy u T
 have C9:=bx P w base D9 λu=>vB u T xPLACES
 have C10:=bx P w base D10 λu=>Bw u T
 have C11:=bx P w base D11 λu=>By u T C8 C10
 have C12:=bx P w base D12 λu=>BA u T xPLACES C8 C10 C9 C11 C5
 have C14:=bx P w base D14 λu=>vn u T
 have C15:=bx P w base D15 λu=>yq u T
 have C16:=bx P w base D16 λu=>vo u T
 have C17:=bx P w base D17 λu=>yd u T C16
 have C18:=bx P w base D18 λu=>Bp hS hT u T
 have C19:=bx P w base D19 λu=>ye u T C14
 have C20:=bx P w base D20 λu=>vq u T
 have C21:=bx P w base D21 λu=>yc u T C20
 have C22:=bx P w base D22 λu=>BC u T C18
 have C23:=bx P w base D23 λu=>BE u T C18 C16
 exact (BI Fu24 T C15 C17 C21 C23 C12 C22 C19).mono (by decide)
end
end My
open PySem PySem.W PyProof.Rows
local macro_rules | `(tactic| walk_at "dm")=> `(tactic| (dsimp only [L2.iX]; refine' EV.AO (by assumption) (by assumption) ?a ?l ?c ?k; (case a=>k_is); (case l=>k_is); (case c=>k_is); (case k=>k_is)))
set_option maxRecDepth 100000 in
set_option maxHeartbeats 0 in
theorem PySem.Challenge.cw_everydraw_k07_worths_at_places_holds : PySem.Challenge.rw_everydraw_k07_worths_at_places.Holds := by
 w_on; o_law; k_head; (case hw=>w_witness2)
 k_fill
 refine EV.Dr (k:=40) (l:=PySem.Challenge.rw_everydraw_k07_worths_at_places) (by decide) rfl rfl (by decide +kernel) (λw h Y=>PySem.W.kIn_of Y) ?F
 case F =>
  intro w mg fa h KX G hmg
  have D4:EV.aI (L2.iX KX) mg (Str.ofString "common_divisor") (My.top 4):=by walk_at "dm"
  have D5:EV.aI (L2.iX KX) mg (Str.ofString "fraction_of") (My.top 5):=by walk_at "dm"
  have D8:EV.aI (L2.iX KX) mg (Str.ofString "power_at") (My.top 8):=by walk_at "dm"
  have D9:EV.aI (L2.iX KX) mg (Str.ofString "greatest_powers") (My.top 9):=by walk_at "dm"
  have D10:EV.aI (L2.iX KX) mg (Str.ofString "raised") (My.top 10):=by walk_at "dm"
  have D11:EV.aI (L2.iX KX) mg (Str.ofString "scaled_powers") (My.top 11):=by walk_at "dm"
  have D12:EV.aI (L2.iX KX) mg (Str.ofString "worth_at") (My.top 12):=by walk_at "dm"
  have D14:EV.aI (L2.iX KX) mg (Str.ofString "_law_whole") (My.top 14):=by walk_at "dm"
  have D15:EV.aI (L2.iX KX) mg (Str.ofString "_law_cell") (My.top 15):=by walk_at "dm"
  have D16:EV.aI (L2.iX KX) mg (Str.ofString "_law_thing") (My.top 16):=by walk_at "dm"
  have D17:EV.aI (L2.iX KX) mg (Str.ofString "_law_term") (My.top 17):=by walk_at "dm"
  have D18:EV.aI (L2.iX KX) mg (Str.ofString "_law_fraction") (My.top 18):=by walk_at "dm"
  have D19:EV.aI (L2.iX KX) mg (Str.ofString "_law_same_fraction") (My.top 19):=by walk_at "dm"
  have D20:EV.aI (L2.iX KX) mg (Str.ofString "_law_trimmed") (My.top 20):=by walk_at "dm"
  have D21:EV.aI (L2.iX KX) mg (Str.ofString "_law_sum") (My.top 21):=by walk_at "dm"
  have D22:EV.aI (L2.iX KX) mg (Str.ofString "_law_worth") (My.top 22):=by walk_at "dm"
  have D23:EV.aI (L2.iX KX) mg (Str.ofString "_law_spot") (My.top 23):=by walk_at "dm"
  have D24:EV.aI (L2.iX KX) mg (Str.ofString "law") (My.top 24):=by walk_at "dm"
  have T:EV.Txt (L2.iX KX) mg:=by
   dsimp only [L2.iX]
   refine' EV.AV KX G ?z1 ?z2 ?z3 ?z4 ?z5 ?z6 ?z7 ?z8 ?z9 ?z10 ?z11 ?z12 ?z13 ?z14 ?z15 ?z16 ?z17 ?sib
   (case z1=>k_is)
   (case z2=>k_is)
   (case z3=>k_is)
   (case z4=>k_is)
   (case z5=>k_is)
   (case z6=>k_is)
   (case z7=>k_is)
   (case z8=>k_is)
   (case z9=>k_is)
   (case z10=>k_is)
   (case z11=>k_is)
   (case z12=>k_is)
   (case z13=>k_is)
   (case z14=>k_is)
   (case z15=>k_is)
   (case z16=>k_is)
   (case z17=>k_is)
   (case sib=>k_is)
  have xPLACES:∃ tk:Tok,mg (Str.ofString "PLACES")=some (.int 6 tk):=by
   refine' EV.int_mk KX G ?a
   (case a=>k_is)
  exact My.yt hmg T rfl xPLACES D4 D5 D8 D9 D10 D11 D12 D14 D15 D16 D17 D18 D19 D20 D21 D22 D23 D24
