import PyProof.Rows.All
import Wide.All
import OpenK.AllK
import Wide.FinOn
import Lean
import PyProof.EqAt
import PyProof.EqKinds
import PyProof.TupleCall
import KE.KTryMore
import PyProof.NeKinds
import PyProof.DictItemsLoops
import PyProof.Rows.SortRunsK
import PyProof.Rows.SortRev
import PyProof.Tail
import PyProof.CollectIter
import PyProof.WalkInts
import PyProof.SumWalkG
import PyProof.SeqI3
import PyProof.EnumFor
import PyProof.EnumMake
import PyProof.Draws
import PyProof.Rows.Range3
import PyProof.EnumIter
import PySem.Challenge.RW_everydraw_k18_circles_round
namespace EV
theorem z2 {α β} {P:α→β→Prop} {G:Prop} (h:∃ a b,P a b) (k:∀ a b,P a b→G):G:=h.elim fun a h=>h.elim (k a)
theorem z3 {α β γ} {P:α→β→ γ →Prop} {G:Prop} (h:∃ a b c,P a b c) (k:∀ a b c,P a b c→G):G:=h.elim fun a h=>z2 h (k a)
theorem z4 {α β γ δ} {P:α→β→ γ → δ →Prop} {G:Prop} (h:∃ a b c d,P a b c d) (k:∀ a b c d,P a b c d→G):G:=h.elim fun a h=>z3 h (k a)
theorem z5 {α β γ δ ε} {P:α→β→ γ → δ → ε →Prop} {G:Prop} (h:∃ a b c d e,P a b c d e) (k:∀ a b c d e,P a b c d e→G):G:=h.elim fun a h=>z4 h (k a)
theorem w2 {a b G:Prop} (h:a∧b) (k:a→b→G):G:=k h.1 h.2
theorem w3 {a b c G:Prop} (h:a∧b∧c) (k:a→b→c→G):G:=w2 h.2 (k h.1)
theorem w4 {a b c d G:Prop} (h:a∧b∧c∧d) (k:a→b→c→d→G):G:=w3 h.2 (k h.1)
theorem w5 {a b c d e G:Prop} (h:a∧b∧c∧d∧e) (k:a→b→c→d→e→G):G:=w4 h.2 (k h.1)
theorem w6 {a b c d e f G:Prop} (h:a∧b∧c∧d∧e∧f) (k:a→b→c→d→e→f→G):G:=w5 h.2 (k h.1)
theorem w7 {a b c d e f g G:Prop} (h:a∧b∧c∧d∧e∧f∧g) (k:a→b→c→d→e→f→g→G):G:=w6 h.2 (k h.1)
theorem w8 {a b c d e f g i G:Prop} (h:a∧b∧c∧d∧e∧f∧g∧i) (k:a→b→c→d→e→f→g→i→G):G:=w7 h.2 (k h.1)
end EV
set_option Elab.async false
set_option linter.all false
set_option maxRecDepth 100000
open PySem renaming wpAny_bind→MG,wpAny_pure→MJ,Spec→Ni,wpAny_mono→Nv,wpAny_newObj_type→NQ,wpAny_holding→NX,wpAny_rule→N6,wpAny_call_entry→Oe,wpAny_Call_Name_kw→Ol,wpAny_field→Ox,Builtin→OD,wpAny_callSpecial?_slot→OI,wpAny_attempt→OR,wpAny_typeOf→OS,wpAny_setField_rec→O4,wpAny_passesOwn→O8,wpAny_dictEntries→PD,wpAny_dictEpoch→PJ,codeAny_mono→PK,wpAny_call→PU,typeIs_int→PV,call_meets→PX,mem_of_lookup→P7,wpAny_truthy_bool→P9,codeAny_builtin→Qd,wpAny_setField→Qi,wpAny_newList→Qk,wpAny_typeNameOfWhole_itemiter→Qy,wpAny_typeNameOfWhole_keyiter→Qz,wpAny_typeNameOf_itemiter→QB,wpAny_typeNameOf_keyiter→QE,tupleKind_room_in1→QV,wpAny_isInstance→Q7,wpAny_fieldsOf→Rh,concat_meets→Ro,wpAny_letGo→Rv,wpAny_isOneOf_itemiter→RO,wpAny_pyIter_tuple→R1,wpAny_sequenceKey→R6,wpAny_pyIter_slot→R7,wpAny_pyIter_list→R8,slot_list_getitem→R9,noFill_tuple_add→Sj
open PySem.Str renaming ofString→MH
open PySem.W renaming Frag→MI,nsIn→NJ,mg_none_of→NP,kitOne→Oa,keepIn→Oq,fnOf→Ow,findIn→OP,kia_one→O9,clsIn→Ql,callWith_K→QW,codeIn→Rk,mroIn→Rm,specialIn→Sa,methodObj→Sb
open PyProof.Rows renaming wpS_bind→MK,wpS_pure→MM,wpS_mono→Np,wpS_forRange→NS,listUpdate_at→Oc,wpS_get→Od,wpS_modify→Ot,wpS_lift→OY,slot_tuple_getitem→Ph,seqEpoch_at→PR,callWith_type1→P0,listItems_at→Qo,mirror_perm→Qt,get?_update_seq→Rb,callWith_builtin1→RC,wpAny_call_entry_kw→RW
open Nat renaming le_refl→ML,le_trans→MT,ne_of_lt→Nh,zero_le→Nu,lt_of_lt_of_le→NI,lt_irrefl→Oh,lt_of_le_of_lt→OM,zero_add→OT,le_of_lt→OU,lt_succ_self→O7,le_add_right→PF,ne_of_gt→PM,min_eq_left→Qe,mul_le_mul→Qj,succ_mul→Qp,mul_comm→Qq,pow_le_pow_right→QO,le_sub_one_of_lt→QS,lt_succ_of_lt→Q0,succ_le_succ→Q8,one_le_iff_ne_zero→RQ,add_sub_cancel'→RY
open List renaming map_cons→MN,length_map→MO,getElem?_map→MS,getElem?_eq_some_iff→MU,mem_cons_self→MW,mem_cons_of_mem→MX,replicate→MY,mem_cons→M0,mem_singleton→M4,size_toArray→M7,getElem?_eq_getElem→M9,map_map→Na,append_assoc→Nb,mem_append→Ng,getElem_mem→Nj,mem_map→Nk,length_cons→Nl,length_append→Nr,map_append→Nt,range→Ny,take_length→NF,take_succ_eq_append_getElem→NL,append_nil→NR,getD_eq_getElem?_getD→NT,getElem?_set_self→NU,getElem?_set_ne→NV,length_take→NW,mem_of_getElem?→NY,mem_append_right→N2,filterMap_cons→N7,nodup_cons→N8,foldl_cons→N9,find?_cons→Og,take_append_drop→Oi,getElem?_eq_none→Oj,cons_append→Om,length_nil→Oo,replicate_succ→Ou,map_congr_left→OA,pairwise_map→OB,sum_cons→OF,getElem?_append_left→OH,not_mem_nil→ON,nil_append→OO,filter_cons_of_pos→O0,perm_append_comm→O2,mem_append_left→O3,flatten_cons→O6,sum_append→Pa,length→Pd,getElem?_append_right→Pn,pairwise_singleton→Pr,getElem?_of_mem→Pw,getElem?_range→Py,pairwise_cons→Pz,getElem?_drop→PB,map_nil→PN,foldl→PY,filter_cons_of_neg→P1,take_of_length_le→P4,getElem?_append→P6,mem_filter→Qf,foldr_cons→Qg,Nodup→Qu,getElem?_take_of_lt→QF,eq_of_mem_replicate→QG,length_singleton→QM,mem_of_mem_take→QT,zip_cons_cons→QY,take_sublist→Q2,reverse_perm→Q3,nodup_append→Q4,flatMap_cons→Q5,ext_getElem?→Q6,mem_flatMap→Q9,ext_getElem→Ra,of_mem_zip→Rc,forIn_cons→Rf,mem_range→Rl,zipWith→Rr,Pairwise→RB,pairwise_iff_getElem→RE,drop_eq_getElem_cons→RG,getElem?_replicate→RN,reverse_append→RZ,length_reverse→R0,getElem_range→R3,filterMap_map→R4,take_add_one→Se,foldl_append→Sf,drop_sublist→Sg,lookup_cons→Sk,getElem_map→Sm,flatMap_nil→Sn,drop_append_of_le_length→SE
open PySem.Heap renaming get?_push_of_some→MQ,lt_size→MR,get?_push_size→M3,SameBut→Ov,get?_update_ne→OL,size_push→OQ,ExtBut→OV,get?_update_other→QK,size_update→So
open Bool renaming false_ne_true→MV,false_eq_true→ND,and_eq_true→Qc,eq_iff_iff→Qh,not_true→Qn
open Option renaming map_eq_some_iff→MZ,isSome_map→O5,bind_eq_some_iff→RL
open PySem.Expr renaming Name→M5,Call→NH,Subscript→OC
open Sum renaming inl→M6,inr→OZ
open Ne renaming symm→M8
open PySem.Value renaming ref→Nc,none→NO,type→N1,str→Qv,int→Qw
open PySem.SeqAt renaming EqAt→Nd,RcAt→Pg,RcNeAt→Rp
open Array renaming getElem?_eq_getElem→Nf,toList_push→Nq,getElem?_toList→NB,length_toList→NC,toList_append→NZ,ext'→OX,perm_iff_toList_perm→Po,getElem?_eq_some_iff→Pp,toList_reverse→Px,getElem?_extract→QL,mem_toList_iff→RV,getElem_mem→Si,toList_map→Ss,toList_eraseIdxIfInBounds→Sy
open Int renaming le_trans→Nm,toNat_natCast→NN,le_refl→N5,le_of_lt→OG,zero_mul→Pc,pow_pos→Pe,add_mul→Pf,mul_assoc→Qm,zero_add→Qs,toNat→Qx,lt_of_le_of_lt→QZ,add_zero→Rt,add_comm→Ru,one_mul→Ry,mul_le_mul_of_nonneg_right→Sz
open PySem.Obj renaming mapSeq→Nn,data_mapFields→QX
open PySem.Env renaming kindOf→Nz
open ForInStep renaming yield→NG,done→Ob
open False renaming elim→NK
open PySem.Builtin.Int renaming intBits→N3
open PySem.Paired renaming length→N4,snoc→Rx
open Option.some renaming inj→Of
open True renaming intro→Oz
open PySem.NameKind renaming free→OE
open PySem.Builtin.List renaming listUpdate→OJ,listLengthHint→Pk,listItems→P5,listExtendWith→QA,listTooLong→RJ
open PyProof.Rows.SortSt renaming mk'→OW
open Lean renaming mkPrivateNameCore→O1,mkIdent→Pb
open PySem.F renaming slot_dict_itemiterator_next→Pj,slot_dict_keyiterator_next→PZ,plain_extend_loop→QC,slot_int_rmul→Rg,args_tuple_add_2→RI,entry_tuple_add→RK,slot_tuple_add→RP,slot_tuple_lt→RT,slot_dict_get→RU,slot_tuple_mul→Sq,args_dict_itemiterator_next_1→Sx,entry_dict_itemiterator_next→SA,args_dict_keyiterator_next_1→SD,slot_dict_itemiterator_iter→SG,entry_dict_keyiterator_next→SH
open PySem.Builtin.SmallTypes renaming nextOf→Pq
open List.Perm renaming append_left→Pu
open PySem.Heap.SameBut renaming update→P8
open List.Pairwise renaming nil→Qa
open PySem.Builtin.Slice renaming slicePlaces→QD,sliceAdjust→RH
open PySem.Builtin.Tuple renaming tupleExact→QH
open PySem.AutoSeq1 renaming wpAny_loadPart'→QI
open PySem.Builtin.Range renaming rangeSize→QJ
open PySem.Builtin.Dict renaming showsAll→QN
open PySem.Around renaming under_plainId→QU
open PySem.Stmt renaming AugAssign→Ri,Assign→Rw
open Quotient renaming sound→Rj
open Function renaming comp→Rn
open PySem.Operator renaming Add→Rq
open PySem.Data renaming fields→Rz
open PySem.Builtin.Dict_items renaming pairFromOwner→RA,ownsTuple→RD,ownedTupleIsFree→Sv,ownedTupleFields→Sw
open PySem.Calls renaming callWith_builtin→RS,spliced_cons→R5
open PySem.Challenge renaming rw_everydraw_k18_circles_round→Su
namespace PySem.W.Fast
theorem tw16245903634018341191:True:=⟨⟩
theorem tw15290537892033556222:True:=⟨⟩
theorem tw13890276869730173282:True:=⟨⟩
theorem tw14670049102493522950:True:=⟨⟩
theorem tw5783691559900650521:True:=⟨⟩
theorem tw17249870574809575559:True:=⟨⟩
theorem tw6157017367342063366:True:=⟨⟩
theorem tw11224919053460505864:True:=⟨⟩
theorem tw16635960330619801155:True:=⟨⟩
theorem tw7959360486993103567:True:=⟨⟩
theorem tw15068834912194534866:True:=⟨⟩
theorem tw18113499613998047620:True:=⟨⟩
theorem tw4514395728733588617:True:=⟨⟩
theorem tw8241349473980337574:True:=⟨⟩
theorem tw14996071027870954603:True:=⟨⟩
theorem tw10677586677233144145:True:=⟨⟩
theorem tw11836767634512015249:True:=⟨⟩
theorem tw5503178834719921028:True:=⟨⟩
theorem tw10013813533463869818:True:=⟨⟩
theorem tw17383513300346198662:True:=⟨⟩
theorem tw11799934039109974733:True:=⟨⟩
theorem tw14064804930213078647:True:=⟨⟩
theorem tw17243286596449471062:True:=⟨⟩
theorem tw11266700280427019366:True:=⟨⟩
theorem tw12509607644756232180:True:=⟨⟩
theorem tw14712511262278199416:True:=⟨⟩
theorem tw16939537579354618865:True:=⟨⟩
theorem tw3682892537911681723:True:=⟨⟩
theorem tw2844914325875561591:True:=⟨⟩
theorem tw12241126154425467708:True:=⟨⟩
theorem tw11895731286011276106:True:=⟨⟩
theorem tw12438722611564832734:True:=⟨⟩
theorem tw2946355241196427357:True:=⟨⟩
theorem tw17258534055680428671:True:=⟨⟩
theorem tw12205982253994418739:True:=⟨⟩
theorem tw229560467110998459:True:=⟨⟩
theorem tw1464244192192225329:True:=⟨⟩
theorem tw6580379764438541932:True:=⟨⟩
theorem tw2895298960693402005:True:=⟨⟩
theorem tw12547481942363144923:True:=⟨⟩
theorem tw5508297203548784351:True:=⟨⟩
theorem tw12757724088168302441:True:=⟨⟩
theorem tw9950191359178506755:True:=⟨⟩
theorem tw8153738091089638510:True:=⟨⟩
theorem tw653281195935645932:True:=⟨⟩
theorem tw13543356371087722898:True:=⟨⟩
theorem tw477501775252797047:True:=⟨⟩
theorem tw4135213797558735026:True:=⟨⟩
theorem tw28828777613018329:True:=⟨⟩
theorem tw12475815403840397226:True:=⟨⟩
theorem tw5762472919054108873:True:=⟨⟩
theorem tw13785394016685267365:True:=⟨⟩
theorem tw15093587113676332581:True:=⟨⟩
theorem tw13827099799854641562:True:=⟨⟩
theorem tw15216518166309101402:True:=⟨⟩
theorem tw12896568237327099636:True:=⟨⟩
theorem tw10059449505401617980:True:=⟨⟩
theorem tw8133496797549224620:True:=⟨⟩
theorem tw5537525003981112009:True:=⟨⟩
theorem tw14493708467960596474:True:=⟨⟩
theorem tw4216073387974851679:True:=⟨⟩
theorem tw5498477218751702784:True:=⟨⟩
theorem tw9388127456610074024:True:=⟨⟩
theorem tw6879768800635995969:True:=⟨⟩
theorem tw17006087171814140060:True:=⟨⟩
theorem tw1696269714199871836:True:=⟨⟩
theorem tw12979651999762173747:True:=⟨⟩
theorem tw4234981014510682519:True:=⟨⟩
theorem tw4378705131785750463:True:=⟨⟩
theorem tw6052367658573662490:True:=⟨⟩
theorem tw5249208519789376784:True:=⟨⟩
theorem tw10374561134888586582:True:=⟨⟩
theorem tw5693039370168879151:True:=⟨⟩
theorem tw13409000378217554821:True:=⟨⟩
theorem tw14967141852322676247:True:=⟨⟩
theorem tw7961106331062995792:True:=⟨⟩
theorem tw17085224394584467154:True:=⟨⟩
theorem tw318852215189131067:True:=⟨⟩
theorem tw10492020913144946351:True:=⟨⟩
theorem tw451278007965783229:True:=⟨⟩
theorem tw11003118378951361443:True:=⟨⟩
theorem tw2274267125352746444:True:=⟨⟩
theorem tw11218750504036614867:True:=⟨⟩
theorem tw4503996834455777289:True:=⟨⟩
theorem tw7362021389018508194:True:=⟨⟩
theorem tw9652878872101046252:True:=⟨⟩
theorem tw16115431480946809237:True:=⟨⟩
theorem tw13855674922052083633:True:=⟨⟩
theorem tw15435415872141708796:True:=⟨⟩
theorem tw12436266818988243216:True:=⟨⟩
theorem tw9166569242073826243:True:=⟨⟩
theorem tw5461625135381402672:True:=⟨⟩
theorem tw16556294039947800272:True:=⟨⟩
theorem tw18123771959402327861:True:=⟨⟩
theorem tw1924192049363626669:True:=⟨⟩
theorem tw13911467120452993331:True:=⟨⟩
theorem tw17325433828784350564:True:=⟨⟩
theorem tw9631210886221979035:True:=⟨⟩
theorem tw17558310937960388423:True:=⟨⟩
theorem tw5098728097652307473:True:=⟨⟩
end PySem.W.Fast
local macro_rules | `(tactic| walk_at "u") => `(tactic| with_unfolding_all rfl)
namespace L2
open PySem PySem.Spec PyProof.Rows
noncomputable abbrev Key:=Sum Int Str
noncomputable def kc:Key→Value→Bool
 | .inl k,v=>Value.isInt k v
 | .inr x,v=>Value.isStrOf x v
noncomputable def Lc (w:World):Key→Int
 | .inl k=>hashInt k
 | .inr x=>hashStr w x
theorem bx:∀ {k:Key} {v:Value},kc k v=true→(∃ i t,k=M6 i∧v=Qw i t)∨(∃ x t,k=OZ x∧v=Qv x t)
 | .inl i,v,h=>by
  obtain ⟨t,e⟩:=Value.isInt_shape (k:=i) (v:=v) h
  exact .inl ⟨i,t,rfl,e⟩
 | .inr x,v,h=>by
  obtain ⟨t,e⟩:=Value.isStrOf_shape (x:=x) (v:=v) h
  exact .inr ⟨x,t,rfl,e⟩
theorem vZ (i) (t:Tok):kc (.inl i) (.int i t)=true:=by simp [kc,Value.isInt]
theorem v5 (x) (t:Tok):kc (.inr x) (.str x t)=true:=by simp [kc,Value.isStrOf]
theorem FD (a b):decide ((M6 a:Key)=M6 b)=(a == b):=by
 by_cases e:a=b
 ·subst e; simp
 ·have h:¬ (M6 a:Key)=M6 b:=fun q=>e (M6.inj q)
  rw [decide_eq_false h]
  exact (beq_eq_false_iff_ne.mpr e).symm
theorem FE (a b):decide ((OZ a:Key)=OZ b)=decide (a=b):=by
 by_cases e:a=b
 ·subst e; simp
 ·have h:¬ (OZ a:Key)=OZ b:=fun q=>e (OZ.inj q)
  rw [decide_eq_false h,decide_eq_false e]
theorem FF (a) (b):decide ((M6 a:Key)=OZ b)=false:=decide_eq_false (fun q=>nomatch q)
theorem FG (a) (b):decide ((OZ a:Key)=M6 b)=false:=decide_eq_false (fun q=>nomatch q)
noncomputable def bR (prog:Program) (w:World):PySem.KeyKind prog w Key where
 is:=kc
 hash:=Lc w
 inj:=fun v a b ha hb=>by
  rcases bx ha with ⟨i,t,rfl,rfl⟩ | ⟨x,t,rfl,rfl⟩
  ·rcases bx hb with ⟨j,u,rfl,e⟩ | ⟨y,u,rfl,e⟩
   ·injection e with e1 _; rw [e1]
   ·exact nomatch e
  ·rcases bx hb with ⟨j,u,rfl,e⟩ | ⟨y,u,rfl,e⟩
   ·exact nomatch e
   ·injection e with e1 _; rw [e1]
 byValue:=fun k v h=>by
  rcases bx h with ⟨i,t,rfl,rfl⟩ | ⟨x,t,rfl,rfl⟩ <;> rfl
 pyHash:=fun hv h=>by
  rcases bx hv with ⟨i,t,rfl,rfl⟩ | ⟨x,t,rfl,rfl⟩
  ·exact wpAny_pyHash_int h
  ·exact wpAny_pyHash_str h
 eqBool:=fun hu hv h=>by
  rcases bx hu with ⟨i,t,rfl,rfl⟩ | ⟨x,t,rfl,rfl⟩
  ·rcases bx hv with ⟨j,u,rfl,rfl⟩ | ⟨y,u,rfl,rfl⟩
   ·rw [FD] at h; exact wpAny_eqBool_int h
   ·rw [FF] at h; exact Nd.int_str i t y u _ _ _ _ h
  ·rcases bx hv with ⟨j,u,rfl,rfl⟩ | ⟨y,u,rfl,rfl⟩
   ·rw [FG] at h; exact Nd.str_int x t j u _ _ _ _ h
   ·rw [FE] at h; exact wpAny_eqBool_str h
 «strs» :=fun k x t v h=>by
  rcases bx h with ⟨i,u,rfl,e⟩ | ⟨y,u,rfl,e⟩
  ·exact nomatch e
  ·injection e with e1 _
   subst e1
   cases v <;> rfl
theorem pq (prog) (w) (i) (t:Tok):(bR prog w).is (.inl i) (.int i t)=true:=vZ i t
theorem pA (prog) (w) (x) (t:Tok):(bR prog w).is (.inr x) (.str x t)=true:=v5 x t
inductive V where
 | non | bl (b:Bool) | int (i:Int) | str (x:Str) | byt (b:Array UInt8) | flt (b:UInt64) | ref (a:Addr) | ty (n:String)
 deriving DecidableEq
noncomputable def RelV:V→Value→Prop
 | .non,u=>u=NO
 | .bl b,u=>u=Value.bool b
 | .int i,u=>∃ t,u=Qw i t
 | .str x,u=>∃ t,u=Qv x t
 | .byt b,u=>∃ t,u=Value.bytes b t
 | .flt b,u=>∃ t,u=Value.float b t
 | .ref a,u=>u=Nc a
 | .ty n,u=>u=N1 n
noncomputable abbrev Vals:List V→List Value→Prop:=Paired RelV
theorem Vals.length (r:Vals xs us):xs.length=us.length:=N4 r
theorem Vals.get:∀ {xs:List V} {us:List Value} {i:Nat} {x:V},Vals xs us→xs[i]?=some x→∃ u,us[i]?=some u∧RelV x u
 | _,_,_,_,.nil,e=>by simp at e
 | _,_,0,_,.cons r _,e=>by simp at e; subst e; exact ⟨_,rfl,r⟩
 | _,_,i+1,x,.cons _ t,e=>by
  obtain ⟨u,h1,h2⟩:=Vals.get (i:=i) (x:=x) t (by simpa using e)
  exact ⟨u,by simpa using h1,h2⟩
theorem Vals.set (r:RelV x u):∀ {xs:List V} {us:List Value} (i:Nat),Vals xs us→Vals (xs.set i x) (us.set i u)
 | _,_,_,.nil=>.nil
 | _,_,0,.cons _ t=>.cons r t
 | _,_,i+1,.cons q t=>.cons q (Vals.set r i t)
theorem Vals.append:∀ {xs ys:List V} {us ws:List Value},Vals xs us→Vals ys ws→Vals (xs++ys) (us++ws)
 | _,_,_,_,.nil,s=>s
 | _,_,_,_,.cons r t,s=>.cons r (Vals.append t s)
theorem Vals.take:∀ {xs:List V} {us:List Value} (n:Nat),Vals xs us→Vals (xs.take n) (us.take n)
 | _,_,0,_=>.nil
 | _,_,_+1,.nil=>.nil
 | _,_,n+1,.cons r t=>.cons r (Vals.take n t)
theorem Vals.drop:∀ {xs:List V} {us:List Value} (n:Nat),Vals xs us→Vals (xs.drop n) (us.drop n)
 | _,_,0,r=>r
 | _,_,_+1,.nil=>.nil
 | _,_,n+1,.cons _ t=>Vals.drop n t
noncomputable def jG:Option V→Option Value→Prop
 | some v,some u=>RelV v u
 | none,none=>True
 | _,_=>False
noncomputable def KV {κ:Type}:List (κ×V)→List (κ×Value)→Prop:=Paired fun (p:κ×V) (q:κ×Value)=>p.1=q.1∧RelV p.2 q.2
noncomputable def kV:Key→V
 | .inl i=>.int i
 | .inr x=>.str x
inductive HO where
 | lst (xs:List V)
 | tup (xs:List V)
 | dK (kvs:List (Key×V)) | dT (kvs:List (List Key×Addr×V))
 | set (S:Int→Bool) (n:Nat)
 | ins (C dx:Addr) (fs:List (Str×V))
 | own (x:Addr)
 | xd (fs:List (Str×V))
 | met (f x:Addr)
 | rng (lo hi:Int)
 | frz (o:Obj) (u:HO)
 | tbl (ps:Array Value)
 | ext (φ :Heap→Prop)
noncomputable abbrev Hp:=Addr→Option HO
noncomputable def upd (H:Hp) (a:Addr) (o:HO):Hp:=fun b=>if b=a then some o else H b
theorem ah:upd H a o a=some o:=by unfold upd; rw [if_pos rfl]
theorem ak (h:b≠a):upd H a o b=H b:=by unfold upd; rw [if_neg h]
theorem nG:upd (upd H a o) a u=upd H a u:=by
 funext b; unfold upd; split <;> rfl
theorem az {H:Hp} (h:H a=some o) (h':H b=none):a≠b:=by
 intro e; subst e; rw [h] at h'; cases h'
section
variable (P:Program) (w:World)
noncomputable def aX (H:Hp) (h:Heap) (a:Addr):HO→Prop
 | .lst xs=>xs.length≤sizeLine∧∃ (its:List Value) (n:Nat),Vals xs its∧h.get? a=some { cls:=.type "list",data:=.seq its.toArray n }
 | .tup xs=>xs.length≤sizeLine∧∃ its:List Value,Vals xs its∧IsTup h a its.toArray
 | .dK kvs=>kvs.length≤sizeLine∧(a == sysModules)=false∧∃ vs,KV kvs vs∧h.DictOf (bR P w) a vs
 | .dT kvs=>kvs.length≤sizeLine∧(a == sysModules)=false∧∃ xs:List (List Key×Addr×Value),
  Paired (fun (p:List Key×Addr×V) (q:List Key×Addr×Value)=>p.1=q.1∧p.2.1=q.2.1∧RelV p.2.2 q.2.2) kvs xs ∧
  ∃ o es ep,h.get? a=some o∧o.ExactDict∧o.data=.dict es ep∧es.toList=xs.map (entryOfKey (tupleKind (bR P w)))∧(xs.map (·.1)).Nodup
 | .set S n=>h.SetOf (intKind P w) a S n
 | .ins C dx fs=>H dx=some (.own a)∧fs.length≤1000∧dx≠a∧h.get? a=some (PySem.W.instObj C dx) ∧
  ∃ mA,h.Ns1 dx mA∧(∀ f,jG (fs.lookup f) (mA f))∧PySem.Within mA (fs.map (·.1))
 | .own _=>∃ o,h.get? a=some o
 | .xd fs=>∃ mA,h.Ns1 a mA∧∀ f,jG (fs.lookup f) (mA f)
 | .rng lo hi=>∃ t u v,h.get? a=some { cls:=.type "range",data:=.fields #[.int lo t,.int hi u,.int 1 v] }
 | .frz o u=>h.get? a=some o∧aX H h a u
 | .tbl ps=>h.get? a=some { cls:=.none,data:=.fields ps }
 | .met f x=>h.get? a=some (Sb (.ref f) (.ref x))
 | .ext φ => φ h∧(∃ o,h.get? a=some o)∧∀ h1 h2:Heap,φ h1→(∀ o,h1.get? a=some o→h2.get? a=some o)→ φ h2
noncomputable def ja (H:Hp) (h:Heap):Prop:=∀ a o,H a=some o→aX P w H h a o
end
section
theorem aX.lt (x:aX P w H h a o):a<h.objs.size:=by
 cases o with
 | lst xs=>obtain ⟨_,_,_,_,e⟩:=x; exact MR e
 | tup xs=>obtain ⟨_,_,_,p⟩:=x; exact p.lt
 | dK kvs=>obtain ⟨_,_,_,_,o,_,_,e,_⟩:=x; exact MR e
 | dT kvs=>obtain ⟨_,_,_,_,o,_,_,e,_⟩:=x; exact MR e
 | set S n=>obtain ⟨o,_,_,_,e,_⟩:=x; exact MR e
 | ins C dx fs=>obtain ⟨_,_,_,e,_⟩:=x; exact MR e
 | own y=>obtain ⟨_,e⟩:=x; exact MR e
 | xd fs=>obtain ⟨_,⟨_,_,_,e,_⟩,_⟩:=x; exact MR e
 | rng lo hi=>obtain ⟨_,_,_,e⟩:=x; exact MR e
 | frz ob u=>obtain ⟨e,_⟩:=x; exact MR e
 | tbl ps=>exact MR (show h.get? a=some _ from x)
 | met f y=>exact MR (show h.get? a=some _ from x)
 | ext φ =>obtain ⟨_,⟨_,e⟩,_⟩:=x; exact MR e
theorem Paired.FH:∀ {l₁:List α} {l₂:List β},Paired F l₁ l₂→(∀ a b,F a b→G a b)→Paired G l₁ l₂
 | _,_,.nil,_=>.nil
 | _,_,.cons r t,f=>.cons (f _ _ r) (Paired.FH t f)
theorem aX.stay (x:aX P w H h a o) (k:∀ b u,(b=a∨H b=some (.own a))→h.get? b=some u→h'.get? b=some u)
 (ho:∀ b,H b=some (.own a)→H' b=some (.own a)) (ht:∀ b xs,H b=some (.tup xs)→H' b=some (.tup xs)):aX P w H' h' a o:=by
 induction o with
 | lst xs=>obtain ⟨z,its,n,r,e⟩:=x; exact ⟨z,its,n,r,k _ _ (.inl rfl) e⟩
 | tup xs=>obtain ⟨z,its,r,ob,e,c⟩:=x; exact ⟨z,its,r,ob,k _ _ (.inl rfl) e,c⟩
 | dK kvs=>obtain ⟨z,y,vs,r,ob,es,ep,e,c⟩:=x; exact ⟨z,y,vs,r,ob,es,ep,k _ _ (.inl rfl) e,c⟩
 | dT kvs =>
  obtain ⟨z,y,xs,r,ob,es,ep,e,c⟩:=x
  exact ⟨z,y,xs,r,ob,es,ep,k _ _ (.inl rfl) e,c⟩
 | set S n=>obtain ⟨ob,es,ep,t,e,c⟩:=x; exact ⟨ob,es,ep,t,k _ _ (.inl rfl) e,c⟩
 | ins C dx fs =>
  obtain ⟨d,z,ne,e,mA,⟨od,es,ep,e2,c⟩,r⟩:=x
  exact ⟨ho _ d,z,ne,k _ _ (.inl rfl) e,mA,⟨od,es,ep,k _ _ (.inr d) e2,c⟩,r⟩
 | own y=>obtain ⟨ob,e⟩:=x; exact ⟨ob,k _ _ (.inl rfl) e⟩
 | xd fs=>obtain ⟨mA,⟨od,es,ep,e,c⟩,r⟩:=x; exact ⟨mA,⟨od,es,ep,k _ _ (.inl rfl) e,c⟩,r⟩
 | rng lo hi=>obtain ⟨t,u,v,e⟩:=x; exact ⟨t,u,v,k _ _ (.inl rfl) e⟩
 | frz ob u ih=>obtain ⟨e,q⟩:=x; exact ⟨k _ _ (.inl rfl) e,ih q⟩
 | tbl ps =>
  have e:h.get? a=some { cls:=.none,data:=.fields ps }:=x
  show h'.get? a=some { cls:=.none,data:=.fields ps }
  exact k a _ (.inl rfl) e
 | met f y =>
  have e:h.get? a=some (Sb (.ref f) (.ref y)):=x
  show h'.get? a=some (Sb (.ref f) (.ref y))
  exact k a _ (.inl rfl) e
 | ext φ =>obtain ⟨p,⟨o,e⟩,st⟩:=x; exact ⟨st _ _ p fun o q=>k _ _ (.inl rfl) q,⟨o,k _ _ (.inl rfl) e⟩,st⟩
theorem ja.lt (x:ja P w H h) (e:H a=some o):a<h.objs.size:=(x a o e).lt
theorem ja.fresh (x:ja P w H h) (e:h.objs.size≤a):H a=none:=by
 cases q:H a with
 | none=>rfl
 | some u=>exact absurd (NI (x.lt q) e) (Oh _)
theorem ja.kept (x:ja P w H h) (k:∀ b u,h.get? b=some u→h'.get? b=some u):ja P w H h':=fun a o e =>
 (x a o e).stay (fun b u _ q=>k b u q) (fun _ q=>q) fun _ _ q=>q
theorem ja.laid (x:ja P w H h) (k:∀ b u,h.get? b=some u→h'.get? b=some u) (hp:h.objs.size≤a) (new:aX P w (upd H a o) h' a o):ja P w (upd H a o) h':=fun b u e=>by
 have hn:=x.fresh hp
 by_cases hb:b=a
 ·subst hb; rw [ah] at e; cases e; exact new
 ·rw [ak hb] at e
  exact (x b u e).stay (fun c v _ q=>k c v q) (fun c q=>by rw [ak (az q hn)]; exact q) fun c xs q=>by rw [ak (az q hn)]; exact q
end
noncomputable def Rd (H:Hp) (a:Addr) (u:HO):Prop:=H a=some u∨∃ o,H a=some (.frz o u)
theorem Rd.ok (r:Rd H a u) (x:ja P w H h):aX P w H h a u:=by
 rcases r with r | ⟨o,r⟩
 ·exact x a u r
 ·obtain ⟨_,q⟩:=x a _ r
  exact q
noncomputable def IZ:Option HO→Prop
 | some (.lst _)=>True
 | some (.dK _)=>True
 | some (.dT _)=>True
 | some (.set _ _)=>True
 | some (.ins _ _ _)=>True
 | some (.ext _)=>True
 | _=>False
section
theorem ja.write (ok:ja P w H h) (mu:IZ (H x)) (he:e=x∨H e=some (.own x)) (k:∀ b u,b≠e→h.get? b=some u→h'.get? b=some u) (heo:∃ u,h'.get? e=some u)
 (new:aX P w (upd H x o') h' x o'):ja P w (upd H x o') h':=fun b u q=>by
 have nown:∀ c y,H c=some (.own y)→c≠x:=fun c y r z=>by subst z; rw [r] at mu; exact mu
 have ntup:∀ c xs,H c=some (.tup xs)→c≠x:=fun c xs r z=>by subst z; rw [r] at mu; exact mu
 by_cases hb:b=x
 ·subst hb; rw [ah] at q; cases q; exact new
 ·rw [ak hb] at q
  by_cases hbe:b=e
  ·have q':H b=some (.own x):=by
    rcases he with z | z
    ·exact absurd (hbe.trans z) hb
    ·rw [hbe]; exact z
   rw [q] at q'; cases q'
   obtain ⟨v,hv⟩:=heo
   exact ⟨v,by rw [hbe]; exact hv⟩
  ·refine (ok b u q).stay (fun c v hc r=>k c v ?_ r) (fun c r=>by rw [ak (nown c b r)]; exact r) fun c xs r=>by rw [ak (ntup c xs r)]; exact r
   rcases hc with rfl | hc
   ·exact hbe
   ·rintro rfl
    rcases he with z | z
    ·exact nown c b hc z
    ·rw [hc] at z; cases z; exact hb rfl
end
structure Un (fs ex:List Addr) (H H':Hp) (h h':Heap):Prop where
 keep:∀ b o,h.get? b=some o→H b=none→b∉fs→b∉ex→h'.get? b=some o
 slot:∀ b o,h.get? b=some o→H b=none→b∈fs→b∉ex→∃ sl,h'.get? b=some { o with slots:=sl }
 free:∀ b o,h.get? b=some o→H b=none→b∉ex→H' b=none
 there:∀ b o,h.get? b=some o→b∉ex→∃ o',h'.get? b=some o'
 tups:∀ b xs,H b=some (.tup xs)→H' b=some (.tup xs)
 frzs:∀ b o u,H b=some (.frz o u)→H' b=some (.frz o u)
 tbls:∀ b ps,H b=some (.tbl ps)→∃ more,H' b=some (.tbl (ps++more))
section
variable {fs fs' ex ex':List Addr} {H H1 H2:Hp} {h h1 h2 h':Heap} {a x e:Addr} {o:HO}
theorem Un.any (u:Un fs ex H H1 h h1) (q:h.get? b=some ob) (n:H b=none) (hx:b∉ex):∃ sl,h1.get? b=some { ob with slots:=sl }:=by
 by_cases hb:b∈fs
 ·exact u.slot b ob q n hb hx
 ·exact ⟨ob.slots,u.keep b ob q n hb hx⟩
theorem Un.kept (k:∀ b u,h.get? b=some u→h'.get? b=some u):Un fs ex H H h h' :=
 ⟨fun b ob q _ _ _=>k b ob q,fun b ob q _ _ _=>⟨ob.slots,k b ob q⟩,fun _ _ _ n _=>n,fun b ob q _=>⟨ob,k b ob q⟩,fun _ _ q=>q,fun _ _ _ q=>q,fun _ ps q=>⟨#[],by rw [q]; simp⟩⟩
theorem Un.refl:Un fs ex H H h h:=Un.kept fun _ _ q=>q
theorem Un.laid (k:∀ b u,h.get? b=some u→h'.get? b=some u) (hp:h.objs.size≤a) (hn:H a=none):Un fs ex H (upd H a o) h h' where
 keep:=fun b u q _ _ _=>k b u q
 slot:=fun b u q _ _ _=>⟨u.slots,k b u q⟩
 free:=fun b u q n _=>by rw [ak (Nh (NI (MR q) hp))]; exact n
 there:=fun b u q _=>⟨u,k b u q⟩
 tups:=fun b xs q=>by rw [ak (az q hn)]; exact q
 frzs:=fun b u xs q=>by rw [ak (az q hn)]; exact q
 tbls:=fun b ps q=>⟨#[],by rw [ak (az q hn),q]; simp⟩
theorem Un.write (mu:IZ (H x)) (he:e=x∨H e=some (.own x)) (k:∀ b u,b≠e→h.get? b=some u→h'.get? b=some u) (heo:∃ u,h'.get? e=some u):Un fs ex H (upd H x o) h h':=by
 have hx:∀ b,H b=none→b≠x:=fun b n z=>by subst z; rw [n] at mu; exact mu
 have hb:∀ b,H b=none→b≠e:=fun b n z=>by
  subst z
  rcases he with r | r
  ·exact hx b n r
  ·rw [n] at r; cases r
 have hm:∀ b u,H b=some u→¬ IZ (some u)→b≠x:=fun b u q nm z=>by subst z; rw [q] at mu; exact nm mu
 refine ⟨fun b u q n _ _=>k b u (hb b n) q,fun b u q n _ _=>⟨u.slots,k b u (hb b n) q⟩,fun b u q n _=>by rw [ak (hx b n)]; exact n,fun b u q _=>?_,
  fun b xs q=>by rw [ak (hm b _ q fun z=>z)]; exact q,fun b u xs q=>by rw [ak (hm b _ q fun z=>z)]; exact q,fun b ps q=>⟨#[],by rw [ak (hm b _ q fun z=>z),q]; simp⟩⟩
 by_cases hbe:b=e
 ·subst hbe; exact heo
 ·exact ⟨u,k b u hbe q⟩
end
noncomputable def K2 (h:Heap) (H:Hp):List Addr:=(Ny h.objs.size).filter fun a=>(H a).isSome
noncomputable def nH (h:Heap) (H:Hp):Heap:=PySem.W.hideAll h (K2 h H)
theorem v7 (h) (H):(nH h H).objs.size=h.objs.size:=PySem.W.hideAll_size _ _
theorem yp (e:h.get? b=some o) (n:H b=none):(nH h H).get? b=some o :=
 PySem.W.hideAll_get _ e fun hm=>by
  have q:(H b).isSome=true:=(Qf.mp hm).2
  rw [n] at q; simp at q
theorem Ct (e:(nH h H).get? b=some o):h.get? b=some o∧H b=none:=by
 have e':h.get? b=some o:=PySem.W.of_hideAll (K2 h H) e
 refine ⟨e',?_⟩
 cases q:H b with
 | none=>rfl
 | some x =>
  have hm:b∈K2 h H:=Qf.mpr ⟨Rl.mpr (MR e'),by simp [q]⟩
  have z:(nH h H).get? b=none:=PySem.W.hideAll_none (K2 h H) hm
  rw [z] at e; cases e
structure Mod (K:MI) (mg:Str→Option Value) (base:Heap):Prop where
 kin:K.In base
 glob:base.Ns mainGlobals mg
 blt:∃ mb,base.Ns builtinsNs mb∧∀ x:Str,x≠"__name__"→mb x=bootBuiltins x
 nolimit:base.NoLimit
structure Cx where
 prog:Program
 w:World
 K:MI
 mg:Str→Option Value
 base:Heap
 A:Around
 N:List Str
 s₀:Shared
 H₀:Hp
 env:Env
 outer:List Env
 stack:List Env
 ex:List Addr
 fn:Str→Bool
 calm:Bool
 pn:List (Addr×Obj)
 xe:Value→Shared→Prop
noncomputable def frs (l:List Env):List Addr:=l.filterMap (·.frame)
noncomputable abbrev Cx.fs (X:Cx):List Addr:=frs X.outer
noncomputable def Ld (sc:Scope) (x:Str):Prop:=sc.names.lookup x=some .local∨sc.names.lookup x=some .cell∨sc.names.lookup x=some .free
noncomputable def Loc (sc:Scope) (x:Str):Prop:=sc.names.lookup x=some .local∨sc.names.lookup x=some .cell
noncomputable def Look (env:Env) (h:Heap) (m:Str→Option Value) (x:Str) (u:Value):Prop :=
 (env.kindOf x=some .local∧m x=some u)∨((env.kindOf x=some .cell∨env.kindOf x=some .free)∧∃ c,env.cells.lookup x=some c∧h.IsCell c (some u))
structure Cx.Ok (X:Cx):Prop where
 mod:Mod X.K X.mg X.base
 kind:X.env.scope.kind=.function
 glob:X.env.globals=mainGlobals
 blt:X.env.builtins=builtinsNs
 above:X.s₀.heap.objs.size≤X.env.locals
 inj:∀ x y c,X.env.cells.lookup x=some c→X.env.cells.lookup y=some c→x=y
 has:∀ x,(X.env.kindOf x=some .cell∨X.env.kindOf x=some .free)→∃ c,X.env.cells.lookup x=some c
 cab:∀ x c,X.fn x=true→X.env.cells.lookup x=some c→X.s₀.heap.objs.size≤c
 hd:X.calm=true→X.A.handled=none
 frames:X.A.frames=some X.stack
 stk:X.stack=X.outer∨(X.stack=X.env::X.outer∧X.env.frame=some X.env.locals)
 exf:∀ b∈X.ex,b≠X.env.locals∧∀ x c,X.env.cells.lookup x=some c→c≠b
 bs:∀ b o,X.base.get? b=some o→X.s₀.heap.get? b=some o∧X.H₀ b=none
 bsz:X.base.objs.size≤X.s₀.heap.objs.size
 noex:∀ b o,X.base.get? b=some o→b∉X.ex
 exfs:∀ b∈X.ex,b∉X.fs
 jb:X.s₀.heap.FunFrames X.base X.outer
 frf:∀ b∈X.fs,X.H₀ b=none
structure Inv (X:Cx) (aa:List (Addr×Obj)) (σ:List (Option V)) (H:Hp) (s:Shared):Prop where
 ok:X.Ok
 os:s.os=X.s₀.os
 bare:AllBare s.gens
 base:Un X.fs X.ex X.H₀ H X.s₀.heap s.heap
 loc:∃ m,s.heap.Ns X.env.locals m∧∀ (i:Nat) (x:Str) (v:V),X.N[i]?=some x→σ[i]?=some (some v)→Ld X.env.scope x→∃ u,RelV v u∧Look X.env s.heap m x u
 cell:∀ x c,X.env.cells.lookup x=some c→∃ v,s.heap.IsCell c v
 free:H X.env.locals=none
 freeC:∀ x c,X.env.cells.lookup x=some c→H c=none
 pin:∀ p∈X.pn++aa,s.heap.get? p.1=some p.2∧H p.1=none∧p.1≠X.env.locals∧p.1∉X.fs∧∀ v,p.2.data≠.cell v
 hok:ja X.prog X.w H s.heap
 len:σ.length=X.N.length
section
variable {X:Cx}
theorem Cx.Ok.Le (ok:X.Ok) (e:X.base.get? b=some o):b∉X.fs:=fun hb=>by
 have:=(ok.jb.mem hb).1
 rw [e] at this; cases this
theorem Inv.bs (I:Inv X aa σ H s):∀ b o,X.base.get? b=some o→s.heap.get? b=some o∧H b=none:=fun b o e =>
 ⟨I.base.keep b o (I.ok.bs b o e).1 (I.ok.bs b o e).2 (I.ok.Le e) (I.ok.noex b o e),I.base.free b o (I.ok.bs b o e).1 (I.ok.bs b o e).2 (I.ok.noex b o e)⟩
theorem Inv.bk (I:Inv X aa σ H s):∀ b o,X.base.get? b=some o→s.heap.get? b=some o:=fun b o e=>(I.bs b o e).1
theorem Inv.mod (I:Inv X aa σ H s):Mod X.K X.mg X.base:=I.ok.mod
theorem Inv.nI (I:Inv X aa σ H s):X.K.In s.heap:=I.ok.mod.kin.keeps I.bk
theorem Inv.lt (I:Inv X aa σ H s):X.env.locals<s.heap.objs.size:=let ⟨_,hn,_⟩:=I.loc; hn.lt
theorem Inv.sz (I:Inv X aa σ H s):X.s₀.heap.objs.size≤s.heap.objs.size:=MT I.ok.above (OU I.lt)
theorem Inv.I0 (I:Inv X aa σ H s) (h:s.heap.objs.size≤a):a∉X.fs:=fun hb=>by
 obtain ⟨_,o,ho,_⟩:=I.ok.jb.mem hb
 exact absurd (NI (MR ho) (MT I.sz h)) (Oh _)
theorem Inv.FI (I:Inv X aa σ H s):∀ x c,X.env.cells.lookup x=some c→c≠X.env.locals:=fun x c e z=>by
 obtain ⟨v,o,ho,hd⟩:=I.cell x c e
 obtain ⟨m,⟨o',es,ep,ho',hd',_⟩,_⟩:=I.loc
 rw [z,ho'] at ho; cases ho; rw [hd'] at hd; cases hd
theorem Inv.jb (I:Inv X aa σ H s):s.heap.FunFrames X.base X.outer:=by
 have all:∀ (l:List Env),(∀ b∈frs l,b∈X.fs)→X.s₀.heap.FunFrames X.base l→s.heap.FunFrames X.base l:=by
  intro l
  induction l with
  | nil=>intro _ _; trivial
  | cons env r ih =>
   intro hs hl
   obtain ⟨hk,⟨L,o,hf,hn,ho,hd⟩,hr⟩:=hl
   have hL:L∈X.fs:=hs L (by unfold frs; rw [N7,hf]; exact MW)
   obtain ⟨sl,e⟩:=I.base.slot L o ho (I.ok.frf L hL) hL fun z=>I.ok.exfs L z hL
   exact ⟨hk,⟨L,_,hf,hn,e,hd⟩,ih (fun b hb=>hs b (by unfold frs; rw [N7,hf]; exact MX _ hb)) hr⟩
 exact all X.outer (fun _ hb=>hb) I.ok.jb
theorem Inv.stack (I:Inv X aa σ H s):s.heap.FunFrames X.base X.stack:=by
 rcases I.ok.stk with e | ⟨e,hf⟩
 ·rw [e]; exact I.jb
 ·rw [e]
  obtain ⟨m,hn,_⟩:=I.loc
  refine .cons (by rw [I.ok.kind]; decide) hf hn ?_ I.jb
  exact Heap.get?_none_of_le (MT I.ok.bsz I.ok.above)
theorem Inv.rR (I:Inv X aa σ H s):∀ b∈frs X.stack,b∈X.env.locals::X.fs:=fun b hb=>by
 rcases I.ok.stk with e | ⟨e,hf⟩
 ·rw [e] at hb; exact MX _ hb
 ·rw [e] at hb
  unfold frs at hb
  rw [N7,hf] at hb
  exact hb
theorem Inv.uf (I:Inv X aa σ H s):∀ b∈frs X.stack,H b=none:=fun b hb=>by
 rcases M0.mp (I.rR b hb) with e | hb
 ·rw [e]; exact I.free
 ·obtain ⟨_,o,ho,_⟩:=I.ok.jb.mem hb
  exact I.base.free b o ho (I.ok.frf b hb) fun z=>I.ok.exfs b z hb
theorem Inv.step {ch:List Addr} (I:Inv X aa σ H s)
 (hch:∀ b∈ch,(b∈X.ex∨X.s₀.heap.objs.size≤b)∧b≠X.env.locals∧(∀ x c,X.env.cells.lookup x=some c→c≠b)∧∀ p∈X.pn++aa,p.1≠b)
 (keep:∀ b o,b≠X.env.locals→b∉X.fs→b∉ch→s.heap.get? b=some o→H b=none→h'.get? b=some o)
 (slot:∀ b o,b≠X.env.locals→b∈X.fs→b∉ch→s.heap.get? b=some o→H b=none→∃ sl,h'.get? b=some { o with slots:=sl }) (free:∀ b o,b∉ch→s.heap.get? b=some o→H b=none→H' b=none)
 (there:∀ b o,b∉ch→s.heap.get? b=some o→∃ o',h'.get? b=some o')
 (tups:∀ b xs,H b=some (.tup xs)→H' b=some (.tup xs)) (frzs:∀ b o u,H b=some (.frz o u)→H' b=some (.frz o u)) (tbls:∀ b ps,H b=some (.tbl ps)→∃ more,H' b=some (.tbl (ps++more)))
 (ns:∀ m,s.heap.Ns X.env.locals m→h'.Ns X.env.locals m) (hok:ja X.prog X.w H' h') (hg:AllBare g') :
 Inv X aa σ H' { s with heap:=h',gens:=g',drawn:=d',toks:=t' }:=by
 have neL:∀ b o,X.s₀.heap.get? b=some o→b≠X.env.locals:=fun b o e=>Nh (NI (MR e) I.ok.above)
 have neC:∀ b o,X.s₀.heap.get? b=some o→b∉X.ex→b∉ch:=fun b o e hx hb=>by
  rcases (hch b hb).1 with z | z
  ·exact hx z
  ·exact absurd (NI (MR e) z) (Oh _)
 have cellK:∀ x c,X.env.cells.lookup x=some c→∀ v,s.heap.IsCell c v→h'.IsCell c v:=fun x c e v ⟨o,ho,hd⟩=>by
  have nch:c∉ch:=fun z=>(hch c z).2.2.1 x c e rfl
  by_cases hc:c∈X.fs
  ·obtain ⟨sl,q⟩:=slot c o (I.FI x c e) hc nch ho (I.freeC x c e)
   exact ⟨_,q,hd⟩
  ·exact ⟨o,keep c o (I.FI x c e) hc nch ho (I.freeC x c e),hd⟩
 refine ⟨I.ok,I.os,hg,⟨fun b o e n hb hx=>?_,fun b o e n hb hx=>?_,fun b o e n hx=>?_,fun b o e hx=>?_,fun b xs e=>tups b xs (I.base.tups b xs e),fun b o xs e=>frzs b o xs (I.base.frzs b o xs e),fun b ps e=>?_⟩,?_,fun x c e=>?_,?_,fun x c e=>?_,fun p hp=>?_,hok,I.len⟩
 ·exact keep b o (neL b o e) hb (neC b o e hx) (I.base.keep b o e n hb hx) (I.base.free b o e n hx)
 ·obtain ⟨sl,e1⟩:=I.base.slot b o e n hb hx
  obtain ⟨sl',e2⟩:=slot b _ (neL b o e) hb (neC b o e hx) e1 (I.base.free b o e n hx)
  exact ⟨sl',e2⟩
 ·obtain ⟨o',e1⟩:=I.base.there b o e hx
  exact free b o' (neC b o e hx) e1 (I.base.free b o e n hx)
 ·obtain ⟨o',e1⟩:=I.base.there b o e hx
  exact there b o' (neC b o e hx) e1
 ·obtain ⟨m1,e1⟩:=I.base.tbls b ps e
  obtain ⟨m2,e2⟩:=tbls b _ e1
  exact ⟨m1++m2,by rw [e2,Array.append_assoc]⟩
 ·obtain ⟨m,hn,hl⟩:=I.loc
  refine ⟨m,ns m hn,fun i x v e1 e2 e3=>?_⟩
  obtain ⟨u,r,l⟩:=hl i x v e1 e2 e3
  refine ⟨u,r,?_⟩
  rcases l with l | ⟨k,c,e,z⟩
  ·exact .inl l
  ·exact .inr ⟨k,c,e,cellK x c e _ z⟩
 ·obtain ⟨v,z⟩:=I.cell x c e
  exact ⟨v,cellK x c e v z⟩
 ·obtain ⟨m,⟨o,_,_,ho,_⟩,_⟩:=I.loc
  exact free _ o (fun z=>(hch _ z).2.1 rfl) ho I.free
 ·obtain ⟨v,o,ho,hd⟩:=I.cell x c e
  exact free c o (fun z=>(hch c z).2.2.1 x c e rfl) ho (I.freeC x c e)
 ·obtain ⟨e,n,ne,nf,d⟩:=I.pin p hp
  have nch:p.1∉ch:=fun z=>(hch p.1 z).2.2.2 p hp rfl
  exact ⟨keep p.1 p.2 ne nf nch e n,free p.1 p.2 nch e n,ne,nf,d⟩
theorem Inv.un (I:Inv X aa σ H s) (u:Un X.fs [] H H' s.heap h') (hok:ja X.prog X.w H' h'):Inv X aa σ H' { s with heap:=h',toks:=t' }:=by
 obtain ⟨m,⟨o,es,ep,ho,r⟩,_⟩:=id I.loc
 obtain ⟨sl,hL⟩:=u.any ho I.free (by simp)
 exact I.step (g':=s.gens) (d':=s.drawn) (ch:=[]) (fun _ z=>nomatch z) (fun b o _ hb _ e n=>u.keep b o e n hb (by simp)) (fun b o _ hb _ e n=>u.slot b o e n hb (by simp)) (fun b o _ e n=>u.free b o e n (by simp)) (fun b o _ e=>u.there b o e (by simp)) u.tups u.frzs u.tbls (fun m' hm=>by
  obtain ⟨o',es',ep',ho',r'⟩:=hm
  rw [ho] at ho'; cases ho'
  exact ⟨_,es',ep',hL,r'⟩) hok I.bare
theorem Inv.call (I:Inv X aa σ H s) (u:Un (frs X.stack) ch H H' s.heap h') (hok:ja X.prog X.w H' h') (hg:AllBare g')
 (hch:∀ b∈ch,(b∈X.ex∨X.s₀.heap.objs.size≤b)∧b≠X.env.locals∧(∀ x c,X.env.cells.lookup x=some c→c≠b)∧∀ p∈X.pn++aa,p.1≠b) :
 Inv X aa σ H' { s with heap:=h',gens:=g',drawn:=d',toks:=t' }:=by
 obtain ⟨m,⟨o,es,ep,ho,r⟩,_⟩:=id I.loc
 obtain ⟨sl,hL⟩:=u.any ho I.free fun z=>(hch _ z).2.1 rfl
 exact I.step (ch:=ch) hch (fun b o hL hb hc e n=>u.keep b o e n (fun z=>(M0.mp (I.rR b z)).elim hL hb) hc) (fun b o _ _ hc e n=>u.any e n hc) (fun b o hc e n=>u.free b o e n hc) (fun b o hc e=>u.there b o e hc) u.tups u.frzs u.tbls (fun m' hm=>by
  obtain ⟨o',es',ep',ho',r'⟩:=hm
  rw [ho] at ho'; cases ho'
  exact ⟨_,es',ep',hL,r'⟩) hok hg
theorem Inv.turned (I:Inv X aa σ H s) (k:∀ b o,b≠it→s.heap.get? b=some o→h'.get? b=some o) (hn:H it=none) (hL:it≠X.env.locals)
 (h1:it∈X.ex∨X.s₀.heap.objs.size≤it) (h2:∀ x c,X.env.cells.lookup x=some c→c≠it) (h3:∀ p∈X.pn++aa,p.1≠it):Inv X aa σ H { s with heap:=h',toks:=t' }:=by
 have nit:∀ b u,H b=some u→b≠it:=fun b u e z=>by rw [z,hn] at e; cases e
 refine I.step (g':=s.gens) (d':=s.drawn) (ch:=[it]) (fun b hb=>?_) (fun b o _ _ hc e _=>k b o (fun z=>hc (by simp [z])) e) (fun b o _ _ hc e _=>⟨o.slots,k b o (fun z=>hc (by simp [z])) e⟩) (fun _ _ _ _ n=>n)
  (fun b o hc e=>⟨o,k b o (fun z=>hc (by simp [z])) e⟩) (fun _ _ e=>e) (fun _ _ _ e=>e) (fun b ps e=>⟨#[],by rw [e]; simp⟩) (fun m hm=>?_) (fun b u e=>?_) I.bare
 ·have e:b=it:=by simpa using hb
  subst e
  exact ⟨h1,hL,h2,h3⟩
 ·obtain ⟨o,es,ep,ho,r⟩:=hm
  exact ⟨o,es,ep,k _ o (M8 hL) ho,r⟩
 ·refine (I.hok b u e).stay (fun c v hc q=>k c v ?_ q) (fun _ q=>q) fun _ _ q=>q
  rcases hc with z | z
  ·rw [z]; exact nit b u e
  ·exact nit c _ z
theorem Inv.tok (I:Inv X aa σ H s) (t):Inv X aa σ H { s with toks:=t }:=I.un (h':=s.heap) (t':=t) Un.refl I.hok
theorem Inv.kept (I:Inv X aa σ H s) (k:∀ b u,s.heap.get? b=some u→h'.get? b=some u):Inv X aa σ H { s with heap:=h',toks:=t' }:=I.un (Un.kept k) (I.hok.kept k)
theorem Inv.laid (I:Inv X aa σ H s) (k:∀ b u,s.heap.get? b=some u→h'.get? b=some u) (hp:s.heap.objs.size≤a) (new:aX X.prog X.w (upd H a o) h' a o) :
 Inv X aa σ (upd H a o) { s with heap:=h',toks:=t' }:=I.un (Un.laid k hp (I.hok.fresh hp)) (I.hok.laid k hp new)
theorem Inv.write (I:Inv X aa σ H s) (mu:IZ (H x)) (he:e=x∨H e=some (.own x)) (k:∀ b u,b≠e→s.heap.get? b=some u→h'.get? b=some u) (heo:∃ u,h'.get? e=some u)
 (new:aX X.prog X.w (upd H x o) h' x o):Inv X aa σ (upd H x o) { s with heap:=h',toks:=t' }:=I.un (Un.write mu he k heo) (I.hok.write mu he k heo new)
theorem Inv.ug (I:Inv X aa σ H s) (h:∀ p∈pins',s.heap.get? p.1=some p.2∧H p.1=none∧p.1≠X.env.locals∧p.1∉X.fs∧∀ v,p.2.data≠.cell v):Inv X pins' σ H s :=
 ⟨I.ok,I.os,I.bare,I.base,I.loc,I.cell,I.free,I.freeC,fun p hp=>(Ng.mp hp).elim (fun z=>I.pin p (O3 _ z)) (h p),I.hok,I.len⟩
theorem pB {N:List Str} (hN:N.Nodup) {i j:Nat} (a:N[i]?=some x) (b:N[j]?=some x):i=j:=by
 obtain ⟨h1,e1⟩:=MU.mp a
 obtain ⟨h2,e2⟩:=MU.mp b
 exact (List.getElem_inj hN).mp (e1.trans e2.symm)
theorem v8 (I:Inv X aa σ H s) (hN:X.N.Nodup) (hi:X.N[i]?=some x) (hx:Loc X.env.scope x) (r:RelV v u)
 (h:∀ s',Inv X aa (σ.set i (some v)) H s'→(∃ a,Ov a s.heap s'.heap∧(a=X.env.locals∨X.env.cells.lookup x=some a))→Q () s') (hf:X.fn x=true∨X.env.scope.names.lookup x=some .local:=by first | exact .inl rfl | exact .inr rfl | assumption):wpAny M A (storeName X.env x u) Q E s:=by
 obtain ⟨m,hn,hl⟩:=id I.loc
 have hcls:(X.env.scope.kind == .class || (X.env.scope.kind == .module && X.env.locals != X.env.globals))=false:=by rw [I.ok.kind]; rfl
 have hiσ:i<σ.length:=by rw [I.len]; exact (MU.mp hi).1
 have FI:=I.FI
 have tracked:∀ {a:Addr} {h':Heap},(∃ o,s.heap.get? a=some o∧H a=none)→Ov a s.heap h'→ja X.prog X.w H h':=fun {a h'} ha hs b ob e=>by
  obtain ⟨_,_,hfree⟩:=ha
  refine (I.hok b ob e).stay (fun c w' hc q=>(hs.2 c ?_).trans q) (fun _ q=>q) fun _ _ q=>q
  rintro rfl
  rcases hc with rfl | hc
  ·rw [hfree] at e; cases e
  ·rw [hfree] at hc; cases hc
 rcases hx with hk | hk
 ·refine wpAny_storeName_local hk hn (fun h' hn' hs=>?_) hcls
  obtain ⟨oL,_,_,hoL,_⟩:=id hn
  refine h _ ⟨I.ok,I.os,I.bare,⟨fun b o e n hb hx=>?_,fun b o e n hb hx=>?_,I.base.free,fun b o e hx=>?_,I.base.tups,I.base.frzs,I.base.tbls⟩,⟨_,hn',fun j y v' e1 e2 e3=>?_⟩,fun y c e=>?_,I.free,I.freeC,fun p hp=>?_,tracked ⟨oL,hoL,I.free⟩ hs,by simpa using I.len⟩ ⟨_,hs,.inl rfl⟩
  ·exact (hs.2 b (Nh (NI (MR e) I.ok.above))).trans (I.base.keep b o e n hb hx)
  ·obtain ⟨sl,e1⟩:=I.base.slot b o e n hb hx
   exact ⟨sl,(hs.2 b (Nh (NI (MR e) I.ok.above))).trans e1⟩
  ·obtain ⟨o',e1⟩:=I.base.there b o e hx
   exact ⟨o',(hs.2 b (Nh (NI (MR e) I.ok.above))).trans e1⟩
  ·by_cases hj:j=i
   ·subst hj
    rw [hi] at e1; cases e1
    rw [NU hiσ] at e2
    cases e2
    exact ⟨u,r,.inl ⟨hk,by simp⟩⟩
   ·rw [NV (M8 hj)] at e2
    obtain ⟨u',r',q⟩:=hl j y v' e1 e2 e3
    refine ⟨u',r',?_⟩
    rcases q with ⟨k,e⟩ | ⟨k,c,e,z⟩
    ·refine .inl ⟨k,?_⟩
     have:y≠x:=fun e=>hj (pB hN e1 (e ▸ hi))
     simp [this,e]
    ·exact .inr ⟨k,c,e,z.sameBut hs (FI y c e)⟩
  ·obtain ⟨w',z⟩:=I.cell y c e
   exact ⟨w',z.sameBut hs (FI y c e)⟩
  ·obtain ⟨e,n,ne,nf,d⟩:=I.pin p hp
   exact ⟨(hs.2 p.1 ne).trans e,n,ne,nf,d⟩
 ·have hfn:X.fn x=true:=by
   rcases hf with z | z
   ·exact z
   ·rw [z] at hk; cases hk
  obtain ⟨c,hc⟩:=I.ok.has x (.inl hk)
  obtain ⟨w',z⟩:=I.cell x c hc
  refine wpAny_storeName_cell I.ok.kind hk hc z (fun h' hc' hs=>?_)
  obtain ⟨oc,hoc,hocd⟩:=id z
  refine h { s with heap:=h' } ⟨I.ok,I.os,I.bare,⟨fun b o e n hb hx=>?_,fun b o e n hb hx=>?_,I.base.free,fun b o e hx=>?_,I.base.tups,I.base.frzs,I.base.tbls⟩,⟨m,hn.sameBut hs (M8 (FI x c hc)),fun j y v' e1 e2 e3=>?_⟩,fun y c' e=>?_,I.free,I.freeC,fun p hp=>?_,tracked ⟨oc,hoc,I.freeC x c hc⟩ hs,by simpa using I.len⟩ ⟨c,hs,.inr hc⟩
  ·exact (hs.2 b (Nh (NI (MR e) (I.ok.cab x c hfn hc)))).trans (I.base.keep b o e n hb hx)
  ·obtain ⟨sl,e1⟩:=I.base.slot b o e n hb hx
   exact ⟨sl,(hs.2 b (Nh (NI (MR e) (I.ok.cab x c hfn hc)))).trans e1⟩
  ·obtain ⟨o',e1⟩:=I.base.there b o e hx
   exact ⟨o',(hs.2 b (Nh (NI (MR e) (I.ok.cab x c hfn hc)))).trans e1⟩
  ·by_cases hj:j=i
   ·subst hj
    rw [hi] at e1; cases e1
    rw [NU hiσ] at e2
    cases e2
    exact ⟨u,r,.inr ⟨.inl hk,c,hc,hc'⟩⟩
   ·rw [NV (M8 hj)] at e2
    obtain ⟨u',r',q⟩:=hl j y v' e1 e2 e3
    refine ⟨u',r',?_⟩
    rcases q with q | ⟨k,c',e,z'⟩
    ·exact .inl q
    ·refine .inr ⟨k,c',e,z'.sameBut hs ?_⟩
     rintro rfl
     exact hj (pB hN e1 (I.ok.inj _ _ _ e hc ▸ hi))
  ·by_cases hcc:c'=c
   ·subst hcc; exact ⟨_,hc'⟩
   ·obtain ⟨w2,z2⟩:=I.cell y c' e
    exact ⟨w2,z2.sameBut hs hcc⟩
  ·obtain ⟨e,n,ne,nf,d⟩:=I.pin p hp
   refine ⟨(hs.2 p.1 ?_).trans e,n,ne,nf,d⟩
   intro q
   rw [q,hoc] at e
   have q':oc=p.2:=Of e
   exact d w' (by rw [← q']; exact hocd)
theorem kg (I:Inv X aa σ H s) (hN:X.N.Nodup) (hi:X.N[i]?=some x) (hx:Loc X.env.scope x) (r:RelV v u)
 (h:∀ s',Inv X aa (σ.set i (some v)) H s'→Q () s') (hf:X.fn x=true∨X.env.scope.names.lookup x=some .local:=by first | exact .inl rfl | exact .inr rfl | assumption):wpAny M A (storeName X.env x u) Q E s :=
 v8 I hN hi hx r (fun s' I' _=>h s' I') hf
theorem Inv.Ja (I:Inv X aa σ H s) (ho:s'.os=s.os) (u:Un (frs X.stack) ch H H' s.heap s'.heap) (hok:ja X.prog X.w H' s'.heap) (hg:AllBare s'.gens)
 (hch:∀ b∈ch,(b∈X.ex∨X.s₀.heap.objs.size≤b)∧b≠X.env.locals∧(∀ x c,X.env.cells.lookup x=some c→c≠b)∧∀ p∈X.pn++aa,p.1≠b):Inv X aa σ H' s':=by
 obtain ⟨h',g',d',t',o'⟩:=s'
 have e:o'=s.os:=ho
 subst e
 exact I.call (g':=g') (t':=t') (d':=d') u hok hg hch
end
noncomputable abbrev XK:=Value→Option Addr→Hp→Prop
noncomputable abbrev St:=List (Option V)
noncomputable abbrev VK:=V→Hp→Prop
noncomputable abbrev TE:=St→Hp→VK→Prop
noncomputable abbrev TT:=St→Hp→(Bool→Hp→Prop)→Prop
noncomputable abbrev TA:=St→Hp→(List V→Hp→Prop)→Prop
structure Ends where
 nx:St→Hp→Prop
 rt:VK
 bk:St→Hp→Prop:=fun _ _=>False
 ct:St→Hp→Prop:=fun _ _=>False
noncomputable abbrev TS:=Ends→St→Hp→Prop
noncomputable def EP (X:Cx) (aa:List (Addr×Obj)) (σ:St) (Q:VK) (u:Value) (s':Shared):Prop:=∃ v H',Inv X aa σ H' s'∧RelV v u∧Q v H'
noncomputable def TP (X:Cx) (aa:List (Addr×Obj)) (σ:St) (Q:Bool→Hp→Prop) (b:Bool) (s':Shared):Prop:=∃ H',Inv X aa σ H' s'∧Q b H'
noncomputable def AP (X:Cx) (aa:List (Addr×Obj)) (σ:St) (Q:List V→Hp→Prop) (us:List Value) (s':Shared):Prop:=∃ vs H',Inv X aa σ H' s'∧Vals vs us∧Q vs H'
noncomputable def SP (X:Cx) (aa:List (Addr×Obj)) (D:Ends) (f:Flow) (s':Shared):Prop :=
 match f with
 | .next=>∃ σ' H',Inv X aa σ' H' s'∧D.nx σ' H'
 | .brk=>∃ σ' H',Inv X aa σ' H' s'∧D.bk σ' H'
 | .cont=>∃ σ' H',Inv X aa σ' H' s'∧D.ct σ' H'
 | .ret u=>∃ v σ' H',Inv X aa σ' H' s'∧RelV v u∧D.rt v H'
noncomputable def PE (X:Cx) (e:Expr) (t:TE):Prop :=
 ∀ (aa:List (Addr×Obj)) (s:Shared) (σ:St) (H:Hp) (Q:VK),Inv X aa σ H s→t σ H Q→wpAny (model X.prog X.w) X.A (eval e X.env) (EP X aa σ Q) X.xe s
noncomputable def PT (X:Cx) (e:Expr) (t:TT):Prop :=
 ∀ (aa:List (Addr×Obj)) (s:Shared) (σ:St) (H:Hp) (Q:Bool→Hp→Prop),Inv X aa σ H s→t σ H Q→wpAny (model X.prog X.w) X.A (isTrue e X.env (eval e X.env)) (TP X aa σ Q) X.xe s
noncomputable def PW (X:Cx) (e:Expr) (t:TT):Prop :=
 ∀ (whole:Sem Value) (aa:List (Addr×Obj)) (s:Shared) (σ:St) (H:Hp) (Q:Bool→Hp→Prop),Inv X aa σ H s→t σ H Q→wpAny (model X.prog X.w) X.A (isTrue e X.env whole) (TP X aa σ Q) X.xe s
noncomputable def PA (X:Cx) (es:List Expr) (t:TA):Prop :=
 ∀ (pos:Pos) (aa:List (Addr×Obj)) (s:Shared) (σ:St) (H:Hp) (Q:List V→Hp→Prop),Inv X aa σ H s→t σ H Q→wpAny (model X.prog X.w) X.A (spliced (backTo pos (starEach es X.env))) (AP X aa σ Q) X.xe s
noncomputable def PS (X:Cx) (st:Stmt) (t:TS):Prop :=
 ∀ (aa:List (Addr×Obj)) (s:Shared) (σ:St) (H:Hp) (D:Ends),Inv X aa σ H s→t D σ H→wpAny (model X.prog X.w) X.A (exec st X.env) (SP X aa D) X.xe s
noncomputable def rP (X:Cx) (st:List Stmt) (t:TS):Prop :=
 ∀ (aa:List (Addr×Obj)) (s:Shared) (σ:St) (H:Hp) (D:Ends),Inv X aa σ H s→t D σ H→wpAny (model X.prog X.w) X.A (execs st X.env) (SP X aa D) X.xe s
theorem bw (h:wpAny M A t Q E s) (hQ:∀ a s,Q a s→Q' a s):wpAny M A t Q' E s:=Nv h hQ fun _ _ x=>x
section
noncomputable def Jb (i:Nat):TE:=fun σ H Q=>∃ v,σ[i]?=some (some v)∧Q v H
noncomputable def tC (v:V):TE:=fun _ H Q=>Q v H
theorem rS (hN:X.N[i]?=some x) (hv:Ld X.env.scope x) (hd:(x == ("__debug__":Str))=false:=by decide) (hcd:(x == ("__classdict__":Str))=false:=by decide):PE X (.Name x pos) (Jb i):=by
 intro aa s σ H Q I h
 obtain ⟨v,e,h⟩:=h
 obtain ⟨m,hn,hl⟩:=I.loc
 obtain ⟨u,r,l⟩:=hl i x v hN e hv
 have fin:EP X aa σ Q u s:=⟨v,H,I,r,h⟩
 rcases l with ⟨hk,hm⟩ | ⟨hk,c,hc,hcell⟩
 ·exact wpAny_Name (wpAny_loadName_local I.ok.kind hk hn hm fin) hd
 ·rcases hk with hk | hk
  ·exact wpAny_Name (wpAny_loadName_cell I.ok.kind hk hc hcell fin) hd
  ·exact wpAny_Name (wpAny_loadName_free I.ok.kind hk hc hcell fin hcd) hd
theorem yq {i j pos}:PE X (.Constant (.int i) j pos) (tC (.int i)):=fun _ _ _ H _ I h=>wpAny_Constant_int ⟨.int i,H,I.tok _,⟨_,rfl⟩,h⟩
theorem ES {b j pos}:PE X (.Constant (.bool b) j pos) (tC (.bl b)):=fun _ _ _ H _ I h=>Constant_bool ⟨.bl b,H,I,rfl,h⟩
noncomputable def Gl (X:Cx) (x:Str):Prop:=X.env.kindOf x=some .globalImplicit
theorem iD (I:Inv X aa σ H s) (hg:Gl X x) (hm:X.mg x=some u) (h:Q u s)
 (hd:(x == ("__debug__":Str))=false:=by decide):wpAny (model X.prog X.w) X.A (eval (.Name x pos) X.env) Q E s :=
 Calls.Name_function_global I.ok.kind hg (Calls.loadGlobal_global (by rw [I.ok.glob]; exact I.mod.glob.keeps I.bk) hm h) hd
theorem c7 (I:Inv X aa σ H s) (hg:Gl X x) (hm:X.mg x=none) (hv:bootBuiltins x=some u) (h:Q u s)
 (hn:x≠"__name__":=by decide) (hd:(x == ("__debug__":Str))=false:=by decide):wpAny (model X.prog X.w) X.A (eval (.Name x pos) X.env) Q E s:=by
 obtain ⟨mb,h1,h2⟩:=I.mod.blt
 exact Calls.Name_function_global I.ok.kind hg (Calls.loadGlobal_builtin (by rw [I.ok.glob]; exact I.mod.glob.keeps I.bk) hm (by rw [I.ok.blt]; exact h1.keeps I.bk) ((h2 x hn).trans hv) h) hd
theorem uh (hg:Gl X x) (hm:X.mg x=some u) (r:RelV v u) (hd:(x == ("__debug__":Str))=false:=by decide):PE X (.Name x pos) (tC v) :=
 fun _ _ _ H _ I h=>iD I hg hm ⟨v,H,I,r,h⟩ hd
noncomputable def PC (X:Cx) (op:CmpOp) (a b:Expr) (t:TE):Prop :=
 ∀ (aa:List (Addr×Obj)) (s:Shared) (σ:St) (H:Hp) (Q:VK),Inv X aa σ H s→t σ H Q →
  wpAny (model X.prog X.w) X.A (eval a X.env) (fun v s₁=>wpAny (model X.prog X.w) X.A (eval b X.env) (fun u s₂=>wpAny (model X.prog X.w) X.A (compareOp op v u) (EP X aa σ Q) X.xe s₂) X.xe s₁) X.xe s
noncomputable def tB (t:TE):TT:=fun σ H Q=>t σ H fun x H1=>∃ c,x=.bl c∧Q c H1
theorem FJ (h:PC X op a b t) (h1:behindInMarks op b=false:=by first | exact nobehind _ (by decide) (by decide) | rfl):PT X (.Compare a [op] [b] pos) (tB t):=by
 intro aa s σ H Q I hw
 refine wpAny_isTrue_Compare1 (bw (h aa s σ H _ I hw) fun v s1 h1=>bw h1 fun u s2 h2=>bw h2 fun c s3 ⟨x,H1,I1,r1,q1⟩=>?_) h1
 obtain ⟨d,rfl,q⟩:=q1
 cases r1
 exact P9 ⟨H1,I1,q⟩
theorem FL (h:PE X e t) (he:∀ whole,isTrue e X.env whole=(do let v ← whole; standAt e.pos; holding [v] (truthy v)):=by intro _; rfl):PT X e (tB t):=by
 intro aa s σ H Q I hw
 refine isTrue_plain (bw (h aa s σ H _ I hw) fun v s1 ⟨x,H1,I1,r1,q1⟩=>?_) (he _)
 obtain ⟨d,rfl,q⟩:=q1
 cases r1
 exact P9 ⟨H1,I1,q⟩
variable {rest:List Expr}
noncomputable def Lf (t u:TT):TT:=fun σ H Q=>t σ H fun c H1=>if c=true then u σ H1 Q else Q false H1
noncomputable def Mq (t u:TT):TT:=fun σ H Q=>t σ H fun c H1=>if c=true then Q true H1 else u σ H1 Q
noncomputable def Lg (t:TT):TT:=fun σ H Q=>t σ H fun c H1=>Q (!c) H1
theorem pw_and1 (ha:PT X a tA):PW X (.BoolOp .And [a] pos) tA:=by
 intro wh aa s σ H Q I h
 refine isTrue_and (bw (ha aa s σ H Q I h) fun c s1 e=>?_)
 cases c with
 | true=>exact isTrue_and_nil e
 | false=>exact e
theorem pw_or1 (ha:PT X a tA):PW X (.BoolOp .Or [a] pos) tA:=by
 intro wh aa s σ H Q I h
 refine isTrue_or (bw (ha aa s σ H Q I h) fun c s1 e=>?_)
 cases c with
 | false=>exact isTrue_or_nil e
 | true=>exact e
theorem pw_and (ha:PT X a tA) (hb:PW X (.BoolOp .And (b::rest) pos) tB'):PW X (.BoolOp .And (a::b::rest) pos) (Lf tA tB'):=by
 intro wh aa s σ H Q I h
 refine isTrue_and (bw (ha aa s σ H _ I h) fun c s1 ⟨H1,I1,q1⟩=>?_)
 cases c with
 | true=>exact hb wh aa s1 σ H1 Q I1 q1
 | false=>exact ⟨H1,I1,q1⟩
theorem pw_or (ha:PT X a tA) (hb:PW X (.BoolOp .Or (b::rest) pos) tB'):PW X (.BoolOp .Or (a::b::rest) pos) (Mq tA tB'):=by
 intro wh aa s σ H Q I h
 refine isTrue_or (bw (ha aa s σ H _ I h) fun c s1 ⟨H1,I1,q1⟩=>?_)
 cases c with
 | true=>exact ⟨H1,I1,q1⟩
 | false=>exact hb wh aa s1 σ H1 Q I1 q1
theorem FN (ha:PT X a tA):PT X (.UnaryOp .Not a pos) (Lg tA):=by
 intro aa s σ H Q I h
 exact isTrue_not (ha aa s σ H (fun c H1=>Q (!c) H1) I h)
noncomputable def Jc (ta tb:TE):TE:=fun σ H Q=>ta σ H fun x H1=>∃ c,x=.bl c∧if c=true then tb σ H1 Q else Q (.bl false) H1
theorem FO {op} (h:PE X a t):PE X (.BoolOp op [a] pos) t:=fun aa s σ H Q I hw=>BoolOp_one (h aa s σ H Q I hw)
theorem FP (ha:PE X a ta) (hb:PE X (.BoolOp .And (b::rest) pos) tb):PE X (.BoolOp .And (a::b::rest) pos) (Jc ta tb):=by
 intro aa s σ H Q I h
 refine BoolOp_and (bw (ha aa s σ H _ I h) fun v s1 ⟨x,H1,I1,r1,q1⟩=>?_)
 obtain ⟨c,rfl,q1⟩:=q1
 cases r1
 refine P9 ?_
 cases c with
 | true=>exact hb aa s1 σ H1 Q I1 q1
 | false=>exact ⟨.bl false,H1,I1,rfl,q1⟩
noncomputable def Mr (t:TT) (ta tb:TE):TE:=fun σ H Q=>t σ H fun c H1=>if c=true then ta σ H1 Q else tb σ H1 Q
theorem yr (hc:PT X c tA) (ha:PE X a ta) (hb:PE X b tb):PE X (.IfExp c a b pos) (Mr tA ta tb):=by
 intro aa s σ H Q I h
 refine wpAny_IfExp (bw (hc aa s σ H _ I h) fun d s1 ⟨H1,I1,q1⟩=>?_)
 cases d with
 | true=>exact ha aa s1 σ H1 Q I1 q1
 | false=>exact hb aa s1 σ H1 Q I1 q1
end
noncomputable def gu (K:MI) (H:Hp) (a:Addr) (xs:List V):Prop :=
 Rd H a (.lst xs) ∨
  ∃ (o:Obj) (its:Array Value) (n:Nat),K.lookup a=some o∧o.cls=.type "list"∧o.dict=none∧o.data=.seq its n∧its.size≤sizeLine∧Vals xs its.toList
noncomputable def cQ (K:MI) (H:Hp) (a:Addr) (xs:List V):Prop :=
 Rd H a (.tup xs) ∨
  ∃ (o:Obj) (its:Array Value) (n:Nat),K.lookup a=some o∧o.cls=.type "tuple"∧o.data=.seq its n∧its.size≤sizeLine∧Vals xs its.toList
noncomputable def Lh:Value→Option V
 | .none=>some .non
 | .bool b=>some (.bl b)
 | .int i _=>some (.int i)
 | .str x _=>some (.str x)
 | .bytes b _=>some (.byt b)
 | .float b _=>some (.flt b)
 | .ref a=>some (.ref a)
 | .type n=>some (.ty n)
 | _=>none
theorem RelV.abs (r:RelV x u):Lh u=some x:=by
 cases x with
 | non=>cases r; rfl
 | bl _=>cases r; rfl
 | int _=>obtain ⟨t,rfl⟩:=r; rfl
 | str _=>obtain ⟨t,rfl⟩:=r; rfl
 | byt _=>obtain ⟨t,rfl⟩:=r; rfl
 | flt _=>obtain ⟨t,rfl⟩:=r; rfl
 | ref _=>cases r; rfl
 | ty _=>cases r; rfl
theorem RelV.inj (r:RelV x u) (q:RelV y u):x=y:=Of (r.abs.symm.trans q.abs)
theorem Vals.inj:∀ {xs ys:List V} {us:List Value},Vals xs us→Vals ys us→xs=ys
 | _,_,_,.nil,.nil=>rfl
 | _,_,_,.cons r t,.cons r' t'=>by rw [r.inj r',Vals.inj t t']
section
theorem Inv.list (I:Inv X aa σ H s) (h:gu X.K H a xs):∃ its:List Value,Vals xs its∧PlainL s.heap a its.toArray∧xs.length≤sizeLine:=by
 rcases h with h | ⟨o,its,n,hk,hc,hd,hs,hz,r⟩
 ·obtain ⟨z,its,n,r,e⟩:=h.ok I.hok
  exact ⟨its,r,⟨_,n,e,rfl,rfl,rfl⟩,z⟩
 ·refine ⟨its.toList,r,⟨o,n,I.nI a o hk,hc,hd,by simpa using hs⟩,?_⟩
  have e:=r.length
  simp only [NC] at e
  lia
theorem Inv.tuple (I:Inv X aa σ H s) (h:cQ X.K H a xs):∃ its:List Value,Vals xs its∧IsTup s.heap a its.toArray∧xs.length≤sizeLine:=by
 rcases h with h | ⟨o,its,n,hk,hc,hs,hz,r⟩
 ·obtain ⟨z,its,r,p⟩:=h.ok I.hok
  exact ⟨its,r,p,z⟩
 ·refine ⟨its.toList,r,⟨o,I.nI a o hk,hc,n,by simpa using hs⟩,?_⟩
  have e:=r.length
  simp only [NC] at e
  lia
theorem Inv.pC (I:Inv X aa σ H s) (h:gu X.K H a xs) (h':gu X.K H a ys):xs=ys:=by
 obtain ⟨its,r,⟨o,n,e,_,_,d⟩,_⟩:=I.list h
 obtain ⟨its',r',⟨o',n',e',_,_,d'⟩,_⟩:=I.list h'
 rw [e] at e'; cases e'
 rw [d] at d'
 injection d' with d1 _
 have:its=its':=by simpa using congrArg Array.toList d1
 subst this
 exact r.inj r'
theorem Inv.jc (I:Inv X aa σ H s) (h:cQ X.K H a xs) (h':cQ X.K H a ys):xs=ys:=by
 obtain ⟨its,r,⟨o,e,_,n,d⟩,_⟩:=I.tuple h
 obtain ⟨its',r',⟨o',e',_,n',d'⟩,_⟩:=I.tuple h'
 rw [e] at e'; cases e'
 rw [d] at d'
 injection d' with d1 _
 have:its=its':=by simpa using congrArg Array.toList d1
 subst this
 exact r.inj r'
end
noncomputable abbrev Cx.lQ (X:Cx) (E:Value→Shared→Prop):Cx:={ X with xe:=E }
noncomputable abbrev Cx.ET (X:Cx):Cx:=X.lQ fun _ _=>False
theorem Cx.Ok.lQ {X:Cx} (ok:X.Ok) (E):(X.lQ E).Ok :=
 ⟨ok.mod,ok.kind,ok.glob,ok.blt,ok.above,ok.inj,ok.has,ok.cab,ok.hd,ok.frames,ok.stk,ok.exf,ok.bs,ok.bsz,ok.noex,ok.exfs,ok.jb,ok.frf⟩
theorem Cx.Ok.fF {X:Cx} (ok:(X.lQ E).Ok):X.Ok :=
 ⟨ok.mod,ok.kind,ok.glob,ok.blt,ok.above,ok.inj,ok.has,ok.cab,ok.hd,ok.frames,ok.stk,ok.exf,ok.bs,ok.bsz,ok.noex,ok.exfs,ok.jb,ok.frf⟩
section
theorem Inv.lQ (I:Inv X aa σ H s) (E):Inv (X.lQ E) aa σ H s:=⟨I.ok.lQ E,I.os,I.bare,I.base,I.loc,I.cell,I.free,I.freeC,I.pin,I.hok,I.len⟩
theorem Inv.fF (I:Inv (X.lQ E) aa σ H s):Inv X aa σ H s:=⟨I.ok.fF,I.os,I.bare,I.base,I.loc,I.cell,I.free,I.freeC,I.pin,I.hok,I.len⟩
theorem SP.fF (h:SP (X.lQ E) aa D f s'):SP X aa D f s':=by
 cases f with
 | next=>obtain ⟨σ',H',I,q⟩:=h; exact ⟨σ',H',I.fF,q⟩
 | brk=>obtain ⟨σ',H',I,q⟩:=h; exact ⟨σ',H',I.fF,q⟩
 | cont=>obtain ⟨σ',H',I,q⟩:=h; exact ⟨σ',H',I.fF,q⟩
 | ret u=>obtain ⟨v,σ',H',I,r,q⟩:=h; exact ⟨v,σ',H',I.fF,r,q⟩
theorem rP.ET {st:List Stmt} (h:rP X.ET st t):rP X st t:=fun aa s σ H D I hw =>
 Nv (h aa s σ H D (I.lQ _) hw) (fun _ _ q=>q.fF) fun _ _ z=>NK z
end
section
variable {st:Stmt} {rest:List Stmt}
noncomputable def Jd:TS:=fun D σ H=>D.nx σ H
noncomputable def Li (t u:TS):TS:=fun D σ H=>t { D with nx:=u D } σ H
theorem Cu:rP X [] Jd:=fun _ _ σ H _ I h=>wpAny_execs_nil ⟨σ,H,I,h⟩
theorem yt (h1:PS X st t) (h2:rP X rest u):rP X (st::rest) (Li t u):=by
 intro aa s σ H D I h
 refine wpAny_execs_cons (bw (h1 aa s σ H { D with nx:=u D } I h) fun f s1 q=>?_)
 cases f with
 | next =>
  obtain ⟨σ',H',I',q⟩:=q
  exact h2 aa s1 σ' H' D I' q
 | ret v=>exact q
 | brk=>exact q
 | cont=>exact q
theorem Inv.quiet (I:Inv X aa σ H s):interactive X.env=false:=by simp [interactive,I.ok.kind]
noncomputable def Je (te:TE):TS:=fun D σ H=>te σ H fun _ H1=>D.nx σ H1
theorem jR (he:PE X e te) (hs:swapsWith e none pos.line X.env=pure false:=by rfl):PS X (.Expr e pos) (Je te):=by
 intro aa s σ H D I h
 exact wpAny_Expr_any (bw (he aa s σ H _ I h) fun v s1 ⟨x,H1,I1,r1,q1⟩=>⟨σ,H1,I1,q1⟩) I.quiet hs
noncomputable def Lj (te:TE):TS:=fun D σ H=>te σ H D.rt
theorem yu (he:PE X e te):PS X (.Return (some e) pos) (Lj te):=by
 intro aa s σ H D I h
 exact wpAny_Return_some (bw (he aa s σ H _ I h) fun v s1 ⟨x,H1,I1,r1,q1⟩=>⟨x,σ,H1,I1,r1,q1⟩)
noncomputable def Lk (c:TT) (t u:TS):TS:=fun D σ H=>c σ H fun b H1=>if b=true then t D σ H1 else u D σ H1
theorem Jf (hc:PT X c tc) (ha:rP X a t) (hb:rP X b u):PS X (.If c a b pos) (Lk tc t u):=by
 intro aa s σ H D I h
 refine wpAny_If (bw (hc aa s σ H _ I h) fun d s1 ⟨H1,I1,q1⟩=>?_)
 cases d with
 | true=>exact ha aa s1 σ H1 D I1 q1
 | false=>exact hb aa s1 σ H1 D I1 q1
end
noncomputable abbrev TG:=V→St→Hp→(St→Hp→Prop)→Prop
noncomputable abbrev Jg:=List V→St→Hp→(St→Hp→Prop)→Prop
noncomputable def PG (X:Cx) (target:Expr) (t:TG):Prop :=
 ∀ (aa:List (Addr×Obj)) (s:Shared) (σ:St) (H:Hp) (v:V) (u:Value) (Q:St→Hp→Prop),Inv X aa σ H s→RelV v u→t v σ H Q →
  wpAny (model X.prog X.w) X.A (assign target X.env u) (fun _ s'=>∃ σ' H',Inv X aa σ' H' s'∧Q σ' H') X.xe s
noncomputable def IM (X:Cx) (ts:List Expr) (t:Jg):Prop :=
 ∀ (aa:List (Addr×Obj)) (s:Shared) (σ:St) (H:Hp) (vs:List V) (us:List Value) (Q:St→Hp→Prop),Inv X aa σ H s→Vals vs us→t vs σ H Q →
  wpAny (model X.prog X.w) X.A (assignInOrder ((assignEach ts X.env).map (·.2)) us) (fun _ s'=>∃ σ' H',Inv X aa σ' H' s'∧Q σ' H') X.xe s
noncomputable abbrev FQ:=V→V→V→Hp→(Hp→Prop)→Prop
noncomputable def Jh (X:Cx) (t:FQ):Prop :=
 ∀ (aa:List (Addr×Obj)) (s:Shared) (σ:St) (H:Hp) (o i v:V) (ov iv u:Value) (Q:Hp→Prop),Inv X aa σ H s→RelV o ov→RelV i iv→RelV v u→t o i v H Q →
  wpAny (model X.prog X.w) X.A (setItem ov iv u) (fun _ s'=>∃ H',Inv X aa σ H' s'∧Q H') X.xe s
noncomputable abbrev Mf:=V→V→Hp→VK→Prop
noncomputable def Mg (X:Cx) (op:Operator) (t:Mf):Prop :=
 ∀ (aa:List (Addr×Obj)) (s:Shared) (σ:St) (H:Hp) (x y:V) (v u:Value) (Q:VK),Inv X aa σ H s→RelV x v→RelV y u→t x y H Q →
  wpAny (model X.prog X.w) X.A (inplaceOp op v u) (EP X aa σ Q) X.xe s
section
noncomputable def EU (i:Nat):TG:=fun v σ H Q=>Q (σ.set i (some v)) H
theorem um (hN:X.N.Nodup) (hi:X.N[i]?=some x) (hx:Loc X.env.scope x) (hf:X.fn x=true∨X.env.scope.names.lookup x=some .local:=by first | exact .inl rfl | exact .inr rfl | assumption):PG X (.Name x pos) (EU i):=by
 intro aa s σ H v u Q I r h
 exact wpAny_assign_Name (kg I hN hi hx r (fun s' I'=>⟨_,H,I',h⟩) hf)
noncomputable def Ll:Jg:=fun vs σ H Q=>vs=[]∧Q σ H
noncomputable def Ji (t:TG) (u:Jg):Jg:=fun vs σ H Q=>∃ v r,vs=v::r∧t v σ H fun σ' H'=>u r σ' H' Q
theorem Cv:IM X [] Ll:=by
 intro aa s σ H vs us Q I r h
 obtain ⟨e,h⟩:=h
 subst e
 cases r
 exact assignInOrder_nil ⟨σ,H,I,h⟩
theorem yv (h1:PG X e t) (h2:IM X es u)
 (hs:(assignEach (e::es) X.env).map (·.2)=assign e X.env::(assignEach es X.env).map (·.2):=by rfl):IM X (e::es) (Ji t u):=by
 intro aa s σ H vs us Q I r h
 obtain ⟨v,vr,e1,h⟩:=h
 subst e1
 cases r with
 | cons r rr =>
  rw [hs]
  refine assignInOrder_cons (bw (h1 aa s σ H _ _ _ I r h) fun _ s1 ⟨σ1,H1,I1,q1⟩=>?_)
  exact h2 aa s1 σ1 H1 _ _ Q I1 rr q1
noncomputable def Lm (K:MI) (n:Nat) (t:Jg):TG:=fun v σ H Q=>∃ a xs,v=.ref a∧cQ K H a xs∧xs.length=n∧t xs σ H Q
theorem FT (hc:X.calm=true) (h:IM X es t)
 (hn:(assignEach es X.env).length=n:=by rfl) (hst:(assignEach es X.env).findIdx? (·.1)=none:=by rfl):PG X (.Tuple es k pos) (Lm X.K n t):=by
 intro aa s σ H v u Q I r hw
 obtain ⟨a,xs,e1,hq,hl,hw⟩:=hw
 subst e1
 cases r
 obtain ⟨its,rv,ht,hz⟩:=I.tuple hq
 refine assign_Tuple_tuple (I.ok.hd hc) ht (by simp [hn,← hl,rv.length]) hst fun h' hx=>?_
 have I1:Inv X aa σ H { s with heap:=h' }:=I.kept (t':=s.toks) fun b o e=>hx b o (Nh (MR e)) e
 exact h aa _ σ H xs _ Q I1 (by simpa using rv) hw
noncomputable def Ln (to ti:TE) (t:FQ):TG:=fun v σ H Q=>to σ H fun o H1=>ti σ H1 fun i H2=>t o i v H2 fun H3=>Q σ H3
theorem FU (ho:PE X o to) (hi:PE X i ti) (hs:Jh X t)
 (ha:∀ v,assign (.Subscript o i pos) X.env v=(do
   let ov ← holding [v] (eval o X.env)
   let iv ← holding [v,ov] (eval i X.env)
   standAt pos
   holding [v,ov,iv] (setItem ov iv v)
   release [v,ov,iv] []):=by intro _; rfl):PG X (.Subscript o i pos) (Ln to ti t):=by
 intro aa s σ H v u Q I r h
 rw [ha]
 refine MG (NX (bw (ho aa s σ H _ I h) fun ov s1 ⟨x,H1,I1,r1,q1⟩=>?_))
 refine MG (NX (bw (hi aa s1 σ H1 _ I1 q1) fun iv s2 ⟨y,H2,I2,r2,q2⟩=>?_))
 refine MG (wpAny_standAt (MG (NX (bw (hs aa s2 σ H2 x y v ov iv u _ I2 r1 r2 r q2) fun _ s3 ⟨H3,I3,q3⟩=>?_))))
 exact wpAny_release ⟨σ,H3,I3,q3⟩
noncomputable def Jj (te:TE) (g:TG):TS:=fun D σ H=>te σ H fun x H1=>g x σ H1 D.nx
theorem yw (he:PE X e te) (hg:PG X tg g) (hs:swapsWithSole [tg] e pos.line X.env=pure false:=by rfl) (hw:swappedStores [tg] e X.env=pure none:=by rfl)
 (h1:(assignEach [tg] X.env).map (·.2)=[assign tg X.env]:=by rfl):PS X (.Assign [tg] e pos) (Jj te g):=by
 intro aa s σ H D I h
 refine wpAny_Assign_stores (bw (he aa s σ H _ I h) fun v s1 ⟨x,H1,I1,r1,q1⟩=>?_) hs hw
 rw [h1]
 exact bw (hg aa s1 σ H1 x v _ I1 r1 q1) fun _ s2 q=>q
theorem FW (hN:X.N.Nodup) (hi:X.N[i]?=some x) (hx:Loc X.env.scope x) (he:PE X e te) (hs:swapsWith e (some (.Name x pos')) pos.line X.env=pure false:=by rfl) (hf:X.fn x=true∨X.env.scope.names.lookup x=some .local:=by first | exact .inl rfl | exact .inr rfl | assumption) :
 PS X (.Assign [.Name x pos'] e pos) (Jj te (EU i)):=by
 intro aa s σ H D I h
 refine wpAny_Assign_Name (bw (he aa s σ H _ I h) fun v s1 ⟨y,H1,I1,r1,q1⟩=>?_) hs
 exact kg I1 hN hi hx r1 (fun s2 I2=>⟨_,H1,I2,q1⟩) hf
noncomputable def Lo (i:Nat) (te:TE) (ti:Mf):TS:=fun D σ H=>∃ x,σ[i]?=some (some x)∧te σ H fun y H1=>ti x y H1 fun z H2=>D.nx (σ.set i (some z)) H2
theorem FY (hN:X.N.Nodup) (hi:X.N[i]?=some x) (hx:Loc X.env.scope x) (he:PE X e te) (ho:Mg X op ti) (hf:X.fn x=true∨X.env.scope.names.lookup x=some .local:=by first | exact .inl rfl | exact .inr rfl | assumption) :
 PS X (.AugAssign (.Name x pos') op e pos) (Lo i te ti):=by
 intro aa s σ H D I h
 obtain ⟨v,e1,h⟩:=h
 obtain ⟨m,hn,hl⟩:=I.loc
 have vis:Ld X.env.scope x:=by rcases hx with k | k; exact .inl k; exact .inr (.inl k)
 obtain ⟨u,r,l⟩:=hl i x v hi e1 vis
 refine wpAny_AugAssign_Name ?_
 have go:wpAny (model X.prog X.w) X.A (eval e X.env) (fun w s₂=>wpAny (model X.prog X.w) X.A (inplaceOp op u w) (fun r s₃=>wpAny (model X.prog X.w) X.A (storeName X.env x r) (fun _=>SP X aa D .next) X.xe s₃) X.xe s₂) X.xe s:=by
  refine bw (he aa s σ H _ I h) fun w s1 ⟨y,H1,I1,r1,q1⟩=>?_
  refine bw (ho aa s1 σ H1 v y u w _ I1 r r1 q1) fun z s2 ⟨zv,H2,I2,r2,q2⟩=>?_
  exact kg I2 hN hi hx r2 (fun s3 I3=>⟨_,H2,I3,q2⟩) hf
 rcases l with ⟨hk,hm⟩ | ⟨hk,c,hc,hcell⟩
 ·exact wpAny_loadName_local I.ok.kind hk hn hm go
 ·rcases hk with hk | hk
  ·exact wpAny_loadName_cell I.ok.kind hk hc hcell go
  ·rcases hx with k | k
   ·have:X.env.scope.names.lookup x=some .free:=hk
    rw [k] at this; cases this
   ·have:X.env.scope.names.lookup x=some .free:=hk
    rw [k] at this; cases this
noncomputable def FZ (c:TT) (tb:TS):TS:=fun D σ H=>∃ W:Nat→St→Hp→Prop,(∃ m,W m σ H)∧∀ m σ H,W m σ H →
 c σ H fun b H1=>if b=true then ∃ N:St→Hp→Prop,(∀ σ' H',N σ' H'→∃ m',m'<m∧W m' σ' H')∧tb { D with nx:=N,ct:=N,bk:=D.nx } σ H1 else D.nx σ H1
theorem yx (hp:PassesOwn (model X.prog X.w) X.A X.env X.xe) (hc:PT X c tc) (hb:rP X body tb):PS X (.While c body [] pos) (FZ tc tb):=by
 intro aa s σ H D I h
 obtain ⟨W,⟨m0,w0⟩,turn⟩:=h
 refine wpAny_While (codeAny_whileLoop (fun n s'=>∃ σ' H',Inv X aa σ' H' s'∧W n σ' H') ?_ m0 ⟨σ,H,I,w0⟩)
 rintro n s1 ⟨σ1,H1,I1,w1⟩
 refine O8 hp (bw (hc aa s1 σ1 H1 _ I1 (turn n σ1 H1 w1)) fun b s2 ⟨H2,I2,q2⟩=>?_)
 cases b with
 | true =>
  obtain ⟨N,hN,q2⟩:=q2
  rw [if_pos rfl]
  refine O8 hp (bw (hb aa s2 σ1 H2 _ I2 q2) fun f s3 q3=>?_)
  cases f with
  | next =>
   obtain ⟨σ3,H3,I3,n3⟩:=q3
   obtain ⟨m',hm,w3⟩:=hN σ3 H3 n3
   exact ⟨m',hm,σ3,H3,I3,w3⟩
  | cont =>
   obtain ⟨σ3,H3,I3,n3⟩:=q3
   obtain ⟨m',hm,w3⟩:=hN σ3 H3 n3
   exact ⟨m',hm,σ3,H3,I3,w3⟩
  | brk=>exact q3
  | ret v=>exact q3
 | false =>
  rw [if_neg MV]
  exact wpAny_execs_nil ⟨σ1,H2,I2,q2⟩
end
structure It where
 go:Nat→Hp→Prop
 yld:Nat→Hp→V→Hp→Prop
 stop:Nat→Hp→Prop
noncomputable def fG (X:Cx) (aa:List (Addr×Obj)) (H:Hp) (b:Addr):Prop :=
 H b=none∧b≠X.env.locals∧b∉X.fs∧(b∈X.ex∨X.s₀.heap.objs.size≤b)∧(∀ x c,X.env.cells.lookup x=some c→c≠b)∧∀ p∈X.pn++aa,p.1≠b
theorem Inv.lR (I:Inv X aa σ H s) (hb:s.heap.objs.size≤b) (hn:H' b=none):fG X aa H' b:=by
 refine ⟨hn,PM (NI I.lt hb),I.I0 hb,.inr (MT I.sz hb),fun x c e z=>?_,fun p hp z=>?_⟩
 ·obtain ⟨v,q⟩:=I.cell x c e
  exact absurd (NI q.lt (by rw [z]; exact hb)) (Oh _)
 ·exact absurd (NI (MR (I.pin p hp).1) (by rw [z]; exact hb)) (Oh _)
structure Turn (P:Program) (w:World) (K:MI) (tg:Expr) (J:It) (fp:List Addr) (it:Addr) (tn:Nat→Heap→Prop):Prop where
 mem:it∈fp
 obj:∀ i h,tn i h→∀ b∈fp,∃ o,h.get? b=some o∧∀ v,o.data≠.cell v
 keep:∀ i h h',tn i h→(∀ b∈fp,∀ o,h.get? b=some o→h'.get? b=some o)→tn i h'
 item:∀ (X:Cx),X.prog=P→X.w=w→X.K=K→X.calm=true→∀ (i:Nat) (aa:List (Addr×Obj)) (s:Shared) (σ:St) (H:Hp) (E:Value→Shared→Prop),Inv X aa σ H s→(∀ b∈fp,fG X aa H b)→tn i s.heap→J.go i H →
  wpAny (model P w) X.A (pyNext (.ref it)) (fun r s1=>∃ u,r=some u ∧
   wpAny (model P w) X.A (letOwnedTupleGo tg (.ref it) u) (fun _ s2=>∃ x H',Inv X aa σ H' s2∧RelV x u∧J.yld i H x H'∧tn (i+1) s2.heap∧∀ b∈fp,H' b=none) E s1) E s
 done:∀ (X:Cx),X.prog=P→X.w=w→X.K=K→X.calm=true→∀ (i:Nat) (aa:List (Addr×Obj)) (s:Shared) (σ:St) (H:Hp) (E:Value→Shared→Prop),Inv X aa σ H s→(∀ b∈fp,fG X aa H b)→tn i s.heap→J.stop i H →
  wpAny (model P w) X.A (pyNext (.ref it)) (fun r s1=>r=none∧Inv X aa σ H s1) E s
 self:∀ (A:Around) (i:Nat) (s:Shared) (Q:Value→Shared→Prop) (E:Value→Shared→Prop),tn i s.heap→Q (.ref it) s→wpAny (model P w) A (pyIter (.ref it)) Q E s
noncomputable abbrev TI:=St→Hp→(It→Hp→Prop)→Prop
noncomputable def Lp (X:Cx) (aa:List (Addr×Obj)) (σ:St) (tg:Expr) (R:It→Hp→Prop) (itv:Value) (s2:Shared):Prop :=
 ∃ (it:Addr) (fp:List Addr) (tn:Nat→Heap→Prop) (J:It) (H':Hp),itv=.ref it∧Inv X aa σ H' s2∧Turn X.prog X.w X.K tg J fp it tn∧tn 0 s2.heap∧(∀ b∈fp,fG X aa H' b)∧R J H'
noncomputable def PI (X:Cx) (tg iter:Expr) (wi:TI):Prop :=
 ∀ (aa:List (Addr×Obj)) (s:Shared) (σ:St) (H:Hp) (R:It→Hp→Prop),Inv X aa σ H s→wi σ H R →
  wpAny (model X.prog X.w) X.A (eval iter X.env) (fun v s1=>wpAny (model X.prog X.w) X.A (pyIter v) (Lp X aa σ tg R) X.xe s1) X.xe s
theorem l8 (ho:s.heap.get? it=some o) (hc:o.cls=.type n) (hd:o.data=.fields vs)
 (hn:["enumerate","zip","dict_itemiterator","dict_reverseitemiterator","odict_iterator","itertools.zip_longest","itertools.pairwise"].contains n=false) (hQ:Q () s):wpAny M A (letOwnedTupleGo tg (.ref it) u) Q E s:=by
 unfold letOwnedTupleGo
 cases tg <;> first
  | exact MJ hQ
  | (cases u <;> first
      | exact MJ hQ
      | (refine MG (wpAny_load ho ?_)
         rw [hc,hd]
         show wpAny M A (if (["enumerate","zip","dict_itemiterator","dict_reverseitemiterator","odict_iterator","itertools.zip_longest","itertools.pairwise"].contains n && vs[0]? == some (rawInt _))=true then _ else _) Q E s
         rw [if_neg (by intro h; rw [hn,Bool.false_and] at h; cases h)]
         exact MJ hQ))
noncomputable def Lq (K:MI) (a:Addr):It :=
 ⟨fun i H=>∃ xs x,gu K H a xs∧xs[i]?=some x,fun i H x H'=>H'=H∧∀ xs,gu K H a xs→xs[i]?=some x,fun i H=>∃ xs,gu K H a xs∧xs.length≤i⟩
noncomputable def Lr (K:MI) (a:Addr):It :=
 ⟨fun i H=>∃ xs x,cQ K H a xs∧xs[i]?=some x,fun i H x H'=>H'=H∧∀ xs,cQ K H a xs→xs[i]?=some x,fun i H=>∃ xs,cQ K H a xs∧xs.length≤i⟩
noncomputable def K3 (lo:Int) (n:Nat):It:=⟨fun i _=>i<n,fun i H x H'=>H'=H∧x=.int (lo+i),fun i _=>n≤i⟩
theorem v9 {P:Program} {w:World} {K:MI} {tg:Expr} (a it:Addr):Turn P w K tg (Lq K a) [it] it (fun i h=>h.IsListIter it a i) where
 mem:=by simp
 obj:=fun i h st b hb=>by
  have e:b=it:=by simpa using hb
  subst e
  obtain ⟨o,e,c,d⟩:=st
  exact ⟨o,e,fun v z=>by rw [d] at z; cases z⟩
 keep:=fun i h h' st k=>st.at fun o e=>k it (by simp) o e
 item:=by
  intro X hP hw hK hc i aa s σ H E I hf st hg
  subst hP hw hK
  obtain ⟨xs,x,hq,hx⟩:=hg
  obtain ⟨its,rv,p,hz⟩:=I.list hq
  obtain ⟨u,hu,ru⟩:=rv.get hx
  obtain ⟨f0,f1,f2,f3,f4,f5⟩:=hf it (by simp)
  refine wpAny_pyNext_list_item st p.isList (x:=u) (by simpa using hu) fun h' st' sb=>?_
  have I1:Inv X aa σ H { s with heap:=h' }:=I.turned (t':=s.toks) (fun b o hb e=>(sb.2 b hb).trans e) f0 f1 f3 f4 f5
  obtain ⟨o,e,c,d⟩:=id st'
  exact ⟨u,rfl,l8 (s:={ s with heap:=h' }) e c d (by decide) ⟨x,H,I1,ru,⟨rfl,fun ys hy=>by rw [I.pC hy hq]; exact hx⟩,st',fun b hb=>(hf b hb).1⟩⟩
 done:=by
  intro X hP hw hK hc i aa s σ H E I hf st hg
  subst hP hw hK
  obtain ⟨xs,hq,hx⟩:=hg
  obtain ⟨its,rv,p,hz⟩:=I.list hq
  obtain ⟨f0,f1,f2,f3,f4,f5⟩:=hf it (by simp)
  have hl:=rv.length
  exact wpAny_pyNext_list_end (I.ok.hd hc) st p.isList (by simp; lia) fun h' eb=>⟨rfl,I.turned (t':=s.toks) (fun b o hb e=>eb b o hb e) f0 f1 f3 f4 f5⟩
 self:=fun _ _ _ _ _ st h=>wpAny_pyIter_listiter st h
theorem rT {P:Program} {w:World} {K:MI} {tg:Expr} (a it:Addr):Turn P w K tg (Lr K a) [it] it (fun i h=>h.IsTupleIter it a i) where
 mem:=by simp
 obj:=fun i h st b hb=>by
  have e:b=it:=by simpa using hb
  subst e
  obtain ⟨o,e,c,d⟩:=st
  exact ⟨o,e,fun v z=>by rw [d] at z; cases z⟩
 keep:=fun i h h' st k=>st.at fun o e=>k it (by simp) o e
 item:=by
  intro X hP hw hK hc i aa s σ H E I hf st hg
  subst hP hw hK
  obtain ⟨xs,x,hq,hx⟩:=hg
  obtain ⟨its,rv,p,hz⟩:=I.tuple hq
  obtain ⟨u,hu,ru⟩:=rv.get hx
  obtain ⟨f0,f1,f2,f3,f4,f5⟩:=hf it (by simp)
  refine wpAny_pyNext_tuple_item st (show s.heap.IsTuple a its.toArray from p) (x:=u) (by simpa using hu) fun h' st' sb=>?_
  have I1:Inv X aa σ H { s with heap:=h' }:=I.turned (t':=s.toks) (fun b o hb e=>(sb.2 b hb).trans e) f0 f1 f3 f4 f5
  obtain ⟨o,e,c,d⟩:=id st'
  exact ⟨u,rfl,l8 (s:={ s with heap:=h' }) e c d (by decide) ⟨x,H,I1,ru,⟨rfl,fun ys hy=>by rw [I.jc hy hq]; exact hx⟩,st',fun b hb=>(hf b hb).1⟩⟩
 done:=by
  intro X hP hw hK hc i aa s σ H E I hf st hg
  subst hP hw hK
  obtain ⟨xs,hq,hx⟩:=hg
  obtain ⟨its,rv,p,hz⟩:=I.tuple hq
  obtain ⟨f0,f1,f2,f3,f4,f5⟩:=hf it (by simp)
  have hl:=rv.length
  exact wpAny_pyNext_tuple_end (I.ok.hd hc) st (show s.heap.IsTuple a its.toArray from p) (by simp; lia) fun h' eb=>⟨rfl,I.turned (t':=s.toks) (fun b o hb e=>eb b o hb e) f0 f1 f3 f4 f5⟩
 self:=fun _ _ _ _ _ st h=>wpAny_pyIter_tupleiter st h
theorem rV {P:Program} {w:World} {K:MI} {tg:Expr} (it:Addr) (lo:Int) (n:Nat):Turn P w K tg (K3 lo n) [it] it (fun i h=>IsRangeIter h it (lo+(i:Nat) * 1) ((n:Int) - (i:Nat)) 1) where
 mem:=by simp
 obj:=fun i h st b hb=>by
  have e:b=it:=by simpa using hb
  subst e
  exact ⟨_,st,fun v z=>by
   have z':Rz _=Data.cell v:=z
   cases z'⟩
 keep:=fun i h h' st k=>k it (by simp) _ st
 item:=by
  intro X hP hw hK hc i aa s σ H E I hf st hg
  subst hP hw hK
  obtain ⟨f0,f1,f2,f3,f4,f5⟩:=hf it (by simp)
  have W:=Walks.range (prog:=X.prog) (w:=X.w) (I.ok.hd hc) it lo 1 n
  refine W.item i s _ _ hg st fun v h' tk hv st' kk=>?_
  obtain ⟨t,rfl⟩:=hv
  have I1:Inv X aa σ H { s with heap:=h',toks:=tk }:=I.turned (fun b o hb e=>kk b o (by simpa using hb) e) f0 f1 f3 f4 f5
  refine ⟨_,rfl,l8 (s:={ s with heap:=h',toks:=tk }) (n:="range_iterator") st' rfl rfl (by decide) ⟨.int (lo+i),H,I1,⟨t,?_⟩,⟨rfl,rfl⟩,st',fun b hb=>(hf b hb).1⟩⟩
  rw [Int.mul_one]
 done:=by
  intro X hP hw hK hc i aa s σ H E I hf st hg
  subst hP hw hK
  obtain ⟨f0,f1,f2,f3,f4,f5⟩:=hf it (by simp)
  exact wpAny_pyNext_range_end (I.ok.hd hc) st (by have:n≤i:=hg; lia) fun h' eb=>⟨rfl,I.turned (t':=s.toks) (fun b o hb e=>eb b o hb e) f0 f1 f3 f4 f5⟩
 self:=fun _ _ _ _ _ st h=>wpAny_pyIter_rangeiter st h
section
theorem yy {lo hi:Int} (I:Inv X aa σ H s) (h1: -(2 ^ 62)≤lo) (h2:lo<2 ^ 62) (h3: -(2 ^ 62)≤hi) (h4:hi<2 ^ 62)
 (q:R (K3 lo (hi - lo).toNat) H):wpAny (model X.prog X.w) X.A (pyIter (.ref s.heap.objs.size)) (Lp X aa σ tg R) E { s with heap:=s.heap.push { cls:=.type "range",data:=.fields #[.int lo t,.int hi u,.int 1 v] },toks:=tk }:=by
 refine wpAny_pyIter_range (IsRange.new ..) (small_one h1 h2 h3 h4) ?_
 have I1:Inv X aa σ H { s with heap:=s.heap.push { cls:=.type "range",data:=.fields #[.int lo t,.int hi u,.int 1 v] },toks:=tk }:=I.kept fun b o e=>MQ _ e
 refine ⟨(s.heap.push { cls:=.type "range",data:=.fields #[.int lo t,.int hi u,.int 1 v] }).objs.size,[(s.heap.push { cls:=.type "range",data:=.fields #[.int lo t,.int hi u,.int 1 v] }).objs.size],_,_,H,rfl,
  I1.kept (t':=tk) fun b o e=>MQ _ e,rV _ lo (hi - lo).toNat,?_,fun b hb=>?_,q⟩
 ·have e1:lo+((0:Nat):Int) * 1=lo:=by simp
  have e2:(((hi - lo).toNat:Nat):Int) - ((0:Nat):Int)=QJ lo hi 1:=by rw [rangeSize_one]; split <;> lia
  show IsRangeIter _ _ (lo+((0:Nat):Int) * 1) ((((hi - lo).toNat:Nat):Int) - ((0:Nat):Int)) 1
  rw [e1,e2]
  exact M3 _ rfl
 ·have e:b=(s.heap.push { cls:=.type "range",data:=.fields #[.int lo t,.int hi u,.int 1 v] }).objs.size:=by simpa using hb
  subst e
  exact I1.lR (ML _) (I1.hok.fresh (ML _))
noncomputable def Jk (ta:TA):TI:=fun σ H R=>ta σ H fun vs H1=>∃ j:Int,vs=[.int j]∧ -(2 ^ 62)≤j∧j<2 ^ 62∧R (K3 0 j.toNat) H1
theorem wc (hg:Gl X "range") (hm:X.mg "range"=none) (ha:PA X [a] ta) (hs:starEach [a] X.env=[(false,eval a X.env)]:=by rfl):PI X tg (.Call (.Name "range" p) [a] [] pos) (Jk ta):=by
 intro aa s σ H R I h
 refine Call_ (c7 I hg hm boot_range (P0 (bw (ha pos aa s σ H _ I h) fun us s1 ⟨vs,H1,I1,r1,q1⟩=>?_) hs rfl))
 obtain ⟨j,e,q1,q2,q⟩:=q1
 subst e
 cases r1 with
 | cons r rr =>
  cases rr
  obtain ⟨t,rfl⟩:=r
  exact call_range_1 (yy I1 (by lia) (by lia) q1 q2 (by simpa using q))
noncomputable def Lu (wi:TI) (g:TG) (tb:TS):TS:=fun D σ H=>wi σ H fun J H1=>∃ W:Nat→Nat→St→Hp→Prop,(∃ m,W 0 m σ H1)∧∀ i m σ H,W i m σ H →
 (J.stop i H∧D.nx σ H)∨(J.go i H∧∃ N:St→Hp→Prop,(∀ σ' H',N σ' H'→∃ m',m'<m∧W (i+1) m' σ' H')∧∀ x H',J.yld i H x H'→g x σ H' fun σ2 H2=>tb { D with nx:=N,ct:=N,bk:=D.nx } σ2 H2)
noncomputable def kh (fp:List Addr) (h:Heap):List (Addr×Obj):=fp.filterMap fun b=>(h.get? b).map fun o=>(b,o)
theorem eY (hb:b∈fp) (e:h.get? b=some o):(b,o)∈kh fp h:=List.mem_filterMap.mpr ⟨b,hb,by rw [e]; rfl⟩
theorem we (hp:p∈kh fp h):p.1∈fp∧h.get? p.1=some p.2:=by
 obtain ⟨b,hb,e⟩:=List.mem_filterMap.mp hp
 cases q:h.get? b with
 | none=>rw [q] at e; cases e
 | some o =>
  rw [q] at e
  have e':(b,o)=p:=Of e
  subst e'
  exact ⟨hb,q⟩
theorem Inv.pinned (I:Inv X aa σ H s) (hf:∀ b∈fp,fG X aa H b) (ho:∀ b∈fp,∃ o,s.heap.get? b=some o∧∀ v,o.data≠.cell v):Inv X (aa++kh fp s.heap) σ H s :=
 I.ug fun p hp=>(Ng.mp hp).elim (fun z=>I.pin p (N2 _ z)) fun z=>by
  obtain ⟨hb,e⟩:=we z
  obtain ⟨f0,f1,f2,_⟩:=hf p.1 hb
  obtain ⟨o,e',d⟩:=ho p.1 hb
  rw [e] at e'; cases e'
  exact ⟨e,f0,f1,f2,d⟩
theorem Inv.fH (I:Inv X (aa++pl) σ H s):Inv X aa σ H s:=I.ug fun p hp=>I.pin p (N2 _ (O3 _ hp))
theorem F0 (hp:PassesOwn (model X.prog X.w) X.A X.env X.xe) (hc:X.calm=true) (hi:PI X tg iter wi) (hg:PG X tg g) (hb:rP X body tb)
 (hs:∀ x,foldedSetIterable iter X.env x=pure x:=by intro _; rfl):PS X (.For tg iter body [] pos) (Lu wi g tb):=by
 intro aa s σ H D I h
 refine wpAny_For (bw (hi aa s σ H _ I h) fun v s1 h1=>bw h1 fun itv s2 h2=>?_) hs
 obtain ⟨it,fp,tn,J,H2,e,I2,T,st2,f2,W,⟨m0,w0⟩,turn⟩:=h2
 subst e
 have stat:∀ {H':Hp},(∀ b∈fp,H' b=none)→∀ b∈fp,fG X aa H' b:=fun hn b hb=>⟨hn b hb,(f2 b hb).2⟩
 refine codeAny_forLoop_any (fun n s'=>∃ i σ' H',Inv X aa σ' H' s'∧tn i s'.heap∧(∀ b∈fp,H' b=none)∧W i n σ' H') ?_ m0 ⟨0,σ,H2,I2,st2,fun b hb=>(f2 b hb).1,w0⟩
 rintro n s3 ⟨i,σ3,H3,I3,st3,fr3,w3⟩
 rcases turn i n σ3 H3 w3 with ⟨stop,qn⟩ | ⟨go,N,hN,step⟩
 ·refine O8 hp (bw (T.done X rfl rfl rfl hc i aa s3 σ3 H3 X.xe I3 (stat fr3) st3 stop) fun r s4 ⟨hr,I4⟩=>?_)
  subst hr
  exact wpAny_execs_nil ⟨σ3,H3,I4,qn⟩
 ·refine O8 hp (bw (T.item X rfl rfl rfl hc i aa s3 σ3 H3 X.xe I3 (stat fr3) st3 go) fun r s4 ⟨u,hr,h4⟩=>?_)
  subst hr
  refine O8 hp (bw h4 fun _ s5 ⟨x,H5,I5,r5,y5,st5,fr5⟩=>?_)
  have I5':=I5.pinned (stat fr5) (T.obj _ _ st5)
  refine O8 hp (bw (hg _ s5 σ3 H5 x u _ I5' r5 (step x H5 y5)) fun _ s6 ⟨σ6,H6,I6,q6⟩=>?_)
  refine O8 hp (bw (hb _ s6 σ6 H6 _ I6 q6) fun f s7 q7=>?_)
  have again:∀ {σ7:St} {H7:Hp},Inv X (aa++kh fp s5.heap) σ7 H7 s7→N σ7 H7→∃ m,m<n∧∃ i σ' H',Inv X aa σ' H' s7∧tn i s7.heap∧(∀ b∈fp,H' b=none)∧W i m σ' H':=fun {σ7 H7} I7 n7=>by
   obtain ⟨m',hm,w7⟩:=hN σ7 H7 n7
   refine ⟨m',hm,i+1,σ7,H7,I7.fH,T.keep _ _ _ st5 fun b hb o e=>(I7.pin (b,o) (N2 _ (N2 _ (eY hb e)))).1,fun b hb=>?_,w7⟩
   obtain ⟨o,e,d⟩:=T.obj _ _ st5 b hb
   exact (I7.pin (b,o) (N2 _ (N2 _ (eY hb e)))).2.1
  cases f with
  | next=>obtain ⟨σ7,H7,I7,n7⟩:=q7; exact again I7 n7
  | cont=>obtain ⟨σ7,H7,I7,n7⟩:=q7; exact again I7 n7
  | brk=>obtain ⟨σ7,H7,I7,q7⟩:=q7; exact ⟨σ7,H7,I7.fH,q7⟩
  | ret v=>obtain ⟨x7,σ7,H7,I7,r7,q7⟩:=q7; exact ⟨x7,σ7,H7,I7.fH,r7,q7⟩
end
noncomputable abbrev R2:=V→V→Hp→VK→Prop
noncomputable def eX (X:Cx) (f:Value→Value→Sem Value) (r:R2):Prop :=
 ∀ (aa:List (Addr×Obj)) (s:Shared) (σ:St) (H:Hp) (x y:V) (v u:Value) (Q:VK),Inv X aa σ H s→RelV x v→RelV y u→r x y H Q →
  wpAny (model X.prog X.w) X.A (f v u) (EP X aa σ Q) X.xe s
noncomputable def Lv (X:Cx) (f:Value→Sem Value) (r:V→Hp→VK→Prop):Prop :=
 ∀ (aa:List (Addr×Obj)) (s:Shared) (σ:St) (H:Hp) (x:V) (v:Value) (Q:VK),Inv X aa σ H s→RelV x v→r x H Q →
  wpAny (model X.prog X.w) X.A (f v) (EP X aa σ Q) X.xe s
noncomputable def fJ (X:Cx) (f:Value) (r:List V→Hp→VK→Prop):Prop :=
 ∀ (aa:List (Addr×Obj)) (s:Shared) (σ:St) (H:Hp) (xs:List V) (us:List Value) (Q:VK),Inv X aa σ H s→Vals xs us→r xs H Q →
  wpAny (model X.prog X.w) X.A (call f us) (EP X aa σ Q) X.xe s
noncomputable def K4 (r:R2) (ta tb:TE):TE:=fun σ H Q=>ta σ H fun x H1=>tb σ H1 fun y H2=>r x y H2 Q
noncomputable def Mt (r:V→Hp→VK→Prop) (ta:TE):TE:=fun σ H Q=>ta σ H fun x H1=>r x H1 Q
noncomputable def rI (C:Int→Int→Prop) (g:Int→Int→V):R2:=fun x y H Q=>∃ i j,x=.int i∧y=.int j∧C i j∧Q (g i j) H
noncomputable def uo (g:Int→Int→V):R2:=fun x y H Q=>∃ i j,x=.int i∧y=.int j∧Q (g i j) H
noncomputable def rU (g:Int→V):V→Hp→VK→Prop:=fun x H Q=>∃ i,x=.int i∧Q (g i) H
section
theorem F1 (ha:PE X a ta) (hb:PE X b tb) {R:V→V→Hp→Prop} (I:Inv X aa σ H s)
 (h:ta σ H fun x H1=>tb σ H1 fun y H2=>R x y H2) {f:Value→Value→Sem Value}
 (hf:∀ v u s2 x y H2,Inv X aa σ H2 s2→RelV x v→RelV y u→R x y H2→wpAny (model X.prog X.w) X.A (f v u) Q X.xe s2) :
 wpAny (model X.prog X.w) X.A (eval a X.env) (fun v s₁=>wpAny (model X.prog X.w) X.A (eval b X.env) (fun u s₂=>wpAny (model X.prog X.w) X.A (f v u) Q X.xe s₂) X.xe s₁) X.xe s:=by
 refine bw (ha aa s σ H _ I h) fun v s1 ⟨x,H1,I1,r1,q1⟩=>?_
 refine bw (hb aa s1 σ H1 _ I1 q1) fun u s2 ⟨y,H2,I2,r2,q2⟩=>?_
 exact hf v u s2 x y H2 I2 r1 r2 q2
theorem yz (ho:eX X (binaryOp op) r) (ha:PE X a ta) (hb:PE X b tb):PE X (.BinOp a op b pos) (K4 r ta tb):=by
 intro aa s σ H Q I h
 exact wpAny_BinOp (F1 ha hb I h fun v u s2 x y H2 I2 rx ry q=>ho aa s2 σ H2 x y v u Q I2 rx ry q)
theorem Jl (ho:Lv X (unaryOp op) r) (ha:PE X a ta):PE X (.UnaryOp op a pos) (Mt r ta):=by
 intro aa s σ H Q I h
 exact UnaryOp_ (bw (ha aa s σ H _ I h) fun v s1 ⟨x,H1,I1,r1,q1⟩=>ho aa s1 σ H1 x v Q I1 r1 q1)
theorem IP {g:Int→Int→Int}
 (rule:∀ (i j:Int) (t u:Tok) (s:Shared) (Q:Value→Shared→Prop) (E:Value→Shared→Prop),C i j→Q (.int (g i j) s.toks) { s with toks:=s.toks+1 }→wpAny (model X.prog X.w) X.A (f (.int i t) (.int j u)) Q E s) :
 eX X f (rI C fun i j=>.int (g i j)):=by
 intro aa s σ H x y v u Q I rx ry h
 obtain ⟨i,j,rfl,rfl,hc,q⟩:=h
 obtain ⟨t,rfl⟩:=rx
 obtain ⟨t',rfl⟩:=ry
 exact rule i j t t' s _ _ hc ⟨.int (g i j),H,I.tok _,⟨_,rfl⟩,q⟩
theorem yC {g:Int→Int→Int}
 (rule:∀ (i j:Int) (t u:Tok) (s:Shared) (Q:Value→Shared→Prop) (E:Value→Shared→Prop),Q (.int (g i j) s.toks) { s with toks:=s.toks+1 }→wpAny (model X.prog X.w) X.A (f (.int i t) (.int j u)) Q E s) :
 eX X f (uo fun i j=>.int (g i j)):=by
 intro aa s σ H x y v u Q I rx ry h
 obtain ⟨i,j,rfl,rfl,q⟩:=h
 obtain ⟨t,rfl⟩:=rx
 obtain ⟨t',rfl⟩:=ry
 exact rule i j t t' s _ _ ⟨.int (g i j),H,I.tok _,⟨_,rfl⟩,q⟩
theorem F2 {g:Int→Int→Bool}
 (rule:∀ (i j:Int) (t u:Tok) (s:Shared) (Q:Value→Shared→Prop) (E:Value→Shared→Prop),Q (.bool (g i j)) s→wpAny (model X.prog X.w) X.A (f (.int i t) (.int j u)) Q E s) :
 eX X f (uo fun i j=>.bl (g i j)):=by
 intro aa s σ H x y v u Q I rx ry h
 obtain ⟨i,j,rfl,rfl,q⟩:=h
 obtain ⟨t,rfl⟩:=rx
 obtain ⟨t',rfl⟩:=ry
 exact rule i j t t' s _ _ ⟨.bl (g i j),H,I,rfl,q⟩
noncomputable def rX (i j:Int):Prop:=0≤j∧j≤1000000∧i.natAbs<2 ^ 64
theorem rY (k):(0:Int)≤2 ^ k:=by
 rw [two_pow_cast]
 exact Int.natCast_nonneg _
theorem F3:eX X (binaryOp .Add) (uo fun i j=>.int (i+j)):=yC fun _ _ _ _ _ _ _ q=>add_int q
theorem F4:eX X (binaryOp .Sub) (uo fun i j=>.int (i - j)):=yC fun _ _ _ _ _ _ _ q=>sub_int q
theorem F5:eX X (binaryOp .Mod) (rI (fun _ j=>0<j) fun i j=>.int (i % j)):=IP fun i j _ _ _ _ _ hc q=>by
 have h1:(0:Int)<j:=hc
 exact mod_int' (by lia) (by rw [Int.fmod_eq_emod_of_nonneg i (by lia)]; exact q)
theorem F6:eX X (binaryOp .Pow) (rI rX fun i j=>.int (i ^ j.toNat)):=IP fun _ _ _ _ _ _ _ hc q=>pow_int_small hc.1 hc.2.1 hc.2.2 q
theorem F7:eX X (binaryOp .LShift) (rI rX fun i j=>.int (i * 2 ^ j.toNat)):=IP fun _ _ _ _ _ _ _ hc q=>lshift_int_small hc.1 hc.2.1 hc.2.2 q
theorem F8:eX X (binaryOp .RShift) (rI (fun _ j=>0≤j) fun i j=>.int (i / 2 ^ j.toNat)):=IP fun i j _ _ _ _ _ hc q =>
 rshift_int hc (by rw [Int.fdiv_eq_ediv_of_nonneg i (rY _)]; exact q)
theorem F9:eX X (binaryOp .BitAnd) (uo fun i j=>.int (Builtin.bitAnd i j)):=yC fun _ _ _ _ _ _ _ q=>and_int q
theorem Cw:eX X (inplaceOp .Add) (uo fun i j=>.int (i+j)):=yC fun _ _ _ _ _ _ _ q=>iadd_int q
theorem Cy:eX X (inplaceOp .Sub) (uo fun i j=>.int (i - j)):=yC fun _ _ _ _ _ _ _ q=>isub_int q
theorem Mu {g:Int→Int}
 (rule:∀ (i:Int) (t:Tok) (s:Shared) (Q:Value→Shared→Prop) (E:Value→Shared→Prop),Q (.int (g i) s.toks) { s with toks:=s.toks+1 }→wpAny (model X.prog X.w) X.A (f (.int i t)) Q E s) :
 Lv X f (rU fun i=>.int (g i)):=by
 intro aa s σ H x v Q I rx h
 obtain ⟨i,rfl,q⟩:=h
 obtain ⟨t,rfl⟩:=rx
 exact rule i t s _ _ ⟨.int (g i),H,I.tok _,⟨_,rfl⟩,q⟩
theorem Ga:Lv X (unaryOp .USub) (rU fun i=>.int (-i)):=Mu fun _ _ _ _ _ q=>neg_int q
end
noncomputable def Cz:V→V→Bool
 | .non,.non=>true | .non,.int _=>true | .int _,.non=>true | .non,.bl _=>true | .bl _,.non=>true | .non,.str _=>true | .str _,.non=>true
 | .int _,.int _=>true | .bl _,.bl _=>true | .str _,.str _=>true | .byt _,.byt _=>true
 | .int _,.str _=>true | .str _,.int _=>true | .bl _,.str _=>true | .str _,.bl _=>true
 | _,_=>false
noncomputable def Mw:R2:=fun x y H Q=>Cz x y=true∧Q (.bl (decide (x=y))) H
noncomputable def Mx:R2:=fun x y H Q=>Cz x y=true∧Q (.bl (!decide (x=y))) H
theorem uq:decide (V.int i=V.int j)=(i == j):=by
 rw [Qh]
 simp
theorem yD:decide (V.bl i=V.bl j)=(i == j):=by
 rw [Qh]
 simp
theorem uu:decide (V.str i=V.str j)=(i == j):=by
 rw [Qh]
 simp
theorem uv:decide (V.byt i=V.byt j)=(i.toList == j.toList):=by
 rw [Qh]
 cases i
 cases j
 simp
section
theorem aV (I:Inv X aa σ H s) (q:Q (.bl k) H) (e:k=k'):EP X aa σ Q (.bool k') s:=by
 subst e
 exact ⟨.bl k,H,I,rfl,q⟩
theorem Jm:eX X (compareOp .Eq) Mw:=by
 intro aa s σ H x y v u Q I rx ry h
 obtain ⟨hs,q⟩:=h
 cases x with
 | non =>
  cases rx
  cases y with
  | non=>cases ry; exact PySem.EqNone.eq_none_none (aV I q (by simp))
  | bl j=>cases ry; exact PySem.EqNone.eq_none_bool (aV I q (by simp))
  | int j=>obtain ⟨t',rfl⟩:=ry; exact PySem.EqNone.eq_none_int (aV I q (by simp))
  | str j=>obtain ⟨t',rfl⟩:=ry; exact PySem.EqNone.eq_none_str (aV I q (by simp))
  | _=>exact absurd (show false=true from hs) MV
 | bl i =>
  cases rx
  cases y with
  | non=>cases ry; exact PySem.EqNone.eq_bool_none (aV I q (by simp))
  | bl j=>cases ry; exact eq_bool (aV I q yD)
  | str j=>obtain ⟨t',rfl⟩:=ry; exact PySem.EqMixed.eq_bool_str (aV I q (by simp))
  | _=>exact absurd (show false=true from hs) MV
 | int i =>
  obtain ⟨t,rfl⟩:=rx
  cases y with
  | non=>cases ry; exact PySem.EqNone.eq_int_none (aV I q (by simp))
  | int j=>obtain ⟨t',rfl⟩:=ry; exact eq_int (aV I q uq)
  | str j=>obtain ⟨t',rfl⟩:=ry; exact PySem.EqMixed.eq_int_str (aV I q (by simp))
  | _=>exact absurd (show false=true from hs) MV
 | str i =>
  obtain ⟨t,rfl⟩:=rx
  cases y with
  | non=>cases ry; exact PySem.EqNone.eq_str_none (aV I q (by simp))
  | bl j=>cases ry; exact PySem.EqMixed.eq_str_bool (aV I q (by simp))
  | int j=>obtain ⟨t',rfl⟩:=ry; exact PySem.EqMixed.eq_str_int (aV I q (by simp))
  | str j=>obtain ⟨t',rfl⟩:=ry; exact eq_str (aV I q uu)
  | _=>exact absurd (show false=true from hs) MV
 | byt i =>
  obtain ⟨t,rfl⟩:=rx
  cases y with
  | byt j=>obtain ⟨t',rfl⟩:=ry; exact PySem.W.eq_bytes (aV I q uv)
  | _=>exact absurd (show false=true from hs) MV
 | _=>cases y <;> exact absurd (show false=true from hs) MV
theorem Jo:eX X (compareOp .NotEq) Mx:=by
 intro aa s σ H x y v u Q I rx ry h
 obtain ⟨hs,q⟩:=h
 cases x with
 | non =>
  cases rx
  cases y with
  | non=>cases ry; exact PySem.EqNone.ne_none_none (aV I q (by simp))
  | bl j=>cases ry; exact PySem.EqNone.ne_none_bool (aV I q (by simp))
  | int j=>obtain ⟨t',rfl⟩:=ry; exact PySem.EqNone.ne_none_int (aV I q (by simp))
  | str j=>obtain ⟨t',rfl⟩:=ry; exact PySem.EqNone.ne_none_str (aV I q (by simp))
  | _=>exact absurd (show false=true from hs) MV
 | bl i =>
  cases rx
  cases y with
  | non=>cases ry; exact PySem.EqNone.ne_bool_none (aV I q (by simp))
  | bl j=>cases ry; exact ne_bool (aV I q (congrArg not yD))
  | str j=>obtain ⟨t',rfl⟩:=ry; exact PySem.EqMixed.ne_bool_str (aV I q (by simp))
  | _=>exact absurd (show false=true from hs) MV
 | int i =>
  obtain ⟨t,rfl⟩:=rx
  cases y with
  | non=>cases ry; exact PySem.EqNone.ne_int_none (aV I q (by simp))
  | int j=>obtain ⟨t',rfl⟩:=ry; exact ne_int (aV I q (congrArg not uq))
  | str j=>obtain ⟨t',rfl⟩:=ry; exact PySem.EqMixed.ne_int_str (aV I q (by simp))
  | _=>exact absurd (show false=true from hs) MV
 | str i =>
  obtain ⟨t,rfl⟩:=rx
  cases y with
  | non=>cases ry; exact PySem.EqNone.ne_str_none (aV I q (by simp))
  | bl j=>cases ry; exact PySem.EqMixed.ne_str_bool (aV I q (by simp))
  | int j=>obtain ⟨t',rfl⟩:=ry; exact PySem.EqMixed.ne_str_int (aV I q (by simp))
  | str j=>obtain ⟨t',rfl⟩:=ry; exact ne_str (aV I q (congrArg not uu))
  | _=>exact absurd (show false=true from hs) MV
 | byt i =>
  obtain ⟨t,rfl⟩:=rx
  cases y with
  | byt j=>obtain ⟨t',rfl⟩:=ry; exact PySem.W.ne_bytes (aV I q (congrArg not uv))
  | _=>exact absurd (show false=true from hs) MV
 | _=>cases y <;> exact absurd (show false=true from hs) MV
theorem Jp:eX X (compareOp .Lt) (uo fun i j=>.bl (decide (i<j))):=F2 fun _ _ _ _ _ _ _ q=>lt_int q
theorem Jq:eX X (compareOp .Gt) (uo fun i j=>.bl (decide (j<i))):=F2 fun _ _ _ _ _ _ _ q=>gt_int q
theorem Jr:eX X (compareOp .GtE) (uo fun i j=>.bl (decide (j≤i))):=F2 fun _ _ _ _ _ _ _ q=>ge_int q
theorem eX.or (h:eX X f r) (h':eX X f r'):eX X f (fun x y H Q=>r x y H Q∨r' x y H Q):=by
 intro aa s σ H x y v u Q I rx ry q
 rcases q with q | q
 ·exact h aa s σ H x y v u Q I rx ry q
 ·exact h' aa s σ H x y v u Q I rx ry q
theorem jd (b) (h:op≠.In:=by decide) (h2:op≠.NotIn:=by decide):behindInMarks op b=false:=by
 have e1:(op == CmpOp.In)=false:=by cases op <;> first | rfl | exact absurd rfl h
 have e2:(op == CmpOp.NotIn)=false:=by cases op <;> first | rfl | exact absurd rfl h2
 cases b <;> simp [behindInMarks,e1,e2]
theorem CA (ho:eX X (compareOp op) r) (ha:PE X a ta) (hb:PE X b tb) (hm:behindInMarks op b=false):PE X (.Compare a [op] [b] pos) (K4 r ta tb):=by
 intro aa s σ H Q I h
 exact wpAny_Compare1 (F1 ha hb I h fun v u s2 x y H2 I2 rx ry q=>ho aa s2 σ H2 x y v u Q I2 rx ry q) hm
noncomputable def Js (t:TE):TT:=fun σ H Q=>t σ H fun x H'=>∃ k,x=.bl k∧Q k H'
theorem CB (ho:eX X (compareOp op) r) (ha:PE X a ta) (hb:PE X b tb) (hm:behindInMarks op b=false):PT X (.Compare a [op] [b] pos) (Js (K4 r ta tb)):=by
 intro aa s σ H Q I h
 refine wpAny_isTrue_Compare1 (bw (ha aa s σ H _ I h) fun v s1 ⟨x,H1,I1,r1,q1⟩=>bw (hb aa s1 σ H1 _ I1 q1) fun u s2 ⟨y,H2,I2,r2,q2⟩ =>
  bw (ho aa s2 σ H2 x y v u _ I2 r1 r2 q2) fun c s3 ⟨z,H3,I3,r3,k,e,q3⟩=>?_) hm
 subst e
 cases r3
 exact P9 ⟨H3,I3,q3⟩
theorem nJ:(sizeLine:Nat)<2 ^ 63:=by rw [sizeLine_eq]; decide
theorem rZ:eX X (binaryOp .Add) (fun x y H Q=>∃ i j,x=.str i∧y=.str j∧i.length+j.length≤sizeLine∧Q (.str (i++j)) H):=by
 intro aa s σ H x y v u Q I rx ry h
 obtain ⟨i,j,rfl,rfl,hz,q⟩:=h
 obtain ⟨t,rfl⟩:=rx
 obtain ⟨t',rfl⟩:=ry
 exact add_str (fun t' tk=>⟨.str (i++j),H,I.tok _,⟨_,rfl⟩,q⟩) hz
theorem vals1 (r:Vals [x] us):∃ u,us=[u]∧RelV x u:=by
 cases r with
 | cons r1 r2=>cases r2; exact ⟨_,rfl,r1⟩
theorem vals2 (r:Vals [x,y] us):∃ u w',us=[u,w']∧RelV x u∧RelV y w':=by
 cases r with
 | cons r1 r2 =>
  cases r2 with
  | cons r3 r4=>cases r4; exact ⟨_,_,rfl,r1,r3⟩
theorem wg (hc:X.calm=true):fJ X (.builtin "max") (fun xs H Q=>∃ i j,xs=[.int i,.int j]∧Q (.int (if j>i then j else i)) H):=by
 intro aa s σ H xs us Q I r h
 obtain ⟨i,j,rfl,q⟩:=h
 obtain ⟨u,w',rfl,⟨t,rfl⟩,⟨t',rfl⟩⟩:=vals2 r
 refine max_two_ints (I.ok.hd hc) fun h' tk k=>⟨_,H,I.kept k,?_,q⟩
 by_cases hj:j>i
 ·rw [if_pos hj,if_pos hj]; exact ⟨_,rfl⟩
 ·rw [if_neg hj,if_neg hj]; exact ⟨_,rfl⟩
end
structure Mz (h:Heap) (x dx C:Addr) (mA:Str→Option Value):Prop where
 obj:h.get? x=some (PySem.W.instObj C dx)
 ns:h.Ns1 dx mA
 ne:dx≠x
section
end
theorem jG.some_of (r:jG (some v) o):∃ u,o=some u∧RelV v u:=by
 cases o with
 | none=>exact (show False from r).elim
 | some u=>exact ⟨u,rfl,r⟩
section
end
structure MA (K:MI) (C:Addr):Prop where
 pg:PySem.W.plainGet K C Str.empty=true
 hd:PySem.W.hasDictIn K C=true
 po:PySem.W.plainOver K C=true
 sa:OP K (.ref C) "__setattr__"=some (some (.builtin "object.__setattr__"))
structure Con (K:MI) (C:Addr) (f:Str) (v:V) (u:Value):Prop where
 at_:OP K (.ref C) f=some (some u)
 rel:RelV v u
 get:Sa K u "__get__"=some none
 cp:PySem.W.copiedNames.contains f=false
structure Meth (K:MI) (C:Addr) (m:Str) (f:Addr):Prop where
 at_:OP K (.ref C) m=some (some (.ref f))
 fn:PySem.W.isFn K (.ref f)=true
 kp:Oq K (.ref f)=true
section
end
noncomputable def Jt (X:Cx) (op:Operator) (rd:V→V→Hp→VK→Prop):Prop :=
 ∀ (aa:List (Addr×Obj)) (s:Shared) (σ:St) (H:Hp) (x y:V) (u v:Value) (Q:VK),Inv X aa σ H s→RelV x u→RelV y v→rd x y H Q→wpAny (model X.prog X.w) X.A (inplaceOp op u v) (EP X aa σ Q) X.xe s
section
end
section
variable {X:Cx} {aa:List (Addr×Obj)} {σ:St} {H:Hp} {s:Shared} {A:Around} {E:Value→Shared→Prop} {Q:Value→Shared→Prop} {c:Value} {b:Bool}
inductive ki (K:MI) (H:Hp):V→Value→Prop where
 | non:ki K H .non (.type "NoneType")
 | bl (x:Bool):ki K H (.bl x) (.type "bool")
 | int (i:Int):ki K H (.int i) (.type "int")
 | str (x:Str):ki K H (.str x) (.type "str")
 | flt (x:UInt64):ki K H (.flt x) (.type "float")
 | lst {a:Addr} {xs:List V} (e:H a=some (.lst xs)):ki K H (.ref a) (.type "list")
 | frz {a:Addr} {o:Obj} {xs:List V} (e:H a=some (.frz o (.lst xs))):ki K H (.ref a) (.type "list")
 | tup {a:Addr} {xs:List V} (e:H a=some (.tup xs)):ki K H (.ref a) (.type "tuple")
 | dK {a:Addr} {kvs:List (Key×V)} (e:H a=some (.dK kvs)):ki K H (.ref a) (.type "dict")
 | dT {a:Addr} {kvs:List (List Key×Addr×V)} (e:H a=some (.dT kvs)):ki K H (.ref a) (.type "dict")
 | ins {a C dx:Addr} {fs:List (Str×V)} (e:H a=some (.ins C dx fs)) (cl:MA K C) (ha:OP K (.ref C) "__class__"=some (some (.builtin "object.__class__")))
  (hn:Sa K (.builtin "object.__class__") "__get__"=some (some (.builtin "getset_descriptor.__get__"))) (htk:PySem.W.takesIn K (.builtin "object.__class__")=some true)
  (hm:Rm K C (.type "object")=some true):ki K H (.ref a) (.ref C)
end
structure gI (k:Nat) (A:Around):Prop where
 hd:A.handled=none
 dp:A.depth+3 * k+5<recursionLimit
 un:A.units+16 * k+200<cLine
theorem gI.mono (r:gI k A) (h:j≤k):gI j A:=⟨r.hd,by have:=r.dp; lia,by have:=r.un; lia⟩
theorem gI.deeper (r:gI (k+1) A) (env:Env):gI k (A.deeper env) :=
 ⟨r.hd,by have:=r.dp; show A.depth+1+3 * k+5<_; lia,by have:=r.un; show A.units+3+16 * k+200<_; lia⟩
theorem gI.depth (r:gI k A):A.depth<recursionLimit:=by have:=r.dp; lia
theorem gI.units (r:gI k A):A.units+64<cLine:=by have:=r.un; lia
noncomputable def Lw:TA:=fun _ H Q=>Q [] H
noncomputable def Ju (ta:TE) (tr:TA):TA:=fun σ H Q=>ta σ H fun x H1=>tr σ H1 fun xs H2=>Q (x::xs) H2
section
theorem c8:PA X [] Lw:=fun _ _ _ _ H Q I h=>Calls.spliced_nil ⟨[],H,I,.nil,h⟩
theorem bL (ha:PE X e te) (hr:PA X es t) (hs:starEach (e::es) X.env=(false,eval e X.env)::starEach es X.env:=by rfl):PA X (e::es) (Ju te t):=by
 intro pos aa s σ H Q I h
 rw [hs]
 show wpAny _ _ (spliced ((false,eval e X.env)::backTo pos (starEach es X.env))) _ _ s
 refine R5 (bw (ha aa s σ H _ I h) fun u s1 ⟨x,H1,I1,r1,q1⟩=>?_)
 exact bw (hr pos aa s1 σ H1 _ I1 q1) fun us s2 ⟨xs,H2,I2,r2,q2⟩=>⟨x::xs,H2,I2,.cons r1 r2,q2⟩
noncomputable def Lx (t:TA):TE:=fun σ H Q=>t σ H fun xs H1=>xs.length≤sizeLine∧∀ p,H1 p=none→Q (.ref p) (upd H1 p (.tup xs))
noncomputable def Ly (t:TA):TE:=fun σ H Q=>t σ H fun xs H1=>xs.length≤sizeLine∧∀ p,H1 p=none→Q (.ref p) (upd H1 p (.lst xs))
theorem yE {x1} (h:PA X es t):PE X (.Tuple es x1 pos) (Lx t):=by
 intro aa s σ H Q I hq
 refine wpAny_Tuple_spliced (bw (h pos aa s σ H _ I hq) fun us s1 ⟨xs,H1,I1,r,z,q⟩=>⟨by rw [← r.length]; exact z,?_⟩)
 have hf:H1 s1.heap.objs.size=none:=I1.hok.fresh (ML _)
 refine ⟨.ref s1.heap.objs.size,upd H1 s1.heap.objs.size (.tup xs),I1.laid (t':=s1.toks) (fun b u e=>MQ _ e) (ML _) ?_,rfl,q _ hf⟩
 exact ⟨z,us,r,⟨_,M3 _ rfl,rfl,_,rfl⟩⟩
theorem Gb (h:PA X es t):PE X (.List es pos) (Ly t):=by
 intro aa s σ H Q I hq
 refine wpAny_List_spliced (bw (h pos aa s σ H _ I hq) fun us s1 ⟨xs,H1,I1,r,z,q⟩=>⟨by rw [← r.length]; exact z,?_⟩)
 have hf:H1 s1.heap.objs.size=none:=I1.hok.fresh (ML _)
 refine ⟨.ref s1.heap.objs.size,upd H1 s1.heap.objs.size (.lst xs),I1.laid (t':=s1.toks) (fun b u e=>MQ _ e) (ML _) ?_,rfl,q _ hf⟩
 exact ⟨z,us,0,r,M3 _ rfl⟩
end
noncomputable abbrev Sp:=List V→Hp→VK→XK→Prop
noncomputable abbrev Ge:=List Env→Hp→Shared→XK→Value→Shared→Prop
structure CC (P:Program) (w:World) (K:MI) (mg:Str→Option Value) (base:Heap) (A:Around) (outer:List Env) (s:Shared) (H:Hp):Prop where
 frames:A.frames=some outer
 mod:Mod K mg base
 bs:∀ b o,base.get? b=some o→s.heap.get? b=some o∧H b=none
 bsz:base.objs.size≤s.heap.objs.size
 jb:s.heap.FunFrames base outer
 frf:∀ b∈frs outer,H b=none
 hok:ja P w H s.heap
 bare:AllBare s.gens
noncomputable def CE (outer:List Env) (P:Program) (w:World) (H:Hp) (s:Shared) (Q:VK) (u:Value) (s':Shared):Prop :=
 ∃ v H',s'.os=s.os∧AllBare s'.gens∧Un (frs outer) [] H H' s.heap s'.heap∧ja P w H' s'.heap∧RelV v u∧Q v H'
noncomputable def CR (CX:Ge) (outer:List Env) (P:Program) (w:World) (H:Hp) (s:Shared) (Q:VK) (E:XK) (r:Result) (s':Shared):Prop :=
 match r with
 | .ok (.ret u)=>CE outer P w H s Q u s'
 | .ok _=>False
 | .error e=>CX outer H s E e s'
structure bz (P:Program) (w:World) (K:MI) (mg:Str→Option Value) (base:Heap) (CX:Ge) (k:Nat) (f:Addr) (fd:FuncData) (ps:List Str) (sp:Sp):Prop where
 len:∀ vs H Q E,sp vs H Q E→vs.length=ps.length
 run:∀ (A:Around) (outer:List Env) (s:Shared) (H:Hp) (args:Args) (us:List Value) (vs:List V) (Q:VK) (E:XK),gI k A→CC P w K mg base A outer s H→BindsTo s fd args (ps.zip us)→Vals vs us→sp vs H Q E →
  codeAny (model P w) A (.call (.ref f) args) (CR CX outer P w H s Q E) s
theorem bz.mono {K:MI} (F:bz P w K mg base CX j f fd ps sp) (h:j≤k) :
 bz P w K mg base CX k f fd ps sp:=⟨F.len,fun A outer s H args us vs Q E hr=>F.run A outer s H args us vs Q E (hr.mono h)⟩
section
theorem Inv.CD (I:Inv X aa σ H s):CC X.prog X.w X.K X.mg X.base X.A X.stack s H :=
 ⟨I.ok.frames,I.ok.mod,I.bs,MT I.ok.bsz I.sz,I.stack,I.uf,I.hok,I.bare⟩
theorem Inv.after (I:Inv X aa σ H s) (h:CE X.stack X.prog X.w H s Q u s'):EP X aa σ Q u s':=by
 obtain ⟨v,H',os,bare,un,hok,r,q⟩:=h
 obtain ⟨hh,g,d,t,os'⟩:=s'
 obtain rfl:os'=s.os:=os
 exact ⟨v,H',I.call (h':=hh) (g':=g) (d':=d) (t':=t) (ch:=[]) un hok bare (fun b z=>absurd z (by simp)),r,q⟩
end
noncomputable def Binds (K:MI) (fd:FuncData) (ps:List Str) (ds:List Value):Prop :=
 ∀ (s:Shared) (us:List Value),K.In s.heap→(us++ds).length=ps.length→BindsTo s fd ⟨us,[]⟩ (ps.zip (us++ds))
theorem Binds.all {K:MI} (h:∀ us:List Value,us.length=ps.length→bindArgs fd ⟨us,[]⟩=pure (ps.zip us)):Binds K fd ps []:=fun s us _ hl=>by
 rw [NR] at hl ⊢
 exact .of_eq (h us hl)
section
variable {X:Cx} {CX:Ge} {k:Nat} {f C:Addr} {fd:FuncData} {ps:List Str} {sp:Sp} {dvs:List V} {ds:List Value} {E:XK} {x m:Str} {p pos apos:Pos} {e o:Expr} {es:List Expr} {ta:TE} {t:TA}
structure Mk (K:MI) (C f:Addr):Prop where
 makes:PySem.W.makesIn K C=true
 init:OP K (.ref C) "__init__"=some (some (.ref f))
 fn:PySem.W.isFn K (.ref f)=true
 kp:Oq K (.ref C)=true
end
section
variable {X:Cx} {CX:Ge} {k:Nat} {f C:Addr} {fd:FuncData} {ps ks:List Str} {sp:Sp} {E:XK} {x m:Str} {p pos apos kpos:Pos} {e o:Expr} {es:List Expr} {kws:List Keyword} {te ta:TE} {t tk:TA} {nm:Option Str}
structure Lz (K:MI) (fd:FuncData) (ps ks:List Str) (g:List Value→List Value→List Value) (gV:List V→List V→List V):Prop where
 to:∀ (s:Shared) (us ws:List Value),K.In s.heap→(g us ws).length=ps.length→BindsTo s fd ⟨us,ks.zip ws⟩ (ps.zip (g us ws))
 rel:∀ {vs:List V} {us:List Value} {zs:List V} {ws:List Value},Vals vs us→Vals zs ws→Vals (gV vs zs) (g us ws)
end
structure aL (N P:List Str) (sc:Scope):Prop where
 kind:sc.kind=.function
 co:sc.isCoroutine=false
 gen:sc.isGenerator=false
 nd:N.Nodup
 pre:N.take P.length=P
 par:∀ x∈P,sc.names.lookup x=some .local∨sc.names.lookup x=some .cell
 nofree:∀ y∈sc.names,y.2≠.free
theorem l9 {kindOf:Str→Option NameKind}:∀ {binds:List (Str×Value)} {m:Str→Option Value},(∀ v,(x,v)∉binds)→bindL kindOf binds m x=m x
 | [],_,_=>rfl
 | (n,v)::r,m,h=>by
  unfold bindL
  rw [l9 fun w hw=>h w (MX _ hw)]
  split
  ·have:x≠n:=by rintro rfl; exact h v MW
   simp [this]
  ·rfl
theorem mh {kindOf:Str→Option NameKind}:∀ {binds:List (Str×Value)} {m:Str→Option Value},(∀ v,(x,v)∉binds)→bindC kindOf binds m x=m x
 | [],_,_=>rfl
 | (n,v)::r,m,h=>by
  unfold bindC
  rw [mh fun w hw=>h w (MX _ hw)]
  split
  ·rfl
  ·have:x≠n:=by rintro rfl; exact h v MW
   simp [this]
theorem mj {kindOf:Str→Option NameKind}:∀ {P:List Str} {vs:List Value} {i:Nat} {m:Str→Option Value},P.Nodup→P[i]?=some x→vs[i]?=some v→kindOf x=some .local →
 bindL kindOf (P.zip vs) m x=some v
 | [],_,_,_,_,h,_,_=>by simp at h
 | _::_,[],_,_,_,_,h,_=>by simp at h
 | p::P,w::vs,0,m,nd,h1,h2,hk=>by
  simp at h1 h2; subst h1; subst h2
  show bindL kindOf ((p,w)::P.zip vs) m p=_
  unfold bindL
  rw [l9 fun v hv=>(N8.mp nd).1 (Rc hv).1,if_pos hk]
  simp
 | p::P,w::vs,i+1,m,nd,h1,h2,hk=>by
  show bindL kindOf ((p,w)::P.zip vs) m x=_
  unfold bindL
  exact mj (i:=i) (N8.mp nd).2 (by simpa using h1) (by simpa using h2) hk
theorem mq {kindOf:Str→Option NameKind}:∀ {P:List Str} {vs:List Value} {i:Nat} {m:Str→Option Value},P.Nodup→P[i]?=some x→vs[i]?=some v→kindOf x≠some .local →
 bindC kindOf (P.zip vs) m x=some v
 | [],_,_,_,_,h,_,_=>by simp at h
 | _::_,[],_,_,_,_,h,_=>by simp at h
 | p::P,w::vs,0,m,nd,h1,h2,hk=>by
  simp at h1 h2; subst h1; subst h2
  show bindC kindOf ((p,w)::P.zip vs) m p=_
  unfold bindC
  rw [mh fun v hv=>(N8.mp nd).1 (Rc hv).1,if_neg hk]
  simp
 | p::P,w::vs,i+1,m,nd,h1,h2,hk=>by
  show bindC kindOf ((p,w)::P.zip vs) m x=_
  unfold bindC
  exact mq (i:=i) (N8.mp nd).2 (by simpa using h1) (by simpa using h2) hk
noncomputable def start (N:List Str) (vs:List V):St:=vs.map some++MY (N.length - vs.length) none
noncomputable def pD (CX:Ge) (P:Program) (w:World) (K:MI) (mg:Str→Option Value) (base:Heap) (N:List Str) (qual:Str) (scope:Scope) (f:Addr) (cd:Value) (A:Around) (outer:List Env) (s:Shared) (H:Hp) (E:XK):Cx where
 prog:=P
 w:=w
 K:=K
 mg:=mg
 base:=base
 A:=A.deeper (envOfC qual scope s.heap.objs.size f cd)
 N:=N
 s₀:=s
 H₀:=H
 env:=envOfC qual scope s.heap.objs.size f cd
 outer:=outer
 stack:=envOfC qual scope s.heap.objs.size f cd::outer
 ex:=[]
 calm:=true
 fn:=fun _=>true
 pn:=[]
 xe:=fun e s'=>wpAny (model P w) (A.deeper (envOfC qual scope s.heap.objs.size f cd)) (leaving (envOfC qual scope s.heap.objs.size f cd) e) (fun _ s''=>CX outer H s E e s'') (fun e' s''=>CX outer H s E e' s'') s'
theorem pF {sc:Scope} (h:sc.names.lookup x=some .cell):∃ c,(cellsFrom n sc.names []).lookup x=some c:=by
 have q:=PySem.W.cellsFrom_some sc.names n [] (.inl h)
 exact Option.isSome_iff_exists.mp q
theorem wj {K:MI}
 (S:aL N ps scope) (hd:A.handled=none) (e0:CC P w K mg base A outer s H) (hl:vs.length=ps.length) (r:Vals vs us)
 (x:InCallC s s.heap.objs.size (bindL (envOfC qual scope s.heap.objs.size f cd).kindOf (ps.zip us) fun _=>none) (cellsFrom (s.heap.objs.size+1) scope.names []) (bindC (envOfC qual scope s.heap.objs.size f cd).kindOf (ps.zip us) fun _=>none) s1) :
 Inv (pD CX P w K mg base N qual scope f cd A outer s H E) [] (start N vs) H s1:=by
 have hpl:ps.length≤N.length:=by have:=congrArg Pd S.pre; rw [NW] at this; lia
 obtain ⟨h1,tk,rfl,hk⟩:=x.done
 have noA:∀ b:Addr,b∉(pD CX P w K mg base N qual scope f cd A outer s H E).ex:=fun b z=>absurd (show b∈([]:List Addr) from z) (by simp)
 refine ⟨⟨e0.mod,S.kind,rfl,rfl,ML _,fun y z c h1 h2=>?_,fun y hy=>?_,fun y c _ h=>?_,fun _=>hd,Around.frames_deeper e0.frames,.inr ⟨rfl,rfl⟩,fun b z=>absurd z (noA b),e0.bs,e0.bsz,fun b _ _=>noA b,fun b z=>absurd z (noA b),e0.jb,e0.frf⟩,
  rfl,e0.bare,Un.kept hk,⟨_,x.toInCall.ns,fun i y v h1 h2 h3=>?_⟩,fun y c h=>⟨_,x.cell y c h⟩,e0.hok.fresh (ML _),fun y c h=>?_,fun p hp=>absurd (show p∈([]:List (Addr×Obj)) from hp) (by simp),e0.hok.kept hk,?_⟩
 ·exact name_of_addr x.apart (P7 h1) (P7 h2)
 ·have hy:scope.names.lookup y=some .cell∨scope.names.lookup y=some .free:=hy
  rcases hy with hy | hy
  ·exact pF hy
  ·exact absurd rfl (S.nofree _ (P7 hy))
 ·exact OU (x.above y c (P7 h))
 ·have hi:i<vs.length:=by
   unfold start at h2
   by_cases hi:i<vs.length
   ·exact hi
   ·rw [Pn (by simpa using hi)] at h2
    rw [RN] at h2
    split at h2 <;> cases h2
  have ha:vs[i]?=some v:=by
   unfold start at h2
   rw [OH (by simpa using hi),MS] at h2
   cases e:vs[i]? with
   | none=>rw [e] at h2; cases h2
   | some a=>rw [e] at h2; cases h2; rfl
  obtain ⟨u,hu,rv⟩:=r.get ha
  have hp:ps[i]?=some y:=by
   rw [← S.pre,QF (by lia)]; exact h1
  have ndP:ps.Nodup:=by rw [← S.pre]; exact S.nd.sublist (Q2 _ _)
  refine ⟨u,rv,?_⟩
  rcases S.par y (NY hp) with k | k
  ·exact .inl ⟨k,mj ndP hp hu k⟩
  ·obtain ⟨c,e⟩:=pF (n:=s.heap.objs.size+1) k
   refine .inr ⟨.inl k,c,e,?_⟩
   have q:=x.cell y c e
   rw [mq ndP hp hu (by show scope.names.lookup y≠_; rw [k]; decide)] at q
   exact q
 ·exact e0.hok.fresh (OU (x.above y c (P7 h)))
 ·unfold start
  show _=N.length
  rw [Nr,MO,List.length_replicate]
  lia
theorem yF {K:MI} {dV kV doc pm cdv ct oc:Value}
 (lk:K.lookup f=some ⟨oc,od,.func (Ow name qual params body scope dV kV doc pm an cdv ct),osl⟩) (hcd:Rk K cdv qual=true) (S:aL N ps scope)
  (len:∀ vs H Q E,sp vs H Q E→vs.length=ps.length)
  (hbody:∀ (A:Around) (outer:List Env) (s:Shared) (H:Hp) (vs:List V) (Q:VK) (E:XK),gI k (A.deeper (envOfC qual scope s.heap.objs.size f cdv))→sp vs H Q E →
    ∃ t,rP (pD CX P w K mg base N qual scope f cdv A outer s H E) body t∧t { nx:=fun _ H'=>Q .non H',rt:=Q } (start N vs) H) :
  bz P w K mg base CX (k+1) f (Ow name qual params body scope dV kV doc pm an cdv ct) ps sp:=by
  refine ⟨len,fun A outer s H args us vs Q E hr e0 hb r pe=>?_⟩
  have hl:=len _ _ _ _ pe
  have KX:K.In s.heap:=e0.mod.kin.keeps fun b o e=>(e0.bs b o e).1
  have lim:s.heap.NoLimit:=e0.mod.nolimit.keeps fun b o e=>(e0.bs b o e).1
  have hkind:∀ y∈ps.zip us,scope.names.lookup y.1=some .local∨(scope.names.lookup y.1=some .cell∧((cellsFrom (s.heap.objs.size+1) scope.names []).lookup y.1).isSome=true):=fun ⟨n,v⟩ hy=>by
   rcases S.par n (Rc hy).1 with q | q
   ·exact .inl q
   ·exact .inr ⟨q,PySem.W.cellsFrom_some _ _ _ (.inl q)⟩
  refine codeAny_call_function hr.depth (KX _ _ lk) rfl S.co S.gen rfl (PySem.W.codeRec_of KX hcd) (hb _ _ _ _ ?_)
  refine wpAny_newFunctionEnv_cells S.kind hkind fun env he s1 x=>?_
  subst he
  refine ⟨lim.keeps x.toInCall.keep,codeAny_func ?_⟩
  obtain ⟨t,ht,hq⟩:=hbody A outer s H vs Q E (hr.deeper _) pe
  have I:Inv (pD CX P w K mg base N qual scope f cdv A outer s H E) [] (start N vs) H s1:=wj S hr.hd e0 hl r x
  refine Nv (ht [] s1 (start N vs) H _ I hq) (fun fl s' hs=>?_) fun e s' hs=>hs
  have fin:∀ {σ':St} {H':Hp} {v:V} {u:Value},Inv (pD CX P w K mg base N qual scope f cdv A outer s H E) [] σ' H' s'→RelV v u→Q v H'→CE outer P w H s Q u s' :=
   fun {σ' H' v u} J rv q=>⟨v,H',J.os,J.bare,J.base,J.hok,rv,q⟩
  cases fl with
  | ret u =>
   obtain ⟨v,σ',H',J,rv,q⟩:=hs
   exact fin J rv q
  | next =>
   obtain ⟨σ',H',J,q⟩:=hs
   exact fin (v:=V.non) (u:=NO) J rfl q
  | brk =>
   obtain ⟨_,_,_,q⟩:=hs
   exact NK q
  | cont =>
   obtain ⟨_,_,_,q⟩:=hs
   exact NK q
section
variable {id T:String}
noncomputable def Mh (r:List V→Hp→VK→Prop) (t:TA):TE:=fun σ H Q=>t σ H fun vs H1=>r vs H1 Q
theorem yG (hc:fJ X (.builtin id) r) (hg:Gl X x) (hm:X.mg x=none) (hv:bootBuiltins x=some (.builtin id)) (ha:PA X (e::es) t) (hn:x≠"__name__":=by decide) (hdb:(x == ("__debug__":Str))=false:=by decide)
 (he:starEach (e::es) X.env=(false,eval e X.env)::starEach es X.env:=by rfl) (hpl:(backTo pos (starEach es X.env)).any (·.1)=false:=by rfl):PE X (.Call (.Name x p) (e::es) [] pos) (Mh r t):=by
 intro aa s σ H Q I h
 refine Ol (c7 I hg hm hv ?_ hn hdb)
 exact RC (bw (ha pos aa s σ H _ I h) fun us s1 ⟨vs,H1,I1,r1,q1⟩=>hc aa s1 σ H1 vs us Q I1 r1 q1) he hpl
theorem mw (hc:fJ X (.type T) r) (hg:Gl X x) (hm:X.mg x=none) (hv:bootBuiltins x=some (.type T)) (ha:PA X (e::es) t) (hn:x≠"__name__":=by decide) (hdb:(x == ("__debug__":Str))=false:=by decide)
 (he:starEach (e::es) X.env=(false,eval e X.env)::starEach es X.env:=by rfl) (hpl:(backTo pos (starEach es X.env)).any (·.1)=false:=by rfl):PE X (.Call (.Name x p) (e::es) [] pos) (Mh r t):=by
 intro aa s σ H Q I h
 refine Ol (c7 I hg hm hv ?_ hn hdb)
 exact P0 (bw (ha pos aa s σ H _ I h) fun us s1 ⟨vs,H1,I1,r1,q1⟩=>hc aa s1 σ H1 vs us Q I1 r1 q1) he hpl
end
end L2
namespace HT
open PySem PyProof.Rows
noncomputable def lexLt:List Int→List Int→Bool
 | [],[]=>false
 | [],_::_=>true
 | _::_,[]=>false
 | x::xs,y::ys=>if x=y then lexLt xs ys else decide (x<y)
theorem cB (x y) (xs ys):lexLt (x::xs) (y::ys)=if x=y then lexLt xs ys else decide (x<y):=rfl
theorem gM:lexLt [] []=false:=rfl
theorem fK (y) (ys):lexLt [] (y::ys)=true:=rfl
theorem fL (x) (xs):lexLt (x::xs) []=false:=rfl
theorem yH (A:Around) (s) (a) (t:Tok) (c) (u:Tok):∃ e,Nd A s (.int a t) (.int c u) e∧(e=true↔a=c) :=
 ⟨(a == c),Nd.int_int a t c u,by simp⟩
theorem yI (A:Around) (s) (a) (t:Tok) (c) (u:Tok) (prog) (w) (E) (Q) (h:Q (.bool (decide (a<c))) s) :
 wpAny (model prog w) A (richCompare .Lt (.int a t) (.int c u)) Q E s :=
 (PyProof.Rows.lt_int h:wpAny (model prog w) A (compareOp .Lt (.int a t) (.int c u)) Q E s)
section
open PySem.SeqAt
open PySem.AutoSeq1 (wpAny_loadPart')
open PySem.MeetsSeq PySem.MeetsSeq2 PySem.MeetsSeq3
theorem gO (l b) (items items2) (n n2) (dd dd2) (sl sl2) (ns ms) (hi:IntsAre items.toList ns) (hj:IntsAre items2.toList ms) :
 Meets (Builtin.«tuple.__lt__» ⟨[.ref l,.ref b],[]⟩)
  (fun _ R s=>s.heap.get? l=some { cls:=.type "tuple",dict:=dd,data:=.seq items n,slots:=sl }∧s.heap.get? b=some { cls:=.type "tuple",dict:=dd2,data:=.seq items2 n2,slots:=sl2 } ∧
    R (.ok (.ret (.bool (lexLt ns ms)))) s) :=
 .of_wp fun prog w A R s h=>by
  obtain ⟨hp,g,d,tk,os⟩:=s; obtain ⟨hl,hb,h⟩:=h
  have f2:=AutoSeq1.sub_tuple_tuple
  have z1:items.size=ns.length:=by rw [← hi.length]; simp
  have z2:items2.size=ms.length:=by rw [← hj.length]; simp
  wp_walk using wpAny_loadPart' hl,wpAny_loadPart' hb,wpAny_forIn_list _ (fun rest b s'=>b.1=none∧s'=⟨hp,g,d,tk,os⟩∧∃ (vs ws:List Value) (ns' ms':List Int),rest=vs.zip ws ∧
   IntsAre vs ns'∧IntsAre ws ms'∧ns'.length+items2.size=ms'.length+items.size∧R (.ok (.ret (.bool (lexLt ns' ms')))) ⟨hp,g,d,tk,os⟩) _
  case turn =>
   rintro ⟨y,x⟩ rest b s' ⟨hb',rfl,vs,ws,ns',ms',hz,hvi,hwi,hlen,hR⟩
   cases hvi with
   | nil=>rw [List.zip_nil_left] at hz; cases hz
   | cons a t hvi' =>
    cases hwi with
    | nil=>rw [List.zip_nil_right] at hz; cases hz
    | cons c u hwi' =>
     rw [QY] at hz
     injection hz with hyx hrest
     injection hyx with hy hx
     subst hy hx
     rw [cB] at hR
     simp only [Nl] at hlen
     obtain ⟨e,he,hiff⟩:=yH A.in1 ⟨hp,g,d,tk,os⟩ a t c u
     refine MG (he prog w _ _ ?_)
     cases e with
     | true =>
      rw [if_pos (hiff.mp rfl)] at hR
      wp_walk
      exact ⟨rfl,rfl,_,_,_,_,hrest,hvi',hwi',by lia,hR⟩
     | false =>
      rw [if_neg (fun q=>absurd (hiff.mpr q) MV)] at hR
      have hri:=yI A.in1 ⟨hp,g,d,tk,os⟩ a t c u prog w
      wp_walk using hri
      exact ⟨_,rfl,by simpa using hR⟩
  case fin =>
   rintro ⟨b1,b2⟩ s' ⟨hb',rfl,vs,ws,ns',ms',hz,hvi,hwi,hlen,hR⟩
   simp only at hb'
   subst hb'
   have hv:lexLt ns' ms'=decide (items.size<items2.size):=by
    cases hvi with
    | nil =>
     cases hwi with
     | nil =>
      simp only [Oo] at hlen
      rw [gM]
      exact (decide_eq_false (by lia)).symm
     | cons c u hw =>
      simp only [Oo,Nl] at hlen
      rw [fK]
      exact (decide_eq_true (by lia)).symm
    | cons a t hv =>
     cases hwi with
     | nil =>
      simp only [Oo,Nl] at hlen
      rw [fL]
      exact (decide_eq_false (by lia)).symm
     | cons c u hw =>
      rw [QY] at hz
      cases hz
   rw [hv] at hR
   wp_walk
   exact ⟨_,rfl,by simpa [Builtin.Tuple.tupleCompareSizes] using hR⟩
  case h =>
   exact ⟨rfl,rfl,items.toList,items2.toList,ns,ms,rfl,hi,hj,by lia,h⟩
end
section
theorem r6 (hl:IsTup s.heap l items) (hb:IsTup s.heap b items2) (hi:IntsAre items.toList ns) (hj:IntsAre items2.toList ms)
 (hu:A.units<cLine) (h:Q (.bool (lexLt ns ms)) s):wpAny (model prog w) A (compareOp .Lt (.ref l) (.ref b)) Q E s:=by
 obtain ⟨⟨cls,dd,data,sl⟩,ho,hc,n,hd⟩:=id hl
 obtain ⟨⟨cls2,dd2,data2,sl2⟩,ho2,hc2,n2,hd2⟩:=id hb
 simp only at hc hd hc2 hd2
 subst hc hd hc2 hd2
 exact richCompare_meets_room (op:=.Lt) ⟨_,ho,rfl⟩ ⟨_,ho2,rfl⟩ RT PySem.F.entry_tuple_lt (PySem.F.args_tuple_lt_2 _ _) (gO l b items items2 n n2 dd dd2 sl sl2 ns ms hi hj)
  ⟨ho,ho2,show Value.bool (lexLt ns ms)≠Value.notImplemented∧Q (.bool (lexLt ns ms)) s from ⟨(fun x=>nomatch x),h⟩⟩ hu
noncomputable def bZ (n d:Nat):Option Int→Nat
 | none=>d
 | some v=>if v<0 then (v+(n:Int)).toNat else min v.toNat n
theorem Gf (n d) (hd:d≤n) (o):bZ n d o≤n:=by
 cases o with
 | none=>exact hd
 | some v =>
  show (if v<0 then (v+(n:Int)).toNat else min v.toNat n)≤n
  by_cases hv:v<0
  ·rw [if_pos hv]; lia
  ·rw [if_neg hv]; exact Nat.min_le_right _ _
theorem uw (v) (n d:Nat):(if v<0 then max (v+(n:Int)) 0 else min v (n:Int))=((bZ n d (some v):Nat):Int):=by
 show (if v<0 then max (v+(n:Int)) 0 else min v (n:Int))=(((if v<0 then (v+(n:Int)).toNat else min v.toNat n):Nat):Int)
 by_cases hv:v<0
 ·simp only [if_pos hv]; lia
 ·simp only [if_neg hv]; lia
theorem r8 (lo hi) (n:Nat):RH lo hi 1 (n:Int)=(((bZ n 0 lo:Nat):Int),((bZ n n hi:Nat):Int)):=by
 have h1:¬ ((1:Int)<0):=by lia
 unfold RH
 simp only [h1,if_false]
 refine Prod.ext ?_ ?_
 ·cases lo with
  | none=>rfl
  | some v=>exact uw v n 0
 ·cases hi with
  | none=>rfl
  | some v=>exact uw v n n
theorem r9 (i j:Nat):QD (i:Int) (j:Int) 1=j - i:=by
 unfold QD
 have h1:(1:Int)>0:=by lia
 simp only [h1,if_true,Int.ediv_one]
 split <;> lia
theorem kj (p:IsPart v o) (h:Q o s):wpAny (model prog w) A (Builtin.Slice.slicePartIndex v) Q E s:=by
 cases p with
 | none=>exact slicePart_none h
 | int i t=>exact slicePart_int h
theorem d9 {sl:Addr} {vl vu:Value} {lo hi:Option Int} {n:Nat} {Q:Int×Int×Nat→Shared→Prop} (hs:s.heap.IsSliceOf sl vl vu .none) (pl:IsPart vl lo) (pu:IsPart vu hi)
 (h:Q (((bZ n 0 lo:Nat):Int),1,bZ n n hi - bZ n 0 lo) s):wpAny (model prog w) A (Builtin.Slice.sliceApplied (.ref sl) (pure (n:Int))) Q E s:=by
 obtain ⟨os,hos,hcs,hds⟩:=id hs
 unfold Builtin.Slice.sliceApplied Builtin.Slice.sliceFields
 refine MG (MG (Ox hos hds (x:=vl) rfl (MG (Ox hos hds (x:=vu) rfl (MG (Ox hos hds (x:=.none) rfl (MJ ?_)))))))
 refine MG (slicePart_none ?_)
 show wpAny _ _ (if ((1:Int) == 0)=true then _ else _) _ _ s
 rw [if_neg (by decide)]
 refine MG (kj pl (MG (kj pu (MG (MJ ?_)))))
 show wpAny _ _ (match RH lo hi 1 (n:Int) with | (lo,hi)=>pure (lo,(1:Int),QD lo hi 1)) _ _ s
 rw [r8 lo hi n]
 show wpAny _ _ (pure (((bZ n 0 lo:Nat):Int),(1:Int),QD ((bZ n 0 lo:Nat):Int) ((bZ n n hi:Nat):Int) 1)) _ _ s
 rw [r9]
 exact MJ h
theorem yJ (xs:Array Value) (i k:Nat):((Ny k).filterMap fun (m:Nat)=>xs[((i:Int)+(m:Int) * 1).toNat]?).toArray=((xs.toList.drop i).take k).toArray:=by
 have e:(fun (m:Nat)=>xs[((i:Int)+(m:Int) * 1).toNat]?)=fun m=>xs[i+m]?:=by
  funext m
  have:((i:Int)+(m:Int) * 1).toNat=i+m:=by lia
  rw [this]
 rw [e]
 have:=pick_run xs i k
 rw [R4] at this
 have e2:((fun x=>xs[x]?)∘fun x=>i+x)=fun m=>xs[i+m]?:=rfl
 rw [e2] at this
 rw [this]
theorem iE {lo hi:Option Int} (ht:IsTup s.heap t items) (hs:s.heap.IsSliceOf sl vl vu .none) (pl:IsPart vl lo) (pu:IsPart vu hi)
 (hw:¬ (bZ items.size 0 lo=0∧bZ items.size items.size hi=items.size))
 (h:Q (.ref s.heap.objs.size) { s with heap:=s.heap.push { cls:=.type "tuple",data:=.seq ((items.toList.drop (bZ items.size 0 lo)).take (bZ items.size items.size hi - bZ items.size 0 lo)).toArray } })
 (hsz:items.size≤sizeLine):wpAny (model prog w) A (getItem (.ref t) (.ref sl)) Q E s:=by
 have htake:sizeOk (.seq ((items.toList.drop (bZ items.size 0 lo)).take (bZ items.size items.size hi - bZ items.size 0 lo)).toArray):=by
  show ((items.toList.drop (bZ items.size 0 lo)).take (bZ items.size items.size hi - bZ items.size 0 lo)).toArray.size≤sizeLine
  rw [M7,NW,List.length_drop,NC]
  lia
 have hj:bZ items.size items.size hi≤items.size:=Gf _ _ (ML _) hi
 obtain ⟨os,hos,hcs,hds⟩:=id hs
 have hTs:s.TypeIs (.ref sl) "slice":=⟨os,hos,hcs⟩
 unfold getItem
 try with_reducible refine NX ?_
 first | refine MG (MJ ?_) | skip
 refine MG (R6 ht.typeIs (by decide) ?_)
 refine MG (OI (name:=MH "__getitem__") ht.typeIs Ph
  (Oe Ph ht.typeIs entry_tuple_getitem ?_ (args_tuple_getitem _ _)))
 show wpAny _ _ (Builtin.Tuple.tupleItemsOf (.ref t) >>= _) _ _ s
 refine MG (tupleItemsOf_ ht ?_)
 refine MG (OS hTs ?_)
 rw [if_pos (by decide)]
 refine MG (d9 hs pl pu ?_)
 have hno:¬ ((((bZ items.size 0 lo:Nat):Int) == 0 && (1:Int) == 1 && (bZ items.size items.size hi - bZ items.size 0 lo) == items.size)=true):=by
  intro q
  rw [Qc,Qc] at q
  have q1:((bZ items.size 0 lo:Nat):Int)=0:=eq_of_beq q.1.1
  have q2:bZ items.size items.size hi - bZ items.size 0 lo=items.size:=eq_of_beq q.2
  exact hw ⟨by lia,by lia⟩
 show wpAny _ _ (if (((bZ items.size 0 lo:Nat):Int) == 0 && (1:Int) == 1 && (bZ items.size items.size hi - bZ items.size 0 lo) == items.size)=true then _ else _) _ _ s
 rw [if_neg hno,yJ]
 first
  | exact MG (m:=QH _) (NQ (MJ ⟨_,rfl,MJ h⟩) htake)
  | exact MG (m:=QH _) (NQ (MG (MJ (MJ ⟨_,rfl,MJ h⟩))) htake)
  | exact MG (MG (m:=QH _) (NQ (MJ (MJ ⟨_,rfl,MJ h⟩)) htake))
  | exact MG (MG (m:=QH _) (NQ (MJ ⟨_,rfl,MJ h⟩) htake))
end
end HT
namespace L2
open PySem PySem.Spec PyProof.Rows
noncomputable abbrev TO:=St→Hp→(Option Int→Hp→Prop)→Prop
noncomputable def PO (X:Cx) (e:Option Expr) (t:TO):Prop :=
 ∀ (aa:List (Addr×Obj)) (s:Shared) (σ:St) (H:Hp) (Q:Option Int→Hp→Prop),Inv X aa σ H s→t σ H Q →
  wpAny (model X.prog X.w) X.A (evalPart e X.env) (fun u s'=>∃ o H',Inv X aa σ H' s'∧IsPart u o∧Q o H') X.xe s
noncomputable def CF:TO:=fun _ H Q=>Q none H
noncomputable def Jv (t:TE):TO:=fun σ H Q=>t σ H fun x H1=>∃ i,x=.int i∧Q (some i) H1
theorem intsAre_of:∀ {us:List Value},Vals (ns.map V.int) us→IntsAre us ns:=by
 induction ns with
 | nil=>intro us r; rw [PN] at r; cases r; exact .nil
 | cons n ns ih =>
  intro us r
  rw [MN] at r
  cases r with
  | cons r1 r2 =>
   obtain ⟨t,e⟩:=r1
   subst e
   exact .cons n t (ih r2)
section
variable {lo hi:Option Expr}
theorem CG:PO X none CF:=by
 intro aa s σ H Q I h
 rw [evalPart_none]
 exact MJ ⟨none,H,I,.none,h⟩
theorem CH (h:PE X e te):PO X (some e) (Jv te):=by
 intro aa s σ H Q I hw
 rw [evalPart_some]
 refine bw (h aa s σ H _ I hw) fun u s1 ⟨x,H1,I1,r1,q1⟩=>?_
 obtain ⟨i,rfl,q⟩:=q1
 obtain ⟨t,rfl⟩:=r1
 exact ⟨some i,H1,I1,.int i t,q⟩
noncomputable def Ck (X:Cx) (r:V→Option Int→Option Int→Hp→VK→Prop):Prop :=
 ∀ (aa:List (Addr×Obj)) (s:Shared) (σ:St) (H:Hp) (x:V) (v vl vu:Value) (lo hi:Option Int) (sl:Addr) (Q:VK),Inv X aa σ H s→RelV x v→s.heap.IsSliceOf sl vl vu .none→IsPart vl lo→IsPart vu hi→r x lo hi H Q →
  ∃ T id,typeLookup (.type T) "__getitem__"=pure (some (.builtin id))∧s.TypeIs v T∧wpAny (model X.prog X.w) X.A (getItem v (.ref sl)) (EP X aa σ Q) X.xe s
theorem Ck.or (h:Ck X r) (h':Ck X r'):Ck X (fun x lo hi H Q=>r x lo hi H Q∨r' x lo hi H Q):=by
 intro aa s σ H x v vl vu lo hi sl Q I rx hs pl pu q
 rcases q with q | q
 ·exact h aa s σ H x v vl vu lo hi sl Q I rx hs pl pu q
 ·exact h' aa s σ H x v vl vu lo hi sl Q I rx hs pl pu q
noncomputable def MB (r:V→Option Int→Option Int→Hp→VK→Prop) (te:TE) (tl th:TO):TE:=fun σ H Q=>te σ H fun x H1=>tl σ H1 fun l H2=>th σ H2 fun u H3=>r x l u H3 Q
theorem yK (hr:Ck X r) (he:PE X e te) (hl:PO X lo tl) (hu:PO X hi th):PE X (.Subscript e (.Slice lo hi none p2) pos) (MB r te tl th):=by
 intro aa s σ H Q I h
 refine Subscript_ (bw (he aa s σ H _ I h) fun v s1 ⟨x,H1,I1,r1,q1⟩=>?_)
 refine wpAny_Slice (bw (hl aa s1 σ H1 _ I1 q1) fun vl s2 ⟨l,H2,I2,pl,q2⟩=>bw (hu aa s2 σ H2 _ I2 q2) fun vu s3 ⟨u,H3,I3,pu,q3⟩=>?_)
 rw [evalPart_none]
 refine MJ ?_
 have I4:Inv X aa σ H3 { s3 with heap:=s3.heap.push { cls:=.type "slice",data:=.fields #[vl,vu,.none] } }:=I3.kept (t':=s3.toks) fun b ob q=>MQ _ q
 obtain ⟨T,id,hT,ht,hg⟩:=hr aa { s3 with heap:=s3.heap.push { cls:=.type "slice",data:=.fields #[vl,vu,.none] } } σ H3 x v vl vu l u s3.heap.objs.size Q I4 r1 (Heap.IsSliceOf.new ..) pl pu q3
 show wpAny (model X.prog X.w) X.A (subscriptTail e (.Slice lo hi none p2) v (.ref s3.heap.objs.size)) (EP X aa σ Q) X.xe { s3 with heap:=s3.heap.push { cls:=.type "slice",data:=.fields #[vl,vu,.none] } }
 exact tail_any (ops:=[.ref s3.heap.objs.size,v]) ht hT hg (by walk_at "u")
noncomputable def nK (xs:List V) (lo hi:Option Int):List V:=(xs.drop (HT.bZ xs.length 0 lo)).take (HT.bZ xs.length xs.length hi - HT.bZ xs.length 0 lo)
theorem jB (xs) (lo hi):(nK xs lo hi).length≤xs.length:=by
 unfold nK
 rw [NW,List.length_drop]
 lia
noncomputable def LA (K:MI):V→Option Int→Option Int→Hp→VK→Prop:=fun x lo hi H Q=>∃ a xs,x=.ref a∧cQ K H a xs ∧
 ¬ (HT.bZ xs.length 0 lo=0∧HT.bZ xs.length xs.length hi=xs.length)∧∀ p,H p=none→Q (.ref p) (upd H p (.tup (nK xs lo hi)))
theorem Gg:Ck X (LA X.K):=by
 intro aa s σ H x v vl vu lo hi sl Q I rx hs pl pu h
 obtain ⟨a,xs,rfl,hx,hw,q⟩:=h
 cases rx
 obtain ⟨its,r,ht,hz⟩:=I.tuple hx
 have hlen:its.toArray.size=xs.length:=by rw [M7]; exact r.length.symm
 refine ⟨"tuple",_,Ph.lookup,ht.typeIs,?_⟩
 refine HT.iE ht hs pl pu (by rw [hlen]; exact hw) ?_ (by rw [hlen]; exact hz)
 rw [hlen]
 refine ⟨.ref s.heap.objs.size,_,I.laid (t':=s.toks) (o:=.tup (nK xs lo hi)) (fun b ob q=>MQ _ q) (ML _) ?_,rfl,q _ (I.hok.fresh (ML _))⟩
 exact ⟨MT (jB xs lo hi) hz,_,(r.drop (HT.bZ xs.length 0 lo)).take (HT.bZ xs.length xs.length hi - HT.bZ xs.length 0 lo),IsTup.new _ _⟩
theorem Vals.uz (r:Vals xs us):us=[]↔xs=[]:=by
 cases r with
 | nil=>simp
 | cons _ _=>simp
end
noncomputable def IQ (n:Nat) (i:Int):Option Nat:=if 0≤i then (if i<n then some i.toNat else none) else if -(n:Int)≤i then some (i+n).toNat else none
noncomputable def jS {α:Type} (xs:List α) (i:Int):Option α:=(IQ xs.length i).bind fun j=>xs[j]?
theorem CI (h:IQ n i=some j):seqIndex? i n=some j∧j<n∧ -(n:Int)≤i∧i<n:=by
 unfold IQ at h
 by_cases h0:0≤i
 ·rw [if_pos h0] at h
  by_cases h1:i<n
  ·rw [if_pos h1] at h
   have e:i.toNat=j:=Of h
   exact ⟨by rw [seqIndex_of h0 h1,e],by lia,by lia,h1⟩
  ·rw [if_neg h1] at h; cases h
 ·rw [if_neg h0] at h
  by_cases h1: -(n:Int)≤i
  ·rw [if_pos h1] at h
   have e:(i+n).toNat=j:=Of h
   exact ⟨by rw [seqIndex_neg (by lia) h1,e],by lia,h1,by lia⟩
  ·rw [if_neg h1] at h; cases h
theorem uA (h:jS xs i=some v):∃ j,seqIndex? i xs.length=some j∧xs[j]?=some v∧j<xs.length∧ -(xs.length:Int)≤i∧i<xs.length:=by
 unfold jS at h
 cases e:IQ xs.length i with
 | none=>rw [e] at h; cases h
 | some j =>
  rw [e] at h
  obtain ⟨h1,h2,h3,h4⟩:=CI e
  exact ⟨j,h1,h,h2,h3,h4⟩
noncomputable def jT (b:Expr):Prop:=∀ o i,subscripted b false o i=operate [o,i] (getItem o i)
noncomputable def EW (X:Cx) (r:R2):Prop :=
 ∀ (value slice:Expr) (aa:List (Addr×Obj)) (s:Shared) (σ:St) (H:Hp) (x y:V) (v u:Value) (Q:VK),Inv X aa σ H s→RelV x v→RelV y u→r x y H Q →
  subscripted slice false v u=operate [v,u] (getItem v u)→wpAny (model X.prog X.w) X.A (subscriptTail value slice v u) (EP X aa σ Q) X.xe s
noncomputable def LB (X:Cx) (id:String) (r:V→List V→Hp→VK→Prop):Prop :=
 ∀ (aa:List (Addr×Obj)) (s:Shared) (σ:St) (H:Hp) (x:V) (xs:List V) (v:Value) (us:List Value) (Q:VK),Inv X aa σ H s→RelV x v→Vals xs us→r x xs H Q →
  wpAny (model X.prog X.w) X.A (call (.builtin id) (v::us)) (EP X aa σ Q) X.xe s
section
theorem EW.or (h:EW X r) (h':EW X r'):EW X (fun x y H Q=>r x y H Q∨r' x y H Q):=by
 intro value slice aa s σ H x y v u Q I rx ry q hs
 rcases q with q | q
 ·exact h value slice aa s σ H x y v u Q I rx ry q hs
 ·exact h' value slice aa s σ H x y v u Q I rx ry q hs
theorem Jw (hr:EW X r) (ha:PE X a ta) (hb:PE X b tb) (hs:jT b):PE X (.Subscript a b pos) (K4 r ta tb):=by
 intro aa s σ H Q I h
 exact Subscript_ (F1 ha hb I h fun v u s2 x y H2 I2 rx ry q=>hr a b aa s2 σ H2 x y v u Q I2 rx ry q (hs _ _))
noncomputable def LC (K:MI):R2:=fun x y H Q=>∃ p xs i v,x=.ref p∧y=.int i∧gu K H p xs∧jS xs i=some v∧Q v H
noncomputable def LD (K:MI):R2:=fun x y H Q=>∃ p xs i v,x=.ref p∧y=.int i∧cQ K H p xs∧jS xs i=some v∧Q v H
theorem CJ:EW X (LC X.K):=by
 intro value slice aa s σ H x y v u Q I rx ry h hs
 obtain ⟨p,xs,i,z,rfl,rfl,hq,he,q⟩:=h
 cases rx
 obtain ⟨t,rfl⟩:=ry
 obtain ⟨its,r,pl,hz⟩:=I.list hq
 obtain ⟨j,h1,h2,h3,h4,h5⟩:=uA he
 obtain ⟨w,ew,rw'⟩:=r.get h2
 have hl:=r.length
 have hn:=nJ
 have fin:EP X aa σ Q w s:=⟨z,H,I,rw',q⟩
 by_cases h0:0≤i
 ·have hj:i.toNat=j:=by
   rw [seqIndex_of h0 h5] at h1
   exact Of h1
  exact item_listR pl.isList h0 (by lia) (by rw [hj]; simpa using ew) fin hs
 ·have hj:(i+(its.toArray.size:Int)).toNat=j:=by
   rw [seqIndex_neg (by lia) h4] at h1
   rw [M7,← hl]
   exact Of h1
  exact subscriptTail_builtinR (x:=w) pl.isList.typeIs R9.lookup
   (wpAny_getItem_list_neg (Q:=fun r s'=>r=w∧EP X aa σ Q r s') pl.isList (by lia) (by rw [M7] <;> lia) (by lia) (by rw [hj]; simpa using ew) ⟨rfl,fin⟩) hs
theorem Gh:EW X (LD X.K):=by
 intro value slice aa s σ H x y v u Q I rx ry h hs
 obtain ⟨p,xs,i,z,rfl,rfl,hq,he,q⟩:=h
 cases rx
 obtain ⟨t,rfl⟩:=ry
 obtain ⟨its,r,pl,hz⟩:=I.tuple hq
 obtain ⟨j,h1,h2,h3,h4,h5⟩:=uA he
 obtain ⟨w,ew,rw'⟩:=r.get h2
 have hl:=r.length
 have hn:=nJ
 have fin:EP X aa σ Q w s:=⟨z,H,I,rw',q⟩
 exact subscriptTail_builtinR (x:=w) pl.typeIs slot_tuple_getitem.lookup
  (getItem_tuple (j:=j) (Q:=fun r s'=>r=w∧EP X aa σ Q r s') pl (by lia) (by lia) (by rw [M7,← hl]; exact h1) (by simpa using ew) ⟨rfl,fin⟩) hs
theorem nL (lo hi) (n):(sliceBounds lo hi none n).1=((HT.bZ n 0 lo:Nat):Int)∧(sliceBounds lo hi none n).2.1=((HT.bZ n n hi:Nat):Int)∧(sliceBounds lo hi none n).2.2=1:=by
 refine ⟨?_,?_,rfl⟩
 ·cases lo with
  | none=>simp [sliceBounds,HT.bZ]
  | some i =>
   simp only [sliceBounds,HT.bZ,Option.getD_none,show (1:Int)>0 by decide,if_true]
   by_cases h:i<0
   ·simp only [h,if_true] <;> lia
   ·simp only [h,if_false] <;> lia
 ·cases hi with
  | none=>simp [sliceBounds,HT.bZ]
  | some i =>
   simp only [sliceBounds,HT.bZ,Option.getD_none,show (1:Int)>0 by decide,if_true]
   by_cases h:i<0
   ·simp only [h,if_true] <;> lia
   ·simp only [h,if_false] <;> lia
theorem lS (its:List Value) (lo hi):slicePick its.toArray lo hi none=((its.drop (HT.bZ its.length 0 lo)).take (HT.bZ its.length its.length hi - HT.bZ its.length 0 lo)).toArray:=by
 obtain ⟨h1,h2,h3⟩:=nL lo hi its.toArray.size
 unfold slicePick
 rw [h1,h2,h3]
 simp only [sliceRange_one,pick_run,M7] <;> rfl
noncomputable def LF (K:MI):V→Option Int→Option Int→Hp→VK→Prop:=fun x lo hi H Q=>∃ a xs,x=.ref a∧gu K H a xs∧∀ p,H p=none→Q (.ref p) (upd H p (.lst (nK xs lo hi)))
theorem CK:Ck X (LF X.K):=by
 intro aa s σ H x v vl vu lo hi sl Q I rx hs pl pu h
 obtain ⟨a,xs,rfl,hx,q⟩:=h
 cases rx
 obtain ⟨its,r,ht,hz⟩:=I.list hx
 have hlen:=r.length
 refine ⟨"list",_,R9.lookup,ht.isList.typeIs,?_⟩
 refine wpAny_getItem_list_slice ht.isList hs pl pu .none (by simp) ?_ (by rw [M7] <;> lia)
 rw [lS,← hlen]
 refine ⟨.ref s.heap.objs.size,_,I.laid (t':=s.toks) (o:=.lst (nK xs lo hi)) (fun b ob q=>MQ _ q) (ML _) ?_,rfl,q _ (I.hok.fresh (ML _))⟩
 exact ⟨MT (jB xs lo hi) hz,_,0,(r.drop (HT.bZ xs.length 0 lo)).take (HT.bZ xs.length xs.length hi - HT.bZ xs.length 0 lo),M3 _ rfl⟩
theorem nM:fJ X (.builtin "len") (fun xs H Q=>∃ p ys,xs=[.ref p]∧(gu X.K H p ys∨cQ X.K H p ys)∧Q (.int ys.length) H):=by
 intro aa s σ H xs us Q I r h
 obtain ⟨p,ys,rfl,hq,q⟩:=h
 obtain ⟨u,rfl,rx⟩:=vals1 r
 cases rx
 have hn:=nJ
 rcases hq with hq | hq
 ·obtain ⟨its,r',pl,hz⟩:=I.list hq
  have hlen:=r'.length
  exact Calls.call_len_list pl.isList (by simp only [M7] <;> lia) ⟨.int ys.length,H,I.tok _,⟨s.toks+1,by rw [M7,hlen]⟩,q⟩
 ·obtain ⟨its,r',pl,hz⟩:=I.tuple hq
  have hlen:=r'.length
  exact len_tuple pl (by simp only [M7] <;> lia) ⟨.int ys.length,H,I.tok _,⟨s.toks+1,by rw [M7,hlen]⟩,q⟩
theorem nN:fJ X (.type "list") (fun xs H Q=>∃ p ys,xs=[.ref p]∧(gu X.K H p ys∨cQ X.K H p ys)∧∀ l,H l=none→Q (.ref l) (upd H l (.lst ys))):=by
 intro aa s σ H xs us Q I r h
 obtain ⟨p,ys,rfl,hq,q⟩:=h
 obtain ⟨u,rfl,rx⟩:=vals1 r
 cases rx
 have fin:∀ (its:List Value),Vals ys its→ys.length≤sizeLine→∀ (h':Heap) (c':Nat),(∀ b o',s.heap.get? b=some o'→h'.get? b=some o') →
  h'.get? s.heap.objs.size=some { cls:=.type "list",dict:=none,data:=.seq its.toArray c',slots:= #[] }→EP X aa σ Q (.ref s.heap.objs.size) { s with heap:=h' }:=fun its r' hz h' c' kp e =>
  ⟨.ref s.heap.objs.size,_,I.laid (t':=s.toks) kp (ML _) (show aX X.prog X.w _ h' _ (.lst ys) from ⟨hz,its,c',r',e⟩),rfl,q _ (I.hok.fresh (ML _))⟩
 rcases hq with hq | hq
 ·obtain ⟨its,r',pl,hz⟩:=I.list hq
  have hlen:=r'.length
  obtain ⟨o,ho,hc,n,hd⟩:=pl.isList
  exact call_list_seq p (.inl rfl) ho hc hd (fun h' c' kp e=>fin its r' hz h' c' kp e) (by simp only [M7] <;> lia)
 ·obtain ⟨its,r',pl,hz⟩:=I.tuple hq
  have hlen:=r'.length
  obtain ⟨o,ho,hc,n,hd⟩:=pl
  exact call_list_seq p (.inr rfl) ho hc hd (fun h' c' kp e=>fin its r' hz h' c' kp e) (by simp only [M7] <;> lia)
theorem lT:fJ X (.type "tuple") (fun xs H Q=>∃ p ys,xs=[.ref p]∧((gu X.K H p ys∧∀ l,H l=none→Q (.ref l) (upd H l (.tup ys)))∨(cQ X.K H p ys∧Q (.ref p) H))):=by
 intro aa s σ H xs us Q I r h
 obtain ⟨p,ys,rfl,h⟩:=h
 obtain ⟨u,rfl,rx⟩:=vals1 r
 cases rx
 rcases h with ⟨hq,q⟩ | ⟨hq,q⟩
 ·obtain ⟨its,r',pl,hz⟩:=I.list hq
  have hlen:=r'.length
  refine call_tuple_list pl.isList (fun h' kp=>?_) (by simp only [M7] <;> lia)
  have I1:Inv X aa σ H { s with heap:=h' }:=I.kept (t':=s.toks) kp
  have I2:Inv X aa σ (upd H h'.objs.size (.tup ys)) { s with heap:=h'.push { cls:=.type "tuple",data:=.seq its.toArray } } :=
   I1.laid (t':=s.toks) (fun b o e=>MQ _ e) (ML _) (show aX X.prog X.w _ _ _ (.tup ys) from ⟨hz,its,r',IsTup.new _ _⟩)
  exact ⟨.ref h'.objs.size,_,I2,rfl,q _ (I1.hok.fresh (ML _))⟩
 ·obtain ⟨its,r',pl,hz⟩:=I.tuple hq
  exact call_tuple_same pl ⟨.ref p,H,I,rfl,q⟩
noncomputable def LG (K:MI) (T:String) (x:V) (H:Hp):Prop:=match x with
 | .str _=>T="str"
 | .int _=>T="int"
 | .ref p=>(T="list"∧∃ xs,gu K H p xs)∨(T="tuple"∧∃ o,K.lookup p=some o∧o.cls=.type "tuple"∧o.dict=none) ∨
  (T="dict"∧((∃ kvs,H p=some (.dK kvs))∨∃ kvs,H p=some (.dT kvs)))∨(T="set"∧∃ S n,H p=some (.set S n))
 | _=>False
theorem yL (I:Inv X aa σ H s) (r:RelV x v) (ty:LG X.K T x H) :
 s.TypeIs v T∧∀ a,v=.ref a→∃ ob,s.heap.get? a=some ob∧ob.dict=none:=by
 cases x with
 | str z =>
  obtain ⟨t,rfl⟩:=r
  cases (show T="str" from ty)
  exact ⟨typeIs_str s z t,fun _ e=>nomatch e⟩
 | int i =>
  obtain ⟨t,rfl⟩:=r
  cases (show T="int" from ty)
  exact ⟨PV s i t,fun _ e=>nomatch e⟩
 | ref p =>
  cases r
  rcases ty with ⟨rfl,xs,hq⟩ | ⟨rfl,o,hk,hc,hd⟩ | ⟨rfl,hk⟩ | ⟨rfl,S,n,hk⟩
  ·obtain ⟨its,_,pl,_⟩:=I.list hq
   refine ⟨pl.isList.typeIs,fun a e=>?_⟩
   cases e
   obtain ⟨o,n,e,c,hd,_⟩:=pl
   exact ⟨o,e,hd⟩
  ·refine ⟨⟨o,I.nI p o hk,hc⟩,fun a e=>?_⟩
   cases e
   exact ⟨o,I.nI _ o hk,hd⟩
  ·have z:∃ o,s.heap.get? p=some o∧o.ExactDict:=by
    rcases hk with ⟨kvs,hk⟩ | ⟨kvs,hk⟩
    ·obtain ⟨_,_,_,_,o,_,_,e,ex,_⟩:=I.hok p _ hk
     exact ⟨o,e,ex⟩
    ·obtain ⟨_,_,_,_,o,_,_,e,ex,_⟩:=I.hok p _ hk
     exact ⟨o,e,ex⟩
   obtain ⟨o,e,ex⟩:=z
   refine ⟨⟨o,e,ex.1⟩,fun a e2=>?_⟩
   cases e2
   exact ⟨o,e,ex.2.1⟩
  ·obtain ⟨o,_,_,_,e,ex,_⟩:=I.hok p _ hk
   refine ⟨⟨o,e,ex.1⟩,fun a e2=>?_⟩
   cases e2
   exact ⟨o,e,ex.2.1⟩
 | _=>exact NK ty
noncomputable def LH (K:MI) (T:String) (r:V→List V→Hp→VK→Prop) (to:TE):TE:=fun σ H Q=>to σ H fun x H1=>LG K T x H1∧r x [] H1 Q
noncomputable def MC (K:MI) (T:String) (r:V→List V→Hp→VK→Prop) (to:TE) (t:TA):TE:=fun σ H Q=>to σ H fun x H1=>LG K T x H1∧t σ H1 fun xs H2=>r x xs H2 Q
variable {T id:String}
theorem Gi (pa:PlainAttrs T) (slot:Slot T name id) (hty:typeOf (.builtin id)=pure (.type "method_descriptor")) (hm:LB X id r) (ho:PE X o to)
 (hbase:attributeBase o name X.env (eval o X.env)=eval o X.env:=by rfl) (hline:(apos.endLine == cpos.line)=true:=by rfl):PE X (.Call (.Attribute o name apos) [] [] cpos) (LH X.K T r to):=by
 intro aa s σ H Q I h
 refine wpAny_Call_method0_late hbase hline (bw (ho aa s σ H _ I h) fun v s1 ⟨x,H1,I1,r1,ty,q1⟩=>?_)
 obtain ⟨h1,h2⟩:=yL I1 r1 ty
 exact ⟨T,id,pa,slot,hty,h1,h2,RS rfl (PySem.evalArgs_none (hm aa s1 σ H1 x [] v [] Q I1 r1 .nil q1))⟩
theorem EX (pa:PlainAttrs T) (slot:Slot T name id) (hty:typeOf (.builtin id)=pure (.type "method_descriptor")) (hm:LB X id r) (ho:PE X o to) (ha:PA X (e::es) t)
 (hbase:attributeBase o name X.env (eval o X.env)=eval o X.env:=by rfl)
 (hfew:((backTo cpos (starEach (e::es) X.env)).all (fun x=> !x.1) && (backToKw cpos (keywordEach [] X.env)).all (fun x=>x.1.isSome)
   && decide ((e::es).length+([]:List Keyword).length+(if ([]:List Keyword).isEmpty then 0 else 1)<30))=true:=by rfl)
 (hline:(apos.endLine == cpos.line)=true:=by rfl) (hs:starEach (e::es) X.env=(false,eval e X.env)::starEach es X.env:=by rfl) (hplain:(backTo cpos (starEach es X.env)).any (·.1)=false:=by rfl) :
 PE X (.Call (.Attribute o name apos) (e::es) [] cpos) (MC X.K T r to t):=by
 intro aa s σ H Q I h
 refine wpAny_Call_method_late hbase hfew hline rfl (bw (ho aa s σ H _ I h) fun v s1 ⟨x,H1,I1,r1,ty,q1⟩=>?_)
 obtain ⟨h1,h2⟩:=yL I1 r1 ty
 refine ⟨T,id,pa,slot,hty,h1,h2,?_⟩
 have hA:=ha cpos aa s1 σ H1 _ I1 q1
 rw [hs] at hA ⊢
 refine RS (by show (false || (backTo cpos (starEach es X.env)).any (·.1))=false; rw [hplain] <;> rfl) (Calls.evalArgs_plain ?_)
 exact bw hA fun us s2 ⟨vs,H2,I2,r2,q2⟩=>hm aa s2 σ H2 x vs v us Q I2 r1 r2 q2
end
noncomputable def Mi (X:Cx) (id:String) (r:V→List V→Hp→VK→Prop):Prop :=
 ∀ (aa:List (Addr×Obj)) (s:Shared) (σ:St) (H:Hp) (x:V) (xs:List V) (v:Value) (us:List Value) (Q:VK),Inv X aa σ H s→RelV x v→Vals xs us→r x xs H Q →
  wpAny (model X.prog X.w) X.A (call (.builtin id) (v::us)) (EP X aa σ Q) X.xe s
theorem Vals.one:∀ {x:V} {us:List Value},Vals [x] us→∃ u,us=[u]∧RelV x u
 | _,_,.cons r .nil=>⟨_,rfl,r⟩
theorem Vals.rep (h:Vals xs us):∀ k:Nat,Vals (MY k xs).flatten (MY k us).flatten
 | 0=>.nil
 | k+1=>by
  rw [Ou,Ou,O6,O6]
  exact Vals.append h (Vals.rep h k)
theorem foldl_rep (its):∀ (k:Nat) (acc:List Value),
 PY (fun x1 x2=>x1++x2) acc.toArray (MY k its.toArray)=(acc++(MY k its).flatten).toArray
 | 0,acc=>by simp
 | k+1,acc=>by
  have e:acc.toArray++its.toArray=(acc++its).toArray:=by simp
  have e2:(acc++its)++(MY k its).flatten=acc++(MY (k+1) its).flatten:=by
   rw [Ou,O6,Nb]
  rw [← e2,← foldl_rep its k (acc++its),← e,Ou,N9]
section
theorem Inv.sd {its its':List Value} (I:Inv X aa σ H s) (hH:H l=some (.lst xs))
 (e:s.heap.get? l=some { cls:=.type "list",data:=.seq its.toArray n }) (hf:f its.toArray=its'.toArray) (hv:Vals ys its') (hz:ys.length≤sizeLine) :
 Inv X aa σ (upd H l (.lst ys)) { s with heap:=s.heap.update l (Nn f),toks:=t' }:=by
 have q:=PySem.IsL.update e f
 rw [hf] at q
 refine I.write (x:=l) (e:=l) (by rw [hH]; exact trivial) (.inl rfl) (fun b' u hb hu=>(QK s.heap (Nn f) (M8 hb)).trans hu) ⟨_,q⟩ ?_
 exact ⟨hz,its',_,hv,q⟩
theorem Inv.CL (I:Inv X aa σ H s) (hv:Vals ys its) (hz:ys.length≤sizeLine) :
 Inv X aa σ (upd H s.heap.objs.size (.lst ys)) { s with heap:=s.heap.push { cls:=.type "list",data:=.seq its.toArray },toks:=t' } :=
 I.laid (fun _ _ q=>MQ _ q) (ML _) ⟨hz,its,0,hv,M3 _ rfl⟩
theorem Inv.fresh (I:Inv X aa σ H s):H s.heap.objs.size=none:=I.hok.fresh (ML _)
theorem Inv.pG (I:Inv X aa σ H s) (hH:H l=some (.lst xs)):xs.length≤sizeLine∧∃ (its:List Value) (n:Nat),Vals xs its∧xs.length=its.length∧s.heap.get? l=some { cls:=.type "list",data:=.seq its.toArray n }:=by
 obtain ⟨z,its,n,r,e⟩:=I.hok l _ hH
 exact ⟨z,its,n,r,r.length,e⟩
theorem yM (h:n≤sizeLine):RJ n=false:=by
 unfold RJ
 exact decide_eq_false (by lia)
end
section
noncomputable def CM:V→List V→Hp→VK→Prop:=fun x vs H Q=>∃ l xs y,x=.ref l∧vs=[y]∧H l=some (.lst xs)∧xs.length<sizeLine∧Q .non (upd H l (.lst (xs++[y])))
theorem mz:Mi X "list.append" CM:=by
 intro aa s σ H x vs v us Q I rx rv h
 obtain ⟨l,xs,y,rfl,rfl,hH,hz,q⟩:=h
 cases rx
 obtain ⟨u,rfl,ru⟩:=rv.one
 obtain ⟨z,its,n,r,hl,e⟩:=I.pG hH
 refine PX F.slot_list_append ⟨_,e,rfl⟩ F.entry_list_append (F.args_list_append_2 _ _) (PySem.list_append l its.toArray n u (by rw [M7]; lia)) ⟨e,?_⟩
 refine ⟨.non,_,I.sd (its':=its++[u]) hH e (by simp) (r.append (.cons ru .nil)) ?_,rfl,q⟩
 rw [Nr,QM]
 lia
noncomputable def LJ:R2:=fun x y H Q=>∃ l k xs,x=.ref l∧y=.int k∧H l=some (.lst xs)∧ -(2 ^ 63)≤k∧k<2 ^ 63∧xs.length * k.toNat≤sizeLine ∧
 ∀ p,H p=none→Q (.ref p) (upd H p (.lst (MY k.toNat xs).flatten))
theorem len_rep {α:Type} (xs:List α) (k):(MY k xs).flatten.length=k * xs.length:=by
 induction k with
 | zero=>simp
 | succ k ih=>rw [Ou,O6,Nr,ih,Qp,Nat.add_comm]
theorem Gj:eX X (binaryOp .Mult) LJ:=by
 intro aa s σ H x y v u Q I rx ry h
 obtain ⟨l,k,xs,rfl,rfl,hH,h1,h2,hz,q⟩:=h
 cases rx
 obtain ⟨t,rfl⟩:=ry
 obtain ⟨z,its,n,r,hl,e⟩:=I.pG hH
 have hlen:its.toArray.size * k.toNat≤sizeLine:=by rw [M7,← hl]; exact hz
 have hcap:¬ its.toArray.size * k.toNat>(2 ^ 63 - 1) / 8:=by
  have:(sizeLine:Nat)≤(2 ^ 63 - 1) / 8:=by decide
  lia
 have hfit:¬ (!Builtin.List.listFitsIndex k)=true:=by
  rw [fitsIndex_both h1 h2]
  exact MV
 have hlong:¬ RJ (its.toArray.size * k.toNat)=true:=by
  rw [yM hlen]
  exact MV
 have hnew:PY (fun x1 x2=>x1++x2) #[] (MY (if its.toArray.isEmpty=true then 0 else k.toNat) its.toArray)=(MY k.toNat its).flatten.toArray:=by
  have f0:∀ m:Nat,PY (fun x1 x2=>x1++x2) #[] (MY m its.toArray)=(MY m its).flatten.toArray:=fun m=>by
   have:=foldl_rep its m []
   rw [OO] at this
   exact this
  rw [f0]
  cases its with
  | nil=>simp
  | cons a r'=>rw [if_neg (by simp)]
 refine wpAny_binaryOp_repeat_ref (T:="list") (U:="int") (by decide) ⟨_,e,rfl⟩ (fun s'=>PV s' k t) noFill_list_mul F.fills_int_mul Rg repeat_list F.slot_int_index.lookup
  (PX Rg (PV s k t) F.entry_int_rmul (F.args_int_rmul_2 _ _) (int___rmul___int_list k t l its.toArray n)
    ⟨e,rfl,⟨_,e,rfl⟩,PX F.slot_list_mul ⟨_,e,rfl⟩ F.entry_list_mul (F.args_list_mul_2 _ _) (AutoListH.list___mul___list_int_3 l its.toArray n k t hfit hcap hlong) ⟨e,?_⟩⟩)
 rw [hnew]
 exact ⟨.ref _,_,I.CL (t':=s.toks) (r.rep k.toNat) (by rw [len_rep,Qq]; exact hz),rfl,q _ I.fresh⟩
end
section
end
section
end
section
variable {κ:Type} [DecidableEq κ]
noncomputable def ko (kvs:List (κ×V)) (k:κ):Option V:=(kvs.find? fun kv=>decide (kv.1=k)).map (·.2)
noncomputable def putK (kvs:List (κ×V)) (k:κ) (v:V):List (κ×V) :=
 if (kvs.any fun kv=>decide (kv.1=k))=true then kvs.map (fun kv=>if kv.1=k then (kv.1,v) else kv) else kvs++[(k,v)]
theorem kq {p:κ×V} {r:List (κ×V)} {k:κ} (e:p.1=k):ko (p::r) k=some p.2:=by simp [ko,Og,e]
theorem kr {p:κ×V} {r:List (κ×V)} {k:κ} (e:¬ p.1=k):ko (p::r) k=ko r k:=by simp [ko,Og,e]
theorem pH (k:κ):∀ kvs:List (κ×V),(kvs.any fun kv=>decide (kv.1=k))=(ko kvs k).isSome
 | []=>rfl
 | p::r=>by
  rw [List.any_cons]
  by_cases e:p.1=k
  ·simp only [kq e,decide_eq_true e,Bool.true_or,Option.isSome_some]
  ·rw [kr e,decide_eq_false e,Bool.false_or]; exact pH k r
theorem pI (kvs) (k:κ) (v):(putK kvs k v).length≤kvs.length+1:=by
 unfold putK
 split
 ·rw [MO]; lia
 ·rw [Nr,Nl,Oo]; lia
theorem jG.je (r:jG o u):o.isSome=u.isSome:=by
 cases o with
 | none=>cases u with
  | none=>rfl
  | some _=>exact (show False from r).elim
 | some _=>cases u with
  | none=>exact (show False from r).elim
  | some _=>rfl
theorem jG.getD (r:jG o u) (rd:RelV d d'):RelV (o.getD d) (u.getD d'):=by
 cases o with
 | none=>cases u with
  | none=>exact rd
  | some _=>exact (show False from r).elim
 | some _=>cases u with
  | none=>exact (show False from r).elim
  | some _=>exact r
theorem KV.val (r:KV kvs vs) (k:κ):jG (ko kvs k) (valueAt vs k):=by
 unfold KV at r
 induction r with
 | nil=>exact Oz
 | @cons p q ps qs h t ih =>
  obtain ⟨h1,h2⟩:=h
  by_cases e:p.1=k
  ·have e':q.1=k:=h1.symm.trans e
   have b:valueAt (q::qs) k=some q.2:=by simp [valueAt,Og,e']
   rw [kq e,b]; exact h2
  ·have e':¬ q.1=k:=fun z=>e (h1.trans z)
   have b:valueAt (q::qs) k=valueAt qs k:=by simp [valueAt,Og,e']
   rw [kr e,b]; exact ih
theorem KV.any (r:KV kvs vs) (k:κ):(kvs.any fun kv=>decide (kv.1=k))=vs.any fun kv=>decide (kv.1=k):=by
 unfold KV at r
 induction r with
 | nil=>rfl
 | cons h t ih=>rw [List.any_cons,List.any_cons,ih,h.1]
theorem KV.repl (r:KV kvs vs) (k:κ) (ry:RelV y u) :
 KV (kvs.map fun kv=>if kv.1=k then (kv.1,y) else kv) (vs.map fun kv=>if kv.1=k then (kv.1,u) else kv):=by
 unfold KV at r ⊢
 induction r with
 | nil=>exact .nil
 | @cons p q ps qs h t ih =>
  rw [MN,MN]
  refine .cons ?_ ih
  obtain ⟨h1,h2⟩:=h
  by_cases e:p.1=k
  ·rw [if_pos e,if_pos (h1.symm.trans e)]; exact ⟨h1,ry⟩
  ·rw [if_neg e,if_neg (fun z=>e (h1.trans z))]; exact ⟨h1,h2⟩
theorem KV.put (r:KV kvs vs) (k:κ) (ry:RelV y u):KV (putK kvs k y) (stored vs k u):=by
 unfold putK stored
 rw [r.any k]
 by_cases e:(vs.any fun kv=>decide (kv.1=k))=true
 ·rw [if_pos e,if_pos e]; exact r.repl k ry
 ·rw [if_neg e,if_neg e]; exact Rx r ⟨rfl,ry⟩
theorem KV.length {kvs:List (κ×V)} {vs:List (κ×Value)} (r:KV kvs vs):kvs.length=vs.length:=N4 r
end
theorem pJ (r:RelV (kV k) u):(bR P w).is k u=true:=by
 cases k with
 | inl i=>obtain ⟨t,e⟩:=(show ∃ t,u=Qw i t from r); subst e; exact pq P w i t
 | inr x=>obtain ⟨t,e⟩:=(show ∃ t,u=Qv x t from r); subst e; exact pA P w x t
theorem mC:∀ {ks:List Key} {us:List Value},Vals (ks.map kV) us→ItemsAre (bR P w) ks us
 | [],_,r=>by rw [PN] at r; cases r; exact .nil
 | k::ks,_,r=>by
  rw [MN] at r
  cases r with
  | cons h t=>exact .cons (pJ h) (mC t)
noncomputable abbrev KT:List (List Key×Addr×V)→List (List Key×Addr×Value)→Prop:=Paired fun p q=>p.1=q.1∧p.2.1=q.2.1∧RelV p.2.2 q.2.2
noncomputable def atT (kvs:List (List Key×Addr×V)) (k:List Key):Option V:=(kvs.find? fun kv=>decide (kv.1=k)).map (·.2.2)
noncomputable def nO (k:List Key) (v:V) (x:List Key×Addr×V):List Key×Addr×V:=if x.1=k then (x.1,x.2.1,v) else x
noncomputable def pK (kvs:List (List Key×Addr×V)) (k:List Key) (b:Addr) (v:V):List (List Key×Addr×V) :=
 if (atT kvs k).isSome=true then kvs.map (nO k v) else kvs++[(k,b,v)]
theorem pM (kvs) (k) (b) (v):(pK kvs k b v).length≤kvs.length+1:=by
 unfold pK
 split
 ·rw [MO]; lia
 ·rw [Nr,Nl,Oo]; lia
theorem KT.val (r:KT kvs xs) (k):jG (atT kvs k) ((atKey xs k).map (·.2)):=by
 induction r with
 | nil=>exact Oz
 | @cons p q ps qs h t ih =>
  obtain ⟨h1,_,h2⟩:=h
  by_cases e:p.1=k
  ·have e':q.1=k:=h1.symm.trans e
   have b:atKey (q::qs) k=some q.2:=by simp [atKey,Og,e']
   have b2:atT (p::ps) k=some p.2.2:=by simp [atT,Og,e]
   rw [b2,b]; exact h2
  ·have e':¬ q.1=k:=fun z=>e (h1.trans z)
   have b:atKey (q::qs) k=atKey qs k:=by simp [atKey,Og,e']
   have b2:atT (p::ps) k=atT ps k:=by simp [atT,Og,e]
   rw [b2,b]; exact ih
theorem KT.repl (r:KT kvs xs) (k) (ry:RelV y u) :
 KT (kvs.map (nO k y)) (xs.map (putAt k u)):=by
 induction r with
 | nil=>exact .nil
 | @cons p q ps qs h t ih =>
  rw [MN,MN]
  refine .cons ?_ ih
  obtain ⟨h1,h2,h3⟩:=h
  unfold putAt nO
  by_cases e:p.1=k
  ·rw [if_pos e,if_pos (h1.symm.trans e)]; exact ⟨h1,h2,ry⟩
  ·rw [if_neg e,if_neg (fun z=>e (h1.trans z))]; exact ⟨h1,h2,h3⟩
theorem KT.put (r:KT kvs xs) (k) (ry:RelV y u) :
 KT (pK kvs k b y) (storedH xs k b u):=by
 have e:(atT kvs k).isSome=(atKey xs k).isSome:=by
  rw [(r.val k).je,O5]
 unfold pK storedH
 rw [e]
 by_cases q:(atKey xs k).isSome=true
 ·rw [if_pos q,if_pos q]; exact r.repl k ry
 ·rw [if_neg q,if_neg q]; exact Rx r ⟨rfl,rfl,ry⟩
section
theorem yN (ok:ja P w H h) (e:Rd H a u):aX P w H h a u:=e.ok ok
theorem mD (ok:ja P w H h) (e:Rd H a (.dK kvs)):kvs.length≤sizeLine∧(a == sysModules)=false∧∃ vs,KV kvs vs∧h.DictOf (bR P w) a vs :=
 show aX P w H h a (.dK kvs) from yN ok e
theorem Jx (ok:ja P w H h) (e:H a=some (.dK kvs)):kvs.length≤sizeLine∧(a == sysModules)=false∧∃ vs,KV kvs vs∧h.DictOf (bR P w) a vs:=mD ok (.inl e)
end
section
theorem ku (I:Inv X aa σ H s) (e:cQ X.K H a (ks.map kV)):(tupleKind (bR X.prog X.w)).is s.heap ks a:=by
 obtain ⟨its,r,⟨o,h1,h2,n,h3⟩,_⟩:=I.tuple e
 exact ⟨o,its.toArray,n,h1,h2,h3,by simpa using mC r⟩
theorem pN (I:Inv X aa σ H s) (e:Rd H a (.dT kvs)) (hk:∀ x∈kvs,cQ X.K H x.2.1 (x.1.map kV)):kvs.length≤sizeLine∧(a == sysModules)=false ∧
 ∃ xs,KT kvs xs∧s.heap.DictOfH (tupleKind (bR X.prog X.w)) a xs:=by
 obtain ⟨z,y,xs,r,o,es,ep,h1,h2,h3,h4,h5⟩:=(show aX X.prog X.w H s.heap a (.dT kvs) from yN I.hok e)
 refine ⟨z,y,xs,r,o,es,ep,h1,h2,h3,h4,?_,h5⟩
 have all:∀ {l:List (List Key×Addr×V)} {m:List (List Key×Addr×Value)},KT l m→(∀ x∈l,cQ X.K H x.2.1 (x.1.map kV))→∀ x∈m,(tupleKind (bR X.prog X.w)).is s.heap x.1 x.2.1:=by
  intro l m q
  induction q with
  | nil=>intro _ x hx; exact nomatch hx
  | @cons p q ps qs hq t ih =>
   intro hl x hx
   rcases M0.mp hx with e | hx
   ·subst e
    rw [← hq.1,← hq.2.1]
    exact ku I (hl p MW)
   ·exact ih (fun y hy=>hl y (MX _ hy)) x hx
 exact all r hk
end
noncomputable def nP (K:MI) (H:Hp) (a:Addr) (y:V) (r:Option V):Prop :=
 (∃ kvs k,Rd H a (.dK kvs)∧y=kV k∧r=ko kvs k)∨∃ kvs k b,Rd H a (.dT kvs)∧(∀ x∈kvs,cQ K H x.2.1 (x.1.map kV))∧y=.ref b∧cQ K H b (k.map kV)∧r=atT kvs k
noncomputable def CN (K:MI) (H:Hp) (a:Addr) (y v:V) (H':Hp):Prop :=
 (∃ kvs k,H a=some (.dK kvs)∧y=kV k∧kvs.length<sizeLine∧H'=upd H a (.dK (putK kvs k v))) ∨
 ∃ kvs k b,H a=some (.dT kvs)∧(∀ x∈kvs,cQ K H x.2.1 (x.1.map kV))∧y=.ref b∧cQ K H b (k.map kV)∧kvs.length<sizeLine∧H'=upd H a (.dT (pK kvs k b v))
section
theorem Inv.big (I:Inv X aa σ H s):sysModules<s.heap.objs.size:=by
 have h:mainGlobals<s.heap.objs.size:=(I.mod.glob.keeps I.bk).lt
 exact Nat.lt_trans (by decide) h
theorem mE (hu:A.units+1<cLine) (I:Inv X aa σ H s) (g:nP X.K H a y (some v)) (ry:RelV y u) (h:∀ w' s',Inv X aa σ H s'→RelV v w'→Q w' s') :
 wpAny (model X.prog X.w) A (getItem (.ref a) u) Q E s:=by
 rcases g with ⟨kvs,k,e,ey,l⟩ | ⟨kvs,k,b,e,hk,ey,eb,l⟩
 ·subst ey
  obtain ⟨z,hd,vs,rel,dd⟩:=mD I.hok e
  obtain ⟨w',hw,rw'⟩:=jG.some_of (v:=v) (o:=valueAt vs k) (by rw [l]; exact rel.val k)
  exact wpAny_getItem_of (pJ ry) dd.mapOf hw (h w' _ (I.tok _) rw')
 ·subst ey
  cases (show u=Nc b from ry)
  obtain ⟨z,hd,xs,rel,dd⟩:=pN I e hk
  obtain ⟨w',hw,rw'⟩:=jG.some_of (v:=v) (o:=(atKey xs k).map (·.2)) (by rw [l]; exact rel.val k)
  obtain ⟨p,hp,hp2⟩:=MZ.mp hw
  refine wpAny_getItem_heap (QV hu) (ku I eb) dd hp ?_
  rw [hp2]
  exact h w' _ (I.tok _) rw'
theorem LK (hu:A.units+1<cLine) (I:Inv X aa σ H s) (g:nP X.K H a y o) (ry:RelV y u) (h:∀ s',Inv X aa σ H s'→Q (.bool o.isSome) s') :
 wpAny (model X.prog X.w) A (compareOp .In u (.ref a)) Q E s:=by
 rcases g with ⟨kvs,k,e,ey,l⟩ | ⟨kvs,k,b,e,hk,ey,eb,l⟩
 ·subst ey
  obtain ⟨z,hd,vs,rel,dd⟩:=mD I.hok e
  refine wpAny_in_of (pJ ry) hd dd.mapOf ?_
  rw [← (rel.val k).je,← l]
  exact h _ (I.tok _)
 ·subst ey
  cases (show u=Nc b from ry)
  obtain ⟨z,hd,xs,rel,dd⟩:=pN I e hk
  refine wpAny_in_heap (QV hu) (ku I eb) hd dd ?_
  have q:=(rel.val k).je
  rw [O5] at q
  rw [← q,← l]
  exact h _ (I.tok _)
theorem uB (I:Inv X aa σ H s) (mu:IZ (H a)) (hs:Ov a s.heap h') (he:∃ q,h'.get? a=some q) (new:aX X.prog X.w (upd H a ob) h' a ob) :
 Inv X aa σ (upd H a ob) { s with heap:=h',toks:=t' } :=
 I.write (x:=a) (e:=a) mu (.inl rfl) (fun b q hb z=>(hs.2 b hb).trans z) he new
theorem Gk (z:kvs.length≤sizeLine) (hd:(a == sysModules)=false) (rel:KV kvs vs) (dd:h'.DictOf (bR P w) a vs) :
 aX P w H' h' a (.dK kvs):=⟨z,hd,vs,rel,dd⟩
theorem mF (hu:A.units+1<cLine) (I:Inv X aa σ H s) (g:CN X.K H a y v H') (ry:RelV y u) (rv:RelV v r) (h:∀ s',Inv X aa σ H' s'→Q () s') :
 wpAny (model X.prog X.w) A (setItem (.ref a) u r) Q E s:=by
 rcases g with ⟨kvs,k,e,ey,l,eH⟩ | ⟨kvs,k,b,e,hk,ey,eb,l,eH⟩
 ·subst ey eH
  obtain ⟨z,hd,vs,rel,dd⟩:=Jx I.hok e
  have hz:vs.length≤sizeLine:=by rw [← rel.length]; exact z
  have hl:(putK kvs k v).length≤sizeLine:=by have:=pI kvs k v; lia
  refine wpAny_setItem_pairs (hsz:=hz) (pJ ry) dd fun h' dd' hs=>h _ ?_
  have he:∃ q,h'.get? a=some q:=let ⟨q,_,_,hq,_⟩:=dd'; ⟨q,hq⟩
  exact uB I (by rw [e]; exact Oz) hs he (Gk hl hd (rel.put k rv) dd')
 ·subst ey eH
  cases (show u=Nc b from ry)
  obtain ⟨z,hd,xs,rel,dd⟩:=pN I (.inl e) hk
  have hz:xs.length≤sizeLine:=by rw [← N4 rel]; exact z
  have hl:(pK kvs k b v).length≤sizeLine:=by have:=pM kvs k b v; lia
  refine wpAny_setItem_heap (hsz:=hz) (QV hu) (ku I eb) dd fun h' dd' hs=>h _ ?_
  obtain ⟨q,es,ep,hq,h2,h3,h4,_,h5⟩:=dd'
  exact uB I (by rw [e]; exact Oz) hs ⟨q,hq⟩ ⟨hl,hd,_,rel.put k rv,q,es,ep,hq,h2,h3,h4,h5⟩
end
section
end
noncomputable def CO (i:Expr):Prop:=∀ ov iv,subscripted i false ov iv=operate [ov,iv] (getItem ov iv)
theorem CP {T id:String}
 (hl:typeLookup (.type T) "__getitem__"=pure (some (.builtin id))) (hs:CO slice)
 (h:wpAny (model prog w) A (eval value env) (fun o s₁=>wpAny (model prog w) A (eval slice env) (fun i s₂=>s₂.TypeIs o T∧wpAny (model prog w) A (getItem o i) Q E s₂) E s₁) E s) :
 wpAny (model prog w) A (eval (.Subscript value slice pos) env) Q E s:=by
 refine Subscript_ (Nv h (fun o s₁ h₁=>Nv h₁ (fun i s₂ h₂=>?_) fun _ _ x=>x) fun _ _ x=>x)
 obtain ⟨hT,h₂⟩:=h₂
 unfold subscriptTail
 refine MG ?_
 rw [getitemInPython_of_ne hT.not_modules]
 refine MG (wpAny_specialOf hT hl ?_)
 have fin:wpAny (model prog w) A (subscripted slice false o i) (fun r s₃=>wpAny (model prog w) A (letTemporaryGo value o r >>= fun _=>pure r) Q E s₃) E s₂:=by
  rw [hs o i]
  exact wpAny_operating (Nv h₂ (fun r s₃ h₃=>MG (wpAny_letTemporaryGo (MJ h₃))) fun _ _ x=>x)
 first
  | exact MJ (MG fin)
  | exact MG (MJ (MG fin))
  | exact MG fin
theorem pO (I:Inv X aa σ H s) (g:nP X.K H a y o):s.TypeIs (.ref a) "dict":=by
 rcases g with ⟨kvs,k,e,_,_⟩ | ⟨kvs,k,b,e,hk,_,_,_⟩
 ·obtain ⟨_,_,vs,_,dd⟩:=mD I.hok e
  exact dd.typeIs
 ·obtain ⟨_,_,xs,_,dd⟩:=pN I e hk
  exact dd.typeIs
noncomputable def Jy (X:Cx) (td ty:TE):TE:=fun σ H Q=>td σ H fun x H1=>ty σ H1 fun y H2=>∃ a v,x=.ref a∧nP X.K H2 a y (some v)∧Q v H2
noncomputable def LL (X:Cx) (ty td:TE):TE:=fun σ H Q=>ty σ H fun y H1=>td σ H1 fun x H2=>∃ a o,x=.ref a∧nP X.K H2 a y o∧Q (.bl o.isSome) H2
noncomputable def Jz (X:Cx) (td ty tv:TE):TS:=fun D σ H=>tv σ H fun v H1=>td σ H1 fun x H2=>ty σ H2 fun y H3=>∃ a H4,x=.ref a∧CN X.K H3 a y v H4∧D.nx σ H4
noncomputable def JA (X:Cx) (td ty tv:TE) (rd:V→V→Hp→VK→Prop):TS:=fun D σ H=>td σ H fun x H1=>ty σ H1 fun y H2=>∃ a v,x=.ref a∧nP X.K H2 a y (some v) ∧
 tv σ H2 fun y2 H3=>rd v y2 H3 fun z H4=>∃ H5,CN X.K H4 a y z H5∧D.nx σ H5
section
theorem uC (hu:X.A.units+1<cLine) (ho:PE X o td) (hi:PE X i ty) (hs:CO i):PE X (.Subscript o i pos) (Jy X td ty):=by
 intro aa s σ H Q I h
 refine CP PySem.F.slot_dict_getitem.lookup hs (bw (ho aa s σ H _ I h) fun u s1 ⟨x,H1,I1,rx,q1⟩=>bw (hi aa s1 σ H1 _ I1 q1) fun iv s2 ⟨y,H2,I2,ry,a,v,ex,g,q2⟩=>?_)
 subst ex
 obtain rfl:u=Nc a:=rx
 exact ⟨pO I2 g,mE hu I2 g ry fun w' s3 I3 rw'=>⟨v,H2,I3,rw',q2⟩⟩
theorem Gm (hu:X.A.units+1<cLine) (hi:PE X i ty) (ho:PE X o td):PC X .In i o (LL X ty td):=by
 intro aa s σ H Q I h
 refine bw (hi aa s σ H _ I h) fun iv s1 ⟨y,H1,I1,ry,q1⟩=>bw (ho aa s1 σ H1 _ I1 q1) fun u s2 ⟨x,H2,I2,rx,a,ov,ex,g,q2⟩=>?_
 subst ex
 obtain rfl:u=Nc a:=rx
 exact LK hu I2 g ry fun s3 I3=>⟨.bl ov.isSome,H2,I3,rfl,q2⟩
theorem CQ (hu:X.A.units+1<cLine) (ho:PE X o td) (hi:PE X i ty) (hv:PE X value tv) (hs:swapsWith value (some (.Subscript o i pos')) pos.line X.env=pure false) :
 PS X (.Assign [.Subscript o i pos'] value pos) (Jz X td ty tv):=by
 intro aa s σ H D I h
 refine wpAny_Assign_Subscript (bw (hv aa s σ H _ I h) fun r s1 ⟨v,H1,I1,rv,q1⟩=>bw (ho aa s1 σ H1 _ I1 q1) fun u s2 ⟨x,H2,I2,rx,q2⟩=>bw (hi aa s2 σ H2 _ I2 q2) fun iv s3 ⟨y,H3,I3,ry,a,H4,ex,g,q3⟩=>?_) hs
 subst ex
 obtain rfl:u=Nc a:=rx
 exact mF hu I3 g ry rv fun s4 I4=>⟨σ,H4,I4,q3⟩
theorem CS (hu:X.A.units+1<cLine) (ho:PE X o td) (hi:PE X i ty) (hv:PE X value tv) (hop:Jt X op rd)
 (ha:∀ ov iv new,augStore i ov iv new=(do holding [new,ov,iv] (setItem ov iv new); release [new,ov,iv] []; pure .next)):PS X (.AugAssign (.Subscript o i tpos) op value pos) (JA X td ty tv rd):=by
 intro aa s σ H D I h
 refine wpAny_AugAssign_SubscriptAny (bw (ho aa s σ H _ I h) fun u s1 ⟨x,H1,I1,rx,q1⟩=>bw (hi aa s1 σ H1 _ I1 q1) fun iv s2 ⟨y,H2,I2,ry,a,v,ex,g,q2⟩=>?_) ha
 subst ex
 obtain rfl:u=Nc a:=rx
 refine mE hu I2 g ry fun w' s3 I3 rw'=>bw (hv aa s3 σ H2 _ I3 q2) fun w2 s4 ⟨y2,H3,I4,ry2,q3⟩=>bw (hop aa s4 σ H3 v y2 w' w2 _ I4 rw' ry2 q3) fun w3 s5 ⟨z,H4,I5,rz,H5,g5,q4⟩=>?_
 exact mF hu I5 g5 ry rz fun s6 I6=>⟨σ,H5,I6,q4⟩
end
theorem yO (h:Heap) (hb:sysModules<h.objs.size):aX P w H (h.push { cls:=.type "dict",data:=.dict #[] }) h.objs.size (.dK []) :=
 ⟨Nu _,beq_eq_false_iff_ne.mpr (M8 (Nh hb)),[],.nil,Heap.DictOf.new h⟩
theorem yP (h:Heap) (hb:sysModules<h.objs.size):aX P w H (h.push { cls:=.type "dict",data:=.dict #[] }) h.objs.size (.dT []) :=
 ⟨Nu _,beq_eq_false_iff_ne.mpr (M8 (Nh hb)),[],.nil,_,#[],0,M3 _ rfl,⟨rfl,rfl,rfl⟩,rfl,rfl,List.nodup_nil⟩
noncomputable def Gn:TE:=fun _ H Q=>∀ p,H p=none→Q (.ref p) (upd H p (.dK []))
noncomputable def Gp:TE:=fun _ H Q=>∀ p,H p=none→Q (.ref p) (upd H p (.dT []))
section
theorem yQ:PE X (.Dict [] [] pos) Gn:=fun aa s σ H Q I h =>
 wpAny_Dict_empty ⟨.ref s.heap.objs.size,_,I.laid (a:=s.heap.objs.size) (o:=.dK []) (t':=s.toks) (fun _ _ q=>MQ _ q) (ML _) (yO s.heap I.big),rfl,h _ (I.hok.fresh (ML _))⟩
theorem yR:PE X (.Dict [] [] pos) Gp:=fun aa s σ H Q I h =>
 wpAny_Dict_empty ⟨.ref s.heap.objs.size,_,I.laid (a:=s.heap.objs.size) (o:=.dT []) (t':=s.toks) (fun _ _ q=>MQ _ q) (ML _) (yP s.heap I.big),rfl,h _ (I.hok.fresh (ML _))⟩
end
structure M1 (X:Cx) (o:Expr) (m:Str) (apos:Pos) (e:Expr) (cpos:Pos):Prop where
 base:attributeBase o m X.env (eval o X.env)=eval o X.env
 few:((backTo cpos (starEach [e] X.env)).all (fun x=> !x.1) && (backToKw cpos (keywordEach [] X.env)).all (fun x=>x.1.isSome)
  && decide (([e]:List Expr).length+([]:List Keyword).length+(if ([]:List Keyword).isEmpty then 0 else 1)<30))=true
 line:(apos.endLine == cpos.line)=true
 trees:backTo cpos (starEach [e] X.env)=[(false,eval e X.env)]
structure M2 (X:Cx) (o:Expr) (m:Str) (apos:Pos) (e f:Expr) (cpos:Pos):Prop where
 base:attributeBase o m X.env (eval o X.env)=eval o X.env
 few:((backTo cpos (starEach [e,f] X.env)).all (fun x=> !x.1) && (backToKw cpos (keywordEach [] X.env)).all (fun x=>x.1.isSome)
  && decide (([e,f]:List Expr).length+([]:List Keyword).length+(if ([]:List Keyword).isEmpty then 0 else 1)<30))=true
 line:(apos.endLine == cpos.line)=true
 trees:backTo cpos (starEach [e,f] X.env)=[(false,eval e X.env),(false,eval f X.env)]
noncomputable def LM (H:Hp) (a:Addr):Prop:=(∃ kvs,Rd H a (.dK kvs))∨∃ kvs,Rd H a (.dT kvs)
theorem Gq (I:Inv X aa σ H s) (d:LM H a) :
 s.TypeIs (.ref a) "dict"∧(∀ b,Nc a=.ref b→∃ ob,s.heap.get? b=some ob∧ob.dict=none)∧(a == sysModules)=false:=by
 rcases d with ⟨kvs,e⟩ | ⟨kvs,e⟩
 ·obtain ⟨_,hd,vs,_,dd⟩:=mD I.hok e
  refine ⟨dd.typeIs,fun b q=>?_,hd⟩
  cases q
  obtain ⟨ob,_,_,h1,h2,_⟩:=dd
  exact ⟨ob,h1,h2.2.1⟩
 ·obtain ⟨_,hd,xs,_,ob,es,ep,h1,h2,_⟩:=(show aX X.prog X.w H s.heap a (.dT kvs) from yN I.hok e)
  refine ⟨⟨ob,h1,h2.1⟩,fun b q=>?_,hd⟩
  cases q
  exact ⟨ob,h1,h2.2.1⟩
section
theorem Gr (hu:A.units+1<cLine) (I:Inv X aa σ H s) (g:nP X.K H a y o) (ry:RelV y u) (rd:RelV d r) (h:∀ w' s',Inv X aa σ H s'→RelV (o.getD d) w'→Q w' s') :
 wpAny (model X.prog X.w) A (call (.builtin "dict.get") [.ref a,u,r]) Q E s:=by
 rcases g with ⟨kvs,k,e,ey,l⟩ | ⟨kvs,k,b,e,hk,ey,eb,l⟩
 ·subst ey
  obtain ⟨z,hd,vs,rel,dd⟩:=mD I.hok e
  refine call_meetsIn RU dd.typeIs PySem.F.entry_dict_get (PySem.F.args_dict_get_3 _ _ _) (meets_dict_get_default (bR X.prog X.w) a (pJ ry) hd r) ⟨_,dd.mapOf,h _ _ (I.tok _) ?_⟩
  rw [l]
  exact (rel.val k).getD rd
 ·subst ey
  cases (show u=Nc b from ry)
  obtain ⟨z,hd,xs,rel,dd⟩:=pN I e hk
  refine call_meetsIn RU dd.typeIs PySem.F.entry_dict_get (PySem.F.args_dict_get_3 _ _ _) (meetsH_dict_get_default (tupleKind (bR X.prog X.w)) a b hd r) ⟨QV hu,k,xs,ku I eb,dd,h _ _ (I.tok _) ?_⟩
  rw [l]
  exact (rel.val k).getD rd
end
noncomputable def Gs (X:Cx) (td ty tx:TE):TE:=fun σ H Q=>td σ H fun x H1=>∃ a,x=.ref a∧LM H1 a∧ty σ H1 fun y H2=>tx σ H2 fun z H3=>∃ o,nP X.K H3 a y o∧Q (o.getD z) H3
section
theorem yS (hu:X.A.units+1<cLine) (ho:PE X o td) (he:PE X e ty) (hf:PE X f tx) (m:M2 X o "get" apos e f cpos):PE X (.Call (.Attribute o "get" apos) [e,f] [] cpos) (Gs X td ty tx):=by
 intro aa s σ H Q I h
 refine wpAny_Call_method m.base m.few m.line PySem.F.plainAttrs_dict RU PySem.F.type_dict_get (bw (ho aa s σ H _ I h) fun u s1 ⟨x,H1,I1,rx,a,ex,d,q1⟩=>?_)
 subst ex
 obtain rfl:u=Nc a:=rx
 obtain ⟨t1,t2,_⟩:=Gq I1 d
 refine ⟨t1,t2,?_⟩
 rw [m.trees]
 refine RS rfl (Calls.evalArgs_plain (R5 (bw (he aa s1 σ H1 _ I1 q1) fun iv s2 ⟨y,H2,I2,ry,q2⟩ =>
  R5 (bw (hf aa s2 σ H2 _ I2 q2) fun fv s3 ⟨z,H3,I3,rz,ov,g,q3⟩=>Calls.spliced_nil ?_))))
 exact Gr hu I3 g ry rz fun w' s4 I4 rw'=>⟨_,H3,I4,rw',q3⟩
end
section
end
section
end
end L2
namespace Att
open PySem PySem.W PySem.Calls PyProof.Rows
theorem jH:∀ (ns:List Int) (vs:List Value),WellAll P h vs (ns.map WData.int)→IntsAre vs ns:=by
 intro ns
 induction ns with
 | nil =>
  intro vs w
  rw [PN] at w
  cases w
  exact .nil
 | cons n ns ih =>
  intro vs w
  rw [MN] at w
  cases w with
  | cons a b =>
   cases a
   exact .cons _ _ (ih _ b)
theorem wm {l:OpenLaw} (hn:l.most=some n)
 (hpre:l.row.toRowW.claim.pre args=true) (hwl:WellAll P h vals args) :
 ∃ a vs ns,vals=[Nc a]∧args=[WData.list (ns.map WData.int)]∧h.get? a=some { cls:=.type "list",data:=.seq vs.toArray }∧IntsAre vs ns∧ns.length≤n:=by
 have hsh:WShape.hasAll [] args [.list .int]=true:=(pre_splitW hpre).1
 have hc:l.pre.holds [] { args:=args }=true:=(pre_splitW hpre).2
 obtain ⟨d,r,rfl,h1,h2⟩:=hasAllW_cons hsh
 obtain rfl:=hasAllW_nil h2
 obtain ⟨xs,rfl,h3⟩:=hasW_list h1
 obtain ⟨ns,rfl⟩:=items_int h3
 have hlen:ns.length≤n:=by
  unfold OpenLaw.pre at hc
  have h4:(WTm.not (.lt (.lit (.int (n:Int))) (.len (.arg 0)))).holds [] { args:=[.list (ns.map .int)] }=true:=by
   have h4:=(holds_andW hc).1
   rw [hn] at h4
   exact h4
  have h5:=condW_of h4 (w_not (w_lt w_lit (w_len_list (w_arg rfl))))
  rw [MO] at h5
  refine Nat.le_of_not_lt fun q=>?_
  have q':(n:Int)<((ns.length:Nat):Int):=by lia
  first
   | (rw [decide_eq_true q'] at h5; exact absurd h5 (by decide))
   | (simp at h5; lia)
 cases hwl with
 | cons w1 w2 =>
  cases w2
  cases w1 with
  | list ho hall=>exact ⟨_,_,ns,rfl,rfl,ho,jH ns _ hall,hlen⟩
theorem wo (l:OpenLaw) (args):l.row.toRowW.claim.post args (.bool true) args=true :=
 postW_of (r:=l.row.toRowW) (X:=(true == true))
  (show WShape.has [] (.bool true) .bool=true by first | rfl | decide | simp [WShape.has,WShape.arms,WShape.armsAll])
  (show (WTm.eq .res (.lit (.bool true))).value [] { args:=args,res:=some (.bool true),after:=args }=some (.bool (true == true)) from w_eq_bool (w_res rfl) w_lit) rfl
theorem pP {l:OpenLaw}
 (hn:l.most=some n) (hdf:d.params.defaults=[])
 (call:∀ (w:World) (s₀ s₁:Shared) (mg mb:Str→Option Value) (fa:Addr) (o:Obj) (pm cd doc:Value) (a:Addr) (vs:List Value) (ns:List Int),
   Ground q loose [] XP w s₀ mg mb s₁.heap→YP w s₁.heap →
   s₁.heap.get? fa=some o→o.data=.func (docDef d.name d.params d.body d.scope pm cd doc)→s₁.heap.CodeRec cd d.name→mg d.name=some (.ref fa) →
   s₁.heap.get? a=some { cls:=.type "list",data:=.seq vs.toArray }→IntsAre vs ns→ns.length≤n→s₁.gens= #[] →
   codeAny (model l.prog w) callerA (.call (.ref fa) ⟨[.ref a],[]⟩) (fun r s'=>r=.ok (.ret (.bool true))∧OldK s₁.heap s'.heap∧s'.os=s₁.os∧AllBare s'.gens) s₁) :
 WalkO q loose XP YP l.row.toRowW d [] (fun f vs=>PySem.call f vs):=by
 intro w s₀ s₁ mg mb G Y fa o pm cd doc dV kV ho hd hcd hD hmg hg args vals as hpre hlay hrd hwl hlo
 obtain rfl:dV=.none:=Dflts.none hD hdf
 obtain rfl:kV=.none:=Dflts.noKw hD
 obtain ⟨a,vs,ns,rfl,rfl,hobj,hints,hlen⟩:=wm hn hpre hwl
 refine enter_call (PK (call w s₀ s₁ mg mb fa o pm cd doc a vs ns G Y ho (fd_plain hd) hcd hmg hobj hints hlen hg) fun r s' hq=>?_)
 obtain ⟨rfl,h2,h3,h4⟩:=hq
 exact ⟨.inl ⟨.bool true,.bool true,[],rfl,fun _=>rfl,.bool true,wo l _,fun _=>⟨Qa,fun _ hm=>(nomatch hm)⟩⟩,h2,h3,h4⟩
section
end
end Att
namespace L2
open PySem PySem.Spec PyProof.Rows
theorem mG:∀ {vs:List Value} {ns:List Int},IntsAre vs ns→Vals (ns.map V.int) vs
 | _,_,.nil=>.nil
 | _,_,.cons n t h=>.cons ⟨t,rfl⟩ (mG h)
noncomputable def Gu (H:Hp):Prop:=∀ b,H b=none∨∃ o xs,H b=some (.frz o (.lst xs))
theorem yT {K:MI}
 (KX:K.In s₁.heap) (hns:s₁.heap.Ns mainGlobals mg) (hb:s₁.heap.Ns builtinsNs mb) (hbb:∀ x:Str,x≠"__name__"→mb x=bootBuiltins x) (hlim:s₁.heap.NoLimit) (hg:s₁.gens= #[])
 (ha:s₁.heap.get? a=some { cls:=.type "list",data:=.seq vs.toArray }) (hi:IntsAre vs ns) (hl:ns.length≤sizeLine) (hr:gI k callerA)
 (F:∀ base:Heap,K.In base→base.Ns mainGlobals mg→bz P w K mg base CX k fa fd [x] sp) (hbind:∀ (s:Shared) (u:Value),BindsTo s fd ⟨[u],[]⟩ [(x,u)])
 (pe:∀ H:Hp,Gu H→gu K H a (ns.map V.int)→sp [.ref a] H (fun v _=>v=.bl true) fun _ _ _=>False)
 (hCX:∀ H e s',CX [] H s₁ (fun _ _ _=>False) e s'→False) :
 codeAny (model P w) callerA (.call (.ref fa) ⟨[.ref a],[]⟩) (fun r s'=>r=.ok (.ret (.bool true))∧OldK s₁.heap s'.heap∧s'.os=s₁.os∧AllBare s'.gens) s₁:=by
 have rv:=mG hi
 have lenV:=hi.length
 have core:∀ H:Hp,Gu H→gu K H a (ns.map V.int)→ja P w H s₁.heap→(∀ b,H b≠none→b=a)→(H a≠none→K.lookup a=none) →
  codeAny (model P w) callerA (.call (.ref fa) ⟨[.ref a],[]⟩) (fun r s'=>r=.ok (.ret (.bool true))∧OldK s₁.heap s'.heap∧s'.os=s₁.os∧AllBare s'.gens) s₁:=by
  intro H hO hS hok hA hK
  have base_of:∀ {b:Addr} {o:Obj},s₁.heap.get? b=some o→H b=none→(nH s₁.heap H).get? b=some o:=fun e n=>yp e n
  have noA:∀ {b:Addr} {o:Obj} {es:Array DictEntry} {ep:Nat},s₁.heap.get? b=some o→o.data=.dict es ep→H b=none:=fun {b o es ep} e d=>by
   cases q:H b with
   | none=>rfl
   | some u =>
    have e':b=a:=hA b (by rw [q]; simp)
    subst e'
    rw [ha] at e; cases e
    have d':Data.seq vs.toArray _=Data.dict es ep:=d
    cases d'
  have nsK:∀ {b:Addr} {m:Str→Option Value},s₁.heap.Ns b m→(nH s₁.heap H).Ns b m:=fun {b m} ⟨o,es,ep,e,d,r⟩=>⟨o,es,ep,base_of e (noA e d),d,r⟩
  have hKb:K.In (nH s₁.heap H):=fun b o e=>base_of (KX b o e) (by
   cases q:H b with
   | none=>rfl
   | some u =>
    have e':b=a:=hA b (by rw [q]; simp)
    subst e'
    rw [hK (by rw [q]; simp)] at e; cases e)
  have hM:Mod K mg (nH s₁.heap H):=⟨hKb,nsK hns,⟨mb,nsK hb,hbb⟩,let ⟨mc,h1,h2⟩:=hlim; ⟨mc,nsK h1,h2⟩⟩
  have e0:CC P w K mg (nH s₁.heap H) callerA [] s₁ H:=⟨rfl,hM,fun b o e=>Ct e,Nat.le_of_eq (v7 _ _),trivial,fun b hb=>absurd (show b∈([]:List Addr) from hb) (by simp),hok,.of_eq hg⟩
  refine PK ((F _ hKb (nsK hns)).run callerA [] s₁ H ⟨[.ref a],[]⟩ [.ref a] [.ref a] _ _ hr e0 (hbind s₁ (.ref a)) (.cons rfl .nil) (pe H hO hS)) fun r s' h=>?_
  cases r with
  | error e=>exact (hCX H e s' h).elim
  | ok fl =>
   cases fl with
   | next=>exact NK h
   | brk=>exact NK h
   | cont=>exact NK h
   | ret u =>
    obtain ⟨v,H',os,bare,un,hok',r',q⟩:=h
    have q':v=.bl true:=q
    subst q'
    obtain rfl:u=Value.bool true:=r'
    refine ⟨rfl,OldK.of_keep fun b o e=>?_,os,bare⟩
    cases q:H b with
    | none=>exact un.keep b o e q (by intro z; exact absurd (show b∈([]:List Addr) from z) (by simp)) (by simp)
    | some u =>
     rcases hO b with z | ⟨ob,xs,z⟩
     ·rw [q] at z; cases z
     ·have z2:=un.frzs b ob _ z
      obtain ⟨e1,_⟩:=hok b _ z
      obtain ⟨e2,_⟩:=hok' b _ z2
      rw [e] at e1; cases e1
      exact e2
 cases hk:K.lookup a with
 | some o =>
  have e:=KX a o hk
  rw [ha] at e
  cases e
  refine core (fun _=>none) (fun _=>.inl rfl) (.inr ⟨_,vs.toArray,_,hk,rfl,rfl,rfl,by rw [M7,lenV]; exact hl,by simpa using rv⟩) (fun b u z=>by have z':(none:Option HO)=some u:=z; cases z') (fun b z=>absurd rfl z) fun z=>absurd rfl z
 | none =>
  refine core (fun b=>if b=a then some (.frz { cls:=.type "list",data:=.seq vs.toArray } (.lst (ns.map V.int))) else none) (fun b=>?_) (.inl (.inr ⟨{ cls:=.type "list",data:=.seq vs.toArray },if_pos rfl⟩)) (fun b u z=>?_) (fun b z=>?_) fun _=>hk
  ·by_cases hb:b=a
   ·exact .inr ⟨_,_,if_pos hb⟩
   ·exact .inl (if_neg hb)
  ·by_cases hb:b=a
   ·have z':=(if_pos hb).symm.trans z
    cases z'
    subst hb
    exact ⟨ha,by rw [MO]; exact hl,vs,_,rv,ha⟩
   ·have z':=(if_neg hb).symm.trans z
    cases z'
  ·by_cases hb:b=a
   ·exact hb
   ·exact absurd (if_neg hb) z
noncomputable abbrev cZ {K:MI} {h:Heap} (_:K.In h):MI:=K
theorem CT {l:PySem.W.OpenLaw} {K:Params→MI} {CX:World→Ge} {sp:World→Sp}
 (hn:l.most=some n) (hn2:n≤sizeLine) (hdf:d.params.defaults=[]) (hr:gI k callerA)
 (hY:∀ (w:World) (h:Heap),YP w h→(K w.params).In h)
 (F:∀ (w:World) (mg:Str→Option Value) (fa:Addr) (h:Heap),(K w.params).In h→h.Ns mainGlobals mg→mg d.name=some (.ref fa) →
   ∃ fd:FuncData,(∀ (s:Shared) (u:Value),BindsTo s fd ⟨[u],[]⟩ [(x,u)]) ∧
    ∀ base:Heap,(K w.params).In base→base.Ns mainGlobals mg→bz l.prog w (K w.params) mg base (CX w) k fa fd [x] (sp w))
 (pe:∀ (w:World) (H:Hp) (a:Addr) (ns:List Int),ns.length≤n→Gu H→gu (K w.params) H a (ns.map V.int)→sp w [.ref a] H (fun v _=>v=.bl true) fun _ _ _=>False)
 (hCX:∀ (w:World) (H:Hp) (s:Shared) (e:Value) (s':Shared),CX w [] H s (fun _ _ _=>False) e s'→False) :
 PySem.W.WalkO q loose XP YP l.row.toRowW d [] (fun f vs=>PySem.call f vs):=by
 refine Att.pP hn hdf fun w s₀ s₁ mg mb fa o pm cd doc a vs ns G Y ho hd hcd hmg hobj hints hlen hg=>?_
 have KX:=hY w _ Y
 obtain ⟨fd,hb,hF⟩:=F w mg fa _ KX G.T.g hmg
 exact yT KX G.T.g G.T.b G.T.builtins G.T.nolimit hg hobj hints (MT hlen hn2) hr hF hb (fun H hO hS=>pe w H a ns hlen hO hS) fun H e s'=>hCX w H s₁ e s'
end L2
namespace L2
open PySem PySem.Spec PyProof.Rows
noncomputable def dU (s:Stmt):Arguments:=match s with
 | .FunctionDef _ a _ _ _ _ _ _ _ _=>a
 | _=>{ posonlyargs:=[],args:=[],vararg:=none,kwonlyargs:=[],kw_defaults:=[],kwarg:=none,defaults:=[] }
noncomputable def aB (s:Stmt):List Stmt:=match s with
 | .FunctionDef _ _ b _ _ _ _ _ _ _=>b
 | _=>[]
noncomputable def af (s:Stmt):Scope:=match s with
 | .FunctionDef _ _ _ _ _ _ sc _ _ _=>sc
 | _=>{ kind:=.function,names:=[],isGenerator:=false,isCoroutine:=false }
structure fM (K:MI) (x qual:Str) (st:Stmt) (f:Addr) (fd:FuncData):Prop where
 ex:∃ (oc:Value) (od:Option Addr) (kV doc pm:Value) (an:Option Addr) (cdv ct:Value) (osl:Array (Option Value)),
  fd=Ow x qual (dU st) (aB st) (af st) .none kV doc pm an cdv ct∧K.lookup f=some ⟨oc,od,.func fd,osl⟩∧Rk K cdv qual=true
 kp:Oq K (.ref f)=true
section
variable {K:MI}
theorem fM.binds {st:Stmt} (F:fM K x qual st f fd)
 (h:∀ (kV doc pm:Value) (an:Option Addr) (cdv ct:Value) (us:List Value),us.length=ps.length→bindArgs (Ow x qual (dU st) (aB st) (af st) .none kV doc pm an cdv ct) ⟨us,[]⟩=pure (ps.zip us)):Binds K fd ps []:=by
 obtain ⟨oc,od,kV,doc,pm,an,cdv,ct,osl,rfl,lk,hcd⟩:=F.ex
 exact .all (h kV doc pm an cdv ct)
theorem Gv {st:Stmt} {kV doc pm cdv ct:Value} (l:K.lookup f=some ⟨oc,od,.func (Ow x qual (dU st) (aB st) (af st) .none kV doc pm an cdv ct),osl⟩)
 (c:Rk K cdv qual=true) (k:Oq K (.ref f)=true):fM K x qual st f (Ow x qual (dU st) (aB st) (af st) .none kV doc pm an cdv ct):=⟨⟨oc,od,kV,doc,pm,an,cdv,ct,osl,rfl,l,c⟩,k⟩
end
theorem JB (hr:gI k A):A.units+1<cLine:=OM (Nat.add_le_add_left (by decide:1≤64) _) hr.units
theorem wu (h:n≤1000):n<sizeLine:=OM h (by decide)
section
end
noncomputable def aD (H H':Hp):Prop:=∀ b o,H b=some o→H' b=some o
theorem aD.refl (H):aD H H:=fun _ _ h=>h
theorem aD.trans (a:aD H H1) (b:aD H1 H2):aD H H2:=fun c o h=>b c o (a c o h)
theorem aD.free (e:aD H H') (h:H' l=Option.none):H l=Option.none:=by
 cases q:H l with
 | none=>rfl
 | some o =>
  rw [e l o q] at h
  cases h
theorem aD.seq {K:MI} (e:aD H H') (h:gu K H a xs):gu K H' a xs:=by
 rcases h with (h | ⟨o,h⟩) | h
 ·exact .inl (.inl (e _ _ h))
 ·exact .inl (.inr ⟨o,e _ _ h⟩)
 ·exact .inr h
section
end
section
variable {κ:Type} [DecidableEq κ]
end
end L2
namespace EV
open PySem PySem.Spec PyProof.Rows L2
inductive D where
 | non | bl (b:Bool) | int (i:Int) | str (x:Str) | tup (ds:List D) | lst (ds:List D) | exc (C:Addr)
 | fdK (ks:List Key) (ds:List D) | fdT (ks:List (List Key)) (ds:List D) | adr (a:Addr)
noncomputable def se (a C:Addr):Heap→Prop:=fun h=>∃ o,h.get? a=some o∧o.cls=.ref C∧∃ vs,o.data=.fields vs
mutual
def Rep (K:MI) (H:Hp):D→V→Prop
 | .non,v=>v=.non
 | .bl b,v=>v=.bl b
 | .int i,v=>v=.int i
 | .str x,v=>v=.str x
 | .tup ds,v=>∃ a xs,v=.ref a∧cQ K H a xs∧aq K H ds xs
 | .lst ds,v=>∃ a xs,v=.ref a∧gu K H a xs∧aq K H ds xs
 | .exc C,v=>∃ a,v=.ref a∧H a=some (.ext (se a C))
 | .fdK ks ds,v=>∃ a ys o,v=.ref a∧H a=some (.frz o (.dK ys))∧ys.map (·.1)=ks∧aq K H ds (ys.map (·.2))
 | .fdT ks ds,v=>∃ a ys o,v=.ref a∧H a=some (.frz o (.dT ys))∧ys.map (·.1)=ks∧(∀ y∈ys,cQ K H y.2.1 (y.1.map kV))∧aq K H ds (ys.map (·.2.2))
 | .adr a,v=>v=.ref a
def aq (K:MI) (H:Hp):List D→List V→Prop
 | [],xs=>xs=[]
 | d::ds,xs=>∃ x r,xs=x::r∧Rep K H d x∧aq K H ds r
end
theorem au {K:MI} (e:aD H H') (h:cQ K H a xs):cQ K H' a xs:=by
 rcases h with (h | ⟨o,h⟩) | h
 ·exact .inl (.inl (e _ _ h))
 ·exact .inl (.inr ⟨o,e _ _ h⟩)
 ·exact .inr h
mutual
theorem Rep.mono {K:MI} {H H':Hp} (e:aD H H'):∀ (d:D) {v:V},Rep K H d v→Rep K H' d v
 | .non,_,h=>by simpa [Rep] using h
 | .bl b,_,h=>by simpa [Rep] using h
 | .int i,_,h=>by simpa [Rep] using h
 | .str x,_,h=>by simpa [Rep] using h
 | .tup ds,_,h=>by
  simp only [Rep] at h ⊢
  obtain ⟨a,xs,e1,h1,h2⟩:=h
  exact ⟨a,xs,e1,au e h1,aq.mono e ds h2⟩
 | .lst ds,_,h=>by
  simp only [Rep] at h ⊢
  obtain ⟨a,xs,e1,h1,h2⟩:=h
  exact ⟨a,xs,e1,e.seq h1,aq.mono e ds h2⟩
 | .exc C,_,h=>by
  simp only [Rep] at h ⊢
  obtain ⟨a,e1,h1⟩:=h
  exact ⟨a,e1,e _ _ h1⟩
 | .fdK ks ds,_,h=>by
  simp only [Rep] at h ⊢
  obtain ⟨a,ys,o,e1,h1,h2,h3⟩:=h
  exact ⟨a,ys,o,e1,e _ _ h1,h2,aq.mono e ds h3⟩
 | .fdT ks ds,_,h=>by
  simp only [Rep] at h ⊢
  obtain ⟨a,ys,o,e1,h1,h2,h3,h4⟩:=h
  exact ⟨a,ys,o,e1,e _ _ h1,h2,fun y hy=>au e (h3 y hy),aq.mono e ds h4⟩
 | .adr a,_,h=>by simpa [Rep] using h
theorem aq.mono {K:MI} {H H':Hp} (e:aD H H'):∀ (ds:List D) {xs:List V},aq K H ds xs→aq K H' ds xs
 | [],_,h=>by simpa [aq] using h
 | d::ds,_,h=>by
  simp only [aq] at h ⊢
  obtain ⟨x,r,e1,h1,h2⟩:=h
  exact ⟨x,r,e1,Rep.mono e d h1,aq.mono e ds h2⟩
end
section
variable {K:MI}
theorem av:Rep K H (.int i) v↔v=.int i:=by simp only [Rep]
theorem dY:Rep K H (.bl i) v↔v=.bl i:=by simp only [Rep]
theorem bM:Rep K H .non v↔v=.non:=by simp only [Rep]
theorem eZ:Rep K H (.str i) v↔v=.str i:=by simp only [Rep]
theorem aE:Rep K H (.tup ds) v↔∃ a xs,v=.ref a∧cQ K H a xs∧aq K H ds xs:=by simp only [Rep]
theorem aR:Rep K H (.lst ds) v↔∃ a xs,v=.ref a∧gu K H a xs∧aq K H ds xs:=by simp only [Rep]
theorem iF:Rep K H (.fdK ks ds) v↔∃ a ys o,v=.ref a∧H a=some (.frz o (.dK ys))∧ys.map (·.1)=ks∧aq K H ds (ys.map (·.2)):=by simp only [Rep]
theorem iG:Rep K H (.fdT ks ds) v↔∃ a ys o,v=.ref a∧H a=some (.frz o (.dT ys))∧ys.map (·.1)=ks∧(∀ y∈ys,cQ K H y.2.1 (y.1.map kV))∧aq K H ds (ys.map (·.2.2)):=by simp only [Rep]
theorem eB:Rep K H (.adr a) v↔v=.ref a:=by simp only [Rep]
theorem CU:Rep K H (.exc C) v↔∃ a,v=.ref a∧H a=some (.ext (se a C)):=by simp only [Rep]
theorem ay:aq K H [] xs↔xs=[]:=by simp only [aq]
theorem aC:aq K H (d::ds) xs↔∃ x r,xs=x::r∧Rep K H d x∧aq K H ds r:=by simp only [aq]
theorem aq.length:∀ {ds:List D} {xs:List V},aq K H ds xs→ds.length=xs.length
 | [],_,h=>by rw [ay] at h; subst h; rfl
 | d::ds,_,h=>by
  rw [aC] at h
  obtain ⟨x,r,rfl,_,h2⟩:=h
  simp [aq.length h2]
theorem aq.get:∀ {ds:List D} {xs:List V} {i:Nat} {d:D},aq K H ds xs→ds[i]?=some d→∃ x,xs[i]?=some x∧Rep K H d x
 | [],_,_,_,_,e=>by simp at e
 | d::ds,_,i,d',h,e=>by
  rw [aC] at h
  obtain ⟨x,r,rfl,h1,h2⟩:=h
  cases i with
  | zero=>simp at e; subst e; exact ⟨x,by simp,h1⟩
  | succ i =>
   obtain ⟨y,e2,h3⟩:=aq.get (i:=i) (d:=d') h2 (by simpa using e)
   exact ⟨y,by simpa using e2,h3⟩
theorem aq.get':∀ {ds:List D} {xs:List V} {i:Nat} {x:V},aq K H ds xs→xs[i]?=some x→∃ d,ds[i]?=some d∧Rep K H d x:=fun {ds xs i x} h e=>by
 have hl:=h.length
 have hi:i<xs.length:=(MU.mp e).1
 obtain ⟨y,e2,h2⟩:=h.get (i:=i) (d:=ds[i]'(by lia)) (by simp)
 rw [e] at e2; cases e2
 exact ⟨_,by simp,h2⟩
theorem aq.append:∀ {ds es:List D} {xs ys:List V},aq K H ds xs→aq K H es ys→aq K H (ds++es) (xs++ys)
 | [],_,_,_,h,g=>by rw [ay] at h; subst h; exact g
 | d::ds,_,_,_,h,g=>by
  rw [aC] at h
  obtain ⟨x,r,rfl,h1,h2⟩:=h
  exact aC.mpr ⟨x,r++_,rfl,h1,aq.append h2 g⟩
theorem aq.drop:∀ (n:Nat) {ds:List D} {xs:List V},aq K H ds xs→aq K H (ds.drop n) (xs.drop n)
 | 0,_,_,h=>h
 | n+1,[],_,h=>by rw [ay] at h; subst h; exact ay.mpr rfl
 | n+1,d::ds,_,h=>by
  rw [aC] at h
  obtain ⟨x,r,rfl,h1,h2⟩:=h
  exact aq.drop n h2
theorem aq.take:∀ (n:Nat) {ds:List D} {xs:List V},aq K H ds xs→aq K H (ds.take n) (xs.take n)
 | 0,_,_,h=>ay.mpr rfl
 | n+1,[],_,h=>by rw [ay] at h; subst h; exact ay.mpr rfl
 | n+1,d::ds,_,h=>by
  rw [aC] at h
  obtain ⟨x,r,rfl,h1,h2⟩:=h
  exact aC.mpr ⟨x,r.take n,rfl,h1,aq.take n h2⟩
theorem aq.one (h:Rep K H d v):aq K H [d] [v]:=aC.mpr ⟨v,[],rfl,h,ay.mpr rfl⟩
theorem aq.cons (h:Rep K H d v) (t:aq K H ds xs):aq K H (d::ds) (v::xs):=aC.mpr ⟨v,xs,rfl,h,t⟩
theorem jf:∀ (ns:List Int),aq K H (ns.map D.int) (ns.map V.int)
 | []=>ay.mpr rfl
 | n::ns=>.cons (av.mpr rfl) (jf ns)
end
inductive Sh where
 | v (d:D) | l (ds:List D) | la (a:Addr) (ds:List D) | t (ss:List Sh) | ls (ss:List Sh)
noncomputable def pl (p:Addr) (xs:List V):HO:=.ext fun h=>xs.length≤sizeLine∧∃ (its:List Value) (n:Nat),Vals xs its∧h.get? p=some { cls:=.type "list",data:=.seq its.toArray n }
mutual
def aW (K:MI) (H Hf:Hp):Sh→V→List (Addr×List V)→Prop
 | .v d,v,fp=>Rep K Hf d v∧fp=[]
 | .l ds,v,fp=>∃ p xs,v=.ref p∧H p=some (pl p xs)∧Hf p=none∧aq K Hf ds xs∧fp=[(p,xs)]
 | .la p ds,v,fp=>∃ xs,v=.ref p∧H p=some (pl p xs)∧Hf p=none∧aq K Hf ds xs∧fp=[(p,xs)]
 | .t ss,v,fp=>∃ a xs,v=.ref a∧cQ K Hf a xs∧aA K H Hf ss xs fp
 | .ls ss,v,fp=>∃ p xs fq,v=.ref p∧H p=some (pl p xs)∧Hf p=none∧aA K H Hf ss xs fq∧fp=(p,xs)::fq
def aA (K:MI) (H Hf:Hp):List Sh→List V→List (Addr×List V)→Prop
 | [],xs,fp=>xs=[]∧fp=[]
 | s::ss,xs,fp=>∃ x r f1 f2,xs=x::r∧aW K H Hf s x f1∧aA K H Hf ss r f2∧fp=f1++f2
end
noncomputable def yU (H:Hp) (q:Addr):Prop:=∃ xs,H q=some (pl q xs)
mutual
theorem aW.mv {K:MI} {H Hf H' aj:Hp} (sf:aD Hf aj):∀ (s:Sh) {v:V} {fp:List (Addr×List V)},(∀ q∈fp,H q.1=some (pl q.1 q.2)→Hf q.1=none→H' q.1=some (pl q.1 q.2)∧aj q.1=none)→aW K H Hf s v fp→aW K H' aj s v fp
 | .v d,_,_,_,h=>by simp only [aW] at h ⊢; exact ⟨h.1.mono sf d,h.2⟩
 | .l ds,_,_,hk,h=>by
  simp only [aW] at h ⊢
  obtain ⟨p,xs,e,h1,h2,h3,rfl⟩:=h
  obtain ⟨q1,q2⟩:=hk _ MW h1 h2
  exact ⟨p,xs,e,q1,q2,h3.mono sf ds,rfl⟩
 | .la p ds,_,_,hk,h=>by
  simp only [aW] at h ⊢
  obtain ⟨xs,e,h1,h2,h3,rfl⟩:=h
  obtain ⟨q1,q2⟩:=hk _ MW h1 h2
  exact ⟨xs,e,q1,q2,h3.mono sf ds,rfl⟩
 | .t ss,_,_,hk,h=>by
  simp only [aW] at h ⊢
  obtain ⟨a,xs,e,h1,h2⟩:=h
  exact ⟨a,xs,e,au sf h1,aA.mv sf ss hk h2⟩
 | .ls ss,_,_,hk,h=>by
  simp only [aW] at h ⊢
  obtain ⟨p,xs,fq,e,h1,h2,h3,rfl⟩:=h
  obtain ⟨q1,q2⟩:=hk _ MW h1 h2
  exact ⟨p,xs,fq,e,q1,q2,aA.mv sf ss (fun q hq=>hk q (MX _ hq)) h3,rfl⟩
theorem aA.mv {K:MI} {H Hf H' aj:Hp} (sf:aD Hf aj):∀ (ss:List Sh) {xs:List V} {fp:List (Addr×List V)},(∀ q∈fp,H q.1=some (pl q.1 q.2)→Hf q.1=none→H' q.1=some (pl q.1 q.2)∧aj q.1=none)→aA K H Hf ss xs fp→aA K H' aj ss xs fp
 | [],_,_,_,h=>by simpa only [aA] using h
 | s::ss,_,_,hk,h=>by
  simp only [aA] at h ⊢
  obtain ⟨x,r,f1,f2,e,h1,h2,rfl⟩:=h
  exact ⟨x,r,f1,f2,e,aW.mv sf s (fun q hq=>hk q (O3 _ hq)) h1,aA.mv sf ss (fun q hq=>hk q (N2 _ hq)) h2,rfl⟩
end
inductive Sl where
 | un
 | va (d:D)
 | ow (ds:List D)
 | oT (kvs:List (List Key×D))
 | oK (kvs:List (Key×D))
 | aw (a:Addr) (ds:List D)
 | aT (a:Addr) (kvs:List (List Key×D))
 | aK (a:Addr) (kvs:List (Key×D))
 | fo (s:Sh)
noncomputable def lN (K:MI) (H:Hp) {κ:Type}:List (κ×D)→List (κ×V)→Prop:=Paired fun a b=>a.1=b.1∧Rep K H a.2 b.2
theorem lN.mono {K:MI} (e:aD H H') (h:lN K H ks xs):lN K H' ks xs :=
 Paired.FH h fun a b z=>⟨z.1,Rep.mono e _ z.2⟩
noncomputable def kB (K:MI) (H:Hp):List (List Key×D)→List (List Key×Addr×V)→Prop:=Paired fun a b=>a.1=b.1∧cQ K H b.2.1 (a.1.map kV)∧Rep K H a.2 b.2.2
theorem kB.mono {K:MI} (e:aD H H') (h:kB K H ks xs):kB K H' ks xs :=
 Paired.FH h fun a b z=>⟨z.1,au e z.2.1,Rep.mono e _ z.2.2⟩
noncomputable def aS (K:MI) (fr:Addr→Prop) (H Hf:Hp):Sl→V→Prop
 | .un,_=>False
 | .va d,v=>Rep K Hf d v
 | .ow ds,v=>∃ p xs,v=.ref p∧fr p∧H p=some (.lst xs)∧Hf p=none∧aq K Hf ds xs
 | .oT kvs,v=>∃ p xs,v=.ref p∧fr p∧H p=some (.dT xs)∧Hf p=none∧kB K Hf kvs xs
 | .oK kvs,v=>∃ p xs,v=.ref p∧fr p∧H p=some (.dK xs)∧Hf p=none∧lN K Hf kvs xs
 | .aw a ds,v=>∃ p xs,v=.ref p∧(fr p∧p=a)∧H p=some (.lst xs)∧Hf p=none∧aq K Hf ds xs
 | .aT a kvs,v=>∃ p xs,v=.ref p∧(fr p∧p=a)∧H p=some (.dT xs)∧Hf p=none∧kB K Hf kvs xs
 | .aK a kvs,v=>∃ p xs,v=.ref p∧(fr p∧p=a)∧H p=some (.dK xs)∧Hf p=none∧lN K Hf kvs xs
 | .fo s,v=>∃ fp,aW K H Hf s v fp∧(fp.map (·.1)).Nodup∧∀ a∈fp,fr a.1
noncomputable def Sl.owned:Sl→Bool
 | .ow _=>true | .oT _=>true | .oK _=>true | .aw _ _=>true | .aT _ _=>true | .aK _ _=>true | _=>false
structure aZ (H Hf H' aj:Hp):Prop where
 s:aD H H'
 f:aD Hf aj
 b:aD aj H'
 n:∀ b,Hf b=none→H b≠none→(∀ xs,H b≠some (.tup xs))→aj b=none
theorem aZ.refl (b:aD Hf H):aZ H Hf H Hf:=⟨.refl _,.refl _,b,fun _ h _ _=>h⟩
theorem aZ.trans (a:aZ H Hf H1 aI) (b:aZ H1 aI H2 cD):aZ H Hf H2 cD :=
 ⟨a.s.trans b.s,a.f.trans b.f,b.b,fun c h1 h2 h3=>by
   cases q:H c with
   | none=>exact absurd q h2
   | some o =>
    have e:=a.s c o q
    exact b.n c (a.n c h1 h2 h3) (by rw [e]; simp) (by intro xs; rw [e,← q]; exact h3 xs)⟩
theorem aZ.new (b:aD Hf H) (hp:H p=none):aZ H Hf (upd H p o) (upd Hf p o):=by
 have hf:Hf p=none:=b.free hp
 refine ⟨fun c u h=>?_,fun c u h=>?_,fun c u h=>?_,fun c h1 h2 _=>?_⟩
 ·rw [ak (az h hp)]; exact h
 ·rw [ak (az h hf)]; exact h
 ·by_cases e:c=p
  ·subst e; rw [ah] at h ⊢; exact h
  ·rw [ak e] at h ⊢; exact b c u h
 ·by_cases e:c=p
  ·subst e; exact absurd hp h2
  ·rw [ak e]; exact h1
theorem aZ.fN (b:aD Hf H) (hp:H p=none):aZ H Hf (upd H p o) Hf :=
 ⟨(aZ.new b hp (o:=o)).s,.refl _,fun c u h=>(aZ.new b hp (o:=o)).s c u (b c u h),fun _ h _ _=>h⟩
inductive At {α:Type}:List α→Nat→α→Prop where
 | z {x:α} {l:List α}:At (x::l) 0 x
 | s {x y:α} {l:List α} {i:Nat}:At l i x→At (y::l) (i+1) x
theorem At.get (h:At l i x):l[i]?=some x:=by
 induction h with
 | z=>rfl
 | s _ ih=>simpa using ih
theorem At.mem (h:At l i x):x∈l:=NY h.get
inductive SSet {α:Type}:List α→Nat→α→List α→Prop where
 | z {x r:α} {l:List α}:SSet (x::l) 0 r (r::l)
 | s {r y:α} {l l':List α} {i:Nat}:SSet l i r l'→SSet (y::l) (i+1) r (y::l')
theorem SSet.eq (h:SSet l i r l'):l'=l.set i r:=by
 induction h with
 | z=>rfl
 | s _ ih=>simp [ih]
structure cR (K:MI) (H₀ dB:Hp) (σ:L2.St) (H Hf:Hp) (ρ:List Sl):Prop where
 bas:aZ H₀ dB H Hf
 len:σ.length=ρ.length
 at_:∀ (i:Nat) (r:Sl),ρ[i]?=some r→r≠.un→∃ v,σ[i]?=some (some v)∧aS K (fun p=>H₀ p=none) H Hf r v
 sep:∀ (i j:Nat) (r r':Sl) (p:Addr),i≠j→ρ[i]?=some r→ρ[j]?=some r'→r.owned=true→r'.owned=true→σ[i]?=some (some (.ref p))→σ[j]?≠some (some (.ref p))
structure JC (P:Program) (w:World) (outer:List Env) (H:Hp) (s:Shared) (a C:Addr) (H':Hp) (s':Shared):Prop where
 os:s'.os=s.os
 bare:AllBare s'.gens
 un:Un (frs outer) [] H H' s.heap s'.heap
 hok:ja P w H' s'.heap
 new:s.heap.get? a=none
 free:H' a=none
 fly:∃ (t:Addr) (B:Heap),Heap.FlyingW B outer a (.ref C) (.ref t) s'.heap∧(∀ b o,s.heap.get? b=some o→b∉frs outer→∃ o',s'.heap.get? b=some o'∧B.get? b=some o') ∧
  ∀ b o,H' b≠none→s'.heap.get? b=some o→B.get? b=some o
noncomputable def dR (P:Program) (w:World):Ge:=fun outer H s E e s'=>∃ a C H',e=.ref a∧JC P w outer H s a C H' s'∧E (.ref C) (some a) H'
set_option genInjectivity false in
structure Ctx (P:Program) (w:World) (K:MI) (mg:Str→Option Value) (base:Heap) (k:Nat) (N:List Str) (sc:Scope) (bk:Bool) where
 X:Cx
 eP:X.prog=P
 ew:X.w=w
 eK:X.K=K
 emg:X.mg=mg
 eb:X.base=base
 eN:X.N=N
 esc:X.env.scope=sc
 calm:X.calm=true
 top:bk=false→X.stack=X.env::X.outer∧X.env.frame=some X.env.locals∧X.ex=[]
 cb:bk=false→∀ (aa:List (Addr×Obj)) (σ:L2.St) (H:Hp) (s:Shared),Inv X aa σ H s→∀ (x:Str) (c:Addr),X.env.cells.lookup x=some c→X.s₀.heap.objs.size≤c
 fn:∀ x,bk=false∨sc.names.lookup x=some .local→X.fn x=true∨X.env.scope.names.lookup x=some .local
 room:gI k X.A
 nd:N.Nodup
 vis:∀ x∈N,Loc sc x
 Hf:Hp
 B:Hp
 RX:Addr→List Sl→Prop
 exc:∀ (C a:Addr) (aa:List (Addr×Obj)) (σ:L2.St) (H aj:Hp) (ρ:List Sl) (s:Shared) (H':Hp) (s':Shared),Inv X aa σ H s→cR X.K B Hf σ H aj ρ→RX C ρ→JC X.prog X.w X.stack H s a C H' s'→aD H H'→X.xe (.ref a) s'
 RM:Addr→List Sl→Prop
 mde:∀ (C a:Addr) (aa:List (Addr×Obj)) (σ:L2.St) (H aj:Hp) (ρ:List Sl) (s:Shared) (h':Heap) (us:List Value),Inv X aa σ H s→cR X.K B Hf σ H aj ρ→RM C ρ→Heap.MadeExcOf s.heap h' a (.ref C) us→X.xe (.ref a) { s with heap:=h' }
noncomputable def Sl.JD:Sl→Bool | .fo _=>true | _=>false
noncomputable abbrev o6 {α:Type} (fr:Addr→Prop) (H Hf:Hp) (o:α→HO) (R:α→Prop) (v:V):Prop:=∃ (p:Addr) (xs:α),v=.ref p∧fr p∧H p=some (o xs)∧Hf p=none∧R xs
theorem o6.IS (h:o6 fr H Hf o R v) (hk:∀ p,v=.ref p→∀ u,(∀ ys,u≠.tup ys)→H p=some u→Hf p=none→H' p=some u∧aj p=none) (ho:∀ xs ys,o xs≠.tup ys) (hR:∀ xs,R xs→R' xs):o6 fr H' aj o R' v:=by
 obtain ⟨p,xs,e,f,h1,h2,h3⟩:=h
 exact ⟨p,xs,e,f,(hk p e _ (ho xs) h1 h2).1,(hk p e _ (ho xs) h1 h2).2,hR xs h3⟩
theorem o6.IT (h:o6 fr H Hf o R v) (hf:∀ p,fr p→fr' p):o6 fr' H Hf o R v :=
 let ⟨p,xs,e,f,h⟩:=h; ⟨p,xs,e,hf p f,h⟩
theorem aS.mv {K:MI} {B:Addr→Prop} (sf:aD Hf aj) (hk:∀ q o,¬ B q→H q=some o→(∀ xs,o≠.tup xs)→Hf q=none→H' q=some o∧aj q=none):∀ {r:Sl} {v:V},
 (r.JD=true→∀ q,B q→¬ yU H q)→(r.owned=true→∀ q,v=.ref q→¬ B q)→aS K fr H Hf r v→aS K fr H' aj r v
 | .un,_,_,_,h=>h
 | .va d,_,_,_,h=>Rep.mono sf d h
 | .ow ds,_,_,hv,h=>o6.IS h (fun p e o z ho hf=>hk p o (hv rfl p e) ho z hf) (fun _ _ z=>by cases z) fun _ h=>h.mono sf
 | .oT kvs,_,_,hv,h=>o6.IS h (fun p e o z ho hf=>hk p o (hv rfl p e) ho z hf) (fun _ _ z=>by cases z) fun _ h=>h.mono sf
 | .oK kvs,_,_,hv,h=>o6.IS h (fun p e o z ho hf=>hk p o (hv rfl p e) ho z hf) (fun _ _ z=>by cases z) fun _ h=>h.mono sf
 | .aw a ds,_,_,hv,h=>o6.IS h (fun p e o z ho hf=>hk p o (hv rfl p e) ho z hf) (fun _ _ z=>by cases z) fun _ h=>h.mono sf
 | .aT a kvs,_,_,hv,h=>o6.IS h (fun p e o z ho hf=>hk p o (hv rfl p e) ho z hf) (fun _ _ z=>by cases z) fun _ h=>h.mono sf
 | .aK a kvs,_,_,hv,h=>o6.IS h (fun p e o z ho hf=>hk p o (hv rfl p e) ho z hf) (fun _ _ z=>by cases z) fun _ h=>h.mono sf
 | .fo s,_,hB,_,⟨fp,h1,h2,h3⟩=>⟨fp,aW.mv sf s (fun q _ e1 e2=>hk q.1 _ (fun b=>hB rfl q.1 b ⟨q.2,e1⟩) e1 (by intro ys z; cases z) e2) h1,h2,h3⟩
theorem aS.ck {K:MI} (g:aZ H Hf H' aj) (h:aS K fr H Hf r v):aS K fr H' aj r v :=
 aS.mv (B:=fun _=>False) g.f (fun q o _ e1 e2 e3=>⟨g.s _ _ e1,g.n q e3 (by rw [e1]; simp) fun xs z=>e2 xs (by rw [e1] at z; exact Of z)⟩) (fun _ _ z=>z.elim) (fun _ _ _ z=>z) h
theorem aS.weak {K:MI} (hf:∀ p,fr p→fr' p):∀ {r:Sl} {v:V},aS K fr H Hf r v→aS K fr' H Hf r v
 | .un,_,h=>h
 | .va d,_,h=>h
 | .ow ds,_,h=>o6.IT h hf
 | .oT ds,_,h=>o6.IT h hf
 | .oK ds,_,h=>o6.IT h hf
 | .aw a ds,_,h=>o6.IT h fun p f=>⟨hf p f.1,f.2⟩
 | .aT a ds,_,h=>o6.IT h fun p f=>⟨hf p f.1,f.2⟩
 | .aK a ds,_,h=>o6.IT h fun p f=>⟨hf p f.1,f.2⟩
 | .fo s,_,⟨fp,h1,h2,h3⟩=>⟨fp,h1,h2,fun a ha=>hf _ (h3 a ha)⟩
section
variable {K:MI}
noncomputable def Ctx.fr (c:Ctx P w K mg base k N sc bk) (p:Addr):Prop:=c.B p=none
noncomputable abbrev bg (c:Ctx P w K mg base k N sc bk) (σ:L2.St) (H Hf:Hp) (ρ:List Sl):Prop:=cR c.X.K c.B c.Hf σ H Hf ρ
theorem cR.ck (S:cR K H₀ dB σ H Hf ρ) (g:aZ H Hf H' aj):cR K H₀ dB σ H' aj ρ :=
 ⟨S.bas.trans g,S.len,fun i r h hr=>let ⟨v,e,q⟩:=S.at_ i r h hr; ⟨v,e,q.ck g⟩,S.sep⟩
theorem cR.sb (S:cR K H₀ dB σ H Hf ρ):aD Hf H:=S.bas.b
theorem cR.va (S:cR K H₀ dB σ H Hf ρ) {i:Nat} (h:ρ[i]?=some (.va d)):∃ v,σ[i]?=some (some v)∧Rep K Hf d v:=S.at_ i _ h (by simp)
theorem cR.set (S:cR K H₀ dB σ H Hf ρ) (g:aZ H Hf H1 aI) (hr:aS K (fun p=>H p=none) H1 aI r v) :
 cR K H₀ dB (σ.set i (some v)) H1 aI (ρ.set i r):=by
 have S1:=S.ck g
 have fr0:∀ p,H p=none→H₀ p=none:=fun p h=>S.bas.s.free h
 have fresh:∀ p,r.owned=true→v=.ref p→H p=none:=fun p ho e=>by
  subst e
  cases r with
  | un=>cases ho
  | va d=>cases ho
  | ow ds=>obtain ⟨p',xs,e,h,_⟩:=hr; cases e; exact h
  | oT ds=>obtain ⟨p',xs,e,h,_⟩:=hr; cases e; exact h
  | oK ds=>obtain ⟨p',xs,e,h,_⟩:=hr; cases e; exact h
  | aw a ds=>obtain ⟨p',xs,e,h,_⟩:=hr; cases e; exact h.1
  | aT a ds=>obtain ⟨p',xs,e,h,_⟩:=hr; cases e; exact h.1
  | aK a ds=>obtain ⟨p',xs,e,h,_⟩:=hr; cases e; exact h.1
  | fo s=>cases ho
 have old:∀ (j:Nat) (r':Sl) (p:Addr),ρ[j]?=some r'→r'.owned=true→σ[j]?=some (some (.ref p))→H p≠none:=fun j r' p h ho hs=>by
  obtain ⟨v',e,q⟩:=S.at_ j r' h (by rintro rfl; cases ho)
  rw [hs] at e; cases e
  cases r' with
  | un=>cases ho
  | va d=>cases ho
  | ow ds=>obtain ⟨p',xs,e,_,h,_⟩:=q; cases e; rw [h]; simp
  | oT ds=>obtain ⟨p',xs,e,_,h,_⟩:=q; cases e; rw [h]; simp
  | oK ds=>obtain ⟨p',xs,e,_,h,_⟩:=q; cases e; rw [h]; simp
  | aw a ds=>obtain ⟨p',xs,e,_,h,_⟩:=q; cases e; rw [h]; simp
  | aT a ds=>obtain ⟨p',xs,e,_,h,_⟩:=q; cases e; rw [h]; simp
  | aK a ds=>obtain ⟨p',xs,e,_,h,_⟩:=q; cases e; rw [h]; simp
  | fo s=>cases ho
 refine ⟨S1.bas,by simp [S.len],fun j r' hj hu=>?_,fun j j' r1 r2 p hne h1 h2 o1 o2 e1 e2=>?_⟩
 ·by_cases q:j=i
  ·subst q
   have hi:j<ρ.length:=by
    have:=(MU.mp hj).1
    simpa using this
   rw [NU hi] at hj; cases hj
   exact ⟨v,NU (by rw [S.len]; exact hi),hr.weak fr0⟩
  ·rw [NV (M8 q)] at hj ⊢
   exact S1.at_ j r' hj hu
 ·have hlt:∀ {j:Nat} {r:Sl},(ρ.set i r)[j]?=some r→j<ρ.length:=fun {j r} h=>by
   have:=(MU.mp h).1
   simpa using this
  by_cases q1:j=i
  ·subst q1
   have hi:j<ρ.length:=by have:=(MU.mp h1).1; simpa using this
   rw [NU hi] at h1; cases h1
   rw [NU (by rw [S.len]; exact hi)] at e1
   rw [NV hne] at h2 e2
   exact old j' r2 p h2 o2 e2 (fresh p o1 (by simpa using e1))
  ·by_cases q2:j'=i
   ·subst q2
    have hi:j'<ρ.length:=by have:=(MU.mp h2).1; simpa using this
    rw [NU hi] at h2; cases h2
    rw [NU (by rw [S.len]; exact hi)] at e2
    rw [NV (M8 hne)] at h1 e1
    exact old j r1 p h1 o1 e1 (fresh p o2 (by simpa using e2))
   ·rw [NV (M8 q1)] at h1 e1
    rw [NV (M8 q2)] at h2 e2
    exact S.sep j j' r1 r2 p hne h1 h2 o1 o2 e1 e2
theorem cR.weak (S:cR K H₀ dB σ H Hf ρ) (hl:ρ'.length=ρ.length) (h:∀ (i:Nat) (r:Sl),ρ'[i]?=some r→r≠.un→ρ[i]?=some r):cR K H₀ dB σ H Hf ρ' :=
 ⟨S.bas,by rw [S.len,hl],fun i r e hu=>S.at_ i r (h i r e hu) hu,fun i j r r' p hne h1 h2 o1 o2=>S.sep i j r r' p hne (h i r h1 (by rintro rfl; cases o1)) (h j r' h2 (by rintro rfl; cases o2)) o1 o2⟩
end
section
variable {P:Program} {w:World} {K:MI} {mg:Str→Option Value} {base:Heap} {k:Nat} {N:List Str} {sc:Scope} {bk:Bool}
noncomputable def bE (X:Cx) (e:Expr):TE:=fun σ H Q=>∀ aa s,Inv X aa σ H s→wpAny (model X.prog X.w) X.A (eval e X.env) (EP X aa σ Q) X.xe s
theorem cO:PE X e (bE X e):=fun aa s σ H Q I h=>h aa s I
theorem bF (h:PE X e t) (q:t σ H Q):bE X e σ H Q:=fun aa s I=>h aa s σ H Q I q
noncomputable def bT (X:Cx) (e:Expr):TT:=fun σ H Q=>∀ aa s,Inv X aa σ H s→wpAny (model X.prog X.w) X.A (isTrue e X.env (eval e X.env)) (TP X aa σ Q) X.xe s
theorem EY:PT X e (bT X e):=fun aa s σ H Q I h=>h aa s I
theorem uD (h:PT X e t) (q:t σ H Q):bT X e σ H Q:=fun aa s I=>h aa s σ H Q I q
noncomputable def bA (X:Cx) (es:List Expr):TA:=fun σ H Q=>∀ pos aa s,Inv X aa σ H s→wpAny (model X.prog X.w) X.A (spliced (backTo pos (starEach es X.env))) (AP X aa σ Q) X.xe s
theorem CV:PA X es (bA X es):=fun pos aa s σ H Q I h=>h pos aa s I
theorem mH (h:PA X es t) (q:t σ H Q):bA X es σ H Q:=fun pos aa s I=>h pos aa s σ H Q I q
noncomputable def bS (X:Cx) (st:Stmt):TS:=fun D σ H=>∀ aa s,Inv X aa σ H s→wpAny (model X.prog X.w) X.A (exec st X.env) (SP X aa D) X.xe s
theorem MD {st:Stmt}:PS X st (bS X st):=fun aa s σ H D I h=>h aa s I
theorem dH {st:Stmt} (h:PS X st t) {D:Ends} (q:t D σ H):bS X st D σ H:=fun aa s I=>h aa s σ H D I q
noncomputable def Gw (X:Cx) (st:List Stmt):TS:=fun D σ H=>∀ aa s,Inv X aa σ H s→wpAny (model X.prog X.w) X.A (execs st X.env) (SP X aa D) X.xe s
theorem pQ {st:List Stmt}:rP X st (Gw X st):=fun aa s σ H D I h=>h aa s I
theorem yV {st:List Stmt} (h:rP X st t) {D:Ends} (q:t D σ H):Gw X st D σ H:=fun aa s I=>h aa s σ H D I q
noncomputable def bG (X:Cx) (tg:Expr):TG:=fun v σ H Q=>∀ aa s u,Inv X aa σ H s→RelV v u→wpAny (model X.prog X.w) X.A (assign tg X.env u) (fun _ s'=>∃ σ' H',Inv X aa σ' H' s'∧Q σ' H') X.xe s
theorem Mj:PG X tg (bG X tg):=fun aa s σ H v u Q I r h=>h aa s u I r
theorem EZ (h:PG X tg t) (q:t v σ H Q):bG X tg v σ H Q:=fun aa s u I r=>h aa s σ H v u Q I r q
variable (c:Ctx P w K mg base k N sc bk)
noncomputable def c6 (e:Expr) (ρ:List Sl) (R:Sl→Prop):Prop :=
 ∀ (σ:L2.St) (H Hf:Hp) (Q:VK),bg c σ H Hf ρ→(∀ r v H' aj,R r→aS c.X.K (fun p=>H p=none) H' aj r v→aZ H Hf H' aj→Q v H')→bE c.X e σ H Q
noncomputable def aF (e:Expr) (ρ:List Sl) (R:D→Prop):Prop :=
 ∀ (σ:L2.St) (H Hf:Hp) (Q:VK),bg c σ H Hf ρ→(∀ d v H' aj,R d→Rep c.X.K aj d v→aZ H Hf H' aj→Q v H')→bE c.X e σ H Q
noncomputable def jg (e:Expr) (ρ:List Sl) (R:Bool→Prop):Prop :=
 ∀ (σ:L2.St) (H Hf:Hp) (Q:Bool→Hp→Prop),bg c σ H Hf ρ→(∀ b H' aj,R b→aZ H Hf H' aj→Q b H')→bT c.X e σ H Q
noncomputable def pR (es:List Expr) (ρ:List Sl) (R:List D→Prop):Prop :=
 ∀ (σ:L2.St) (H Hf:Hp) (Q:List V→Hp→Prop),bg c σ H Hf ρ→(∀ ds vs H' aj,R ds→aq c.X.K aj ds vs→aZ H Hf H' aj→Q vs H')→bA c.X es σ H Q
structure Pt where
 rt:Sl→Prop
 bk:List Sl→Prop:=fun _=>False
 ct:List Sl→Prop:=fun _=>False
structure yW (nx:List Sl→Prop) (p:Pt) (D:Ends):Prop where
 nx:∀ σ H Hf ρ,bg c σ H Hf ρ→nx ρ→D.nx σ H
 rt:∀ r v H Hf,aZ c.B c.Hf H Hf→aS c.X.K c.fr H Hf r v→p.rt r→D.rt v H
 bk:∀ σ H Hf ρ,bg c σ H Hf ρ→p.bk ρ→D.bk σ H
 ct:∀ σ H Hf ρ,bg c σ H Hf ρ→p.ct ρ→D.ct σ H
noncomputable def eE (st:Stmt) (ρ:List Sl) (nx:List Sl→Prop) (p:Pt):Prop :=
 ∀ (σ:L2.St) (H Hf:Hp) (D:Ends),bg c σ H Hf ρ→yW c nx p D→bS c.X st D σ H
noncomputable def bf (st:List Stmt) (ρ:List Sl) (nx:List Sl→Prop) (p:Pt):Prop :=
 ∀ (σ:L2.St) (H Hf:Hp) (D:Ends),bg c σ H Hf ρ→yW c nx p D→Gw c.X st D σ H
noncomputable def mJ (tg:Expr) (d:D) (ρ:List Sl) (R:List Sl→Prop):Prop :=
 ∀ (σ:L2.St) (H Hf:Hp) (v:V) (Q:L2.St→Hp→Prop),bg c σ H Hf ρ→Rep c.X.K Hf d v→(∀ σ' H' aj ρ',bg c σ' H' aj ρ'→aZ H Hf H' aj→R ρ'→Q σ' H')→bG c.X tg v σ H Q
variable {c}
noncomputable def Sl.fz:Sl→Option D
 | .va d=>some d
 | .ow ds=>some (.lst ds)
 | _=>none
noncomputable def Gx (R:D→Prop) (r:Sl):Prop:=∃ d,r.fz=some d∧R d
theorem Gy (e:r.fz=some d) (h:aS K (fun p=>H p=none) H' aj r v) (g:aZ H Hf H' aj) :
 ∃ cD,Rep K cD d v∧aZ H Hf H' cD:=by
 cases r with
 | un=>cases e
 | va d'=>cases e; exact ⟨aj,h,g⟩
 | oT _=>cases e
 | oK _=>cases e
 | aw _ _=>cases e
 | aT _ _=>cases e
 | aK _ _=>cases e
 | fo _=>cases e
 | ow ds =>
  cases e
  obtain ⟨p,xs,rfl,hp,h1,h2,h3⟩:=h
  have sf:aD aj (upd aj p (.lst xs)):=fun b o e=>by rw [ak (az e h2)]; exact e
  have sb:aD (upd aj p (.lst xs)) H':=fun b o e=>by
   by_cases q:b=p
   ·subst q; rw [ah] at e; rw [h1]; exact e
   ·rw [ak q] at e; exact g.b b o e
  refine ⟨upd aj p (.lst xs),aR.mpr ⟨p,xs,rfl,.inl (.inl ah),h3.mono sf⟩,g.s,g.f.trans sf,sb,fun b q1 q2 q3=>?_⟩
  have e:=g.n b q1 q2 q3
  by_cases q:b=p
  ·subst q; exact absurd hp q2
  ·rw [ak q]; exact e
theorem e_x (h:c6 c e ρ (Gx R)):aF c e ρ R:=fun σ H Hf Q S q =>
 h σ H Hf Q S fun r v H' aj ⟨d,e1,rd⟩ rs g=>let ⟨cD,h1,g2⟩:=Gy e1 rs g; q d v H' cD rd h1 g2
theorem IU (h:aF c e ρ fun d=>R (.va d)):c6 c e ρ R:=fun σ H Hf Q S q =>
 h σ H Hf Q S fun d v H' aj rd h1 g=>q (.va d) v H' aj rd h1 g
theorem aF.imp (h:aF c e ρ R) (hi:∀ d,R d→R' d):aF c e ρ R':=fun σ H Hf Q S q=>h σ H Hf Q S fun d v H' aj rd=>q d v H' aj (hi d rd)
theorem c6.imp (h:c6 c e ρ R) (hi:∀ d,R d→R' d):c6 c e ρ R':=fun σ H Hf Q S q=>h σ H Hf Q S fun d v H' aj rd=>q d v H' aj (hi d rd)
theorem jg.imp (h:jg c e ρ R) (hi:∀ d,R d→R' d):jg c e ρ R':=fun σ H Hf Q S q=>h σ H Hf Q S fun d H' aj rd=>q d H' aj (hi d rd)
theorem uE (hN:At N i x) (hs:At ρ i (.va d)) (hR:R d)
 (hd:(x == ("__debug__":Str))=false:=by decide) (hcd:(x == ("__classdict__":Str))=false:=by decide) :
 aF c (.Name x pos) ρ R:=fun σ H Hf Q S q=>by
 obtain ⟨v,e,r⟩:=S.va hs.get
 exact bF (rS (X:=c.X) (i:=i) (by rw [c.eN]; exact hN.get) (by rw [c.esc]; rcases c.vis x hN.mem with h | h; exact .inl h; exact .inr (.inl h)) hd hcd) ⟨v,e,q d v H Hf hR r (.refl S.sb)⟩
theorem JE (hR:R (.int i)):aF c (.Constant (.int i) j pos) ρ R:=fun σ H Hf Q S q =>
 bF yq (q _ _ H Hf hR (av.mpr rfl) (.refl S.sb))
theorem LN (hR:R (.bl i)):aF c (.Constant (.bool i) j pos) ρ R:=fun σ H Hf Q S q =>
 bF ES (q _ _ H Hf hR (dY.mpr rfl) (.refl S.sb))
theorem sj (hm:mg x=some (.int i t)) (hR:R (.int i)) (hg:sc.names.lookup x=some .globalImplicit:=by walk_at "u") (hd:(x == ("__debug__":Str))=false:=by decide) :
 aF c (.Name x pos) ρ R:=fun σ H Hf Q S q =>
 bF (uh (X:=c.X) (v:=.int i) (u:=.int i t) (by unfold Gl Nz; rw [c.esc]; exact hg) (by rw [c.emg]; exact hm) ⟨t,rfl⟩ hd) (q _ _ H Hf hR (av.mpr rfl) (.refl S.sb))
noncomputable def K5 (K:MI) (r:R2) (p:D→D→(Sl→Prop)→Prop):Prop :=
 ∀ (x y:D) (v u:V) (H Hf:Hp) (Q:VK) (R:Sl→Prop),aD Hf H→Rep K Hf x v→Rep K Hf y u→p x y R →
  (∀ z v' H' aj,R z→aS K (fun p=>H p=none) H' aj z v'→aZ H Hf H' aj→Q v' H')→r v u H Q
theorem nQ (ho:eX c.X (binaryOp op) r) (hd:K5 c.X.K r p)
 (h:aF c a ρ fun x=>aF c b ρ fun y=>p x y R):c6 c (.BinOp a op b pos) ρ R:=fun σ H Hf Q S q =>
 bF (yz ho cO cO) (h σ H Hf _ S fun x v1 H1 aI h1 r1 g1=>h1 σ H1 aI _ (S.ck g1) fun y v2 H2 cD h2 r2 g2 =>
  hd x y v1 v2 H2 cD Q R g2.b (Rep.mono g2.f x r1) r2 h2 fun z v' H' aj hz rz g3 =>
   q z v' H' aj hz (rz.weak fun p hp=>(g1.trans g2).s.free hp) ((g1.trans g2).trans g3))
theorem mK {f:Int→Int→Int}:K5 K (rI C fun i j=>.int (f i j)) fun x y R=>∃ i j,x=.int i∧y=.int j∧C i j∧R (.va (.int (f i j))):=by
 rintro x y v u H Hf Q R s rx ry ⟨i,j,rfl,rfl,hC,hR⟩ q
 rw [av] at rx ry
 exact ⟨i,j,rx,ry,hC,q (.va (.int (f i j))) _ H Hf hR (show Rep K Hf (.int (f i j)) _ from av.mpr rfl) (.refl s)⟩
theorem yX {f:Int→Int→Int}:K5 K (uo fun i j=>.int (f i j)) fun x y R=>∃ i j,x=.int i∧y=.int j∧R (.va (.int (f i j))):=by
 rintro x y v u H Hf Q R s rx ry ⟨i,j,rfl,rfl,hR⟩ q
 rw [av] at rx ry
 exact ⟨i,j,rx,ry,q (.va (.int (f i j))) _ H Hf hR (show Rep K Hf (.int (f i j)) _ from av.mpr rfl) (.refl s)⟩
theorem iH (h:c6 c e ρ fun r=>∃ d,r=.va d∧R d):aF c e ρ R:=e_x (h.imp fun r ⟨d,e,hr⟩=>⟨d,by subst e; rfl,hr⟩)
noncomputable def jC:D→D→Bool
 | .non,.non=>true | .non,.int _=>true | .int _,.non=>true | .non,.bl _=>true | .bl _,.non=>true | .non,.str _=>true | .str _,.non=>true
 | .int _,.int _=>true | .bl _,.bl _=>true | .str _,.str _=>true | .int _,.str _=>true | .str _,.int _=>true | .bl _,.str _=>true | .str _,.bl _=>true
 | _,_=>false
noncomputable instance:DecidableEq D:=fun _ _=>Classical.propDecidable _
inductive kC:Nat→D→D→Prop where
 | sc {n:Nat} {x y:D} (h:jC x y=true):kC n x y
 | tup {n:Nat} {ds es:List D} (h:∀ (i:Nat) (d e:D),ds[i]?=some d→es[i]?=some e→kC n d e):kC (n+1) (.tup ds) (.tup es)
 | lst {n:Nat} {ds es:List D} (h:∀ (i:Nat) (d e:D),ds[i]?=some d→es[i]?=some e→kC n d e):kC (n+1) (.lst ds) (.lst es)
 | ln {n:Nat} {ds:List D}:kC n (.lst ds) .non
 | nl {n:Nat} {ds:List D}:kC n .non (.lst ds)
 | tn {n:Nat} {ds:List D}:kC n (.tup ds) .non
 | nt {n:Nat} {ds:List D}:kC n .non (.tup ds)
noncomputable def nR (ds es:List D):Prop:=∀ (i:Nat) (d e:D),ds[i]?=some d→es[i]?=some e→kC 40 d e
noncomputable def JF (x y:D):Prop:=jC x y=true∨∃ ds es,((x=.tup ds∧y=.tup es)∨(x=.lst ds∧y=.lst es))∧nR ds es
section
variable {a b:Expr} {pos:Pos} {ρ:List Sl} {R:D→Prop}
structure Sd (A B:Prop):Prop where
 s:A
 r:B
structure mO (A B:Prop) (x:Bool):Prop where
 t:x=true→A
 f:x=false→B
theorem JG (h1:A):mO A B true:=⟨fun _=>h1,fun h=>by cases h⟩
theorem JH (h1:B):mO A B false:=⟨fun h=>(by cases h),fun _=>h1⟩
theorem CW (h1:p→A) (h2:¬ p→B):mO A B (@decide p i):=⟨fun h=>h1 (of_decide_eq_true h),fun h=>h2 (of_decide_eq_false h)⟩
theorem CY (h:mO B A x):mO A B (!x):=⟨fun e=>h.f (by simpa using e),fun e=>h.t (by simpa using e)⟩
noncomputable def CZ (x y:D) (T:Bool→Prop):Prop:=JF x y∧T (decide (x=y))
theorem C0 (h:T (decide (i=j))):CZ (.int i) (.int j) T:=⟨.inl rfl,by
 have e:decide (D.int i=D.int j)=decide (i=j):=by simp
 rw [e]; exact h⟩
theorem C1 (h:Sd (nR ds es) (T (decide (ds=es)))):CZ (.lst ds) (.lst es) T:=⟨.inr ⟨ds,es,.inr ⟨rfl,rfl⟩,h.s⟩,by
 have e:decide (D.lst ds=D.lst es)=decide (ds=es):=by simp
 rw [e]; exact h.r⟩
noncomputable def I2 (k:Int→Int→Prop):D→D→Prop:=fun x y=>∃ i j,x=.int i∧y=.int j∧k i j
theorem i2 {k:Int→Int→Prop} (h:k i j):I2 k (.int i) (.int j):=⟨i,j,rfl,rfl,h⟩
noncomputable def I1 (k:Int→Prop):D→Prop:=fun x=>∃ i,x=.int i∧k i
theorem i1 {k:Int→Prop} (h:k i):I1 k (.int i):=⟨i,rfl,h⟩
noncomputable def B1 (k:Bool→Prop):D→Prop:=fun x=>∃ i,x=.bl i∧k i
theorem b1 {k:Bool→Prop} (h:k i):B1 k (.bl i):=⟨i,rfl,h⟩
theorem JI (h:aF c a ρ fun x=>aF c b ρ fun y=>I2 (fun i j=>R (.int (i - j))) x y):aF c (.BinOp a .Sub b pos) ρ R :=
 iH (nQ F4 yX (h.imp fun x hx=>hx.imp fun y ⟨i,j,e1,e2,r⟩=>⟨i,j,e1,e2,_,rfl,r⟩))
noncomputable def MulOk (i j:Int):Prop:=IntMulOk i j
noncomputable def yY (j:Int):Prop:=0<j∧j.natAbs.log2<9000
theorem C9:eX c.X (binaryOp .Mult) (rI MulOk fun i j=>.int (i * j)):=IP fun _ _ _ _ _ _ _ hc q=>mul_int q hc
theorem yZ:eX c.X (binaryOp .FloorDiv) (rI (fun _ j=>yY j) fun i j=>.int (i / j)):=IP fun i j _ _ _ _ _ hc q=>by
 have h1:(0:Int)<j:=hc.1
 exact floordiv_int (by lia) (by rw [Int.fdiv_eq_ediv_of_nonneg i (by lia)]; exact q) (.inl (PyProof.noPylong_of_log2 hc.2))
theorem JJ (h:aF c a ρ fun x=>aF c b ρ fun y=>I2 (fun i j=>Sd (MulOk i j) (R (.int (i * j)))) x y):aF c (.BinOp a .Mult b pos) ρ R :=
 iH (nQ C9 mK (h.imp fun x hx=>hx.imp fun y ⟨i,j,e1,e2,⟨hc,r⟩⟩=>⟨i,j,e1,e2,hc,_,rfl,r⟩))
theorem Gz (h:aF c a ρ fun x=>aF c b ρ fun y=>I2 (fun i j=>Sd (yY j) (R (.int (i / j)))) x y):aF c (.BinOp a .FloorDiv b pos) ρ R :=
 iH (nQ yZ mK (h.imp fun x hx=>hx.imp fun y ⟨i,j,e1,e2,⟨hc,r⟩⟩=>⟨i,j,e1,e2,hc,_,rfl,r⟩))
theorem JK (h:aF c a ρ fun x=>aF c b ρ fun y=>I2 (fun i j=>Sd (0<j) (R (.int (i % j)))) x y):aF c (.BinOp a .Mod b pos) ρ R :=
 iH (nQ F5 mK (h.imp fun x hx=>hx.imp fun y ⟨i,j,e1,e2,⟨hc,r⟩⟩=>⟨i,j,e1,e2,hc,_,rfl,r⟩))
theorem JL (h:aF c a ρ fun x=>aF c b ρ fun y=>I2 (fun i j=>Sd (rX i j) (R (.int (i ^ j.toNat)))) x y):aF c (.BinOp a .Pow b pos) ρ R :=
 iH (nQ F6 mK (h.imp fun x hx=>hx.imp fun y ⟨i,j,e1,e2,⟨hc,r⟩⟩=>⟨i,j,e1,e2,hc,_,rfl,r⟩))
theorem JM (h:aF c a ρ (I1 fun i=>R (.int (-i)))):aF c (.UnaryOp .USub a pos) ρ R:=fun σ H Hf Q S q =>
 bF (Jl Ga cO) (h σ H Hf _ S fun x v H' aj hx r g=>by
  obtain ⟨i,rfl,hR⟩:=hx
  rw [av] at r
  exact ⟨i,r,q _ _ H' aj hR (av.mpr rfl) g⟩)
noncomputable def y9 (K:MI) (r:R2) (p:D→D→(Bool→Prop)→Prop):Prop :=
 ∀ (x y:D) (v u:V) (H Hf:Hp) (Q:VK) (R:Bool→Prop),aD Hf H→Rep K Hf x v→Rep K Hf y u→p x y R→(∀ b,R b→Q (.bl b) H)→r v u H Q
theorem JN (ho:eX c.X (compareOp op) r) (hd:y9 c.X.K r p) (h:aF c a ρ fun x=>aF c b ρ fun y=>p x y fun z=>R (.bl z))
 (hm:behindInMarks op b=false):aF c (.Compare a [op] [b] pos) ρ R:=fun σ H Hf Q S q =>
 bF (CA ho cO cO hm) (h σ H Hf _ S fun x v1 H1 aI h1 r1 g1=>h1 σ H1 aI _ (S.ck g1) fun y v2 H2 cD h2 r2 g2 =>
  hd x y v1 v2 H2 cD Q _ g2.b (Rep.mono g2.f x r1) r2 h2 fun z hz=>q _ _ H2 cD hz (dY.mpr rfl) (g1.trans g2))
theorem pS (ho:eX c.X (compareOp op) r) (hd:y9 c.X.K r p) (h:aF c a ρ fun x=>aF c b ρ fun y=>p x y T)
 (hm:behindInMarks op b=false):jg c (.Compare a [op] [b] pos) ρ T:=fun σ H Hf Q S q =>
 uD (CB ho cO cO hm) (h σ H Hf _ S fun x v1 H1 aI h1 r1 g1=>h1 σ H1 aI _ (S.ck g1) fun y v2 H2 cD h2 r2 g2 =>
  hd x y v1 v2 H2 cD _ T g2.b (Rep.mono g2.f x r1) r2 h2 fun z hz=>⟨z,rfl,q _ H2 cD hz (g1.trans g2)⟩)
theorem za {f:Int→Int→Bool}:y9 K (uo fun i j=>.bl (f i j)) fun x y R=>I2 (fun i j=>R (f i j)) x y:=by
 rintro x y v u H Hf Q R s rx ry ⟨i,j,rfl,rfl,hR⟩ q
 rw [av] at rx ry
 exact ⟨i,j,rx,ry,q _ hR⟩
theorem uF (h:jC x y=true) (rx:Rep K H x v) (ry:Rep K H y u):Cz v u=true∧decide (v=u)=decide (x=y):=by
 cases x <;> cases y <;> simp [jC] at h <;> simp only [av,dY,bM,eZ] at rx ry <;> subst rx <;> subst ry <;> simp [Cz]
theorem LO (h:aF c a ρ fun x=>aF c b ρ fun y=>I2 (fun i j=>T (decide (i<j))) x y):jg c (.Compare a [.Lt] [b] pos) ρ T:=pS Jp za h (jd b)
theorem LP (h:aF c a ρ fun x=>aF c b ρ fun y=>I2 (fun i j=>T (decide (j<i))) x y):jg c (.Compare a [.Gt] [b] pos) ρ T:=pS Jq za h (jd b)
theorem LQ (h:aF c a ρ fun x=>aF c b ρ fun y=>I2 (fun i j=>T (decide (j≤i))) x y):jg c (.Compare a [.GtE] [b] pos) ρ T:=pS Jr za h (jd b)
end
end
section
variable {K:MI} {c:Ctx P w K mg base k N sc bk}
variable {es rest:List Expr}
noncomputable def bW (X:Cx) (e:Expr):TT:=fun σ H Q=>∀ whole aa s,Inv X aa σ H s→wpAny (model X.prog X.w) X.A (isTrue e X.env whole) (TP X aa σ Q) X.xe s
theorem Ml:PW X e (bW X e):=fun whole aa s σ H Q I h=>h whole aa s I
theorem uG (h:PW X e t) (q:t σ H Q):bW X e σ H Q:=fun whole aa s I=>h whole aa s σ H Q I q
noncomputable def E0 (c:Ctx P w K mg base k N sc bk) (e:Expr) (ρ:List Sl) (R:Bool→Prop):Prop :=
 ∀ (σ:L2.St) (H Hf:Hp) (Q:Bool→Hp→Prop),bg c σ H Hf ρ→(∀ b H' aj,R b→aZ H Hf H' aj→Q b H')→bW c.X e σ H Q
theorem Mm (h:E0 c e ρ T):jg c e ρ T:=fun σ H Hf Q S q aa s I=>h σ H Hf Q S q _ aa s I
theorem GA (h:jg c a ρ T):E0 c (.BoolOp .And [a] pos) ρ T:=fun σ H Hf Q S q=>uG (pw_and1 EY) (h σ H Hf Q S q)
theorem JO (h:jg c a ρ T):E0 c (.BoolOp .Or [a] pos) ρ T:=fun σ H Hf Q S q=>uG (pw_or1 EY) (h σ H Hf Q S q)
theorem w_and (h:jg c a ρ (mO (E0 c (.BoolOp .And (b::rest) pos) ρ T) (T false))):E0 c (.BoolOp .And (a::b::rest) pos) ρ T:=fun σ H Hf Q S q =>
 uG (pw_and EY Ml) (h σ H Hf _ S fun x H' aj hx g=>by
  cases x with
  | true=>exact hx.t rfl σ H' aj Q (S.ck g) fun y H2 cD hy g2=>q y H2 cD hy (g.trans g2)
  | false=>exact q false H' aj (hx.f rfl) g)
theorem w_or (h:jg c a ρ (mO (T true) (E0 c (.BoolOp .Or (b::rest) pos) ρ T))):E0 c (.BoolOp .Or (a::b::rest) pos) ρ T:=fun σ H Hf Q S q =>
 uG (pw_or EY Ml) (h σ H Hf _ S fun x H' aj hx g=>by
  cases x with
  | false=>exact hx.f rfl σ H' aj Q (S.ck g) fun y H2 cD hy g2=>q y H2 cD hy (g.trans g2)
  | true=>exact q true H' aj (hx.t rfl) g)
theorem JP (h:jg c a ρ fun x=>T (!x)):jg c (.UnaryOp .Not a pos) ρ T:=fun σ H Hf Q S q =>
 uD (FN EY) (h σ H Hf _ S fun x H' aj hx g=>q _ H' aj hx g)
theorem JQ (h:aF c a ρ R):aF c (.BoolOp op [a] pos) ρ R:=fun σ H Hf Q S q=>bF (FO cO) (h σ H Hf Q S q)
theorem JR (h:aF c a ρ (B1 (mO (aF c (.BoolOp .And (b::rest) pos) ρ R) (R (.bl false))))):aF c (.BoolOp .And (a::b::rest) pos) ρ R:=fun σ H Hf Q S q =>
 bF (FP cO cO) (h σ H Hf _ S fun x v H' aj ⟨k,e,h1⟩ r g=>by
  subst e
  rw [dY] at r
  refine ⟨k,r,?_⟩
  cases k with
  | true=>rw [if_pos rfl]; exact h1.t rfl σ H' aj Q (S.ck g) fun y v2 H2 cD hy r2 g2=>q y v2 H2 cD hy r2 (g.trans g2)
  | false=>rw [if_neg MV]; exact q _ _ H' aj (h1.f rfl) (dY.mpr rfl) g)
theorem Dc {R:Sl→Prop} (h:jg c t ρ (mO (c6 c a ρ R) (c6 c b ρ R))):c6 c (.IfExp t a b pos) ρ R:=fun σ H Hf Q S q =>
 bF (yr EY cO cO) (h σ H Hf _ S fun x H' aj hx g=>by
  cases x with
  | true=>rw [if_pos rfl]; exact hx.t rfl σ H' aj Q (S.ck g) fun y v2 H2 cD hy r2 g2=>q y v2 H2 cD hy (r2.weak fun p hp=>g.s.free hp) (g.trans g2)
  | false=>rw [if_neg MV]; exact hx.f rfl σ H' aj Q (S.ck g) fun y v2 H2 cD hy r2 g2=>q y v2 H2 cD hy (r2.weak fun p hp=>g.s.free hp) (g.trans g2))
theorem Dd (h:jg c t ρ (mO (aF c a ρ R) (aF c b ρ R))):aF c (.IfExp t a b pos) ρ R :=
 iH (Dc (h.imp fun x hx=>⟨fun e=>IU ((hx.t e).imp fun d h=>⟨d,rfl,h⟩),fun e=>IU ((hx.f e).imp fun d h=>⟨d,rfl,h⟩)⟩))
theorem JS (h:aF c e ρ (B1 T)) (he:∀ (env:Env) whole,isTrue e env whole=(do let v ← whole; standAt e.pos; holding [v] (truthy v)):=by intro _ _; walk_at "u"):jg c e ρ T:=fun σ H Hf Q S q =>
 uD (FL cO (he _)) (h σ H Hf _ S fun x v H' aj ⟨k,e,h1⟩ r g=>by
  subst e; rw [dY] at r
  exact ⟨k,r,q k H' aj h1 g⟩)
theorem kD {R:List D→Prop} (h:R []):pR c [] ρ R:=fun σ H Hf Q S q=>mH c8 (q [] [] H Hf h (ay.mpr rfl) (.refl S.sb))
theorem dI {R:List D→Prop} (h:aF c e ρ fun d=>pR c es ρ fun ds=>R (d::ds)) (hs:∀ env,starEach (e::es) env=(false,eval e env)::starEach es env:=by intro _; walk_at "u"):pR c (e::es) ρ R:=fun σ H Hf Q S q =>
 mH (bL cO CV (hs _)) (h σ H Hf _ S fun d v H1 aI h1 r1 g1=>h1 σ H1 aI _ (S.ck g1) fun ds vs H2 cD h2 r2 g2=>q _ _ H2 cD h2 (.cons (Rep.mono g2.f d r1) r2) (g1.trans g2))
theorem E1 (h:pR c es ρ fun ds=>Sd (ds.length≤sizeLine) (R (.tup ds))):aF c (.Tuple es j pos) ρ R:=fun σ H Hf Q S q =>
 bF (yE CV) (h σ H Hf _ S fun ds vs H' aj ⟨hl,hR⟩ r g=>⟨by rw [← r.length]; exact hl,fun p hp=>by
  have g2:=aZ.new g.b hp (o:=.tup vs)
  exact q _ _ _ _ hR (aE.mpr ⟨p,vs,rfl,.inl (.inl ah),r.mono g2.f⟩) (g.trans g2)⟩)
theorem E2 {R:Sl→Prop} (h:pR c es ρ fun ds=>Sd (ds.length≤sizeLine) (R (.ow ds))):c6 c (.List es pos) ρ R:=fun σ H Hf Q S q =>
 bF (Gb CV) (h σ H Hf _ S fun ds vs H' aj ⟨hl,hR⟩ r g=>⟨by rw [← r.length]; exact hl,fun p hp=>by
  have g2:=aZ.fN g.b hp (o:=.lst vs)
  exact q _ _ _ _ hR ⟨p,vs,rfl,g.s.free hp,ah,g.b.free hp,r⟩ (g.trans g2)⟩)
variable {st:Stmt}
theorem su (h:nx ρ):bf c [] ρ nx p:=fun σ H Hf D S o=>yV Cu (o.nx σ H Hf ρ S h)
theorem bq (h:eE c st ρ (fun ρ'=>bf c sts ρ' nx p) p):bf c (st::sts) ρ nx p:=fun σ H Hf D S o =>
 yV (yt MD pQ) (h σ H Hf { D with nx:=Gw c.X sts D } S ⟨fun σ' H' aj ρ' S' q=>q σ' H' aj D S' o,o.rt,o.bk,o.ct⟩)
theorem gP (h:c6 c e ρ p.rt):eE c (.Return (some e) pos) ρ nx p:=fun σ H Hf D S o =>
 dH (yu cO) (h σ H Hf _ S fun r v H' aj hr rs g=>o.rt r v H' aj (S.bas.trans g) (rs.weak fun p hp=>S.bas.s.free hp) hr)
theorem zb (hN:At N i x) (hi:At ρ i r) (hu:r.owned=true) (h:p.rt r)
 (hd:(x == ("__debug__":Str))=false:=by decide) (hcd:(x == ("__classdict__":Str))=false:=by decide) :
 eE c (.Return (some (.Name x pos2)) pos) ρ nx p:=fun σ H Hf D S o=>by
 obtain ⟨v,e,rs⟩:=S.at_ i r hi.get (by rintro rfl; cases hu)
 exact dH (yu (rS (X:=c.X) (i:=i) (by rw [c.eN]; exact hN.get) (by rw [c.esc]; rcases c.vis x hN.mem with h | h; exact .inl h; exact .inr (.inl h)) hd hcd)) ⟨v,e,o.rt r v H Hf S.bas rs h⟩
theorem JT (h:jg c t ρ (mO (bf c A ρ nx p) (bf c B ρ nx p))):eE c (.If t A B pos) ρ nx p:=fun σ H Hf D S o =>
 dH (Jf EY pQ pQ) (h σ H Hf _ S fun x H' aj hx g=>by
  cases x with
  | true=>rw [if_pos rfl]; exact hx.t rfl σ H' aj D (S.ck g) o
  | false=>rw [if_neg MV]; exact hx.f rfl σ H' aj D (S.ck g) o)
noncomputable def Nx (ρ:List Sl) (i:Nat) (R:List Sl→Prop) (r:Sl):Prop:=∃ ρ',SSet ρ i r ρ'∧R ρ'
theorem yl {R:List Sl→Prop} (h:SSet ρ i r ρ') (hr:R ρ'):Nx ρ i R r:=⟨ρ',h,hr⟩
theorem zc (hN:At N i x) (h:c6 c e ρ (Nx ρ i nx))
 (hs:∀ env,swapsWith e (some (.Name x pos2)) pos.line env=pure false:=by intro _; walk_at "u") (hf:bk=false∨sc.names.lookup x=some .local:=by first | exact .inl rfl | exact .inr (by walk_at "u")):eE c (.Assign [.Name x pos2] e pos) ρ nx p:=fun σ H Hf D S o =>
 dH (FW (X:=c.X) (i:=i) (by rw [c.eN]; exact c.nd) (by rw [c.eN]; exact hN.get) (by rw [c.esc]; exact c.vis x hN.mem) cO (hs _) (c.fn x hf)) (h σ H Hf _ S fun r v H' aj ⟨ρ',hs,hx⟩ rs g=>o.nx _ H' aj _ (hs.eq ▸ S.set g rs) hx)
theorem dJ {R:List Sl→Prop} (hN:At N i x) (h:Nx ρ i R (.va d)) (hf:bk=false∨sc.names.lookup x=some .local:=by first | exact .inl rfl | exact .inr (by walk_at "u")):mJ c (.Name x pos) d ρ R:=fun σ H Hf v Q S r q=>by
 obtain ⟨ρ',hs,h⟩:=h
 exact EZ (um (X:=c.X) (i:=i) (by rw [c.eN]; exact c.nd) (by rw [c.eN]; exact hN.get) (by rw [c.esc]; exact c.vis x hN.mem) (c.fn x hf)) (q _ H Hf _ (hs.eq ▸ S.set (.refl S.sb) (r:=.va d) r) (.refl S.sb) h)
noncomputable def wz (c:Ctx P w K mg base k N sc bk) (ts:List Expr) (ds:List D) (ρ:List Sl) (R:List Sl→Prop):Prop :=
 ∀ (σ:L2.St) (H Hf:Hp) (vs:List V) (Q:L2.St→Hp→Prop),bg c σ H Hf ρ→aq c.X.K Hf ds vs→(∀ σ' H' aj ρ',bg c σ' H' aj ρ'→aZ H Hf H' aj→R ρ'→Q σ' H') →
  ∀ aa s us,Inv c.X aa σ H s→Vals vs us→wpAny (model c.X.prog c.X.w) c.X.A (assignInOrder ((assignEach ts c.X.env).map (·.2)) us) (fun _ s'=>∃ σ' H',Inv c.X aa σ' H' s'∧Q σ' H') c.X.xe s
theorem GB {R:List Sl→Prop} (h:R ρ):wz c [] [] ρ R:=fun σ H Hf vs Q S r q aa s us I rv=>by
 rw [ay] at r; subst r
 exact Cv aa s σ H [] us Q I rv ⟨rfl,q σ H Hf ρ S (.refl S.sb) h⟩
theorem De {R:List Sl→Prop} (hN:At N i x) (h:Nx ρ i (fun ρ'=>wz c ts ds ρ' R) (.va d))
 (hs:∀ env,(assignEach (.Name x pos::ts) env).map (·.2)=assign (.Name x pos) env::(assignEach ts env).map (·.2):=by intro _; walk_at "u") (hf:bk=false∨sc.names.lookup x=some .local:=by first | exact .inl rfl | exact .inr (by walk_at "u")):wz c (.Name x pos::ts) (d::ds) ρ R:=fun σ H Hf vs Q S r q aa s us I rv=>by
 obtain ⟨ρ',hs',h⟩:=h
 rw [aC] at r
 obtain ⟨v,vr,rfl,r1,r2⟩:=r
 have hp:IM c.X ts (fun vs' σ' H' Q'=>∀ aa s us,Inv c.X aa σ' H' s→Vals vs' us→wpAny (model c.X.prog c.X.w) c.X.A (assignInOrder ((assignEach ts c.X.env).map (·.2)) us) (fun _ s'=>∃ σ'' H'',Inv c.X aa σ'' H'' s'∧Q' σ'' H'') c.X.xe s) :=
  fun aa s σ H vs us Q I r h=>h aa s us I r
 refine yv (um (X:=c.X) (i:=i) (by rw [c.eN]; exact c.nd) (by rw [c.eN]; exact hN.get) (by rw [c.esc]; exact c.vis x hN.mem) (c.fn x hf)) hp (hs _) aa s σ H _ us Q I rv ⟨v,vr,rfl,?_⟩
 have S1:=S.set (i:=i) (.refl S.sb) (r:=.va d) (v:=v) r1
 rw [← hs'.eq] at S1
 exact h _ H Hf vr Q S1 r2 q
theorem JU {R:List Sl→Prop} (he:d=.tup ds) (hl:ds.length=ts.length) (h:wz c ts ds ρ R)
 (hn:∀ env,(assignEach ts env).length=ts.length:=by intro _; walk_at "u") (hst:∀ env,(assignEach ts env).findIdx? (·.1)=none:=by intro _; walk_at "u"):mJ c (.Tuple ts j pos) d ρ R:=fun σ H Hf v Q S r q=>by
 subst he
 rw [aE] at r
 obtain ⟨a,xs,rfl,h1,h2⟩:=r
 have hp:IM c.X ts (fun vs' σ' H' Q'=>∀ aa s us,Inv c.X aa σ' H' s→Vals vs' us→wpAny (model c.X.prog c.X.w) c.X.A (assignInOrder ((assignEach ts c.X.env).map (·.2)) us) (fun _ s'=>∃ σ'' H'',Inv c.X aa σ'' H'' s'∧Q' σ'' H'') c.X.xe s) :=
  fun aa s σ H vs us Q I r h=>h aa s us I r
 refine EZ (FT (X:=c.X) (k:=j) (n:=ts.length) c.calm hp (hn _) (hst _)) ⟨a,xs,rfl,au S.sb h1,by rw [← h2.length,hl],?_⟩
 exact h σ H Hf xs Q S h2 fun σ' H' aj ρ' S' g' hR=>q σ' H' aj ρ' S' g' hR
theorem JV (h:aF c e ρ fun d=>mJ c tg d ρ nx) (hs:∀ env,swapsWithSole [tg] e pos.line env=pure false:=by intro _; walk_at "u") (hw:∀ env,swappedStores [tg] e env=pure none:=by intro _; walk_at "u") (h1:∀ env,(assignEach [tg] env).map (·.2)=[assign tg env]:=by intro _; walk_at "u"):eE c (.Assign [tg] e pos) ρ nx p:=fun σ H Hf D S o =>
 dH (yw cO Mj (hs _) (hw _) (h1 _)) (h σ H Hf _ S fun d v H' aj hx r g=>hx σ H' aj v _ (S.ck g) r fun σ' H2 cD ρ' S' _ hR=>o.nx σ' H2 cD ρ' S' hR)
theorem JW {f:Int→Int→Int} (ho:eX c.X (inplaceOp op) (rI C fun i j=>.int (f i j))) (hN:At N i x) (hi:At ρ i (.va (.int m)))
 (h:aF c e ρ (I1 fun j=>Sd (C m j) (Nx ρ i nx (.va (.int (f m j)))))) (hf:bk=false∨sc.names.lookup x=some .local:=by first | exact .inl rfl | exact .inr (by walk_at "u")):eE c (.AugAssign (.Name x pos2) op e pos) ρ nx p:=fun σ H Hf D S o=>by
 obtain ⟨v,e1,r1⟩:=S.va hi.get
 rw [av] at r1; subst r1
 have hip:Mg c.X op (rI C fun i j=>.int (f i j)):=fun aa s σ H x y v u Q I rx ry h=>ho aa s σ H x y v u Q I rx ry h
 refine dH (FY (X:=c.X) (i:=i) (by rw [c.eN]; exact c.nd) (by rw [c.eN]; exact hN.get) (by rw [c.esc]; exact c.vis x hN.mem) cO hip (c.fn x hf)) ⟨_,e1,h σ H Hf _ S fun d v H' aj ⟨j,ed,⟨hC,ρ',hs,hn⟩⟩ r g=>?_⟩
 subst ed; rw [av] at r
 have S2:=S.set g (i:=i) (r:=.va (.int (f m j))) (show Rep c.X.K aj (.int (f m j)) (.int (f m j)) from av.mpr rfl)
 rw [← hs.eq] at S2
 exact ⟨m,j,rfl,r,hC,o.nx _ H' aj _ S2 hn⟩
theorem GC (hN:At N i x) (hi:At ρ i (.va (.int m))) (h:aF c e ρ (I1 fun j=>Nx ρ i nx (.va (.int (m - j))))) (hf:bk=false∨sc.names.lookup x=some .local:=by first | exact .inl rfl | exact .inr (by walk_at "u")) :
 eE c (.AugAssign (.Name x pos2) .Sub e pos) ρ nx p :=
 JW (C:=fun _ _=>True) (f:=fun i j=>i - j) (fun aa s σ H x y v u Q I rx ry ⟨i,j,e1,e2,_,q⟩=>Cy aa s σ H x y v u Q I rx ry ⟨i,j,e1,e2,q⟩) hN hi (h.imp fun d ⟨j,e,q⟩=>⟨j,e,trivial,q⟩) hf
theorem uH (hq:c.X.xe=fun _ _=>False) (I:Nat→List Sl→Prop) (h0:I m₀ ρ)
 (h:∀ m ρ',I m ρ'→jg c t ρ' (mO (bf c body ρ' (fun r=>∃ m',m'<m∧I m' r) { ct:=fun r=>∃ m',m'<m∧I m' r,bk:=nx,rt:=p.rt }) (nx ρ'))) :
 eE c (.While t body [] pos) ρ nx p:=fun σ H Hf D S o =>
 dH (yx (by rw [hq]; exact PassesOwn.never) EY pQ) ⟨fun m σ H=>∃ Hf ρ',bg c σ H Hf ρ'∧I m ρ',⟨m₀,Hf,ρ,S,h0⟩,fun m σ H ⟨Hf,ρ',S,hI⟩=>h m ρ' hI σ H Hf _ S fun x H' aj hx g=>by
  cases x with
  | false=>rw [if_neg MV]; exact o.nx σ H' aj ρ' (S.ck g) (hx.f rfl)
  | true =>
   rw [if_pos rfl]
   refine ⟨fun σ' H'=>∃ m',m'<m∧∃ Hf ρ',bg c σ' H' Hf ρ'∧I m' ρ',fun σ' H' ⟨m',hl,hh⟩=>⟨m',hl,hh⟩,?_⟩
   exact hx.t rfl σ H' aj _ (S.ck g) ⟨fun σ H Hf ρ S ⟨m',hl,hi⟩=>⟨m',hl,Hf,ρ,S,hi⟩,o.rt,fun σ H Hf ρ S q=>o.nx σ H Hf ρ S q,fun σ H Hf ρ S ⟨m',hl,hi⟩=>⟨m',hl,Hf,ρ,S,hi⟩⟩⟩
end
theorem pU (h:n≤1000):n≤sizeLine:=OU (wu h)
theorem zd (h:0<j) (h2:j.natAbs.log2<9000):yY j:=⟨h,h2⟩
inductive Res where
 | ok (r:Sl)
 | ex (C:Addr)
noncomputable abbrev Fn:=List D→Res→Prop
noncomputable def gv (K:MI) (F:Fn):Sp:=fun vs H Q E=>∃ Hf ds r,aD Hf H∧aq K Hf ds vs∧F ds r∧match r with
 | .ok sl=>∀ v H' aj,aZ H Hf H' aj→aS K (fun p=>H p=none) H' aj sl v→Q v H'
 | .ex C=>∀ a H',aD H H'→E (.ref C) (some a) H'
structure dz (P:Program) (w:World) (K:MI) (mg:Str→Option Value) (base:Heap) (k:Nat) (x:Str) (F:Fn):Prop where
 ex:∃ f fd ps,mg x=some (.ref f)∧Oq K (.ref f)=true∧Binds K fd ps []∧bz P w K mg base (dR P w) k f fd ps (gv K F)
section
variable {K:MI} {c:Ctx P w K mg base k N sc bk}
noncomputable def GD (c:Ctx P w K mg base k N sc bk) (ρ:List Sl) (R:Sl→Prop):Res→Prop
 | .ok sl=>R sl
 | .ex C=>c.RX C ρ
theorem Df (h:dz P w K mg base j x F) (hj:j≤k):∃ f,mg x=some (.ref f)∧Oq K (.ref f)=true ∧
 ∀ (aa:List (Addr×Obj)) (σ:L2.St) (H Hf:Hp) (s:Shared) (us:List Value) (vs:List V) (ds:List D) (r:Res) (Q:VK),Inv c.X aa σ H s→bg c σ H Hf ρ→Vals vs us→aq c.X.K Hf ds vs→F ds r →
  (∀ sl v H' aj,r=.ok sl→aS c.X.K (fun p=>H p=none) H' aj sl v→aZ H Hf H' aj→Q v H')→(∀ C,r=.ex C→c.RX C ρ)→wpAny (model c.X.prog c.X.w) c.X.A (call (.ref f) us) (EP c.X aa σ Q) c.X.xe s:=by
 obtain ⟨f,fd,ps,hm,hk,hb,hF⟩:=h.ex
 refine ⟨f,hm,hk,fun aa σ H Hf s us vs ds r Q I S rv rs hr q hx=>?_⟩
 have hF':bz c.X.prog c.X.w c.X.K c.X.mg c.X.base (dR c.X.prog c.X.w) k f fd ps (gv c.X.K F):=by rw [c.eP,c.ew,c.eK,c.emg,c.eb]; exact hF.mono hj
 have pe:gv c.X.K F vs H Q (fun cv ao H'=>∃ C,r=.ex C∧cv=.ref C∧aD H H'):=by
  refine ⟨Hf,ds,r,S.bas.b,rs,hr,?_⟩
  cases r with
  | ok sl=>exact fun v H' aj g rs2=>q sl v H' aj rfl rs2 g
  | ex C=>exact fun a H' s2=>⟨C,rfl,rfl,s2⟩
 have hl:us.length=ps.length:=by rw [← rv.length]; exact hF'.len _ _ _ _ pe
 have hb':Binds c.X.K fd ps []:=by rw [c.eK]; exact hb
 have hb2:=hb' s us I.nI (by simpa using hl)
 rw [NR] at hb2
 refine PU (PK (hF'.run c.X.A c.X.stack s H ⟨us,[]⟩ us vs Q _ c.room I.CD hb2 rv pe) fun r' s' hq=>?_)
 cases r' with
 | error e =>
  obtain ⟨a,C,H',rfl,hE,C',e1,e2,sm⟩:=hq
  cases e2
  exact c.exc C a aa σ H Hf ρ s H' s' I S (hx C e1) hE sm
 | ok fl =>
  cases fl with
  | ret u=>exact I.after hq
  | next=>exact NK hq
  | brk=>exact NK hq
  | cont=>exact NK hq
theorem x_call {R:Sl→Prop} (h:dz P w K mg base j x F) (hj:j≤k)
 (ha:pR c (e::es) ρ fun ds=>∃ r,F ds r∧GD c ρ R r)
 (hg:sc.names.lookup x=some .globalImplicit:=by walk_at "u") (hdb:(x == ("__debug__":Str))=false:=by decide) (he:∀ env,starEach (e::es) env=(false,eval e env)::starEach es env:=by intro _; walk_at "u")
 (hpl:∀ env,(backTo pos (starEach es env)).any (·.1)=false:=by intro _; walk_at "u"):c6 c (.Call (.Name x p) (e::es) [] pos) ρ R:=fun σ H Hf Q S q aa s I=>by
 obtain ⟨f,hm,hk,run⟩:=Df (c:=c) (ρ:=ρ) h hj
 refine Ol (iD I (by unfold Gl Nz; rw [c.esc]; exact hg) (by rw [c.emg]; exact hm) ?_ hdb)
 refine QW (h₀:=c.X.base) I.ok.mod.kin (by rw [c.eK]; exact hk) (bw (ha σ H Hf (fun vs H1=>∃ aI ds,(∃ r,F ds r∧GD c ρ R r)∧aq c.X.K aI ds vs∧aZ H Hf H1 aI) S (fun ds vs H1 aI hr rs g=>⟨aI,ds,hr,rs,g⟩) pos aa s I) fun us s1 hh=>z2 hh fun vs H1 hh=>w3 hh fun I1 rv hh=>z2 hh fun aI ds hh=>w3 hh fun hh rs g=>hh.elim fun r hh=>w2 hh fun hF hR=>⟨I1.nI,?_⟩) (he _) (hpl _)
 refine run aa σ H1 aI s1 us vs ds r Q I1 (S.ck g) rv rs hF (fun sl v H' aj e1 rs2 g2=>?_) fun C e1=>?_
 ·subst e1
  exact q sl v H' aj hR (rs2.weak fun p hp=>g.s.free hp) (g.trans g2)
 ·subst e1
  exact hR
theorem cG (h:dz P w K mg base j x F) (hj:j≤k)
 (ha:pR c (e::es) ρ fun ds=>∃ r,F ds r∧GD c ρ (Gx R) r)
 (hg:sc.names.lookup x=some .globalImplicit:=by walk_at "u") (hdb:(x == ("__debug__":Str))=false:=by decide) (he:∀ env,starEach (e::es) env=(false,eval e env)::starEach es env:=by intro _; walk_at "u")
 (hpl:∀ env,(backTo pos (starEach es env)).any (·.1)=false:=by intro _; walk_at "u"):aF c (.Call (.Name x p) (e::es) [] pos) ρ R:=e_x (x_call h hj ha hg hdb he hpl)
noncomputable def gR (N:List Str) (ds:List D):List Sl:=ds.map .va++MY (N.length - ds.length) .un
theorem ze (r:aq K dB ds vs) (sb:aD dB H₀):cR K H₀ dB (L2.start N vs) H₀ dB (gR N ds):=by
 have hl:=r.length
 refine ⟨.refl sb,by simp [L2.start,gR,hl],fun i r' h hu=>?_,fun i j r1 r2 p hne h1 h2 o1 o2=>?_⟩
 ·by_cases q:i<ds.length
  ·have e:(gR N ds)[i]?=some (.va ds[i]):=by
    unfold gR
    rw [OH (by simpa using q)]; simp [q]
   rw [e] at h; cases h
   obtain ⟨x,e2,rx⟩:=r.get (i:=i) (d:=ds[i]) (by simp)
   refine ⟨x,?_,rx⟩
   unfold L2.start
   rw [OH (by simp; lia)]
   simp [e2]
  ·unfold gR at h
   rw [Pn (by simp; lia)] at h
   have:=NY h
   exact absurd (QG this) hu
 ·exfalso
  unfold gR at h1
  by_cases q:i<(ds.map Sl.va).length
  ·rw [OH q] at h1
   rw [MS] at h1
   cases z:ds[i]? with
   | none=>rw [z] at h1; cases h1
   | some d=>rw [z] at h1; cases h1; cases o1
  ·rw [Pn (by lia)] at h1
   have e3:=QG (NY h1)
   subst e3; cases o1
theorem dS {st:Stmt} (Fu:fM K x qual st f fd) (Sc:aL N ps (af st)) (Vi:∀ x∈N,Loc (af st) x) (ar:∀ ds r,F ds r→ds.length=ps.length)
 (hok:∀ ds r,F ds r→∃ sl,r=.ok sl)
 (body:∀ (c:Ctx P w K mg base k N (af st) false),c.X.xe=(fun _ _=>False)→∀ ds sl,F ds (.ok sl)→bf c (aB st) (gR N ds) (fun _=>sl=.va .non) { rt:=fun r=>r=sl }) :
 bz P w K mg base (dR P w) (k+1) f fd ps (gv K F):=by
 obtain ⟨oc,od,kV,doc,pm,an,cdv,ct,osl,rfl,lk,hcd⟩:=Fu.ex
 refine yF lk hcd Sc (fun vs H Q E ⟨Hf,ds,r,_,rs,hF,_⟩=>by rw [← rs.length]; exact ar _ _ hF) fun A outer s H vs Q E hr ⟨Hf,ds,r,sb,rs,hF,hq⟩=>?_
 obtain ⟨sl,rfl⟩:=hok _ _ hF
 let X:Cx:=(pD (dR P w) P w K mg base N qual (af st) f cdv A outer s H E).ET
 let c:Ctx P w K mg base k N (af st) false :=
  { X:=X,eP:=rfl,ew:=rfl,eK:=rfl,emg:=rfl,eb:=rfl,eN:=rfl,esc:=rfl,calm:=rfl,top:=fun _=>⟨rfl,rfl,rfl⟩,cb:=fun _ _ _ _ _ I x c h=>I.ok.cab x c rfl h,fn:=fun _ _=>.inl rfl,B:=H,room:=hr,nd:=Sc.nd,vis:=Vi,Hf:=Hf,RX:=fun _ _=>False,
    exc:=fun _ _ _ _ _ _ _ _ _ _ _ _ h _ _=>h.elim,RM:=fun _ _=>False,mde:=fun _ _ _ _ _ _ _ _ _ _ _ _ h _=>h.elim }
 refine ⟨_,rP.ET (t:=Gw X (aB st)) (pQ (X:=X)),?_⟩
 refine body c rfl ds sl hF (L2.start N vs) H Hf _ (ze rs sb) ⟨fun σ H' aj ρ S e=>?_,fun r v H' aj g rv e=>?_,fun _ _ _ _ _ h=>h.elim,fun _ _ _ _ _ h=>h.elim⟩
 ·subst e
  exact hq .non H' aj S.bas (show Rep K aj .non .non from bM.mpr rfl)
 ·have e:r=sl:=e
  subst e
  exact hq v H' aj g rv
noncomputable def LR (K:MI) (r:List V→Hp→VK→Prop) (p:List D→(Sl→Prop)→Prop):Prop :=
 ∀ (ds:List D) (vs:List V) (H Hf:Hp) (Q:VK) (R:Sl→Prop),aD Hf H→aq K Hf ds vs→p ds R→(∀ z v' H' aj,R z→aS K (fun p=>H p=none) H' aj z v'→aZ H Hf H' aj→Q v' H')→r vs H Q
theorem JX {id:String} {R:Sl→Prop} (hc:fJ c.X (.type id) r) (hd:LR c.X.K r q) (hm:mg x=none) (hv:bootBuiltins x=some (.type id))
 (ha:pR c (e::es) ρ fun ds=>q ds R) (hg:sc.names.lookup x=some .globalImplicit:=by walk_at "u") (hn:x≠"__name__":=by decide) (hdb:(x == ("__debug__":Str))=false:=by decide)
 (he:∀ env,starEach (e::es) env=(false,eval e env)::starEach es env:=by intro _; walk_at "u") (hpl:∀ env,(backTo pos (starEach es env)).any (·.1)=false:=by intro _; walk_at "u"):c6 c (.Call (.Name x p) (e::es) [] pos) ρ R:=fun σ H Hf Q S qq =>
 bF (mw hc (by unfold Gl Nz; rw [c.esc]; exact hg) (by rw [c.emg]; exact hm) hv CV hn hdb (he _) (hpl _))
  (ha σ H Hf _ S fun ds vs H1 aI h1 rs g=>hd ds vs H1 aI Q R g.b rs h1 fun z v' H' aj hz rz g2=>qq z v' H' aj hz (rz.weak fun p hp=>g.s.free hp) (g.trans g2))
theorem pV (h:aq K H [d] vs):∃ v,vs=[v]∧Rep K H d v:=by
 rw [aC] at h
 obtain ⟨x,r,rfl,h1,h2⟩:=h
 rw [ay] at h2; subst h2
 exact ⟨x,rfl,h1⟩
noncomputable def zf (K:MI) (r:List V→Hp→VK→Prop) (p:List D→(D→Prop)→Prop):Prop :=
 ∀ (ds:List D) (vs:List V) (H Hf:Hp) (Q:VK) (R:D→Prop),aD Hf H→aq K Hf ds vs→p ds R→(∀ d v H' aj,R d→Rep K aj d v→aZ H Hf H' aj→Q v H')→r vs H Q
theorem uI {id:String} (hc:fJ c.X (.builtin id) r) (hd:zf c.X.K r q) (hm:mg x=none) (hv:bootBuiltins x=some (.builtin id))
 (ha:pR c (e::es) ρ fun ds=>q ds R) (hg:sc.names.lookup x=some .globalImplicit) (hn:x≠"__name__") (hdb:(x == ("__debug__":Str))=false)
 (he:∀ env,starEach (e::es) env=(false,eval e env)::starEach es env) (hpl:∀ env,(backTo pos (starEach es env)).any (·.1)=false):aF c (.Call (.Name x p) (e::es) [] pos) ρ R:=fun σ H Hf Q S qq =>
 bF (yG hc (by unfold Gl Nz; rw [c.esc]; exact hg) (by rw [c.emg]; exact hm) hv CV hn hdb (he _) (hpl _))
  (ha σ H Hf _ S fun ds vs H1 aI h1 rs g=>hd ds vs H1 aI Q R g.b rs h1 fun z v' H' aj hz rz g2=>qq z v' H' aj hz rz (g.trans g2))
theorem JY {id:String} (hc:fJ c.X (.type id) r) (hd:zf c.X.K r q) (hm:mg x=none) (hv:bootBuiltins x=some (.type id))
 (ha:pR c (e::es) ρ fun ds=>q ds R) (hg:sc.names.lookup x=some .globalImplicit) (hn:x≠"__name__") (hdb:(x == ("__debug__":Str))=false)
 (he:∀ env,starEach (e::es) env=(false,eval e env)::starEach es env) (hpl:∀ env,(backTo pos (starEach es env)).any (·.1)=false):aF c (.Call (.Name x p) (e::es) [] pos) ρ R:=fun σ H Hf Q S qq =>
 bF (mw hc (by unfold Gl Nz; rw [c.esc]; exact hg) (by rw [c.emg]; exact hm) hv CV hn hdb (he _) (hpl _))
  (ha σ H Hf _ S fun ds vs H1 aI h1 rs g=>hd ds vs H1 aI Q R g.b rs h1 fun z v' H' aj hz rz g2=>qq z v' H' aj hz rz (g.trans g2))
section
end
end
end EV
namespace EV
open PySem PySem.Spec PySem.Calls PyProof.Rows L2
theorem GF (x:aX P w H h a o):∃ u,h.get? a=some u:=by
 cases o with
 | lst xs=>obtain ⟨_,_,_,_,e⟩:=x; exact ⟨_,e⟩
 | tup xs=>obtain ⟨_,_,_,ob,e,_⟩:=x; exact ⟨_,e⟩
 | dK kvs=>obtain ⟨_,_,_,_,o,_,_,e,_⟩:=x; exact ⟨_,e⟩
 | dT kvs=>obtain ⟨_,_,_,_,o,_,_,e,_⟩:=x; exact ⟨_,e⟩
 | set S n=>obtain ⟨o,_,_,_,e,_⟩:=x; exact ⟨_,e⟩
 | ins C dx fs=>obtain ⟨_,_,_,e,_⟩:=x; exact ⟨_,e⟩
 | own y=>exact x
 | xd fs=>obtain ⟨_,⟨_,_,_,e,_⟩,_⟩:=x; exact ⟨_,e⟩
 | rng lo hi=>obtain ⟨_,_,_,e⟩:=x; exact ⟨_,e⟩
 | frz ob u=>obtain ⟨e,_⟩:=x; exact ⟨_,e⟩
 | tbl ps=>exact ⟨_,x⟩
 | met f y=>exact ⟨_,x⟩
 | ext φ =>exact x.2.1
section
end
section
variable {K:MI}
end
open PySem.W Builtin Builtin.ObjectAttr Builtin.Getset_descriptor
structure K6 (K:MI) (C:Addr):Prop where
 ga:OP K (.ref C) "__getattribute__"=some (some (.builtin "BaseException.__getattribute__"))
 hk:OP K (.ref C) "__getattr__"=some none
 ca:OP K (.ref C) "__class__"=some (some (.builtin "object.__class__"))
 gt:Sa K (.builtin "object.__class__") "__get__"=some (some (.builtin "getset_descriptor.__get__"))
 tk:PySem.W.takesIn K (.builtin "object.__class__")=some true
 mo:Rm K C (.type "object")=some true
 mb:Rm K C (.type "BaseException")=some true
section
variable {prog:Program} {w:World} {A:Around} {E:Value→Shared→Prop} {s:Shared} {K:MI} {x C:Addr} {R:Result→Shared→Prop}
theorem uJ (p:se x C h):Looks M h (typeOf (.ref x)) (.ref C):=by
 obtain ⟨o,ho,hc,_⟩:=p
 rw [← hc]
 exact (Looks.ld ho).andThen .now
theorem lU (X:K.In s.heap) (L:Looks (model prog w) s.heap (typeOf (.ref x)) (.ref C)) (hm:Rm K C (.type "object")=some true)
 (h:R (.ok (.ret (.ref C))) s):codeAny (model prog w) A (.call (.builtin "getset_descriptor.__get__") ⟨[.builtin "object.__class__",.ref x,tp],[]⟩) R s:=by
 obtain ⟨hh,g,dr,t,os⟩:=s
 have L0:=L
 have L1:=looks_mroIn (M:=model prog w) X hm
 refine codeAny_call_builtin KF.slot_gs.plain KF.entry_gs (KF.slot_gs.check _ _ _ _ _ _ _ _ KF.type_class (KF.args_gs _ _ _) ?_)
 unfold Builtin.«getset_descriptor.__get__» descrGet
 rw [dga_obj]
 refine MG (MJ ?_)
 unfold descrGetter descrCheckInstance descrNameAndClass isInstance
 simp only [KF.owner_class]
 repeat lk
 refine ⟨Code.quiet_builtin _ (by decide +kernel),Qd KF.entry_class ?_⟩
 unfold Builtin.«object.__class__» shownTypeOf
 repeat lk
 exact h
theorem zg (X:K.In h) (k:K6 K C):Looks M h (find (.ref x) (.ref C) "__class__") (.bind (.builtin "getset_descriptor.__get__") (.builtin "object.__class__")):=by
 have L1:=looks_findIn (M:=M) X k.ca
 have L2:Looks M h (getOf (some (.builtin "object.__class__"))) (some (.builtin "getset_descriptor.__get__")):=looks_specialIn X k.gt
 have L3:=looks_takesIn (M:=M) X k.tk
 unfold find
 refine L1.andThen (L2.andThen ?_)
 refine Looks.andThen (a:=some (.builtin "getset_descriptor.__get__",.builtin "object.__class__")) ?_ (Looks.tag .now)
 unfold dataDescriptor?
 exact L3.andThen .now
theorem wA (X:K.In s.heap) (p:se x C s.heap) (k:K6 K C) (h:Q (some (.ref C)) { s with toks:=s.toks+1 }):wpAny (model prog w) A (getAttr? (.ref x) "__class__") Q E s:=by
 obtain ⟨hh,g,d,t,os⟩:=s
 have L0:Looks (model prog w) hh (typeOf (.ref x)) (.ref C):=uJ p
 have L1:=looks_findIn (M:=model prog w) X k.ga
 have L2:=looks_findIn (M:=model prog w) X k.hk
 have L3:=looks_mroIn (M:=model prog w) X k.mb
 have L4:=zg (M:=model prog w) (x:=x) X k
 unfold getAttr? getAttrBy? getAttrBy
 refine MG (wpAny_mkText (MG (OR (NX (MG (L0.at (MG (L1.at ?_))))))))
 dsimp only
 have hx2:(Value.builtin "BaseException.__getattribute__" == Value.builtin "object.__getattribute__")=false:=by decide +kernel
 rw [hx2,Bool.and_false,if_neg MV]
 unfold getAttrByItsOwn hookBefore
 rw [if_pos (by rfl)]
 refine MG (L2.at ?_)
 refine MG (OR (NX ?_))
 unfold callGetattribute
 rw [if_neg (by simp)]
 unfold boundAndCalled
 have f3:=PySem.F.attrBase_ValueError.ga.bind (.ref x)
 rw [f3]
 refine MG (MJ ?_)
 refine PU (codeAny_call_builtin PySem.F.attrBase_ValueError.ga.plain PySem.F.entry_bexc_ga ?_)
 have hk:builtinKind "BaseException.__getattribute__"=some .slot:=by decide +kernel
 have hsplit:splitId "BaseException.__getattribute__"=some ("BaseException","__getattribute__"):=by decide +kernel
 have ha:=PySem.F.args_bexc_ga (.ref x) (Qv "__class__" t)
 simp only [checkBuiltinCall,hk,hsplit]
 dsimp only [Om,OO]
 have LI:Looks (model prog w) hh (isInstance (.ref x) (.type "BaseException")) true:=L0.andThen L3
 refine MG (LI.at ?_)
 rw [if_neg (by decide)]
 refine Nv (Q:=fun _ s1=>s1=⟨hh,g,d,t+1,os⟩) (E:=fun _ _=>False) ?_ (fun _ s1 e1=>?_) (fun _ _ z=>z.elim)
 ·repeat (any_goals (first | assumption | rfl | wp_step))
 subst e1
 unfold «object.__getattribute__»
 repeat (first | with_reducible refine PU ?_ | lk)
 refine lU X L0 k.mo ?_
 repeat lk
 exact h
theorem zh (k:K6 K C):PySem.W.KitX K (.ref x) (.ref C) (se x C) where
 ty:=fun _ _ _ p=>uJ p
 it:=fun _ _ X _=>by
  have hdct:∃ cd,Ql K C=some cd:=by
   obtain ⟨cd,h1,_⟩:=RL.mp (show (Ql K C).bind _=some true from k.mo)
   exact ⟨cd,h1⟩
  obtain ⟨cdD,hcD⟩:=hdct
  unfold Ql at hcD
  split at hcD
  ·rename_i c' d' cd' sl' ho
   intro A' Q' E' s' k q
   unfold isType loadHead
   exact MG (wpAny_loadPart (k _ _ (X _ _ ho)) (MJ q))
  ·cases hcD
 ne:=fun h tp dd its n sl X htp=>by
  obtain ⟨cdD,hcD,_⟩:=RL.mp (show (Ql K C).bind _=some true from k.mo)
  refine Bool.eq_false_iff.mpr fun q=>?_
  have e:C=tp:=Nc.inj (beq_iff_eq.mp q)
  subst e
  unfold Ql at hcD
  split at hcD
  ·rename_i c' d' cd' sl' ho
   have z:=(X _ _ ho).symm.trans htp
   cases z
  ·cases hcD
 ca:=fun X p h=>wA X p k h
end
inductive wB (K:MI):D→Value→Prop where
 | non:wB K .non (.type "NoneType")
 | bl {x:Bool}:wB K (.bl x) (.type "bool")
 | int {i:Int}:wB K (.int i) (.type "int")
 | str {x:Str}:wB K (.str x) (.type "str")
 | lst {ds:List EV.D}:wB K (.lst ds) (.type "list")
 | tup {ds:List EV.D}:wB K (.tup ds) (.type "tuple")
 | exc {C:Addr} (k:K6 K C):wB K (.exc C) (.ref C)
section
theorem Dg (I:Inv X aa σ H s) (sb:aD Hf H) (rx:RelV v u) (rd:Rep X.K Hf d v) (ty:wB X.K d t) (e:Oa X.K t cv=some b) (h:∀ tk,Q (.bool b) { s with toks:=tk }) :
 wpAny (model X.prog X.w) A (call (.builtin "isinstance") [u,cv]) Q E s:=by
 cases ty with
 | non=>rw [bM] at rd; subst rd; cases (show u=NO from rx); exact O9 PySem.W.kitx_none I.nI Oz e (fun z=>nomatch z) h
 | bl=>rw [dY] at rd; subst rd; cases (show u=Value.bool _ from rx); exact O9 PySem.W.kitx_bool I.nI Oz e (fun z=>nomatch z) h
 | int=>rw [av] at rd; subst rd; obtain ⟨t,q⟩:=(show ∃ t,u=Qw _ t from rx); cases q; exact O9 PySem.W.kitx_int I.nI Oz e (fun z=>nomatch z) h
 | str=>rw [eZ] at rd; subst rd; obtain ⟨t,q⟩:=(show ∃ t,u=Qv _ t from rx); cases q; exact O9 PySem.W.kitx_str I.nI Oz e (fun z=>nomatch z) h
 | lst =>
  rw [aR] at rd
  obtain ⟨a,xs,rfl,h1,_⟩:=rd
  cases (show u=Nc a from rx)
  obtain ⟨its,_,p,_⟩:=I.list (sb.seq h1)
  obtain ⟨o,n1,p1,p2,_⟩:=p
  exact O9 PySem.W.kitx_list I.nI ⟨o,p1,p2⟩ e (fun z=>nomatch z) h
 | tup =>
  rw [aE] at rd
  obtain ⟨a,xs,rfl,h1,_⟩:=rd
  cases (show u=Nc a from rx)
  obtain ⟨its,_,p,_⟩:=I.tuple (au sb h1)
  obtain ⟨o,p1,p2,_⟩:=p
  exact O9 PySem.W.kitx_tuple I.nI ⟨o,p1,p2⟩ e (fun z=>nomatch z) h
 | @exc C k =>
  rw [CU] at rd
  obtain ⟨a,rfl,h1⟩:=rd
  cases (show u=Nc a from rx)
  have p:se a C s.heap:=(show aX X.prog X.w H s.heap a (.ext (se a C)) from I.hok a _ (sb _ _ h1)).1
  exact O9 (zh k) I.nI p e (fun z=>nomatch z) h
end
section
variable {K:MI} {c:Ctx P w K mg base k N sc bk}
noncomputable def iI (mg:Str→Option Value) (x:Str) (cv:Value):Prop:=(∃ C,cv=.ref C∧mg x=some (.ref C))∨(∃ T,cv=.type T∧mg x=none∧bootBuiltins x=some (.type T)∧x≠"__name__")
theorem wC:bootBuiltins "isinstance"=some (.builtin "isinstance"):=by decide +kernel
theorem nS (hm:mg "isinstance"=none) (hc:iI mg x cv) (h:aF c e ρ fun d=>∃ t b,wB K d t∧Oa K t cv=some b∧R (.bl b))
 (hgi:sc.names.lookup (MH "isinstance")=some .globalImplicit:=by walk_at "u") (hgx:sc.names.lookup x=some .globalImplicit:=by walk_at "u") (hdx:(x == ("__debug__":Str))=false:=by decide)
 (he:∀ env,starEach [e,.Name x cp] env=(false,eval e env)::starEach [.Name x cp] env:=by intro _; walk_at "u") (he2:∀ env,starEach [.Name x cp] env=[(false,eval (.Name x cp) env)]:=by intro _; walk_at "u")
 (hpl:∀ env,(backTo pos (starEach [.Name x cp] env)).any (·.1)=false:=by intro _; walk_at "u"):aF c (.Call (.Name "isinstance" np) [e,.Name x cp] [] pos) ρ R:=fun σ H Hf Q S q aa s I=>by
 refine Ol (c7 I (by unfold Gl Nz; rw [c.esc]; exact hgi) (by rw [c.emg]; exact hm) wC ?_ (by decide) (by decide))
 have hx:∀ (s1:Shared) (H1:Hp) (Q':Value→Shared→Prop),Inv c.X aa σ H1 s1→Q' cv s1→wpAny (model c.X.prog c.X.w) c.X.A (eval (.Name x cp) c.X.env) Q' c.X.xe s1:=fun s1 H1 Q' I1 q'=>by
  rcases hc with ⟨C,rfl,hm'⟩ | ⟨T,rfl,hm',hb,hn⟩
  ·exact iD I1 (by unfold Gl Nz; rw [c.esc]; exact hgx) (by rw [c.emg]; exact hm') q' hdx
  ·exact c7 I1 (by unfold Gl Nz; rw [c.esc]; exact hgx) (by rw [c.emg]; exact hm') hb q' hn hdx
 refine RC (spliced_more (h σ H Hf (fun v H1=>∃ d aI,(∃ t b,wB K d t∧Oa K t cv=some b∧R (.bl b))∧Rep c.X.K aI d v∧aZ H Hf H1 aI) S (fun d v H' aj hR r g=>⟨d,aj,hR,r,g⟩) aa s I |> (bw · fun u s1 hh=>z2 hh fun v H1 hh=>w3 hh fun I1 rv hh=>z2 hh fun d aI hh=>w3 hh fun hh rd g=>z2 hh fun t b hh=>w3 hh fun ty ek hR=>?_)) (he _)) (he _) (hpl _)
 refine spliced_more (hx s1 H1 _ I1 (spliced_none ?_)) (he2 _)
 refine Dg I1 g.b rv rd (by rw [c.eK]; exact ty) (by rw [c.eK]; exact ek) fun tk=>?_
 exact ⟨.bl b,H1,I1.tok tk,rfl,q _ _ H1 aI hR (dY.mpr rfl) g⟩
end
section
variable {X:Cx}
theorem nT (I:Inv X aa σ H s) (sb:aD Hf H):∀ (n:Nat) (d e:D) (v:V),kC n d e→Rep X.K Hf d v→Rep X.K Hf e v→d=e:=by
 intro n
 induction n with
 | zero =>
  intro d e v h r1 r2
  cases h with
  | sc h=>cases d <;> cases e <;> simp [jC] at h <;> simp_all [Rep]
  | ln=>rw [bM] at r2; subst r2; rw [aR] at r1; obtain ⟨_,_,e,_⟩:=r1; cases e
  | nl=>rw [bM] at r1; subst r1; rw [aR] at r2; obtain ⟨_,_,e,_⟩:=r2; cases e
  | tn=>rw [bM] at r2; subst r2; rw [aE] at r1; obtain ⟨_,_,e,_⟩:=r1; cases e
  | nt=>rw [bM] at r1; subst r1; rw [aE] at r2; obtain ⟨_,_,e,_⟩:=r2; cases e
 | succ n ih =>
  have els:∀ (ds es:List D) (xs:List V),(∀ (i:Nat) (d e:D),ds[i]?=some d→es[i]?=some e→kC n d e)→aq X.K Hf ds xs→aq X.K Hf es xs→ds=es:=fun ds es xs h q1 q2=>by
   apply Q6
   intro i
   cases a:ds[i]? with
   | none =>
    have:ds.length≤i:=by simpa using a
    symm
    rw [List.getElem?_eq_none_iff,q2.length,← q1.length]; exact this
   | some d =>
    obtain ⟨x,ex,rx⟩:=q1.get a
    obtain ⟨e,ee,re⟩:=q2.get' ex
    rw [ee,ih d e x (h i d e a ee) rx re]
  intro d e v h r1 r2
  cases h with
  | sc h=>cases d <;> cases e <;> simp [jC] at h <;> simp_all [Rep]
  | ln=>rw [bM] at r2; subst r2; rw [aR] at r1; obtain ⟨_,_,e,_⟩:=r1; cases e
  | nl=>rw [bM] at r1; subst r1; rw [aR] at r2; obtain ⟨_,_,e,_⟩:=r2; cases e
  | tn=>rw [bM] at r2; subst r2; rw [aE] at r1; obtain ⟨_,_,e,_⟩:=r1; cases e
  | nt=>rw [bM] at r1; subst r1; rw [aE] at r2; obtain ⟨_,_,e,_⟩:=r2; cases e
  | tup h =>
   rw [aE] at r1 r2
   obtain ⟨a,xs,rfl,p1,q1⟩:=r1
   obtain ⟨a',ys,e',p2,q2⟩:=r2
   cases e'
   have:=I.jc (au sb p1) (au sb p2)
   subst this
   rw [els _ _ _ h q1 q2]
  | lst h =>
   rw [aR] at r1 r2
   obtain ⟨a,xs,rfl,p1,q1⟩:=r1
   obtain ⟨a',ys,e',p2,q2⟩:=r2
   cases e'
   have:=I.pC (sb.seq p1) (sb.seq p2)
   subst this
   rw [els _ _ _ h q1 q2]
theorem nU {α:Type} [BEq α] [LawfulBEq α] {a b:α} {i:Decidable (a=b)}:(a == b)=@decide (a=b) i:=by
 by_cases h:a=b
 ·subst h; simp
 ·simp [h]
theorem all_range {ds es:List D} (hn:ds.length=n) (hm:es.length=m) (h:n=m):((Ny n).all fun j=>decide (ds[j]?=es[j]?))=decide (ds=es):=by
 rw [Qh,List.all_eq_true]
 simp only [Rl,decide_eq_true_eq]
 constructor
 ·intro q
  apply Q6
  intro i
  by_cases hi:i<n
  ·exact q i hi
  ·rw [Oj (by lia),Oj (by lia)]
 ·rintro rfl; intro _ _; rfl
theorem uK (h:jC x y=true) (r1:Rep X.K Hf x v) (r2:Rep X.K Hf y v') (e1:RelV v u) (e2:RelV v' u'):Nd A s u u' (decide (x=y)):=by
 cases x <;> cases y <;> simp [jC] at h <;> simp only [av,dY,bM,eZ] at r1 r2 <;> subst r1 <;> subst r2
 case non.non=>cases e1; cases e2; simpa using Nd.same _
 case non.bl b=>cases e1; cases e2; simpa using Nd.none_bool (A:=A) (s:=s) b
 case non.int i=>cases e1; obtain ⟨t,rfl⟩:=e2; simpa using Nd.none_int (A:=A) (s:=s) i t
 case non.str i=>cases e1; obtain ⟨t,rfl⟩:=e2; simpa using Nd.none_str (A:=A) (s:=s) i t
 case bl.non b=>cases e1; cases e2; simpa using Nd.bool_none (A:=A) (s:=s) b
 case bl.bl a b=>cases e1; cases e2; have q:=Nd.bool_bool (A:=A) (s:=s) a b; rw [nU (i:=inferInstance)] at q; simpa using q
 case bl.str a b=>cases e1; obtain ⟨t,rfl⟩:=e2; simpa using Nd.bool_str (A:=A) (s:=s) a b t
 case int.non a=>obtain ⟨t,rfl⟩:=e1; cases e2; simpa using Nd.int_none (A:=A) (s:=s) a t
 case int.int a b=>obtain ⟨t,rfl⟩:=e1; obtain ⟨t',rfl⟩:=e2; have q:=Nd.int_int (A:=A) (s:=s) a t b t'; rw [nU (i:=inferInstance)] at q; simpa using q
 case int.str a b=>obtain ⟨t,rfl⟩:=e1; obtain ⟨t',rfl⟩:=e2; simpa using Nd.int_str (A:=A) (s:=s) a t b t'
 case str.non a=>obtain ⟨t,rfl⟩:=e1; cases e2; simpa using Nd.str_none (A:=A) (s:=s) a t
 case str.bl a b=>obtain ⟨t,rfl⟩:=e1; cases e2; simpa using Nd.str_bool (A:=A) (s:=s) a t b
 case str.int a b=>obtain ⟨t,rfl⟩:=e1; obtain ⟨t',rfl⟩:=e2; simpa using Nd.str_int (A:=A) (s:=s) a t b t'
 case str.str a b=>obtain ⟨t,rfl⟩:=e1; obtain ⟨t',rfl⟩:=e2; have q:=Nd.str_str (A:=A) (s:=s) a t b t'; rw [nU (i:=inferInstance)] at q; simpa using q
theorem in1_units (A:Around):A.in1.units=A.units+1:=rfl
theorem uL:decide (D.tup ds=D.tup es)=decide (ds=es):=by simp
theorem jU:decide (D.lst ds=D.lst es)=decide (ds=es):=by simp
theorem nV (I:Inv X aa σ H s) {A:Around} (h:∀ (i:Nat) (d e:D),ds[i]?=some d→es[i]?=some e→kC n d e)
 (ih:∀ (d e:D) (v v':V) (u u':Value) (A:Around),kC n d e→Rep X.K Hf d v→Rep X.K Hf e v'→RelV v u→RelV v' u'→A.units+n<cLine→Nd A s u u' (decide (d=e)))
 (q1:aq X.K Hf ds xs) (q2:aq X.K Hf es ys) (r1:Vals xs us) (r2:Vals ys ws) (hu:A.in1.units+n<cLine) :
 ∀ j (h1:j<us.toArray.size) (h2:j<ws.toArray.size),Nd A.in1 s us.toArray[j] ws.toArray[j] (decide (ds[j]?=es[j]?)):=fun j h1 h2=>by
 have l1:=q1.length
 have l2:=q2.length
 have m1:=r1.length
 have m2:=r2.length
 simp only [M7] at h1 h2
 have hd:ds[j]?=some ds[j]:=M9 (by lia)
 have he:es[j]?=some es[j]:=M9 (by lia)
 obtain ⟨x,ex,rx⟩:=q1.get hd
 obtain ⟨y,ey,ry⟩:=q2.get he
 obtain ⟨u,eu,ru⟩:=r1.get ex
 obtain ⟨u',eu',ru'⟩:=r2.get ey
 have z1:us.toArray[j]=u:=by
  have:=M9 h1
  rw [this] at eu
  simpa using eu
 have z2:ws.toArray[j]=u':=by
  have:=M9 h2
  rw [this] at eu'
  simpa using eu'
 rw [z1,z2,hd,he]
 have q:=ih _ _ x y u u' A.in1 (h j _ _ hd he) rx ry ru ru' hu
 simpa using q
theorem wD (I:Inv X aa σ H s) (sb:aD Hf H):∀ (n:Nat) (d e:D) (v v':V) (u u':Value) (A:Around),kC n d e→Rep X.K Hf d v→Rep X.K Hf e v'→RelV v u→RelV v' u'→A.units+n<cLine→Nd A s u u' (decide (d=e)):=by
 have non:∀ (n:Nat) (d e:D) (v v':V) (u u':Value) (A:Around),A.units<cLine→Rep X.K Hf d v→Rep X.K Hf e v'→RelV v u→RelV v' u' →
  ((∃ ds,d=.lst ds∧e=.non)∨(∃ ds,d=.non∧e=.lst ds)∨(∃ ds,d=.tup ds∧e=.non)∨(∃ ds,d=.non∧e=.tup ds))→Nd A s u u' (decide (d=e)):=by
  intro n d e v v' u u' A hu r1 r2 e1 e2 h
  rcases h with ⟨ds,rfl,rfl⟩ | ⟨ds,rfl,rfl⟩ | ⟨ds,rfl,rfl⟩ | ⟨ds,rfl,rfl⟩
  ·rw [bM] at r2; subst r2; rw [aR] at r1; obtain ⟨a,xs,rfl,p,_⟩:=r1; cases e1; cases e2
   obtain ⟨its,_,q,_⟩:=I.list (sb.seq p)
   simpa using Nd.list_none (A:=A) q.isList hu
  ·rw [bM] at r1; subst r1; rw [aR] at r2; obtain ⟨a,xs,rfl,p,_⟩:=r2; cases e1; cases e2
   obtain ⟨its,_,q,_⟩:=I.list (sb.seq p)
   simpa using Nd.none_list (A:=A) q.isList hu
  ·rw [bM] at r2; subst r2; rw [aE] at r1; obtain ⟨a,xs,rfl,p,_⟩:=r1; cases e1; cases e2
   obtain ⟨its,_,q,_⟩:=I.tuple (au sb p)
   simpa using Nd.tuple_none (A:=A) (show s.heap.IsTuple a its.toArray from q) hu
  ·rw [bM] at r1; subst r1; rw [aE] at r2; obtain ⟨a,xs,rfl,p,_⟩:=r2; cases e1; cases e2
   obtain ⟨its,_,q,_⟩:=I.tuple (au sb p)
   simpa using Nd.none_tuple (A:=A) (show s.heap.IsTuple a its.toArray from q) hu
 intro n
 induction n with
 | zero =>
  intro d e v v' u u' A h r1 r2 e1 e2 hu
  cases h with
  | sc h=>exact uK h r1 r2 e1 e2
  | ln=>exact non 0 _ _ _ _ _ _ A (by lia) r1 r2 e1 e2 (.inl ⟨_,rfl,rfl⟩)
  | nl=>exact non 0 _ _ _ _ _ _ A (by lia) r1 r2 e1 e2 (.inr (.inl ⟨_,rfl,rfl⟩))
  | tn=>exact non 0 _ _ _ _ _ _ A (by lia) r1 r2 e1 e2 (.inr (.inr (.inl ⟨_,rfl,rfl⟩)))
  | nt=>exact non 0 _ _ _ _ _ _ A (by lia) r1 r2 e1 e2 (.inr (.inr (.inr ⟨_,rfl,rfl⟩)))
 | succ n ih =>
  intro d e v v' u u' A h r1 r2 e1 e2 hu
  cases h with
  | sc h=>exact uK h r1 r2 e1 e2
  | ln=>exact non 0 _ _ _ _ _ _ A (by lia) r1 r2 e1 e2 (.inl ⟨_,rfl,rfl⟩)
  | nl=>exact non 0 _ _ _ _ _ _ A (by lia) r1 r2 e1 e2 (.inr (.inl ⟨_,rfl,rfl⟩))
  | tn=>exact non 0 _ _ _ _ _ _ A (by lia) r1 r2 e1 e2 (.inr (.inr (.inl ⟨_,rfl,rfl⟩)))
  | nt=>exact non 0 _ _ _ _ _ _ A (by lia) r1 r2 e1 e2 (.inr (.inr (.inr ⟨_,rfl,rfl⟩)))
  | @tup _ ds es h =>
   have hh:=kC.tup h
   have r1':=r1; have r2':=r2
   rw [aE] at r1 r2
   obtain ⟨a,xs,rfl,p1,q1⟩:=r1
   obtain ⟨b,ys,rfl,p2,q2⟩:=r2
   cases e1; cases e2
   by_cases hab:a=b
   ·subst hab
    have:=nT I sb _ _ _ _ hh r1' r2'
    rw [this]
    simpa using Nd.same _
   ·obtain ⟨us,v1,t1,_⟩:=I.tuple (au sb p1)
    obtain ⟨ws,v2,t2,_⟩:=I.tuple (au sb p2)
    have key:=Pg.tuples (A:=A) (s:=s) (show s.heap.IsTuple a us.toArray from t1) (show s.heap.IsTuple b ws.toArray from t2) (by lia) (nV I h ih q1 q2 v1 v2 (by rw [in1_units]; lia))
    have hl1:us.toArray.size=ds.length:=by simp [← v1.length,q1.length]
    have hl2:ws.toArray.size=es.length:=by simp [← v2.length,q2.length]
    have e:((Ny (min us.toArray.size ws.toArray.size)).all (fun j=>decide (ds[j]?=es[j]?)) && us.toArray.size == ws.toArray.size)=decide (D.tup ds=D.tup es):=by
     rw [uL,hl1,hl2]
     by_cases hl:ds.length=es.length
     ·rw [hl,Nat.min_self]
      simp only [beq_self_eq_true,Bool.and_true]
      exact all_range hl rfl rfl
     ·have:¬ ds=es:=fun z=>hl (by rw [z])
      simp [hl,this]
    rw [e] at key
    exact .of_refs hab key
  | @lst _ ds es h =>
   have hh:=kC.lst h
   have r1':=r1; have r2':=r2
   rw [aR] at r1 r2
   obtain ⟨a,xs,rfl,p1,q1⟩:=r1
   obtain ⟨b,ys,rfl,p2,q2⟩:=r2
   cases e1; cases e2
   by_cases hab:a=b
   ·subst hab
    have:=nT I sb _ _ _ _ hh r1' r2'
    rw [this]
    simpa using Nd.same _
   ·obtain ⟨us,v1,t1,_⟩:=I.list (sb.seq p1)
    obtain ⟨ws,v2,t2,_⟩:=I.list (sb.seq p2)
    have hl1:us.toArray.size=ds.length:=by simp [← v1.length,q1.length]
    have hl2:ws.toArray.size=es.length:=by simp [← v2.length,q2.length]
    by_cases hl:ds.length=es.length
    ·have key:=Pg.lists (A:=A) (s:=s) t1.isList t2.isList (by rw [hl1,hl2,hl]) (by lia) (nV I h ih q1 q2 v1 v2 (by rw [in1_units]; lia))
     rw [hl1,all_range rfl hl.symm rfl,← jU] at key
     exact .of_refs hab key
    ·have key:=Pg.lists_lengths (A:=A) (s:=s) t1.isList t2.isList (by rw [hl1,hl2]; simpa using hl) (by lia)
     have e:decide (D.lst ds=D.lst es)=false:=by
      rw [jU]; exact decide_eq_false fun z=>hl (by rw [z])
     rw [e]
     exact .of_refs hab key
theorem pW (I:Inv X aa σ H s) (sb:aD Hf H) (hu:A.units+50<cLine) (hk:(d=.tup ds∧e=.tup es)∨(d=.lst ds∧e=.lst es)) (h:nR ds es)
 (r1:Rep X.K Hf d v) (r2:Rep X.K Hf e v') (e1:RelV v u) (e2:RelV v' u'):Pg A s u u' (decide (d=e))∧Rp A s u u' (!decide (d=e)):=by
 have ih:=wD I sb 40
 rcases hk with ⟨rfl,rfl⟩ | ⟨rfl,rfl⟩
 ·rw [aE] at r1 r2
  obtain ⟨a,xs,rfl,p1,q1⟩:=r1
  obtain ⟨b,ys,rfl,p2,q2⟩:=r2
  cases e1; cases e2
  obtain ⟨us,v1,t1,_⟩:=I.tuple (au sb p1)
  obtain ⟨ws,v2,t2,_⟩:=I.tuple (au sb p2)
  have els:=nV (A:=A) I h ih q1 q2 v1 v2 (by rw [in1_units]; lia)
  have key:=Pg.tuples (A:=A) (s:=s) (show s.heap.IsTuple a us.toArray from t1) (show s.heap.IsTuple b ws.toArray from t2) (by lia) els
  have key2:=Rp.tuples (A:=A) (s:=s) (show s.heap.IsTuple a us.toArray from t1) (show s.heap.IsTuple b ws.toArray from t2) (by lia) els
  have hl1:us.toArray.size=ds.length:=by simp [← v1.length,q1.length]
  have hl2:ws.toArray.size=es.length:=by simp [← v2.length,q2.length]
  have e:((Ny (min us.toArray.size ws.toArray.size)).all (fun j=>decide (ds[j]?=es[j]?)) && us.toArray.size == ws.toArray.size)=decide (D.tup ds=D.tup es):=by
   rw [uL,hl1,hl2]
   by_cases hl:ds.length=es.length
   ·rw [hl,Nat.min_self]
    simp only [beq_self_eq_true,Bool.and_true]
    exact all_range hl rfl rfl
   ·have:¬ ds=es:=fun z=>hl (by rw [z])
    simp [hl,this]
  rw [e] at key key2
  exact ⟨key,key2⟩
 ·rw [aR] at r1 r2
  obtain ⟨a,xs,rfl,p1,q1⟩:=r1
  obtain ⟨b,ys,rfl,p2,q2⟩:=r2
  cases e1; cases e2
  obtain ⟨us,v1,t1,_⟩:=I.list (sb.seq p1)
  obtain ⟨ws,v2,t2,_⟩:=I.list (sb.seq p2)
  have hl1:us.toArray.size=ds.length:=by simp [← v1.length,q1.length]
  have hl2:ws.toArray.size=es.length:=by simp [← v2.length,q2.length]
  by_cases hl:ds.length=es.length
  ·have els:=nV (A:=A) I h ih q1 q2 v1 v2 (by rw [in1_units]; lia)
   have key:=Pg.lists (A:=A) (s:=s) t1.isList t2.isList (by rw [hl1,hl2,hl]) (by lia) els
   have key2:=Rp.lists (A:=A) (s:=s) t1.isList t2.isList (by rw [hl1,hl2,hl]) (by lia) els
   rw [hl1,all_range rfl hl.symm rfl,← jU] at key key2
   exact ⟨key,key2⟩
  ·have key:=Pg.lists_lengths (A:=A) (s:=s) t1.isList t2.isList (by rw [hl1,hl2]; simpa using hl) (by lia)
   have key2:=Rp.lists_lengths (A:=A) (s:=s) t1.isList t2.isList (by rw [hl1,hl2]; simpa using hl) (by lia)
   have e:decide (D.lst ds=D.lst es)=false:=by
    rw [jU]; exact decide_eq_false fun z=>hl (by rw [z])
   rw [e]
   exact ⟨key,key2⟩
end
section
variable {K:MI} {c:Ctx P w K mg base k N sc bk}
noncomputable def Dh (K:MI) (neg:Bool):R2:=fun v u H Q=>∃ x y Hf,aD Hf H∧Rep K Hf x v∧Rep K Hf y u∧JF x y∧Q (.bl (if neg then !decide (x=y) else decide (x=y))) H
theorem zj:eX c.X (compareOp .Eq) (Dh c.X.K false):=fun aa s σ H v u v' u' Q I rv ru ⟨x,y,Hf,sb,rx,ry,ok,q⟩=>by
 rcases ok with h | ⟨ds,es,hk,hi⟩
 ·obtain ⟨z1,z2⟩:=uF h rx ry
  exact Jm aa s σ H v u v' u' Q I rv ru ⟨z1,by rw [z2]; exact q⟩
 ·exact (pW I sb (by have:=c.room.un; lia) hk hi rx ry rv ru).1 _ _ _ _ ⟨.bl (decide (x=y)),H,I,rfl,q⟩
theorem GG:eX c.X (compareOp .NotEq) (Dh c.X.K true):=fun aa s σ H v u v' u' Q I rv ru ⟨x,y,Hf,sb,rx,ry,ok,q⟩=>by
 rcases ok with h | ⟨ds,es,hk,hi⟩
 ·obtain ⟨z1,z2⟩:=uF h rx ry
  exact Jo aa s σ H v u v' u' Q I rv ru ⟨z1,by rw [z2]; exact q⟩
 ·exact (pW I sb (by have:=c.room.un; lia) hk hi rx ry rv ru).2 _ _ _ _ ⟨.bl (!decide (x=y)),H,I,rfl,q⟩
theorem zk:y9 K (Dh K false) fun x y R=>CZ x y R:=fun x y v u H Hf Q R s rx ry ⟨h1,h2⟩ q=>⟨x,y,Hf,s,rx,ry,h1,q _ h2⟩
theorem GH:y9 K (Dh K true) fun x y R=>CZ x y fun b=>R (!b):=fun x y v u H Hf Q R s rx ry ⟨h1,h2⟩ q=>⟨x,y,Hf,s,rx,ry,h1,q _ h2⟩
theorem LS (h:aF c a ρ fun x=>aF c b ρ fun y=>CZ x y T):jg c (.Compare a [.Eq] [b] pos) ρ T:=pS zj zk h (jd b)
theorem LU (h:aF c a ρ fun x=>aF c b ρ fun y=>CZ x y fun b=>T (!b)):jg c (.Compare a [.NotEq] [b] pos) ρ T:=pS GG GH h (jd b)
theorem LV (h:aF c a ρ fun x=>aF c b ρ fun y=>CZ x y fun b=>R (.bl b)):aF c (.Compare a [.Eq] [b] pos) ρ R:=JN zj zk h (jd b)
end
section
variable {P:Program} {w:World} {K:MI} {mg:Str→Option Value} {base:Heap} {k:Nat} {N:List Str} {sc:Scope} {bk:Bool} {c:Ctx P w K mg base k N sc bk} {ρ:List Sl} {pos:Pos} {a b e:Expr} {es:List Expr} {R:D→Prop} {T:Bool→Prop}
noncomputable def D.row:D→Option (List D)
 | .lst ds=>some ds
 | .tup ds=>some ds
 | _=>none
theorem iJ (e:d.row=some ds) (h:Rep K H d v):∃ p xs,v=.ref p∧aq K H ds xs∧((d=.lst ds∧gu K H p xs)∨(d=.tup ds∧cQ K H p xs)):=by
 cases d with
 | lst _=>cases e; rw [aR] at h; obtain ⟨p,xs,rfl,h1,h2⟩:=h; exact ⟨p,xs,rfl,h2,.inl ⟨rfl,h1⟩⟩
 | tup _=>cases e; rw [aE] at h; obtain ⟨p,xs,rfl,h1,h2⟩:=h; exact ⟨p,xs,rfl,h2,.inr ⟨rfl,h1⟩⟩
 | _=>cases e
noncomputable def IV (x y:D) (R:D→Prop):Prop:=∃ ds i d,x.row=some ds∧y=.int i∧jS ds i=some d∧R d
theorem zm (h:jS ds i=some d) (hR:R d):IV (.lst ds) (.int i) R:=⟨ds,i,d,rfl,rfl,h,hR⟩
theorem iK (h:jS ds i=some d) (hR:R d):IV (.tup ds) (.int i) R:=⟨ds,i,d,rfl,rfl,h,hR⟩
theorem zp (h:aq K H ds xs) (e:jS ds i=some d):∃ x,jS xs i=some x∧Rep K H d x:=by
 unfold jS at e ⊢
 rw [← h.length]
 obtain ⟨j,e1,e2⟩:=RL.mp e
 obtain ⟨x,e3,rx⟩:=h.get e2
 exact ⟨x,by rw [e1]; exact e3,rx⟩
theorem JZ (h:aF c a ρ fun x=>aF c b ρ fun y=>IV x y R) (hs:jT b:=by intro _ _; walk_at "u"):aF c (.Subscript a b pos) ρ R:=fun σ H Hf Q S q =>
 bF (Jw (EW.or CJ Gh) cO cO hs) (h σ H Hf _ S fun x v H1 aI h1 r1 g1=>h1 σ H1 aI _ (S.ck g1) fun y u H2 cD ⟨ds,i,d,e1,e2,e3,hR⟩ r2 g2=>by
  subst e2
  rw [av] at r2; subst r2
  obtain ⟨p,xs,rfl,hr,hk⟩:=iJ e1 (Rep.mono g2.f x r1)
  obtain ⟨z,ez,rz⟩:=zp hr e3
  have fin:=q d z H2 cD hR rz (g1.trans g2)
  rcases hk with ⟨_,hk⟩ | ⟨_,hk⟩
  ·exact .inl ⟨p,xs,i,z,rfl,rfl,g2.b.seq hk,ez,fin⟩
  ·exact .inr ⟨p,xs,i,z,rfl,rfl,au g2.b hk,ez,fin⟩)
theorem uM (sb:aD Hf H) {d:D} (h:(d=.lst ds∧gu K Hf p xs)∨(d=.tup ds∧cQ K Hf p xs)):gu K H p xs∨cQ K H p xs:=h.elim (fun z=>.inl (sb.seq z.2)) fun z=>.inr (au sb z.2)
theorem zq:zf K (fun xs H Q=>∃ p ys,xs=[.ref p]∧(gu K H p ys∨cQ K H p ys)∧Q (.int ys.length) H) (fun ds R=>∃ x,ds=[x]∧∃ ys,x.row=some ys∧R (.int ys.length)):=by
 rintro ds vs H Hf Q R s rs ⟨x,rfl,ys,e,hR⟩ q
 obtain ⟨v,rfl,rv⟩:=pV rs
 obtain ⟨p,xs,rfl,hr,hk⟩:=iJ e rv
 exact ⟨p,xs,rfl,uM s hk,q _ _ H Hf hR (by rw [hr.length]; exact av.mpr rfl) (.refl s)⟩
theorem e_len (hm:mg "len"=none) (h:aF c e ρ fun x=>∃ ys,x.row=some ys∧R (.int ys.length)) (hg:sc.names.lookup (MH "len")=some .globalImplicit:=by walk_at "u")
 (he:∀ env,starEach [e] env=(false,eval e env)::starEach [] env:=by intro _; walk_at "u"):aF c (.Call (.Name "len" p) [e] [] pos) ρ R :=
 uI nM zq hm PySem.boot_len (dI (h.imp fun d hd=>kD ⟨d,rfl,hd⟩) he) hg (by decide) (by decide) he (by intro _; walk_at "u")
theorem zu {R:Sl→Prop} (hm:mg "list"=none) (h:aF c e ρ fun x=>∃ ys,x.row=some ys∧R (.ow ys)) (hg:sc.names.lookup (MH "list")=some .globalImplicit:=by walk_at "u")
 (he:∀ env,starEach [e] env=(false,eval e env)::starEach [] env:=by intro _; walk_at "u"):c6 c (.Call (.Name "list" p) [e] [] pos) ρ R :=
 JX nN (q:=fun ds R=>∃ x ys,ds=[x]∧x.row=some ys∧R (.ow ys)) (fun ds vs H Hf Q R s rs ⟨x,ys,e1,e2,hR⟩ q=>by
  subst e1
  obtain ⟨v,rfl,rv⟩:=pV rs
  obtain ⟨p,xs,rfl,hr,hk⟩:=iJ e2 rv
  exact ⟨p,xs,rfl,uM s hk,fun l hl=>by
   have g2:=aZ.fN s hl (o:=.lst xs)
   exact q _ _ _ _ hR ⟨l,xs,rfl,hl,ah,s.free hl,hr⟩ g2⟩) hm PyProof.Rows.boot_list (dI (h.imp fun d ⟨ys,h1,h2⟩=>kD ⟨d,ys,rfl,h1,h2⟩) he) hg (by decide) (by decide) he (by intro _; walk_at "u")
theorem jV (hm:mg "tuple"=none) (h:aF c e ρ fun x=>∃ ys,x.row=some ys∧R (.tup ys)) (hg:sc.names.lookup (MH "tuple")=some .globalImplicit:=by walk_at "u")
 (he:∀ env,starEach [e] env=(false,eval e env)::starEach [] env:=by intro _; walk_at "u"):aF c (.Call (.Name "tuple" p) [e] [] pos) ρ R :=
 JY lT (q:=fun ds R=>∃ x ys,ds=[x]∧x.row=some ys∧R (.tup ys)) (fun ds vs H Hf Q R s rs ⟨x,ys,e1,e2,hR⟩ q=>by
  subst e1
  obtain ⟨v,rfl,rv⟩:=pV rs
  obtain ⟨p,xs,rfl,hr,hk⟩:=iJ e2 rv
  rcases hk with ⟨_,hk⟩ | ⟨_,hk⟩
  ·exact ⟨p,xs,rfl,.inl ⟨s.seq hk,fun l hl=>by
    have g2:=aZ.new s hl (o:=.tup xs)
    exact q _ _ _ _ hR (aE.mpr ⟨l,xs,rfl,.inl (.inl ah),hr.mono g2.f⟩) g2⟩⟩
  ·exact ⟨p,xs,rfl,.inr ⟨au s hk,q _ _ H Hf hR (aE.mpr ⟨p,xs,rfl,hk,hr⟩) (.refl s)⟩⟩) hm PyProof.Rows.boot_tuple (dI (h.imp fun d ⟨ys,h1,h2⟩=>kD ⟨d,ys,rfl,h1,h2⟩) he) hg (by decide) (by decide) he (by intro _; walk_at "u")
noncomputable def E3 (K:MI):R2:=fun x y H Q=>∃ l b xs zs,x=.ref l∧y=.ref b∧gu K H l xs∧gu K H b zs∧xs.length+zs.length≤sizeLine∧∀ p,H p=none→Q (.ref p) (upd H p (.lst (xs++zs)))
theorem Di:eX X (binaryOp .Add) (E3 X.K):=by
 intro aa s σ H x y v u Q I rx ry h
 obtain ⟨l,b,xs,zs,rfl,rfl,hH,hB,hz,q⟩:=h
 cases rx
 cases ry
 obtain ⟨its,r,hl,z⟩:=I.list hH
 obtain ⟨its2,r2,hl2,z2⟩:=I.list hB
 have e1:=r.length
 have e2:=r2.length
 obtain ⟨⟨cls,dd,data,sl⟩,n,p1,p2,p3,p4⟩:=hl
 obtain ⟨⟨cls2,dd2,data2,sl2⟩,n',q1,q2,q3,q4⟩:=hl2
 simp only at p2 p3 p4 q2 q3 q4
 subst p2 p3 p4 q2 q3 q4
 have ea:its.toArray++its2.toArray=(its++its2).toArray:=by simp
 refine Ro ⟨_,p1,rfl⟩ ⟨_,q1,rfl⟩ noFill_list_add seq_list_add PySem.F.slot_list_add PySem.F.entry_list_add (PySem.F.args_list_add_2 _ _) (list_addW l b its.toArray its2.toArray n n' none none sl sl2 (by simp; lia)) ⟨p1,q1,?_⟩
 rw [ea]
 exact ⟨.ref _,_,I.CL (t':=s.toks) (r.append r2) (by rw [Nr]; lia),rfl,q _ I.fresh⟩
noncomputable def zw (K:MI):R2:=fun x y H Q=>∃ a b xs ys,x=.ref a∧y=.ref b∧cQ K H a xs∧cQ K H b ys∧xs.length+ys.length≤sizeLine ∧
 (xs=[]→Q (.ref b) H)∧(ys=[]→Q (.ref a) H)∧∀ p,H p=none→Q (.ref p) (upd H p (.tup (xs++ys)))
theorem zz:eX X (binaryOp .Add) (zw X.K):=by
 intro aa s σ H x y v u Q I rx ry h
 obtain ⟨t,b,xs,ys,rfl,rfl,hH,hB,hz,c1,c2,q⟩:=h
 cases rx
 cases ry
 obtain ⟨vs,r,ht,z⟩:=I.tuple hH
 obtain ⟨ws,r2,hb,z2⟩:=I.tuple hB
 obtain ⟨⟨cls,dd,data,sl⟩,ho,hc,n,hd⟩:=id ht
 obtain ⟨⟨cls2,dd2,data2,sl2⟩,ho2,hc2,n2,hd2⟩:=id hb
 simp only at hc hd hc2 hd2
 subst hc hd hc2 hd2
 have e:vs.toArray++ws.toArray=(vs++ws).toArray:=by simp
 have e1:=r.length
 have e2:=r2.length
 by_cases hv:vs=[]
 ·exact Ro ⟨_,ho,rfl⟩ ⟨_,ho2,rfl⟩ Sj seq_tuple_add RP RK (RI _ _)
   (tuple_addW0 t b vs.toArray ws.toArray n n2 dd dd2 sl sl2 (by simp [hv])) ⟨ho,ho2,⟨.ref b,H,I,rfl,c1 (by rw [Vals.uz r] at hv; exact hv)⟩⟩
 ·by_cases hw:ws=[]
  ·exact Ro ⟨_,ho,rfl⟩ ⟨_,ho2,rfl⟩ Sj seq_tuple_add RP RK (RI _ _)
    (tuple_addW1 t b vs.toArray ws.toArray n n2 dd dd2 sl sl2 (by simpa using hv) (by simp [hw])) ⟨ho,ho2,⟨.ref t,H,I,rfl,c2 (by rw [Vals.uz r2] at hw; exact hw)⟩⟩
  ·refine Ro ⟨_,ho,rfl⟩ ⟨_,ho2,rfl⟩ Sj seq_tuple_add RP RK (RI _ _)
    (tuple_addW2 t b vs.toArray ws.toArray n n2 dd dd2 sl sl2 (by simpa using hv) (by simpa using hw) (by rw [M7,M7]; lia)) ⟨ho,ho2,?_⟩
   rw [e]
   refine ⟨.ref s.heap.objs.size,_,I.laid (t':=s.toks) (o:=.tup (xs++ys)) (fun b ob q=>MQ _ q) (ML _) ?_,rfl,q _ (I.hok.fresh (ML _))⟩
   exact ⟨by rw [Nr]; exact hz,_,r.append r2,IsTup.new _ _⟩
inductive kE:D→D→(Sl→Prop)→Prop where
 | int {i j:Int} {R:Sl→Prop} (h:R (.va (.int (i+j)))):kE (.int i) (.int j) R
 | lst {ds es:List D} {R:Sl→Prop} (h:Sd (ds.length+es.length≤sizeLine) (R (.ow (ds++es)))):kE (.lst ds) (.lst es) R
 | tup {ds es:List D} {R:Sl→Prop} (h:Sd (ds.length+es.length≤sizeLine) (R (.va (.tup (ds++es))))):kE (.tup ds) (.tup es) R
 | str {x y:Str} {R:Sl→Prop} (h:Sd (x.length+y.length≤sizeLine) (R (.va (.str (x++y))))):kE (.str x) (.str y) R
theorem jD (h:aq K H ds []):ds=[]:=by
 have:=h.length; cases ds with
 | nil=>rfl
 | cons _ _=>simp at this
theorem Dj:K5 K (fun x y H Q=>(((uo fun i j=>V.int (i+j)) x y H Q∨E3 K x y H Q)∨zw K x y H Q)∨∃ i j,x=.str i∧y=.str j∧i.length+j.length≤sizeLine∧Q (.str (i++j)) H) kE:=by
 rintro x y v u H Hf Q R s rx ry h q
 cases h with
 | @int i j _ h =>
  rw [av] at rx ry
  exact .inl (.inl (.inl ⟨i,j,rx,ry,q (.va (.int (i+j))) _ H Hf h (show Rep K Hf (.int (i+j)) _ from av.mpr rfl) (.refl s)⟩))
 | @lst ds es _ h =>
  rw [aR] at rx ry
  obtain ⟨a,xs,rfl,h1,h2⟩:=rx
  obtain ⟨b,ys,rfl,h3,h4⟩:=ry
  refine .inl (.inl (.inr ⟨a,b,xs,ys,rfl,rfl,s.seq h1,s.seq h3,by rw [← h2.length,← h4.length]; exact h.s,fun p hp=>?_⟩))
  exact q (.ow (ds++es)) _ _ _ h.r ⟨p,xs++ys,rfl,hp,ah,s.free hp,h2.append h4⟩ (aZ.fN s hp)
 | @tup ds es _ h =>
  rw [aE] at rx ry
  obtain ⟨a,xs,rfl,h1,h2⟩:=rx
  obtain ⟨b,ys,rfl,h3,h4⟩:=ry
  refine .inl (.inr ⟨a,b,xs,ys,rfl,rfl,au s h1,au s h3,by rw [← h2.length,← h4.length]; exact h.s,fun e=>?_,fun e=>?_,fun p hp=>?_⟩)
  ·subst e
   have:=jD h2
   subst this
   exact q (.va (.tup ([]++es))) _ H Hf h.r (show Rep K Hf (.tup ([]++es)) _ from aE.mpr ⟨b,ys,rfl,h3,h4⟩) (.refl s)
  ·subst e
   have:=jD h4
   subst this
   exact q (.va (.tup (ds++[]))) _ H Hf h.r (show Rep K Hf (.tup (ds++[])) _ from aE.mpr ⟨a,xs,rfl,h1,by rw [NR]; exact h2⟩) (.refl s)
  ·have g:=aZ.new s hp (o:=.tup (xs++ys))
   exact q (.va (.tup (ds++es))) _ _ _ h.r (show Rep K _ (.tup (ds++es)) _ from aE.mpr ⟨p,xs++ys,rfl,.inl (.inl ah),(h2.append h4).mono g.f⟩) g
 | @str x y _ h =>
  rw [eZ] at rx ry
  exact .inr ⟨x,y,rx,ry,h.s,q (.va (.str (x++y))) _ H Hf h.r (show Rep K Hf (.str (x++y)) _ from eZ.mpr rfl) (.refl s)⟩
theorem zA {R:Sl→Prop} (h:aF c a ρ fun x=>aF c b ρ fun y=>kE x y R):c6 c (.BinOp a .Add b pos) ρ R :=
 nQ (eX.or (eX.or (eX.or F3 Di) zz) rZ) Dj h
noncomputable def cutD {α:Type} (xs:List α) (lo hi:Option Int):List α:=(xs.drop (HT.bZ xs.length 0 lo)).take (HT.bZ xs.length xs.length hi - HT.bZ xs.length 0 lo)
theorem pX (h:aq K H ds xs) (lo hi):aq K H (cutD ds lo hi) (nK xs lo hi):=by
 unfold cutD nK
 rw [h.length]
 exact (h.drop _).take _
noncomputable def bP (X:Cx) (e:Option Expr):TO:=fun σ H Q=>∀ aa s,Inv X aa σ H s→wpAny (model X.prog X.w) X.A (evalPart e X.env) (fun u s'=>∃ o H',Inv X aa σ H' s'∧IsPart u o∧Q o H') X.xe s
theorem J0 {X:Cx} {e:Option Expr}:PO X e (bP X e):=fun aa s σ H Q I h=>h aa s I
noncomputable def Cm (c:Ctx P w K mg base k N sc bk) (e:Option Expr) (ρ:List Sl) (R:Option Int→Prop):Prop :=
 ∀ (σ:L2.St) (H Hf:Hp) (Q:Option Int→Hp→Prop),bg c σ H Hf ρ→(∀ o H' aj,R o→aZ H Hf H' aj→Q o H')→bP c.X e σ H Q
theorem GI {R:Option Int→Prop} (h:R none):Cm c none ρ R:=fun σ H Hf Q S q aa s I=>CG aa s σ H Q I (q none H Hf h (.refl S.sb))
theorem GJ {R:Option Int→Prop} (h:aF c e ρ (I1 fun i=>R (some i))):Cm c (some e) ρ R:=fun σ H Hf Q S q aa s I =>
 CH cO aa s σ H Q I (h σ H Hf _ S fun d v H' aj ⟨i,e,hR⟩ r g=>by subst e; rw [av] at r; exact ⟨i,r,q _ H' aj hR g⟩)
noncomputable def J1 (K:MI):V→Option Int→Option Int→Hp→VK→Prop:=fun x lo hi H Q=>∃ a xs,x=.ref a∧cQ K H a xs ∧
 (HT.bZ xs.length 0 lo=0∧HT.bZ xs.length xs.length hi=xs.length)∧Q (.ref a) H
theorem gJ {lo hi:Option Int} (ht:IsTup s.heap t items) (hs:s.heap.IsSliceOf sl vl vu .none) (pl:IsPart vl lo) (pu:IsPart vu hi)
 (hw:HT.bZ items.size 0 lo=0∧HT.bZ items.size items.size hi=items.size) (h:Q (.ref t) s):wpAny (model prog w) A (getItem (.ref t) (.ref sl)) Q E s:=by
 obtain ⟨os,hos,hcs,hds⟩:=id hs
 have hTs:s.TypeIs (.ref sl) "slice":=⟨os,hos,hcs⟩
 unfold getItem
 try with_reducible refine NX ?_
 first | refine MG (MJ ?_) | skip
 refine MG (R6 ht.typeIs (by decide) ?_)
 refine MG (OI (name:=MH "__getitem__") ht.typeIs Ph
  (Oe Ph ht.typeIs entry_tuple_getitem ?_ (args_tuple_getitem _ _)))
 show wpAny _ _ (Builtin.Tuple.tupleItemsOf (.ref t) >>= _) _ _ s
 refine MG (tupleItemsOf_ ht ?_)
 refine MG (OS hTs ?_)
 rw [if_pos (by decide)]
 refine MG (HT.d9 hs pl pu ?_)
 have hyes:((((HT.bZ items.size 0 lo:Nat):Int) == 0 && (1:Int) == 1 && (HT.bZ items.size items.size hi - HT.bZ items.size 0 lo) == items.size)=true):=by
  rw [hw.1,hw.2]; simp
 show wpAny _ _ (if (((HT.bZ items.size 0 lo:Nat):Int) == 0 && (1:Int) == 1 && (HT.bZ items.size items.size hi - HT.bZ items.size 0 lo) == items.size)=true then _ else _) _ _ s
 rw [if_pos hyes]
 obtain ⟨⟨cls,dd,data,sl'⟩,ho,hc,n,hd⟩:=id ht
 simp only at hc hd
 subst hc hd
 unfold Builtin.Tuple.tupleIsExact
 wp_walk using QI ho
 exact ⟨_,rfl,MJ h⟩
theorem zB:Ck X (J1 X.K):=by
 intro aa s σ H x v vl vu lo hi sl Q I rx hs pl pu h
 obtain ⟨a,xs,rfl,hx,hw,q⟩:=h
 cases rx
 obtain ⟨its,r,ht,hz⟩:=I.tuple hx
 have hlen:its.toArray.size=xs.length:=by rw [M7]; exact r.length.symm
 refine ⟨"tuple",_,Ph.lookup,ht.typeIs,?_⟩
 exact gJ ht hs pl pu (by rw [hlen]; exact hw) ⟨.ref a,H,I,rfl,q⟩
inductive GK:D→Option Int→Option Int→(Sl→Prop)→Prop where
 | lst {ds:List D} {lo hi:Option Int} {R:Sl→Prop} (h:R (.ow (cutD ds lo hi))):GK (.lst ds) lo hi R
 | tup {ds:List D} {lo hi:Option Int} {R:Sl→Prop} (h:R (.va (.tup (cutD ds lo hi)))):GK (.tup ds) lo hi R
theorem wF {lo hi:Option Int} (h:HT.bZ xs.length 0 lo=0∧HT.bZ xs.length xs.length hi=xs.length):cutD xs lo hi=xs:=by
 unfold cutD; rw [h.1,h.2]; simp
theorem uN {lo hi:Option Expr} {R:Sl→Prop} (h:aF c e ρ fun x=>Cm c lo ρ fun l=>Cm c hi ρ fun u=>GK x l u R):c6 c (.Subscript e (.Slice lo hi none p2) pos) ρ R:=fun σ H Hf Q S q =>
 bF (yK (Ck.or (Ck.or CK Gg) zB) cO J0 J0) (h σ H Hf _ S fun x v H1 aI h1 r1 g1=>h1 σ H1 aI _ (S.ck g1) fun l H2 cD h2 g2=>h2 σ H2 cD _ (S.ck (g1.trans g2)) fun u H3 Hf3 h3 g3=>by
  have r3:=Rep.mono g3.f x (Rep.mono g2.f x r1)
  have g:=(g1.trans g2).trans g3
  cases h3 with
  | lst h =>
   rw [aR] at r3
   obtain ⟨a,xs,rfl,k1,k2⟩:=r3
   refine .inl (.inl ⟨a,xs,rfl,g3.b.seq k1,fun p hp=>?_⟩)
   exact q _ _ _ _ h ⟨p,_,rfl,g.s.free hp,ah,g3.b.free hp,pX k2 l u⟩ (g.trans (aZ.fN g3.b hp))
  | tup h =>
   rw [aE] at r3
   obtain ⟨a,xs,rfl,k1,k2⟩:=r3
   by_cases hw:HT.bZ xs.length 0 l=0∧HT.bZ xs.length xs.length u=xs.length
   ·refine .inr ⟨a,xs,rfl,au g3.b k1,hw,?_⟩
    refine q _ _ _ _ h (show Rep c.X.K Hf3 _ _ from aE.mpr ⟨a,xs,rfl,k1,?_⟩) g
    rw [wF (by rw [k2.length]; exact hw)]; exact k2
   ·refine .inl (.inr ⟨a,xs,rfl,au g3.b k1,hw,fun p hp=>?_⟩)
    have g4:=aZ.new g3.b hp (o:=.tup (nK xs l u))
    exact q _ _ _ _ h (show Rep c.X.K _ _ _ from aE.mpr ⟨p,_,rfl,.inl (.inl ah),(pX k2 l u).mono g4.f⟩) (g.trans g4))
theorem zC (a:aZ H₀ dB H1 aI) (b:aZ H₀ aI H Hf):aZ H₀ dB H Hf :=
 ⟨b.s,a.f.trans b.f,b.b,fun c h1 h2 h3=>b.n c (a.n c h1 h2 h3) h2 h3⟩
theorem cR.re (a:aZ H₀ dB H1 aI) (S:cR K H₀ aI σ H Hf ρ):cR K H₀ dB σ H Hf ρ:=⟨zC a S.bas,S.len,S.at_,S.sep⟩
theorem cR.anew (S:cR K H₀ dB σ H Hf ρ):cR K H₀ Hf σ H Hf ρ:=⟨⟨S.bas.s,.refl _,S.bas.b,fun _ h _ _=>h⟩,S.len,S.at_,S.sep⟩
noncomputable def Ctx.at_ (c:Ctx P w K mg base k N sc bk) {H1 aI:Hp} (a:aZ c.B c.Hf H1 aI):Ctx P w K mg base k N sc bk :=
 { X:=c.X,eP:=c.eP,ew:=c.ew,eK:=c.eK,emg:=c.emg,eb:=c.eb,eN:=c.eN,esc:=c.esc,calm:=c.calm,top:=c.top,cb:=c.cb,fn:=c.fn,room:=c.room,nd:=c.nd,vis:=c.vis,B:=c.B,Hf:=aI,RX:=c.RX,RM:=c.RM,
   exc:=fun C x aa σ H aj ρ s H' s' I S h X sm=>c.exc C x aa σ H aj ρ s H' s' I (S.re a) h X sm,mde:=fun C x aa σ H aj ρ s h' us I S h hx=>c.mde C x aa σ H aj ρ s h' us I (S.re a) h hx }
theorem yW.at_ {nx:List Sl→Prop} {p:Pt} {D:Ends} {H1 aI:Hp} (a:aZ c.B c.Hf H1 aI) (o:yW c nx p D):yW (c.at_ a) nx p D :=
 ⟨fun σ H Hf ρ S q=>o.nx σ H Hf ρ (cR.re a S) q,fun r v H Hf g rv q=>o.rt r v H Hf (zC a g) rv q,fun σ H Hf ρ S q=>o.bk σ H Hf ρ (cR.re a S) q,fun σ H Hf ρ S q=>o.ct σ H Hf ρ (cR.re a S) q⟩
noncomputable def bI (X:Cx) (tg iter:Expr):TI:=fun σ H R=>∀ aa s,Inv X aa σ H s→wpAny (model X.prog X.w) X.A (eval iter X.env) (fun v s1=>wpAny (model X.prog X.w) X.A (pyIter v) (Lp X aa σ tg R) X.xe s1) X.xe s
theorem ME {X:Cx} {tg iter:Expr}:PI X tg iter (bI X tg iter):=fun aa s σ H R I h=>h aa s I
structure jh (K:MI) (J:It) (ds:List D) (dB:Hp):Prop where
 go:∀ i d H Hf,aD dB Hf→aD Hf H→ds[i]?=some d→J.go i H∧∀ x H',J.yld i H x H'→∃ aj,aZ H Hf H' aj∧Rep K aj d x
 stop:∀ i H Hf,aD dB Hf→aD Hf H→ds.length≤i→J.stop i H
noncomputable def GL (c:Ctx P w K mg base k N sc bk) (tg iter:Expr) (ρ:List Sl) (R:List D→Prop):Prop :=
 ∀ (σ:L2.St) (H Hf:Hp) (Q:It→Hp→Prop),bg c σ H Hf ρ→(∀ ds J H' aj,R ds→aZ H Hf H' aj→jh c.X.K J ds aj→Q J H')→bI c.X tg iter σ H Q
theorem wG {K:MI} {ds:List D} {xs:List V} {p:Addr} {dB:Hp} (h:gu K dB p xs) (r:aq K dB ds xs):jh K (Lq K p) ds dB where
 go:=fun i d H Hf s1 s2 e=>by
  obtain ⟨x,ex,rx⟩:=r.get e
  refine ⟨⟨xs,x,(s1.trans s2).seq h,ex⟩,fun y H' ⟨e1,e2⟩=>?_⟩
  subst e1
  have:=e2 xs ((s1.trans s2).seq h)
  rw [ex] at this; cases this
  exact ⟨Hf,.refl s2,Rep.mono s1 d rx⟩
 stop:=fun i H Hf s1 s2 e=>⟨xs,(s1.trans s2).seq h,by rw [← r.length]; exact e⟩
theorem zD {K:MI} {ds:List D} {xs:List V} {p:Addr} {dB:Hp} (h:cQ K dB p xs) (r:aq K dB ds xs):jh K (Lr K p) ds dB where
 go:=fun i d H Hf s1 s2 e=>by
  obtain ⟨x,ex,rx⟩:=r.get e
  refine ⟨⟨xs,x,au (s1.trans s2) h,ex⟩,fun y H' ⟨e1,e2⟩=>?_⟩
  subst e1
  have:=e2 xs (au (s1.trans s2) h)
  rw [ex] at this; cases this
  exact ⟨Hf,.refl s2,Rep.mono s1 d rx⟩
 stop:=fun i H Hf s1 s2 e=>⟨xs,au (s1.trans s2) h,by rw [← r.length]; exact e⟩
noncomputable def LW (K:MI) (tl:TE):TI:=fun σ H R=>tl σ H fun x H1=>∃ a,x=.ref a∧(((∃ xs,gu K H1 a xs)∧R (Lq K a) H1)∨((∃ xs,cQ K H1 a xs)∧R (Lr K a) H1))
theorem GN (hl:PE X l tl):PI X tg l (LW X.K tl):=by
 intro aa s σ H R I h
 refine bw (hl aa s σ H _ I h) fun v s1 ⟨x,H1,I1,r1,q1⟩=>?_
 obtain ⟨a,e,h⟩:=q1
 subst e
 cases r1
 rcases h with ⟨⟨xs,hq⟩,q⟩ | ⟨⟨xs,hq⟩,q⟩
 ·obtain ⟨its,rv,p,hz⟩:=I1.list hq
  refine R8 p.isList ?_
  refine ⟨s1.heap.objs.size,[s1.heap.objs.size],_,_,H1,rfl,I1.kept (t':=s1.toks) fun b o e=>MQ _ e,v9 a _,⟨_,M3 _ rfl,rfl,rfl⟩,fun b hb=>?_,q⟩
  have e:b=s1.heap.objs.size:=by simpa using hb
  subst e
  exact I1.lR (ML _) (I1.hok.fresh (ML _))
 ·obtain ⟨its,rv,p,hz⟩:=I1.tuple hq
  refine R1 (show s1.heap.IsTuple a its.toArray from p) ?_
  refine ⟨s1.heap.objs.size,[s1.heap.objs.size],_,_,H1,rfl,I1.kept (t':=s1.toks) fun b o e=>MQ _ e,rT a _,⟨_,M3 _ rfl,rfl,rfl⟩,fun b hb=>?_,q⟩
  have e:b=s1.heap.objs.size:=by simpa using hb
  subst e
  exact I1.lR (ML _) (I1.hok.fresh (ML _))
theorem cj {R:List D→Prop} (h:aF c e ρ fun d=>∃ ds,d.row=some ds∧R ds):GL c tg e ρ R:=fun σ H Hf Q S q aa s I =>
 GN cO aa s σ H Q I (h σ H Hf _ S fun d v H' aj ⟨ds,er,hR⟩ r g=>by
  obtain ⟨p,xs,rfl,hr,hk⟩:=iJ er r
  refine ⟨p,rfl,?_⟩
  rcases hk with ⟨_,hk⟩ | ⟨_,hk⟩
  ·exact .inl ⟨⟨xs,g.b.seq hk⟩,q ds _ H' aj hR g (wG hk hr)⟩
  ·exact .inr ⟨⟨xs,au g.b hk⟩,q ds _ H' aj hR g (zD hk hr)⟩)
noncomputable def pY (lo:Int) (n:Nat):List D:=(Ny n).map fun (i:Nat)=>D.int (lo+(i:Int))
theorem zE {K:MI} {lo:Int} {n:Nat} {dB:Hp}:jh K (K3 lo n) (pY lo n) dB where
 go:=fun i d H Hf s1 s2 e=>by
  unfold pY at e
  rw [MS] at e
  obtain ⟨j,e1,e2⟩:=MZ.mp e
  have hi:i<n:=by
   have:=(MU.mp e1).1
   simpa using this
  have:j=i:=by
   rw [Py hi] at e1; cases e1; rfl
  subst this
  refine ⟨hi,fun x H' ⟨e3,e4⟩=>?_⟩
  subst e3 e4 e2
  exact ⟨Hf,.refl s2,av.mpr rfl⟩
 stop:=fun i H Hf s1 s2 e=>by
  show n≤i
  simpa [pY] using e
noncomputable def zF (i:Int):Prop:= -(2 ^ 62)≤i∧i<2 ^ 62
theorem iL {R:List D→Prop} (hm:mg "range"=none) (h:aF c e ρ (I1 fun j=>Sd (zF j) (R (pY 0 j.toNat)))) (hg:sc.names.lookup (MH "range")=some .globalImplicit:=by walk_at "u")
 (hs:∀ env,starEach [e] env=(false,eval e env)::starEach [] env:=by intro _; walk_at "u"):GL c tg (.Call (.Name "range" p) [e] [] pos) ρ R:=fun σ H Hf Q S q aa s I =>
 wc (by unfold Gl Nz; rw [c.esc]; exact hg) (by rw [c.emg]; exact hm) (bL cO c8 (hs _)) (hs _) aa s σ H Q I (h σ H Hf _ S fun d v H' aj ⟨j,ed,⟨hj,hR⟩⟩ r g=>by
  subst ed; rw [av] at r; subst r
  exact ⟨j,rfl,hj.1,hj.2,q _ _ H' aj hR g zE⟩)
theorem cP {tg iter:Expr} {body:List Stmt} {nx:List Sl→Prop} {p:Pt} (hq:c.X.xe=fun _ _=>False)
 (h:GL c tg iter ρ fun ds=>∃ I:Nat→List Sl→Prop,I 0 ρ ∧
   (∀ c':Ctx P w K mg base k N sc bk,c'.X=c.X→c'.RX=c.RX→c'.RM=c.RM→∀ i d ρ',ds[i]?=some d→I i ρ'→mJ c' tg d ρ' fun ρ''=>bf c' body ρ'' (I (i+1)) { rt:=p.rt,bk:=nx,ct:=I (i+1) })∧∀ ρ',I ds.length ρ'→nx ρ')
 (hs:∀ env x,foldedSetIterable iter env x=pure x:=by intro _ _; walk_at "u"):eE c (.For tg iter body [] pos) ρ nx p:=fun σ H Hf D S o =>
 dH (F0 (by rw [hq]; exact PassesOwn.never) c.calm ME Mj pQ (hs _)) (h σ H Hf _ S fun ds J H1 aI ⟨I,h0,hb,he⟩ g io=>by
  have S1:=S.ck g
  have gb:aZ c.B c.Hf H1 aI:=S1.bas
  refine ⟨fun i m σ H=>m=ds.length - i∧i≤ds.length∧∃ Hf ρ',bg (c.at_ gb) σ H Hf ρ'∧I i ρ',⟨_,rfl,Nu _,aI,ρ,S1.anew,h0⟩,?_⟩
  rintro i m σ H ⟨rfl,hi,Hf,ρ',S',hI⟩
  by_cases hlt:i<ds.length
  ·have ed:ds[i]?=some ds[i]:=M9 hlt
   obtain ⟨hgo,hy⟩:=io.go i _ H Hf S'.bas.f S'.bas.b ed
   refine .inr ⟨hgo,fun σ' H'=>∃ aj ρ'',bg (c.at_ gb) σ' H' aj ρ''∧I (i+1) ρ'',fun σ' H' ⟨aj,ρ'',S'',hI'⟩=>⟨_,by omega,rfl,hlt,aj,ρ'',S'',hI'⟩,fun x H' hx=>?_⟩
   obtain ⟨aj,g',rx⟩:=hy x H' hx
   refine hb (c.at_ gb) rfl rfl rfl i _ ρ' ed hI σ H' aj x _ (S'.ck g') rx fun σ2 H2 cD ρ2 S2 _ hbody=>?_
   exact hbody σ2 H2 cD _ S2 ⟨fun σ H Hf ρ S q=>⟨Hf,ρ,S,q⟩,(o.at_ gb).rt,fun σ H Hf ρ S q=>(o.at_ gb).nx σ H Hf ρ S q,fun σ H Hf ρ S q=>⟨Hf,ρ,S,q⟩⟩
  ·have e:i=ds.length:=by omega
   subst e
   exact .inl ⟨io.stop _ H Hf S'.bas.f S'.bas.b (ML _),(o.at_ gb).nx σ H Hf ρ' S' (he ρ' hI)⟩)
end
section
end
section
end
section
variable {K:MI}
end
section
variable {K:MI} {R:D→Prop}
theorem E4 (h:R d):Gx R (.va d):=⟨d,rfl,h⟩
theorem fE (h:R (.lst ds)):Gx R (.ow ds):=⟨.lst ds,rfl,h⟩
theorem GO (h:aF c a ρ fun x=>aF c b ρ fun y=>kE x y (Gx R)):aF c (.BinOp a .Add b pos) ρ R:=e_x (zA h)
theorem pR.imp {R R':List D→Prop} (h:pR c es ρ R) (hi:∀ d,R d→R' d):pR c es ρ R':=fun σ H Hf Q S q=>h σ H Hf Q S fun d v H' aj rd=>q d v H' aj (hi d rd)
theorem GP (h:pR c es ρ fun ds=>Sd (ds.length≤sizeLine) (R (.lst ds))):aF c (.List es pos) ρ R:=e_x (E2 (h.imp fun ds hd=>⟨hd.s,fE hd.r⟩))
theorem zG {lo hi:Option Expr} (h:aF c e ρ fun x=>Cm c lo ρ fun l=>Cm c hi ρ fun u=>GK x l u (Gx R)):aF c (.Subscript e (.Slice lo hi none p2) pos) ρ R:=e_x (uN h)
theorem zH {R:Sl→Prop} (h:R (.va (.int (i+j)))):kE (.int i) (.int j) R:=.int h
theorem zI {ds es:List D} {R:Sl→Prop} (h:Sd (ds.length+es.length≤sizeLine) (R (.ow (ds++es)))):kE (.lst ds) (.lst es) R:=.lst h
theorem zJ {ds es:List D} {R:Sl→Prop} (h:Sd (ds.length+es.length≤sizeLine) (R (.va (.tup (ds++es))))):kE (.tup ds) (.tup es) R:=.tup h
theorem GQ {b:Bool} (ty:wB K d t) (e:Oa K t cv=some b) (h:R (.bl b)):∃ t b,wB K d t∧Oa K t cv=some b∧R (.bl b):=⟨t,b,ty,e,h⟩
theorem J2 (h:aF c a ρ fun x=>aF c b ρ fun y=>IV x y R) (hs:jT b:=by with_unfolding_all exact fun _ _=>rfl):aF c (.Subscript a b pos) ρ R:=JZ h hs
theorem zK {x:D} {Q:List D→Prop} (e:x.row=some ds) (h:Q ds):∃ ys,x.row=some ys∧Q ys:=⟨ds,e,h⟩
theorem bB {F:Fn} {R:Sl→Prop} (h:F ds (.ok sl)) (r:R sl):∃ r,F ds r∧GD c ρ R r:=⟨_,h,r⟩
end
section
variable {K:MI}
end
noncomputable def del (H:Hp) (p:Addr):Hp:=fun b=>if b=p then none else H b
theorem iM:del H p p=none:=if_pos rfl
theorem b9 (h:b≠p):del H p b=H b:=if_neg h
theorem zL (h:H₀ p=none) (s:aD H₀ H):aD H₀ (del H p):=fun b o e=>by
 rw [b9 (az e h)]; exact s b o e
theorem iN (h:del H p b=some o):b≠p∧H b=some o:=by
 by_cases e:b=p
 ·subst e; rw [iM] at h; cases h
 ·rw [b9 e] at h; exact ⟨e,h⟩
theorem gw (sb:aD Hf H) (hp:Hf p=none):aZ (del H p) Hf (upd H p o) Hf :=
 ⟨fun b u e=>by obtain ⟨h1,h2⟩:=iN e; rw [ak h1]; exact h2,.refl _,fun b u e=>by rw [ak (az e hp)]; exact sb b u e,fun _ h _ _=>h⟩
section
variable {K:MI}
theorem aS.pZ (ho:r.owned=true) (h:aS K fr H Hf r v):∃ p o,v=.ref p∧fr p∧H p=some o∧Hf p=none∧¬ yU H p:=by
 have nf:∀ {p:Addr} {u:HO},H p=some u→(∀ φ,u≠.ext φ)→¬ yU H p:=fun e k ⟨z,e2⟩=>by rw [e] at e2; exact k _ (Of e2)
 cases r with
 | un=>cases ho
 | va d=>cases ho
 | fo s=>cases ho
 | ow ds=>obtain ⟨p,xs,rfl,f,h1,h2,_⟩:=h; exact ⟨p,_,rfl,f,h1,h2,nf h1 (by intro _ z; cases z)⟩
 | oT ds=>obtain ⟨p,xs,rfl,f,h1,h2,_⟩:=h; exact ⟨p,_,rfl,f,h1,h2,nf h1 (by intro _ z; cases z)⟩
 | oK ds=>obtain ⟨p,xs,rfl,f,h1,h2,_⟩:=h; exact ⟨p,_,rfl,f,h1,h2,nf h1 (by intro _ z; cases z)⟩
 | aw a ds=>obtain ⟨p,xs,rfl,f,h1,h2,_⟩:=h; exact ⟨p,_,rfl,f.1,h1,h2,nf h1 (by intro _ z; cases z)⟩
 | aT a ds=>obtain ⟨p,xs,rfl,f,h1,h2,_⟩:=h; exact ⟨p,_,rfl,f.1,h1,h2,nf h1 (by intro _ z; cases z)⟩
 | aK a ds=>obtain ⟨p,xs,rfl,f,h1,h2,_⟩:=h; exact ⟨p,_,rfl,f.1,h1,h2,nf h1 (by intro _ z; cases z)⟩
theorem aS.p5 (ho:r.owned=true) (h:aS K fr H Hf r v):∃ p o,v=.ref p∧fr p∧H p=some o∧Hf p=none :=
 let ⟨p,o,a,b,c,d,_⟩:=h.pZ ho; ⟨p,o,a,b,c,d⟩
theorem aS.J3 (nf:¬ yU H p) (hv:r.owned=true→v≠.ref p) (h:aS K fr H Hf r v):aS K fr (del H p) Hf r v :=
 aS.mv (B:=fun q=>q=p) (.refl _) (fun q o hq e1 _ e3=>⟨by rw [b9 hq]; exact e1,e3⟩) (fun _ q e=>by subst e; exact nf) (fun ho q z e=>by subst e; exact hv ho z) h
theorem cR.own (S:cR K H₀ dB σ H Hf ρ) {i:Nat} (hi:ρ[i]?=some r) (ho:r.owned=true):∃ p,σ[i]?=some (some (.ref p))∧aS K (fun p=>H₀ p=none) H Hf r (.ref p):=by
 obtain ⟨v,e,q⟩:=S.at_ i r hi (by rintro rfl; cases ho)
 obtain ⟨p,o,rfl,_⟩:=q.p5 ho
 exact ⟨p,e,q⟩
theorem cR.upd (S:cR K H₀ dB σ H Hf ρ) (hi:ρ[i]?=some r) (ho:r.owned=true) (hp:σ[i]?=some (some (.ref p))) (g:aZ (del H p) Hf H1 aI)
 (hr:aS K (fun q=>q=p) H1 aI r' (.ref p)) (ho':r'.owned=true):cR K H₀ dB σ H1 aI (ρ.set i r'):=by
 obtain ⟨p',ep,q⟩:=S.own hi ho
 rw [hp] at ep; cases ep
 obtain ⟨_,o,e,fp,hHp,hfp,nfz⟩:=q.pZ ho
 cases e
 have hlt:i<ρ.length:=(MU.mp hi).1
 refine ⟨⟨(zL fp S.bas.s).trans g.s,S.bas.f.trans g.f,g.b,fun b h1 h2 h3=>?_⟩,by simp [S.len],fun j r1 hj hu=>?_,fun j j' r1 r2 q' hne h1 h2 o1 o2=>?_⟩
 ·have hb:b≠p:=fun z=>by subst z; exact h2 fp
  cases z:H₀ b with
  | none=>exact absurd z h2
  | some o1 =>
   have e1:=S.bas.s b o1 z
   refine g.n b (S.bas.n b h1 h2 h3) (by rw [b9 hb,e1]; simp) fun xs=>?_
   rw [b9 hb,e1,← z]; exact h3 xs
 ·by_cases e:j=i
  ·subst e
   rw [NU hlt] at hj; cases hj
   exact ⟨_,hp,hr.weak fun q' z=>by subst z; exact fp⟩
  ·rw [NV (M8 e)] at hj
   obtain ⟨v,e1,e2⟩:=S.at_ j r1 hj hu
   exact ⟨v,e1,(e2.J3 (p:=p) nfz fun ow z=>by subst z; exact S.sep i j _ _ p (M8 e) hi hj ho ow hp e1).ck g⟩
 ·have out:∀ {j:Nat} {r1:Sl},(ρ.set i r')[j]?=some r1→r1.owned=true→∃ r2,ρ[j]?=some r2∧r2.owned=true:=fun {j r1} hj how=>by
   by_cases e:j=i
   ·subst e; exact ⟨r,hi,ho⟩
   ·rw [NV (M8 e)] at hj; exact ⟨r1,hj,how⟩
  obtain ⟨r3,a1,a2⟩:=out h1 o1
  obtain ⟨r4,b1,b2⟩:=out h2 o2
  exact S.sep j j' r3 r4 q' hne a1 b1 a2 b2
end
section
variable {K:MI} {c:Ctx P w K mg base k N sc bk}
theorem Ctx.kF (c:Ctx P w K mg base k N sc bk) (hN:At N i x) (hd:(x == ("__debug__":Str))=false) (hcd:(x == ("__classdict__":Str))=false):PE c.X (.Name x px) (Jb i) :=
 rS (X:=c.X) (i:=i) (by rw [c.eN]; exact hN.get) (by rw [c.esc]; rcases c.vis x hN.mem with h | h; exact .inl h; exact .inr (.inl h)) hd hcd
noncomputable def Sl.getL:Sl→Option (List D) | .ow ds=>some ds | .aw _ ds=>some ds | _=>none
noncomputable def Sl.putL:Sl→List D→Sl | .ow _,es=>.ow es | .aw a _,es=>.aw a es | s,_=>s
theorem cS {r:Sl} (h:r.getL=some ds):r.owned=true:=by cases r <;> first | rfl | cases h
theorem gS {r:Sl} {ds es:List D} (h:r.getL=some ds):(r.putL es).owned=true:=by cases r <;> first | rfl | cases h
theorem GR {p:Addr} (h:r.getL=some ds) (q:aS K fr H Hf r (.ref p)):∃ xs,H p=some (.lst xs)∧Hf p=none∧aq K Hf ds xs:=by
 cases r with
 | ow es=>cases h; obtain ⟨_,xs,e,_,h1,h2,h3⟩:=q; cases e; exact ⟨xs,h1,h2,h3⟩
 | aw a es=>cases h; obtain ⟨_,xs,e,_,h1,h2,h3⟩:=q; cases e; exact ⟨xs,h1,h2,h3⟩
 | _=>cases h
theorem kG {ds es:List D} {p:Addr} (h:r.getL=some ds) (q:aS K fr H Hf r (.ref p)) (h1:H1 p=some (.lst ys)) (h2:aI p=none) (h3:aq K aI es ys) :
 aS K (fun q=>q=p) H1 aI (r.putL es) (.ref p):=by
 cases r with
 | ow _=>exact ⟨p,ys,rfl,rfl,h1,h2,h3⟩
 | aw a _=>obtain ⟨_,xs,e,f,_⟩:=q; cases e; exact ⟨p,ys,rfl,⟨rfl,f.2⟩,h1,h2,h3⟩
 | _=>cases h
theorem sA (hN:At N i x) (hi:At ρ i r) (hr:r.getL=some ds) (h:aF c e ρ fun d=>Sd (ds.length<sizeLine) (Nx ρ i nx (r.putL (ds++[d]))))
 (hs:∀ env,swapsWith (.Call (.Attribute (.Name x px) "append" ap) [e] [] cp) none pos.line env=pure false:=by intro _; walk_at "u") (hd:(x == ("__debug__":Str))=false:=by decide) (hcd:(x == ("__classdict__":Str))=false:=by decide)
 (hbase:∀ env,attributeBase (.Name x px) "append" env (eval (.Name x px) env)=eval (.Name x px) env:=by intro _; walk_at "u")
 (hfew:∀ env,((backTo cp (starEach [e] env)).all (fun x=> !x.1) && (backToKw cp (keywordEach [] env)).all (fun x=>x.1.isSome)
   && decide (([e]:List Expr).length+([]:List Keyword).length+(if ([]:List Keyword).isEmpty then 0 else 1)<30))=true:=by intro _; walk_at "u")
 (hline:(ap.endLine == cp.line)=true:=by walk_at "u") (he:∀ env,starEach [e] env=(false,eval e env)::starEach [] env:=by intro _; walk_at "u") (hpl:∀ env,(backTo cp (starEach [] env)).any (·.1)=false:=by intro _; walk_at "u") :
 eE c (.Expr (.Call (.Attribute (.Name x px) "append" ap) [e] [] cp) pos) ρ nx p:=fun σ H Hf D S o=>by
 obtain ⟨q,eq,rq⟩:=S.own hi.get (cS hr)
 obtain ⟨xs,h1,h2,h3⟩:=GR hr rq
 refine dH (jR (EX PySem.F.plainAttrs_list PySem.F.slot_list_append PySem.F.type_list_append mz (c.kF hN hd hcd) (bL cO c8 (he _)) (hbase _) (hfew _) hline (he _) (hpl _)) (hs _)) ⟨_,eq,.inl ⟨rfl,xs,.inl (.inl h1)⟩,?_⟩
 refine h σ H Hf _ S fun d v H' aj ⟨hz,ρ',hs',hn⟩ rd g=>?_
 have S':=S.ck g
 have e1:H' q=some (.lst xs):=g.s _ _ h1
 have e2:aj q=none:=g.n q h2 (by rw [h1]; simp) (by intro ys; rw [h1]; simp)
 refine ⟨q,xs,v,rfl,rfl,e1,by rw [← h3.length]; exact hz,?_⟩
 refine o.nx _ _ aj ρ' ?_ hn
 rw [hs'.eq]
 have rq':=rq.ck g
 exact S'.upd hi.get (cS hr) eq (gw g.b e2) (kG hr rq' ah e2 ((h3.mono g.f).append (.one rd))) (gS hr)
end
section
variable {κ β:Type} [DecidableEq κ]
noncomputable def bh (kvs:List (κ×β)) (k:κ):Option β:=(kvs.find? fun kv=>decide (kv.1=k)).map (·.2)
noncomputable def putD (kvs:List (κ×β)) (k:κ) (v:β):List (κ×β) :=
 if (bh kvs k).isSome=true then kvs.map (fun kv=>if kv.1=k then (kv.1,v) else kv) else kvs++[(k,v)]
theorem aY {q:κ×β} {r:List (κ×β)} {k:κ} (e:q.1=k):bh (q::r) k=some q.2:=by simp [bh,Og,e]
theorem aP {q:κ×β} {r:List (κ×β)} {k:κ} (e:¬ q.1=k):bh (q::r) k=bh r k:=by simp [bh,Og,e]
end
noncomputable def D.wH:D→Option Key | .int i=>some (.inl i) | .str x=>some (.inr x) | _=>none
noncomputable def D.keys:List D→Option (List Key)
 | []=>some []
 | d::r=>match d.wH,D.keys r with | some k,some ks=>some (k::ks) | _,_=>none
theorem iO {K:MI} (h:d.wH=some k) (r:Rep K H d v):v=kV k:=by
 cases d with
 | int i=>cases h; exact av.mp r
 | str x=>cases h; exact eZ.mp r
 | _=>cases h
theorem gx {K:MI}:∀ {ds:List D} {ks:List Key} {xs:List V},D.keys ds=some ks→aq K H ds xs→xs=ks.map kV
 | [],ks,xs,h,r=>by cases h; rw [ay.mp r]; rfl
 | d::ds,ks,xs,h,r=>by
  obtain ⟨x,t,rfl,r1,r2⟩:=aC.mp r
  unfold D.keys at h
  cases e1:d.wH with
  | none=>rw [e1] at h; cases h
  | some k =>
   cases e2:D.keys ds with
   | none=>rw [e1,e2] at h; cases h
   | some ks' =>
    rw [e1,e2] at h; cases h
    rw [iO e1 r1,gx e2 r2]; rfl
noncomputable def Sl.E5:Sl→Bool | .oK _=>true | .aK _ _=>true | .oT _=>true | .aT _ _=>true | _=>false
theorem p6 {r:Sl} (h:r.E5=true):r.owned=true:=by cases r <;> first | rfl | cases h
noncomputable def Sl.sC:Sl→Option (List (Key×D)) | .oK kvs=>some kvs | .aK _ kvs=>some kvs | _=>none
noncomputable def Sl.p7:Sl→List (Key×D)→Sl | .oK _,es=>.oK es | .aK a _,es=>.aK a es | s,_=>s
noncomputable def Sl.wI:Sl→Option (List (List Key×D)) | .oT kvs=>some kvs | .aT _ kvs=>some kvs | _=>none
noncomputable def Sl.zM:Sl→List (List Key×D)→Sl | .oT _,es=>.oT es | .aT a _,es=>.aT a es | s,_=>s
theorem kH {r:Sl} (h:r.sC=some kvs):r.owned=true:=by cases r <;> first | rfl | cases h
theorem kI {r:Sl} (h:r.sC=some kvs):(r.p7 es).owned=true:=by cases r <;> first | rfl | cases h
theorem sD {r:Sl} (h:r.wI=some kvs):(r.zM es).owned=true:=by cases r <;> first | rfl | cases h
section
variable {K:MI} {fr:Addr→Prop} {H Hf H1 aI:Hp} {r:Sl} {p:Addr}
theorem wJ (h:r.sC=some kvs) (q:aS K fr H Hf r (.ref p)):∃ xs,H p=some (.dK xs)∧Hf p=none∧lN K Hf kvs xs:=by
 cases r with
 | oK es=>cases h; obtain ⟨_,xs,e,_,h1,h2,h3⟩:=q; cases e; exact ⟨xs,h1,h2,h3⟩
 | aK a es=>cases h; obtain ⟨_,xs,e,_,h1,h2,h3⟩:=q; cases e; exact ⟨xs,h1,h2,h3⟩
 | _=>cases h
theorem Dk (h:r.wI=some kvs) (q:aS K fr H Hf r (.ref p)):∃ xs,H p=some (.dT xs)∧Hf p=none∧kB K Hf kvs xs:=by
 cases r with
 | oT es=>cases h; obtain ⟨_,xs,e,_,h1,h2,h3⟩:=q; cases e; exact ⟨xs,h1,h2,h3⟩
 | aT a es=>cases h; obtain ⟨_,xs,e,_,h1,h2,h3⟩:=q; cases e; exact ⟨xs,h1,h2,h3⟩
 | _=>cases h
theorem p8 (h:r.sC=some kvs) (q:aS K fr H Hf r (.ref p)) (h1:H1 p=some (.dK ys)) (h2:aI p=none) (h3:lN K aI es ys):aS K (fun q=>q=p) H1 aI (r.p7 es) (.ref p):=by
 cases r with
 | oK _=>exact ⟨p,ys,rfl,rfl,h1,h2,h3⟩
 | aK a _=>obtain ⟨_,xs,e,f,_⟩:=q; cases e; exact ⟨p,ys,rfl,⟨rfl,f.2⟩,h1,h2,h3⟩
 | _=>cases h
theorem zN (h:r.wI=some kvs) (q:aS K fr H Hf r (.ref p)) (h1:H1 p=some (.dT ys)) (h2:aI p=none) (h3:kB K aI es ys):aS K (fun q=>q=p) H1 aI (r.zM es) (.ref p):=by
 cases r with
 | oT _=>exact ⟨p,ys,rfl,rfl,h1,h2,h3⟩
 | aT a _=>obtain ⟨_,xs,e,f,_⟩:=q; cases e; exact ⟨p,ys,rfl,⟨rfl,f.2⟩,h1,h2,h3⟩
 | _=>cases h
noncomputable def zO (K:MI) (Hf:Hp):Option D→Option V→Prop
 | none,none=>True
 | some d,some v=>Rep K Hf d v
 | _,_=>False
theorem lN.val (h:lN K Hf kvs xs) (k:Key):zO K Hf (bh kvs k) (ko xs k):=by
 unfold lN at h
 induction h with
 | nil=>exact Oz
 | @cons a b as bs h t ih =>
  by_cases e:a.1=k
  ·rw [aY e,kq (h.1.symm.trans e)]; exact h.2
  ·rw [aP e,kr (fun z=>e (h.1.trans z))]; exact ih
theorem zO.isSome (h:zO K Hf o u):o.isSome=u.isSome:=by
 cases o <;> cases u <;> first | rfl | exact h.elim
theorem lN.put (h:lN K Hf kvs xs) (k:Key) (rd:Rep K Hf d v):lN K Hf (putD kvs k d) (putK xs k v):=by
 have e:=(h.val k).isSome
 unfold putD putK
 rw [e,pH]
 by_cases q:(ko xs k).isSome=true
 ·rw [if_pos q,if_pos q]
  unfold lN at h ⊢
  clear e q
  induction h with
  | nil=>exact .nil
  | @cons a b as bs h t ih =>
   rw [MN,MN]
   refine .cons ?_ ih
   by_cases e:a.1=k
   ·rw [if_pos e,if_pos (h.1.symm.trans e)]; exact ⟨h.1,rd⟩
   ·rw [if_neg e,if_neg (fun z=>e (h.1.trans z))]; exact h
 ·rw [if_neg q,if_neg q]; exact Rx h ⟨rfl,rd⟩
theorem kB.val (h:kB K Hf kvs xs) (k):zO K Hf (bh kvs k) (atT xs k):=by
 unfold kB at h
 induction h with
 | nil=>exact Oz
 | @cons a b as bs h t ih =>
  by_cases e:a.1=k
  ·have z:L2.atT (b::bs) k=some b.2.2:=by simp [L2.atT,Og,h.1.symm.trans e]
   rw [aY e,z]; exact h.2.2
  ·have z:L2.atT (b::bs) k=L2.atT bs k:=by
    have:¬ b.1=k:=fun z=>e (h.1.trans z)
    simp [L2.atT,Og,this]
   rw [aP e,z]; exact ih
theorem kB.put (h:kB K Hf kvs xs) (k) (hb:cQ K Hf b (k.map kV)) (rd:Rep K Hf d v):kB K Hf (putD kvs k d) (pK xs k b v):=by
 have e:=(h.val k).isSome
 unfold putD pK
 rw [e]
 by_cases q:(atT xs k).isSome=true
 ·rw [if_pos q,if_pos q]
  unfold kB at h ⊢
  clear e q
  induction h with
  | nil=>exact .nil
  | @cons a b' as bs h t ih =>
   rw [MN,MN]
   refine .cons ?_ ih
   unfold nO
   by_cases e:a.1=k
   ·rw [if_pos e,if_pos (h.1.symm.trans e)]; exact ⟨h.1,h.2.1,rd⟩
   ·rw [if_neg e,if_neg (fun z=>e (h.1.trans z))]; exact h
 ·rw [if_neg q,if_neg q]; exact Rx h ⟨rfl,hb,rd⟩
theorem kB.zP (h:kB K Hf kvs xs):∀ x∈xs,cQ K Hf x.2.1 (x.1.map kV):=by
 unfold kB at h
 induction h with
 | nil=>intro x hx; cases hx
 | @cons a b as bs h t ih =>
  intro x hx
  rcases M0.mp hx with e | hx
  ·subst e; rw [← h.1]; exact h.2.1
  ·exact ih x hx
inductive E6:Sl→D→Option D→Prop
 | k {r:Sl} {kvs:List (Key×D)} {d:D} {k:Key} (h:r.sC=some kvs) (hk:d.wH=some k):E6 r d (bh kvs k)
 | t {r:Sl} {kvs:List (List Key×D)} {ds:List D} {k:List Key} (h:r.wI=some kvs) (hk:D.keys ds=some k):E6 r (.tup ds) (bh kvs k)
inductive Dl:Sl→D→D→Sl→Prop
 | k {r:Sl} {kvs:List (Key×D)} {d e:D} {k:Key} (h:r.sC=some kvs) (hk:d.wH=some k) (hz:kvs.length<sizeLine):Dl r d e (r.p7 (putD kvs k e))
 | t {r:Sl} {kvs:List (List Key×D)} {ds:List D} {e:D} {k:List Key} (h:r.wI=some kvs) (hk:D.keys ds=some k) (hz:kvs.length<sizeLine):Dl r (.tup ds) e (r.zM (putD kvs k e))
theorem Dl.owned' (h:Dl r d e r'):r'.owned=true:=by cases h with | k h _ _=>exact kI h | t h _ _=>exact sD h
theorem E6.get (h:E6 r d o) (q:aS K fr H Hf r (.ref p)) (rv:Rep K Hf d v) (sb:aD Hf H):∃ u,nP K H p v u∧zO K Hf o u:=by
 cases h with
 | k h hk =>
  obtain ⟨xs,h1,_,h3⟩:=wJ h q
  rw [iO hk rv]
  exact ⟨_,.inl ⟨xs,_,.inl h1,rfl,rfl⟩,h3.val _⟩
 | t h hk =>
  obtain ⟨xs,h1,_,h3⟩:=Dk h q
  obtain ⟨a,ys,rfl,h4,h5⟩:=aE.mp rv
  have:=gx hk h5
  subst this
  exact ⟨_,.inr ⟨xs,_,a,.inl h1,fun x hx=>au sb (h3.zP x hx),rfl,au sb h4,rfl⟩,h3.val _⟩
theorem lN.length (h:lN K Hf kvs xs):kvs.length=xs.length:=N4 h
theorem kB.length (h:kB K Hf kvs xs):kvs.length=xs.length:=N4 h
theorem Dl.put (h:Dl r d e r') (q:aS K fr H Hf r (.ref p)) (rv:Rep K Hf d v) (ry:Rep K Hf e y) (sb:aD Hf H) :
 ∃ o,CN K H p v y (upd H p o)∧aS K (fun q=>q=p) (upd H p o) Hf r' (.ref p):=by
 cases h with
 | k h hk hz =>
  obtain ⟨xs,h1,h2,h3⟩:=wJ h q
  rw [iO hk rv]
  exact ⟨_,.inl ⟨xs,_,h1,rfl,by rw [← h3.length]; exact hz,rfl⟩,p8 h q ah h2 (h3.put _ ry)⟩
 | t h hk hz =>
  obtain ⟨xs,h1,h2,h3⟩:=Dk h q
  obtain ⟨a,ys,rfl,h4,h5⟩:=aE.mp rv
  have:=gx hk h5
  subst this
  exact ⟨_,.inr ⟨xs,_,a,h1,fun x hx=>au sb (h3.zP x hx),rfl,au sb h4,by rw [← h3.length]; exact hz,rfl⟩,zN h q ah h2 (h3.put _ h4 ry)⟩
end
section
variable {K:MI} {c:Ctx P w K mg base k N sc bk}
theorem Ctx.hu (c:Ctx P w K mg base k N sc bk):c.X.A.units+1<cLine:=JB c.room
theorem uO {R:Sl→Prop} (h:R (.oK [])):c6 c (.Dict [] [] pos) ρ R:=fun σ H Hf Q S q =>
 bF yQ fun p hp=>q (.oK []) (.ref p) _ Hf h ⟨p,[],rfl,hp,ah,S.sb.free hp,.nil⟩ (aZ.fN S.sb hp)
theorem Dm {R:Sl→Prop} (h:R (.oT [])):c6 c (.Dict [] [] pos) ρ R:=fun σ H Hf Q S q =>
 bF yR fun p hp=>q (.oT []) (.ref p) _ Hf h ⟨p,[],rfl,hp,ah,S.sb.free hp,.nil⟩ (aZ.fN S.sb hp)
theorem GS (hN:At N i x) (hi:At ρ i r) (h:aF c e ρ fun dk=>aF c f ρ fun df=>∃ o,E6 r dk o∧R (o.getD df)) (hd:(x == ("__debug__":Str))=false:=by decide) (hcd:(x == ("__classdict__":Str))=false:=by decide) (ho:r.E5=true:=by rfl)
 (m1:∀ env,attributeBase (.Name x px) "get" env (eval (.Name x px) env)=eval (.Name x px) env:=by intro _; walk_at "u")
 (m2:∀ env,((backTo cp (starEach [e,f] env)).all (fun x=> !x.1) && (backToKw cp (keywordEach [] env)).all (fun x=>x.1.isSome)
   && decide (([e,f]:List Expr).length+([]:List Keyword).length+(if ([]:List Keyword).isEmpty then 0 else 1)<30))=true:=by intro _; walk_at "u")
 (m3:(ap.endLine == cp.line)=true:=by walk_at "u") (m4:∀ env,backTo cp (starEach [e,f] env)=[(false,eval e env),(false,eval f env)]:=by intro _; walk_at "u") :
 aF c (.Call (.Attribute (.Name x px) "get" ap) [e,f] [] cp) ρ R:=fun σ H Hf Q S q=>by
 obtain ⟨p,ep,rp⟩:=S.own hi.get (p6 ho)
 have GQ:LM H p:=by
  cases r with
  | oK kvs=>obtain ⟨xs,h1,_⟩:=wJ (r:=.oK kvs) rfl rp; exact .inl ⟨xs,.inl h1⟩
  | aK a kvs=>obtain ⟨xs,h1,_⟩:=wJ (r:=.aK a kvs) rfl rp; exact .inl ⟨xs,.inl h1⟩
  | oT kvs=>obtain ⟨xs,h1,_⟩:=Dk (r:=.oT kvs) rfl rp; exact .inr ⟨xs,.inl h1⟩
  | aT a kvs=>obtain ⟨xs,h1,_⟩:=Dk (r:=.aT a kvs) rfl rp; exact .inr ⟨xs,.inl h1⟩
  | _=>cases ho
 refine bF (yS c.hu (c.kF hN hd hcd) cO cO ⟨m1 _,m2 _,m3,m4 _⟩) ⟨_,ep,p,rfl,GQ,h σ H Hf _ S fun dk v H1 aI h1 rv g1=>h1 σ H1 aI _ (S.ck g1) fun df y H2 cD ⟨o,lk,hR⟩ ry g2=>?_⟩
 obtain ⟨u,dg,rel⟩:=lk.get (rp.ck (g1.trans g2)) (Rep.mono g2.f _ rv) g2.b
 refine ⟨u,dg,?_⟩
 cases o with
 | none=>cases u with
  | none=>exact q df y H2 cD hR ry (g1.trans g2)
  | some _=>exact rel.elim
 | some d=>cases u with
  | none=>exact rel.elim
  | some v'=>exact q d v' H2 cD hR rel (g1.trans g2)
theorem GU (hN:At N i x) (hi:At ρ i r) (h:aF c e ρ fun dv=>aF c b ρ fun dk=>∃ r',Dl r dk dv r'∧Nx ρ i nx r') (ho:r.owned=true:=by rfl)
 (hs:∀ env,swapsWith e (some (.Subscript (.Name x px) b tp)) pos.line env=pure false:=by intro _; walk_at "u") (hd:(x == ("__debug__":Str))=false:=by decide) (hcd:(x == ("__classdict__":Str))=false:=by decide) :
 eE c (.Assign [.Subscript (.Name x px) b tp] e pos) ρ nx p:=fun σ H Hf D S o=>by
 obtain ⟨p,ep,rp⟩:=S.own hi.get ho
 refine dH (CQ c.hu (c.kF hN hd hcd) cO cO (hs _)) (h σ H Hf _ S fun dv v H1 aI h1 rv g1=>⟨_,ep,h1 σ H1 aI _ (S.ck g1) fun dk y H2 cD ⟨r',pt,ρ',hs',hn⟩ ry g2=>?_⟩)
 have g:=g1.trans g2
 obtain ⟨ob,dp,rp'⟩:=pt.put (rp.ck g) ry (Rep.mono g2.f _ rv) g.b
 refine ⟨p,_,rfl,dp,o.nx _ _ cD ρ' ?_ hn⟩
 rw [hs'.eq]
 obtain ⟨_,_,e0,_,_,hf⟩:=(rp.ck g).p5 ho
 cases e0
 exact (S.ck g).upd hi.get ho ep (gw g.b hf) rp' pt.owned'
theorem uP (hN:At N i x) (hi:At ρ i r) (h:aF c b ρ fun dk=>∃ m:Int,E6 r dk (some (.int m))∧aF c e ρ (I1 fun j=>∃ r',Dl r dk (.int (m+j)) r'∧Nx ρ i nx r')) (ho:r.owned=true:=by rfl)
 (ha:∀ ov iv new,augStore b ov iv new=(do holding [new,ov,iv] (setItem ov iv new); release [new,ov,iv] []; pure .next):=by intro _ _ _; walk_at "u") (hd:(x == ("__debug__":Str))=false:=by decide) (hcd:(x == ("__classdict__":Str))=false:=by decide) :
 eE c (.AugAssign (.Subscript (.Name x px) b tp) .Add e pos) ρ nx p:=fun σ H Hf D S o=>by
 obtain ⟨p,ep,rp⟩:=S.own hi.get ho
 have hop:Jt c.X .Add (uo fun i j=>.int (i+j)):=Cw
 refine dH (CS c.hu (c.kF hN hd hcd) cO cO hop ha) ⟨_,ep,h σ H Hf _ S fun dk y H1 aI ⟨m,lk,h1⟩ ry g1=>?_⟩
 obtain ⟨u,dg,rel⟩:=lk.get (rp.ck g1) ry g1.b
 cases u with
 | none=>exact rel.elim
 | some u =>
  have eu:u=V.int m:=(av (K:=c.X.K) (H:=aI)).mp rel
  subst eu
  refine ⟨p,_,rfl,dg,h1 σ H1 aI _ (S.ck g1) fun dj y2 H2 cD ⟨j,ej,r',pt,ρ',hs',hn⟩ ry2 g2=>?_⟩
  subst ej
  rw [av.mp ry2]
  have g:=g1.trans g2
  obtain ⟨ob,dp,rp'⟩:=pt.put (rp.ck g) (Rep.mono g2.f _ ry) (v:=y) (y:=.int (m+j)) (av.mpr rfl) g.b
  refine ⟨m,j,rfl,rfl,_,dp,o.nx _ _ cD ρ' ?_ hn⟩
  rw [hs'.eq]
  obtain ⟨_,_,e0,_,_,hf⟩:=(rp.ck g).p5 ho
  cases e0
  exact (S.ck g).upd hi.get ho ep (gw g.b hf) rp' pt.owned'
theorem E7 (hN:At N i x) (hi:At ρ i r) (h:aF c e ρ fun dk=>∃ o,E6 r dk o∧T o.isSome) (ho:r.owned=true:=by rfl) (hm:behindInMarks CmpOp.In (.Name x px)=false:=by walk_at "u")
 (hd:(x == ("__debug__":Str))=false:=by decide) (hcd:(x == ("__classdict__":Str))=false:=by decide):jg c (.Compare e [.In] [.Name x px] pos) ρ T:=fun σ H Hf Q S q=>by
 obtain ⟨p,ep,rp⟩:=S.own hi.get ho
 refine uD (FJ (Gm c.hu cO (c.kF hN hd hcd)) hm) (h σ H Hf _ S fun dk y H1 aI ⟨o,lk,hT⟩ ry g=>⟨_,ep,?_⟩)
 obtain ⟨u,dg,rel⟩:=lk.get (rp.ck g) ry g.b
 refine ⟨p,u,rfl,dg,u.isSome,rfl,q _ H1 aI ?_ g⟩
 rw [← rel.isSome]; exact hT
end
noncomputable abbrev jW:Value→Shared→Prop:=fun _ _=>False
section
variable {prog:Program} {w:World} {A:Around} {R:Result→Shared→Prop} {s:Shared}
theorem nW {elt target iter:Expr} {ifs:List Expr} {scope:Scope} {pos:Pos} {it acc:Value} {env:Env} (I:Nat→Shared→Prop)
 (turn:∀ n s,I n s→wpAny (model prog w) A (pyNext it) (fun r s₁=>match r with
   | none=>R (.ok .next) s₁
   | some v=>wpAny (model prog w) A (letOwnedTupleGo target it v) (fun _ s₁'=>wpAny (model prog w) A (assign target env v) (fun _ s₂ =>
    wpAny (model prog w) A (forIn ifs true fun c r=>if r=true then do let ok ← isTrue c env (eval c env); pure (NG ok) else pure (NG r)) (fun ok s₃ =>
     if ok=true then wpAny (model prog w) A (eval elt env) (fun x s₄ =>
      wpAny (model prog w) A (call (.builtin "list.append") [acc,x]) (fun _ s₅=>∃ m,m<n∧I m s₅) jW s₄) jW s₃
     else ∃ m,m<n∧I m s₃) jW s₂) jW s₁') jW s₁) jW s)
 (n:Nat) (h:I n s) :
 codeAny (model prog w) A (.compLoop (.ListComp elt [⟨target,iter,ifs,0⟩] scope pos) 0 it acc env) R s:=by
 refine codeAny_loop rfl I (fun n s hI=>?_) n h
 show wpAny _ A ((compTurn (.ListComp elt [⟨target,iter,ifs,0⟩] scope pos) 0 it acc env).onRaise (fun x=>do noteFrame x env; theTreesLotGoes x)) _ _ s
 refine wpAny_noted ?_
 rw [compTurn_list]
 refine MG (wpAny_standAt (MG (Nv (turn n s hI) (fun r s₁ h₁=>?_) fun _ _ f=>f.elim)))
 cases r with
 | none=>exact MJ h₁
 | some v =>
  refine MG (Nv h₁ (fun _ s₁' h₁'=>?_) fun _ _ f=>f.elim)
  refine MG (Nv h₁' (fun _ s₂ h₂=>MG (Nv h₂ (fun ok s₃ h₃=>?_) fun _ _ f=>f.elim)) fun _ _ f=>f.elim)
  cases ok with
  | false=>exact MJ ⟨rfl,h₃⟩
  | true =>
   exact MG (MG (Nv h₃ (fun x s₄ h₄=>MG (Nv h₄ (fun _ s₅ h₅=>MJ (MJ ⟨rfl,h₅⟩)) fun _ _ f=>f.elim)) fun _ _ f=>f.elim))
theorem jE:∀ (ifs:List Expr),Q false s →
 wpAny (model prog w) A (forIn ifs false fun c r=>if r=true then do let ok ← isTrue c env (eval c env); pure (NG ok) else pure (NG r)) Q E s
 | [],h=>MJ h
 | t::ts,h=>by
  simp only [Rf,ND,if_false]
  exact MG (MJ (jE ts h))
theorem sE
 (h:wpAny (model prog w) A (isTrue t env (eval t env)) (fun b s'=>if b=true then wpAny (model prog w) A (forIn ts true fun c r=>if r=true then do let ok ← isTrue c env (eval c env); pure (NG ok) else pure (NG r)) Q E s' else Q false s') E s) :
 wpAny (model prog w) A (forIn (t::ts) true fun c r=>if r=true then do let ok ← isTrue c env (eval c env); pure (NG ok) else pure (NG r)) Q E s:=by
 simp only [Rf,if_true]
 refine MG (MG (Nv h (fun b s' hb=>MJ ?_) fun _ _ x=>x))
 cases b with
 | true=>exact hb
 | false=>exact jE ts hb
end
noncomputable def bU (scope sc:Scope):Scope:={ scope with names:=scope.names.map fun (n,k)=>if (k == .free && sc.kind == .function && sc.names.lookup n == some .cell) then (n,.cell) else (n,k) }
theorem p9 (h:env.scope=sc):relabel scope env=bU scope sc:=by
 subst h; rfl
noncomputable def Sl.tag (a:Addr):Sl→Sl
 | .ow ds=>.aw a ds | .oT ds=>.aT a ds | .oK ds=>.aK a ds
 | .aw b ds=>.aw b ds | .aT b ds=>.aT b ds | .aK b ds=>.aK b ds | .fo s=>.fo s
 | .un=>.un | .va d=>.va d
inductive zQ (t:Str→Addr) (nm:List (Str×NameKind)) (N:List Str) (ρ:List Sl):List Str→List Sl→Prop
 | nil:zQ t nm N ρ [] []
 | un {y:Str} {M:List Str} {r:List Sl}:zQ t nm N ρ M r→zQ t nm N ρ (y::M) (.un::r)
 | fr {y:Str} {i:Nat} {s s':Sl} {M:List Str} {r:List Sl} (hN:At N i y) (hs:At ρ i s) (hy:(y,OE)∈nm) (ht:s.tag (t y)=s'):zQ t nm N ρ M r→zQ t nm N ρ (y::M) (s'::r)
theorem zQ.len (h:zQ t nm N ρ M r):M.length=r.length:=by
 induction h with
 | nil=>rfl
 | un t ih=>simp [ih]
 | fr hN hs hy ht t ih=>simp [ih]
inductive Dn:List Sl→List Sl→Prop
 | nil:Dn [] []
 | un {r:Sl} {a b:List Sl}:Dn a b→Dn (.un::a) (r::b)
 | same {r:Sl} {a b:List Sl}:Dn a b→Dn (r::a) (r::b)
theorem Dn.weak (h:Dn a b):a.length=b.length∧∀ (i:Nat) (r:Sl),a[i]?=some r→r≠.un→b[i]?=some r:=by
 induction h with
 | nil=>exact ⟨rfl,fun i r e=>by simp at e⟩
 | un t ih=>exact ⟨by simp [ih.1],fun i r e hu=>by cases i with | zero=>simp at e; exact absurd e.symm hu | succ i=>simpa using ih.2 i r (by simpa using e) hu⟩
 | same t ih=>exact ⟨by simp [ih.1],fun i r e hu=>by cases i with | zero=>simpa using e | succ i=>simpa using ih.2 i r (by simpa using e) hu⟩
section
variable {K:MI}
noncomputable def sF (c:Ctx P w K mg base k N sc bk):List Expr→List Sl→(Bool→Prop)→Prop
 | [],_,T=>T true
 | t::ts,ρ,T=>jg c t ρ (mO (sF c ts ρ T) (T false))
theorem mP (hq:c.X.xe=jW):∀ (ifs:List Expr) {H Hf:Hp} {s:Shared},bg c σ H Hf ρ→sF c ifs ρ T→(∀ b H' aj,T b→aZ H Hf H' aj→Q b H')→Inv c.X aa σ H s →
 wpAny (model c.X.prog c.X.w) c.X.A (forIn ifs true fun t r=>if r=true then do let ok ← isTrue t c.X.env (eval t c.X.env); pure (NG ok) else pure (NG r)) (TP c.X aa σ Q) jW s
 | [],H,Hf,s,S,h,q,I=>wpAny_tests_nil ⟨H,I,q true H Hf h (.refl S.sb)⟩
 | t::ts,H,Hf,s,S,h,q,I=>by
  have h0:=h σ H Hf (fun b H'=>∃ aj,mO (sF c ts ρ T) (T false) b∧aZ H Hf H' aj) S (fun b H' aj hb g=>⟨aj,hb,g⟩) aa s I
  rw [hq] at h0
  refine sE (bw h0 fun b s' ⟨H',I',aj,hb,g⟩=>?_)
  cases b with
  | true=>exact mP hq ts (S.ck g) (hb.t rfl) (fun b H2 cD hT g2=>q b H2 cD hT (g.trans g2)) I'
  | false=>exact ⟨H',I',q false H' aj (hb.f rfl) g⟩
end
theorem kJ:∀ (names:List (Str×NameKind)) (cs:List (Str×Addr)),(∀ x∈names,x.2=.free→∃ a,env.cells.lookup x.1=some a) →
 ∃ cl,(forIn names cs (fun (x:Str×NameKind) (r:List (Str×Addr))=>(if (x.2 == OE)=true then do let a ← cellOf env x.1; pure (NG ((x.1,a)::r)) else pure (NG r):Sem (ForInStep (List (Str×Addr))))))=(pure cl:Sem (List (Str×Addr))) ∧
  (∀ y a,cl.lookup y=some a→cs.lookup y=some a∨env.cells.lookup y=some a∧(y,OE)∈names)∧(∀ y a,(y,OE)∈names∨(∃ b,cs.lookup y=some b∧env.cells.lookup y=some b)→env.cells.lookup y=some a→cl.lookup y=some a)
 | [],cs,_=>⟨cs,rfl,fun y a e=>.inl e,fun y a h e=>by
  rcases h with h | ⟨b,h1,h2⟩
  ·cases h
  ·rw [e] at h2; cases h2; exact h1⟩
 | (n,kd)::r,cs,h=>by
  by_cases hk:kd=.free
  ·subst hk
   obtain ⟨a,ea⟩:=h (n,.free) MW rfl
   obtain ⟨cl,e1,e2,e3⟩:=kJ r ((n,a)::cs) fun x hx=>h x (MX _ hx)
   refine ⟨cl,?_,fun y b e=>?_,fun y b hy e=>?_⟩
   ·rw [Rf]
    simp only [beq_self_eq_true,if_true,cellOf,ea,pure_bind]
    exact e1
   ·rcases e2 y b e with z | ⟨z1,z2⟩
    ·rw [Sk] at z
     cases q:(y == n) with
     | true =>
      rw [q] at z; cases z
      have:y=n:=by simpa using q
      subst this
      exact .inr ⟨ea,MW⟩
     | false=>rw [q] at z; exact .inl z
    ·exact .inr ⟨z1,MX _ z2⟩
   ·refine e3 y b ?_ e
    rcases hy with hy | ⟨b',h1,h2⟩
    ·rcases M0.mp hy with z | z
     ·cases z; exact .inr ⟨a,by simp,ea⟩
     ·exact .inl z
    ·refine .inr ⟨b',?_,h2⟩
     rw [Sk]
     cases q:(y == n) with
     | true =>
      have:y=n:=by simpa using q
      subst this
      rw [ea] at h2; exact h2
     | false=>exact h1
  ·have hb:(kd == OE)=false:=by simpa using hk
   obtain ⟨cl,e1,e2,e3⟩:=kJ r cs fun x hx=>h x (MX _ hx)
   refine ⟨cl,?_,fun y b e=>?_,fun y b hy e=>?_⟩
   ·rw [Rf]
    simp only [hb,ND,if_false,pure_bind]
    exact e1
   ·rcases e2 y b e with z | ⟨z1,z2⟩
    ·exact .inl z
    ·exact .inr ⟨z1,MX _ z2⟩
   ·refine e3 y b ?_ e
    rcases hy with hy | hy
    ·rcases M0.mp hy with z | z
     ·cases z; exact absurd rfl hk
     ·exact .inl z
    ·exact .inr hy
theorem Dp (h:∀ x∈scope.names,x.2=.free→∃ a,env.cells.lookup x.1=some a) :
 ∃ cl,closureFor scope env=pure cl∧(∀ y a,cl.lookup y=some a→env.cells.lookup y=some a∧(y,OE)∈scope.names)∧(∀ y a,(y,OE)∈scope.names→env.cells.lookup y=some a→cl.lookup y=some a):=by
 obtain ⟨cl,e1,e2,e3⟩:=kJ scope.names [] h
 refine ⟨cl,?_,fun y a e=>?_,fun y a hy e=>e3 y a (.inl hy) e⟩
 ·unfold closureFor
  have e1':=congrArg (· >>= fun cs=>(pure cs:Sem _)) e1
  simp only [pure_bind] at e1'
  exact e1'
 ·rcases e2 y a e with z | z
  ·simp at z
  ·exact z
section
variable {P:Program} {w:World} {K:MI} {mg:Str→Option Value} {base:Heap} {k:Nat} {N:List Str} {sc:Scope} {bk:Bool} {c:Ctx P w K mg base k N sc bk} {ρ:List Sl} {pos:Pos}
noncomputable def zR (c:Ctx P w K mg base k N sc bk) (tg:Expr) (ifs:List Expr) (elt:Expr) (ρ0:List Sl) (d:D) (o:Option D):Prop :=
 mJ c tg d ρ0 fun ρ1=>Dn ρ0 ρ1∧sF c ifs ρ1 (mO (aF c elt ρ1 fun e=>o=some e) (o=none))
theorem iP {nm:List (Str×NameKind)}:∀ {y:Str} {kd:NameKind},(nm.map fun (x:Str×NameKind)=>match x with | (n,k)=>(if (k == .free && sc.kind == .function && sc.names.lookup n == some .cell)=true then (n,NameKind.cell) else (n,k))).lookup y=some kd→∃ k0,(y,k0)∈nm∧(kd=k0∨kd=.cell∧k0=.free):=by
 induction nm with
 | nil=>intro y kd h; simp at h
 | cons x r ih =>
  obtain ⟨n,k0⟩:=x
  intro y kd h
  rw [MN,Sk] at h
  by_cases e:(k0 == .free && sc.kind == .function && sc.names.lookup n == some .cell)=true
  ·simp only [e,if_true] at h
   cases q:(y == n) with
   | true =>
    rw [q] at h; cases h
    have:y=n:=by simpa using q
    subst this
    have hf:k0=.free:=by simp only [Qc,beq_iff_eq] at e; exact e.1.1
    exact ⟨k0,MW,.inr ⟨rfl,hf⟩⟩
   | false=>rw [q] at h; obtain ⟨k1,h1,h2⟩:=ih h; exact ⟨k1,MX _ h1,h2⟩
  ·simp only [e,ND,if_false] at h
   cases q:(y == n) with
   | true =>
    rw [q] at h; cases h
    have:y=n:=by simpa using q
    subst this
    exact ⟨k0,MW,.inl rfl⟩
   | false=>rw [q] at h; obtain ⟨k1,h1,h2⟩:=ih h; exact ⟨k1,MX _ h1,h2⟩
theorem zQ.start {σ:L2.St} (h:zQ t nm N ρ M r) (hσ:∀ (i:Nat) (s:Sl),ρ[i]?=some s→s≠.un→∃ v,σ[i]?=some (some v)) :
 ∃ σ0:L2.St,σ0.length=r.length∧∀ (j:Nat) (s:Sl),r[j]?=some s→(s=.un∧σ0[j]?=some none)∨∃ (i:Nat) (y:Str) (v:V) (s0:Sl),M[j]?=some y∧(y,OE)∈nm∧N[i]?=some y∧ρ[i]?=some s0∧s=s0.tag (t y)∧s0≠.un∧σ[i]?=some (some v)∧σ0[j]?=some (some v):=by
 induction h with
 | nil=>exact ⟨[],rfl,fun j s e=>by simp at e⟩
 | un t ih =>
  obtain ⟨σ0,hl,h0⟩:=ih
  refine ⟨none::σ0,by simp [hl],fun j s e=>?_⟩
  cases j with
  | zero=>simp at e; exact .inl ⟨e.symm,by simp⟩
  | succ j =>
   rcases h0 j s (by simpa using e) with ⟨h1,h2⟩ | ⟨i,y,v,s0,h1,h2,h3,h4,h5,h6,h7,h8⟩
   ·exact .inl ⟨h1,by simpa using h2⟩
   ·exact .inr ⟨i,y,v,s0,by simpa using h1,h2,h3,h4,h5,h6,h7,by simpa using h8⟩
 | @fr y i s' s'' M r hN hs hy ht t ih =>
  obtain ⟨σ0,hl,h0⟩:=ih
  by_cases hu:s'=.un
  ·refine ⟨none::σ0,by simp [hl],fun j s e=>?_⟩
   cases j with
   | zero=>simp at e; subst hu; exact .inl ⟨e.symm.trans ht.symm,by simp⟩
   | succ j =>
    rcases h0 j s (by simpa using e) with ⟨h1,h2⟩ | ⟨i,y,v,s0,h1,h2,h3,h4,h5,h6,h7,h8⟩
    ·exact .inl ⟨h1,by simpa using h2⟩
    ·exact .inr ⟨i,y,v,s0,by simpa using h1,h2,h3,h4,h5,h6,h7,by simpa using h8⟩
  ·obtain ⟨v,ev⟩:=hσ i s' hs.get hu
   refine ⟨some v::σ0,by simp [hl],fun j s e=>?_⟩
   cases j with
   | zero=>simp at e; subst e; exact .inr ⟨i,y,v,s',by simp,hy,hN.get,hs.get,ht.symm,hu,ev,by simp⟩
   | succ j =>
    rcases h0 j s (by simpa using e) with ⟨h1,h2⟩ | ⟨i,y,v,s0,h1,h2,h3,h4,h5,h6,h7,h8⟩
    ·exact .inl ⟨h1,by simpa using h2⟩
    ·exact .inr ⟨i,y,v,s0,by simpa using h1,h2,h3,h4,h5,h6,h7,by simpa using h8⟩
noncomputable def Sl.adr:Sl→Option Addr | .aw a _=>some a | .aT a _=>some a | .aK a _=>some a | _=>none
theorem mQ {s:Sl}:(s.tag a).owned=s.owned:=by cases s <;> rfl
theorem Dq {s:Sl} (h:s.owned=true):∃ b,(s.tag a).adr=some b:=by cases s <;> first | exact ⟨_,rfl⟩ | cases h
theorem uQ (hv:s.owned=true→v=.ref a) (h:aS K fr H Hf s v):aS K fr H Hf (s.tag a) v:=by
 cases s with
 | ow ds=>obtain ⟨p,xs,e,f,r⟩:=h; exact ⟨p,xs,e,⟨f,by have:=hv rfl; rw [e] at this; cases this; rfl⟩,r⟩
 | oT ds=>obtain ⟨p,xs,e,f,r⟩:=h; exact ⟨p,xs,e,⟨f,by have:=hv rfl; rw [e] at this; cases this; rfl⟩,r⟩
 | oK ds=>obtain ⟨p,xs,e,f,r⟩:=h; exact ⟨p,xs,e,⟨f,by have:=hv rfl; rw [e] at this; cases this; rfl⟩,r⟩
 | _=>exact h
theorem uR (hb:s.adr=some b) (h:aS K fr H Hf s (.ref p)):p=b:=by
 cases s with
 | aw a ds=>cases hb; obtain ⟨q,xs,e,f,r⟩:=h; cases e; exact f.2
 | aT a ds=>cases hb; obtain ⟨q,xs,e,f,r⟩:=h; cases e; exact f.2
 | aK a ds=>cases hb; obtain ⟨q,xs,e,f,r⟩:=h; cases e; exact f.2
 | _=>cases hb
theorem cR.apart (S:cR K H₀ dB σ H Hf ρ) (h0:H₀ a=none) (hf:Hf a=none) (nf:¬ yU H a) (ha:∀ (i:Nat) (r:Sl),ρ[i]?=some r→r.owned=true→σ[i]?≠some (some (.ref a))):cR K H₀ dB σ (L2.upd H a o) Hf ρ :=
 ⟨⟨fun b u e=>by rw [L2.ak (az e h0)]; exact S.bas.s b u e,S.bas.f,fun b u e=>by rw [L2.ak (az e hf)]; exact S.bas.b b u e,S.bas.n⟩,S.len,fun i r hi hu=>by
   obtain ⟨v,e,q⟩:=S.at_ i r hi hu
   refine ⟨v,e,?_⟩
   have hg:aZ (del H a) Hf (L2.upd H a o) Hf:=gw S.bas.b hf
   exact (q.J3 (p:=a) nf fun ow z=>by subst z; exact ha i r hi ow e).ck hg,S.sep⟩
theorem nX (g:aZ H1 aI H' aj) (h1:H1 a=none) (hf:aj a=none):aZ H1 aI (upd H' a o) aj :=
 ⟨fun b u e=>by rw [ak (az e h1)]; exact g.s b u e,g.f,fun b u e=>by rw [ak (az e hf)]; exact g.b b u e,g.n⟩
theorem Dr {elt tg iter:Expr} {ifs:List Expr} {scope:Scope} {N':List Str} {ρ0:(Str→Addr)→List Sl} {R:Sl→Prop} (hq:c.X.xe=jW) (hfr:∀ t,zQ t scope.names N ρ N' (ρ0 t))
 (h:GL c tg iter ρ fun ds=>Sd (ds.length≤sizeLine) (∃ os:List (Option D),os.length=ds.length ∧
   (∀ c':Ctx P w K mg base k N' (bU scope sc) true,c'.X.xe=jW→∀ (t:Str→Addr) (i:Nat) (d:D) (o:Option D),ds[i]?=some d→os[i]?=some o→zR c' tg ifs elt (ρ0 t) d o)∧R (.ow (os.filterMap id))))
 (hk:scope.kind=.function:=by walk_at "u") (hnc:∀ x∈scope.names,x.2≠.cell:=by decide +kernel) (hnl:∀ x∈scope.names,x.2=.local→scope.names.lookup x.1=some .local:=by decide +kernel)
 (hfree:∀ x∈scope.names,x.2=.free→sc.names.lookup x.1=some .cell:=by decide +kernel) (hnd:N'.Nodup:=by decide +kernel) (hv:∀ x∈N',Loc (bU scope sc) x:=by unfold L2.Loc; decide +kernel)
 (hvf:∀ x∈scope.names,x.2=.free→(bU scope sc).names.lookup x.1=some .cell:=by decide +kernel)
 (hs:∀ env v,foldedSetIterable iter env v=pure v:=by intro _ _; walk_at "u")
 {σ:L2.St} {H Hf:Hp} (S:bg c σ H Hf ρ) {aa:List (Addr×Obj)} {s:Shared} (I:Inv c.X aa σ H s) {use:Option (Value→Sem Unit)} {QQ:Value→Shared→Prop}
 (kont:∀ (s':Shared) (H' aj:Hp) (a C:Addr) (r:Sl),R r→(∃ m,s'.heap.Ns C m)→C∉c.X.fs→fG c.X aa H' C→aS c.X.K (fun p=>H p=none) H' aj r (.ref a)→aZ H Hf H' aj→(∀ h5,Ov C s'.heap h5→Inv c.X aa σ H' { s' with heap:=h5 })→compPost (model c.X.prog c.X.w) c.X.A jW use QQ (.ref a) C (.ok .next) s') :
 wpAny (model c.X.prog c.X.w) c.X.A (comprehension (.ListComp elt [⟨tg,iter,ifs,0⟩] scope pos) scope c.X.env (firstIterPos [⟨tg,iter,ifs,0⟩] pos) (newList []) (firstAsync [⟨tg,iter,ifs,0⟩]) (firstIter [⟨tg,iter,ifs,0⟩] c.X.env) use) QQ jW s:=by
 have hI:=h σ H Hf (fun J H1=>∃ ds aI,Sd (ds.length≤sizeLine) (∃ os:List (Option D),os.length=ds.length ∧
  (∀ c':Ctx P w K mg base k N' (bU scope sc) true,c'.X.xe=jW→∀ (t:Str→Addr) (i:Nat) (d:D) (o:Option D),ds[i]?=some d→os[i]?=some o→zR c' tg ifs elt (ρ0 t) d o)∧R (.ow (os.filterMap id)))∧aZ H Hf H1 aI∧jh c.X.K J ds aI) S (fun ds J H' aj hR g io=>⟨ds,aj,hR,g,io⟩) aa s I
 rw [hq] at hI
 have hcells:∀ x∈scope.names,x.2=.free→∃ a,c.X.env.cells.lookup x.1=some a:=fun x hx hf=>I.ok.has x.1 (.inl (by unfold Nz; rw [c.esc]; exact hfree x hx hf))
 obtain ⟨cl,hclos,yi,hcl2⟩:=Dp hcells
 refine wpAny_comprehension_free (cl:=cl) (use:=use) rfl (hs _) hclos hk hnl ?_
 refine bw (show wpAny _ _ (eval iter c.X.env) _ _ _ from hI) fun v s1 h1=>bw h1 fun itv s2 hh=>z5 hh fun it fp tn J H1 hh=>w6 hh fun e0 I1 Tn t0 hfp hh=>z2 hh fun ds aI hh=>w3 hh fun hz g io=>?_
 obtain ⟨hz,os,hh⟩:=hz
 refine w3 hh fun hol hb hR=>?_
 subst e0
 have hcell':∀ y∈scope.names,y.2≠.cell:=hnc
 refine NQ (wpAny_newFunctionEnv hcell' (by intro y hy; simp at hy) (fun h4 hns hsb=>?_) hk)
 dsimp only at hns hsb ⊢
 generalize hDe:s2.heap.objs.size=Da at *
 have k3:∀ b u,s2.heap.get? b=some u→(s2.heap.push { cls:=.type "list",dict:=none,data:=.seq ([]:List Value).toArray }).get? b=some u:=fun b u e=>MQ _ e
 generalize hH3:s2.heap.push { cls:=.type "list",dict:=none,data:=.seq ([]:List Value).toArray }=h3 at *
 have hCe:h3.objs.size=Da+1:=by rw [← hH3,OQ,hDe]
 have hgD:h3.get? Da=some { cls:=.type "list",dict:=none,data:=.seq ([]:List Value).toArray }:=by rw [← hH3,← hDe]; exact M3 _ rfl
 have ue:H1 Da=none:=by rw [← hDe]; exact I1.hok.fresh (ML _)
 have I3:Inv c.X aa σ (upd H1 Da (.lst [])) { s2 with heap:=h3,toks:=s2.toks }:=I1.laid (a:=Da) (o:=.lst []) (t':=s2.toks) k3 (by rw [hDe]; exact ML _) ⟨Nu _,[],0,.nil,hgD⟩
 have fpne:∀ b∈fp,b≠Da:=fun b hb z=>by
  obtain ⟨o,e,_⟩:=Tn.obj _ _ t0 b hb
  subst z
  exact absurd (MR e) (by rw [hDe]; exact Oh _)
 have fplt:∀ b∈fp,b<h3.objs.size:=fun b hb=>by
  obtain ⟨o,e,_⟩:=Tn.obj _ _ t0 b hb
  exact MR (k3 b o e)
 let s3:Shared:={ s2 with heap:=h3,toks:=s2.toks }
 let H2:Hp:=upd H1 Da (.lst [])
 let X':Cx:={ prog:=c.X.prog,w:=c.X.w,K:=c.X.K,mg:=c.X.mg,base:=c.X.base,A:=c.X.A,N:=N',s₀:=s3,H₀:=H2,env:=compEnvC scope cl h3.objs.size c.X.env,outer:=c.X.stack,stack:=c.X.stack,ex:=fp,fn:=fun _=>false,calm:=true,pn:=[],xe:=jW }
 have S1:=S.ck g
 have S2:bg c σ H2 aI ρ:=S1.ck (aZ.fN g.b ue)
 obtain ⟨t,ht⟩:∃ t:Str→Addr,∀ (i:Nat) (y:Str) (p:Addr),N[i]?=some y→σ[i]?=some (some (.ref p))→t y=p:=by
  classical
  refine ⟨fun y=>if h:∃ (i:Nat) (p:Addr),N[i]?=some y∧σ[i]?=some (some (.ref p)) then h.choose_spec.choose else 0,fun i y p e1 e2=>?_⟩
  have h:∃ (i:Nat) (p:Addr),N[i]?=some y∧σ[i]?=some (some (.ref p)):=⟨i,p,e1,e2⟩
  show (if h:_ then _ else _)=p
  rw [dif_pos h]
  obtain ⟨e3,e4⟩:=h.choose_spec.choose_spec
  have hi:h.choose<N.length:=(MU.mp e3).1
  have e5:h.choose=i:=(List.getElem?_inj hi c.nd).mp (e3.trans e1.symm)
  have e6:=(congrArg (fun z=>σ[z]?) e5).symm.trans e4
  rw [show σ[i]?=some (some (.ref p)) from e2] at e6
  have e4:=e6
  exact (V.ref.inj (Of (Of e4))).symm
 have hfr:=hfr t
 generalize hρ:ρ0 t=ρt at hfr
 obtain ⟨σ0,hσl,hσ0⟩:=hfr.start (σ:=σ) fun i s e hu=>let ⟨v,e2,_⟩:=S2.at_ i s e hu; ⟨v,e2⟩
 have k4:∀ b u,h3.get? b=some u→h4.get? b=some u:=fun b u e=>hsb.extBut b u (Nh (MR e)) (MQ _ e)
 have hsc:X'.env.scope=bU scope sc:=p9 c.esc
 have okX:X'.Ok:={
  mod:=I3.ok.mod
  kind:=hk
  glob:=I3.ok.glob
  blt:=I3.ok.blt
  above:=ML _
  inj:=fun x y a e1 e2=>I3.ok.inj x y a (yi x a e1).1 (yi y a e2).1
  has:=fun x hx=>by
   have key:(x,OE)∈scope.names:=by
    have hx':(bU scope sc).names.lookup x=some .cell∨(bU scope sc).names.lookup x=some .free:=by
     unfold Nz at hx; rw [hsc] at hx; exact hx
    rcases hx' with hx' | hx'
    ·obtain ⟨k0,h1,h2⟩:=iP hx'
     rcases h2 with h2 | ⟨_,h2⟩
     ·subst h2; exact absurd rfl (hnc _ h1)
     ·subst h2; exact h1
    ·obtain ⟨k0,h1,h2⟩:=iP hx'
     rcases h2 with h2 | ⟨h2,_⟩
     ·subst h2; exact h1
     ·cases h2
   obtain ⟨a,ea⟩:=hcells _ key rfl
   exact ⟨a,hcl2 x a key ea⟩
  cab:=fun x a hf=>by cases hf
  hd:=fun _=>I3.ok.hd c.calm
  frames:=I3.ok.frames
  stk:=.inl rfl
  exf:=fun b hb=>⟨Nh (fplt b hb),fun x a ea=>(hfp b hb).2.2.2.2.1 x a (yi x a ea).1⟩
  bs:=I3.bs
  bsz:=MT I3.ok.bsz I3.sz
  noex:=fun b o e hb=>by
   rcases (hfp b hb).2.2.2.1 with z | z
   ·exact I3.ok.noex b o e z
   ·exact absurd (NI (MR e) (MT I3.ok.bsz z)) (Oh _)
  exfs:=fun b hb m=>by
   rcases M0.mp (I3.rR b m) with z | z
   ·exact (hfp b hb).2.1 z
   ·exact (hfp b hb).2.2.1 z
  jb:=I3.stack
  frf:=I3.uf }
 have I4:Inv X' [] σ0 H2 { s2 with heap:=h4,toks:=s2.toks+([]:List (Str×Value)).length }:={
  ok:=okX
  os:=rfl
  bare:=I3.bare
  base:=Un.kept k4
  loc:=⟨_,hns,fun j y v hy hv' _=>by
   have hj:j<ρt.length:=by
    have:=(MU.mp hv').1
    rw [hσl] at this; exact this
   rcases hσ0 j ρt[j] (M9 hj) with ⟨_,z⟩ | hh
   ·rw [z] at hv'; cases hv'
   ·refine z4 hh fun i y' v' s0 hh=>w8 hh fun h1 h2 h3' h4' hs5 hs6 h5 h6=>?_
    rw [h6] at hv'; cases hv'
    have hy':N'[j]?=some y:=hy
    rw [h1] at hy'; cases hy'
    obtain ⟨m0,hm0,hl⟩:=I3.loc
    have hkc:c.X.env.kindOf y=some .cell:=by unfold Nz; rw [c.esc]; exact hfree _ h2 rfl
    obtain ⟨u,r,lk⟩:=hl i y v (by rw [c.eN]; exact h3') h5 (.inr (.inl hkc))
    refine ⟨u,r,?_⟩
    rcases lk with ⟨q1,_⟩ | ⟨_,a,e1,e2⟩
    ·rw [hkc] at q1; cases q1
    ·refine .inr ⟨.inl ?_,a,hcl2 _ a h2 e1,?_⟩
     ·show List.lookup y X'.env.scope.names=_
      rw [hsc]; exact hvf _ h2 rfl
     ·obtain ⟨oc,e3,e4⟩:=e2
      exact ⟨oc,k4 _ _ e3,e4⟩⟩
  cell:=fun x a ea=>by
   obtain ⟨v',oc,e3,e4⟩:=I3.cell x a (yi x a ea).1
   exact ⟨v',oc,k4 _ _ e3,e4⟩
  free:=I3.hok.fresh (ML _)
  freeC:=fun x a ea=>I3.freeC x a (yi x a ea).1
  pin:=fun q hq'=>by simp at hq'; cases hq'
  hok:=I3.hok.kept k4
  len:=by rw [hσl]; exact hfr.len.symm }
 let c':Ctx P w K mg base k N' (bU scope sc) true :=
  { X:=X',eP:=c.eP,ew:=c.ew,eK:=c.eK,emg:=c.emg,eb:=c.eb,eN:=rfl,esc:=hsc,calm:=rfl,top:=fun z=>(by cases z),cb:=fun z=>(by cases z),fn:=fun x hx=>.inr (by rw [hsc]; exact hx.resolve_left (fun z=>by cases z)),room:=c.room,nd:=hnd,vis:=hv,
    Hf:=c.Hf,B:=c.B,RX:=fun _ _=>False,exc:=fun _ _ _ _ _ _ _ _ _ _ _ _ h _ _=>h.elim,RM:=fun _ _=>False,mde:=fun _ _ _ _ _ _ _ _ _ _ _ _ h _=>h.elim }
 have hN0:N'.length=ρt.length:=hfr.len
 have S4:bg c' σ0 H2 aI ρt:=by
  refine ⟨S2.bas,hσl,fun j r hj hu=>?_,fun j j' r r' p hne e1 e2 o1 o2 f1 f2=>?_⟩
  ·rcases hσ0 j r hj with ⟨z,_⟩ | hh
   ·exact absurd z hu
   ·refine z4 hh fun i y v s0 hh=>w8 hh fun h1 h2 h3' h4' hs5 hs6 h5 h6=>?_
    obtain ⟨v',e3,q3⟩:=S2.at_ i s0 h4' hs6
    rw [h5] at e3; cases e3
    subst hs5
    exact ⟨v,h6,uQ (fun ow=>by
     obtain ⟨p,_,rfl,_⟩:=q3.p5 ow
     rw [ht i y p h3' h5]) q3⟩
  ·have u1:r≠.un:=by rintro rfl; cases o1
   have u2:r'≠.un:=by rintro rfl; cases o2
   rcases hσ0 j r e1 with ⟨z,_⟩ | hh
   ·exact u1 z
   rcases hσ0 j' r' e2 with ⟨z,_⟩ | hh'
   ·exact u2 z
   refine z4 hh fun i y v s0 hh=>w8 hh fun h1 h2 h3' h4' hs5 hs6 h5 h6=>z4 hh' fun i' y' v' s0' hh'=>w8 hh' fun h1' h2' h3'' h4'' hs5' hs6' h5' h6'=>?_
   rw [f1] at h6; cases h6
   rw [f2] at h6'; cases h6'
   have hii:i≠i':=fun z=>by
    subst z
    rw [h3'] at h3''; cases h3''
    have a1:j<N'.length:=(MU.mp h1).1
    exact hne ((List.getElem?_inj a1 hnd).mp (h1.trans h1'.symm))
   subst hs5; subst hs5'
   rw [mQ] at o1 o2
   exact S2.sep i i' s0 s0' p hii h4' h4'' o1 o2 h5 h5'
 have howA:∀ (j:Nat) (r:Sl),ρt[j]?=some r→r.owned=true→∃ b,r.adr=some b∧b≠Da:=fun j r hj ho=>by
  rcases hσ0 j r hj with ⟨z,_⟩ | hh
  ·subst z; cases ho
  ·refine z4 hh fun i y v s0 hh=>w8 hh fun h1 h2 h3' h4' hs5 hs6 h5 h6=>?_
   subst hs5
   rw [mQ] at ho
   obtain ⟨b,eb⟩:=Dq (a:=t y) ho
   refine ⟨b,eb,fun z=>?_⟩
   obtain ⟨v',e3,q3⟩:=S1.at_ i s0 h4' hs6
   obtain ⟨p,o,e4,_,e5,_⟩:=q3.p5 ho
   subst e4
   have q4:=uQ (a:=t y) (fun _=>by rw [ht i y p h3' e3]) q3
   have:=uR eb q4
   rw [this,z,ue] at e5; cases e5
 have hB0:c.B Da=none:=S1.bas.s.free ue
 have fps:∀ {H':Hp},(∀ b∈fp,H' b=none)→∀ b∈fp,fG X' [] H' b:=fun hn b hb =>
  ⟨hn b hb,Nh (fplt b hb),okX.exfs b hb,.inl hb,fun x a ea=>(hfp b hb).2.2.2.2.1 x a (yi x a ea).1,fun p hp=>by cases hp⟩
 have fin:∀ (s':Shared) (σ':L2.St) (H' aj:Hp) (vs:List V),Inv X' [] σ' H' s'→aZ H1 aI H' aj→H' Da=some (.lst vs)→aj Da=none→aq c.X.K aj (os.filterMap id) vs →
  compPost (model c.X.prog c.X.w) c.X.A jW use QQ (.ref Da) h3.objs.size (.ok .next) s':=fun s' σ' H' aj vs I' g' hD hfD hr=>by
  obtain ⟨m,hm,_⟩:=I'.loc
  have hCX:h3.objs.size∉c.X.fs:=I3.I0 (ML _)
  have hCf:fG c.X aa H' h3.objs.size:=by
   refine ⟨I'.free,fun z=>?_,hCX,.inr I3.sz,fun x a ea z=>?_,fun p hp z=>?_⟩
   ·obtain ⟨m0,hm0,_⟩:=I3.loc
    obtain ⟨o,_,_,e,_⟩:=hm0
    exact absurd (MR e) (by rw [← z]; exact Oh _)
   ·obtain ⟨v',oc,e,_⟩:=I3.cell x a ea
    exact absurd (MR e) (by rw [z]; exact Oh _)
   ·exact absurd (MR (I3.pin p hp).1) (by rw [z]; exact Oh _)
  refine kont s' H' aj Da h3.objs.size (.ow (os.filterMap id)) hR ⟨m,hm⟩ hCX hCf ⟨Da,vs,rfl,g.s.free ue,hD,hfD,hr⟩ (g.trans g') fun h5 yj=>?_
  have ub:Un (frs c.X.stack) fp H2 H' s3.heap h5:=by
   have u:=I'.base
   have ne:∀ b o,s3.heap.get? b=some o→b≠h3.objs.size:=fun b o e=>Nh (MR e)
   refine ⟨fun b o e n hf hx=>(yj.2 b (ne b o e)).trans (u.keep b o e n hf hx),fun b o e n hf hx=>?_,u.free,fun b o e hx=>?_,u.tups,u.frzs,u.tbls⟩
   ·obtain ⟨sl,e2⟩:=u.slot b o e n hf hx
    exact ⟨sl,(yj.2 b (ne b o e)).trans e2⟩
   ·obtain ⟨o',e2⟩:=u.there b o e hx
    exact ⟨o',(yj.2 b (ne b o e)).trans e2⟩
  have hokf:ja c.X.prog c.X.w H' h5:=fun b u e=>(I'.hok b u e).stay (fun a o ha e2=>by
   refine (yj.2 a ?_).trans e2
   intro z; subst z
   have hfree':H' h3.objs.size=none:=I'.free
   rcases ha with z | z
   ·subst z; rw [hfree'] at e; cases e
   ·rw [hfree'] at z; cases z) (fun _ z=>z) fun _ _ z=>z
  exact I3.Ja (ch:=fp) I'.os ub hokf I'.bare fun b hb=>⟨(hfp b hb).2.2.2.1,(hfp b hb).2.1,(hfp b hb).2.2.2.2.1,(hfp b hb).2.2.2.2.2⟩
 have loop:codeAny (model c.X.prog c.X.w) c.X.A (.compLoop (.ListComp elt [⟨tg,iter,ifs,0⟩] scope pos) 0 (.ref it) (.ref Da) X'.env) (compPost (model c.X.prog c.X.w) c.X.A jW use QQ (.ref Da) h3.objs.size) { s2 with heap:=h4,toks:=s2.toks+([]:List (Str×Value)).length }:=by
  refine nW (fun n s'=>∃ (i:Nat) (σ':L2.St) (H' aj:Hp) (vs:List V),n=ds.length - i∧i≤ds.length∧Inv X' [] σ' H' s'∧tn i s'.heap∧bg c' σ' H' aj ρt∧aZ H1 aI H' aj∧H' Da=some (.lst vs)∧aj Da=none∧aq c.X.K aj ((os.take i).filterMap id) vs∧vs.length≤i∧∀ b∈fp,H' b=none) ?_ ds.length
   ⟨0,σ0,H2,aI,[],by simp,Nu _,I4,Tn.keep _ _ _ t0 fun b hb o e=>k4 b o (k3 b o e),S4,aZ.fN g.b ue,ah,g.b.free ue,by simpa using ay.mpr rfl,ML _,fun b hb=>by show upd H1 Da _ b=none; rw [ak (fpne b hb)]; exact (hfp b hb).1⟩
  refine fun n s5 hh=>z5 hh fun i σ5 H5 Hf5 vs hh=>w6 hh fun en hi I5 t5 S5 hh=>w6 hh fun g5 hD5 hfD5 hr5 hlv fr5=>?_
  subst en
  by_cases hlt:i<ds.length
  ·have ed:ds[i]?=some ds[i]:=M9 hlt
   have eo:os[i]?=some (os[i]'(by rw [hol]; exact hlt)):=M9 _
   generalize ds[i]=d at ed
   generalize os[i]'(by rw [hol]; exact hlt)=o at eo
   obtain ⟨hgo,hy⟩:=io.go i d H5 Hf5 g5.f g5.b ed
   refine bw (Tn.item X' rfl rfl rfl rfl i [] s5 σ5 H5 jW I5 (fps fr5) t5 hgo) fun r s6 hh=>hh.elim fun u hh=>w2 hh fun hr h6=>?_
   subst hr
   refine bw h6 fun _ s7 hh=>z2 hh fun x H7 hh=>w5 hh fun I7 rx y7 t7 fr7=>?_
   obtain ⟨Hf7,g7,rx7⟩:=hy x H7 y7
   have I7':=I7.pinned (fps fr7) (Tn.obj _ _ t7)
   have S7:bg c' σ5 H7 Hf7 ρt:=S5.ck g7
   have hasg0:=hb c' rfl t i d o ed eo
   rw [hρ] at hasg0
   have hasg:=hasg0 σ5 H7 Hf7 x (fun σ2 H2'=>∃ cD ρ1,bg c' σ2 H2' cD ρ1∧aZ H7 Hf7 H2' cD∧Dn ρt ρ1∧sF c' ifs ρ1 (mO (aF c' elt ρ1 fun e=>o=some e) (o=none))) S7 rx7 (fun σ2 H2' cD ρ1 S' g' hw=>⟨cD,ρ1,S',g',hw⟩) _ s7 u I7' rx
   refine bw (show wpAny _ _ _ _ jW _ from hasg) fun _ s8 hh=>z2 hh fun σ8 H8 hh=>w2 hh fun I8 hh=>z2 hh fun Hf8 ρ8 hh=>w4 hh fun S8 g8 w8 hC8=>?_
   refine bw (mP (c:=c') rfl ifs S8 hC8 (Q:=fun b H'=>∃ aj,mO (aF c' elt ρ8 fun e=>o=some e) (o=none) b∧aZ H8 Hf8 H' aj) (fun b H' aj hb' g'=>⟨aj,hb',g'⟩) I8) fun b s9 hh=>hh.elim fun H9 hh=>w2 hh fun I9 hh=>hh.elim fun Hf9 hh=>w2 hh fun hb9 g9=>?_
   have g79:=(g7.trans g8).trans g9
   have hD9:H9 Da=some (.lst vs):=g79.s _ _ hD5
   have hfD9:Hf9 Da=none:=g79.n Da hfD5 (by rw [hD5]; simp) (by intro ys; rw [hD5]; simp)
   have keepT:∀ {σ':L2.St} {H':Hp} {s':Shared},Inv X' ([]++kh fp s7.heap) σ' H' s'→tn (i+1) s'.heap∧∀ b∈fp,H' b=none:=fun {σ' H' s'} I' =>
    ⟨Tn.keep _ _ _ t7 fun b hb' ob e=>(I'.pin (b,ob) (N2 _ (N2 _ (eY hb' e)))).1,fun b hb'=>by
      obtain ⟨ob,e,_⟩:=Tn.obj _ _ t7 b hb'
      exact (I'.pin (b,ob) (N2 _ (N2 _ (eY hb' e)))).2.1⟩
   have wk:∀ {σ':L2.St} {H' aj:Hp},bg c' σ' H' aj ρ8→bg c' σ' H' aj ρt:=fun S'=>cR.weak S' w8.weak.1 w8.weak.2
   have tk:(os.take (i+1)).filterMap id=(os.take i).filterMap id++o.toList:=by
    rw [Se,eo,List.filterMap_append]
    cases o <;> rfl
   cases b with
   | false =>
    have eo':=hb9.f rfl
    subst eo'
    rw [if_neg MV]
    obtain ⟨t9,fr9⟩:=keepT I9
    exact ⟨_,Nat.sub_lt_sub_left hlt (O7 i),i+1,σ8,H9,Hf9,vs,rfl,hlt,I9.fH,t9,wk (S8.ck g9),g5.trans g79,hD9,hfD9,by rw [tk]; simpa using hr5.mono g79.f,Nat.le_succ_of_le hlv,fr9⟩
   | true =>
    rw [if_pos rfl]
    have hev:=hb9.t rfl σ8 H9 Hf9 (fun v H'=>∃ aj e,o=some e∧Rep c.X.K aj e v∧aZ H9 Hf9 H' aj) (S8.ck g9) (fun e v H' aj he r g'=>⟨aj,e,he,r,g'⟩) _ s9 I9
    refine bw (show wpAny _ _ _ _ jW _ from hev) fun u2 s10 hh=>z2 hh fun v2 H10 hh=>w3 hh fun I10 r10 hh=>z2 hh fun Hf10 e hh=>w3 hh fun eo' re g10=>?_
    subst eo'
    have hD10:H10 Da=some (.lst vs):=g10.s _ _ hD9
    have hfD10:Hf10 Da=none:=g10.n Da hfD9 (by rw [hD9]; simp) (by intro ys; rw [hD9]; simp)
    have app:=mz (X:=X') _ s10 σ8 H10 (.ref Da) [v2] (.ref Da) [u2] (fun _ H'=>H'=upd H10 Da (.lst (vs++[v2]))) I10 rfl (.cons r10 .nil) ⟨Da,vs,v2,rfl,rfl,hD10,NI (OM hlv hlt) hz,rfl⟩
    refine bw (show wpAny _ _ _ _ jW _ from app) fun _ s11 ⟨_,H11,I11,_,e11⟩=>?_
    subst e11
    obtain ⟨t11,fr11⟩:=keepT I11
    have S10:bg c' σ8 H10 Hf10 ρ8:=(S8.ck g9).ck g10
    have gA:aZ H1 aI (upd H10 Da (.lst (vs++[v2]))) Hf10:=nX ((g5.trans g79).trans g10) ue hfD10
    refine ⟨_,Nat.sub_lt_sub_left hlt (O7 i),i+1,σ8,_,Hf10,vs++[v2],rfl,hlt,I11.fH,t11,?_,gA,ah,hfD10,?_,by rw [Nr]; exact Q8 hlv,fr11⟩
    ·refine (wk S10).apart hB0 hfD10 (fun ⟨_,z⟩=>by rw [hD10] at z; cases z) fun j r hj ho=>fun z=>?_
     obtain ⟨b,eb,nb⟩:=howA j r hj ho
     obtain ⟨v',e3,q3⟩:=(wk S10).at_ j r hj (by rintro rfl; cases ho)
     rw [z] at e3; cases e3
     exact nb (uR eb q3).symm
    ·rw [tk]
     exact (hr5.mono (g79.f.trans g10.f)).append (by simpa using aq.one re)
  ·have e:i=ds.length:=Nat.le_antisymm hi (Nat.le_of_not_lt hlt)
   subst e
   refine bw (Tn.done X' rfl rfl rfl rfl ds.length [] s5 σ5 H5 jW I5 (fps fr5) t5 (io.stop _ H5 Hf5 g5.f g5.b (ML _))) fun r s6 ⟨hr,I6⟩=>?_
   subst hr
   refine fin s6 σ5 H5 Hf5 vs I6 g5 hD5 hfD5 ?_
   rw [P4 (by rw [hol]; exact ML _)] at hr5
   exact hr5
 exact codeAny_compStart_list loop (Tn.self _ 0 _ _ _ (Tn.keep _ _ _ t0 fun b hb o e=>k4 b o (k3 b o e)) loop)
theorem dZ {elt tg iter:Expr} {ifs:List Expr} {scope:Scope} {N':List Str} {ρ0:(Str→Addr)→List Sl} {R:Sl→Prop} (hq:c.X.xe=jW) (hfr:∀ t,zQ t scope.names N ρ N' (ρ0 t))
 (h:GL c tg iter ρ fun ds=>Sd (ds.length≤sizeLine) (∃ os:List (Option D),os.length=ds.length ∧
   (∀ c':Ctx P w K mg base k N' (bU scope sc) true,c'.X.xe=jW→∀ (t:Str→Addr) (i:Nat) (d:D) (o:Option D),ds[i]?=some d→os[i]?=some o→zR c' tg ifs elt (ρ0 t) d o)∧R (.ow (os.filterMap id))))
 (hk:scope.kind=.function:=by walk_at "u") (hnc:∀ x∈scope.names,x.2≠.cell:=by decide +kernel) (hnl:∀ x∈scope.names,x.2=.local→scope.names.lookup x.1=some .local:=by decide +kernel)
 (hfree:∀ x∈scope.names,x.2=.free→sc.names.lookup x.1=some .cell:=by decide +kernel) (hnd:N'.Nodup:=by decide +kernel) (hv:∀ x∈N',Loc (bU scope sc) x:=by unfold L2.Loc; decide +kernel)
 (hvf:∀ x∈scope.names,x.2=.free→(bU scope sc).names.lookup x.1=some .cell:=by decide +kernel)
 (hs:∀ env v,foldedSetIterable iter env v=pure v:=by intro _ _; walk_at "u"):c6 c (.ListComp elt [⟨tg,iter,ifs,0⟩] scope pos) ρ R:=fun σ H Hf Q S q aa s I=>by
 rw [hq]
 rw [show (eval (.ListComp elt [⟨tg,iter,ifs,0⟩] scope pos) c.X.env)=comprehension (.ListComp elt [⟨tg,iter,ifs,0⟩] scope pos) scope c.X.env (firstIterPos [⟨tg,iter,ifs,0⟩] pos) (newList []) (firstAsync [⟨tg,iter,ifs,0⟩]) (firstIter [⟨tg,iter,ifs,0⟩] c.X.env) from rfl]
 exact Dr hq hfr h hk hnc hnl hfree hnd hv hvf hs S I fun s' H' aj a C r hr ⟨m,hm⟩ _ _ hrep g hJ=>⟨m,hm,fun h5 yj=>⟨.ref a,H',hJ h5 yj,rfl,q r _ H' aj hr hrep g⟩⟩
end
mutual
def D.nl:D→Prop
 | .lst _=>False
 | .fdK _ _=>False
 | .fdT _ _=>False
 | .tup ds=>D.o7 ds
 | _=>True
def D.o7:List D→Prop
 | []=>True
 | d::ds=>d.nl∧D.o7 ds
end
theorem uS:∀ {ds:List D},D.o7 ds↔∀ d∈ds,d.nl
 | []=>by simp [D.o7]
 | d::ds=>by simp [D.o7,uS (ds:=ds)]
theorem dD {α:Type} {f:α→D} {l:List α} (h:∀ x∈l,(f x).nl):D.o7 (l.map f):=uS.mpr fun d hd=>by
 obtain ⟨x,hx,rfl⟩:=Nk.mp hd
 exact h x hx
theorem kK:(D.int i).nl:=by simp [D.nl]
theorem Ds (l:List Int):D.o7 (l.map D.int):=dD fun x _=>kK
theorem sG (h:D.o7 ds):(D.tup ds).nl:=by simpa [D.nl] using h
noncomputable def HO.mt:HO→Prop | .lst _=>True | .dK _=>True | .dT _=>True | _=>False
theorem wK {K:MI} (hp:Hf p=some o) (hm:HO.mt o) (h:cQ K Hf a xs):cQ K (del Hf p) a xs:=by
 rcases h with (h | ⟨o',h⟩) | h
 ·exact .inl (.inl (by rw [b9 (by rintro rfl; rw [hp] at h; cases h; exact hm)]; exact h))
 ·exact .inl (.inr ⟨o',by rw [b9 (by rintro rfl; rw [hp] at h; cases h; exact hm)]; exact h⟩)
 ·exact .inr h
mutual
theorem sH {K:MI} {Hf:Hp} {p:Addr} {o:HO} (hp:Hf p=some o) (hm:HO.mt o):∀ (d:D) {v:V},d.nl→Rep K Hf d v→Rep K (del Hf p) d v
 | .non,_,_,h=>by simpa [Rep] using h
 | .bl _,_,_,h=>by simpa [Rep] using h
 | .int _,_,_,h=>by simpa [Rep] using h
 | .str _,_,_,h=>by simpa [Rep] using h
 | .adr _,_,_,h=>by simpa [Rep] using h
 | .tup ds,v,f,h=>by
  simp only [Rep] at h ⊢
  obtain ⟨a,xs,e,h1,h2⟩:=h
  exact ⟨a,xs,e,wK hp hm h1,nY hp hm ds (by simpa [D.nl] using f) h2⟩
 | .lst _,_,f,_=>by simp [D.nl] at f
 | .fdK _ _,_,f,_=>by simp [D.nl] at f
 | .fdT _ _,_,f,_=>by simp [D.nl] at f
 | .exc C,_,_,h=>by
  simp only [Rep] at h ⊢
  obtain ⟨a,e,h⟩:=h
  exact ⟨a,e,by rw [b9 (by rintro rfl; rw [hp] at h; cases h; exact hm)]; exact h⟩
theorem nY {K:MI} {Hf:Hp} {p:Addr} {o:HO} (hp:Hf p=some o) (hm:HO.mt o):∀ (ds:List D) {xs:List V},D.o7 ds→aq K Hf ds xs→aq K (del Hf p) ds xs
 | [],_,_,h=>by simpa [aq] using h
 | d::ds,xs,f,h=>by
  simp only [aq] at h ⊢
  simp only [D.o7] at f
  obtain ⟨x,r,e,h1,h2⟩:=h
  exact ⟨x,r,e,sH hp hm d f.1 h1,nY hp hm ds f.2 h2⟩
end
noncomputable def Sl.nl:Sl→Prop
 | .va d=>d.nl
 | .ow ds=>D.o7 ds
 | _=>False
theorem aS.LX {K:MI} {H H' aj:Hp} (hp:aj p=some oz) (hm:HO.mt oz) (h0:H p=some o) (f:r.nl) (h:aS K (fun p=>H p=none) H' aj r v):aS K (fun p=>H p=none) H' (del aj p) r v:=by
 cases r with
 | va d=>exact sH hp hm d f h
 | ow ds =>
  obtain ⟨q,xs,rfl,fq,h1,h2,h3⟩:=h
  refine ⟨q,xs,rfl,fq,h1,?_,nY hp hm ds f h3⟩
  rw [b9 (by rintro rfl; rw [h0] at fq; cases fq)]; exact h2
 | _=>exact f.elim
section
variable {P:Program} {w:World} {K:MI} {mg:Str→Option Value} {base:Heap} {k:Nat} {N:List Str} {sc:Scope} {bk:Bool} {c:Ctx P w K mg base k N sc bk} {ρ ρ':List Sl} {pos ap cp px tp:Pos} {a b e f:Expr} {es:List Expr} {R:D→Prop} {T:Bool→Prop} {nx:List Sl→Prop} {p:Pt} {x:Str} {i:Nat} {r:Sl} {ds:List D}
noncomputable def Sl.lV:Sl→Option D
 | .ow ds=>some (.lst ds) | .aw _ ds=>some (.lst ds)
 | _=>none
theorem kL (h:r.lV=some d):r.owned=true:=by cases r <;> first | rfl | cases h
theorem iQ {κ:Type} {Hf:Hp} {kvs:List (κ×D)} {xs:List (κ×V)} (h:lN K Hf kvs xs):xs.map (·.1)=kvs.map (·.1)∧aq K Hf (kvs.map (·.2)) (xs.map (·.2)):=by
 unfold lN at h
 induction h with
 | nil=>exact ⟨rfl,ay.mpr rfl⟩
 | cons h t ih=>exact ⟨by rw [MN,MN,ih.1,h.1],.cons h.2 ih.2⟩
theorem eF (h:kB K Hf kvs xs):xs.map (·.1)=kvs.map (·.1)∧(∀ y∈xs,cQ K Hf y.2.1 (y.1.map kV))∧aq K Hf (kvs.map (·.2)) (xs.map (·.2.2)):=by
 refine ⟨?_,h.zP,?_⟩
 ·unfold kB at h
  induction h with
  | nil=>rfl
  | cons h t ih=>rw [MN,MN,ih,h.1]
 ·unfold kB at h
  induction h with
  | nil=>exact ay.mpr rfl
  | cons h t ih=>exact .cons h.2.2 ih
theorem aS.lV (h:r.lV=some d) (q:aS K fr H Hf r v):∃ p o,v=.ref p∧fr p∧H p=some o∧Hf p=none∧HO.mt o∧Rep K (upd Hf p o) d v:=by
 have sf:∀ {p:Addr} {o:HO},Hf p=none→aD Hf (upd Hf p o):=fun hp b u e=>by rw [ak (az e hp)]; exact e
 cases r with
 | ow ds=>cases h; obtain ⟨p,xs,rfl,f,h1,h2,h3⟩:=q; exact ⟨p,_,rfl,f,h1,h2,trivial,aR.mpr ⟨p,xs,rfl,.inl (.inl ah),h3.mono (sf h2)⟩⟩
 | aw a ds=>cases h; obtain ⟨p,xs,rfl,f,h1,h2,h3⟩:=q; exact ⟨p,_,rfl,f.1,h1,h2,trivial,aR.mpr ⟨p,xs,rfl,.inl (.inl ah),h3.mono (sf h2)⟩⟩
 | _=>cases h
theorem cR.jX (S:cR K H₀ dB σ H Hf ρ) (h:ρ[i]?=some r) (hr:r.lV=some d) :
 ∃ q o,H q=some o∧Hf q=none∧HO.mt o∧cR K H₀ dB σ H (L2.upd Hf q o) (ρ.set i (.va d)):=by
 obtain ⟨q,ev,rq⟩:=S.own h (kL hr)
 obtain ⟨_,o,e0,fq,hq,rQ,hm,rd⟩:=rq.lV hr
 cases e0
 have hi:i<ρ.length:=(MU.mp h).1
 have hown:=kL hr
 have sf:aD Hf (L2.upd Hf q o):=fun b u e=>by rw [L2.ak (az e rQ)]; exact e
 have sb:aD (L2.upd Hf q o) H:=fun b u e=>by
  by_cases z:b=q
  ·subst z; rw [L2.ah] at e; rw [hq]; exact e
  ·rw [L2.ak z] at e; exact S.sb b u e
 refine ⟨q,o,hq,rQ,hm,⟨S.bas.s,S.bas.f.trans sf,sb,fun b h1 h2 h3=>?_⟩,by simp [S.len],fun j r' hj hu=>?_,fun j j' r1 r2 q' hne h1 h2 o1 o2=>?_⟩
 ·have e:=S.bas.n b h1 h2 h3
  by_cases z:b=q
  ·subst z; exact absurd fq h2
  ·rw [L2.ak z]; exact e
 ·by_cases z:j=i
  ·subst z
   rw [NU hi] at hj
   cases hj
   exact ⟨_,ev,rd⟩
  ·rw [NV (M8 z)] at hj
   obtain ⟨v,e1,e2⟩:=S.at_ j r' hj hu
   refine ⟨v,e1,?_⟩
   have key:r'.owned=true→v≠.ref q:=fun ho z=>by
    subst z
    exact S.sep i j _ _ q (M8 ‹_›) h hj hown ho ev e1
   exact aS.mv (B:=fun z=>z=q) sf (fun z u hz e1 _ e3=>⟨e1,by rw [L2.ak hz]; exact e3⟩) (by rintro _ z rfl ⟨ys,e9⟩; rw [hq] at e9; cases e9; exact hm) (fun ho z e=>by rintro rfl; exact key ho e) e2
 ·have out:∀ {j:Nat} {r:Sl},(ρ.set i (.va d))[j]?=some r→r.owned=true→ρ[j]?=some r:=fun {j r} hj ho=>by
   by_cases z:j=i
   ·subst z; rw [NU hi] at hj; cases hj; cases ho
   ·rw [NV (M8 z)] at hj; exact hj
  exact S.sep j j' r1 r2 q' hne (out h1 o1) (out h2 o2) o1 o2
theorem qa (sb:aD Hf H) (hq:H q=some o) (rQ:Hf q=none) (g:aZ H (upd Hf q o) H' aj):aZ H Hf H' (del aj q) :=
 ⟨g.s,fun b o e=>by rw [b9 (az e rQ)]; exact g.f b o (by rw [ak (az e rQ)]; exact e),fun b o e=>by obtain ⟨_,e2⟩:=iN e; exact g.b b o e2,fun b h1 h2 h3=>by
   by_cases z:b=q
   ·subst z; exact iM
   ·rw [b9 z]; exact g.n b (by rw [ak z]; exact h1) h2 h3⟩
section
theorem J4 (i) (hi:At ρ i r) (hr:r.lV=some d0) (hs:SSet ρ i (.va d0) ρ') (h:aF c e ρ' fun d=>Sd d.nl (R d)):aF c e ρ R:=fun σ H Hf Q S q=>by
 obtain ⟨a,o,ha,yk,hm,S1⟩:=S.jX hi.get hr
 rw [← hs.eq] at S1
 exact h σ H _ Q S1 fun d v H' aj ⟨fl,rd⟩ rv g=>q d v H' _ rd (sH (g.f a _ ah) hm d fl rv) (qa S.sb ha yk g)
theorem uT (i) {R:Sl→Prop} (hi:At ρ i r) (hr:r.lV=some d0) (hs:SSet ρ i (.va d0) ρ') (h:c6 c e ρ' fun d=>Sd d.nl (R d)):c6 c e ρ R:=fun σ H Hf Q S q=>by
 obtain ⟨a,o,ha,yk,hm,S1⟩:=S.jX hi.get hr
 rw [← hs.eq] at S1
 exact h σ H _ Q S1 fun d v H' aj ⟨fl,rd⟩ rv g=>q d v H' _ rd (rv.LX (g.f a _ ah) hm ha fl) (qa S.sb ha yk g)
theorem nZ {st:List Stmt} (i) (hi:At ρ i r) (hr:r.lV=some d0) (hs:SSet ρ i (.va d0) ρ') (h:bf c st ρ' nx p):bf c st ρ nx p:=fun σ H Hf D S o=>by
 obtain ⟨a,ob,ha,yk,hm,S1⟩:=S.jX hi.get hr
 rw [← hs.eq] at S1
 exact h σ H _ D S1 o
theorem J5 {st:Stmt} (i) (hi:At ρ i r) (hr:r.lV=some d0) (hs:SSet ρ i (.va d0) ρ') (h:eE c st ρ' nx p):eE c st ρ nx p:=fun σ H Hf D S o=>by
 obtain ⟨a,ob,ha,yk,hm,S1⟩:=S.jX hi.get hr
 rw [← hs.eq] at S1
 exact h σ H _ D S1 o
end
theorem J6 (hN:At N i x) (hi:At ρ i r) (hr:r.lV=some (.lst ds)) (hs:SSet ρ i (.va (.lst ds)) ρ') (h:aF c b ρ' fun y=>Sd y.nl (∃ j d,y=.int j∧jS ds j=some d∧Sd d.nl (R d))) (hx:At ρ' i (.va (.lst ds)))
 (hd:(x == ("__debug__":Str))=false:=by decide) (hcd:(x == ("__classdict__":Str))=false:=by decide) (hp:jT b:=by with_unfolding_all exact fun _ _=>rfl):aF c (.Subscript (.Name x p2) b pos) ρ R :=
 J4 i hi hr hs (JZ (uE hN hx (h.imp fun y ⟨_,j,d,e1,e2,e3⟩=>⟨ds,j,d,rfl,e1,e2,e3⟩) hd hcd) hp)
end
end EV
set_option maxHeartbeats 0
namespace EV
open PySem PySem.Spec PyProof.Rows L2
section
variable {P:Program} {w:World} {K:MI} {mg:Str→Option Value} {base h:Heap}
noncomputable def aJ (K:MI) (mg:Str→Option Value) (x:Str) (st:Stmt):Prop:=∃ f fd,mg x=some (.ref f)∧fM K x x st f fd
theorem br {st:Stmt} {kV doc pm cdv ct:Value} (KX:K.In h) (G:h.Ns mainGlobals mg) (a:NJ K mainGlobals x=some (some (.ref f)))
 (l:K.lookup f=some ⟨oc,od,.func (Ow x x (dU st) (aB st) (af st) .none kV doc pm an cdv ct),osl⟩) (c:Rk K cdv x=true) (k:Oq K (.ref f)=true):aJ K mg x st :=
 ⟨f,_,PySem.W.mg_of KX G a,Gv l c k⟩
theorem GV (e:(t == N1 T)=false) (m:PySem.W.kitMeta T=true) (s:PySem.W.subIn K t (.type T)=some b):Oa K t (.type T)=some b:=by
 unfold Oa PySem.W.kitCls
 simp [e,m,s]
theorem kM (e:(t == t)=true):Oa K t t=some true:=by
 unfold Oa
 simp [e]
structure Txt (K:MI) (mg:Str→Option Value):Prop where
 abs:mg "abs"=none
 len:mg "len"=none
 isin:mg "isinstance"=none
 range:mg "range"=none
 int:mg "int"=none
 bool:mg "bool"=none
 tuple:mg "tuple"=none
 list:mg "list"=none
 max:mg "max"=none
 min:mg "min"=none
 sum:mg "sum"=none
 sorted:mg "sorted"=none
 zip:mg "zip"=none
 enum:mg "enumerate"=none
 all:mg "all"=none
 any:mg "any"=none
 dict:mg "dict"=none
 ib:Oa K (.type "int") (.type "bool")=some false
theorem Txt.J7 (T:Txt K mg):iI mg "int" (.type "int"):=.inr ⟨_,rfl,T.int,by decide +kernel,by decide +kernel⟩
theorem Txt.GW (T:Txt K mg):iI mg "bool" (.type "bool"):=.inr ⟨_,rfl,T.bool,by decide +kernel,by decide +kernel⟩
theorem Txt.Dt (T:Txt K mg):iI mg "tuple" (.type "tuple"):=.inr ⟨_,rfl,T.tuple,by decide +kernel,by decide +kernel⟩
theorem Txt.GX (T:Txt K mg):iI mg "list" (.type "list"):=.inr ⟨_,rfl,T.list,by decide +kernel,by decide +kernel⟩
theorem GY:Oa K (.type "int") (.type "int")=some true:=kM (by decide)
theorem GZ:Oa K (.type "tuple") (.type "tuple")=some true:=kM (by decide)
theorem G0:Oa K (.type "list") (.type "list")=some true:=kM (by decide)
theorem G1 (KX:K.In h) (G:h.Ns mainGlobals mg)
 (z1:NJ K mainGlobals "abs"=some none)
 (z2:NJ K mainGlobals "len"=some none)
 (z3:NJ K mainGlobals "isinstance"=some none)
 (z4:NJ K mainGlobals "range"=some none)
 (z5:NJ K mainGlobals "int"=some none)
 (z6:NJ K mainGlobals "bool"=some none)
 (z7:NJ K mainGlobals "tuple"=some none)
 (z8:NJ K mainGlobals "list"=some none)
 (z9:NJ K mainGlobals "max"=some none)
 (z10:NJ K mainGlobals "min"=some none)
 (z11:NJ K mainGlobals "sum"=some none)
 (z12:NJ K mainGlobals "sorted"=some none)
 (z13:NJ K mainGlobals "zip"=some none)
 (z14:NJ K mainGlobals "enumerate"=some none)
 (z15:NJ K mainGlobals "all"=some none)
 (z16:NJ K mainGlobals "any"=some none)
 (z17:NJ K mainGlobals "dict"=some none)
 (sib:PySem.W.subIn K (.type "int") (.type "bool")=some false):Txt K mg :=
 ⟨NP KX G z1,NP KX G z2,NP KX G z3,NP KX G z4,NP KX G z5,NP KX G z6,NP KX G z7,NP KX G z8,
  NP KX G z9,NP KX G z10,NP KX G z11,NP KX G z12,NP KX G z13,NP KX G z14,NP KX G z15,NP KX G z16,NP KX G z17,
  GV (by decide) (by decide) sib⟩
theorem bH {st:Stmt} (m:mg x=some (.ref f)) (Fu:fM K x x st f fd) (ok:bz P w K mg base (dR P w) k f fd ps (gv K F))
 (hb:∀ (kV doc pm:Value) (an:Option Addr) (cdv ct:Value) (us:List Value),us.length=ps.length→bindArgs (Ow x x (dU st) (aB st) (af st) .none kV doc pm an cdv ct) ⟨us,[]⟩=pure (ps.zip us)):dz P w K mg base k x F :=
 ⟨f,fd,ps,m,Fu.kp,Fu.binds hb,ok⟩
theorem kN {α:Type} (us:List α) (h:us.length=1):∃ a,us=[a]:=by match us,h with | [a],_=>exact ⟨a,rfl⟩
theorem n5 {α:Type} (us:List α) (h:us.length=2):∃ a b,us=[a,b]:=by match us,h with | [a,b],_=>exact ⟨a,b,rfl⟩
theorem Du {α:Type} (us:List α) (h:us.length=3):∃ a b c,us=[a,b,c]:=by match us,h with | [a,b,c],_=>exact ⟨a,b,c,rfl⟩
noncomputable def zS:Fn:=fun ds r=>∃ ns:List Int,ns.length≤63∧ds=[.lst (ns.map D.int)]∧r=.ok (.va (.bl true))
theorem G2 (H) (a) (ns:List Int) (hl:ns.length≤63) (hS:gu K H a (ns.map V.int)):gv K zS [.ref a] H (fun v _=>v=.bl true) fun _ _ _=>False :=
 ⟨H,[.lst (ns.map D.int)],.ok (.va (.bl true)),.refl H,.cons (aR.mpr ⟨a,_,rfl,hS,jf ns⟩) (ay.mpr rfl),⟨ns,hl,rfl,rfl⟩,fun v H' aj _ r=>(dY (K:=K) (H:=aj)).mp r⟩
theorem walk {l:PySem.W.OpenLaw} {K:Params→MI} (hk:k≤20) (hn:l.most=some 63) (hdf:d.params.defaults=[])
 (hY:∀ (w:World) (h:Heap),YP w h→(K w.params).In h)
 (F:∀ (w:World) (mg:Str→Option Value) (fa:Addr) (h:Heap),(K w.params).In h→h.Ns mainGlobals mg→mg d.name=some (.ref fa) →
   ∃ fd:FuncData,(∀ (s:Shared) (u:Value),BindsTo s fd ⟨[u],[]⟩ [("_law_script",u)])∧∀ base:Heap,(K w.params).In base→base.Ns mainGlobals mg→bz l.prog w (K w.params) mg base (dR l.prog w) 20 fa fd ["_law_script"] (gv (K w.params) zS)) :
 PySem.W.WalkO q loose XP YP l.row.toRowW d [] (fun f vs=>PySem.call f vs) :=
 L2.CT (n:=63) (k:=20) (x:="_law_script") (CX:=fun w=>dR l.prog w) (sp:=fun w=>gv (K w.params) zS) hn (by decide) hdf ⟨rfl,by decide,by decide⟩ hY F (fun _ H a ns hl _ hS=>G2 H a ns hl hS) fun _ _ _ _ _ ⟨_,_,_,_,_,q⟩=>q
end
section
end
theorem qb (f:α→β) (xs) (lo hi):EV.cutD (xs.map f) lo hi=(EV.cutD xs lo hi).map f:=by
 unfold EV.cutD; simp only [MO,List.map_take,List.map_drop]
theorem gy (h0:0≤j) (h1:j<xs.length):jS xs j=xs[j.toNat]?:=by
 unfold jS IQ
 rw [if_pos h0,if_pos h1]; rfl
theorem uU {j:Int} (h0:j<0) (h1:0≤j+xs.length):jS xs j=xs[(j+xs.length).toNat]?:=by
 unfold jS IQ
 rw [if_neg (by lia)]
 rw [if_pos (by lia)]; rfl
theorem qe (h:a.natAbs<2 ^ 63):N3 a≤64:=by
 unfold N3
 by_cases z:a=0
 ·subst z; decide
 ·have e:(a == 0)=false:=by simpa using z
  rw [e,if_neg MV]
  have:=(Nat.log2_lt (n:=a.natAbs) (k:=63) (by lia)).mpr h
  lia
theorem qf (h:a.natAbs<2 ^ 63):EV.MulOk a b:=IntMulOk.of_left (qe h)
theorem jY (h:(pY 0 n)[i]?=some d):i<n∧d=.int (i:Int):=by
 unfold pY at h
 simp only [MS,MZ] at h
 obtain ⟨j,h1,rfl⟩:=h
 obtain ⟨hj,rfl⟩:=MU.mp h1
 simp at hj
 exact ⟨hj,by simp⟩
section
variable {K:MI}
end
end EV
namespace EV
open PySem PySem.Spec PySem.Calls PyProof.Rows L2
noncomputable def HO.dct:HO→Prop | .dK _=>True | .dT _=>True | _=>False
theorem n6 (I:Inv X aa σ H s) (hu:H a=some u) (nu:∀ xs,u≠.tup xs) (nw:∀ y,u≠.own y) (nt:∀ ps,u≠.tbl ps) (nf:∀ o z,X.H₀ a≠some (.frz o z))
 (hv:aX X.prog X.w H s.heap a v):Inv X aa σ (upd H a v) s:=by
 have hne:∀ {b:Addr} {z:HO},H b=some z→z≠u→b≠a:=fun e d q=>by subst q; rw [hu] at e; cases e; exact d rfl
 have hno:∀ {b:Addr},H b=none→b≠a:=fun e q=>by subst q; rw [hu] at e; cases e
 have hst:∀ {b:Addr} {z:HO},aX X.prog X.w H s.heap b z→aX X.prog X.w (upd H a v) s.heap b z:=fun q =>
  q.stay (fun _ _ _ e=>e) (fun b e=>by rw [ak (hne e (M8 (nw _)))]; exact e) fun b xs e=>by rw [ak (hne e (M8 (nu xs)))]; exact e
 have fr:=I.free
 exact {
  ok:=I.ok,os:=I.os,bare:=I.bare,loc:=I.loc,cell:=I.cell,len:=I.len
  base:=⟨I.base.keep,I.base.slot,fun b o h1 h2 h3=>by have e:=I.base.free b o h1 h2 h3; rw [ak (hno e)]; exact e,I.base.there,
   fun b xs e=>by have q:=I.base.tups b xs e; rw [ak (hne q (M8 (nu xs)))]; exact q,
   fun b o z e=>by
    have q:=I.base.frzs b o z e
    by_cases w:b=a
    ·subst w; exact absurd e (nf o z)
    ·rw [ak w]; exact q,
   fun b ps e=>by obtain ⟨m,q⟩:=I.base.tbls b ps e; exact ⟨m,by rw [ak (hne q (M8 (nt _)))]; exact q⟩⟩
  free:=by rw [ak (hno I.free)]; exact I.free
  freeC:=fun x c e=>by have q:=I.freeC x c e; rw [ak (hno q)]; exact q
  pin:=fun q hq=>by obtain ⟨h1,h2,h3⟩:=I.pin q hq; exact ⟨h1,by rw [ak (hno h2)]; exact h2,h3⟩
  hok:=fun b z e=>by
   by_cases w:b=a
   ·subst w; rw [ah] at e; cases e; exact hst hv
   ·rw [ak w] at e; exact hst (I.hok b z e) }
theorem Dv (I:Inv X aa σ H s) (hu:H a=some u) (hd:HO.dct u) :
 ∃ o,Inv X aa σ (upd H a (.frz o u)) s∧∀ o z,X.H₀ a≠some (.frz o z):=by
 obtain ⟨o,ho⟩:=GF (I.hok a u hu)
 have nf:∀ o z,X.H₀ a≠some (.frz o z):=fun o z e=>by
  have q:=I.base.frzs a o z e
  rw [hu] at q; cases q; exact hd
 exact ⟨o,n6 I hu (by rintro xs rfl; exact hd) (by rintro y rfl; exact hd) (by rintro ps rfl; exact hd) nf ⟨ho,I.hok a u hu⟩,nf⟩
theorem zT (I:Inv X aa σ H s) (hu:H a=some (.frz o u)) (nf:∀ o z,X.H₀ a≠some (.frz o z)):Inv X aa σ (upd H a u) s :=
 n6 I hu (by intro xs z; cases z) (by intro y z; cases z) (by intro ps z; cases z) nf (I.hok a _ hu).2
noncomputable def Sl.qg:Sl→Option D
 | .oK kvs=>some (.fdK (kvs.map (·.1)) (kvs.map (·.2))) | .aK _ kvs=>some (.fdK (kvs.map (·.1)) (kvs.map (·.2)))
 | .oT kvs=>some (.fdT (kvs.map (·.1)) (kvs.map (·.2))) | .aT _ kvs=>some (.fdT (kvs.map (·.1)) (kvs.map (·.2)))
 | _=>none
theorem kO {r:Sl} (h:r.qg=some d):r.owned=true:=by cases r <;> first | rfl | cases h
section
variable {K:MI}
theorem aS.qg (h:r.qg=some d) (q:aS K fr H Hf r v):∃ p u,v=.ref p∧fr p∧H p=some u∧Hf p=none∧HO.dct u∧∀ o,Rep K (L2.upd Hf p (.frz o u)) d v:=by
 have sf:∀ {p:Addr} {o:HO},Hf p=none→aD Hf (L2.upd Hf p o):=fun hp b u e=>by rw [ak (az e hp)]; exact e
 cases r with
 | oK ds=>cases h; obtain ⟨p,xs,rfl,f,h1,h2,h3⟩:=q; exact ⟨p,_,rfl,f,h1,h2,trivial,fun o=>iF.mpr ⟨p,xs,o,rfl,ah,(iQ h3).1,(iQ h3).2.mono (sf h2)⟩⟩
 | aK a ds=>cases h; obtain ⟨p,xs,rfl,f,h1,h2,h3⟩:=q; exact ⟨p,_,rfl,f.1,h1,h2,trivial,fun o=>iF.mpr ⟨p,xs,o,rfl,ah,(iQ h3).1,(iQ h3).2.mono (sf h2)⟩⟩
 | oT ds=>cases h; obtain ⟨p,xs,rfl,f,h1,h2,h3⟩:=q; exact ⟨p,_,rfl,f,h1,h2,trivial,fun o=>iG.mpr ⟨p,xs,o,rfl,ah,(eF h3).1,fun y hy=>au (sf h2) ((eF h3).2.1 y hy),(eF h3).2.2.mono (sf h2)⟩⟩
 | aT a ds=>cases h; obtain ⟨p,xs,rfl,f,h1,h2,h3⟩:=q; exact ⟨p,_,rfl,f.1,h1,h2,trivial,fun o=>iG.mpr ⟨p,xs,o,rfl,ah,(eF h3).1,fun y hy=>au (sf h2) ((eF h3).2.1 y hy),(eF h3).2.2.mono (sf h2)⟩⟩
 | _=>cases h
theorem cR.Dw (S:cR K H₀ dB σ H Hf ρ) (h:ρ[i]?=some r) (hr:r.qg=some d) :
 ∃ q u,H q=some u∧Hf q=none∧HO.dct u∧∀ o,cR K H₀ dB σ (L2.upd H q (.frz o u)) (L2.upd Hf q (.frz o u)) (ρ.set i (.va d)):=by
 obtain ⟨q,ev,rq⟩:=S.own h (kO hr)
 obtain ⟨_,u,e0,fq,hq,rQ,hd,rd⟩:=rq.qg hr
 cases e0
 have hi:i<ρ.length:=(MU.mp h).1
 have hown:=kO hr
 refine ⟨q,u,hq,rQ,hd,fun o=>⟨⟨fun b z e=>?_,fun b z e=>?_,fun b z e=>?_,fun b h1 h2 h3=>?_⟩,by simp [S.len],fun j r' hj hu=>?_,fun j j' r1 r2 q' hne h1 h2 o1 o2=>?_⟩⟩
 ·rw [L2.ak (az e fq)]; exact S.bas.s b z e
 ·have e2:=S.bas.f b z e
  rw [L2.ak (az e2 rQ)]; exact e2
 ·by_cases w:b=q
  ·subst w; rw [L2.ah] at e ⊢; exact e
  ·rw [L2.ak w] at e ⊢; exact S.sb b z e
 ·have e:=S.bas.n b h1 h2 h3
  by_cases z:b=q
  ·subst z; exact absurd fq h2
  ·rw [L2.ak z]; exact e
 ·have sf:aD Hf (L2.upd Hf q (.frz o u)):=fun b z e=>by rw [L2.ak (az e rQ)]; exact e
  by_cases z:j=i
  ·subst z
   rw [NU hi] at hj
   cases hj
   exact ⟨_,ev,rd o⟩
  ·rw [NV (M8 z)] at hj
   obtain ⟨v,e1,e2⟩:=S.at_ j r' hj hu
   refine ⟨v,e1,?_⟩
   have key:r'.owned=true→v≠.ref q:=fun ho z=>by
    subst z
    exact S.sep i j _ _ q (M8 ‹_›) h hj hown ho ev e1
   exact aS.mv (B:=fun z=>z=q) sf (fun z w hz e1 _ e3=>⟨by rw [L2.ak hz]; exact e1,by rw [L2.ak hz]; exact e3⟩) (by rintro _ z rfl ⟨ys,e9⟩; rw [hq] at e9; cases e9; exact hd) (fun ho z e=>by rintro rfl; exact key ho e) e2
 ·have out:∀ {j:Nat} {r:Sl},(ρ.set i (.va d))[j]?=some r→r.owned=true→ρ[j]?=some r:=fun {j r} hj ho=>by
   by_cases z:j=i
   ·subst z; rw [NU hi] at hj; cases hj; cases ho
   ·rw [NV (M8 z)] at hj; exact hj
  exact S.sep j j' r1 r2 q' hne (out h1 o1) (out h2 o2) o1 o2
end
theorem wL (sb:aD Hf H) (hq:H q=some u) (rQ:Hf q=none) (g:aZ (upd H q (.frz o u)) (upd Hf q (.frz o u)) H' aj):aZ H Hf (upd H' q u) (del aj q) :=
 ⟨fun b z e=>by
   by_cases w:b=q
   ·subst w; rw [ah]; rw [hq] at e; exact e
   ·rw [ak w]; exact g.s b z (by rw [ak w]; exact e),
   fun b z e=>by rw [b9 (az e rQ)]; exact g.f b z (by rw [ak (az e rQ)]; exact e),
   fun b z e=>by obtain ⟨w,e2⟩:=iN e; rw [ak w]; exact g.b b z e2,fun b h1 h2 h3=>by
   by_cases w:b=q
   ·subst w; exact iM
   ·rw [b9 w]; exact g.n b (by rw [ak w]; exact h1) (by rw [ak w]; exact h2) fun xs=>by rw [ak w]; exact h3 xs⟩
theorem Dy {K:MI} (hp:Hf p=some (.frz o u)) (hd:HO.dct u) (h:cQ K Hf a xs):cQ K (del Hf p) a xs:=by
 rcases h with (h | ⟨o',h⟩) | h
 ·exact .inl (.inl (by rw [b9 (by rintro rfl; rw [hp] at h; cases h)]; exact h))
 ·exact .inl (.inr ⟨o',by rw [b9 (by rintro rfl; rw [hp] at h; cases h; exact hd)]; exact h⟩)
 ·exact .inr h
mutual
theorem zU {K:MI} {Hf:Hp} {p:Addr} {o:Obj} {u:HO} (hp:Hf p=some (.frz o u)) (hd:HO.dct u):∀ (d:D) {v:V},d.nl→Rep K Hf d v→Rep K (del Hf p) d v
 | .non,_,_,h=>by simpa [Rep] using h
 | .bl _,_,_,h=>by simpa [Rep] using h
 | .int _,_,_,h=>by simpa [Rep] using h
 | .str _,_,_,h=>by simpa [Rep] using h
 | .adr _,_,_,h=>by simpa [Rep] using h
 | .tup ds,v,f,h=>by
  simp only [Rep] at h ⊢
  obtain ⟨a,xs,e,h1,h2⟩:=h
  exact ⟨a,xs,e,Dy hp hd h1,n8 hp hd ds (by simpa [D.nl] using f) h2⟩
 | .lst _,_,f,_=>by simp [D.nl] at f
 | .fdK _ _,_,f,_=>by simp [D.nl] at f
 | .fdT _ _,_,f,_=>by simp [D.nl] at f
 | .exc C,_,_,h=>by
  simp only [Rep] at h ⊢
  obtain ⟨a,e,h⟩:=h
  exact ⟨a,e,by rw [b9 (by rintro rfl; rw [hp] at h; cases h)]; exact h⟩
theorem n8 {K:MI} {Hf:Hp} {p:Addr} {o:Obj} {u:HO} (hp:Hf p=some (.frz o u)) (hd:HO.dct u):∀ (ds:List D) {xs:List V},D.o7 ds→aq K Hf ds xs→aq K (del Hf p) ds xs
 | [],_,_,h=>by simpa [aq] using h
 | d::ds,xs,f,h=>by
  simp only [aq] at h ⊢
  simp only [D.o7] at f
  obtain ⟨x,r,e,h1,h2⟩:=h
  exact ⟨x,r,e,zU hp hd d f.1 h1,n8 hp hd ds f.2 h2⟩
end
section
variable {K:MI}
theorem zV (S:bg c σ H Hf ρ) (hi:At ρ i r) (hr:r.qg=some d0) (hs:SSet ρ i (.va d0) ρ')
 (h:∀ q u o,H q=some u→Hf q=none→HO.dct u→bg c σ (upd H q (.frz o u)) (upd Hf q (.frz o u)) ρ'→bE c.X e σ (upd H q (.frz o u)) fun v H'=>∃ aj,aZ (upd H q (.frz o u)) (upd Hf q (.frz o u)) H' aj∧Q v (upd H' q u)):bE c.X e σ H Q:=by
 obtain ⟨q,u,hq,rQ,hd,S1⟩:=S.Dw hi.get hr
 intro aa s I
 obtain ⟨o,I1,nf⟩:=Dv I hq hd
 have S2:=S1 o
 rw [← hs.eq] at S2
 refine bw (h q u o hq rQ hd S2 aa s I1) fun v s' ⟨x,H',I',rv,aj,g,hQ⟩=>⟨x,_,zT I' (g.s q _ ah) nf,rv,hQ⟩
theorem sI (i) {R:Sl→Prop} (hi:At ρ i r) (hr:r.qg=some d0) (hs:SSet ρ i (.va d0) ρ') (h:c6 c e ρ' fun d=>Sd d.nl (R d)):c6 c e ρ R:=fun σ H Hf Q S q=>by
 refine zV S hi hr hs fun a u o ha yk hd S1=>h σ _ _ _ S1 fun r1 v H' aj ⟨fl,rd⟩ rv g=>⟨aj,g,?_⟩
 have hp:=g.f a _ ah
 refine q r1 v _ (del aj a) rd ?_ (wL S.sb ha yk g)
 have hH:H' a=some (.frz o u):=g.s a _ ah
 cases r1 with
 | va d=>exact zU hp hd d fl rv
 | ow ds =>
  obtain ⟨b,xs,rfl,fb,h1,h2,h3⟩:=rv
  have nb:b≠a:=by rintro rfl; rw [show (upd H b (.frz o u)) b=_ from ah] at fb; cases fb
  exact ⟨b,xs,rfl,by rw [ak nb] at fb; exact fb,by rw [ak nb]; exact h1,by rw [b9 nb]; exact h2,n8 hp hd ds fl h3⟩
 | _=>exact fl.elim
end
noncomputable def zW (h:Heap) (it d:Addr) (i n ep:Nat):Prop :=
 ∃ (x:Value) (f:Bool) (k v:Value),h.get? it=some { cls:=.type "dict_itemiterator",dict:=none,data:=.fields #[x,.bool f,.ref d,.int i 0,.int n 0,.int ep 0,k,v],slots:= #[] }∧(x=.none∨∃ a:Addr,x=rawInt a)
section
variable {s:Shared} {i n ep:Nat}
theorem n9:RD "dict_itemiterator"=true:=by decide
theorem qh (h:Q (s.heap.get? a) s):wpAny M A (loadIfAlive a) Q E s:=fun Γ p z=>by
 show Sem.wp M Γ (Sem.loadIfAlive a Sem.pure) _ _ p s
 rw [Sem.wp_loadIfAlive,Sem.wp]
 exact h
theorem zX (hs:s.heap=h) (hit:h.get? it=some { cls:=.type "dict_itemiterator",dict:=none,data:=.fields #[x,.bool f,.ref d,.int i 0,.int n 0,.int ep 0,k,v],slots:= #[] }) (hx:x=.none∨∃ a:Addr,x=rawInt a)
 (hQ:∀ h',zW h' it d i n ep→h'.get? h.objs.size=some { cls:=.type "tuple",data:=.seq #[a,b] }→h'.objs.size=h.objs.size+1→(∀ c o,c≠it→h.get? c=some o→h'.get? c=some o)→Q (.ref h.objs.size) { s with heap:=h' }) :
 wpAny (model prog w) A (RA (.ref it) 6 a b) Q E s:=by
 subst hs
 have lt:it<s.heap.objs.size:=MR hit
 have ne:s.heap.objs.size≠it:=PM lt
 unfold RA
 refine MG (wpAny_newTuple ?_)
 have rN:=MQ ({ cls:=.type "tuple",data:=.seq [a,b].toArray }:Obj) hit
 have htu:(s.heap.push { cls:=.type "tuple",data:=.seq [a,b].toArray }).get? s.heap.objs.size=some { cls:=.type "tuple",data:=.seq #[a,b] }:=M3 _ rfl
 have hsz:(s.heap.push { cls:=.type "tuple",data:=.seq [a,b].toArray }).objs.size=s.heap.objs.size+1:=OQ ..
 have hold:∀ c o,s.heap.get? c=some o→(s.heap.push { cls:=.type "tuple",data:=.seq [a,b].toArray }).get? c=some o:=fun c o e=>MQ _ e
 generalize (s.heap.push { cls:=.type "tuple",data:=.seq [a,b].toArray })=h2 at rN htu hsz hold ⊢
 have free:wpAny (model prog w) A (do
  let old:=[← field (.ref it) 6,← field (.ref it) (6+1)]
  setField (.ref it) 6 a; setField (.ref it) (6+1) b
  setField (.ref it) 0 (rawInt s.heap.objs.size); setField (.ref it) 1 (.bool false)
  letGo old [.ref s.heap.objs.size]
  pure (Nc s.heap.objs.size)) Q E { s with heap:=h2 }:=by
  refine MG (Ox rN rfl (x:=k) rfl (MG (Ox rN rfl (x:=v) rfl ?_)))
  refine MG (O4 rN (by simp) fun h3 e3 s3=>?_)
  refine MG (O4 e3 (by simp) fun h4 e4 s4=>?_)
  refine MG (O4 e4 (by simp) fun h5 e5 s5=>?_)
  refine MG (O4 e5 (by simp) fun h6 e6 s6=>?_)
  have keep:∀ c o,c≠it→h2.get? c=some o→h6.get? c=some o:=fun c o hc e=>s6.extBut c o hc (s5.extBut c o hc (s4.extBut c o hc (s3.extBut c o hc e)))
  refine MG (Rv (MJ (hQ h6 ⟨_,_,_,_,e6,.inr ⟨_,rfl⟩⟩ (keep _ _ ne htu) ?_ fun c o hc e=>keep c o hc (hold c o e))))
  rw [s6.1,s5.1,s4.1,s3.1,hsz]
 have told:∀ (h3:Heap) (x:Value) (f:Bool),h3.get? it=some { cls:=.type "dict_itemiterator",dict:=none,data:=.fields #[x,.bool f,.ref d,.int i 0,.int n 0,.int ep 0,k,v],slots:= #[] }→(x=.none∨∃ a:Addr,x=rawInt a) →
  Ov it h2 h3→Q (.ref s.heap.objs.size) { s with heap:=h3 }:=fun h3 x f e hx' s3 =>
  hQ h3 ⟨x,f,k,v,e,hx'⟩ (s3.extBut _ _ ne htu) (by rw [s3.1,hsz]) fun c o hc e=>s3.extBut c o hc (hold c o e)
 show wpAny _ _ (Sv (.ref it) >>= _) _ _ _
 unfold Sv
 refine MG (MG (Ox rN rfl (x:=x) rfl ?_))
 rcases hx with rfl | ⟨a0,rfl⟩
 ·exact MJ free
 ·show wpAny _ _ (loadIfAlive (a0:Int).toNat >>= _) _ _ _
  refine MG (qh ?_)
  split
  ·exact MJ free
  ·refine MG ?_
   refine Ox rN rfl (x:=.bool f) rfl ?_
   cases f with
   | true =>
    dsimp only
    rw [if_neg (by decide)]
    exact MJ (MJ (told h2 _ _ rN (.inr ⟨a0,rfl⟩) (.refl ..)))
   | false =>
    dsimp only
    rw [if_pos (by decide)]
    refine MG (O4 rN (by simp) fun h3 e3 s3=>?_)
    exact MJ (MJ (told h3 _ true e3 (.inr ⟨a0,rfl⟩) s3))
theorem zW.G3 (h:zW s.heap it d i n ep):s.TypeIs (.ref it) "dict_itemiterator":=let ⟨_,_,_,_,e,_⟩:=h; ⟨_,e,rfl⟩
theorem next_item (hit:zW s.heap it d i es.size ep) (hod:s.heap.get? d=some od) (hdd:od.data=.dict es ep) (hx:es[i]?=some e)
 (hQ:∀ h',zW h' it d (i+1) es.size ep→h'.get? s.heap.objs.size=some { cls:=.type "tuple",data:=.seq #[e.key,e.val] }→h'.objs.size=s.heap.objs.size+1→(∀ c o,c≠it→s.heap.get? c=some o→h'.get? c=some o)→Q (some (.ref s.heap.objs.size)) { s with heap:=h' }) :
 wpAny (model prog w) A (pyNext (.ref it)) Q E s:=by
 have hT:=hit.G3
 obtain ⟨x,f,k,v,hat,hxx⟩:=hit
 have hlt:i<es.size:=(Pp.mp hx).1
 unfold pyNext
 refine MG (OR (OI (name:=MH "__next__") hT Pj (Oe Pj hT SA ?_ (Sx _))))
 refine MG (MJ (MG (MG ?_)))
 first | refine MG (Qy hT (MJ ?_)) | refine MG (QB hT (MJ ?_))
 refine MG (Rh hat rfl ?_)
 simp only [n9,if_true]
 show wpAny _ _ (if (Nc d == NO)=true then _ else _) _ _ _
 rw [if_neg (show ¬ (Nc d == NO)=true from MV)]
 refine MG (MJ (MG (PD hod hdd ?_)))
 rw [if_neg (by simp)]
 refine MG (MJ (MG (PJ hod hdd ?_)))
 rw [if_neg (by simp)]
 refine MJ ?_
 simp only [show ¬ ((i:Int)<0) from by lia,if_false,NN,hx]
 refine MG ?_
 first | refine MG (Qy hT (MJ ?_)) | refine MG (QB hT (MJ ?_))
 refine MG (RO hT ?_)
 show wpAny _ _ (setField (.ref it) 3 (rawInt ((i:Int)+1)) >>= _) _ _ s
 refine MG (O4 hat (by simp) fun h1 e1 s1=>?_)
 have e1':h1.get? it=some { cls:=.type "dict_itemiterator",dict:=none,data:=.fields #[x,.bool f,.ref d,.int ((i+1:Nat):Int) 0,.int es.size 0,.int ep 0,k,v],slots:= #[] }:=by
  have q:((i+1:Nat):Int)=(i:Int)+1:=by lia
  rw [q]; simpa [rawInt] using e1
 have hT1:Shared.TypeIs { s with heap:=h1 } (.ref it) "dict_itemiterator":=⟨_,e1',rfl⟩
 refine MG (NX ?_)
 refine MG (RO hT1 (MG (RO hT1 ?_)))
 show wpAny _ _ (RA (.ref it) 6 e.key e.val) _ _ { s with heap:=h1 }
 have z1:h1.objs.size=s.heap.objs.size:=s1.1
 refine zX (s:={ s with heap:=h1 }) rfl e1' hxx fun h2 g2 t2 z2 k2=>?_
 rw [z1] at t2 z2 ⊢
 exact MJ ⟨_,rfl,MJ (hQ h2 g2 t2 z2 fun c o hc q=>k2 c o hc (s1.extBut c o hc q))⟩
theorem next_end (hh:A.handled=none) (hit:zW s.heap it d i es.size ep) (hod:s.heap.get? d=some od) (hdd:od.data=.dict es ep) (hx:es.size≤i)
 (hQ:∀ h',OV it s.heap h'→Q none { s with heap:=h' }):wpAny (model prog w) A (pyNext (.ref it)) Q E s:=by
 have hT:=hit.G3
 obtain ⟨x,f,k,v,hat,hxx⟩:=hit
 unfold pyNext
 refine MG (OR (OI (name:=MH "__next__") hT Pj (Oe Pj hT SA ?_ (Sx _))))
 refine MG (MJ (MG (MG ?_)))
 first | refine MG (Qy hT (MJ ?_)) | refine MG (QB hT (MJ ?_))
 refine MG (Rh hat rfl ?_)
 simp only [n9,if_true]
 show wpAny _ _ (if (Nc d == NO)=true then _ else _) _ _ _
 rw [if_neg (show ¬ (Nc d == NO)=true from MV)]
 refine MG (MJ (MG (PD hod hdd ?_)))
 rw [if_neg (by simp)]
 refine MG (MJ (MG (PJ hod hdd ?_)))
 rw [if_neg (by simp)]
 refine MJ ?_
 simp only [show ¬ ((i:Int)<0) from by lia,if_false,NN,Array.getElem?_eq_none hx]
 refine MG ?_
 first | refine MG (Qy hT (MJ ?_)) | refine MG (QB hT (MJ ?_))
 show wpAny _ _ (setField (.ref it) 2 .none >>= _) _ _ s
 refine MG (Qi hat rfl (by simp) (MG ?_))
 simp only [newExc,newTuple]
 refine MG (NQ ?_ (by size_fits))
 refine MG (m:=firstArgMember _ _) (wpAny_of_eq (a:=NO) (by first | rfl | (simp only [firstArgMember]; rfl)) ?_)
 refine NQ ?_ (by size_fits)
 simp only [raiseNew]
 refine MG (wpAny_handled ?_)
 rw [show A.in1.handled=none from hh]
 refine MG (MJ (wpAny_throw ?_))
 refine MG (Q7 (T:="StopIteration") (b:=true) ⟨_,M3 _ rfl,rfl⟩ isSubtype_stop ?_)
 exact MJ (hQ _ (((P8 ..).extBut.push _).push _))
theorem Dz (hit:zW s.heap it d i n ep) (h:∀ h',zW h' it d i n ep→Ov it s.heap h'→Q () { s with heap:=h' }):wpAny (model prog w) A (letOwnedTupleGo tg (.ref it) (.ref a)) Q E s:=by
 have stay:Q () s:=h s.heap hit (.refl ..)
 obtain ⟨x,f,k,v,hat,hxx⟩:=hit
 have part:wpAny (model prog w) A (do
  let o ← load it
  match o.cls,o.data with
  | .type n,.fields vs =>
   if (["enumerate","zip","dict_itemiterator","dict_reverseitemiterator","odict_iterator","itertools.zip_longest","itertools.pairwise"].contains n && vs[0]? == some (rawInt a))=true then do
    rule "for.unpacks-the-owned-tuple"
    updateField it 0 .none
   else pure ()
  | _,_=>pure ()) Q E s:=by
  refine MG (wpAny_load hat ?_)
  dsimp only
  split
  ·refine MG (N6 ?_)
   show wpAny _ _ (setField (.ref it) 0 .none) Q E s
   exact O4 hat (by simp) fun h' e' s'=>h h' ⟨_,_,_,_,e',.inl rfl⟩ s'
  ·exact MJ stay
 unfold letOwnedTupleGo
 cases tg <;> first
  | exact MJ stay
  | exact part
end
noncomputable def bJ:HO→List (V×V)
 | .dK ys=>ys.map fun y=>(kV y.1,y.2)
 | .dT ys=>ys.map fun y=>(.ref y.2.1,y.2.2)
 | _=>[]
theorem uV (h:kc k v=true):RelV (kV k) v:=by
 rcases bx h with ⟨i,t,rfl,rfl⟩ | ⟨x,t,rfl,rfl⟩
 ·exact ⟨t,rfl⟩
 ·exact ⟨t,rfl⟩
theorem cE (ok:aX P w H h d u) (hd:HO.dct u) (ho:h.get? d=some o) :
 o.ExactDict∧∃ es ep,o.data=.dict es ep∧Paired (fun (a:V×V) (e:DictEntry)=>RelV a.1 e.key∧RelV a.2 e.val) (bJ u) es.toList∧(d == sysModules)=false∧(bJ u).length≤sizeLine:=by
 cases u with
 | dK ys =>
  obtain ⟨z,y,vs,kv,o',es,ep,h1,h2,h3,h4,h5,h6⟩:=ok
  rw [ho] at h1; cases h1
  refine ⟨h2,es,ep,h3,?_,y,by simpa [bJ] using z⟩
  show Paired _ (ys.map _) _
  clear h3 h4 h6 z
  generalize es.toList=l at h5 ⊢
  unfold KV at kv
  induction kv generalizing l with
  | nil=>cases h5; exact .nil
  | @cons a b as bs q t ih =>
   cases h5 with
   | cons r t' t''=>exact .cons ⟨by show L2.RelV (kV a.1) _; rw [q.1]; exact uV r,by rw [t']; exact q.2⟩ (ih hd _ t'')
 | dT ys =>
  obtain ⟨z,y,xs,kv,o',es,ep,h1,h2,h3,h4,h5⟩:=ok
  rw [ho] at h1; cases h1
  refine ⟨h2,es,ep,h3,?_,y,by simpa [bJ] using z⟩
  rw [h4]
  show Paired _ (ys.map _) _
  clear h3 h4 h5 z
  induction kv with
  | nil=>exact .nil
  | @cons a b as bs q t ih =>
   rw [MN,MN]
   refine .cons ⟨?_,q.2.2⟩ (ih hd)
   show Nc b.2.1=Nc a.2.1
   rw [q.2.1]
 | _=>exact hd.elim
theorem cU:∀ {l:List α} {m:List β} {i:Nat} {a:α},Paired F l m→l[i]?=some a→∃ b,m[i]?=some b∧F a b
 | _,_,_,_,.nil,e=>by simp at e
 | _,_,0,_,.cons r _,e=>by simp at e; subst e; exact ⟨_,rfl,r⟩
 | _,_,i+1,a,.cons _ t,e=>by
  obtain ⟨b,h1,h2⟩:=cU (i:=i) t (by simpa using e)
  exact ⟨b,by simpa using h1,h2⟩
noncomputable def LY (d:Addr) (o:Obj) (u:HO):It :=
 ⟨fun i H=>H d=some (.frz o u)∧i<(bJ u).length,fun i H x H'=>∃ p kv,(bJ u)[i]?=some kv∧x=.ref p∧H p=none∧H'=upd H p (.tup [kv.1,kv.2]),fun i H=>H d=some (.frz o u)∧(bJ u).length≤i⟩
theorem wM:entryFor table "dict_itemiterator.__iter__"=some Builtin.«dict_keyiterator.__iter__» :=entryFor_alias (id':="dict_keyiterator.__iter__") (by kernel_rfl) rfl (by decide +kernel) (by kernel_rfl)
theorem sJ {P:Program} {w:World} {K:MI} {tg:Expr} {d it:Addr} {o:Obj} {u:HO} {es:Array DictEntry} {ep:Nat} (hd:HO.dct u) (hod:o.data=.dict es ep) (hne:it≠d) (hes:es.size=(bJ u).length) :
 Turn P w K tg (LY d o u) [it] it (fun i h=>zW h it d i es.size ep) where
 mem:=by simp
 obj:=fun i h st b hb=>by
  have e:b=it:=by simpa using hb
  subst e
  obtain ⟨x,f,k,v,e,_⟩:=st
  exact ⟨_,e,fun v z=>by
   have z':Rz _=Data.cell v:=z
   cases z'⟩
 keep:=fun i h h' st k=>by
  obtain ⟨x,f,kk,v,e,hx⟩:=st
  exact ⟨x,f,kk,v,k it (by simp) _ e,hx⟩
 item:=by
  intro X hP hw hK hc i aa s σ H E I hf st hg
  subst hP hw hK
  obtain ⟨hH,hi⟩:=hg
  obtain ⟨f0,f1,f2,f3,f4,f5⟩:=hf it (by simp)
  obtain ⟨ho,ok⟩:=(show aX X.prog X.w H s.heap d (.frz o u) from I.hok d _ hH)
  obtain ⟨_,es',ep',e1,e2,_⟩:=cE ok hd ho
  rw [hod] at e1; cases e1
  obtain ⟨e,he,re⟩:=cU e2 (M9 hi)
  have he':es[i]?=some e:=by simpa using he
  refine next_item st ho hod he' fun h1 g1 t1 z1 k1=>?_
  have hil:it<s.heap.objs.size:=by
   obtain ⟨_,_,_,_,q,_⟩:=st
   exact MR q
  have Hp:H s.heap.objs.size=none:=I.hok.fresh (ML _)
  have hit0:it≠s.heap.objs.size:=Nh hil
  generalize hkv:(bJ u)[i]=kv at re
  have IA:Inv X aa σ (upd H s.heap.objs.size (.tup [kv.1,kv.2])) { s with heap:=s.heap.push { cls:=.type "tuple",data:=.seq #[e.key,e.val] },toks:=s.toks } :=
   I.laid (a:=s.heap.objs.size) (o:=.tup [kv.1,kv.2]) (fun _ _ q=>MQ _ q) (ML _) ⟨by show 2≤sizeLine; decide,[e.key,e.val],.cons re.1 (.cons re.2 .nil),_,M3 _ rfl,rfl,0,rfl⟩
  have g0:upd H s.heap.objs.size (.tup [kv.1,kv.2]) it=none:=by rw [ak hit0]; exact f0
  have I1:Inv X aa σ (upd H s.heap.objs.size (.tup [kv.1,kv.2])) { s with heap:=h1,toks:=s.toks }:=IA.turned (fun b o hb q=>by
   by_cases z:b=s.heap.objs.size
   ·subst z
    rw [M3 _ rfl] at q; cases q; exact t1
   ·have lt:b<s.heap.objs.size:=by
     have:=MR q
     rw [OQ] at this
     exact Nat.lt_of_le_of_ne (Nat.le_of_lt_succ this) z
    refine k1 b o hb ?_
    rw [Heap.get?_push_ne _ _ _ z] at q; exact q) g0 f1 f3 f4 f5
  refine ⟨_,rfl,Dz (s:={ s with heap:=h1 }) g1 fun h2 g2 s2=>?_⟩
  refine ⟨.ref s.heap.objs.size,_,I1.turned (t':=s.toks) (fun b o hb q=>(s2.2 b hb).trans q) g0 f1 f3 f4 f5,rfl,⟨_,kv,by rw [M9 hi,hkv],rfl,Hp,rfl⟩,g2,fun b hb=>?_⟩
  have e:b=it:=by simpa using hb
  rw [e]; exact g0
 done:=by
  intro X hP hw hK hc i aa s σ H E I hf st hg
  subst hP hw hK
  obtain ⟨hH,hi⟩:=hg
  obtain ⟨f0,f1,f2,f3,f4,f5⟩:=hf it (by simp)
  obtain ⟨ho,ok⟩:=(show aX X.prog X.w H s.heap d (.frz o u) from I.hok d _ hH)
  exact next_end (I.ok.hd hc) st ho hod (by lia) fun h' eb=>⟨rfl,I.turned (t':=s.toks) (fun b o hb e=>eb b o hb e) f0 f1 f3 f4 f5⟩
 self:=by
  intro A i s Q E st h
  have hT:=st.G3
  refine R7 hT SG (Oe SG hT wM ?_ (F.args_dict_itemiterator_iter_1 _))
  show wpAny _ _ (ret (.ref it)) _ _ s
  exact MJ ⟨_,rfl,"dict_itemiterator",_,hT,Pj.lookup,h⟩
section
theorem qi (d) (hd:(d == sysModules)=false) :
 MeetsIn prog w (Builtin.«dict.items» ⟨[.ref d],[]⟩) (fun _ R s=>s.TypeIs (.ref d) "dict"∧R (.ok (.ret (.ref s.heap.objs.size))) { s with heap:=s.heap.push { cls:=.type "dict_items",data:=.fields #[.ref d] } }) :=
 .of_wp fun A R s ⟨hT,h⟩=>by
  unfold Builtin.«dict.items»
  refine MG ?_
  unfold Builtin.Dict.noArgs
  refine MG (wpAny_notOrdered_dict hT (show wpAny _ _ (pure d) _ _ s from MJ ?_))
  show wpAny _ _ (QN d >>= _) _ _ s
  unfold QN
  rw [if_neg (by rw [hd]; exact MV)]
  exact MG (MJ (MG (NQ (MJ ⟨_,rfl,h⟩))))
theorem wN (hv:s.heap.IsItemsView v d) (hod:s.heap.get? d=some od) (hdd:od.data=.dict es ep)
 (hQ:Q (.ref s.heap.objs.size) { s with heap:=s.heap.push { cls:=.type "dict_itemiterator",data:=.fields #[.none,.bool false,.ref d,.int 0 0,.int es.size 0,.int ep 0,.none,.none] } }) :
 wpAny (model prog w) A (pyIter (.ref v)) Q E s:=by
 obtain ⟨ov,hov,hcv,hdv⟩:=id hv
 refine R7 hv.typeIs F.slot_dict_items_iter (Oe F.slot_dict_items_iter hv.typeIs F.entry_dict_items_iter ?_ (F.args_dict_items_iter_1 _))
 unfold Builtin.«dict_items.__iter__»
 refine MG (MJ (MG ?_))
 unfold Builtin.Dict_items.dictOf
 refine MG (Ox hov hdv (x:=.ref d) rfl (MJ (MG ?_)))
 unfold Builtin.Dict_items.newIterator
 refine MG (PD hod hdd (MG (PJ hod hdd ?_)))
 simp only [n9,if_true]
 refine NQ (MJ ⟨_,rfl,"dict_itemiterator",_,⟨_,M3 _ rfl,rfl⟩,Pj.lookup,?_⟩)
  (by simp only [sizeOk,Sw,M7,Nr,Nl,Oo,sizeLine_eq]; lia)
 simpa [rawInt,Sw] using hQ
end
noncomputable def wO:Key→D | .inl i=>.int i | .inr x=>.str x
noncomputable def D.pairs:D→Option (List D)
 | .fdK ks ds=>some (Rr (fun k d=>D.tup [wO k,d]) ks ds)
 | .fdT ks ds=>some (Rr (fun k d=>D.tup [.tup (k.map wO),d]) ks ds)
 | _=>none
section
variable {K:MI} {Hf:Hp}
theorem qj:Rep K Hf (wO k) (kV k):=by
 cases k with
 | inl i=>exact av.mpr rfl
 | inr x=>exact eZ.mpr rfl
theorem mR:∀ {ks:List Key},aq K Hf (ks.map wO) (ks.map kV)
 | []=>ay.mpr rfl
 | k::ks=>.cons qj mR
noncomputable def mS (K:MI) (Hf:Hp) (d:D) (kv:V×V):Prop:=∃ k e,d=.tup [k,e]∧Rep K Hf k kv.1∧Rep K Hf e kv.2
theorem uW:∀ {ys:List (Key×V)} {vs:List D},aq K Hf vs (ys.map (·.2))→Paired (mS K Hf) (Rr (fun k d=>D.tup [wO k,d]) (ys.map (·.1)) vs) (ys.map fun y=>(kV y.1,y.2))
 | [],vs,h=>by
  cases vs with
  | nil=>exact .nil
  | cons d ds=>obtain ⟨x,r,e,_⟩:=aC.mp h; cases e
 | y::ys,vs,h=>by
  cases vs with
  | nil=>rw [ay] at h; cases h
  | cons d ds =>
   obtain ⟨x,r,e,h1,h2⟩:=aC.mp h
   cases e
   exact .cons ⟨_,_,rfl,qj,h1⟩ (uW h2)
theorem uX:∀ {ys:List (List Key×Addr×V)} {vs:List D},(∀ y∈ys,cQ K Hf y.2.1 (y.1.map kV))→aq K Hf vs (ys.map (·.2.2))→Paired (mS K Hf) (Rr (fun k d=>D.tup [.tup (k.map wO),d]) (ys.map (·.1)) vs) (ys.map fun y=>(.ref y.2.1,y.2.2))
 | [],vs,_,h=>by
  cases vs with
  | nil=>exact .nil
  | cons d ds=>obtain ⟨x,r,e,_⟩:=aC.mp h; cases e
 | y::ys,vs,hk,h=>by
  cases vs with
  | nil=>rw [ay] at h; cases h
  | cons d ds =>
   obtain ⟨x,r,e,h1,h2⟩:=aC.mp h
   cases e
   exact .cons ⟨_,_,rfl,aE.mpr ⟨_,_,rfl,hk y MW,mR⟩,h1⟩ (uX (fun z hz=>hk z (MX _ hz)) h2)
theorem wQ (hp:d.pairs=some ds) (h:Rep K Hf d v):∃ a o u,v=.ref a∧Hf a=some (.frz o u)∧HO.dct u∧Paired (mS K Hf) ds (bJ u):=by
 cases d with
 | fdK ks vs =>
  cases hp
  obtain ⟨a,ys,o,rfl,h1,h2,h3⟩:=iF.mp h
  subst h2
  exact ⟨a,o,_,rfl,h1,trivial,uW h3⟩
 | fdT ks vs =>
  cases hp
  obtain ⟨a,ys,o,rfl,h1,h2,h3,h4⟩:=iG.mp h
  subst h2
  exact ⟨a,o,_,rfl,h1,trivial,uX h3 h4⟩
 | _=>cases hp
theorem sL {ds:List D} {a:Addr} {o:Obj} {u:HO} (h:Hf a=some (.frz o u)) (hp:Paired (mS K Hf) ds (bJ u)):jh K (LY a o u) ds Hf where
 go:=fun i d H aI s1 s2 e=>by
  obtain ⟨kv,ekv,k,dd,rfl,r1,r2⟩:=cU hp e
  refine ⟨⟨s2 _ _ (s1 _ _ h),(MU.mp ekv).1⟩,fun x H' ⟨p,kv',e1,e2,e3,e4⟩=>?_⟩
  rw [ekv] at e1; cases e1
  subst e2 e4
  have g:=aZ.new s2 e3 (o:=.tup [kv.1,kv.2])
  exact ⟨upd aI p (.tup [kv.1,kv.2]),g,aE.mpr ⟨p,_,rfl,.inl (.inl ah),.cons (Rep.mono (s1.trans g.f) _ r1) (.cons (Rep.mono (s1.trans g.f) _ r2) (ay.mpr rfl))⟩⟩
 stop:=fun i H aI s1 s2 e=>⟨s2 _ _ (s1 _ _ h),by rw [← N4 hp]; exact e⟩
end
section
variable {K:MI}
end
end EV
namespace SR
open PySem PyProof.Rows
noncomputable def cH:Bool→Keyed→Array Keyed→Nat→Nat→Nat→StateT SortSt Sem (Option Nat):=sortPriv% PySem.Builtin.gallop
noncomputable def cz:Nat→StateT SortSt Sem Unit:=sortPriv% PySem.Builtin.setMinGallop
noncomputable def dF (left:Bool) (key:Keyed) (arr:Array Keyed) (base i:Nat):StateT SortSt Sem (Option Bool):=do
 let x ← elem' arr (base+i)
 if left then lt' x key else return (← lt' key x).map (!·)
noncomputable abbrev qk:=Option (Option Nat)×Nat×Nat
noncomputable def kP (bey:Nat→StateT SortSt Sem (Option Bool)) (n lo hi:Nat):StateT SortSt Sem (Option Nat):=do
 let __s ← forIn [0:n] ((none,lo,hi):qk) fun _ __s =>
  if __s.snd.fst≥__s.snd.snd then pure (Ob (none,__s.snd.fst,__s.snd.snd))
  else do
   let __x ← bey (__s.snd.fst+(__s.snd.snd - __s.snd.fst) / 2)
   match __x with
   | some more=>if more=true then pure (NG (none,__s.snd.fst+(__s.snd.snd - __s.snd.fst) / 2+1,__s.snd.snd)) else pure (NG (none,__s.snd.fst,__s.snd.fst+(__s.snd.snd - __s.snd.fst) / 2))
   | _=>pure (Ob (some none,__s.snd.fst,__s.snd.snd))
 match __s.fst with
 | some r=>pure r
 | none=>pure (some __s.snd.snd)
noncomputable def zY (bey:Nat→StateT SortSt Sem (Option Bool)) (n hint maxofs:Nat):StateT SortSt Sem qk :=
 forIn [0:n] ((none,0,1):qk) fun _ __s =>
  if __s.snd.snd≥maxofs then pure (Ob (none,__s.snd.fst,__s.snd.snd))
  else do
   let __x ← bey (hint+__s.snd.snd)
   match __x with
   | some more=>if (!more)=true then pure (Ob (none,__s.snd.fst,__s.snd.snd)) else pure (NG (none,__s.snd.snd,2 * __s.snd.snd+1))
   | _=>pure (Ob (some none,__s.snd.fst,__s.snd.snd))
noncomputable def zZ (bey:Nat→StateT SortSt Sem (Option Bool)) (n hint maxofs:Nat):StateT SortSt Sem qk :=
 forIn [0:n] ((none,0,1):qk) fun _ __s =>
  if __s.snd.snd≥maxofs then pure (Ob (none,__s.snd.fst,__s.snd.snd))
  else do
   let __x ← bey (hint - __s.snd.snd)
   match __x with
   | some found=>if found=true then pure (Ob (none,__s.snd.fst,__s.snd.snd)) else pure (NG (none,__s.snd.snd,2 * __s.snd.snd+1))
   | _=>pure (Ob (some none,__s.snd.fst,__s.snd.snd))
local macro_rules | `(tactic| walk_at "dl gallop")=>do
 let i:=Pb (O1 `PySem.Builtin.List.W1All `PySem.Builtin.gallop)
 `(tactic| delta $i)
theorem sM (left) (key) (arr) (base n hint):cH left key arr base n hint=(do
 let __x ← dF left key arr base hint
 match __x with
 | some right =>
  if right=true then do
   let __s ← zY (dF left key arr base) n hint (n - hint)
   match __s.fst with
   | some r=>pure r
   | none=>kP (dF left key arr base) n (hint+__s.snd.fst+1) (hint+min __s.snd.snd (n - hint))
  else do
   let __s ← zZ (dF left key arr base) n hint (hint+1)
   match __s.fst with
   | some r=>pure r
   | none=>kP (dF left key arr base) n (hint+1 - min __s.snd.snd (hint+1)) (hint - __s.snd.fst)
 | _=>pure none):=by
 unfold cH
 walk_at "dl gallop"
 unfold zY zZ kP dF
 dsimp only
 congr 1
 funext x
 cases x with
 | none=>rfl
 | some right =>
  dsimp only
  cases right with
  | true =>
   rw [if_pos rfl,if_pos rfl]
   congr 1
   funext c
   obtain ⟨r,l,o⟩:=c
   cases r with
   | some r=>rfl
   | none =>
    dsimp only
    congr 1
    funext c
    obtain ⟨r,l,o⟩:=c
    cases r <;> rfl
  | false =>
   rw [if_neg MV,if_neg MV]
   congr 1
   funext c
   obtain ⟨r,l,o⟩:=c
   cases r with
   | some r=>rfl
   | none =>
    dsimp only
    congr 1
    funext c
    obtain ⟨r,l,o⟩:=c
    cases r <;> rfl
section
noncomputable def iC (prog:Program) (w:World) (A:Around) (s:Shared) (κ:SortKind) (rk:Keyed→Int) (L:List Keyed):Prop :=
 ∀ x∈L,∀ y∈L,∀ (E:Value→Shared→Prop) (Q:Bool→Shared→Prop),Q (decide (rk x<rk y)) s→wpAny (model prog w) A (keyLt' κ x.1 y.1) Q E s
noncomputable def R (rk:Keyed→Int) (xs:Array Keyed) (i:Nat):Int:=match xs[i]? with | some p=>rk p | none=>0
theorem dG (h:xs[i]?=some p):R rk xs i=rk p:=by unfold R; rw [h]
theorem bY (h:xs[i]?=ys[j]?):R rk xs i=R rk ys j:=by unfold R; rw [h]
theorem kQ {st:SortSt} (hC:iC prog w A s κ rk L) (hk:kindOf st=κ) (hx:x∈L) (hy:y∈L) (h:Q (some (decide (rk x<rk y))) st):wpS (model prog w) A E s (lt' x y) Q st:=by
 rw [lt'_eq]
 refine MK (Od ?_)
 rw [hk]
 refine MK (OY (OR (hC x hx y hy _ _ ⟨rfl,?_⟩)))
 exact MM h
theorem aN {st:SortSt} (hi:arr[i]?=some p) (h:Q p st):wpS (model prog w) A E s (elem' arr i) Q st:=by
 rw [elem'_eq,hi]; exact MM h
theorem wR {st:SortSt} (hC:iC prog w A s κ rk L) (hk:kindOf st=κ) (hi:(arrOf st)[i]?=some p) (hj:(arrOf st)[j]?=some q) (hp:p∈L) (hq:q∈L)
 (h:Q (some (decide (R rk (arrOf st) i<R rk (arrOf st) j))) st):wpS (model prog w) A E s (ltAt' i j) Q st:=by
 rw [ltAt'_eq]
 refine MK (Od ?_)
 show wpS _ _ _ _ (do let x ← elem' (arrOf st) i; let y ← elem' (arrOf st) j; lt' x y) Q st
 refine MK (aN hi (MK (aN hj (kQ hC hk hp hq ?_))))
 rw [dG hi,dG hj] at h
 exact h
theorem sN {st:SortSt} (hC:iC prog w A s κ rk L) (hk:kindOf st=κ) (hkey:key∈L) (hi:arr[base+i]?=some p) (hp:p∈L)
 (hb:(if left=true then rk p<rk key else rk p≤rk key)↔i<k) (h:Q (some (decide (i<k))) st):wpS (model prog w) A E s (dF left key arr base i) Q st:=by
 unfold dF
 refine MK (aN hi ?_)
 cases left with
 | true =>
  simp only [if_true] at hb ⊢
  refine kQ hC hk hp hkey ?_
  rw [decide_eq_decide.mpr hb]; exact h
 | false =>
  simp only [ND,if_false] at hb ⊢
  refine MK (kQ hC hk hkey hp (MM ?_))
  have e:(!decide (rk key<rk p))=decide (i<k):=by
   rw [← decide_not]; exact decide_eq_decide.mpr (by rw [← hb]; omega)
  rw [Option.map_some,e]; exact h
theorem kR {st:SortSt} {n lo hi k:Nat} (hb:∀ i,i<n→∀ (Q:Option Bool→SortSt→Prop),Q (some (decide (i<k))) st→wpS (model prog w) A E s (bey i) Q st)
 (h1:lo≤k) (h2:k≤hi) (h3:hi≤n) (h:Q (some k) st):wpS (model prog w) A E s (kP bey n lo hi) Q st:=by
 unfold kP
 refine MK (Np (NS (I:=fun x c st'=>st'=st∧∃ l r,c=(none,l,r)∧l≤k∧k≤r∧r≤n∧r - l≤n - x) (Q:=fun c st'=>st'=st∧∃ l,c=(none,l,k)) ?step ?fin ⟨rfl,lo,hi,rfl,h1,h2,h3,by omega⟩) ?post)
 case fin =>
  rintro c st' ⟨rfl,l,r,rfl,a1,a2,a3,a4⟩
  have:r=k:=by omega
  subst this
  exact ⟨rfl,l,rfl⟩
 case step =>
  rintro x c st' _ hx ⟨rfl,l,r,rfl,a1,a2,a3,a4⟩
  dsimp only
  by_cases hge:l≥r
  ·rw [if_pos hge]
   have:r=k:=by omega
   subst this
   exact MM ⟨rfl,l,rfl⟩
  ·rw [if_neg hge]
   refine MK (hb _ (by omega) _ ?_)
   dsimp only
   by_cases hm:l+(r - l) / 2<k
   ·rw [decide_eq_true hm,if_pos rfl]
    exact MM ⟨rfl,_,_,rfl,by omega,by omega,by omega,by omega⟩
   ·rw [decide_eq_false hm,if_neg MV]
    exact MM ⟨rfl,_,_,rfl,by omega,by omega,by omega,by omega⟩
 case post =>
  rintro c st' ⟨rfl,l,rfl⟩
  exact MM h
theorem fc {st:SortSt} (hC:iC prog w A s κ rk L) (hk:kindOf st=κ) (hkey:key∈L) (harr:∀ i,i<n→∃ p,arr[base+i]?=some p∧p∈L)
 (hb:∀ i,i<n→((if left=true then R rk arr (base+i)<rk key else R rk arr (base+i)≤rk key)↔i<k)) (hkn:k≤n) (hh:hint<n) (h:Q (some k) st):wpS (model prog w) A E s (cH left key arr base n hint) Q st:=by
 have bey:∀ i,i<n→∀ (Q:Option Bool→SortSt→Prop),Q (some (decide (i<k))) st→wpS (model prog w) A E s (dF left key arr base i) Q st:=fun i hi Q hQ=>by
  obtain ⟨p,e,hp⟩:=harr i hi
  refine sN hC hk hkey e hp ?_ hQ
  have:=hb i hi
  rw [dG e] at this
  exact this
 rw [sM]
 refine MK (bey hint hh _ ?_)
 dsimp only
 by_cases hr:hint<k
 ·rw [decide_eq_true hr,if_pos rfl]
  unfold zY
  refine MK (Np (NS (I:=fun x c st'=>st'=st∧∃ l o,c=(none,l,o)∧hint+l<k∧x<o) (Q:=fun c st'=>st'=st∧∃ l o,c=(none,l,o)∧hint+l<k∧(k≤hint+o∨n - hint≤o)) ?step ?fin ⟨rfl,0,1,rfl,hr,by omega⟩) ?post)
  case fin =>
   rintro c st' ⟨rfl,l,o,rfl,a1,a2⟩
   exact ⟨rfl,l,o,rfl,a1,.inr (by omega)⟩
  case step =>
   rintro x c st' _ hx ⟨rfl,l,o,rfl,a1,a2⟩
   dsimp only
   by_cases hge:o≥n - hint
   ·rw [if_pos hge]; exact MM ⟨rfl,l,o,rfl,a1,.inr hge⟩
   ·rw [if_neg hge]
    refine MK (bey _ (by omega) _ ?_)
    dsimp only
    by_cases hm:hint+o<k
    ·rw [decide_eq_true hm]; simp only [Qn,ND,if_false]
     exact MM ⟨rfl,o,2 * o+1,rfl,hm,by omega⟩
    ·rw [decide_eq_false hm]; simp only [Bool.not_false,if_true]
     exact MM ⟨rfl,l,o,rfl,a1,.inl (by omega)⟩
  case post =>
   rintro c st' ⟨rfl,l,o,rfl,a1,a2⟩
   dsimp only
   exact kR bey (by omega) (by omega) (by omega) h
 ·rw [decide_eq_false hr,if_neg MV]
  unfold zZ
  refine MK (Np (NS (I:=fun x c st'=>st'=st∧∃ l o,c=(none,l,o)∧l≤hint∧k≤hint - l∧x<o) (Q:=fun c st'=>st'=st∧∃ l o,c=(none,l,o)∧l≤hint∧k≤hint - l∧(hint+1≤k+o∨hint+1≤o)) ?step ?fin ⟨rfl,0,1,rfl,by omega,by omega,by omega⟩) ?post)
  case fin =>
   rintro c st' ⟨rfl,l,o,rfl,a1,a2,a3⟩
   exact ⟨rfl,l,o,rfl,a1,a2,.inr (by omega)⟩
  case step =>
   rintro x c st' _ hx ⟨rfl,l,o,rfl,a1,a2,a3⟩
   dsimp only
   by_cases hge:o≥hint+1
   ·rw [if_pos hge]; exact MM ⟨rfl,l,o,rfl,a1,a2,.inr hge⟩
   ·rw [if_neg hge]
    refine MK (bey _ (by omega) _ ?_)
    dsimp only
    by_cases hm:hint - o<k
    ·rw [decide_eq_true hm,if_pos rfl]
     exact MM ⟨rfl,l,o,rfl,a1,a2,.inl (by omega)⟩
    ·rw [decide_eq_false hm,if_neg MV]
     exact MM ⟨rfl,o,2 * o+1,rfl,by omega,by omega,by omega⟩
  case post =>
   rintro c st' ⟨rfl,l,o,rfl,a1,a2,a3⟩
   dsimp only
   exact kR bey (by omega) (by omega) (by omega) h
end
noncomputable def kT:Array Keyed→Array Keyed→StateT SortSt Sem (Array Keyed):=sortPriv% PySem.Builtin.mergeLo
theorem ff {st:SortSt} (h:Q () (OW (kindOf st) (arrOf st) (pendingOf st) g (failedOf st))):wpS M A E s (cz g) Q st :=
 Ot (f:=fun st=>OW (kindOf st) (arrOf st) (pendingOf st) g (failedOf st)) h
section
variable {rk:Keyed→Int} {a b:Array Keyed}
noncomputable def z0 (rk:Keyed→Int) (xs:List Keyed):Prop:=xs.Pairwise fun p q=>rk p≤rk q
theorem uY (h:xs.length≤1):z0 rk xs:=by
 cases xs with
 | nil=>exact Qa
 | cons x xs =>
  cases xs with
  | nil=>exact Pr _ _
  | cons y ys=>simp at h
noncomputable def Res (rk:Keyed→Int) (a b r:Array Keyed):Prop:=r.toList.Perm (a.toList++b.toList)∧z0 rk r.toList
structure WL (rk:Keyed→Int) (a b:Array Keyed) (out:Array Keyed) (ia ib:Nat):Prop where
 pa:ia≤a.size
 pb:ib≤b.size
 pm:out.toList.Perm (a.toList.take ia++b.toList.take ib)
 sr:z0 rk out.toList
 ha:∀ p∈out.toList,∀ (j:Nat) (q:Keyed),ia≤j→a[j]?=some q→rk p≤rk q
 hb:∀ p∈out.toList,∀ (j:Nat) (q:Keyed),ib≤j→b[j]?=some q→rk p≤rk q
noncomputable def Up (rk:Keyed→Int) (a:Array Keyed):Prop:=∀ (i j:Nat) (p q:Keyed),i≤j→a[i]?=some p→a[j]?=some q→rk p≤rk q
theorem ji (h:Up rk a):z0 rk a.toList:=by
 unfold z0
 rw [RE]
 intro i j hi hj hij
 exact h i j _ _ (OU hij) (by simp at hi ⊢) (by simp at hj ⊢)
theorem G4 (h:z0 rk a.toList):Up rk a:=fun i j p q hij e1 e2=>by
 rw [← NB] at e1 e2
 obtain ⟨h1,r1⟩:=MU.mp e1
 obtain ⟨h2,r2⟩:=MU.mp e2
 subst r1 r2
 rcases Nat.lt_or_eq_of_le hij with z | z
 ·exact (RE.mp h) i j h1 h2 z
 ·subst z; exact N5 _
theorem bK (h1:z0 rk xs) (h2:z0 rk ys) (h3:∀ p∈xs,∀ q∈ys,rk p≤rk q):z0 rk (xs++ys):=List.pairwise_append.mpr ⟨h1,h2,h3⟩
theorem dM (xs:Array Keyed) (i j):(xs.extract i j).toList=(xs.toList.take j).drop i:=by
 rw [List.drop_take]; simp [List.extract_eq_take_drop]
theorem gz (xs:Array Keyed) (i):(xs.extract i xs.size).toList=xs.toList.drop i:=by
 rw [dM,P4 (by simp)]
theorem iR (xs:Array Keyed) (i):(xs.extract i i).toList=[]:=by
 rw [dM,List.drop_take]; simp
theorem uZ {xs:Array Keyed} (h:q∈(xs.extract i j).toList):∃ k,i≤k∧k<j∧xs[k]?=some q:=by
 obtain ⟨n,hn⟩:=Pw h
 rw [NB,QL] at hn
 split at hn
 ·rename_i z
  exact ⟨i+n,by lia,by lia,hn⟩
 ·cases hn
theorem WL.jj (h:WL rk a b out ia ib) (ua:Up rk a) (e:ib=b.size):Res rk a b (out++a.extract ia a.size++b.extract ib b.size):=by
 subst e
 have e0:(out++a.extract ia a.size++b.extract b.size b.size).toList=out.toList++a.toList.drop ia:=by
  rw [NZ,NZ,gz,gz,List.drop_of_length_le (show b.toList.length≤b.size by simp),NR]
 refine ⟨?_,?_⟩
 ·rw [e0]
  have hp:=h.pm
  rw [P4 (show b.toList.length≤b.size by simp)] at hp
  refine (hp.append_right _).trans ?_
  have:(a.toList.take ia++b.toList++a.toList.drop ia).Perm (a.toList.take ia++a.toList.drop ia++b.toList):=by
   rw [Nb,Nb]
   exact Pu _ O2
  rw [Oi] at this
  exact this
 ·rw [e0]
  refine bK h.sr ((ji ua).sublist (Sg _ _)) fun p hp q hq=>?_
  obtain ⟨n,hn⟩:=Pw hq
  rw [PB] at hn
  exact h.ha p hp (ia+n) q (by lia) (by rw [← NB]; exact hn)
theorem WL.jk (h:WL rk a b out ia ib) (ub:Up rk b) (e:ia=a.size):Res rk a b (out++a.extract ia a.size++b.extract ib b.size):=by
 subst e
 have e0:(out++a.extract a.size a.size++b.extract ib b.size).toList=out.toList++b.toList.drop ib:=by
  rw [NZ,NZ,gz,gz,List.drop_of_length_le (show a.toList.length≤a.size by simp),NR]
 refine ⟨?_,?_⟩
 ·rw [e0]
  have hp:=h.pm
  rw [P4 (show a.toList.length≤a.size by simp)] at hp
  refine (hp.append_right _).trans ?_
  rw [Nb,Oi]
 ·rw [e0]
  refine bK h.sr ((ji ub).sublist (Sg _ _)) fun p hp q hq=>?_
  obtain ⟨n,hn⟩:=Pw hq
  rw [PB] at hn
  exact h.hb p hp (ib+n) q (by lia) (by rw [← NB]; exact hn)
theorem WL.last (h:WL rk a b out ia ib) (ub:Up rk b) (e:ia+1=a.size) (hl:∀ (j:Nat) (p q:Keyed),a[ia]?=some p→b[j]?=some q→rk q≤rk p) :
 Res rk a b (out++b.extract ib b.size++a.extract ia a.size):=by
 have e0:(out++b.extract ib b.size++a.extract ia a.size).toList=out.toList++(b.toList.drop ib++a.toList.drop ia):=by
  rw [NZ,NZ,gz,gz,Nb]
 refine ⟨?_,?_⟩
 ·rw [e0]
  refine (h.pm.append_right _).trans ?_
  have:(a.toList.take ia++b.toList.take ib++(b.toList.drop ib++a.toList.drop ia)).Perm (a.toList.take ia++a.toList.drop ia++(b.toList.take ib++b.toList.drop ib)):=by
   rw [Nb,Nb]
   refine Pu _ ?_
   rw [← Nb]
   exact O2
  rw [Oi,Oi] at this
  exact this
 ·rw [e0]
  have ml:∀ q∈b.toList.drop ib,∃ j,ib≤j∧b[j]?=some q:=fun q hq=>by
   obtain ⟨n,hn⟩:=Pw hq
   rw [PB] at hn
   exact ⟨ib+n,by lia,by rw [← NB]; exact hn⟩
  have ml2:∀ q∈a.toList.drop ia,a[ia]?=some q:=fun q hq=>by
   obtain ⟨n,hn⟩:=Pw hq
   rw [PB] at hn
   have:=(MU.mp hn).1
   have hn0:n=0:=by simp at this; lia
   subst hn0
   rw [← NB]; exact hn
  refine bK h.sr (bK ((ji ub).sublist (Sg _ _)) ?_ fun p hp q hq=>?_) fun p hp q hq=>?_
  ·exact uY (by simp; lia)
  ·obtain ⟨j,_,e1⟩:=ml p hp
   exact hl j q p (ml2 q hq) e1
  ·rcases Ng.mp hq with z | z
   ·obtain ⟨j,h1,e1⟩:=ml q z
    exact h.hb p hp j q h1 e1
   ·exact h.ha p hp ia q (ML _) (ml2 q z)
theorem cI {xs:Array Keyed} (h:xs[i]?=some p):xs.toList.take (i+1)=xs.toList.take i++[p]:=by
 rw [Se,NB,h]; rfl
theorem WL.fO {out:Array Keyed} {ia ib:Nat} {p:Keyed} (h:WL rk a b out ia ib) (ub:Up rk b) (e:b[ib]?=some p) (hl:∀ (j:Nat) (q:Keyed),ia≤j→a[j]?=some q→rk p≤rk q):WL rk a b (out.push p) ia (ib+1) where
 pa:=h.pa
 pb:=(Pp.mp e).1
 pm:=by
  rw [Nq,cI e,← Nb]
  exact h.pm.append_right _
 sr:=by
  rw [Nq]
  exact bK h.sr (Pr _ _) fun q hq r hr=>by
   rw [M4.mp hr]; exact h.hb q hq ib p (ML _) e
 ha:=fun q hq j r hj er=>by
  rw [Nq] at hq
  rcases Ng.mp hq with z | z
  ·exact h.ha q z j r hj er
  ·rw [M4.mp z]; exact hl j r hj er
 hb:=fun q hq j r hj er=>by
  rw [Nq] at hq
  rcases Ng.mp hq with z | z
  ·exact h.hb q z j r (by lia) er
  ·rw [M4.mp z]; exact ub ib j p r (by lia) e er
theorem WL.fP {out:Array Keyed} {ia ib:Nat} {p:Keyed} (h:WL rk a b out ia ib) (ua:Up rk a) (e:a[ia]?=some p) (hl:∀ (j:Nat) (q:Keyed),ib≤j→b[j]?=some q→rk p≤rk q):WL rk a b (out.push p) (ia+1) ib where
 pa:=(Pp.mp e).1
 pb:=h.pb
 pm:=by
  rw [Nq,cI e]
  refine (h.pm.append_right _).trans ?_
  rw [Nb,Nb]
  exact Pu _ O2
 sr:=by
  rw [Nq]
  exact bK h.sr (Pr _ _) fun q hq r hr=>by
   rw [M4.mp hr]; exact h.ha q hq ia p (ML _) e
 hb:=fun q hq j r hj er=>by
  rw [Nq] at hq
  rcases Ng.mp hq with z | z
  ·exact h.hb q z j r hj er
  ·rw [M4.mp z]; exact hl j r hj er
 ha:=fun q hq j r hj er=>by
  rw [Nq] at hq
  rcases Ng.mp hq with z | z
  ·exact h.ha q z j r (by lia) er
  ·rw [M4.mp z]; exact ua ia j p r (by lia) e er
theorem WL.ql (h:WL rk a b out ia ib) (ua:Up rk a):∀ (k:Nat),ia+k≤a.size→(∀ (i j:Nat) (p q:Keyed),ia≤i→i<ia+k→ib≤j→a[i]?=some p→b[j]?=some q→rk p≤rk q)→WL rk a b (out++a.extract ia (ia+k)) (ia+k) ib
 | 0,_,_=>by
  have:out++a.extract ia (ia+0)=out:=by
   apply OX
   rw [NZ,Nat.add_zero,iR,NR]
  rw [this]; exact h
 | k+1,hk,hl=>by
  have ih:=h.ql ua k (by lia) fun i j p q h1 h2=>hl i j p q h1 (by lia)
  have e:a[ia+k]?=some (a[ia+k]'(by lia)):=Nf _
  have z:=ih.fP ua e fun j q hj eq=>hl _ j _ q (by lia) (by lia) hj e eq
  have:out++a.extract ia (ia+(k+1))=(out++a.extract ia (ia+k)).push (a[ia+k]'(by lia)):=by
   apply OX
   simp only [NZ,Nq,dM]
   rw [show ia+(k+1)=(ia+k)+1 by lia,cI e,SE (by simp; lia),Nb]
  rw [this]; exact z
theorem WL.qm (h:WL rk a b out ia ib) (ub:Up rk b):∀ (k:Nat),ib+k≤b.size→(∀ (i j:Nat) (p q:Keyed),ib≤i→i<ib+k→ia≤j→b[i]?=some p→a[j]?=some q→rk p≤rk q)→WL rk a b (out++b.extract ib (ib+k)) ia (ib+k)
 | 0,_,_=>by
  have:out++b.extract ib (ib+0)=out:=by
   apply OX
   rw [NZ,Nat.add_zero,iR,NR]
  rw [this]; exact h
 | k+1,hk,hl=>by
  have ih:=h.qm ub k (by lia) fun i j p q h1 h2=>hl i j p q h1 (by lia)
  have e:b[ib+k]?=some (b[ib+k]'(by lia)):=Nf _
  have z:=ih.fO ub e fun j q hj eq=>hl _ j _ q (by lia) (by lia) hj e eq
  have:out++b.extract ib (ib+(k+1))=(out++b.extract ib (ib+k)).push (b[ib+k]'(by lia)):=by
   apply OX
   simp only [NZ,Nq,dM]
   rw [show ib+(k+1)=(ib+k)+1 by lia,cI e,SE (by simp; lia),Nb]
  rw [this]; exact z
end
section
variable {prog:Program} {w:World} {A:Around} {E:Value→Shared→Prop} {s:Shared} {L:List Keyed} {κ:SortKind} {rk:Keyed→Int} {a b:Array Keyed}
theorem kU (f:Nat→Int) (c):∀ n,(∀ i j,i≤j→j<n→f i≤f j)→∃ k,k≤n∧∀ i,i<n→(f i≤c↔i<k)
 | 0,_=>⟨0,ML _,fun i hi=>by lia⟩
 | n+1,hm=>by
  obtain ⟨k,h1,h2⟩:=kU f c n fun i j hij hj=>hm i j hij (by lia)
  by_cases hc:f n≤c
  ·refine ⟨n+1,ML _,fun i hi=>⟨fun _=>hi,fun _=>?_⟩⟩
   exact Nm (hm i n (by lia) (by lia)) hc
  ·refine ⟨k,by lia,fun i hi=>?_⟩
   by_cases hin:i<n
   ·exact h2 i hin
   ·have:i=n:=by lia
    subst this
    exact ⟨fun z=>absurd z hc,fun z=>by lia⟩
theorem kW (f:Nat→Int) (c):∀ n,(∀ i j,i≤j→j<n→f i≤f j)→∃ k,k≤n∧∀ i,i<n→(f i<c↔i<k)
 | 0,_=>⟨0,ML _,fun i hi=>by lia⟩
 | n+1,hm=>by
  obtain ⟨k,h1,h2⟩:=kW f c n fun i j hij hj=>hm i j hij (by lia)
  by_cases hc:f n<c
  ·refine ⟨n+1,ML _,fun i hi=>⟨fun _=>hi,fun _=>?_⟩⟩
   exact QZ (hm i n (by lia) (by lia)) hc
  ·refine ⟨k,by lia,fun i hi=>?_⟩
   by_cases hin:i<n
   ·exact h2 i hin
   ·have:i=n:=by lia
    subst this
    exact ⟨fun z=>absurd z hc,fun z=>by lia⟩
theorem J8 (h:Up rk a) (hij:i≤j) (hj:j<a.size):R rk a i≤R rk a j:=by
 have e1:a[i]?=some (a[i]'(by lia)):=Nf _
 have e2:a[j]?=some a[j]:=Nf _
 rw [dG e1,dG e2]
 exact h i j _ _ hij e1 e2
structure cJ (st st':SortSt):Prop where
 k:kindOf st'=kindOf st
 a:arrOf st'=arrOf st
 p:pendingOf st'=pendingOf st
 f:failedOf st'=failedOf st
theorem cJ.refl (st:SortSt):cJ st st:=⟨rfl,rfl,rfl,rfl⟩
theorem cJ.min {st st':SortSt} (h:cJ st st') (g):cJ st (OW (kindOf st') (arrOf st') (pendingOf st') g (failedOf st')):=⟨h.k,h.a,h.p,h.f⟩
theorem cJ.trans (h:cJ s1 s2) (g:cJ s2 s3):cJ s1 s3:=⟨g.k.trans h.k,g.a.trans h.a,g.p.trans h.p,g.f.trans h.f⟩
theorem qo {st:SortSt} (hC:iC prog w A s κ rk L) (hk:kindOf st=κ) (hkey:key∈L) (mx:∀ (i:Nat) (p:Keyed),xs[i]?=some p→p∈L) (ux:Up rk xs) (n) (hn:base+n≤xs.size) (hh:hint<n)
 (h:∀ k,k≤n→(∀ (i:Nat) (p:Keyed),i<k→xs[base+i]?=some p→rk p≤rk key)→(∀ (i:Nat) (p:Keyed),k≤i→base+i<base+n→xs[base+i]?=some p→rk key<rk p)→Q (some k) st) :
 wpS (model prog w) A E s (cH false key xs base n hint) Q st:=by
 obtain ⟨k,h1,h2⟩:=kU (fun i=>R rk xs (base+i)) (rk key) n fun i j hij hj=>J8 ux (by lia) (by lia)
 refine fc hC hk hkey (fun i hi=>⟨xs[base+i]'(by lia),Nf _,mx _ _ (Nf _)⟩) (fun i hi=>by simp only [ND,if_false]; exact h2 i hi) h1 hh (h k h1 (fun i p hi e=>?_) fun i p hi hb e=>?_)
 ·have:=(h2 i (by lia)).mpr hi
  rw [dG e] at this; exact this
 ·have:=mt (h2 i (by lia)).mp (by lia)
  rw [dG e] at this; lia
theorem qp {st:SortSt} (hC:iC prog w A s κ rk L) (hk:kindOf st=κ) (hkey:key∈L) (mx:∀ (i:Nat) (p:Keyed),xs[i]?=some p→p∈L) (ux:Up rk xs) (n) (hn:base+n≤xs.size) (hh:hint<n)
 (h:∀ k,k≤n→(∀ (i:Nat) (p:Keyed),i<k→xs[base+i]?=some p→rk p<rk key)→(∀ (i:Nat) (p:Keyed),k≤i→base+i<base+n→xs[base+i]?=some p→rk key≤rk p)→Q (some k) st) :
 wpS (model prog w) A E s (cH true key xs base n hint) Q st:=by
 obtain ⟨k,h1,h2⟩:=kW (fun i=>R rk xs (base+i)) (rk key) n fun i j hij hj=>J8 ux (by lia) (by lia)
 refine fc hC hk hkey (fun i hi=>⟨xs[base+i]'(by lia),Nf _,mx _ _ (Nf _)⟩) (fun i hi=>by simp only [if_true]; exact h2 i hi) h1 hh (h k h1 (fun i p hi e=>?_) fun i p hi hb e=>?_)
 ·have:=(h2 i (by lia)).mpr hi
  rw [dG e] at this; exact this
 ·have:=mt (h2 i (by lia)).mp (by lia)
  rw [dG e] at this; lia
structure lW (rk:Keyed→Int) (a b out:Array Keyed) (ia ib:Nat):Prop where
 w:WL rk a b out ia ib
 la:ia+1<a.size
 lb:ib<b.size
end
section
local macro_rules | `(tactic| walk_at "dl mergeLo")=>do
 let i:=Pb (O1 `PySem.Builtin.List.W1All `PySem.Builtin.mergeLo)
 `(tactic| delta $i)
noncomputable abbrev Aa:=Option (Array Keyed)×Array Keyed×Nat×Nat×Nat×Nat×Nat
noncomputable def E8 (a b out:Array Keyed) (ia ib:Nat):Array Keyed:=out++a.extract ia a.size++b.extract ib b.size
noncomputable def Cn (a b out:Array Keyed) (ia ib:Nat):Array Keyed:=out++b.extract ib b.size++a.extract ia a.size
noncomputable def u0 (a b:Array Keyed) (mg ac bc ia ib:Nat) (out:Array Keyed):StateT SortSt Sem (ForInStep Aa):=do
 let p ← elem' a ia
 if (ia+1+1 == a.size)=true then pure (.done (some (Cn a b (out.push p) (ia+1) ib),out.push p,ia+1,ib,mg,ac,bc))
 else if (decide (ac<7) && decide (bc<7))=true then pure (.done (none,out.push p,ia+1,ib,mg,ac,bc))
 else pure (.yield (none,out.push p,ia+1,ib,mg,ac,bc))
noncomputable def u5 (a b:Array Keyed) (mg ac bc ia ib:Nat) (out:Array Keyed):StateT SortSt Sem (ForInStep Aa):=do
 let q ← elem' b ib
 if (ib+1 == b.size)=true then pure (.done (some (E8 a b (out.push q) ia (ib+1)),out.push q,ia,ib+1,mg,ac,bc))
 else do
  let p ← elem' a ia
  let x ← cH true p b (ib+1) (b.size - (ib+1)) 0
  match x with
  | some k=>(if k>0 then
   (if (ib+1+k == b.size)=true then pure (.done (some (E8 a b (out.push q++b.extract (ib+1) (ib+1+k)) ia (ib+1+k)),out.push q++b.extract (ib+1) (ib+1+k),ia,ib+1+k,mg,ac,k))
    else u0 a b mg ac k ia (ib+1+k) (out.push q++b.extract (ib+1) (ib+1+k)))
   else u0 a b mg ac k ia (ib+1) (out.push q))
  | _=>pure (.done (some (E8 a b (out.push q) ia (ib+1)),out.push q,ia,ib+1,mg,ac,bc))
noncomputable def u6 (a b:Array Keyed) (mg ac bc ia ib:Nat) (out:Array Keyed):StateT SortSt Sem (ForInStep Aa):=do
 cz mg
 let q ← elem' b ib
 let x ← cH false q a ia (a.size - ia) 0
 match x with
 | some k=>(if k>0 then
  (if (ia+k+1 == a.size)=true then pure (.done (some (Cn a b (out++a.extract ia (ia+k)) (ia+k) ib),out++a.extract ia (ia+k),ia+k,ib,mg,k,bc))
   else if (ia+k == a.size)=true then pure (.done (some (E8 a b (out++a.extract ia (ia+k)) (ia+k) ib),out++a.extract ia (ia+k),ia+k,ib,mg,k,bc))
   else u5 a b mg k bc (ia+k) ib (out++a.extract ia (ia+k)))
  else u5 a b mg k bc ia ib out)
 | _=>pure (.done (some (E8 a b out ia ib),out,ia,ib,mg,ac,bc))
noncomputable def Ab (a b:Array Keyed) (c:Aa):StateT SortSt Sem (ForInStep Aa) :=
 if c.2.2.2.2.1>1 then u6 a b (c.2.2.2.2.1 - 1) c.2.2.2.2.2.1 c.2.2.2.2.2.2 c.2.2.1 c.2.2.2.1 c.2.1 else u6 a b c.2.2.2.2.1 c.2.2.2.2.2.1 c.2.2.2.2.2.2 c.2.2.1 c.2.2.2.1 c.2.1
noncomputable abbrev G5:=Option (Array Keyed)×Array Keyed×Nat×Nat×Nat×Nat
noncomputable def Ac (a b:Array Keyed) (mg:Nat) (c:G5):StateT SortSt Sem (ForInStep G5):=do
 let q ← elem' b c.2.2.2.1
 let p ← elem' a c.2.2.1
 let x ← lt' q p
 match x with
 | some y=>(if y=true then (do
  let q ← elem' b c.2.2.2.1
  if (c.2.2.2.1+1 == b.size)=true then pure (.done (some (E8 a b (c.2.1.push q) c.2.2.1 (c.2.2.2.1+1)),c.2.1.push q,c.2.2.1,c.2.2.2.1+1,0,c.2.2.2.2.2+1))
  else if c.2.2.2.2.2+1≥mg then pure (.done (none,c.2.1.push q,c.2.2.1,c.2.2.2.1+1,0,c.2.2.2.2.2+1))
  else pure (.yield (none,c.2.1.push q,c.2.2.1,c.2.2.2.1+1,0,c.2.2.2.2.2+1)))
  else (do
   let p ← elem' a c.2.2.1
   if (c.2.2.1+1+1 == a.size)=true then pure (.done (some (Cn a b (c.2.1.push p) (c.2.2.1+1) c.2.2.2.1),c.2.1.push p,c.2.2.1+1,c.2.2.2.1,c.2.2.2.2.1+1,0))
   else if c.2.2.2.2.1+1≥mg then pure (.done (none,c.2.1.push p,c.2.2.1+1,c.2.2.2.1,c.2.2.2.2.1+1,0))
   else pure (.yield (none,c.2.1.push p,c.2.2.1+1,c.2.2.2.1,c.2.2.2.2.1+1,0))))
 | _=>pure (.done (some (E8 a b c.2.1 c.2.2.1 c.2.2.2.1),c.2.1,c.2.2.1,c.2.2.2.1,c.2.2.2.2.1,c.2.2.2.2.2))
noncomputable abbrev DA:=Option (Array Keyed)×Array Keyed×Nat×Nat×Nat
noncomputable def oh (a b:Array Keyed) (c:DA):StateT SortSt Sem (ForInStep DA):=do
 let s ← forIn [:a.size+b.size] ((none,c.2.1,c.2.2.1,c.2.2.2.1,0,0):G5) fun _ s=>Ac a b c.2.2.2.2 s
 match s.1 with
 | some r=>pure (.done (some r,s.2.1,s.2.2.1,s.2.2.2.1,c.2.2.2.2))
 | none=>do
  liftM (rule "list.sort.gallop")
  let t ← forIn [:a.size+b.size] ((none,s.2.1,s.2.2.1,s.2.2.2.1,c.2.2.2.2+1,s.2.2.2.2.1,s.2.2.2.2.2):Aa) fun _ t=>Ab a b t
  match t.1 with
  | some r=>pure (.done (some r,t.2.1,t.2.2.1,t.2.2.2.1,t.2.2.2.2.1))
  | none=>do
   cz (t.2.2.2.2.1+1)
   pure (.yield (none,t.2.1,t.2.2.1,t.2.2.2.1,t.2.2.2.2.1+1))
theorem qt (a b):kT a b=(do
 liftM (rule "list.sort.merge-lo")
 let p ← elem' b 0
 if (1 == b.size)=true then pure (E8 a b #[p] 0 1)
 else if (0+1 == a.size)=true then pure (Cn a b #[p] 0 1)
 else do
  let st ← get
  let s ← forIn [:a.size+b.size] ((none,#[p],0,1,gallopOf st):DA) fun _ c=>oh a b c
  match s.1 with
  | some r=>pure r
  | none=>liftM (unsupported (α:=Array Keyed) "internal:list.sort.merge-bound")):=by
 unfold kT
 walk_at "dl mergeLo"
 dsimp only
 refine congrArg _ (funext fun _=>?_)
 refine congrArg _ (funext fun p=>?_)
 refine congrArg _ (congrArg _ ?_)
 refine congrArg _ (funext fun st=>?_)
 have e:∀ (f g:Nat→DA→StateT SortSt Sem (ForInStep DA)) (c:DA) (k:DA→StateT SortSt Sem (Array Keyed)),f=g→(forIn [:a.size+b.size] c f >>= k)=(forIn [:a.size+b.size] c g >>= k):=fun _ _ _ _ h=>by rw [h]
 refine (e _ _ _ _ (funext fun _=>funext fun c=>?_)).trans (congrArg _ (funext fun s=>?_))
 ·obtain ⟨o,out,ia,ib,mg⟩:=c
  unfold oh
  dsimp only
  have e2:∀ (f g:Nat→G5→StateT SortSt Sem (ForInStep G5)) (c:G5) (k l:G5→StateT SortSt Sem (ForInStep DA)),f=g→k=l→(forIn [:a.size+b.size] c f >>= k)=(forIn [:a.size+b.size] c g >>= l):=fun _ _ _ _ _ h h2=>by rw [h,h2]
  refine e2 _ _ _ _ _ (funext fun _=>funext fun c=>?_) (funext fun s=>?_)
  ·rfl
  ·obtain ⟨o,out,ia,ib,ac,bc⟩:=s
   cases o with
   | some r=>rfl
   | none =>
    dsimp only
    refine congrArg _ (funext fun _=>?_)
    have e3:∀ (f g:Nat→Aa→StateT SortSt Sem (ForInStep Aa)) (c:Aa) (k l:Aa→StateT SortSt Sem (ForInStep DA)),f=g→k=l→(forIn [:a.size+b.size] c f >>= k)=(forIn [:a.size+b.size] c g >>= l):=fun _ _ _ _ _ h h2=>by rw [h,h2]
    refine e3 _ _ _ _ _ (funext fun _=>funext fun c=>?_) (funext fun s=>?_)
    ·rfl
    ·obtain ⟨o,s⟩:=s
     cases o <;> rfl
 ·obtain ⟨o,s⟩:=s
  cases o <;> rfl
end
theorem some_at {xs:Array Keyed} (h:i<xs.size):∃ p,xs[i]?=some p:=⟨xs[i],Nf h⟩
section
noncomputable def DB (rk:Keyed→Int) (a b:Array Keyed) (n:Nat) (o:Option (Array Keyed)) (ia ib:Nat) (out:Array Keyed):Prop:=(∃ r,o=some r∧Res rk a b r)∨(o=none∧lW rk a b out ia ib∧n≤ia+ib)
noncomputable def DC (rk:Keyed→Int) (a b:Array Keyed) (n:Nat):ForInStep Aa→Prop
 | .done c=>DB rk a b n c.1 c.2.2.1 c.2.2.2.1 c.2.1
 | .yield c=>c.1=none∧lW rk a b c.2.1 c.2.2.1 c.2.2.2.1∧n≤c.2.2.1+c.2.2.2.1
theorem mT {st:SortSt} (lA:∀ {out:Array Keyed} {ia ib:Nat},WL rk a b out ia ib→ia+1=a.size→Res rk a b (Cn a b out ia ib)) (W:WL rk a b out ia ib) (ua:Up rk a) (la:ia+1<a.size) (lb:ib<b.size) (ep:a[ia]?=some p)
 (hl:∀ (j:Nat) (r:Keyed),ib≤j→b[j]?=some r→rk p≤rk r) (hn:n≤ia+1+ib) (hQ:∀ x,DC rk a b n x→Q x st):wpS (model prog w) A E s (u0 a b mg ac bc ia ib out) Q st:=by
 unfold u0
 have W4:=W.fP ua ep hl
 refine MK (aN ep ?_)
 by_cases e9:ia+1+1=a.size
 ·rw [if_pos (by simpa using e9)]
  exact MM (hQ _ (.inl ⟨_,rfl,lA W4 e9⟩))
 rw [if_neg (by simpa using e9)]
 have hL:lW rk a b (out.push p) (ia+1) ib:=⟨W4,Nat.lt_of_le_of_ne la e9,lb⟩
 split
 ·exact MM (hQ _ (.inr ⟨rfl,hL,hn⟩))
 ·exact MM (hQ _ ⟨rfl,hL,hn⟩)
theorem oi {xs:Array Keyed} {i j:Nat} (h:i≤j) (e:xs[j]?=some p):xs[i+(j - i)]?=some p:=by rw [RY h]; exact e
theorem mU {st:SortSt} (hC:iC prog w A s κ rk L) (hk:kindOf st=κ) (ma:∀ (i:Nat) (p:Keyed),a[i]?=some p→p∈L) (mb:∀ (i:Nat) (p:Keyed),b[i]?=some p→p∈L)
 (lA:∀ {out:Array Keyed} {ia ib:Nat},WL rk a b out ia ib→ia+1=a.size→Res rk a b (Cn a b out ia ib)) (W:WL rk a b out ia ib) (ua:Up rk a) (ub:Up rk b) (la:ia+1<a.size) (lb:ib<b.size) (eq:b[ib]?=some q)
 (hl:∀ (j:Nat) (r:Keyed),ia≤j→a[j]?=some r→rk q≤rk r) (hn:n≤ia+ib+2) (hQ:∀ x,DC rk a b n x→Q x st):wpS (model prog w) A E s (u5 a b mg ac bc ia ib out) Q st:=by
 unfold u5
 have W2:=W.fO ub eq hl
 refine MK (aN eq ?_)
 by_cases e5:ib+1=b.size
 ·rw [if_pos (by simpa using e5)]
  exact MM (hQ _ (.inl ⟨_,rfl,W2.jj ua e5⟩))
 rw [if_neg (by simpa using e5)]
 obtain ⟨p,ep⟩:=some_at (xs:=a) (i:=ia) (by lia)
 refine MK (aN ep ?_)
 refine MK (qp hC hk (ma _ _ ep) mb ub _ (by lia) (by lia) fun k hj1 hj2 hj3=>?_)
 dsimp only
 have W3:=W2.qm ub k (by lia) fun i j r p' z1 z2 z3 e6 e7=>Nm (OG (hj2 (i - (ib+1)) r (by lia) (oi z1 e6))) (ua ia j p p' z3 ep e7)
 have bwd:∀ (j:Nat) (r:Keyed),ib+1+k≤j→b[j]?=some r→rk p≤rk r:=fun j r hj e6=>hj3 (j - (ib+1)) r (by lia) (by have:=(Pp.mp e6).1; lia) (oi (MT (PF _ _) hj) e6)
 by_cases hj0:k>0
 ·rw [if_pos hj0]
  by_cases e8:ib+1+k=b.size
  ·rw [if_pos (by simpa using e8)]
   exact MM (hQ _ (.inl ⟨_,rfl,W3.jj ua e8⟩))
  rw [if_neg (by simpa using e8)]
  exact mT lA W3 ua la (by lia) ep bwd (by lia) hQ
 ·rw [if_neg hj0]
  exact mT lA W2 ua la (by lia) ep (fun j r hj e6=>bwd j r (by lia) e6) (by lia) hQ
theorem mV {st:SortSt} (hC:iC prog w A s κ rk L) (hk:kindOf st=κ) (ma:∀ (i:Nat) (p:Keyed),a[i]?=some p→p∈L) (mb:∀ (i:Nat) (p:Keyed),b[i]?=some p→p∈L)
 (lA:∀ {out:Array Keyed} {ia ib:Nat},WL rk a b out ia ib→ia+1=a.size→Res rk a b (Cn a b out ia ib)) (ua:Up rk a) (ub:Up rk b) (hL:lW rk a b out ia ib) (hn:n≤ia+ib) (hQ:∀ x st',cJ st st'→DC rk a b n x→Q x st') :
 wpS (model prog w) A E s (u6 a b mg ac bc ia ib out) Q st:=by
 unfold u6
 have W:=hL.w
 have la:=hL.la
 have lb:=hL.lb
 obtain ⟨q,eq⟩:=some_at (xs:=b) lb
 refine MK (ff ?_)
 have FA:=fun x=>hQ x _ ((cJ.refl st).min mg)
 refine MK (aN eq ?_)
 refine MK (qo hC (by exact hk) (mb _ _ eq) ma ua _ (by lia) (by lia) fun k hk1 hk2 hk3=>?_)
 dsimp only
 have Wk:=W.ql ua k (by lia) fun i j p r z1 z2 z3 e3 e4=>Nm (hk2 (i - ia) p (by lia) (oi z1 e3)) (ub ib j q r z3 eq e4)
 have fwd:∀ (j:Nat) (r:Keyed),ia+k≤j→a[j]?=some r→rk q≤rk r:=fun j r hj e3=>OG (hk3 (j - ia) r (by lia) (by have:=(Pp.mp e3).1; lia) (oi (MT (PF _ _) hj) e3))
 by_cases hk0:k>0
 ·rw [if_pos hk0]
  by_cases e3:ia+k+1=a.size
  ·rw [if_pos (by simpa using e3)]
   exact MM (FA _ (.inl ⟨_,rfl,lA Wk e3⟩))
  rw [if_neg (by simpa using e3)]
  by_cases e4:ia+k=a.size
  ·rw [if_pos (by simpa using e4)]
   exact MM (FA _ (.inl ⟨_,rfl,Wk.jk ub e4⟩))
  rw [if_neg (by simpa using e4)]
  exact mU hC (by exact hk) ma mb lA Wk ua ub (by lia) lb eq fwd (by lia) FA
 ·rw [if_neg hk0]
  exact mU hC (by exact hk) ma mb lA W ua ub la lb eq (fun j r hj e3=>fwd j r (by lia) e3) (by lia) FA
theorem wU {st:SortSt} (hC:iC prog w A s κ rk L) (hk:kindOf st=κ) (ma:∀ (i:Nat) (p:Keyed),a[i]?=some p→p∈L) (mb:∀ (i:Nat) (p:Keyed),b[i]?=some p→p∈L)
 (lA:∀ {out:Array Keyed} {ia ib:Nat},WL rk a b out ia ib→ia+1=a.size→Res rk a b (Cn a b out ia ib)) (ua:Up rk a) (ub:Up rk b) (hL:lW rk a b c.2.1 c.2.2.1 c.2.2.2.1) (hn:n≤c.2.2.1+c.2.2.2.1+1)
 (hQ:∀ o ia ib out z y,DB rk a b n o ia ib out→Q (.done (o,out,ia,ib,z)) st∧(o=none→Q (.yield (none,out,ia,ib,y)) st)):wpS (model prog w) A E s (Ac a b mg c) Q st:=by
 obtain ⟨_,out,ia,ib,ac,bc⟩:=c
 unfold Ac
 dsimp only at hL hn ⊢
 have W:=hL.w
 have la:=hL.la
 have lb:=hL.lb
 obtain ⟨q,eq⟩:=some_at (xs:=b) lb
 obtain ⟨p,ep⟩:=some_at (xs:=a) (Nat.lt_of_succ_lt la)
 refine MK (aN eq (MK (aN ep (MK (kQ hC hk (mb _ _ eq) (ma _ _ ep) ?_)))))
 dsimp only
 by_cases hw:rk q<rk p
 ·rw [decide_eq_true hw,if_pos rfl]
  have W1:=W.fO ub eq fun j r hj e=>Nm (OG hw) (ua ia j p r hj ep e)
  refine MK (aN eq ?_)
  by_cases e3:ib+1=b.size
  ·rw [if_pos (by simpa using e3)]
   exact MM (hQ _ _ _ _ _ (0,0) (.inl ⟨_,rfl,W1.jj ua e3⟩)).1
  rw [if_neg (by simpa using e3)]
  have z:=hQ none ia (ib+1) (out.push q) (0,bc+1) (0,bc+1) (.inr ⟨rfl,⟨W1,la,by lia⟩,by lia⟩)
  split
  ·exact MM z.1
  ·exact MM (z.2 rfl)
 ·rw [decide_eq_false hw,if_neg MV]
  have W1:=W.fP ua ep fun j r hj e=>Nm (Int.not_lt.mp hw) (ub ib j q r hj eq e)
  refine MK (aN ep ?_)
  by_cases e3:ia+1+1=a.size
  ·rw [if_pos (by simpa using e3)]
   exact MM (hQ _ _ _ _ _ (0,0) (.inl ⟨_,rfl,lA W1 e3⟩)).1
  rw [if_neg (by simpa using e3)]
  have z:=hQ none (ia+1) ib (out.push p) (ac+1,0) (ac+1,0) (.inr ⟨rfl,⟨W1,by lia,lb⟩,by lia⟩)
  split
  ·exact MM z.1
  ·exact MM (z.2 rfl)
theorem sO {st:SortSt} (hC:iC prog w A s κ rk L) (hk:kindOf st=κ) (ma:∀ (i:Nat) (p:Keyed),a[i]?=some p→p∈L) (mb:∀ (i:Nat) (p:Keyed),b[i]?=some p→p∈L)
 (lA:∀ {out:Array Keyed} {ia ib:Nat},WL rk a b out ia ib→ia+1=a.size→Res rk a b (Cn a b out ia ib)) (ua:Up rk a) (ub:Up rk b) (hL:lW rk a b c.2.1 c.2.2.1 c.2.2.2.1) (hn:n≤c.2.2.1+c.2.2.2.1+1)
 (h1:∀ r z st',cJ st st'→Res rk a b r→Q (.done (some r,z)) st') (h2:∀ ia ib out g st',cJ st st'→lW rk a b out ia ib→n≤ia+ib→Q (.yield (none,out,ia,ib,g)) st'):wpS (model prog w) A E s (oh a b c) Q st:=by
 unfold oh
 refine MK (Np (NS (I:=fun y c st'=>st'=st∧c.1=none∧lW rk a b c.2.1 c.2.2.1 c.2.2.2.1∧n+y≤c.2.2.1+c.2.2.2.1+1) (Q:=fun c st'=>st'=st∧DB rk a b n c.1 c.2.2.1 c.2.2.2.1 c.2.1) ?step ?fin ⟨rfl,rfl,hL,hn⟩) ?post)
 case fin =>
  rintro c st' ⟨rfl,hc,hL',hx⟩
  exact ⟨rfl,.inr ⟨hc,hL',by have:=hL'.la; have:=hL'.lb; lia⟩⟩
 case step =>
  rintro y c st' _ hy ⟨rfl,_,hL',hx⟩
  refine wU (n:=n+y) hC hk ma mb lA ua ub hL' hx fun o ia ib out z y hR=>⟨?_,?_⟩
  ·refine ⟨rfl,?_⟩
   rcases hR with hR | ⟨q1,q2,q3⟩
   ·exact .inl hR
   ·exact .inr ⟨q1,q2,MT (PF _ _) q3⟩
  ·rintro rfl
   rcases hR with ⟨_,q,_⟩ | ⟨q1,q2,q3⟩
   ·cases q
   ·exact ⟨rfl,rfl,q2,Q8 q3⟩
 case post =>
  rintro ⟨o,out,ia,ib,ac,bc⟩ st' ⟨rfl,hR⟩
  dsimp only at hR ⊢
  rcases hR with ⟨r,rfl,hr⟩ | ⟨rfl,hL2,hn2⟩
  ·exact MM (h1 r _ _ (.refl _) hr)
  refine MK (OY (N6 ⟨rfl,?_⟩))
  refine MK (Np (NS (I:=fun y c st''=>cJ st' st''∧c.1=none∧lW rk a b c.2.1 c.2.2.1 c.2.2.2.1∧n≤c.2.2.1+c.2.2.2.1) (Q:=fun c st''=>cJ st' st''∧DB rk a b n c.1 c.2.2.1 c.2.2.2.1 c.2.1) ?gstep ?gfin ⟨.refl _,rfl,hL2,hn2⟩) ?gpost)
  case gfin=>exact fun c st'' ⟨q1,q2,q3,q4⟩=>⟨q1,.inr ⟨q2,q3,q4⟩⟩
  case gstep =>
   rintro y c st'' _ _ ⟨q1,q2,q3,q4⟩
   have key:wpS (model prog w) A E s (Ab a b c) (fun x st3=>cJ st'' st3∧DC rk a b n x) st'':=by
    unfold Ab
    split
    ·exact mV hC (q1.k.trans hk) ma mb lA ua ub q3 q4 fun x st3 k h=>⟨k,h⟩
    ·exact mV hC (q1.k.trans hk) ma mb lA ua ub q3 q4 fun x st3 k h=>⟨k,h⟩
   refine Np key fun x st3 ⟨k,h⟩=>?_
   cases x with
   | done c=>exact ⟨q1.trans k,h⟩
   | yield c=>exact ⟨q1.trans k,h⟩
  case gpost =>
   rintro ⟨o,out,ia,ib,g,ac,bc⟩ st'' ⟨q1,hR⟩
   dsimp only at hR ⊢
   rcases hR with ⟨r,rfl,hr⟩ | ⟨rfl,hL3,hn3⟩
   ·exact MM (h1 r _ _ q1 hr)
   ·exact MK (ff (MM (h2 _ _ _ _ _ (q1.min _) hL3 hn3)))
theorem qu {st:SortSt} (hC:iC prog w A s κ rk L) (hk:kindOf st=κ) (ma:∀ (i:Nat) (p:Keyed),a[i]?=some p→p∈L) (mb:∀ (i:Nat) (p:Keyed),b[i]?=some p→p∈L) (ua:Up rk a) (ub:Up rk b) (na:1≤a.size) (nb:1≤b.size)
 (h0:∀ p q,a[0]?=some p→b[0]?=some q→rk q≤rk p) (hl:∀ (j:Nat) (p q:Keyed),a[a.size - 1]?=some p→b[j]?=some q→rk q≤rk p) (h:∀ r st',Res rk a b r→cJ st st'→Q r st'):wpS (model prog w) A E s (kT a b) Q st:=by
 have lastA:∀ {out:Array Keyed} {ia ib:Nat},WL rk a b out ia ib→ia+1=a.size→Res rk a b (Cn a b out ia ib):=fun hw e=>hw.last ub e fun j p q e1 e2=>hl j p q (by rw [← e]; exact e1) e2
 obtain ⟨q0,eq0⟩:=some_at (xs:=b) (i:=0) nb
 obtain ⟨p0,ep0⟩:=some_at (xs:=a) (i:=0) na
 have W0:WL rk a b #[q0] 0 1:=by
  have z:WL rk a b #[] 0 0:=⟨Nu _,Nu _,by simp,Qa,by simp,by simp⟩
  exact z.fO ub eq0 fun j q _ e=>Nm (h0 p0 q0 ep0 eq0) (ua 0 j p0 q (Nu _) ep0 e)
 rw [qt]
 refine MK (OY (N6 ⟨rfl,?_⟩))
 refine MK (aN eq0 ?_)
 by_cases e1:1=b.size
 ·rw [if_pos (by simpa using e1)]
  exact MM (h _ _ (W0.jj ua e1) (.refl _))
 rw [if_neg (by simpa using e1)]
 by_cases e2:0+1=a.size
 ·rw [if_pos (by simpa using e2)]
  exact MM (h _ _ (lastA W0 e2) (.refl _))
 rw [if_neg (by simpa using e2)]
 refine MK (Od ?_)
 refine MK (Np (NS (I:=fun x c st'=>cJ st st'∧c.1=none∧lW rk a b c.2.1 c.2.2.1 c.2.2.2.1∧x+1≤c.2.2.1+c.2.2.2.1) (Q:=fun c st'=>cJ st st'∧∃ r,c.1=some r∧Res rk a b r) ?step ?fin ⟨.refl _,rfl,⟨W0,by dsimp only; lia,by dsimp only; lia⟩,by dsimp only; lia⟩) ?post)
 case fin =>
  rintro c st' ⟨hK,hc,hL,hx⟩
  have h1:=hL.la
  have h2:=hL.lb
  lia
 case post =>
  rintro c st' ⟨hK,r,hc,hr⟩
  rw [hc]
  exact MM (h r st' hr hK)
 case step =>
  rintro x c st1 _ hx ⟨hK,_,hL,hn⟩
  exact sO (n:=x+2) hC (hK.k.trans hk) ma mb lastA ua ub hL (Q8 hn) (fun r z st' k hr=>⟨hK.trans k,r,rfl,hr⟩) fun ia ib out g st' k q1 q2=>⟨hK.trans k,rfl,q1,q2⟩
end
noncomputable def kX:Array Keyed→Array Keyed→StateT SortSt Sem (Array Keyed):=sortPriv% PySem.Builtin.mergeHi
local macro_rules | `(tactic| walk_at "dl mergeHi")=>do
 let i:=Pb (O1 `PySem.Builtin.List.W1All `PySem.Builtin.mergeHi)
 `(tactic| delta $i)
section
variable {rk:Keyed→Int} {a b:Array Keyed}
structure WH (rk:Keyed→Int) (a b:Array Keyed) (out:Array Keyed) (na nb:Nat):Prop where
 pa:na≤a.size
 pb:nb≤b.size
 pm:out.toList.Perm (a.toList.drop na++b.toList.drop nb)
 sr:z0 rk out.toList.reverse
 ha:∀ p∈out.toList,∀ (j:Nat) (q:Keyed),j<na→a[j]?=some q→rk q≤rk p
 hb:∀ p∈out.toList,∀ (j:Nat) (q:Keyed),j<nb→b[j]?=some q→rk q≤rk p
theorem cW (xs:Array Keyed) (i):(xs.extract 0 i).toList=xs.toList.take i:=by rw [dM,List.drop_zero]
theorem iS {xs:Array Keyed} (h:q∈xs.toList.take i):∃ j,j<i∧xs[j]?=some q:=by
 obtain ⟨n,hn⟩:=Pw h
 have hl:=(MU.mp hn).1
 rw [NW] at hl
 rw [QF (by lia)] at hn
 exact ⟨n,by lia,by rw [← NB]; exact hn⟩
theorem WH.res (h:WH rk a b out na nb) (x) (hx:x.toList.Perm (a.toList.take na++b.toList.take nb)) (hs:z0 rk x.toList):Res rk a b (x++out.reverse):=by
 have e0:(x++out.reverse).toList=x.toList++out.toList.reverse:=by simp
 refine ⟨?_,?_⟩
 ·rw [e0]
  refine (hx.append ((Q3 _).trans h.pm)).trans ?_
  have:(a.toList.take na++b.toList.take nb++(a.toList.drop na++b.toList.drop nb)).Perm (a.toList.take na++a.toList.drop na++(b.toList.take nb++b.toList.drop nb)):=by
   rw [Nb,Nb]
   refine Pu _ ?_
   rw [← Nb,← Nb]
   exact List.Perm.append_right _ O2
  rw [Oi,Oi] at this
  exact this
 ·rw [e0]
  refine bK hs h.sr fun p hp q hq=>?_
  have hq':q∈out.toList:=by simpa using hq
  rcases Ng.mp (hx.mem_iff.mp hp) with z | z
  ·obtain ⟨j,h1,e⟩:=iS z
   exact h.ha q hq' j p h1 e
  ·obtain ⟨j,h1,e⟩:=iS z
   exact h.hb q hq' j p h1 e
theorem WH.jk (h:WH rk a b out na nb) (ub:Up rk b) (e:na=0):Res rk a b (a.extract 0 na++b.extract 0 nb++out.reverse):=by
 subst e
 refine h.res _ ?_ ?_
 ·simp [cW]
 ·have:(a.extract 0 0++b.extract 0 nb).toList=b.toList.take nb:=by rw [NZ,cW,cW]; simp
  rw [this]; exact (ji ub).sublist (Q2 _ _)
theorem WH.jj (h:WH rk a b out na nb) (ua:Up rk a) (e:nb=0):Res rk a b (a.extract 0 na++b.extract 0 nb++out.reverse):=by
 subst e
 refine h.res _ ?_ ?_
 ·simp [cW]
 ·have:(a.extract 0 na++b.extract 0 0).toList=a.toList.take na:=by rw [NZ,cW,cW]; simp
  rw [this]; exact (ji ua).sublist (Q2 _ _)
theorem WH.first (h:WH rk a b out na nb) (ua:Up rk a) (e:nb=1) (hf:∀ (j:Nat) (p q:Keyed),a[j]?=some p→b[0]?=some q→rk q≤rk p) :
 Res rk a b (b.extract 0 nb++a.extract 0 na++out.reverse):=by
 subst e
 have e1:(b.extract 0 1++a.extract 0 na).toList=b.toList.take 1++a.toList.take na:=by rw [NZ,cW,cW]
 refine h.res _ ?_ ?_
 ·rw [e1]; exact O2
 ·rw [e1]
  refine bK ?_ ((ji ua).sublist (Q2 _ _)) fun p hp q hq=>?_
  ·exact uY (by simp; lia)
  ·obtain ⟨j,h1,e2⟩:=iS hp
   obtain ⟨j2,h2,e3⟩:=iS hq
   have:j=0:=by lia
   subst this
   exact hf j2 q p e3 e2
theorem mW {xs:Array Keyed} (hi:1≤i) (h:xs[i - 1]?=some p):xs.toList.drop (i - 1)=p::xs.toList.drop i:=by
 rw [← NB] at h
 obtain ⟨h1,h2⟩:=MU.mp h
 rw [RG h1,h2,show i - 1+1=i by lia]
theorem WH.fP {out:Array Keyed} {na nb:Nat} {p:Keyed} (h:WH rk a b out na nb) (ua:Up rk a) (hn:1≤na) (e:a[na - 1]?=some p) (hl:∀ (j:Nat) (q:Keyed),j<nb→b[j]?=some q→rk q≤rk p):WH rk a b (out.push p) (na - 1) nb where
 pa:=by have:=h.pa; lia
 pb:=h.pb
 pm:=by
  rw [Nq,mW hn e]
  refine (h.pm.append_right _).trans ?_
  rw [Om]
  exact O2
 sr:=by
  rw [Nq,RZ]
  exact bK (Pr _ _) h.sr fun r hr q hq=>by
   have hr':r=p:=by simpa using hr
   rw [hr']
   exact h.ha q (by simpa using hq) (na - 1) p (by lia) e
 ha:=fun q hq j r hj er=>by
  rw [Nq] at hq
  rcases Ng.mp hq with z | z
  ·exact h.ha q z j r (by lia) er
  ·rw [M4.mp z]; exact ua j (na - 1) r p (by lia) er e
 hb:=fun q hq j r hj er=>by
  rw [Nq] at hq
  rcases Ng.mp hq with z | z
  ·exact h.hb q z j r hj er
  ·rw [M4.mp z]; exact hl j r hj er
theorem WH.fO {out:Array Keyed} {na nb:Nat} {p:Keyed} (h:WH rk a b out na nb) (ub:Up rk b) (hn:1≤nb) (e:b[nb - 1]?=some p) (hl:∀ (j:Nat) (q:Keyed),j<na→a[j]?=some q→rk q≤rk p):WH rk a b (out.push p) na (nb - 1) where
 pa:=h.pa
 pb:=by have:=h.pb; lia
 pm:=by
  rw [Nq,mW hn e]
  refine (h.pm.append_right _).trans ?_
  rw [Nb]
  exact Pu _ O2
 sr:=by
  rw [Nq,RZ]
  exact bK (Pr _ _) h.sr fun r hr q hq=>by
   have hr':r=p:=by simpa using hr
   rw [hr']
   exact h.hb q (by simpa using hq) (nb - 1) p (by lia) e
 hb:=fun q hq j r hj er=>by
  rw [Nq] at hq
  rcases Ng.mp hq with z | z
  ·exact h.hb q z j r (by lia) er
  ·rw [M4.mp z]; exact ub j (nb - 1) r p (by lia) er e
 ha:=fun q hq j r hj er=>by
  rw [Nq] at hq
  rcases Ng.mp hq with z | z
  ·exact h.ha q z j r hj er
  ·rw [M4.mp z]; exact hl j r hj er
theorem u7 {xs:Array Keyed} (h:m<n) (e:xs[m]?=some p):(xs.extract m n).reverse=(xs.extract (m+1) n).reverse.push p:=by
 apply OX
 rw [Nq,Px,Px,dM,dM]
 rw [← NB] at e
 obtain ⟨h1,h2⟩:=MU.mp e
 have h3:m<(xs.toList.take n).length:=by rw [NW]; lia
 rw [RG h3,List.reverse_cons,List.getElem_take,h2]
theorem qv (xs ys:Array Keyed) (p):xs++ys.push p=(xs++ys).push p:=by
 apply OX; simp
theorem WH.ql (h:WH rk a b out na nb) (ua:Up rk a):∀ (k m:Nat),m+k=na→(∀ (i j:Nat) (p q:Keyed),m≤i→i<na→j<nb→a[i]?=some p→b[j]?=some q→rk q≤rk p)→WH rk a b (out++(a.extract m na).reverse) m nb
 | 0,m,hm,_=>by
  have e:m=na:=by lia
  subst e
  have:out++(a.extract m m).reverse=out:=by
   apply OX
   rw [NZ,Px,iR,List.reverse_nil,NR]
  rw [this]; exact h
 | k+1,m,hm,hl=>by
  have hp:=h.pa
  have ih:=h.ql ua k (m+1) (by lia) fun i j p q h1 h2=>hl i j p q (by lia) h2
  have e:a[m+1 - 1]?=some (a[m]'(by lia)):=Nf (show m<a.size by lia)
  have z:=ih.fP ua (by lia) e fun j q hj eq=>hl m j _ q (ML _) (by lia) hj (Nf (show m<a.size by lia)) eq
  rw [u7 (show m<na by lia) (Nf (show m<a.size by lia)),qv]
  exact z
theorem WH.qm (h:WH rk a b out na nb) (ub:Up rk b):∀ (k m:Nat),m+k=nb→(∀ (i j:Nat) (p q:Keyed),m≤i→i<nb→j<na→b[i]?=some p→a[j]?=some q→rk q≤rk p)→WH rk a b (out++(b.extract m nb).reverse) na m
 | 0,m,hm,_=>by
  have e:m=nb:=by lia
  subst e
  have:out++(b.extract m m).reverse=out:=by
   apply OX
   rw [NZ,Px,iR,List.reverse_nil,NR]
  rw [this]; exact h
 | k+1,m,hm,hl=>by
  have hp:=h.pb
  have ih:=h.qm ub k (m+1) (by lia) fun i j p q h1 h2=>hl i j p q (by lia) h2
  have e:b[m+1 - 1]?=some (b[m]'(by lia)):=Nf (show m<b.size by lia)
  have z:=ih.fO ub (by lia) e fun j q hj eq=>hl m j _ q (ML _) (by lia) hj (Nf (show m<b.size by lia)) eq
  rw [u7 (show m<nb by lia) (Nf (show m<b.size by lia)),qv]
  exact z
structure gQ (rk:Keyed→Int) (a b out:Array Keyed) (na nb:Nat):Prop where
 w:WH rk a b out na nb
 la:1≤na
 lb:2≤nb
end
noncomputable abbrev Ad:=Option (Array Keyed)×Nat×Nat×Array Keyed×Nat×Nat×Nat
noncomputable def E9 (a b out:Array Keyed) (na nb:Nat):Array Keyed:=a.extract 0 na++b.extract 0 nb++out.reverse
noncomputable def DE (a b out:Array Keyed) (na nb:Nat):Array Keyed:=b.extract 0 nb++a.extract 0 na++out.reverse
noncomputable def u9 (a b:Array Keyed) (mg ac bc na nb:Nat) (out:Array Keyed):StateT SortSt Sem (ForInStep Ad):=do
 let p ← elem' a (na - 1)
 if (na - 1 == 0)=true then pure (.done (some (E9 a b (out.push p) (na - 1) nb),na - 1,nb,out.push p,mg,ac,bc))
 else if (decide (ac<7) && decide (bc<7))=true then pure (.done (none,na - 1,nb,out.push p,mg,ac,bc))
 else pure (.yield (none,na - 1,nb,out.push p,mg,ac,bc))
noncomputable def vc (a b:Array Keyed) (mg ac bc na nb:Nat) (out:Array Keyed):StateT SortSt Sem (ForInStep Ad):=do
 let q ← elem' b (nb - 1)
 if (nb - 1 == 1)=true then pure (.done (some (DE a b (out.push q) na (nb - 1)),na,nb - 1,out.push q,mg,ac,bc))
 else do
  let p ← elem' a (na - 1)
  let x ← cH true p b 0 (nb - 1) (nb - 1 - 1)
  match x with
  | some k=>(if nb - 1 - k>0 then
   (if (k == 1)=true then pure (.done (some (DE a b (out.push q++(b.extract k (nb - 1)).reverse) na k),na,k,out.push q++(b.extract k (nb - 1)).reverse,mg,ac,nb - 1 - k))
    else if (k == 0)=true then pure (.done (some (E9 a b (out.push q++(b.extract k (nb - 1)).reverse) na k),na,k,out.push q++(b.extract k (nb - 1)).reverse,mg,ac,nb - 1 - k))
    else u9 a b mg ac (nb - 1 - k) na k (out.push q++(b.extract k (nb - 1)).reverse))
   else u9 a b mg ac (nb - 1 - k) na (nb - 1) (out.push q))
  | _=>pure (.done (some (E9 a b (out.push q) na (nb - 1)),na,nb - 1,out.push q,mg,ac,bc))
noncomputable def vd (a b:Array Keyed) (mg ac bc na nb:Nat) (out:Array Keyed):StateT SortSt Sem (ForInStep Ad):=do
 cz mg
 let q ← elem' b (nb - 1)
 let x ← cH false q a 0 na (na - 1)
 match x with
 | some k=>(if na - k>0 then
  (if (k == 0)=true then pure (.done (some (E9 a b (out++(a.extract k na).reverse) k nb),k,nb,out++(a.extract k na).reverse,mg,na - k,bc))
   else vc a b mg (na - k) bc k nb (out++(a.extract k na).reverse))
  else vc a b mg (na - k) bc na nb out)
 | _=>pure (.done (some (E9 a b out na nb),na,nb,out,mg,ac,bc))
noncomputable def Ae (a b:Array Keyed) (c:Ad):StateT SortSt Sem (ForInStep Ad) :=
 if c.2.2.2.2.1>1 then vd a b (c.2.2.2.2.1 - 1) c.2.2.2.2.2.1 c.2.2.2.2.2.2 c.2.1 c.2.2.1 c.2.2.2.1 else vd a b c.2.2.2.2.1 c.2.2.2.2.2.1 c.2.2.2.2.2.2 c.2.1 c.2.2.1 c.2.2.2.1
noncomputable abbrev G6:=Option (Array Keyed)×Nat×Nat×Array Keyed×Nat×Nat
noncomputable def Af (a b:Array Keyed) (mg:Nat) (c:G6):StateT SortSt Sem (ForInStep G6):=do
 let q ← elem' b (c.2.2.1 - 1)
 let p ← elem' a (c.2.1 - 1)
 let x ← lt' q p
 match x with
 | some y=>(if y=true then (do
  let p ← elem' a (c.2.1 - 1)
  if (c.2.1 - 1 == 0)=true then pure (.done (some (E9 a b (c.2.2.2.1.push p) (c.2.1 - 1) c.2.2.1),c.2.1 - 1,c.2.2.1,c.2.2.2.1.push p,c.2.2.2.2.1+1,0))
  else if c.2.2.2.2.1+1≥mg then pure (.done (none,c.2.1 - 1,c.2.2.1,c.2.2.2.1.push p,c.2.2.2.2.1+1,0))
  else pure (.yield (none,c.2.1 - 1,c.2.2.1,c.2.2.2.1.push p,c.2.2.2.2.1+1,0)))
  else (do
   let q ← elem' b (c.2.2.1 - 1)
   if (c.2.2.1 - 1 == 1)=true then pure (.done (some (DE a b (c.2.2.2.1.push q) c.2.1 (c.2.2.1 - 1)),c.2.1,c.2.2.1 - 1,c.2.2.2.1.push q,0,c.2.2.2.2.2+1))
   else if c.2.2.2.2.2+1≥mg then pure (.done (none,c.2.1,c.2.2.1 - 1,c.2.2.2.1.push q,0,c.2.2.2.2.2+1))
   else pure (.yield (none,c.2.1,c.2.2.1 - 1,c.2.2.2.1.push q,0,c.2.2.2.2.2+1))))
 | _=>pure (.done (some (E9 a b c.2.2.2.1 c.2.1 c.2.2.1),c.2.1,c.2.2.1,c.2.2.2.1,c.2.2.2.2.1,c.2.2.2.2.2))
noncomputable abbrev Co:=Option (Array Keyed)×Nat×Nat×Array Keyed×Nat
noncomputable def jl (a b:Array Keyed) (c:Co):StateT SortSt Sem (ForInStep Co):=do
 let s ← forIn [:a.size+b.size] ((none,c.2.1,c.2.2.1,c.2.2.2.1,0,0):G6) fun _ s=>Af a b c.2.2.2.2 s
 match s.1 with
 | some r=>pure (.done (some r,s.2.1,s.2.2.1,s.2.2.2.1,c.2.2.2.2))
 | none=>do
  liftM (rule "list.sort.gallop")
  let t ← forIn [:a.size+b.size] ((none,s.2.1,s.2.2.1,s.2.2.2.1,c.2.2.2.2+1,s.2.2.2.2.1,s.2.2.2.2.2):Ad) fun _ t=>Ae a b t
  match t.1 with
  | some r=>pure (.done (some r,t.2.1,t.2.2.1,t.2.2.2.1,t.2.2.2.2.1))
  | none=>do
   cz (t.2.2.2.2.1+1)
   pure (.yield (none,t.2.1,t.2.2.1,t.2.2.2.1,t.2.2.2.2.1+1))
theorem qw (a b):kX a b=(do
 liftM (rule "list.sort.merge-hi")
 let p ← elem' a (a.size - 1)
 if (a.size - 1 == 0)=true then pure (E9 a b #[p] (a.size - 1) b.size)
 else if (b.size == 1)=true then pure (DE a b #[p] (a.size - 1) b.size)
 else do
  let st ← get
  let s ← forIn [:a.size+b.size] ((none,a.size - 1,b.size,#[p],gallopOf st):Co) fun _ c=>jl a b c
  match s.1 with
  | some r=>pure r
  | none=>liftM (unsupported (α:=Array Keyed) "internal:list.sort.merge-bound")):=by
 unfold kX
 walk_at "dl mergeHi"
 dsimp only
 refine congrArg _ (funext fun _=>?_)
 refine congrArg _ (funext fun p=>?_)
 refine congrArg _ (congrArg _ ?_)
 refine congrArg _ (funext fun st=>?_)
 have h1:∀ (c:Co),jl a b c=jl a b c:=fun _=>rfl
 have e:∀ (f g:Nat→Co→StateT SortSt Sem (ForInStep Co)) (c:Co) (k:Co→StateT SortSt Sem (Array Keyed)),f=g→(forIn [:a.size+b.size] c f >>= k)=(forIn [:a.size+b.size] c g >>= k):=fun _ _ _ _ h=>by rw [h]
 refine (e _ _ _ _ (funext fun _=>funext fun c=>?_)).trans (congrArg _ (funext fun s=>?_))
 ·obtain ⟨o,na,nb,out,mg⟩:=c
  unfold jl
  dsimp only
  have e2:∀ (f g:Nat→G6→StateT SortSt Sem (ForInStep G6)) (c:G6) (k l:G6→StateT SortSt Sem (ForInStep Co)),f=g→k=l→(forIn [:a.size+b.size] c f >>= k)=(forIn [:a.size+b.size] c g >>= l):=fun _ _ _ _ _ h h2=>by rw [h,h2]
  refine e2 _ _ _ _ _ (funext fun _=>funext fun c=>?_) (funext fun s=>?_)
  ·rfl
  ·obtain ⟨o,na,nb,out,ac,bc⟩:=s
   cases o with
   | some r=>rfl
   | none =>
    dsimp only
    refine congrArg _ (funext fun _=>?_)
    have e3:∀ (f g:Nat→Ad→StateT SortSt Sem (ForInStep Ad)) (c:Ad) (k l:Ad→StateT SortSt Sem (ForInStep Co)),f=g→k=l→(forIn [:a.size+b.size] c f >>= k)=(forIn [:a.size+b.size] c g >>= l):=fun _ _ _ _ _ h h2=>by rw [h,h2]
    refine e3 _ _ _ _ _ (funext fun _=>funext fun c=>?_) (funext fun s=>?_)
    ·rfl
    ·obtain ⟨o,s⟩:=s
     cases o <;> rfl
 ·obtain ⟨o,s⟩:=s
  cases o <;> rfl
section
noncomputable def DF (rk:Keyed→Int) (a b:Array Keyed) (n:Nat) (o:Option (Array Keyed)) (na nb:Nat) (out:Array Keyed):Prop:=(∃ r,o=some r∧Res rk a b r)∨(o=none∧gQ rk a b out na nb∧na+nb≤n)
noncomputable def DG (rk:Keyed→Int) (a b:Array Keyed) (n:Nat):ForInStep Ad→Prop
 | .done c=>DF rk a b n c.1 c.2.1 c.2.2.1 c.2.2.2.1
 | .yield c=>c.1=none∧gQ rk a b c.2.2.2.1 c.2.1 c.2.2.1∧c.2.1+c.2.2.1≤n
theorem mX {st:SortSt} (W:WH rk a b out na nb) (ua:Up rk a) (ub:Up rk b) (la:1≤na) (lb:2≤nb) (ep:a[na - 1]?=some p)
 (hl:∀ (j:Nat) (r:Keyed),j<nb→b[j]?=some r→rk r≤rk p) (hn:na - 1+nb≤n) (hQ:∀ x,DG rk a b n x→Q x st):wpS (model prog w) A E s (u9 a b mg ac bc na nb out) Q st:=by
 unfold u9
 have W4:=W.fP ua la ep hl
 refine MK (aN ep ?_)
 by_cases e9:na - 1=0
 ·rw [if_pos (by simpa using e9)]
  exact MM (hQ _ (.inl ⟨_,rfl,W4.jk ub e9⟩))
 rw [if_neg (by simpa using e9)]
 have hL:gQ rk a b (out.push p) (na - 1) nb:=⟨W4,RQ.mpr e9,lb⟩
 split
 ·exact MM (hQ _ (.inr ⟨rfl,hL,hn⟩))
 ·exact MM (hQ _ ⟨rfl,hL,hn⟩)
theorem mY {st:SortSt} (hC:iC prog w A s κ rk L) (hk:kindOf st=κ) (ma:∀ (i:Nat) (p:Keyed),a[i]?=some p→p∈L) (mb:∀ (i:Nat) (p:Keyed),b[i]?=some p→p∈L)
 (fB:∀ {out:Array Keyed} {na nb:Nat},WH rk a b out na nb→nb=1→Res rk a b (DE a b out na nb)) (W:WH rk a b out na nb) (ua:Up rk a) (ub:Up rk b) (la:1≤na) (lb:2≤nb) (eq:b[nb - 1]?=some q)
 (hl:∀ (j:Nat) (r:Keyed),j<na→a[j]?=some r→rk r≤rk q) (hn:na+nb≤n+2) (hQ:∀ x,DG rk a b n x→Q x st):wpS (model prog w) A E s (vc a b mg ac bc na nb out) Q st:=by
 unfold vc
 have W2:=W.fO ub (Nat.le_of_succ_le lb) eq hl
 have hpa:=W.pa
 have hpb:=W.pb
 refine MK (aN eq ?_)
 by_cases e5:nb - 1=1
 ·rw [if_pos (by simpa using e5)]
  exact MM (hQ _ (.inl ⟨_,rfl,fB W2 e5⟩))
 rw [if_neg (by simpa using e5)]
 have lb1:2≤nb - 1:=by lia
 obtain ⟨p,ep⟩:=some_at (xs:=a) (i:=na - 1) (by lia)
 refine MK (aN ep ?_)
 refine MK (qp hC hk (ma _ _ ep) mb ub _ (by lia) (by lia) fun k hj1 hj2 hj3=>?_)
 dsimp only
 have dn2:∀ (i:Nat) (r:Keyed),i<k→b[i]?=some r→rk r<rk p:=fun i r z1 e6=>hj2 i r z1 (by rw [OT]; exact e6)
 by_cases hj0:nb - 1 - k>0
 ·rw [if_pos hj0]
  have W3:=W2.qm ub (nb - 1 - k) k (RY hj1) fun i j r p' z1 z2 z3 e6 e7=>Nm (ua j (na - 1) p' p (QS z3) e7 ep) (hj3 i r z1 (Nat.add_lt_add_left z2 0) (by rw [OT]; exact e6))
  by_cases e8:k=1
  ·rw [if_pos (by simpa using e8)]
   exact MM (hQ _ (.inl ⟨_,rfl,fB W3 e8⟩))
  rw [if_neg (by simpa using e8)]
  by_cases e10:k=0
  ·rw [if_pos (by simpa using e10)]
   exact MM (hQ _ (.inl ⟨_,rfl,W3.jj ua e10⟩))
  rw [if_neg (by simpa using e10)]
  exact mX W3 ua ub la (by lia) ep (fun j r hj e6=>OG (dn2 j r hj e6)) (by lia) hQ
 ·rw [if_neg hj0]
  exact mX W2 ua ub la lb1 ep (fun j r hj e6=>OG (dn2 j r (by lia) e6)) (by lia) hQ
theorem mZ {st:SortSt} (hC:iC prog w A s κ rk L) (hk:kindOf st=κ) (ma:∀ (i:Nat) (p:Keyed),a[i]?=some p→p∈L) (mb:∀ (i:Nat) (p:Keyed),b[i]?=some p→p∈L)
 (fB:∀ {out:Array Keyed} {na nb:Nat},WH rk a b out na nb→nb=1→Res rk a b (DE a b out na nb)) (ua:Up rk a) (ub:Up rk b) (hL:gQ rk a b out na nb) (hn:na+nb≤n) (hQ:∀ x st',cJ st st'→DG rk a b n x→Q x st') :
 wpS (model prog w) A E s (vd a b mg ac bc na nb out) Q st:=by
 unfold vd
 have W:=hL.w
 have la:=hL.la
 have lb:=hL.lb
 have hpa:=W.pa
 have hpb:=W.pb
 obtain ⟨q,eq⟩:=some_at (xs:=b) (i:=nb - 1) (by lia)
 refine MK (ff ?_)
 have FA:=fun x=>hQ x _ ((cJ.refl st).min mg)
 refine MK (aN eq ?_)
 refine MK (qo hC (by exact hk) (mb _ _ eq) ma ua _ (by lia) (by lia) fun k hk1 hk2 hk3=>?_)
 dsimp only
 have dn1:∀ (i:Nat) (p:Keyed),i<k→a[i]?=some p→rk p≤rk q:=fun i p z1 e3=>hk2 i p z1 (by rw [OT]; exact e3)
 by_cases hk0:na - k>0
 ·rw [if_pos hk0]
  have Wk:=W.ql ua (na - k) k (RY hk1) fun i j p r z1 z2 z3 e3 e4=>Nm (ub j (nb - 1) r q (QS z3) e4 eq) (OG (hk3 i p z1 (Nat.add_lt_add_left z2 0) (by rw [OT]; exact e3)))
  by_cases e4:k=0
  ·rw [if_pos (by simpa using e4)]
   exact MM (FA _ (.inl ⟨_,rfl,Wk.jk ub e4⟩))
  rw [if_neg (by simpa using e4)]
  exact mY hC (by exact hk) ma mb fB Wk ua ub (RQ.mpr e4) lb eq dn1 (by lia) FA
 ·rw [if_neg hk0]
  exact mY hC (by exact hk) ma mb fB W ua ub la lb eq (fun j r hj e3=>dn1 j r (by lia) e3) (by lia) FA
theorem wV {st:SortSt} (hC:iC prog w A s κ rk L) (hk:kindOf st=κ) (ma:∀ (i:Nat) (p:Keyed),a[i]?=some p→p∈L) (mb:∀ (i:Nat) (p:Keyed),b[i]?=some p→p∈L)
 (fB:∀ {out:Array Keyed} {na nb:Nat},WH rk a b out na nb→nb=1→Res rk a b (DE a b out na nb)) (ua:Up rk a) (ub:Up rk b) (hL:gQ rk a b c.2.2.2.1 c.2.1 c.2.2.1) (hn:c.2.1+c.2.2.1≤n+1)
 (hQ:∀ o na nb out z y,DF rk a b n o na nb out→Q (.done (o,na,nb,out,z)) st∧(o=none→Q (.yield (none,na,nb,out,y)) st)):wpS (model prog w) A E s (Af a b mg c) Q st:=by
 obtain ⟨_,na,nb,out,ac,bc⟩:=c
 unfold Af
 dsimp only at hL hn ⊢
 have W:=hL.w
 have la:=hL.la
 have lb:=hL.lb
 have hpa:=W.pa
 have hpb:=W.pb
 obtain ⟨q,eq⟩:=some_at (xs:=b) (i:=nb - 1) (by lia)
 obtain ⟨p,ep⟩:=some_at (xs:=a) (i:=na - 1) (by lia)
 refine MK (aN eq (MK (aN ep (MK (kQ hC hk (mb _ _ eq) (ma _ _ ep) ?_)))))
 dsimp only
 by_cases hw:rk q<rk p
 ·rw [decide_eq_true hw,if_pos rfl]
  have W1:=W.fP ua la ep fun j r hj e=>Nm (ub j (nb - 1) r q (QS hj) e eq) (OG hw)
  refine MK (aN ep ?_)
  by_cases e3:na - 1=0
  ·rw [if_pos (by simpa using e3)]
   exact MM (hQ _ _ _ _ _ (0,0) (.inl ⟨_,rfl,W1.jk ub e3⟩)).1
  rw [if_neg (by simpa using e3)]
  have z:=hQ none (na - 1) nb (out.push p) (ac+1,0) (ac+1,0) (.inr ⟨rfl,⟨W1,RQ.mpr e3,lb⟩,by lia⟩)
  split
  ·exact MM z.1
  ·exact MM (z.2 rfl)
 ·rw [decide_eq_false hw,if_neg MV]
  have W1:=W.fO ub (Nat.le_of_succ_le lb) eq fun j r hj e=>Nm (ua j (na - 1) r p (QS hj) e ep) (Int.not_lt.mp hw)
  refine MK (aN eq ?_)
  by_cases e3:nb - 1=1
  ·rw [if_pos (by simpa using e3)]
   exact MM (hQ _ _ _ _ _ (0,0) (.inl ⟨_,rfl,fB W1 e3⟩)).1
  rw [if_neg (by simpa using e3)]
  have z:=hQ none na (nb - 1) (out.push q) (0,bc+1) (0,bc+1) (.inr ⟨rfl,⟨W1,la,by lia⟩,by lia⟩)
  split
  ·exact MM z.1
  ·exact MM (z.2 rfl)
theorem sP {st:SortSt} (hC:iC prog w A s κ rk L) (hk:kindOf st=κ) (ma:∀ (i:Nat) (p:Keyed),a[i]?=some p→p∈L) (mb:∀ (i:Nat) (p:Keyed),b[i]?=some p→p∈L)
 (fB:∀ {out:Array Keyed} {na nb:Nat},WH rk a b out na nb→nb=1→Res rk a b (DE a b out na nb)) (ua:Up rk a) (ub:Up rk b) (hL:gQ rk a b c.2.2.2.1 c.2.1 c.2.2.1) (hn:c.2.1+c.2.2.1≤n+1) (hm:n+1≤a.size+b.size)
 (h1:∀ r z st',cJ st st'→Res rk a b r→Q (.done (some r,z)) st') (h2:∀ na nb out g st',cJ st st'→gQ rk a b out na nb→na+nb≤n→Q (.yield (none,na,nb,out,g)) st'):wpS (model prog w) A E s (jl a b c) Q st:=by
 unfold jl
 refine MK (Np (NS (I:=fun y c st'=>st'=st∧c.1=none∧gQ rk a b c.2.2.2.1 c.2.1 c.2.2.1∧y+c.2.1+c.2.2.1≤n+1) (Q:=fun c st'=>st'=st∧DF rk a b n c.1 c.2.1 c.2.2.1 c.2.2.2.1) ?step ?fin ⟨rfl,rfl,hL,by dsimp only; lia⟩) ?post)
 case fin =>
  rintro c st' ⟨rfl,hc,hL',hx⟩
  exact ⟨rfl,.inr ⟨hc,hL',by lia⟩⟩
 case step =>
  rintro y c st' _ hy ⟨rfl,_,hL',hx⟩
  refine wV (n:=n - y) hC hk ma mb fB ua ub hL' (by have:=hL'.la; have:=hL'.lb; lia) fun o na nb out z y hR=>⟨?_,?_⟩
  ·refine ⟨rfl,?_⟩
   rcases hR with hR | ⟨q1,q2,q3⟩
   ·exact .inl hR
   ·exact .inr ⟨q1,q2,by dsimp only; lia⟩
  ·rintro rfl
   rcases hR with ⟨_,q,_⟩ | ⟨q1,q2,q3⟩
   ·cases q
   ·exact ⟨rfl,rfl,q2,by have:=q2.la; have:=q2.lb; dsimp only; lia⟩
 case post =>
  rintro ⟨o,na,nb,out,ac,bc⟩ st' ⟨rfl,hR⟩
  dsimp only at hR ⊢
  rcases hR with ⟨r,rfl,hr⟩ | ⟨rfl,hL2,hn2⟩
  ·exact MM (h1 r _ _ (.refl _) hr)
  refine MK (OY (N6 ⟨rfl,?_⟩))
  refine MK (Np (NS (I:=fun y c st''=>cJ st' st''∧c.1=none∧gQ rk a b c.2.2.2.1 c.2.1 c.2.2.1∧c.2.1+c.2.2.1≤n) (Q:=fun c st''=>cJ st' st''∧DF rk a b n c.1 c.2.1 c.2.2.1 c.2.2.2.1) ?gstep ?gfin ⟨.refl _,rfl,hL2,hn2⟩) ?gpost)
  case gfin=>exact fun c st'' ⟨q1,q2,q3,q4⟩=>⟨q1,.inr ⟨q2,q3,q4⟩⟩
  case gstep =>
   rintro y c st'' _ _ ⟨q1,q2,q3,q4⟩
   have key:wpS (model prog w) A E s (Ae a b c) (fun x st3=>cJ st'' st3∧DG rk a b n x) st'':=by
    unfold Ae
    split
    ·exact mZ hC (q1.k.trans hk) ma mb fB ua ub q3 q4 fun x st3 k h=>⟨k,h⟩
    ·exact mZ hC (q1.k.trans hk) ma mb fB ua ub q3 q4 fun x st3 k h=>⟨k,h⟩
   refine Np key fun x st3 ⟨k,h⟩=>?_
   cases x with
   | done c=>exact ⟨q1.trans k,h⟩
   | yield c=>exact ⟨q1.trans k,h⟩
  case gpost =>
   rintro ⟨o,na,nb,out,g,ac,bc⟩ st'' ⟨q1,hR⟩
   dsimp only at hR ⊢
   rcases hR with ⟨r,rfl,hr⟩ | ⟨rfl,hL3,hn3⟩
   ·exact MM (h1 r _ _ q1 hr)
   ·exact MK (ff (MM (h2 _ _ _ _ _ (q1.min _) hL3 hn3)))
theorem qx {st:SortSt} (hC:iC prog w A s κ rk L) (hk:kindOf st=κ) (ma:∀ (i:Nat) (p:Keyed),a[i]?=some p→p∈L) (mb:∀ (i:Nat) (p:Keyed),b[i]?=some p→p∈L) (ua:Up rk a) (ub:Up rk b) (na1:1≤a.size) (nb1:1≤b.size)
 (h0:∀ p q,a[0]?=some p→b[0]?=some q→rk q≤rk p) (hl:∀ (j:Nat) (p q:Keyed),a[a.size - 1]?=some p→b[j]?=some q→rk q≤rk p) (h:∀ r st',Res rk a b r→cJ st st'→Q r st'):wpS (model prog w) A E s (kX a b) Q st:=by
 obtain ⟨p0,ep0⟩:=some_at (xs:=a) (i:=0) na1
 have firstB:∀ {out:Array Keyed} {na nb:Nat},WH rk a b out na nb→nb=1→Res rk a b (DE a b out na nb):=fun hw e=>hw.first ua e fun j p q e1 e2=>Nm (h0 p0 q ep0 e2) (ua 0 j p0 p (Nu _) ep0 e1)
 obtain ⟨pl,epl⟩:=some_at (xs:=a) (i:=a.size - 1) (by lia)
 have W0:WH rk a b #[pl] (a.size - 1) b.size:=by
  have z:WH rk a b #[] a.size b.size:=⟨ML _,ML _,by simp,Qa,by simp,by simp⟩
  exact z.fP ua na1 epl fun j q _ e=>hl j pl q epl e
 rw [qw]
 refine MK (OY (N6 ⟨rfl,?_⟩))
 refine MK (aN epl ?_)
 by_cases e1:a.size - 1=0
 ·rw [if_pos (by simpa using e1)]
  exact MM (h _ _ (W0.jk ub e1) (.refl _))
 rw [if_neg (by simpa using e1)]
 by_cases e2:b.size=1
 ·rw [if_pos (by simpa using e2)]
  exact MM (h _ _ (firstB W0 e2) (.refl _))
 rw [if_neg (by simpa using e2)]
 refine MK (Od ?_)
 refine MK (Np (NS (I:=fun x c st'=>cJ st st'∧c.1=none∧gQ rk a b c.2.2.2.1 c.2.1 c.2.2.1∧x+c.2.1+c.2.2.1<a.size+b.size) (Q:=fun c st'=>cJ st st'∧∃ r,c.1=some r∧Res rk a b r) ?step ?fin ⟨.refl _,rfl,⟨W0,by dsimp only; lia,by dsimp only; lia⟩,by dsimp only; lia⟩) ?post)
 case fin =>
  rintro c st' ⟨hK,hc,hL,hx⟩
  have h1:=hL.la
  lia
 case post =>
  rintro c st' ⟨hK,r,hc,hr⟩
  rw [hc]
  exact MM (h r st' hr hK)
 case step =>
  rintro x c st1 _ hx ⟨hK,_,hL,hn⟩
  have l1:=hL.la
  have l2:=hL.lb
  exact sP (n:=a.size+b.size - x - 2) hC (hK.k.trans hk) ma mb firstB ua ub hL (by lia) (by lia) (fun r z st' k hr=>⟨hK.trans k,r,rfl,hr⟩) fun na nb out g st' k q1 q2=>⟨hK.trans k,rfl,q1,by have:=q1.la; dsimp only; lia⟩
end
noncomputable def Seg (rk:Keyed→Int) (xs:Array Keyed) (lo hi:Nat):Prop:=∀ i j,lo≤i→i≤j→j<hi→R rk xs i≤R rk xs j
noncomputable def Fb (rk:Keyed→Int) (xs:Array Keyed) (lo hi:Nat):Prop:=∀ i j,lo≤i→i≤j→j<hi→R rk xs j≤R rk xs i
structure Bs (κ:SortKind) (L:List Keyed) (st:SortSt):Prop where
 perm:(arrOf st).toList.Perm L
 kind:kindOf st=κ
 failed:failedOf st=none
structure Mv (st st':SortSt) (lo hi:Nat):Prop where
 out:∀ i,i<lo∨hi≤i→(arrOf st')[i]?=(arrOf st)[i]?
 pend:pendingOf st'=pendingOf st
section
variable {st st' st'':SortSt} {lo hi:Nat}
theorem Bs.size (h:Bs κ L st):(arrOf st).size=L.length:=by simpa using h.perm.length_eq
theorem Bs.at (h:Bs κ L st) (hi:i<L.length):∃ p,(arrOf st)[i]?=some p∧p∈L:=by
 have hs:=h.size
 refine ⟨(arrOf st)[i]'(by lia),Nf _,h.perm.mem_iff.mp ?_⟩
 rw [RV]; exact Si _
theorem Bs.arr (h:Bs κ L st) (hp:xs.toList.Perm (arrOf st).toList):Bs κ L (setArr st xs):=⟨hp.trans h.perm,h.kind,h.failed⟩
theorem Mv.refl:Mv st st lo hi:=⟨fun _ _=>rfl,rfl⟩
theorem Mv.trans (a:Mv st st' lo hi) (b:Mv st' st'' lo hi):Mv st st'' lo hi:=⟨fun i h=>(b.out i h).trans (a.out i h),b.pend.trans a.pend⟩
theorem Ag (hj:j≤xs.size) (k):R rk (mirror xs i j ((j - i) / 2)) k=if i≤k∧k<j then R rk xs (i+j - 1 - k) else R rk xs k:=by
 have e:=getElem?_mirror_all (i:=i) hj k
 by_cases h:i≤k∧k<j
 ·rw [if_pos h] at e ⊢; exact bY e
 ·rw [if_neg h] at e ⊢; exact bY e
theorem kY (hj:j≤(arrOf st).size) (h1:lo≤i) (h2:j≤hi):Mv st (setArr st (mirror (arrOf st) i j ((j - i) / 2))) lo hi :=
 ⟨fun k hk=>by
   have e:=getElem?_mirror_all (i:=i) hj k
   rw [if_neg (by lia)] at e; exact e,rfl⟩
theorem DH (i) (xs):Seg rk xs i (i+1):=fun a b h1 h2 h3=>by
 have:a=b:=by lia
 subst this; exact N5 _
theorem Ah (h:Seg rk xs lo (lo+n)) (hn:1≤n) (hl:¬ R rk xs (lo+n)<R rk xs (lo+n - 1)):Seg rk xs lo (lo+(n+1)):=fun a b h1 h2 h3=>by
 by_cases hb:b<lo+n
 ·exact h a b h1 h2 hb
 ·have e:b=lo+n:=by lia
  subst e
  by_cases ha:a=lo+n
  ·subst ha; exact N5 _
  ·exact Nm (h a (lo+n - 1) h1 (by lia) (by lia)) (Int.not_lt.mp hl)
theorem fQ (h:Fb rk xs lo (lo+n)) (hn:1≤n) (hl:R rk xs (lo+n)≤R rk xs (lo+n - 1)):Fb rk xs lo (lo+(n+1)):=fun a b h1 h2 h3=>by
 by_cases hb:b<lo+n
 ·exact h a b h1 h2 hb
 ·have e:b=lo+n:=by lia
  subst e
  by_cases ha:a=lo+n
  ·subst ha; exact N5 _
  ·exact Nm hl (h a (lo+n - 1) h1 (by lia) (by lia))
end
section
variable {st:SortSt} {lo nrem:Nat}
theorem kZ (hC:iC prog w A s κ rk L) (hB:Bs κ L st) (hi:i<L.length) (hj:j<L.length) (h:Q (some (decide (R rk (arrOf st) i<R rk (arrOf st) j))) st):wpS (model prog w) A E s (ltAt' i j) Q st:=by
 obtain ⟨p,ep,hp⟩:=hB.at hi
 obtain ⟨q,eq,hq⟩:=hB.at hj
 exact wR hC hB.kind ep eq hp hq h
theorem dW (h:Q () (setArr st (mirror (arrOf st) i j ((j - i) / 2)))):wpS (model prog w) A E s (reverseSlice' i j) Q st :=
 Ot (f:=fun s=>setArr s (mirror (arrOf s) i j ((j - i) / 2))) h
noncomputable abbrev J9:=Option (Option Nat)×Nat
noncomputable def asc (lo a nrem:Nat):StateT SortSt Sem J9 :=
 forIn [a:nrem] ((none,a):J9) fun _ c=>ltAt' (lo+c.2) (lo+c.2 - 1) >>= fun x=>match x with
  | some smaller=>if smaller=true then pure (Ob (none,c.2)) else pure (NG (none,c.2+1))
  | _=>pure (Ob (some none,c.2))
theorem ve (hC:iC prog w A s κ rk L) (hB:Bs κ L st) (hn:lo+nrem≤L.length) (h1:1≤a) (h2:a≤nrem) (hs:Seg rk (arrOf st) lo (lo+a))
 (h:∀ n,a≤n→n≤nrem→Seg rk (arrOf st) lo (lo+n)→(n=nrem∨R rk (arrOf st) (lo+n)<R rk (arrOf st) (lo+n - 1))→Q (none,n) st):wpS (model prog w) A E s (asc lo a nrem) Q st:=by
 unfold asc
 refine NS (I:=fun x c st'=>st'=st∧c=(none,x)∧Seg rk (arrOf st) lo (lo+x)) ?step ?fin ⟨rfl,rfl,hs⟩
 case fin =>
  rintro c st' ⟨rfl,rfl,hs'⟩
  rw [show max a nrem=nrem by lia] at hs' ⊢
  exact h nrem h2 (ML _) hs' (.inl rfl)
 case step =>
  rintro x c st' hax hxn ⟨rfl,rfl,hs'⟩
  refine MK (kZ hC hB (by dsimp only; lia) (by dsimp only; lia) ?_)
  dsimp only
  by_cases hl:R rk (arrOf st') (lo+x)<R rk (arrOf st') (lo+x - 1)
  ·rw [decide_eq_true hl,if_pos rfl]
   exact MM (h x hax (by lia) hs' (.inr hl))
  ·rw [decide_eq_false hl,if_neg MV]
   exact MM ⟨rfl,rfl,Ah hs' (by lia) hl⟩
noncomputable abbrev Ka:=Option (Option Nat)×Nat×Nat
noncomputable def Kc (lo n nrem:Nat):StateT SortSt Sem Ka :=
 forIn [n:nrem] ((none,n,0):Ka) fun _ c=>ltAt' (lo+c.2.1) (lo+c.2.1 - 1) >>= fun x=>match x with
  | some smaller=>if smaller=true then
   (if c.2.2>0 then reverseSlice' (lo+c.2.1 - (c.2.2+1)) (lo+c.2.1) >>= fun _=>pure (NG (none,c.2.1+1,0)) else pure (NG (none,c.2.1+1,0)))
   else ltAt' (lo+c.2.1 - 1) (lo+c.2.1) >>= fun y=>match y with
    | some larger=>if larger=true then pure (Ob (none,c.2.1,c.2.2)) else pure (NG (none,c.2.1+1,c.2.2+1))
    | _=>pure (Ob (some none,c.2.1,c.2.2))
  | _=>pure (Ob (some none,c.2.1,c.2.2))
theorem iT (hj:j≤xs.size) (he:∀ k,i≤k→k<j→R rk xs k=R rk xs (j - 1)) (k):R rk (mirror xs i j ((j - i) / 2)) k=R rk xs k:=by
 rw [Ag hj]
 split
 ·rw [he _ (by lia) (by lia),he k (by lia) (by lia)]
 ·rfl
theorem DI (hC:iC prog w A s κ rk L) (hB:Bs κ L st) (hn:lo+nrem≤L.length) (h1:1≤n) (h2:n≤nrem) (hs:Fb rk (arrOf st) lo (lo+n))
 (h:∀ m neq st',Bs κ L st'→Mv st st' lo (lo+nrem)→n≤m→m≤nrem→Fb rk (arrOf st') lo (lo+m)→neq+1≤m→(∀ i,lo+m - (neq+1)≤i→i<lo+m→R rk (arrOf st') i=R rk (arrOf st') (lo+m - 1))→Q (none,m,neq) st') :
 wpS (model prog w) A E s (Kc lo n nrem) Q st:=by
 unfold Kc
 refine NS (I:=fun x c st'=>∃ neq,c=(none,x,neq)∧Bs κ L st'∧Mv st st' lo (lo+nrem)∧Fb rk (arrOf st') lo (lo+x)∧neq+1≤x∧(∀ i,lo+x - (neq+1)≤i→i<lo+x→R rk (arrOf st') i=R rk (arrOf st') (lo+x - 1))) ?step ?fin
  ⟨0,rfl,hB,.refl,hs,h1,fun i a1 a2=>by congr 1; lia⟩
 case fin =>
  rintro c st' ⟨neq,rfl,jA,hM',hs',hq,he⟩
  rw [show max n nrem=nrem by lia] at hs' hq he ⊢
  exact h nrem neq st' jA hM' h2 (ML _) hs' hq he
 case step =>
  rintro x c st' hax hxn ⟨neq,rfl,jA,hM',hs',hq,he⟩
  have hsz:=jA.size
  refine MK (kZ hC jA (by dsimp only; lia) (by dsimp only; lia) ?_)
  dsimp only
  by_cases hl:R rk (arrOf st') (lo+x)<R rk (arrOf st') (lo+x - 1)
  ·rw [decide_eq_true hl,if_pos rfl]
   by_cases hq0:neq>0
   ·rw [if_pos hq0]
    have key:=iT (rk:=rk) (xs:=arrOf st') (i:=lo+x - (neq+1)) (j:=lo+x) (by lia) he
    refine MK (dW (MM ⟨0,rfl,jA.arr (Po.mp (Qt _ _ _ _)),hM'.trans (kY (by lia) (by lia) (by lia)),?_,by lia,fun i a1 a2=>by congr 1; lia⟩))
    refine fQ (fun a b z1 z2 z3=>?_) (by lia) ?_
    ·show R rk (mirror _ _ _ _) b≤R rk (mirror _ _ _ _) a
     rw [key,key]; exact hs' a b z1 z2 z3
    ·show R rk (mirror _ _ _ _) _≤R rk (mirror _ _ _ _) _
     rw [key,key]; lia
   ·rw [if_neg hq0]
    exact MM ⟨0,rfl,jA,hM',fQ hs' (by lia) (by lia),by lia,fun i a1 a2=>by congr 1; lia⟩
  ·rw [decide_eq_false hl,if_neg MV]
   refine MK (kZ hC jA (by lia) (by lia) ?_)
   dsimp only
   by_cases hg:R rk (arrOf st') (lo+x - 1)<R rk (arrOf st') (lo+x)
   ·rw [decide_eq_true hg,if_pos rfl]
    exact MM (h x neq st' jA hM' hax (by lia) hs' hq he)
   ·rw [decide_eq_false hg,if_neg MV]
    have heq:R rk (arrOf st') (lo+x)=R rk (arrOf st') (lo+x - 1):=by lia
    refine MM ⟨neq+1,rfl,jA,hM',fQ hs' (by lia) (by lia),by lia,fun i a1 a2=>?_⟩
    rw [show lo+(x+1) - 1=lo+x by lia]
    by_cases hi:i=lo+x
    ·rw [hi]
    ·rw [heq]; exact he i (by lia) (by lia)
noncomputable def countRun':Nat→Nat→StateT SortSt Sem (Option Nat):=sortPriv% PySem.Builtin.countRun
theorem iU {Q:Option Nat→SortSt→Prop} (hC:iC prog w A s κ rk L) (hB:Bs κ L st) (hn:lo+nrem≤L.length) (h1:1≤n) (h2:n≤nrem) (hs:Fb rk (arrOf st) lo (lo+n))
 (h:∀ m st',Bs κ L st'→Mv st st' lo (lo+nrem)→1≤m→m≤nrem→Seg rk (arrOf st') lo (lo+m)→Q (some m) st') :
 wpS (model prog w) A E s (asc lo n nrem) (fun c st'=>c.1=none∧Q (some c.2) st') (setArr st (mirror (arrOf st) lo (lo+n) ((lo+n - lo) / 2))):=by
 have hsz:=hB.size
 have jA:=hB.arr (Po.mp (Qt (arrOf st) lo (lo+n) ((lo+n - lo) / 2)))
 refine ve hC jA hn h1 h2 (fun a b z1 z2 z3=>?_) fun m m1 m2 ms _=>⟨rfl,h m _ jA (kY (by lia) (ML _) (by lia)) (by lia) m2 ms⟩
 show R rk (mirror _ _ _ _) a≤R rk (mirror _ _ _ _) b
 rw [Ag (by lia),Ag (by lia),if_pos (by lia),if_pos (by lia)]
 exact hs _ _ (by lia) (by lia) (by lia)
local macro_rules | `(tactic| walk_at "dl countRun")=>do
 let i:=Pb (O1 `PySem.Builtin.List.W1All `PySem.Builtin.countRun)
 `(tactic| delta $i)
theorem wpS_countRun (hC:iC prog w A s κ rk L) (hB:Bs κ L st) (hn:lo+nrem≤L.length) (h1:1≤nrem)
 (h:∀ m st',Bs κ L st'→Mv st st' lo (lo+nrem)→1≤m→m≤nrem→Seg rk (arrOf st') lo (lo+m)→Q (some m) st'):wpS (model prog w) A E s (countRun' lo nrem) Q st:=by
 unfold countRun'
 walk_at "dl countRun"
 dsimp only
 have hsz:=hB.size
 refine MK (show wpS _ _ _ _ (asc lo 1 nrem) _ _ from ve hC hB hn (ML _) h1 (DH lo _) fun n n1 n2 ns nor=>?_)
 dsimp only
 by_cases hnn:n=nrem
 ·rw [if_pos (by simpa using hnn)]
  exact MM (h n st hB .refl n1 n2 ns)
 rw [if_neg (by simpa using hnn)]
 have hlt:=nor.resolve_left hnn
 have rest:∀ (st1:SortSt),Bs κ L st1→Mv st st1 lo (lo+nrem)→Fb rk (arrOf st1) lo (lo+(n+1))→wpS (model prog w) A E s (Kc lo (n+1) nrem) (fun c st2=>Bs κ L st2∧Mv st st2 lo (lo+nrem)∧c.1=none∧n+1≤c.2.1∧c.2.1≤nrem∧Fb rk (arrOf st2) lo (lo+c.2.1)∧c.2.2+1≤c.2.1∧(∀ i,lo+c.2.1 - (c.2.2+1)≤i→i<lo+c.2.1→R rk (arrOf st2) i=R rk (arrOf st2) (lo+c.2.1 - 1))) st1 :=
  fun st1 hB1 hM1 hs1=>DI hC hB1 hn (by lia) (by lia) hs1 fun m neq st2 a1 a2 a3 a4 a5 a6 a7=>⟨a1,hM1.trans a2,rfl,a3,a4,a5,a6,a7⟩
 by_cases hgt:n>1
 ·rw [if_pos hgt]
  refine MK (kZ hC hB (by lia) (by lia) ?_)
  dsimp only
  by_cases hrose:R rk (arrOf st) lo<R rk (arrOf st) (lo+n - 1)
  ·rw [decide_eq_true hrose,if_pos rfl]
   exact MM (h n st hB .refl n1 n2 ns)
  ·rw [decide_eq_false hrose,if_neg MV]
   have hall:∀ k,lo≤k→k<lo+n→R rk (arrOf st) k=R rk (arrOf st) (lo+n - 1):=fun k z1 z2=>by
    have a1:=ns lo k (ML _) z1 z2
    have a2:=ns k (lo+n - 1) z1 (by lia) (by lia)
    lia
   have key:=iT (rk:=rk) (xs:=arrOf st) (i:=lo) (j:=lo+n) (by lia) hall
   refine MK (dW ?_)
   refine MK (OY (N6 ⟨rfl,?_⟩))
   refine MK (Np (show wpS _ _ _ _ (Kc lo (n+1) nrem) _ _ from rest _ (hB.arr (Po.mp (Qt _ _ _ _))) (kY (by lia) (ML _) (by lia)) (fQ (fun a b z1 z2 z3=>?_) (by lia) ?_)) fun c st2 hc=>?_)
   ·show R rk (mirror _ _ _ _) b≤R rk (mirror _ _ _ _) a
    rw [key,key,hall b (by lia) z3,hall a z1 (by lia)]; exact N5 _
   ·show R rk (mirror _ _ _ _) _≤R rk (mirror _ _ _ _) _
    rw [key,key]; lia
   ·obtain ⟨r,m,neq⟩:=c
    obtain ⟨b1,b2,b3,b4,b5,b6,b7,b8⟩:=hc
    dsimp only at b3 b4 b5 b6 b7 b8 ⊢
    rw [b3]
    dsimp only
    by_cases hq0:neq>0
    ·rw [if_pos hq0]
     have hsz2:=b1.size
     have key2:=iT (rk:=rk) (xs:=arrOf st2) (i:=lo+m - (neq+1)) (j:=lo+m) (by lia) b8
     refine MK (dW (MK (dW (MK (Np (show wpS _ _ _ _ (asc lo m nrem) _ _ from iU (Q:=Q) hC (b1.arr (Po.mp (Qt _ _ _ _))) hn (by lia) b5 (fun a b z1 z2 z3=>?_) fun k st3 c1 c2 c3 c4 c5=>h k st3 c1 ((b2.trans (kY (by lia) (by lia) (by lia))).trans c2) c3 c4 c5) fun c st4 hc=>?_)))))
     ·show R rk (mirror _ _ _ _) b≤R rk (mirror _ _ _ _) a
      rw [key2,key2]; exact b6 a b z1 z2 z3
     ·obtain ⟨r,k⟩:=c
      obtain ⟨e,hQ⟩:=hc
      dsimp only at e hQ ⊢
      rw [e]
      exact MM hQ
    ·rw [if_neg hq0]
     refine MK (dW (MK (Np (show wpS _ _ _ _ (asc lo m nrem) _ _ from iU (Q:=Q) hC b1 hn (by lia) b5 b6 fun k st3 c1 c2 c3 c4 c5=>h k st3 c1 (b2.trans c2) c3 c4 c5) fun c st4 hc=>?_)))
     obtain ⟨r,k⟩:=c
     obtain ⟨e,hQ⟩:=hc
     dsimp only at e hQ ⊢
     rw [e]
     exact MM hQ
 ·rw [if_neg hgt]
  have e1:n=1:=by lia
  subst e1
  refine MK (OY (N6 ⟨rfl,?_⟩))
  refine MK (Np (show wpS _ _ _ _ (Kc lo (1+1) nrem) _ _ from rest st hB .refl (fQ (fun a b z1 z2 z3=>?_) (ML _) (OG hlt))) fun c st2 hc=>?_)
  ·have:a=b:=by lia
   subst this; exact N5 _
  ·obtain ⟨r,m,neq⟩:=c
   obtain ⟨b1,b2,b3,b4,b5,b6,b7,b8⟩:=hc
   dsimp only at b3 b4 b5 b6 b7 b8 ⊢
   rw [b3]
   dsimp only
   by_cases hq0:neq>0
   ·rw [if_pos hq0]
    have hsz2:=b1.size
    have key2:=iT (rk:=rk) (xs:=arrOf st2) (i:=lo+m - (neq+1)) (j:=lo+m) (by lia) b8
    refine MK (dW (MK (dW (MK (Np (show wpS _ _ _ _ (asc lo m nrem) _ _ from iU (Q:=Q) hC (b1.arr (Po.mp (Qt _ _ _ _))) hn (by lia) b5 (fun a b z1 z2 z3=>?_) fun k st3 c1 c2 c3 c4 c5=>h k st3 c1 ((b2.trans (kY (by lia) (by lia) (by lia))).trans c2) c3 c4 c5) fun c st4 hc=>?_)))))
    ·show R rk (mirror _ _ _ _) b≤R rk (mirror _ _ _ _) a
     rw [key2,key2]; exact b6 a b z1 z2 z3
    ·obtain ⟨r,k⟩:=c
     obtain ⟨e,hQ⟩:=hc
     dsimp only at e hQ ⊢
     rw [e]
     exact MM hQ
   ·rw [if_neg hq0]
    refine MK (dW (MK (Np (show wpS _ _ _ _ (asc lo m nrem) _ _ from iU (Q:=Q) hC b1 hn (by lia) b5 b6 fun k st3 c1 c2 c3 c4 c5=>h k st3 c1 (b2.trans c2) c3 c4 c5) fun c st4 hc=>?_)))
    obtain ⟨r,k⟩:=c
    obtain ⟨e,hQ⟩:=hc
    dsimp only at e hQ ⊢
    rw [e]
    exact MM hQ
end
section
variable {st:SortSt} {lo:Nat}
theorem Fc (hs:src<xs.size) (hd:d≤src) (k):R rk (bubble xs src d) k=if k=src - d then R rk xs src else if src - d<k∧k≤src then R rk xs (k - 1) else R rk xs k:=by
 have e:=getElem?_bubble hs d hd k
 by_cases h1:k=src - d
 ·rw [if_pos h1] at e ⊢; exact bY e
 ·rw [if_neg h1] at e ⊢
  by_cases h2:src - d<k∧k≤src
  ·rw [if_pos h2] at e ⊢; exact bY e
  ·rw [if_neg h2] at e ⊢; exact bY e
theorem Ai (h:Q () (setArr st (bubble (arrOf st) i (i - j)))):wpS (model prog w) A E s (moveDown' i j) Q st :=
 Ot (f:=fun s=>setArr s (bubble (arrOf s) i (i - j))) h
noncomputable def binarySort':Nat→Nat→Nat→StateT SortSt Sem Bool:=sortPriv% PySem.Builtin.binarySort
local macro_rules | `(tactic| walk_at "dl binarySort")=>do
 let i:=Pb (O1 `PySem.Builtin.List.W1All `PySem.Builtin.binarySort)
 `(tactic| delta $i)
theorem wpS_binarySort (hC:iC prog w A s κ rk L) (hB:Bs κ L st) (hn:lo+n≤L.length) (hok:ok≤n) (hs:Seg rk (arrOf st) lo (lo+ok))
 (h:∀ st',Bs κ L st'→Mv st st' lo (lo+n)→Seg rk (arrOf st') lo (lo+n)→Q true st'):wpS (model prog w) A E s (binarySort' lo n ok) Q st:=by
 unfold binarySort'
 walk_at "dl binarySort"
 dsimp only
 refine MK (Np (NS (I:=fun k c st'=>c.1=none∧Bs κ L st'∧Mv st st' lo (lo+n)∧Seg rk (arrOf st') lo (lo+min k n)) (Q:=fun c st'=>c.1=none∧Bs κ L st'∧Mv st st' lo (lo+n)∧Seg rk (arrOf st') lo (lo+n)) ?step ?fin ?init) ?post)
 case post =>
  rintro ⟨c,u⟩ st' ⟨hc,jA,hM',hs'⟩
  dsimp only at hc ⊢
  rw [hc]
  exact MM (h st' jA hM' hs')
 case init =>
  refine ⟨rfl,hB,.refl,fun a b z1 z2 z3=>?_⟩
  by_cases h1:ok=0
  ·have:a=b:=by lia
   subst this; exact N5 _
  ·exact hs a b z1 z2 (by lia)
 case fin =>
  rintro c st' ⟨hc,jA,hM',hs'⟩
  rw [show min (max (max ok 1) n) n=n by lia] at hs'
  exact ⟨hc,jA,hM',hs'⟩
 case step =>
  rintro k ⟨c,u⟩ st' hak hkn ⟨rfl,jA,hM',hs'⟩
  rw [show min k n=k by lia] at hs'
  have hsz:=jA.size
  refine MK (Np (NS (I:=fun x c st2=>st2=st'∧∃ l r,c=(none,l,r)∧l≤r∧r≤k∧r - l≤k - x∧(∀ i,i<l→R rk (arrOf st') (lo+i)≤R rk (arrOf st') (lo+k))∧(∀ i,r≤i→i<k→R rk (arrOf st') (lo+k)<R rk (arrOf st') (lo+i)))
   (Q:=fun c st2=>st2=st'∧∃ l r,c=(none,l,r)∧l≤k∧(∀ i,i<l→R rk (arrOf st') (lo+i)≤R rk (arrOf st') (lo+k))∧(∀ i,l≤i→i<k→R rk (arrOf st') (lo+k)<R rk (arrOf st') (lo+i))) ?istep ?ifin ⟨rfl,0,k,rfl,by lia,by lia,by lia,fun i hi=>by lia,fun i h1 h2=>by lia⟩) ?ipost)
  case ifin =>
   rintro c st2 ⟨rfl,l,r,rfl,a1,a2,a3,a4,a5⟩
   have:l=r:=by lia
   subst this
   exact ⟨rfl,l,l,rfl,a2,a4,a5⟩
  case istep =>
   rintro x c st2 _ hx ⟨rfl,l,r,rfl,a1,a2,a3,a4,a5⟩
   dsimp only
   by_cases hge:l≥r
   ·rw [if_pos hge]
    have:l=r:=by lia
    subst this
    exact MM ⟨rfl,l,l,rfl,a2,a4,a5⟩
   ·rw [if_neg hge]
    refine MK (kZ hC jA (by lia) (by lia) ?_)
    dsimp only
    by_cases hl:R rk (arrOf st2) (lo+k)<R rk (arrOf st2) (lo+(l+r) / 2)
    ·rw [decide_eq_true hl,if_pos rfl]
     refine MM ⟨rfl,l,(l+r) / 2,rfl,by lia,by lia,by lia,a4,fun i h1 h2=>?_⟩
     exact Int.lt_of_lt_of_le hl (hs' _ _ (by lia) (by lia) (by lia))
    ·rw [decide_eq_false hl,if_neg MV]
     refine MM ⟨rfl,(l+r) / 2+1,r,rfl,by lia,by lia,by lia,fun i h1=>?_,a5⟩
     exact Nm (hs' (lo+i) (lo+(l+r) / 2) (by lia) (by lia) (by lia)) (Int.not_lt.mp hl)
  case ipost =>
   rintro c st2 ⟨rfl,l,r,rfl,hlk,a4,a5⟩
   dsimp only
   have e1:lo+k - (lo+l)=k - l:=by lia
   refine MK (Ai (MM ⟨rfl,jA.arr (Po.mp (bubble_perm _ _ _)),?_,?_⟩))
   ·refine hM'.trans ⟨fun i hi=>?_,rfl⟩
    have e:=getElem?_bubble (xs:=arrOf st2) (src:=lo+k) (by lia) (lo+k - (lo+l)) (by lia) i
    rw [if_neg (by lia),if_neg (by lia)] at e
    exact e
   ·rw [show min (k+1) n=k+1 by lia]
    intro i j hi hij hj
    show R rk (bubble (arrOf st2) (lo+k) (lo+k - (lo+l))) i≤R rk (bubble (arrOf st2) (lo+k) (lo+k - (lo+l))) j
    rw [Fc (by lia) (by lia),Fc (by lia) (by lia),e1]
    have sub:∀ i,lo≤i→lo+(i - lo)=i:=fun i hi=>by lia
    have f4:∀ i,lo≤i→i<lo+l→R rk (arrOf st2) i≤R rk (arrOf st2) (lo+k):=fun i h1 h2=>by have:=a4 (i - lo) (by lia); rwa [sub i h1] at this
    have f5:∀ i,lo+l≤i→i<lo+k→R rk (arrOf st2) (lo+k)<R rk (arrOf st2) i:=fun i h1 h2=>by have:=a5 (i - lo) (by lia) (by lia); rwa [sub i (by lia)] at this
    repeat' split
    all_goals first
     | (exfalso; lia)
     | exact N5 _
     | exact f4 _ (by lia) (by lia)
     | exact OG (f5 _ (by lia) (by lia))
     | exact hs' _ _ (by lia) (by lia) (by lia)
theorem m9:∀ (l:List Keyed) (k sa:Nat) (A:Array Keyed),sa+k+l.length≤A.size→((l.zipIdx k).foldl (fun a (x:Keyed×Nat)=>a.setIfInBounds (sa+x.2) x.1) A).size=A.size ∧
 ∀ i:Nat,((l.zipIdx k).foldl (fun a (x:Keyed×Nat)=>a.setIfInBounds (sa+x.2) x.1) A)[i]?=if sa+k≤i∧i<sa+k+l.length then l[i - (sa+k)]? else A[i]?
 | [],k,sa,A,h=>⟨rfl,fun i=>by rw [if_neg (by simp only [Oo]; lia)]; rfl⟩
 | x::l,k,sa,A,h=>by
  rw [Nl] at h
  obtain ⟨h1,h2⟩:=m9 l (k+1) sa (A.setIfInBounds (sa+k) x) (by rw [Array.size_setIfInBounds]; lia)
  rw [List.zipIdx_cons,N9]
  refine ⟨by rw [h1,Array.size_setIfInBounds],fun i=>?_⟩
  rw [h2 i,Nl]
  by_cases c1:sa+(k+1)≤i∧i<sa+(k+1)+l.length
  ·rw [if_pos c1,if_pos (by lia),show i - (sa+k)=i - (sa+(k+1))+1 by lia,List.getElem?_cons_succ]
  ·rw [if_neg c1]
   by_cases c2:i=sa+k
   ·subst c2
    rw [if_pos (by lia),Nat.sub_self,List.getElem?_cons_zero,Array.getElem?_setIfInBounds_self_of_lt (by lia)]
   ·rw [if_neg (by lia),Array.getElem?_setIfInBounds_ne (by lia)]
end
noncomputable def gT:Nat→StateT SortSt Sem Bool:=sortPriv% PySem.Builtin.mergeAt
local macro_rules | `(tactic| walk_at "dl mergeAt")=>do
 let i:=Pb (O1 `PySem.Builtin.List.W1All `PySem.Builtin.mergeAt)
 `(tactic| delta $i)
section
variable {st:SortSt}
theorem DJ (h:Q ⟨⟩ st1):wpS M A E s (set st1:StateT SortSt Sem PUnit) Q st:=by
 unfold wpS; rw [StateT.run_set]; exact MJ ⟨rfl,h⟩
theorem wW (hC:iC prog w A s κ rk L) (hk:kindOf st=κ) (hkey:key∈L) (mx:∀ (i:Nat) (p:Keyed),xs[i]?=some p→p∈L) (hn:base+n≤xs.size) (us:Seg rk xs base (base+n)) (hh:hint<n)
 (h:∀ k,k≤n→(∀ i,base≤i→i<base+k→R rk xs i≤rk key)→(∀ i,base+k≤i→i<base+n→rk key<R rk xs i)→Q (some k) st):wpS (model prog w) A E s (cH false key xs base n hint) Q st:=by
 obtain ⟨k,h1,h2⟩:=kU (fun i=>R rk xs (base+i)) (rk key) n fun i j hij hj=>us _ _ (by lia) (by lia) (by lia)
 refine fc hC hk hkey (fun i hi=>⟨xs[base+i]'(by lia),Nf _,mx _ _ (Nf _)⟩) (fun i hi=>by simp only [ND,if_false]; exact h2 i hi) h1 hh (h k h1 (fun i hi hk=>?_) fun i hi hk=>?_)
 ·have:=(h2 (i - base) (by lia)).mpr (by lia)
  rwa [show base+(i - base)=i by lia] at this
 ·have:=mt (h2 (i - base) (by lia)).mp (by lia)
  rw [show base+(i - base)=i by lia] at this
  lia
theorem wX (hC:iC prog w A s κ rk L) (hk:kindOf st=κ) (hkey:key∈L) (mx:∀ (i:Nat) (p:Keyed),xs[i]?=some p→p∈L) (hn:base+n≤xs.size) (us:Seg rk xs base (base+n)) (hh:hint<n)
 (h:∀ k,k≤n→(∀ i,base≤i→i<base+k→R rk xs i<rk key)→(∀ i,base+k≤i→i<base+n→rk key≤R rk xs i)→Q (some k) st):wpS (model prog w) A E s (cH true key xs base n hint) Q st:=by
 obtain ⟨k,h1,h2⟩:=kW (fun i=>R rk xs (base+i)) (rk key) n fun i j hij hj=>us _ _ (by lia) (by lia) (by lia)
 refine fc hC hk hkey (fun i hi=>⟨xs[base+i]'(by lia),Nf _,mx _ _ (Nf _)⟩) (fun i hi=>by simp only [if_true]; exact h2 i hi) h1 hh (h k h1 (fun i hi hk=>?_) fun i hi hk=>?_)
 ·have:=(h2 (i - base) (by lia)).mpr (by lia)
  rwa [show base+(i - base)=i by lia] at this
 ·have:=mt (h2 (i - base) (by lia)).mp (by lia)
  rw [show base+(i - base)=i by lia] at this
  lia
theorem dX {xs:Array Keyed} (h:(xs.extract i j)[m]?=some p):xs[i+m]?=some p∧i+m<j:=by
 rw [QL] at h
 split at h
 ·exact ⟨h,by lia⟩
 ·cases h
theorem vf {lo hi i j:Nat} (h:Seg rk xs lo hi) (h1:lo≤i) (h2:j≤hi):Up rk (xs.extract i j):=fun a b p q hab e1 e2=>by
 obtain ⟨f1,g1⟩:=dX e1
 obtain ⟨f2,g2⟩:=dX e2
 have:=h (i+a) (i+b) (by lia) (by lia) (by lia)
 rwa [dG f1,dG f2] at this
theorem qy (hC:iC prog w A s κ rk L) (hB:Bs κ L st) (p1:(pendingOf st)[i]?=some (sa,na,pw)) (p2:(pendingOf st)[i+1]?=some (sa+na,nb,pw2)) (h1:1≤na) (h2:1≤nb) (hz:sa+na+nb≤L.length)
 (s1:Seg rk (arrOf st) sa (sa+na)) (s2:Seg rk (arrOf st) (sa+na) (sa+na+nb))
 (h:∀ st',Bs κ L st'→(∀ j,j<sa∨sa+na+nb≤j→(arrOf st')[j]?=(arrOf st)[j]?)→pendingOf st'=((pendingOf st).setIfInBounds i (sa,na+nb,pw)).eraseIdxIfInBounds (i+1)→Seg rk (arrOf st') sa (sa+na+nb)→Q true st') :
 wpS (model prog w) A E s (gT i) Q st:=by
 unfold gT
 walk_at "dl mergeAt"
 dsimp only
 refine MK (Od ?_)
 rw [p1,p2]
 dsimp only
 have hsz:=hB.size
 have mL:∀ (i:Nat) (p:Keyed),(arrOf st)[i]?=some p→p∈L:=fun i p e=>hB.perm.mem_iff.mp (by
  obtain ⟨h1,h2⟩:=Pp.mp e
  rw [← h2,RV]; exact Si _)
 refine MK (DJ ?_)
 obtain ⟨key,ek,hkL⟩:=hB.at (i:=sa+na) (by lia)
 refine MK (aN ek ?_)
 have rkey:R rk (arrOf st) (sa+na)=rk key:=dG ek
 refine MK (wW hC hB.kind hkL mL (by show _≤(arrOf st).size; lia) s1 (by lia) fun k k1 k2 k3=>?_)
 dsimp only
 by_cases e0:na - k=0
 ·rw [if_pos (by simpa using e0)]
  refine MM (h _ ⟨hB.perm,hB.kind,hB.failed⟩ (fun _ _=>rfl) rfl fun a b z1 z2 z3=>?_)
  by_cases hb:b<sa+na
  ·exact s1 a b z1 z2 hb
  ·by_cases ha:sa+na≤a
   ·exact s2 a b ha z2 z3
   ·refine Nm (k2 a z1 (by lia)) ?_
    rw [← rkey]; exact s2 (sa+na) b (ML _) (by lia) z3
 rw [if_neg (by simpa using e0)]
 obtain ⟨key2,ek2,hk2L⟩:=hB.at (i:=sa+k+(na - k) - 1) (by lia)
 have rkey2:R rk (arrOf st) (sa+na - 1)=rk key2:=by rw [← dG (rk:=rk) ek2]; congr 1; lia
 refine MK (aN ek2 ?_)
 refine MK (wX hC (by exact hB.kind) hk2L mL (by show _≤(arrOf st).size; lia) s2 (by lia) fun m m1 m2 m3=>?_)
 dsimp only
 by_cases e1:m=0
 ·exfalso
  have a1:=m3 (sa+na) (by lia) (by lia)
  have a2:=k3 (sa+na - 1) (by lia) (by lia)
  rw [rkey2] at a2; rw [rkey] at a1; lia
 rw [if_neg (by simpa using e1)]
 have mx:∀ (i:Nat) (p:Keyed),((arrOf st).extract (sa+k) (sa+na))[i]?=some p→p∈L:=fun i p e=>mL _ p (dX e).1
 have my:∀ (i:Nat) (p:Keyed),((arrOf st).extract (sa+na) (sa+na+m))[i]?=some p→p∈L:=fun i p e=>mL _ p (dX e).1
 have ux:Up rk ((arrOf st).extract (sa+k) (sa+na)):=vf s1 (by lia) (ML _)
 have uy:Up rk ((arrOf st).extract (sa+na) (sa+na+m)):=vf s2 (ML _) (by lia)
 have zx:((arrOf st).extract (sa+k) (sa+na)).size=na - k:=by rw [Array.size_extract]; lia
 have zy:((arrOf st).extract (sa+na) (sa+na+m)).size=m:=by rw [Array.size_extract]; lia
 have h0:∀ p q,((arrOf st).extract (sa+k) (sa+na))[0]?=some p→((arrOf st).extract (sa+na) (sa+na+m))[0]?=some q→rk q≤rk p:=fun p q e2 e3=>by
  obtain ⟨f1,g1⟩:=dX e2
  obtain ⟨f2,g2⟩:=dX e3
  have a1:=k3 (sa+k+0) (by lia) (by lia)
  rw [dG f1] at a1
  have a2:rk q=rk key:=by rw [← rkey,← dG (rk:=rk) f2]; rfl
  lia
 have hl:∀ (j:Nat) (p q:Keyed),((arrOf st).extract (sa+k) (sa+na))[((arrOf st).extract (sa+k) (sa+na)).size - 1]?=some p→((arrOf st).extract (sa+na) (sa+na+m))[j]?=some q→rk q≤rk p:=fun j p q e2 e3=>by
  rw [zx] at e2
  obtain ⟨f1,g1⟩:=dX e2
  obtain ⟨f2,g2⟩:=dX e3
  have a1:=m2 (sa+na+j) (by lia) (by lia)
  rw [dG f2] at a1
  have a2:rk p=rk key2:=by rw [← rkey2,← dG (rk:=rk) f1]; congr 1; lia
  lia
 have fin:∀ (r:Array Keyed) (st2:SortSt),Res rk ((arrOf st).extract (sa+k) (sa+na)) ((arrOf st).extract (sa+na) (sa+na+m)) r→kindOf st2=kindOf st→arrOf st2=arrOf st→pendingOf st2=((pendingOf st).setIfInBounds i (sa,na+nb,pw)).eraseIdxIfInBounds (i+1)→failedOf st2=failedOf st →
  Q true (setArr st2 (PY (fun a (x:Keyed×Nat)=>a.setIfInBounds (sa+k+x.2) x.1) (arrOf st2) r.toList.zipIdx)):=fun r st2 hr e2 e3 e4 e5=>by
  have hlen:r.toList.length=na - k+m:=by
   have:=hr.1.length_eq
   simp only [Nr,NC,zx,zy] at this ⊢
   exact this
  obtain ⟨w1,w2⟩:=m9 r.toList 0 (sa+k) (arrOf st) (by lia)
  generalize hW:PY (fun a (x:Keyed×Nat)=>a.setIfInBounds (sa+k+x.2) x.1) (arrOf st) r.toList.zipIdx=W at w1 w2
  rw [e3,hW]
  have rW:∀ i,sa+k≤i→i<sa+na+m→R rk W i=R rk r (i - (sa+k)):=fun i z1 z2=>by
   refine bY ?_
   rw [w2,if_pos (by lia),NB]; rfl
  have rO:∀ i,(i<sa+k∨sa+na+m≤i)→R rk W i=R rk (arrOf st) i:=fun i z=>by
   refine bY ?_
   rw [w2,if_neg (by lia)]
  have elt:∀ i,sa+k≤i→i<sa+na+m→∃ t,sa+k≤t∧t<sa+na+m∧R rk W i=R rk (arrOf st) t:=fun i z1 z2=>by
   have hi:i - (sa+k)<r.size:=by rw [← NC]; lia
   have e6:r[i - (sa+k)]?=some r[i - (sa+k)]:=Nf hi
   have hm:r[i - (sa+k)]∈r.toList:=by rw [RV]; exact Si _
   rw [rW i z1 z2,dG e6]
   rcases Ng.mp (hr.1.mem_iff.mp hm) with z | z
   ·obtain ⟨t,t1,t2,t3⟩:=uZ z
    exact ⟨t,t1,by lia,(dG t3).symm⟩
   ·obtain ⟨t,t1,t2,t3⟩:=uZ z
    exact ⟨t,by lia,by lia,(dG t3).symm⟩
  have ur:=G4 hr.2
  refine h _ ⟨?_,e2.trans hB.kind,e5.trans hB.failed⟩ (fun j hj=>?_) e4 fun a b z1 z2 z3=>?_
  ·
   refine List.Perm.trans ?_ hB.perm
   have eW:W.toList=(arrOf st).toList.take (sa+k)++r.toList++(arrOf st).toList.drop (sa+na+m):=by
    apply Q6
    intro j
    rw [NB,w2,Nb,P6,P6,NW,PB,Qe (by rw [NC]; lia)]
    by_cases c1:j<sa+k
    ·rw [if_neg (by lia),if_pos c1,QF c1,NB]
    ·rw [if_neg c1]
     by_cases c2:j - (sa+k)<r.toList.length
     ·rw [if_pos (by lia),if_pos c2]; rfl
     ·rw [if_neg (by lia),if_neg c2,NB]; congr 1; lia
   have eA:(arrOf st).toList=(arrOf st).toList.take (sa+k)++(((arrOf st).extract (sa+k) (sa+na)).toList++((arrOf st).extract (sa+na) (sa+na+m)).toList)++(arrOf st).toList.drop (sa+na+m):=by
    apply Q6
    intro j
    rw [Nb,Nb,P6,P6,P6,NW,NC,NC,NC,zx,zy,PB,Qe (by lia)]
    by_cases c1:j<sa+k
    ·rw [if_pos c1,QF c1]
    ·rw [if_neg c1]
     by_cases c2:j - (sa+k)<na - k
     ·rw [if_pos c2,NB,NB,QL,if_pos (by lia)]; congr 1; lia
     ·rw [if_neg c2]
      by_cases c3:j - (sa+k) - (na - k)<m
      ·rw [if_pos c3,NB,NB,QL,if_pos (by lia)]; congr 1; lia
      ·rw [if_neg c3]; congr 1; lia
   show W.toList.Perm _
   rw [eW]
   conv=>rhs; rw [eA]
   exact (Pu _ hr.1).append_right _
  ·show W[j]?=_
   rw [w2,if_neg (by lia)]
  ·show R rk W a≤R rk W b
   have kk:∀ t,sa+na≤t→t<sa+na+nb→rk key≤R rk (arrOf st) t:=fun t t1 t2=>by rw [← rkey]; exact s2 _ t (ML _) t1 t2
   have kk2:∀ t,sa≤t→t<sa+na→R rk (arrOf st) t≤rk key2:=fun t t1 t2=>by rw [← rkey2]; exact s1 t _ t1 (by lia) (by lia)
   by_cases c1:a<sa+k
   ·rw [rO a (.inl c1)]
    have la:=k2 a z1 c1
    by_cases d1:b<sa+k
    ·rw [rO b (.inl d1)]; exact s1 a b z1 z2 (by lia)
    ·by_cases d2:b<sa+na+m
     ·obtain ⟨t,t1,t2,t3⟩:=elt b (by lia) d2
      rw [t3]
      by_cases d3:t<sa+na
      ·exact s1 a t z1 (by lia) d3
      ·exact Nm la (kk t (by lia) (by lia))
     ·rw [rO b (.inr (by lia))]
      exact Nm la (kk b (by lia) z3)
   ·by_cases c2:a<sa+na+m
    ·by_cases d2:b<sa+na+m
     ·rw [rW a (by lia) c2,rW b (by lia) d2]
      have f1:r[a - (sa+k)]?=some (r[a - (sa+k)]'(by rw [← NC]; lia)):=Nf _
      have f2:r[b - (sa+k)]?=some (r[b - (sa+k)]'(by rw [← NC]; lia)):=Nf _
      rw [dG f1,dG f2]
      exact ur _ _ _ _ (by lia) f1 f2
     ·obtain ⟨t,t1,t2,t3⟩:=elt a (by lia) c2
      rw [t3,rO b (.inr (by lia))]
      by_cases d3:t<sa+na
      ·exact Nm (kk2 t (by lia) d3) (m3 b (by lia) z3)
      ·exact s2 t b (by lia) (by lia) z3
    ·rw [rO a (.inr (by lia)),rO b (.inr (by lia))]
     exact s2 a b (by lia) z2 z3
 have post:∀ (r:Array Keyed) (st2:SortSt),failedOf st2=failedOf st→(failedOf st2).isNone=true:=fun r st2 e=>by rw [e,hB.failed]; rfl
 by_cases hle:na - k≤m
 ·rw [if_pos hle]
  refine MK (qu hC (by exact hB.kind) mx my ux uy (by show 1≤((arrOf st).extract (sa+k) (sa+na)).size; lia) (by show 1≤((arrOf st).extract (sa+na) (sa+na+m)).size; lia) h0 hl fun r st2 hr hK=>?_)
  refine MK (Ot (MK (Od ?_)))
  have e9:failedOf st2=none:=hK.f.trans hB.failed
  have z:=fin r st2 hr hK.k hK.a hK.p hK.f
  refine MM ?_
  show Q (failedOf st2).isNone _
  rw [e9]; exact z
 ·rw [if_neg hle]
  refine MK (qx hC (by exact hB.kind) mx my ux uy (by show 1≤((arrOf st).extract (sa+k) (sa+na)).size; lia) (by show 1≤((arrOf st).extract (sa+na) (sa+na+m)).size; lia) h0 hl fun r st2 hr hK=>?_)
  refine MK (Ot (MK (Od ?_)))
  have e9:failedOf st2=none:=hK.f.trans hB.failed
  have z:=fin r st2 hr hK.k hK.a hK.p hK.f
  refine MM ?_
  show Q (failedOf st2).isNone _
  rw [e9]; exact z
end
noncomputable abbrev Kd:Nat→Nat→Nat→Nat:=sortPriv% PySem.Builtin.minRun
noncomputable def qz:StateT SortSt Sem Unit:=sortPriv% PySem.Builtin.sortRuns
local macro_rules | `(tactic| walk_at "dl sortRuns")=>do
 let i:=Pb (O1 `PySem.Builtin.List.W1All `PySem.Builtin.sortRuns)
 `(tactic| delta $i)
noncomputable def eG (rk:Keyed→Int) (xs:Array Keyed):Nat→List (Nat×Nat×Nat)→Nat→Prop
 | a,[],b=>a=b
 | a,p::r,b=>p.1=a∧1≤p.2.1∧Seg rk xs a (a+p.2.1)∧eG rk xs (a+p.2.1) r b
section
theorem eG.le:∀ {ps:List (Nat×Nat×Nat)} {a b:Nat},eG rk xs a ps b→a+ps.length≤b
 | [],a,b,h=>by have:a=b:=h; simp; lia
 | p::r,a,b,h=>by
  obtain ⟨_,h1,_,h2⟩:=h
  have:=h2.le
  rw [Nl]; lia
theorem eG.app:∀ {ps qs:List (Nat×Nat×Nat)} {a b:Nat},eG rk xs a (ps++qs) b↔∃ m,eG rk xs a ps m∧eG rk xs m qs b
 | [],qs,a,b=>⟨fun h=>⟨a,rfl,h⟩,fun ⟨m,h1,h2⟩=>by have:a=m:=h1; subst this; exact h2⟩
 | p::r,qs,a,b=>by
  constructor
  ·rintro ⟨h1,h2,h3,h4⟩
   obtain ⟨m,h5,h6⟩:=eG.app.mp h4
   exact ⟨m,⟨h1,h2,h3,h5⟩,h6⟩
  ·rintro ⟨m,⟨h1,h2,h3,h5⟩,h6⟩
   exact ⟨h1,h2,h3,eG.app.mpr ⟨m,h5,h6⟩⟩
theorem eG.congr:∀ {ps:List (Nat×Nat×Nat)} {a b:Nat},eG rk xs a ps b→(∀ i,a≤i→i<b→R rk ys i=R rk xs i)→eG rk ys a ps b
 | [],a,b,h,_=>h
 | p::r,a,b,h,e=>by
  obtain ⟨h1,h2,h3,h4⟩:=h
  have hl:=h4.le
  refine ⟨h1,h2,fun i j z1 z2 z3=>?_,h4.congr fun i z1 z2=>e i (by lia) z2⟩
  rw [e i z1 (by lia),e j (by lia) (by lia)]
  exact h3 i j z1 z2 z3
theorem eG.mod (f) (hf:∀ p,(f p).1=p.1∧(f p).2.1=p.2.1):∀ {ps:List (Nat×Nat×Nat)} {a b:Nat} (i:Nat),eG rk xs a ps b→eG rk xs a (ps.modify i f) b
 | [],a,b,i,h=>by simpa using h
 | p::r,a,b,0,h=>by
  obtain ⟨h1,h2,h3,h4⟩:=h
  rw [List.modify_zero_cons]
  refine ⟨(hf p).1.trans h1,by rw [(hf p).2]; exact h2,by rw [(hf p).2]; exact h3,by rw [(hf p).2]; exact h4⟩
 | p::r,a,b,i+1,h=>by
  obtain ⟨h1,h2,h3,h4⟩:=h
  rw [List.modify_succ_cons]
  exact ⟨h1,h2,h3,h4.mod f hf i⟩
theorem eG.two:∀ {ps:List (Nat×Nat×Nat)} {a b:Nat} (i:Nat),eG rk xs a ps b→i+1<ps.length→∃ s n pw m pw2,ps[i]?=some (s,n,pw)∧ps[i+1]?=some (s+n,m,pw2)∧1≤n∧1≤m∧a≤s∧s+n+m≤b∧Seg rk xs s (s+n)∧Seg rk xs (s+n) (s+n+m) ∧
 ∀ ys:Array Keyed,(∀ j,j<s∨s+n+m≤j→R rk ys j=R rk xs j)→Seg rk ys s (s+n+m)→eG rk ys a ((ps.set i (s,n+m,pw)).eraseIdx (i+1)) b
 | [],a,b,i,h,hi=>by simp at hi
 | [p],a,b,i,h,hi=>by simp at hi
 | p::q::r,a,b,0,h,hi=>by
  obtain ⟨h1,h2,h3,h4,h5,h6,h7⟩:=h
  obtain ⟨s,n,pw⟩:=p
  obtain ⟨s',m,pw2⟩:=q
  dsimp only at h1 h2 h3 h4 h5 h6 h7
  subst h1; subst h4
  have hl:=h7.le
  refine ⟨s,n,pw,m,pw2,rfl,rfl,h2,h5,ML _,by lia,h3,h6,fun ys e hs=>?_⟩
  refine ⟨rfl,by dsimp only; lia,by dsimp only; rw [← Nat.add_assoc]; exact hs,?_⟩
  dsimp only
  rw [← Nat.add_assoc]
  exact h7.congr fun i z1 z2=>e i (.inr z1)
 | p::q::r,a,b,i+1,h,hi=>by
  obtain ⟨h1,h2,h3,h4⟩:=h
  obtain ⟨s,n,pw,m,pw2,e1,e2,a1,a2,a3,a4,a5,a6,a7⟩:=h4.two i (by simpa using hi)
  refine ⟨s,n,pw,m,pw2,by simpa using e1,by simpa using e2,a1,a2,by lia,a4,a5,a6,fun ys e hs=>?_⟩
  rw [List.set_cons_succ,List.eraseIdx_cons_succ]
  refine ⟨h1,h2,fun j j' z1 z2 z3=>?_,a7 ys e hs⟩
  rw [e j (.inl (by lia)),e j' (.inl (by lia))]
  exact h3 j j' z1 z2 z3
end
section
variable {st:SortSt}
theorem gU (hC:iC prog w A s κ rk L) (hB:Bs κ L st) (hc:eG rk (arrOf st) 0 (pendingOf st).toList b) (hb:b≤L.length) (hi:i+1<(pendingOf st).size)
 (h:∀ st',Bs κ L st'→eG rk (arrOf st') 0 (pendingOf st').toList b→(∀ j,b≤j→(arrOf st')[j]?=(arrOf st)[j]?)→(pendingOf st').size+1=(pendingOf st).size→Q true st'):wpS (model prog w) A E s (gT i) Q st:=by
 obtain ⟨sa,n,pw,m,pw2,e1,e2,a1,a2,a3,a4,a5,a6,a7⟩:=hc.two i (by rw [NC]; exact hi)
 rw [NB] at e1 e2
 refine qy hC hB e1 e2 a1 a2 (by lia) a5 a6 fun st' b1 b2 b3 b4=>h st' b1 ?_ (fun j hj=>b2 j (.inr (by lia))) ?_
 ·rw [b3,Sy,Array.toList_setIfInBounds]
  exact a7 _ (fun j hj=>bY (b2 j hj)) b4
 ·rw [b3,← NC,Sy,Array.toList_setIfInBounds,List.length_eraseIdx,List.length_set,NC,if_pos hi]; lia
theorem wpS_sortRuns (hC:iC prog w A s κ rk L) (hB:Bs κ L st) (hp:pendingOf st= #[]) (h:∀ st',Bs κ L st'→Seg rk (arrOf st') 0 L.length→Q () st'):wpS (model prog w) A E s qz Q st:=by
 unfold qz
 walk_at "dl sortRuns"
 dsimp only
 refine MK (Od ?_)
 have hsz:=hB.size
 rw [hsz]
 obtain ⟨mr,hmr⟩:∃ mr,Kd L.length L.length 0=mr:=⟨_,rfl⟩
 delta Kd at hmr
 rw [hmr]
 refine MK (Np (NS (I:=fun x c st'=>c.1=none∧Bs κ L st'∧eG rk (arrOf st') 0 (pendingOf st').toList c.2∧c.2≤L.length∧(x≤c.2∨L.length≤c.2)) (Q:=fun c st'=>c.1=none∧Bs κ L st'∧eG rk (arrOf st') 0 (pendingOf st').toList L.length) ?step ?fin ?init) ?post)
 case init=>exact ⟨rfl,hB,by rw [hp]; rfl,Nu _,.inl (ML _)⟩
 case fin =>
  rintro ⟨c,lo⟩ st' ⟨rfl,jA,hC',h1,h2⟩
  dsimp only at hC' h1 h2 ⊢
  have e:lo=L.length:=by
   rcases h2 with z | z
   ·lia
   ·lia
  subst e
  exact ⟨rfl,jA,hC'⟩
 case step =>
  rintro x ⟨c,lo⟩ st' _ hx ⟨rfl,jA,hC',h1,h2⟩
  dsimp only at hC' h1 h2 ⊢
  by_cases hge:lo≥L.length
  ·rw [if_pos hge]
   have e:lo=L.length:=by lia
   subst e
   exact MM ⟨rfl,jA,hC'⟩
  rw [if_neg hge]
  refine MK (show wpS _ _ _ _ (countRun' lo (L.length - lo)) _ _ from wpS_countRun hC jA (by lia) (by lia) fun m st1 hB1 hM1 m1 m2 ms=>?_)
  have hC1:eG rk (arrOf st1) 0 (pendingOf st1).toList lo:=by
   rw [hM1.pend]; exact hC'.congr fun i _ z=>bY (hM1.out i (.inl z))
  dsimp only
  by_cases hmin:m<mr
  ·rw [if_pos (show m<_ from hmin)]
   refine MK (OY (N6 ⟨rfl,?_⟩))
   have hf1:m≤min (L.length - lo) mr:=by lia
   have hf2:lo+min (L.length - lo) mr≤L.length:=by lia
   refine MK (show wpS _ _ _ _ (binarySort' lo (min (L.length - lo) mr) m) _ _ from wpS_binarySort hC hB1 hf2 hf1 ms fun st2 hB2 hM2 hS2=>?_)
   have hC2:eG rk (arrOf st2) 0 (pendingOf st2).toList lo:=by
    rw [hM2.pend]; exact hC1.congr fun i _ z=>bY (hM2.out i (.inl z))
   simp only [Qn,ND,if_false]
   generalize hF:min (L.length - lo) mr=F at hf1 hf2 hS2
   have hF':=hF
   clear hM2 hM1
   refine MK (Od ?_)
   rcases hbk:(pendingOf st2).back? with _ | ⟨q1,q2,q3⟩
   ·dsimp only
    refine MK (Ot (MM ⟨rfl,⟨hB2.perm,hB2.kind,hB2.failed⟩,?_,by dsimp only; lia,by dsimp only; lia⟩))
    show eG rk (arrOf st2) 0 ((pendingOf st2).push (lo,F,0)).toList (lo+(F))
    rw [Nq]
    exact eG.app.mpr ⟨lo,hC2,rfl,by dsimp only; lia,hS2,rfl⟩
   ·dsimp only
    refine MK (Np (NS (I:=fun y c st'=>c.1=none∧Bs κ L st'∧eG rk (arrOf st') 0 (pendingOf st').toList lo∧Seg rk (arrOf st') lo (lo+(F))) (Q:=fun c st'=>c.1=none∧Bs κ L st'∧eG rk (arrOf st') 0 (pendingOf st').toList lo∧Seg rk (arrOf st') lo (lo+(F))) ?_ (fun _ _ z=>z) ⟨rfl,hB2,hC2,hS2⟩) ?_)
    ·rintro y ⟨c,u⟩ st3 _ hy ⟨rfl,ud,Cj,Ci⟩
     refine MK (Od ?_)
     by_cases hs1:(pendingOf st3).size>1
     ·rw [if_pos hs1]
      obtain ⟨⟨r1,r2,r3⟩,er⟩:∃ t,(pendingOf st3)[(pendingOf st3).size - 2]?=some t:=⟨_,Nf (show (pendingOf st3).size - 2<(pendingOf st3).size by lia)⟩
      rw [er]
      dsimp only
      split
      ·exact MM ⟨rfl,ud,Cj,Ci⟩
      ·refine MK (show wpS _ _ _ _ (gT ((pendingOf st3).size - 2)) _ _ from gU hC ud Cj (by lia) (by lia) fun st4 hB4 hC4 ho4 hz4=>?_)
       simp only [Qn,ND,if_false]
       exact MM ⟨rfl,hB4,hC4,fun a b z1 z2 z3=>by rw [bY (ho4 a z1),bY (ho4 b (by lia))]; exact Ci a b z1 z2 z3⟩
     ·rw [if_neg hs1]
      exact MM ⟨rfl,ud,Cj,Ci⟩
    ·rintro ⟨c,u⟩ st3 ⟨hc,ud,Cj,Ci⟩
     dsimp only at hc ⊢
     rw [hc]
     dsimp only
     refine MK (Ot (MK (Ot (MM ⟨rfl,⟨ud.perm,ud.kind,ud.failed⟩,?_,by dsimp only; lia,by dsimp only; lia⟩))))
     show eG rk (arrOf st3) 0 (((pendingOf st3).modify ((pendingOf st3).size - 1) _).push (lo,F,0)).toList (lo+(F))
     rw [Nq,Array.toList_modify]
     refine eG.app.mpr ⟨lo,?_,rfl,by dsimp only; lia,Ci,rfl⟩
     refine eG.mod _ (fun p=>?_) _ Cj
     exact ⟨rfl,rfl⟩
  ·rw [if_neg (show ¬ m<_ from hmin)]
   refine MK (Od ?_)
   rcases hbk:(pendingOf st1).back? with _ | ⟨q1,q2,q3⟩
   ·dsimp only
    refine MK (Ot (MM ⟨rfl,⟨hB1.perm,hB1.kind,hB1.failed⟩,?_,by dsimp only; lia,by dsimp only; lia⟩))
    show eG rk (arrOf st1) 0 ((pendingOf st1).push (lo,m,0)).toList (lo+(m))
    rw [Nq]
    exact eG.app.mpr ⟨lo,hC1,rfl,by dsimp only; lia,ms,rfl⟩
   ·dsimp only
    refine MK (Np (NS (I:=fun y c st'=>c.1=none∧Bs κ L st'∧eG rk (arrOf st') 0 (pendingOf st').toList lo∧Seg rk (arrOf st') lo (lo+(m))) (Q:=fun c st'=>c.1=none∧Bs κ L st'∧eG rk (arrOf st') 0 (pendingOf st').toList lo∧Seg rk (arrOf st') lo (lo+(m))) ?_ (fun _ _ z=>z) ⟨rfl,hB1,hC1,ms⟩) ?_)
    ·rintro y ⟨c,u⟩ st3 _ hy ⟨rfl,ud,Cj,Ci⟩
     refine MK (Od ?_)
     by_cases hs1:(pendingOf st3).size>1
     ·rw [if_pos hs1]
      obtain ⟨⟨r1,r2,r3⟩,er⟩:∃ t,(pendingOf st3)[(pendingOf st3).size - 2]?=some t:=⟨_,Nf (show (pendingOf st3).size - 2<(pendingOf st3).size by lia)⟩
      rw [er]
      dsimp only
      split
      ·exact MM ⟨rfl,ud,Cj,Ci⟩
      ·refine MK (show wpS _ _ _ _ (gT ((pendingOf st3).size - 2)) _ _ from gU hC ud Cj (by lia) (by lia) fun st4 hB4 hC4 ho4 hz4=>?_)
       simp only [Qn,ND,if_false]
       exact MM ⟨rfl,hB4,hC4,fun a b z1 z2 z3=>by rw [bY (ho4 a z1),bY (ho4 b (by lia))]; exact Ci a b z1 z2 z3⟩
     ·rw [if_neg hs1]
      exact MM ⟨rfl,ud,Cj,Ci⟩
    ·rintro ⟨c,u⟩ st3 ⟨hc,ud,Cj,Ci⟩
     dsimp only at hc ⊢
     rw [hc]
     dsimp only
     refine MK (Ot (MK (Ot (MM ⟨rfl,⟨ud.perm,ud.kind,ud.failed⟩,?_,by dsimp only; lia,by dsimp only; lia⟩))))
     show eG rk (arrOf st3) 0 (((pendingOf st3).modify ((pendingOf st3).size - 1) _).push (lo,m,0)).toList (lo+(m))
     rw [Nq,Array.toList_modify]
     refine eG.app.mpr ⟨lo,?_,rfl,by dsimp only; lia,Ci,rfl⟩
     refine eG.mod _ (fun p=>?_) _ Cj
     exact ⟨rfl,rfl⟩
 case post =>
  rintro ⟨c,lo⟩ st' ⟨hc,jA,hC'⟩
  dsimp only at hc ⊢
  rw [hc]
  dsimp only
  have hl0:=hC'.le
  rw [NC] at hl0
  refine MK (Np (NS (I:=fun x c st2=>c.1=none∧Bs κ L st2∧eG rk (arrOf st2) 0 (pendingOf st2).toList L.length∧((pendingOf st2).size≤1∨(pendingOf st2).size+x≤L.length)) (Q:=fun c st2=>c.1=none∧Bs κ L st2∧eG rk (arrOf st2) 0 (pendingOf st2).toList L.length∧(pendingOf st2).size≤1) ?mstep ?mfin ⟨rfl,jA,hC',.inr (by lia)⟩) ?mpost)
  case mfin =>
   rintro c2 st2 ⟨a1,a2,a3,a4⟩
   exact ⟨a1,a2,a3,by lia⟩
  case mpost =>
   rintro ⟨c2,u⟩ st2 ⟨a1,a2,a3,a4⟩
   dsimp only at a1 ⊢
   rw [a1]
   refine MM (h st2 a2 ?_)
   rw [← NC] at a4
   match e:(pendingOf st2).toList,a4 with
   | [],_ =>
    rw [e] at a3
    have z:0=L.length:=a3
    intro i j _ _ hj; lia
   | [p],_ =>
    rw [e] at a3
    obtain ⟨b1,b2,b3,b4⟩:=a3
    have z:0+p.2.1=L.length:=b4
    rw [← z]; exact b3
  case mstep =>
   rintro x ⟨c2,u⟩ st2 _ hx ⟨a1,a2,a3,a4⟩
   refine MK (Od ?_)
   by_cases hs1:(pendingOf st2).size≤1
   ·rw [if_pos hs1]
    exact MM ⟨rfl,a2,a3,hs1⟩
   ·rw [if_neg hs1]
    have key:∀ i,i+1<(pendingOf st2).size→wpS (model prog w) A E s (gT i) (fun r st3=>r=true∧Bs κ L st3∧eG rk (arrOf st3) 0 (pendingOf st3).toList L.length∧(pendingOf st3).size+1=(pendingOf st2).size) st2:=fun i hi =>
     gU hC a2 a3 (ML _) hi fun st3 b1 b2 _ b3=>⟨rfl,b1,b2,b3⟩
    refine MK (Np (show wpS _ _ _ _ (gT _) _ _ from key _ ?_) fun r st3 hr=>?_)
    ·unfold pendingOf at hs1 ⊢
     repeat' split
     all_goals lia
    ·obtain ⟨rfl,b1,b2,b3⟩:=hr
     simp only [Qn,ND,if_false]
     exact MM ⟨rfl,b1,b2,.inr (by lia)⟩
end
end SR
namespace SR
open PySem PyProof.Rows
section
noncomputable def dup (vs:List Value):List Keyed:=vs.map fun v=>(v,v)
theorem vg (vs):(vs.toArray.zip vs.toArray).toList=dup vs:=by
 unfold dup
 rw [Array.toList_zip]
 induction vs with
 | nil=>rfl
 | cons v vs ih=>simpa using ih
noncomputable def Ord (rk:Keyed→Int) (b:Bool) (out:List Value):Prop:=out.Pairwise fun x y=>if b then rk (y,y)≤rk (x,x) else rk (x,x)≤rk (y,y)
theorem qA {xs:Array Keyed} (h:xs.toList.Perm (dup vs)):(xs.toList.map (·.2)).Perm vs∧∀ p∈xs.toList,p=(p.2,p.2):=by
 refine ⟨?_,fun p hp=>?_⟩
 ·have q:=h.map (·.2)
  have e:(dup vs).map (·.2)=vs:=by
   unfold dup
   rw [Na]
   exact List.map_id' vs
  rwa [e] at q
 ·have:=h.mem_iff.mp hp
  simp only [dup,Nk] at this
  obtain ⟨v,_,rfl⟩:=this
  rfl
theorem DK {st:SortSt} (hp:(arrOf st).toList.Perm (dup vs)) (hs:Seg rk (arrOf st) 0 (dup vs).length) (b) :
 ((if b=true then ((arrOf st).map (·.2)).reverse else (arrOf st).map (·.2)).toList).Perm vs∧Ord rk b (if b=true then ((arrOf st).map (·.2)).reverse else (arrOf st).map (·.2)).toList:=by
 obtain ⟨h1,h2⟩:=qA hp
 have up:((arrOf st).toList.map (·.2)).Pairwise fun x y=>rk (x,x)≤rk (y,y):=by
  rw [OB]
  refine RE.mpr fun i j hi hj hij=>?_
  have l:=hp.length_eq
  simp only [NC] at hi hj l
  have z:=hs i j (Nu _) (OU hij) (by lia)
  have ei:(arrOf st)[i]?=some ((arrOf st).toList[i]'(by simpa using hi)):=by simp [hi]
  have ej:(arrOf st)[j]?=some ((arrOf st).toList[j]'(by simpa using hj)):=by simp [hj]
  rw [dG ei,dG ej] at z
  have e1:=h2 _ (Nj (show i<(arrOf st).toList.length by simpa using hi))
  have e2:=h2 _ (Nj (show j<(arrOf st).toList.length by simpa using hj))
  rw [e1,e2] at z
  exact z
 cases b with
 | false=>simp only [ND,if_false,Ss]; exact ⟨h1,up.imp fun h=>by simpa using h⟩
 | true =>
  simp only [if_true,Px,Ss]
  refine ⟨(Q3 _).trans h1,?_⟩
  unfold Ord
  rw [List.pairwise_reverse]
  exact up.imp fun h=>by simpa using h
noncomputable def LZ (prog:Program) (w:World) (A:Around) (s:Shared) (a:Addr) (vs:List Value) (κ:SortKind) (rk:Keyed→Int):Prop :=
 ∀ h':Heap,(∀ c o,c≠a→s.heap.get? c=some o→h'.get? c=some o) →
  (∀ (Q:SortKind→Shared→Prop) (E:Value→Shared→Prop),2≤vs.length→Q κ { s with heap:=h' }→wpAny (model prog w) A (keyKind' vs.toArray) Q E { s with heap:=h' })∧iC prog w A { s with heap:=h' } κ rk (dup vs)
theorem nc (ho:s.heap.get? a=some (seqObj "list" vs.toArray n)) (hk:LZ prog w A s a vs κ rk) (hz:vs.length≤sizeLine)
 (h:∀ out:Array Value,out.toList.Perm vs→Ord rk b out.toList→P (.done (.ret .none)) { s with heap:=sortedHeap s.heap a vs out }) :
 wpAny (model prog w) A (Builtin.«list.sort» ⟨[.ref a],[(MH "reverse",.bool b)]⟩) P E s:=by
 rw [list_sort_rev]
 have lta:a<s.heap.objs.size:=MR ho
 refine MG (Qo ho rfl (MG (Oc ho rfl ?_ (by simpa using hz))))
 obtain ⟨e1,ho1⟩:∃ e1,(s.heap.update a (Nn fun _=> #[])).get? a=some (seqObj "list" #[] e1):=⟨_,Rb ho (fun _=> #[])⟩
 have oth:∀ c o,c≠a→s.heap.get? c=some o→(s.heap.update a (Nn fun _=> #[])).get? c=some o:=fun c o hc q=>by rw [OL _ _ _ _ hc]; exact q
 have sz1:(s.heap.update a (Nn fun _=> #[])).objs.size=s.heap.objs.size:=So ..
 refine MG (PR ho1 rfl (MG (wpAny_newTuple ?_ (by simpa using hz))))
 refine MG (Qk (NX ?_))
 show wpAny (model prog w) A _ P E { s with heap:=((s.heap.update a (Nn fun _=> #[])).push (seqObj "tuple" vs.toArray 0)).push (seqObj "list" #[] 0) }
 have ho6:(((s.heap.update a (Nn fun _=> #[])).push (seqObj "tuple" vs.toArray 0)).push (seqObj "list" #[] 0)).get? a=some (seqObj "list" #[] e1):=MQ _ (MQ _ ho1)
 obtain ⟨hkk,hC⟩:=hk (((s.heap.update a (Nn fun _=> #[])).push (seqObj "tuple" vs.toArray 0)).push (seqObj "list" #[] 0)) fun c o hc q=>MQ _ (MQ _ (oth c o hc q))
 have fin:∀ st':SortSt,(arrOf st').toList.Perm (dup vs)→Seg rk (arrOf st') 0 (dup vs).length →
  P (.done (.ret .none)) { s with heap:=sortedHeap s.heap a vs (if b then ((arrOf st').map (·.2)).reverse else (arrOf st').map (·.2)) }:=fun st' hp hs =>
  let ⟨q1,q2⟩:=DK hp hs b; h _ q1 q2
 have hstart:(if b=true then (vs.toArray.zip vs.toArray).reverse else vs.toArray.zip vs.toArray).toList.Perm (dup vs):=by
  cases b with
  | false=>rw [if_neg MV,vg]
  | true=>rw [if_pos rfl,Px,vg]; exact Q3 _
 dsimp only
 have told:∀ t:Sem Fin,wpAny (model prog w) A t P E { s with heap:=((s.heap.update a (Nn fun _=> #[])).push (seqObj "tuple" vs.toArray 0)).push (seqObj "list" #[] 0) } →
  wpAny (model prog w) A (if b=true then (do let _ ← rule "list.sort.reverse"; t) else t) P E { s with heap:=((s.heap.update a (Nn fun _=> #[])).push (seqObj "tuple" vs.toArray 0)).push (seqObj "list" #[] 0) }:=fun t ht=>by
  split
  ·exact MG (N6 ht)
  ·exact ht
 refine told _ ?_
 have hlen:∀ {xs:Array Keyed},xs.toList.Perm (dup vs)→(if b=true then (Array.map (fun x=>x.snd) xs).reverse else Array.map (fun x=>x.snd) xs).size≤sizeLine+1:=fun {xs} hp=>by
  have l:=hp.length_eq
  simp only [NC,dup,MO] at l
  split
  ·rw [Array.size_reverse,Array.size_map]; lia
  ·rw [Array.size_map]; lia
 by_cases h2:vs.toArray.size<2
 ·rw [if_pos h2,if_pos h2]
  refine MG (MJ ?_)
  rw [StateT.run_pure]
  refine MG (MJ ?_)
  dsimp only
  refine MG (PR ho6 rfl (MG (Oc ho6 rfl ?_ (hsz2:=hlen hstart))))
  simp only [bne_self_eq_false,ND,if_false]
  refine MJ (fin (OW general' (if b=true then (vs.toArray.zip vs.toArray).reverse else vs.toArray.zip vs.toArray) #[] 7 none) hstart ?_)
  intro i j _ hij hj
  have hl:(dup vs).length<2:=by simpa [dup] using h2
  have:i=j:=by lia
  subst this; exact N5 _
 ·rw [if_neg h2,if_neg h2]
  refine MG (hkk _ _ (by simpa using h2) ?_)
  refine MG (Nv (wpS_sortRuns (κ:=κ) (rk:=rk) (L:=dup vs) (st:=OW κ (if b=true then (vs.toArray.zip vs.toArray).reverse else vs.toArray.zip vs.toArray) #[] 7 none)
   (Q:=fun _ st'=>(arrOf st').toList.Perm (dup vs)∧failedOf st'=none∧Seg rk (arrOf st') 0 (dup vs).length) hC ⟨hstart,rfl,rfl⟩ rfl fun st' a1 a2=>⟨a1.perm,a1.failed,a2⟩) ?_ fun _ _ e=>e)
  rintro ⟨⟨⟩,st'⟩ s' ⟨rfl,hp,hf,hs⟩
  dsimp only
  refine MG (PR ho6 rfl (MG (Oc ho6 rfl ?_ (hsz2:=hlen hp))))
  rw [hf]
  simp only [bne_self_eq_false,ND,if_false]
  exact MJ (fin st' hp hs)
end
section
variable {α:Type} {lt:α→α→Bool} {L:List α}
theorem filter_le:∀ {l:List α},(∀ z∈l,p z=true→q z=true)→(l.filter p).length≤(l.filter q).length
 | [],_=>ML _
 | x::l,h=>by
  have ih:=filter_le (l:=l) fun z hz=>h z (MX _ hz)
  have hx:=h x MW
  cases e:p x with
  | false =>
   rw [P1 (by simp [e])]
   by_cases e2:q x=true
   ·rw [O0 e2]; exact Nat.le_succ_of_le ih
   ·rw [P1 e2]; exact ih
  | true =>
   rw [O0 e,O0 (hx e)]
   exact Q8 ih
theorem filter_lt:∀ {l:List α},(∀ z∈l,p z=true→q z=true)→(∃ z∈l,q z=true∧p z=false)→(l.filter p).length<(l.filter q).length
 | [],_,h=>by obtain ⟨z,h,_⟩:=h; cases h
 | x::l,h,g=>by
  have h':∀ z∈l,p z=true→q z=true:=fun z hz=>h z (MX _ hz)
  have hx:=h x MW
  by_cases e:p x=true
  ·rw [O0 e,O0 (hx e)]
   obtain ⟨z,hz,z1,z2⟩:=g
   rcases M0.mp hz with rfl | hz
   ·rw [e] at z2; cases z2
   ·exact Nat.succ_lt_succ (filter_lt h' ⟨z,hz,z1,z2⟩)
  ·rw [P1 e]
   by_cases e2:q x=true
   ·rw [O0 e2]; exact Nat.lt_succ_of_le (filter_le h')
   ·rw [P1 e2]
    obtain ⟨z,hz,z1,z2⟩:=g
    rcases M0.mp hz with rfl | hz
    ·exact absurd z1 e2
    ·exact filter_lt h' ⟨z,hz,z1,z2⟩
structure Fd (lt:α→α→Bool) (L:List α):Prop where
 irr:∀ x∈L,lt x x=false
 tr:∀ x∈L,∀ y∈L,∀ z∈L,lt x y=true→lt y z=true→lt x z=true
 tot:∀ x∈L,∀ y∈L,x≠y→lt x y=true∨lt y x=true
noncomputable def rank (lt:α→α→Bool) (L:List α) (x:α):Int:=((L.filter fun z=>lt z x).length:Int)
theorem jZ (h:Fd lt L) (hx:x∈L) (hy:y∈L) (e:lt x y=true):rank lt L x<rank lt L y:=by
 have q:=filter_lt (l:=L) (p:=fun z=>lt z x) (q:=fun z=>lt z y) (fun z hz hzx=>h.tr z hz x hx y hy hzx e) ⟨x,hx,e,h.irr x hx⟩
 unfold rank; lia
theorem DL (h:Fd lt L) (hx:x∈L) (hy:y∈L):decide (rank lt L x<rank lt L y)=lt x y:=by
 classical
 cases e:lt x y with
 | true=>exact decide_eq_true (jZ h hx hy e)
 | false =>
  refine decide_eq_false fun z=>?_
  by_cases w:x=y
  ·subst w; exact absurd z (Int.lt_irrefl _)
  ·rcases h.tot x hx y hy w with q | q
   ·rw [e] at q; cases q
   ·have:=jZ h hy hx q; lia
theorem fR (hp:n.Perm m):∀ {l:List α},Paired S l m→∃ l',l'.Perm l∧Paired S l' n:=by
 induction hp with
 | nil=>intro l h; exact ⟨l,.refl _,h⟩
 | cons x _ ih =>
  intro l h
  cases h with
  | cons r t=>obtain ⟨l',h1,h2⟩:=ih t; exact ⟨_::l',h1.cons _,.cons r h2⟩
 | swap x y l' =>
  intro l h
  cases h with
  | cons r t=>cases t with | cons r2 t2=>exact ⟨_,.swap _ _ _,.cons r2 (.cons r t2)⟩
 | trans _ _ ih1 ih2 =>
  intro l h
  obtain ⟨l1,h1,h2⟩:=ih2 h
  obtain ⟨l2,h3,h4⟩:=ih1 h2
  exact ⟨l2,h3.trans h1,h4⟩
theorem gW (h:Paired S l m):∀ u∈m,∃ x∈l,S x u:=by
 induction h with
 | nil=>intro u hu; cases hu
 | cons r t ih =>
  intro u hu
  rcases M0.mp hu with rfl | hu
  ·exact ⟨_,MW,r⟩
  ·obtain ⟨x,h1,h2⟩:=ih u hu; exact ⟨x,MX _ h1,h2⟩
open Classical in
noncomputable def wY {β:Type} (S:α→Value→Prop) (lt:α→α→Bool) (L:List α) (p:Value×β):Int:=if h:∃ x,x∈L∧S x p.1 then rank lt L h.choose else 0
theorem j0 (inj:∀ x y u,S x u→S y u→x=y) (hx:x∈L) (h:S x p.1):wY S lt L p=rank lt L x:=by
 have e:∃ x,x∈L∧S x p.1:=⟨x,hx,h⟩
 unfold wY
 rw [dif_pos e,inj _ _ _ e.choose_spec.2 h]
theorem qB (inj:∀ x y u,S x u→S y u→x=y) (h:Fd lt L) (nd:L.Nodup) (hL:Paired S L us) (hp:out.Perm us) (ho:Ord (wY S lt L) b out) :
 ∃ L',L'.Perm L∧L'.Pairwise (fun x y=>if b then lt y x=true else lt x y=true)∧Paired S L' out:=by
 obtain ⟨L',h1,h2⟩:=fR hp hL
 refine ⟨L',h1,?_,h2⟩
 have hm:∀ x∈L',x∈L:=fun x hx=>h1.mem_iff.mp hx
 have nd':L'.Nodup:=h1.nodup_iff.mpr nd
 clear h1 hp hL nd
 unfold Ord at ho
 induction h2 with
 | nil=>exact .nil
 | @cons x u xs us r t ih =>
  obtain ⟨q1,q2⟩:=Pz.mp ho
  obtain ⟨n1,n2⟩:=N8.mp nd'
  refine .cons (fun y hy=>?_) (ih q2 (fun z hz=>hm z (MX _ hz)) n2)
  have hx:=hm x MW
  have hyL:=hm y (MX _ hy)
  obtain ⟨v,hv,sv⟩:∃ v∈us,S y v:=by
   clear ih ho q1 q2 n1 n2 hm nd'
   induction t with
   | nil=>cases hy
   | cons r t ih2 =>
    rcases M0.mp hy with rfl | hy
    ·exact ⟨_,MW,r⟩
    ·obtain ⟨v,h1,h2⟩:=ih2 hy; exact ⟨v,MX _ h1,h2⟩
  have q:=q1 v hv
  rw [j0 inj hx (p:=(u,u)) r,j0 inj hyL (p:=(v,v)) sv] at q
  have ne:x≠y:=fun z=>n1 (z ▸ hy)
  cases b with
  | true =>
   simp only [if_true] at q ⊢
   rcases h.tot x hx y hyL ne with w | w
   ·have:=jZ h hx hyL w; lia
   ·exact w
  | false =>
   simp only [ND,if_false] at q ⊢
   rcases h.tot x hx y hyL ne with w | w
   ·exact w
   ·have:=jZ h hyL hx w; lia
end
section
theorem Aj (inj:∀ x y u,S x u→S y u→x=y) (h:Fd lt L) (hL:Paired S L us)
 (hk:∀ x∈L,∀ y∈L,∀ u v,S x u→S y v→∀ (E:Value→Shared→Prop) (Q:Bool→Shared→Prop),Q (lt x y) s→wpAny (model prog w) A (keyLt' κ u v) Q E s):iC prog w A s κ (wY S lt L) (dup us):=by
 intro p hp q hq E Q hQ
 simp only [dup,Nk] at hp hq
 obtain ⟨u,hu,rfl⟩:=hp
 obtain ⟨v,hv,rfl⟩:=hq
 obtain ⟨x,hx,sx⟩:=gW hL u hu
 obtain ⟨y,hy,sy⟩:=gW hL v hv
 refine hk x hx y hy u v sx sy E Q ?_
 rw [j0 inj hx (p:=(u,u)) sx,j0 inj hy (p:=(v,v)) sy,DL h hx hy] at hQ
 exact hQ
end
end SR
namespace SR
open PySem PySem.Calls PyProof.Rows L2 EV
theorem lX (a):Builtin.«list.sort» ⟨[.ref a],[(MH "key",.builtin "len")]⟩=(do
 let items ← P5 (.ref a)
 OJ (.ref a) fun _=> #[]
 let before ← seqEpoch a
 let held ← newTuple items.toList
 let keyStore ← newList []
 holding [held,keyStore] do
  rule "list.sort.key"
  for x in items do
   match ← (call (.builtin "len") [x]).attempt with
   | .ok k=>OJ keyStore (·.push k)
   | .error e =>
    rule "list.sort.key-raised"
    let made ← P5 keyStore
    OJ keyStore fun _=> #[]
    letGo made.toList.reverse [e]
    OJ (.ref a) fun _=>items; throw e
  let keys ← P5 keyStore
  let kind ← if items.size<2 then pure general' else keyKind' keys
  let ((),s) ← (if items.size<2 then pure () else sortRuns').run (OW kind (keys.zip items) #[] 7 none)
  OJ keyStore fun _=> #[]
  letGo ((arrOf s).map (·.1)).toList (failedOf s).toList
  let touched:=(← seqEpoch a) != before
  OJ (.ref a) fun _=>(arrOf s).map (·.2)
  if let some e:=failedOf s then rule "list.sort.comparison-raised"; throw e
  if touched then rule "list.sort.modified"; raiseError "ValueError" "list modified during sort"
  ret .none):=by
 rfl
theorem gX (a v):argsOk "list.sort" ⟨[a],[(MH "key",v)]⟩:=by unfold argsOk; kernel_rfl
theorem jI (a v):argsOk "sorted" ⟨[a],[(MH "key",v)]⟩:=by unfold argsOk; kernel_rfl
section
noncomputable def intOf (p:Keyed):Int:=match p.1 with | .int m _=>m | _=>0
theorem vh:∀ {ks vs:List Value},ks.length=vs.length→(ks.zip vs).map (·.2)=vs
 | [],[],_=>rfl
 | k::ks,v::vs,h=>by rw [QY,MN,vh (by simpa using h)]
 | [],_::_,h=>by simp at h
 | _::_,[],h=>by simp at h
theorem vm {ks vs:List Value} {ms:List Int} (h:IntsAre ks ms) {p:Keyed} (hp:p∈ks.zip vs):∃ m t,p.1=.int m t:=by
 obtain ⟨k,v⟩:=p
 exact h.all k (Rc hp).1
theorem Ak (ho:s.heap.get? a=some (seqObj "list" vs.toArray n)) (hz:vs.length≤sizeLine)
 (hv:∀ v∈vs,∃ (l:Addr) (items:Array Value),v=.ref l∧l≠a∧s.heap.IsList l items∧items.size≤sizeLine)
 (h:∀ (out:Array Value) (h':Heap) (tk e:Nat),out.toList.Perm vs→h'.get? a=some (seqObj "list" out e)→(∀ c o,c≠a→s.heap.get? c=some o→h'.get? c=some o)→P (.done (.ret .none)) { s with heap:=h',toks:=tk }) :
 wpAny (model prog w) A (Builtin.«list.sort» ⟨[.ref a],[(MH "key",.builtin "len")]⟩) P E s:=by
 rw [lX]
 have lta:a<s.heap.objs.size:=MR ho
 refine MG (Qo ho rfl (MG (Oc ho rfl ?_ (by simpa using hz))))
 obtain ⟨e1,ho1⟩:∃ e1,(s.heap.update a (Nn fun _=> #[])).get? a=some (seqObj "list" #[] e1):=⟨_,Rb ho (fun _=> #[])⟩
 have oth:∀ c o,c≠a→s.heap.get? c=some o→(s.heap.update a (Nn fun _=> #[])).get? c=some o:=fun c o hc q=>by rw [OL _ _ _ _ hc]; exact q
 refine MG (PR ho1 rfl (MG (wpAny_newTuple ?_ (by simpa using hz))))
 refine MG (Qk (NX ?_))
 generalize hkS:((s.heap.update a (Nn fun _=> #[])).push (seqObj "tuple" vs.toArray 0)).objs.size=kS
 have hks:(((s.heap.update a (Nn fun _=> #[])).push (seqObj "tuple" vs.toArray 0)).push (seqObj "list" #[] 0)).get? kS=some (seqObj "list" #[] 0):=by rw [← hkS]; exact M3 _ rfl
 have kne:∀ c,c<s.heap.objs.size→c≠kS:=fun c hc e=>by
  rw [← hkS,size_push',So] at e; lia
 have k1:∀ c o,c≠a→s.heap.get? c=some o→(((s.heap.update a (Nn fun _=> #[])).push (seqObj "tuple" vs.toArray 0)).push (seqObj "list" #[] 0)).get? c=some o:=fun c o hc q=>MQ _ (MQ _ (oth c o hc q))
 have ho6:(((s.heap.update a (Nn fun _=> #[])).push (seqObj "tuple" vs.toArray 0)).push (seqObj "list" #[] 0)).get? a=some (seqObj "list" #[] e1):=MQ _ (MQ _ ho1)
 dsimp only
 generalize (((s.heap.update a (Nn fun _=> #[])).push (seqObj "tuple" vs.toArray 0)).push (seqObj "list" #[] 0))=h1 at hks k1 ho6 ⊢
 have hak:a≠kS:=kne a lta
 refine MG (N6 ?_)
 refine MG (Nv (wpAny_forIn_array' _ (fun rest _ s'=>∃ (dn:List Value) (ks:List Value) (ms:List Int) (hh:Heap) (tk e:Nat),vs=dn++rest∧s'={ s with heap:=hh,toks:=tk }∧IntsAre ks ms∧ks.length=dn.length∧hh.get? kS=some (seqObj "list" ks.toArray e)∧∀ c o,c≠kS→h1.get? c=some o→hh.get? c=some o)
  (fun _ s'=>∃ (ks:List Value) (ms:List Int) (hh:Heap) (tk e:Nat),s'={ s with heap:=hh,toks:=tk }∧IntsAre ks ms∧ks.length=vs.length∧hh.get? kS=some (seqObj "list" ks.toArray e)∧∀ c o,c≠kS→h1.get? c=some o→hh.get? c=some o) ?turn ?fin _ _ ?beg) ?rest fun _ _ e=>e)
 case beg=>exact ⟨[],[],[],h1,_,0,rfl,rfl,.nil,rfl,hks,fun _ _ _ q=>q⟩
 case fin =>
  rintro _ s' ⟨dn,ks,ms,hh,tk,e,e1,e2,e3,e4,e5,e6⟩
  rw [NR] at e1
  exact ⟨ks,ms,hh,tk,e,e2,e3,by rw [e4,e1],e5,e6⟩
 case turn =>
  rintro v rest _ s' ⟨dn,ks,ms,hh,tk,e,ev,rfl,e3,e4,e5,e6⟩
  obtain ⟨l,items,rfl,hla,hli,hsz⟩:=hv v (by rw [ev]; simp)
  obtain ⟨o,q1,q2,q3⟩:=hli
  have hl':hh.IsList l items:=⟨o,e6 l o (kne l (MR q1)) (k1 l o hla q1),q2,q3⟩
  refine MG (OR (call_len_list hl' (by have:=nJ; lia) ?_))
  dsimp only
  have hkl:ks.length≤sizeLine:=by rw [e4]; have:=congrArg Pd ev; simp at this; lia
  refine MG (Oc e5 rfl ?_ (by simpa using hkl) (by simp; lia))
  refine MJ ⟨dn++[.ref l],ks++[.int items.size (tk+1)],ms++[(items.size:Int)],_,_,e+1,by rw [ev]; simp,rfl,e3.append (.cons _ _ .nil),by simp [e4],?_,fun c o hc q=>?_⟩
  ·have:=Rb e5 (fun a=>a.push (.int items.size (tk+1)))
   simpa using this
  ·rw [OL _ _ _ _ hc]; exact e6 c o hc q
 case rest =>
  rintro _ s' ⟨ks,ms,hh,tk,e,rfl,e3,e4,e5,e6⟩
  refine MG (Qo e5 rfl ?_)
  have zl:(ks.toArray.zip vs.toArray).toList=ks.zip vs:=by rw [Array.toList_zip]
  have hoa:=e6 a _ hak ho6
  have pl:∀ {st':SortSt},(arrOf st').toList.Perm (ks.zip vs)→((arrOf st').map (·.2)).toList.Perm vs:=fun {st'} hp=>by
   rw [Ss]
   have:=hp.map (·.2)
   rwa [vh e4] at this
  have ho7:(hh.update kS (Nn fun _=>(#[]:Array Value))).get? a=some (seqObj "list" #[] e1):=by rw [OL _ _ _ _ hak]; exact hoa
  have fin:∀ (out:Array Value),out.toList.Perm vs→P (.done (.ret .none)) { s with heap:=(hh.update kS (Nn fun _=>(#[]:Array Value))).update a (Nn fun _=>out),toks:=tk }:=fun out hp =>
   h out _ _ _ hp (Rb ho7 (fun _=>out)) fun c o hc q=>by
    have lc:=MR q
    rw [OL _ _ _ _ hc,OL _ _ _ _ (kne c lc)]
    exact e6 c o (kne c lc) (k1 c o hc q)
  have hkz:(ks.toArray:Array Value).size≤sizeLine:=by rw [M7,e4]; exact hz
  have oz:∀ {out:Array Value},out.toList.Perm vs→out.size≤sizeLine+1:=fun {out} hp=>by
   have l:=hp.length_eq
   rw [NC] at l; lia
  by_cases h2:vs.toArray.size<2
  ·rw [if_pos h2,if_pos h2]
   refine MG (MJ ?_)
   rw [StateT.run_pure]
   refine MG (MJ ?_)
   dsimp only
   have p0:=pl (st':=OW general' (ks.toArray.zip vs.toArray) #[] 7 none) (by show (ks.toArray.zip vs.toArray).toList.Perm _; rw [zl])
   refine MG (Oc e5 rfl ?_ hkz)
   refine MG (Rv ?_)
   refine MG (PR ho7 rfl (MG (Oc ho7 rfl ?_ (hsz2:=oz p0))))
   simp only [bne_self_eq_false,ND,if_false]
   exact MJ (fin _ p0)
  ·rw [if_neg h2,if_neg h2]
   rw [ksk_kind (kz:=ms) e3 (by rw [M7,e4]; simpa using h2)]
   refine MG (MJ ?_)
   have hC:iC prog w A { s with heap:=hh,toks:=tk } oneType' intOf (ks.zip vs):=fun x hx y hy E Q hQ=>by
    obtain ⟨m,t,ex⟩:=vm e3 hx
    obtain ⟨m',t',ey⟩:=vm e3 hy
    unfold intOf at hQ
    rw [ex,ey] at hQ ⊢
    rw [keyLt'_oneType]
    exact oneLt_int hQ
   refine MG (Nv (wpS_sortRuns (κ:=oneType') (rk:=intOf) (L:=ks.zip vs) (st:=OW oneType' (ks.toArray.zip vs.toArray) #[] 7 none)
    (Q:=fun _ st'=>(arrOf st').toList.Perm (ks.zip vs)∧failedOf st'=none) hC ⟨(by show (ks.toArray.zip vs.toArray).toList.Perm _; rw [zl]),rfl,rfl⟩ rfl fun st' a1 a2=>⟨a1.perm,a1.failed⟩) ?_ fun _ _ e=>e)
   rintro ⟨⟨⟩,st'⟩ s' ⟨rfl,hp,hf⟩
   dsimp only
   refine MG (Oc e5 rfl ?_ hkz)
   refine MG (Rv ?_)
   refine MG (PR ho7 rfl (MG (Oc ho7 rfl ?_ (hsz2:=oz (pl hp)))))
   rw [hf]
   simp only [bne_self_eq_false,ND,if_false]
   exact MJ (fin _ (pl hp))
end
end SR
namespace EV
open PySem PySem.Spec PySem.Calls PyProof.Rows L2
theorem j3:∀ l:List Int,HT.lexLt l l=false
 | []=>rfl
 | x::l=>by rw [HT.cB,if_pos rfl]; exact j3 l
theorem sQ:∀ {a b c:List Int},HT.lexLt a b=true→HT.lexLt b c=true→HT.lexLt a c=true
 | [],[],_,h,_=>by cases h
 | [],_::_,[],_,h=>by cases h
 | [],_::_,_::_,_,_=>rfl
 | _::_,[],_,h,_=>by cases h
 | _::_,_::_,[],_,h=>by cases h
 | x::a,y::b,z::c,h,g=>by
  rw [HT.cB] at h g ⊢
  by_cases e:x=y
  ·subst e
   rw [if_pos rfl] at h
   by_cases f:x=z
   ·subst f; rw [if_pos rfl] at g ⊢; exact sQ h g
   ·rw [if_neg f] at g ⊢; exact g
  ·rw [if_neg e] at h
   have h:=of_decide_eq_true h
   by_cases f:y=z
   ·subst f; rw [if_neg e]; exact decide_eq_true h
   ·rw [if_neg f] at g
    have g:=of_decide_eq_true g
    rw [if_neg (by lia)]; exact decide_eq_true (by lia)
theorem j4:∀ {a b:List Int},a≠b→HT.lexLt a b=true∨HT.lexLt b a=true
 | [],[],h=>absurd rfl h
 | [],_::_,_=>.inl rfl
 | _::_,[],_=>.inr rfl
 | x::a,y::b,h=>by
  rw [HT.cB,HT.cB]
  by_cases e:x=y
  ·subst e
   rw [if_pos rfl,if_pos rfl]
   exact j4 fun z=>h (by rw [z])
  ·rw [if_neg e,if_neg (M8 e)]
   rcases Int.lt_or_gt_of_ne e with z | z
   ·exact .inl (decide_eq_true z)
   ·exact .inr (decide_eq_true z)
noncomputable abbrev aO:=List Int×Int
noncomputable def cK (x y:aO):Bool:=if x.1=y.1 then decide (x.2<y.2) else HT.lexLt x.1 y.1
theorem oj (L:List aO):SR.Fd cK L where
 irr:=fun x _=>by unfold cK; rw [if_pos rfl]; exact decide_eq_false (Int.lt_irrefl _)
 tr:=fun x _ y _ z _ h g=>by
  unfold cK at *
  by_cases e:x.1=y.1
  ·rw [if_pos e] at h
   by_cases f:y.1=z.1
   ·rw [if_pos f] at g; rw [if_pos (e.trans f)]
    exact decide_eq_true (Int.lt_trans (of_decide_eq_true h) (of_decide_eq_true g))
   ·rw [if_neg f] at g; rw [if_neg (fun w=>f (e.symm.trans w)),e]; exact g
  ·rw [if_neg e] at h
   by_cases f:y.1=z.1
   ·rw [if_neg (fun w=>e (w.trans f.symm)),← f]; exact h
   ·rw [if_neg f] at g
    have q:=sQ h g
    rw [if_neg fun w=>by rw [w,j3] at q; cases q]; exact q
 tot:=fun x _ y _ h=>by
  unfold cK
  by_cases e:x.1=y.1
  ·rw [if_pos e,if_pos e.symm]
   have:x.2≠y.2:=fun z=>h (Prod.ext e z)
   rcases Int.lt_or_gt_of_ne this with z | z
   ·exact .inl (decide_eq_true z)
   ·exact .inr (decide_eq_true z)
  ·rw [if_neg e,if_neg (M8 e)]
   exact j4 e
noncomputable abbrev aM (t:aO):D:=.tup [.tup (t.1.map .int),.int t.2]
section
variable {X:Cx}
noncomputable def jJ (K:MI) (Hf:Hp) (d:D) (u:Value):Prop:=∃ v,RelV v u∧Rep K Hf d v
theorem Al (l m:List Int):kC 1 (.tup (l.map .int)) (.tup (m.map .int)):=.tup fun i d e h1 h2=>by
 simp only [MS,MZ] at h1 h2
 obtain ⟨x,_,rfl⟩:=h1
 obtain ⟨y,_,rfl⟩:=h2
 exact .sc rfl
theorem iV:∀ {l:List Int} {ys:List V},aq X.K Hf (l.map D.int) ys→ys=l.map V.int
 | [],ys,h=>ay.mp h
 | n::l,ys,h=>by
  obtain ⟨y,r,rfl,z1,z2⟩:=aC.mp h
  rw [av] at z1; subst z1
  rw [iV z2]; rfl
theorem gY:∀ (l:List α) (r:List β) {Q:List β→Shared→Prop},Paired (fun a b=>∀ (Q:β→Shared→Prop),Q b s→wpAny M A (f a) Q E s) l r→Q r s→wpAny M A (l.mapM f) Q E s
 | _,_,Q,.nil,h=>by rw [List.mapM_nil]; exact MJ h
 | _,_,Q,.cons q t,h=>by
  rw [List.mapM_cons]
  exact MG (q _ (MG (gY _ _ t (MJ h))))
end
section
noncomputable abbrev DM (X:Cx) (A:Around):Cx:={ X with A:=A }
theorem Ke (ok:X.Ok) (h1:X.calm=true→A.handled=none) (h2:A.frames=some X.stack):(DM X A).Ok :=
 ⟨ok.mod,ok.kind,ok.glob,ok.blt,ok.above,ok.inj,ok.has,ok.cab,h1,h2,ok.stk,ok.exf,ok.bs,ok.bsz,ok.noex,ok.exfs,ok.jb,ok.frf⟩
theorem jm (I:Inv X aa σ H s) (h1:X.calm=true→A.handled=none) (h2:A.frames=some X.stack):Inv (DM X A) aa σ H s :=
 ⟨Ke I.ok h1 h2,I.os,I.bare,I.base,I.loc,I.cell,I.free,I.freeC,I.pin,I.hok,I.len⟩
theorem fS (ok:X.Ok) (I:Inv (DM X A) aa σ H s):Inv X aa σ H s :=
 ⟨ok,I.os,I.bare,I.base,I.loc,I.cell,I.free,I.freeC,I.pin,I.hok,I.len⟩
theorem DN {fp:List Addr} (h:∀ b∈fp,fG X aa H b) (n:∀ b∈fp,H' b=none):∀ b∈fp,fG X aa H' b:=fun b hb=>⟨n b hb,(h b hb).2⟩
theorem Am (hc:X.calm=true) (Tn:Turn X.prog X.w X.K (.Name nm np) J fp it tn) (io:jh X.K J ds Cs)
 (hS0:Hb S=none) (hSf:S∉fp) (hn:ds.length≤sizeLine) (okX:X.Ok) (h1:X.A.in1.handled=none) (h2:X.A.in1.frames=some X.stack)
 (fin:∀ (s':Shared) (H' aj:Hp) (xs:List V),Inv X aa σ H' s'→H' S=some (.lst xs)→aj S=none→aq X.K aj ds xs→aZ Hb Cs H' aj→R (.ok (.ret res)) s') :
 ∀ (k i:Nat) (s:Shared) (H Hf:Hp) (xs:List V),ds.length - i=k→i≤ds.length→Inv X aa σ H s→tn i s.heap→(∀ b∈fp,fG X aa H b)→H S=some (.lst xs)→Hf S=none→aq X.K Hf (ds.take i) xs→aZ Hb Cs H Hf →
  codeAny (model X.prog X.w) X.A (.builtin "list.extend.loop" ⟨[.ref S,.ref it,res],[]⟩) R s:=by
 intro k
 induction k with
 | zero =>
  intro i s H Hf xs hk hi I t hf hS hfS hr g
  have e:i=ds.length:=by omega
  subst e
  rw [NF] at hr
  refine Qd PySem.F.entry_extend_loop ?_
  rw [QU QC _]
  show wpAny _ X.A.in1 (pyNext (.ref it) >>= _) _ _ s
  refine MG (Nv (Tn.done (DM X X.A.in1) rfl rfl rfl hc _ aa s σ H _ (jm I (fun _=>h1) h2) hf t (io.stop _ H Hf g.f g.b (ML _))) (fun r s' ⟨e,I'⟩=>?_) fun _ _ x=>x)
  subst e
  exact MJ (fin s' H Hf xs (fS okX I') hS hfS hr g)
 | succ k ih =>
  intro i s H Hf xs hk hi I t hf hS hfS hr g
  have lt:i<ds.length:=by omega
  have ed:ds[i]?=some ds[i]:=M9 lt
  obtain ⟨hgo,hy⟩:=io.go i ds[i] H Hf g.f g.b ed
  refine Qd PySem.F.entry_extend_loop ?_
  rw [QU QC _]
  show wpAny _ X.A.in1 (pyNext (.ref it) >>= _) _ _ s
  refine MG (Nv (Tn.item (DM X X.A.in1) rfl rfl rfl hc i aa s σ H _ (jm I (fun _=>h1) h2) hf t hgo) (fun r s1 ⟨u,e,hu⟩=>?_) fun _ _ x=>x)
  subst e
  show wpAny _ X.A.in1 (letOwnedTupleGo (.Name nm np) (.ref it) u >>= fun _=>(OJ (.ref S) (·.push u) >>= fun _=>again (.builtin "list.extend.loop" ⟨[.ref S,.ref it,res],[]⟩))) _ _ s1
  refine MG (Nv hu (fun _ s2 ⟨x,H',I2,rx,y,t2,n2⟩=>?_) fun _ _ x=>x)
  have I2:=fS okX I2
  obtain ⟨aj,g',rd⟩:=hy x H' y
  have hS':H' S=some (.lst xs):=g'.s _ _ hS
  have hfS':aj S=none:=g'.n S hfS (by rw [hS]; simp) (by intro ys; rw [hS]; simp)
  obtain ⟨z,its,n,rv,el,eo⟩:=I2.pG hS'
  have hx:xs.length=i:=by rw [← hr.length,NW]; omega
  have hz:(xs++[x]).length≤sizeLine:=by simp only [Nr,Nl,Oo]; omega
  refine MG (Oc eo rfl ?_ (by simp; omega) (by simp; omega))
  have ef:(fun a:Array Value=>a.push u) its.toArray=(its++[u]).toArray:=by simp
  have I3:=I2.sd (f:=fun a=>a.push u) (t':=s2.toks) hS' eo ef (rv.append (.cons rx .nil)) hz
  refine MJ ⟨plainId_quiet QC _,ih (i+1) _ (upd H' S (.lst (xs++[x]))) aj (xs++[x]) (by omega) lt I3 (Tn.keep _ _ _ t2 fun b hb o e=>?_) (DN hf fun b hb=>?_) ah hfS' ?_ (nX (g.trans g') hS0 hfS')⟩
  ·exact (QK _ _ (fun w:S=b=>hSf (w ▸ hb))).trans e
  ·rw [ak (fun w:b=S=>hSf (w ▸ hb))]; exact n2 b hb
  ·rw [Se,ed]
   exact (hr.mono g'.f).append (aq.one rd)
end
section
theorem wZ (hT:s.TypeIs (.ref v) "dict_items") (hQ:Q false s):wpAny (model prog w) A (Pk (.ref v)) Q E s:=by
 unfold Pk
 refine MG (wpAny_specialOf hT PySem.F.slot_dict_items_len.lookup ?_)
 have e:splitId "dict_items.__len__"=some ("dict_items","__len__"):=by decide +kernel
 dsimp only
 rw [e]
 dsimp only
 refine MG (Q7 (b:=true) hT (by rw [isSubtype_type]; kernel_rfl) ?_)
 rw [if_neg (by decide)]
 exact MG (OS hT (MJ hQ))
end
section
theorem DO (I:Inv X aa σ H s) (hv:s.heap.IsItemsView v d) (hH:H d=some (.frz o u)) (hd:HO.dct u) :
 wpAny (model X.prog X.w) A (pyIter (.ref v)) (fun itv s2=>∃ (it:Addr) (es:Array DictEntry) (ep:Nat),itv=.ref it∧s.heap.objs.size≤it∧Inv X aa σ H s2∧Turn X.prog X.w X.K tg (LY d o u) [it] it (fun i h=>zW h it d i es.size ep)∧zW s2.heap it d 0 es.size ep∧(∀ b∈[it],fG X aa H b) ∧
  (∀ b o,s.heap.get? b=some o→s2.heap.get? b=some o)) E s:=by
 obtain ⟨ho,ok⟩:=(show aX X.prog X.w H s.heap d (.frz o u) from I.hok d _ hH)
 obtain ⟨hx,es,ep,hod,hp,hs,hz⟩:=cE ok hd ho
 refine wN hv ho hod ?_
 have hsz:es.size=(bJ u).length:=by rw [N4 hp]; simp
 refine ⟨_,es,ep,rfl,ML _,I.kept (t':=s.toks) fun b o e=>MQ _ e,sJ (o:=o) (u:=u) (es:=es) (ep:=ep) hd hod (fun z=>?_) hsz,⟨.none,false,.none,.none,M3 _ rfl,.inl rfl⟩,fun b hb=>?_,fun b o e=>MQ _ e⟩
 ·have lt:=MR ho
  rw [← z] at lt
  exact absurd lt (Oh _)
 ·have e:b=s.heap.objs.size:=by simpa using hb
  subst e
  exact I.lR (ML _) (I.hok.fresh (ML _))
theorem ng (hc:X.calm=true) (h1:X.A.in1.handled=none) (h2:X.A.in1.frames=some X.stack) (I1:Inv X aa σ (upd H S (.lst [])) s) (sb:aD Hf H) (HS:H S=none) (hvS:S≠src) (hltS:S<s.heap.objs.size) (hn:ds.length≤sizeLine)
 (hT:(false || N1 T == N1 "list" || N1 T == N1 "tuple")=false) (ty:∀ s':Shared,(∀ b o,s.heap.get? b=some o→s'.heap.get? b=some o)→s'.TypeIs (.ref src) T)
 (hint:∀ (A:Around) (s':Shared) (Q:Bool→Shared→Prop) (E:Value→Shared→Prop),s'.TypeIs (.ref src) T→Q false s'→wpAny (model X.prog X.w) A (Pk (.ref src)) Q E s')
 (iter:wpAny (model X.prog X.w) X.A.in1 (pyIter (.ref src)) (fun itv s2=>∃ (it:Addr) (tn:Nat→Heap→Prop) (J:It),itv=.ref it ∧
   s.heap.objs.size≤it∧Inv X aa σ (upd H S (.lst [])) s2∧Turn X.prog X.w X.K (.Name "x" ⟨0,0,0,0⟩) J [it] it tn∧tn 0 s2.heap∧(∀ b∈[it],fG X aa (upd H S (.lst [])) b)∧(∀ b o,s.heap.get? b=some o→s2.heap.get? b=some o)∧jh X.K J ds Hf) E s)
 (hR:∀ (s':Shared) (H' aj:Hp) (xs:List V),Inv X aa σ H' s'→H' S=some (.lst xs)→aj S=none→aq X.K aj ds xs→aZ H Hf H' aj→R (.ok (.ret res)) s') :
 wpAny (model X.prog X.w) X.A.in1 (QA (.ref S) (.ref src) res) (fun fin s'=>match fin with | .done f=>R (.ok f) s' | .again c=>c.quiet=true∧codeAny (model X.prog X.w) X.A c R s') E s:=by
 unfold QA
 have ne:Builtin.List.listSameRef (.ref S) (.ref src)=false:=by simp [Builtin.List.listSameRef,hvS]
 refine MG (OS (ty s fun _ _ e=>e) ?_)
 rw [if_neg (by rw [ne,hT]; decide)]
 refine MG (Nv iter (fun itv s2 hh=>z3 hh fun it tn J hh=>w8 hh fun e hit I2 Tn t0 hf k2 io=>?_) fun _ _ x=>x)
 subst e
 refine MG (NX (hint _ s2 _ _ (ty s2 k2) ?_))
 have hSne:it≠S:=PM (NI hltS hit)
 have g0:aZ H Hf (upd H S (.lst [])) Hf:=aZ.fN sb HS
 have fin:∀ s3:Shared,Inv X aa σ (upd H S (.lst [])) s3→tn 0 s3.heap→wpAny (model X.prog X.w) X.A.in1 (again (.builtin "list.extend.loop" ⟨[.ref S,.ref it,res],[]⟩)) (fun fin s'=>match fin with | .done f=>R (.ok f) s' | .again c=>c.quiet=true∧codeAny (model X.prog X.w) X.A c R s') E s3:=fun s3 I3 t3 =>
  MJ ⟨plainId_quiet QC _,Am (X:=X) (Hb:=H) (Cs:=Hf) hc Tn io HS (fun m=>hSne (M4.mp m).symm) hn I1.ok h1 h2 hR ds.length 0 s3 _ Hf [] (by simp) (Nu _) I3 t3 hf ah (sb.free HS) (ay.mpr rfl) g0⟩
 obtain ⟨_,its,n,rv,el,eo⟩:=I2.pG (l:=S) (xs:=[]) ah
 cases rv
 split
 ·refine MG (N6 ?_)
  unfold Builtin.List.listTouch
  refine MG (MG (Oc eo rfl ?_))
  have I3:=I2.sd (f:=fun a=>a.push .none) (its':=[.none]) (ys:=[.non]) (t':=s2.toks) ah eo (by simp) (.cons rfl .nil) (by show 1≤sizeLine; decide)
  obtain ⟨_,its3,n3,rv3,el3,eo3⟩:=I3.pG (l:=S) (xs:=[.non]) ah
  cases rv3 with
  | cons r3 t3 =>
   cases t3
   cases r3
   refine Oc eo3 rfl ?_
   have I4:=I3.sd (f:=fun a=>a.pop) (its':=[]) (ys:=[]) (t':=s2.toks) ah eo3 (by simp) .nil (Nu _)
   rw [nG,nG] at I4
   refine fin _ I4 (Tn.keep 0 _ _ t0 fun b hb o e=>?_)
   have hbS:S≠b:=fun w=>hSne (by rw [M4.mp hb] at w; exact w.symm)
   exact (QK _ _ hbS).trans ((QK _ _ hbS).trans e)
 ·exact fin s2 I2 t0
theorem k6 (hc:X.calm=true) (h1:X.A.in1.handled=none) (h2:X.A.in1.frames=some X.stack) (I:Inv X aa σ H s) (sb:aD Hf H) (hlt:src<s.heap.objs.size) (hn:ds.length≤sizeLine) (hT:(false || N1 T == N1 "list" || N1 T == N1 "tuple")=false)
 (ty:∀ s':Shared,(∀ b o,s.heap.get? b=some o→s'.heap.get? b=some o)→s'.TypeIs (.ref src) T)
 (hint:∀ (A:Around) (s':Shared) (Q:Bool→Shared→Prop) (E:Value→Shared→Prop),s'.TypeIs (.ref src) T→Q false s'→wpAny (model X.prog X.w) A (Pk (.ref src)) Q E s')
 (iter:∀ (A:Around) (s1:Shared) (H1:Hp) (E:Value→Shared→Prop),Inv X aa σ H1 s1→aD Hf H1→(∀ b o,s.heap.get? b=some o→s1.heap.get? b=some o)→wpAny (model X.prog X.w) A (pyIter (.ref src)) (fun itv s2=>∃ (it:Addr) (tn:Nat→Heap→Prop) (J:It),itv=.ref it ∧
   s1.heap.objs.size≤it∧Inv X aa σ H1 s2∧Turn X.prog X.w X.K (.Name "x" ⟨0,0,0,0⟩) J [it] it tn∧tn 0 s2.heap∧(∀ b∈[it],fG X aa H1 b)∧(∀ b o,s1.heap.get? b=some o→s2.heap.get? b=some o)∧jh X.K J ds Hf) E s1)
 (hQ:∀ (us:List Value) (s':Shared) (H' aj:Hp) (xs:List V),Inv X aa σ H' s'→Vals xs us→aq X.K aj ds xs→aZ H Hf H' aj→ds.length≤sizeLine→Q us s'):wpAny (model X.prog X.w) X.A (collect (.ref src)) Q E s:=by
 unfold collect
 refine MG (wpAny_runValue (Qd PySem.F.entry_proto_collect ?_))
 rw [QU PySem.F.plain_proto_collect _]
 show wpAny _ X.A.in1 (newList [] >>= fun l=>again (.builtin "list.__iadd__" ⟨[l,.ref src],[]⟩)) _ _ s
 have HS:H s.heap.objs.size=none:=I.hok.fresh (ML _)
 have hvS:s.heap.objs.size≠src:=PM hlt
 refine MG (NQ (MJ ⟨plainId_quiet PySem.F.plain_list_iadd _,Qd PySem.F.entry_list_iadd ?_⟩))
 rw [QU PySem.F.plain_list_iadd _]
 generalize hS:s.heap.objs.size=S at *
 have I1:Inv X aa σ (upd H S (.lst [])) { s with heap:=s.heap.push { cls:=.type "list",data:=.seq ([]:List Value).toArray },toks:=s.toks }:=by
  have:=I.CL (t':=s.toks) (ys:=[]) (its:=[]) .nil (Nu _)
  rw [hS] at this
  exact this
 show wpAny _ X.A.in1 (QA (.ref S) (.ref src) (.ref S)) _ _ { s with heap:=s.heap.push { cls:=.type "list",data:=.seq ([]:List Value).toArray } }
 have k1:∀ b o,s.heap.get? b=some o→(s.heap.push { cls:=.type "list",data:=.seq ([]:List Value).toArray }).get? b=some o:=fun b o e=>MQ _ e
 generalize hs1:({ s with heap:=s.heap.push { cls:=.type "list",data:=.seq ([]:List Value).toArray } }:Shared)=s1
 replace I1:Inv X aa σ (upd H S (.lst [])) s1:=by rw [← hs1]; exact I1
 replace k1:∀ b o,s.heap.get? b=some o→s1.heap.get? b=some o:=by rw [← hs1]; exact k1
 have hltS:S<s1.heap.objs.size:=by rw [← hs1,← hS]; show _<(Heap.push _ _).objs.size; rw [OQ]; exact O7 _
 refine ng (R:=fun r s'=>match r with
  | .ok (.ret v)=>wpAny (model X.prog X.w) X.A (do
   let .ref a:=v | unsupported "internal:collect"
   let o ← load a
   match o.data with
   | .seq xs _=>pure xs.toList
   | _=>unsupported "internal:collect") Q E s'
  | .ok _=>False
  | .error e=>E e s') hc h1 h2 I1 sb HS hvS hltS hn hT (fun s' k=>ty s' fun b o e=>k b o (k1 b o e)) hint (iter _ s1 _ _ I1 (aZ.fN sb HS (o:=.lst [])).b k1) fun s' H' aj xs I' hS' _ hr g=>?_
 obtain ⟨_,its,n,rv,el,eo⟩:=I'.pG hS'
 exact MG (wpAny_load eo (MJ (hQ its s' H' aj xs I' rv hr g hn)))
end
noncomputable def G7 (te:TE):TE:=fun σ H Q=>te σ H fun x H1=>∃ d o u,x=.ref d∧H1 d=some (.frz o u)∧HO.dct u∧∀ v,H1 v=none→Q (.ref v) (upd H1 v (.ext fun h=>h.IsItemsView v d))
theorem An (he:PE X e te) (hbase:attributeBase e "items" X.env (eval e X.env)=eval e X.env) (hline:(ap.endLine == cp.line)=true):PE X (.Call (.Attribute e "items" ap) [] [] cp) (G7 te):=by
 intro aa s σ H Q I h
 refine wpAny_Call_method (T:="dict") (id:="dict.items") hbase rfl hline F.plainAttrs_dict F.slot_dict_items F.type_dict_items (bw (he aa s σ H _ I h) fun v s1 ⟨x,H1,I1,r1,d,o,u,ex,hH,hd,q⟩=>?_)
 subst ex
 cases r1
 obtain ⟨ho,ok⟩:=(show aX X.prog X.w H1 s1.heap d (.frz o u) from I1.hok d _ hH)
 obtain ⟨hx,es,ep,hod,hp,hs,hz⟩:=cE ok hd ho
 have hT:s1.TypeIs (.ref d) "dict":=⟨o,ho,hx.1⟩
 refine ⟨hT,fun b z=>by cases z; exact ⟨o,ho,hx.2.1⟩,?_⟩
 show wpAny _ _ (callWith cp (.builtin "dict.items") [.ref d] [] []) _ _ s1
 refine method_meetsIn F.slot_dict_items F.entry_dict_items rfl (PySem.evalArgs_none ⟨rfl,hT,F.args_dict_items_1 _,_,qi d hs,hT,?_⟩)
 have Hv:H1 s1.heap.objs.size=none:=I1.hok.fresh (ML _)
 have hve:(s1.heap.push { cls:=.type "dict_items",data:=.fields #[.ref d] }).IsItemsView s1.heap.objs.size d:=⟨_,M3 _ rfl,rfl,rfl⟩
 have I2:Inv X aa σ (upd H1 s1.heap.objs.size (.ext fun h=>h.IsItemsView s1.heap.objs.size d)) { s1 with heap:=s1.heap.push { cls:=.type "dict_items",data:=.fields #[.ref d] },toks:=s1.toks } :=
  I1.laid (a:=s1.heap.objs.size) (fun _ _ q=>MQ _ q) (ML _) ⟨hve,⟨_,M3 _ rfl⟩,fun h1 h2 ⟨o,e,r⟩ k=>⟨o,k o e,r⟩⟩
 exact ⟨.ref s1.heap.objs.size,_,I2,rfl,q _ Hv⟩
section
variable {X:Cx} {aa:List (Addr×Obj)} {σ:L2.St} {H Hf:Hp} {s:Shared} {E:Value→Shared→Prop} {α:Type} {enc:α→D} {lt:α→α→Bool} {κ:SortKind}
theorem k7 {K:MI}:∀ {L:List α} {xs:List V} {us:List Value},aq K Hf (L.map enc) xs→Vals xs us→Paired (fun x u=>jJ K Hf (enc x) u) L us
 | [],xs,us,h,v=>by rw [PN,ay] at h; subst h; cases v; exact .nil
 | t::L,xs,us,h,v=>by
  rw [MN] at h
  obtain ⟨x,r,rfl,h1,h2⟩:=aC.mp h
  cases v with
  | cons r1 r2=>exact .cons ⟨x,r1,h1⟩ (k7 h2 r2)
theorem k8 {K:MI}:∀ {L:List α} {us:List Value},Paired (fun x u=>jJ K Hf (enc x) u) L us→∃ xs,aq K Hf (L.map enc) xs∧Vals xs us
 | _,_,.nil=>⟨[],ay.mpr rfl,.nil⟩
 | _,_,.cons ⟨x,r1,h1⟩ t=>by
  obtain ⟨xs,h2,h3⟩:=k8 t
  exact ⟨x::xs,.cons h1 h2,.cons r1 h3⟩
structure Kf (X:Cx) (enc:α→D) (lt:α→α→Bool) (κ:SortKind):Prop where
 lin:∀ L:List α,SR.Fd lt L
 inj:∀ (aa:List (Addr×Obj)) (σ:L2.St) (H Hf:Hp) (s:Shared),Inv X aa σ H s→aD Hf H→∀ x y u,jJ X.K Hf (enc x) u→jJ X.K Hf (enc y) u→x=y
 kind:∀ (aa:List (Addr×Obj)) (σ:L2.St) (H Hf:Hp) (s:Shared) (A:Around) (E:Value→Shared→Prop),Inv X aa σ H s→aD Hf H→∀ (L:List α) (us:List Value),Paired (fun x u=>jJ X.K Hf (enc x) u) L us→2≤us.length→∀ Q:SortKind→Shared→Prop,Q κ s→wpAny (model X.prog X.w) A (keyKind' us.toArray) Q E s
 cmp:∀ (aa:List (Addr×Obj)) (σ:L2.St) (H Hf:Hp) (s:Shared) (A:Around) (E:Value→Shared→Prop),Inv X aa σ H s→aD Hf H→A.units+10<cLine→∀ (x y:α) (u v:Value),jJ X.K Hf (enc x) u→jJ X.K Hf (enc y) v→∀ Q:Bool→Shared→Prop,Q (lt x y) s→wpAny (model X.prog X.w) A (keyLt' κ u v) Q E s
noncomputable def fh (lt:α→α→Bool) (b:Bool) (L:List α):Prop:=L.Pairwise fun x y=>if b then lt y x=true else lt x y=true
noncomputable abbrev iW (b:Bool) (L:List aO):Prop:=fh cK b L
theorem Ao {Q:Value→Shared→Prop} (hs:Kf X enc lt κ) (I:Inv X aa σ H s) (sb:aD Hf H) (hA:A.units+20<cLine) (hr:aq X.K Hf (L.map enc) xs) (hv:Vals xs us) (hz:us.length≤sizeLine) (nd:L.Nodup)
 (hQ:∀ (L':List α) (xs':List V) (s':Shared),L'.Perm L→fh lt b L'→aq X.K Hf (L'.map enc) xs'→xs'.length≤sizeLine→Inv X aa σ (upd H s.heap.objs.size (.lst xs')) s'→Q (.ref s.heap.objs.size) s') :
 wpAny (model X.prog X.w) A (newList us >>= fun l=>(holding [l] (call (.builtin "list.sort") [l] [(MH "reverse",.bool b)]) >>= fun _=>ret l)) (fun fin s'=>∃ v,fin=.done (.ret v)∧Q v s') E s:=by
 refine MG (Qk ?_ hz)
 have ha:(s.heap.push (seqObj "list" us.toArray 0)).get? s.heap.objs.size=some (seqObj "list" us.toArray 0):=M3 _ rfl
 have I1:Inv X aa σ H { s with heap:=s.heap.push (seqObj "list" us.toArray 0),toks:=s.toks }:=I.kept fun b o e=>MQ _ e
 have Ha:H s.heap.objs.size=none:=I.hok.fresh (ML _)
 obtain ⟨f0,f1,f2,f3,f4,f5⟩:=I.lR (H':=H) (ML _) Ha
 have pL:=k7 hr hv
 refine MG (NX (RW slot_list_sort ⟨_,ha,rfl⟩ entry_list_sort (SR.nc (κ:=κ) (rk:=SR.wY (fun x u=>jJ X.K Hf (enc x) u) lt L) (b:=b) ha ?_ hz fun out hp ho=>⟨_,rfl,?_⟩) (args_list_sort_rev _ _)))
 ·intro h' k
  have I2:=I1.turned (h':=h') (t':=s.toks) (it:=s.heap.objs.size) (fun b o hb e=>k b o hb e) f0 f1 f3 f4 f5
  refine ⟨fun Q E h2 hQ=>hs.kind _ _ _ _ _ _ _ I2 sb _ _ pL h2 _ hQ,SR.Aj (fun x y u h1 h2=>hs.inj _ _ _ _ _ I2 sb x y u h1 h2) (hs.lin L) pL fun x _ y _ u v hx hy E Q hQ=>hs.cmp _ _ _ _ _ _ _ I2 sb ?_ _ _ _ _ hx hy _ hQ⟩
  show A.units+1+10<cLine
  lia
 ·obtain ⟨L',p1,p2,p3⟩:=SR.qB (S:=fun x u=>jJ X.K Hf (enc x) u) (fun x y u h1 h2=>hs.inj _ _ _ _ _ I sb x y u h1 h2) (hs.lin L) nd pL hp ho
  obtain ⟨xs',r',v'⟩:=k8 p3
  obtain ⟨e,he⟩:=sortedHeap_at (vs:=us) (out:=out) ha
  have hl:out.toList.length=us.length:=hp.length_eq
  refine MJ ⟨_,rfl,hQ L' xs' _ p1 p2 r' ?_ ?_⟩
  ·have:=v'.length; lia
  ·refine I.laid (t':=s.toks) (fun b o q=>?_) (ML _) ⟨by have:=v'.length; lia,out.toList,e,v',by simpa using he⟩
   have lt:=MR q
   rw [sortedHeap_old (Nh lt) (by rw [size_push']; exact Q0 lt)]
   exact MQ _ q
end
section
end
section
variable {K:MI}
end
section
end
section
variable {K:MI}
end
end EV
namespace EV
open PySem PySem.Spec PyProof.Rows L2
noncomputable def trim (l:List Int):List Int:=(l.reverse.dropWhile fun x=>x == 0).reverse
theorem gB (l):trim (l++[0])=trim l:=by simp [trim]
theorem nh (l) (h:x≠0):trim (l++[x])=l++[x]:=by simp [trim,List.dropWhile_cons,h]
theorem jn {l:List Int} (h:m<l.length):l.take (m+1)=l.take m++[l.getD m 0]:=by
 rw [NL h]; simp [NT,h]
theorem ni (h:m<l.length) (z:l.getD m 0=0) (e:trim (l.take (m+1))=trim l):trim (l.take m)=trim l:=by
 rw [jn h,z,gB] at e; exact e
theorem jo (h:m<l.length) (z:l.getD m 0≠0) (e:trim (l.take (m+1))=trim l):l.take (m+1)=trim l:=by
 rw [← e,jn h,nh _ z]
theorem fT (l):(trim l).length≤l.length:=by
 unfold trim
 rw [R0]
 exact MT (List.dropWhile_sublist _).length_le (by simp)
theorem cg (l):trim (trim l)=trim l:=by
 unfold trim
 rw [List.reverse_reverse]
 congr 1
 generalize l.reverse=r
 induction r with
 | nil=>rfl
 | cons x r ih=>by_cases h:x == 0 <;> simp [List.dropWhile_cons,h,ih]
theorem Aq (l:List α) (h:m≤l.length):EV.cutD l none (some (m:Int))=l.take m:=by
 unfold EV.cutD HT.bZ
 have e:¬ (m:Int)<0:=by lia
 simp only [e,if_false,NN]
 simp [Qe h]
section
variable {K:MI}
end
noncomputable def encA (A:List aO):List (List Key×D):=A.map fun t=>(t.1.map M6,.int t.2)
theorem om:∀ {l m:List Int},(l.map (M6:Int→Key))=m.map M6→l=m
 | [],[],_=>rfl
 | x::l,y::m,h=>by
  simp only [MN,List.cons.injEq,M6.injEq] at h
  rw [h.1,om h.2]
 | [],_::_,h=>by simp at h
 | _::_,[],h=>by simp at h
theorem oq (A) (l):bh (encA A) (l.map M6)=(bh A l).map D.int:=by
 induction A with
 | nil=>rfl
 | cons t A ih =>
  by_cases e:t.1=l
  ·rw [aY e]
   show bh ((t.1.map M6,D.int t.2)::encA A) _=_
   rw [aY (by rw [e])]; rfl
  ·rw [aP e,← ih]
   show bh ((t.1.map M6,D.int t.2)::encA A) _=_
   rw [aP fun z=>e (om z)]
theorem DP (A) (l) (n):putD (encA A) (l.map M6) (.int n)=encA (putD A l n):=by
 unfold putD
 rw [oq]
 by_cases h:(bh A l).isSome=true
 ·rw [if_pos h,if_pos (by rw [O5]; exact h)]
  unfold encA
  rw [Na,Na]
  refine OA fun t _=>?_
  simp only [Rn]
  by_cases e:t.1=l
  ·rw [if_pos e,if_pos (by rw [e])]
  ·rw [if_neg e,if_neg fun z=>e (om z)]
 ·rw [if_neg h,if_neg (by rw [O5]; exact h)]
  unfold encA
  simp
theorem eO:∀ l:List Int,D.keys (l.map D.int)=some (l.map M6)
 | []=>rfl
 | x::l=>by
  simp only [MN]
  unfold D.keys
  rw [eO l]; rfl
theorem DQ (A:List aO) (l:List Int) (n:Int):(putD A l n).length≤A.length+1:=by
 unfold putD; split <;> simp
theorem DR (A):(encA A).length=A.length:=by simp [encA]
theorem qC (l:List Int) (n:Int) (h:(A.map (·.1)).Nodup):((putD A l n).map (·.1)).Nodup:=by
 unfold putD
 split
 ·rw [Na]
  have e:(A.map ((·.1)∘fun kv:aO=>if kv.1=l then (kv.1,n) else kv))=A.map (·.1):=OA fun t _=>by
   simp only [Rn]; split <;> rfl
  rw [e]; exact h
 ·rename_i q
  rw [Nt,Q4]
  refine ⟨h,by simp,?_⟩
  intro a ha b hb
  simp at hb
  subst hb
  intro z
  subst z
  apply q
  obtain ⟨t,ht,e⟩:=Nk.mp ha
  unfold bh
  rw [O5,List.find?_isSome]
  exact ⟨t,ht,decide_eq_true e⟩
theorem keys_nodup {A:List aO} (h:(A.map (·.1)).Nodup):A.Nodup:=by
 unfold Qu at *
 rw [OB] at h
 exact h.imp fun q z=>q (by rw [z])
noncomputable def fj (A:List aO) (t:aO):List aO:=putD A (trim t.1) ((bh A (trim t.1)).getD 0+t.2)
noncomputable def aG (ts:List aO):List aO:=ts.foldl fj []
theorem qD (ts) (t):aG (ts++[t])=fj (aG ts) t:=by simp [aG]
theorem ou (ts:List aO) (A):(ts.foldl fj A).length≤A.length+ts.length:=by
 induction ts generalizing A with
 | nil=>simp
 | cons t ts ih =>
  have h1:=ih (fj A t)
  have h2:=DQ A (trim t.1) ((bh A (trim t.1)).getD 0+t.2)
  simp only [N9,Nl]
  unfold fj at *
  lia
theorem gC (ts):(aG ts).length≤ts.length:=by
 have:=ou ts []
 simpa [aG] using this
theorem dN (ts):((aG ts).map (·.1)).Nodup:=by
 unfold aG
 have:∀ A:List aO,(A.map (·.1)).Nodup→((ts.foldl fj A).map (·.1)).Nodup:=by
  induction ts with
  | nil=>exact fun A h=>h
  | cons t ts ih=>exact fun A h=>ih _ (qC _ _ h)
 exact this [] (by simp)
theorem DS (x):cK x x=false:=(oj [x]).irr x (by simp)
theorem Ar (h:cK x y=true) (g:cK y z=true):cK x z=true:=(oj [x,y,z]).tr x (by simp) y (by simp) z (by simp) h g
theorem k9:∀ {L M:List aO},L.Perm M→iW true L→iW true M→L=M
 | [],M,h,_,_=>by rw [List.nil_perm] at h; exact h.symm
 | x::L,[],h,_,_=>by simp at h
 | x::L,y::M,h,h1,h2=>by
  unfold iW fh at h1 h2
  rw [Pz] at h1 h2
  by_cases e:x=y
  ·subst e
   rw [k9 ((List.perm_cons _).mp h) h1.2 h2.2]
  ·exfalso
   have hx:x∈M:=by
    have:=h.subset (MW)
    rcases M0.mp this with z | z
    ·exact absurd z e
    ·exact z
   have hy:y∈L:=by
    have:=h.symm.subset (MW)
    rcases M0.mp this with z | z
    ·exact absurd z.symm e
    ·exact z
   have a:=h1.1 y hy
   have b:=h2.1 x hx
   simp only [if_true] at a b
   have:=Ar a b
   rw [DS] at this; cases this
noncomputable def w9 (t:aO):List aO→List aO
 | []=>[t]
 | x::r=>if cK x t=true then t::x::r else x::w9 t r
noncomputable def eS (L:List aO):List aO:=L.foldr w9 []
theorem lg (t):∀ L:List aO,(w9 t L).Perm (t::L)
 | []=>.refl _
 | x::r=>by
  unfold w9
  split
  ·exact .refl _
  ·exact ((lg t r).cons x).trans (.swap _ _ _)
theorem bu:∀ L:List aO,(eS L).Perm L
 | []=>.refl _
 | t::L=>(lg t (eS L)).trans ((bu L).cons t)
theorem DT (h:x≠y):cK x y=true∨cK y x=true:=(oj [x,y]).tot x (by simp) y (by simp) h
theorem vn (t):∀ L:List aO,t∉L→iW true L→iW true (w9 t L)
 | [],_,_=>Pr _ _
 | x::r,hn,h=>by
  have h':=h
  unfold iW fh at h'
  rw [Pz] at h'
  unfold w9
  by_cases e:cK x t=true
  ·rw [if_pos e]
   unfold iW fh
   rw [Pz]
   refine ⟨fun y hy=>?_,h⟩
   simp only [if_true]
   rcases M0.mp hy with rfl | z
   ·exact e
   ·have:=h'.1 y z
    simp only [if_true] at this
    exact Ar this e
  ·rw [if_neg e]
   unfold iW fh
   rw [Pz]
   refine ⟨fun y hy=>?_,vn t r (fun z=>hn (MX _ z)) h'.2⟩
   rcases M0.mp ((lg t r).subset hy) with rfl | z
   ·simp only [if_true]
    rcases DT (x:=x) (y:=y) (fun z=>hn (by rw [z]; exact MW)) with q | q
    ·exact absurd q e
    ·exact q
   ·exact h'.1 y z
theorem gD:∀ {L:List aO},L.Nodup→iW true (eS L)
 | [],_=>Qa
 | t::L,h=>by
  rw [N8] at h
  exact vn t _ (fun z=>h.1 ((bu L).subset z)) (gD h.2)
theorem Au (hn:L.Nodup) (hp:L'.Perm L) (hs:iW true L'):L'=eS L:=k9 (hp.trans (bu L).symm) hs (gD hn)
noncomputable def nz (L:List aO):List aO:=L.filter fun t=>t.2 != 0
theorem Av (hn:L.Nodup):nz (eS L)=eS (nz L) :=
 Au (RB.filter _ hn) ((bu L).filter _) ((gD hn).filter _)
theorem encK (A):(Sl.oT (encA A)).qg=some (.fdT (A.map fun t=>t.1.map M6) (A.map fun t=>.int t.2)):=by
 show some _=some _
 unfold encA
 rw [Na,Na]; rfl
theorem Aw (h:r.wI=some (encA A)) (l):E6 r (.tup (l.map .int)) ((bh A l).map D.int):=by
 rw [← oq]; exact .t h (eO l)
theorem Ax (hz:A.length<sizeLine):Dl (.oT (encA A)) (.tup (l.map .int)) (.int n) (.oT (encA (putD A l n))):=by
 rw [← DP]
 exact .t (r:=.oT (encA A)) rfl (eO l) (by rw [DR]; exact hz)
theorem qE (o:Option Int):(o.map D.int).getD (.int 0)=.int (o.getD 0):=by cases o <;> rfl
end EV
namespace EV
open PySem PySem.Spec PySem.Calls PyProof.Rows L2
section
theorem oA {L:List Addr} (I:Inv X aa σ H s) (k:∀ b o,b∉L→s.heap.get? b=some o→h'.get? b=some o) (hf:∀ b∈L,fG X aa H b):Inv X aa σ H { s with heap:=h',toks:=t' }:=by
 have nit:∀ b u,H b=some u→b∉L:=fun b u e z=>by rw [(hf b z).1] at e; cases e
 refine I.step (g':=s.gens) (d':=s.drawn) (ch:=L) (fun b hb=>?_) (fun b o _ _ hc e _=>k b o hc e) (fun b o _ _ hc e _=>⟨o.slots,k b o hc e⟩) (fun _ _ _ _ n=>n)
  (fun b o hc e=>⟨o,k b o hc e⟩) (fun _ _ e=>e) (fun _ _ _ e=>e) (fun b ps e=>⟨#[],by rw [e]; simp⟩) (fun m hm=>?_) (fun b u e=>?_) I.bare
 ·obtain ⟨_,f1,_,f3,f4,f5⟩:=hf b hb
  exact ⟨f3,f1,f4,f5⟩
 ·obtain ⟨o,es,ep,ho,r⟩:=hm
  exact ⟨o,es,ep,k _ o (fun z=>(hf _ z).2.1 rfl) ho,r⟩
 ·refine (I.hok b u e).stay (fun c v hc q=>k c v ?_ q) (fun _ q=>q) fun _ _ q=>q
  rcases hc with z | z
  ·rw [z]; exact nit b u e
  ·exact nit c _ z
end
section
variable {K:MI}
end
end EV
namespace EV
open PySem PySem.Spec PyProof.Rows L2
theorem oB {A:List aO} {l:List Int} {n:Int} {t:aO} (h:t∈putD A l n):t.1=l∨t∈A:=by
 unfold putD at h
 split at h
 ·obtain ⟨u,hu,e⟩:=Nk.mp h
  split at e
  ·rename_i q; subst e; exact .inl q
  ·subst e; exact .inr hu
 ·rcases Ng.mp h with q | q
  ·exact .inr q
  ·simp at q; subst q; exact .inl rfl
theorem iX (hl:∀ t∈ts,t.1.length≤n):∀ t∈aG ts,trim t.1=t.1∧t.1.length≤n:=by
 unfold aG
 suffices H:∀ A:List aO,(∀ t∈A,trim t.1=t.1∧t.1.length≤n)→∀ t∈ts.foldl fj A,trim t.1=t.1∧t.1.length≤n from H [] (by simp)
 induction ts with
 | nil=>exact fun A h=>h
 | cons u ts ih =>
  refine fun A h=>ih (fun t ht=>hl t (MX _ ht)) _ fun t ht=>?_
  rcases oB ht with e | e
  ·rw [e,cg]
   exact ⟨rfl,MT (fT _) (hl u MW)⟩
  ·exact h t e
noncomputable def bC (ts:List aO):List aO:=eS (nz (aG ts))
theorem vo (h:(A.map (·.1)).Nodup):((nz A).map (·.1)).Nodup:=Qu.sublist (List.filter_sublist.map _) h
theorem nj (ts):(bC ts).Perm (nz (aG ts)):=bu _
theorem lu (h:t∈bC ts):t∈aG ts∧t.2≠0:=by
 have:=(nj ts).subset h
 unfold nz at this
 rw [Qf] at this
 exact ⟨this.1,by simpa using this.2⟩
theorem ly (ts):(bC ts).length≤ts.length:=by
 rw [(nj ts).length_eq]
 exact MT (List.length_filter_le _ _) (gC ts)
theorem Ay (h:∀ t∈ts,t.1.length≤n):∀ t∈bC ts,t.1.length≤n:=fun t ht=>(iX h t (lu ht).1).2
end EV
namespace EV
open PySem PySem.Spec PySem.Calls PyProof.Rows L2
theorem DU {K:MI} {f:Int→Int→Int}:zf K (fun xs H Q=>∃ i j,xs=[.int i,.int j]∧Q (.int (f i j)) H) (fun ds R=>∃ i j:Int,ds=[.int i,.int j]∧R (.int (f i j))):=by
 rintro ds vs H Hf Q R s rs ⟨i,j,rfl,hR⟩ q
 obtain ⟨v,r,rfl,r1,r2⟩:=aC.mp rs
 obtain ⟨v',r',rfl,r1',r2'⟩:=aC.mp r2
 rw [ay] at r2'
 subst r2'
 rw [av] at r1 r1'
 subst r1 r1'
 exact ⟨i,j,rfl,q _ _ H Hf hR (av.mpr rfl) (.refl s)⟩
section
variable {K:MI} {c:Ctx P w K mg base k N sc bk}
theorem boot_max:bootBuiltins "max"=some (.builtin "max"):=by decide +kernel
theorem Az (hm:mg "max"=none) (h:aF c a ρ fun x=>aF c b ρ fun y=>I2 (fun i j=>R (.int (if j>i then j else i))) x y) (hg:sc.names.lookup (MH "max")=some .globalImplicit:=by walk_at "u")
 (he:∀ env,starEach [a,b] env=(false,eval a env)::starEach [b] env:=by intro _; walk_at "u") (he2:∀ env,starEach [b] env=(false,eval b env)::starEach [] env:=by intro _; walk_at "u")
 (hpl:∀ env,(backTo pos (starEach [b] env)).any (·.1)=false:=by intro _; walk_at "u"):aF c (.Call (.Name "max" p) [a,b] [] pos) ρ R :=
 uI (wg c.calm) (DU (f:=fun i j=>if j>i then j else i)) hm boot_max (dI (h.imp fun x h1=>dI (h1.imp fun y ⟨i,j,e1,e2,hR⟩=>kD ⟨i,j,by rw [e1,e2],hR⟩) he2) he) hg (by decide) (by decide) he hpl
theorem Fe (h:aF c a ρ fun x=>aF c b ρ fun y=>I2 (fun i j=>Sd (rX i j) (R (.int (i * 2 ^ j.toNat)))) x y):aF c (.BinOp a .LShift b pos) ρ R :=
 iH (nQ F7 mK (h.imp fun x hx=>hx.imp fun y ⟨i,j,e1,e2,⟨hc,r⟩⟩=>⟨i,j,e1,e2,hc,_,rfl,r⟩))
theorem Ff (h:aF c a ρ fun x=>aF c b ρ fun y=>I2 (fun i j=>Sd (0≤j) (R (.int (i / 2 ^ j.toNat)))) x y):aF c (.BinOp a .RShift b pos) ρ R :=
 iH (nQ F8 mK (h.imp fun x hx=>hx.imp fun y ⟨i,j,e1,e2,⟨hc,r⟩⟩=>⟨i,j,e1,e2,hc,_,rfl,r⟩))
theorem AA (h:aF c a ρ fun x=>aF c b ρ fun y=>I2 (fun i j=>R (.int (Builtin.bitAnd i j))) x y):aF c (.BinOp a .BitAnd b pos) ρ R :=
 iH (nQ F9 yX (h.imp fun x hx=>hx.imp fun y ⟨i,j,e1,e2,r⟩=>⟨i,j,e1,e2,_,rfl,r⟩))
end
noncomputable abbrev K7:=List (Key×D)→List D→(List (Key×D)→Prop)→Prop
noncomputable def G8 (K:MI) (F:K7):Sp:=fun vs H Q _=>∃ Hf p kvs xs us ds B,vs=.ref p::us∧aD Hf H∧H p=some (.dK xs)∧Hf p=none∧lN K Hf kvs xs∧aq K Hf ds us∧F kvs ds B ∧
 ∀ kvs' H' aj xs',B kvs'→aZ (del H p) Hf H' aj→H' p=some (.dK xs')→aj p=none→lN K aj kvs' xs'→Q .non H'
structure xg (P:Program) (w:World) (K:MI) (mg:Str→Option Value) (base:Heap) (k:Nat) (x:Str) (F:K7):Prop where
 ex:∃ f fd ps,mg x=some (.ref f)∧Oq K (.ref f)=true∧Binds K fd ps []∧bz P w K mg base (dR P w) k f fd ps (G8 K F)
noncomputable def startM (q:Addr) (kvs:List (Key×D)) (N:List Str) (ds:List D):List Sl:=.aK q kvs::(ds.map .va++MY (N.length - (ds.length+1)) .un)
theorem xh {K:MI} (r:aq K Hf ds us) (sb:aD Hf H) (h1:H q=some (.dK xs)) (h2:Hf q=none) (h3:lN K Hf kvs xs) :
 cR K (del H q) Hf (L2.start N (.ref q::us)) H Hf (startM q kvs N ds):=by
 have hl:=r.length
 have rest:∀ (i:Nat) (r':Sl),(startM q kvs N ds)[i+1]?=some r'→r'≠.un→∃ d,ds[i]?=some d∧r'=.va d:=fun i r' h hu=>by
  have h':(ds.map Sl.va++MY (N.length - (ds.length+1)) Sl.un)[i]?=some r':=by simpa [startM] using h
  by_cases w:i<ds.length
  ·rw [OH (by simpa using w),MS,M9 w] at h'
   cases h'
   exact ⟨_,by simp,rfl⟩
  ·rw [Pn (by simp; lia)] at h'
   exact absurd (QG (NY h')) hu
 refine ⟨⟨fun b o e=>(iN e).2,.refl _,sb,fun _ h _ _=>h⟩,by simp [L2.start,startM,hl],fun i r' h hu=>?_,fun i j r1 r2 p hne e1 e2 o1 o2=>?_⟩
 ·cases i with
  | zero =>
   have:r'=.aK q kvs:=by simpa [startM] using h.symm
   subst this
   exact ⟨.ref q,by simp [L2.start],q,xs,rfl,⟨iM,rfl⟩,h1,h2,h3⟩
  | succ i =>
   obtain ⟨d,hd,rfl⟩:=rest i r' h hu
   obtain ⟨x,e2,rx⟩:=r.get hd
   refine ⟨x,?_,rx⟩
   have hi:i<us.length:=(MU.mp e2).1
   unfold L2.start
   rw [OH (by simp; lia)]
   simp [e2]
 ·exfalso
  have own:∀ {i:Nat} {r:Sl},(startM q kvs N ds)[i]?=some r→r.owned=true→i=0:=fun {i r} h ho=>by
   cases i with
   | zero=>rfl
   | succ i =>
    obtain ⟨d,_,rfl⟩:=rest i r h (by rintro rfl; cases ho)
    cases ho
  exact hne ((own e1 o1).trans (own e2 o2).symm)
section
variable {K:MI} {c:Ctx P w K mg base k N sc bk}
theorem Kg {st:Stmt} (Fu:fM K x qual st f fd) (Sc:aL N ps (af st)) (Vi:∀ x∈N,Loc (af st) x) (ar:∀ kvs ds B,F kvs ds B→ds.length+1=ps.length)
 (body:∀ (c:Ctx P w K mg base k N (af st) false),c.X.xe=(fun _ _=>False)→∀ q kvs ds B,F kvs ds B→bf c (aB st) (startM q kvs N ds) (fun ρ=>∃ kvs' r,B kvs'∧ρ=.aK q kvs'::r) { rt:=fun _=>False }) :
 bz P w K mg base (dR P w) (k+1) f fd ps (G8 K F):=by
 obtain ⟨oc,od,kV,doc,pm,an,cdv,ct,osl,rfl,lk,hcd⟩:=Fu.ex
 refine yF lk hcd Sc (fun vs H Q E hh=>z4 hh fun Hf q kvs xs hh=>z3 hh fun us ds B hh=>w8 hh fun e _ _ _ _ rs hF _=>by rw [e,Nl,← rs.length]; exact ar _ _ _ hF) fun A outer s H vs Q E hr hh=>z4 hh fun Hf q kvs xs hh=>z3 hh fun us ds B hh=>w8 hh fun e sb h1 h2 h3 rs hF hq=>?_
 subst e
 let X:Cx:=(pD (dR P w) P w K mg base N qual (af st) f cdv A outer s H E).ET
 let c:Ctx P w K mg base k N (af st) false :=
  { X:=X,eP:=rfl,ew:=rfl,eK:=rfl,emg:=rfl,eb:=rfl,eN:=rfl,esc:=rfl,calm:=rfl,top:=fun _=>⟨rfl,rfl,rfl⟩,cb:=fun _ _ _ _ _ I x c h=>I.ok.cab x c rfl h,fn:=fun _ _=>.inl rfl,B:=del H q,room:=hr,nd:=Sc.nd,vis:=Vi,Hf:=Hf,RX:=fun _ _=>False,
    exc:=fun _ _ _ _ _ _ _ _ _ _ _ _ h _ _=>h.elim,RM:=fun _ _=>False,mde:=fun _ _ _ _ _ _ _ _ _ _ _ _ h _=>h.elim }
 refine ⟨_,rP.ET (t:=Gw X (aB st)) (pQ (X:=X)),?_⟩
 refine body c rfl q kvs ds B hF (L2.start N (.ref q::us)) H Hf _ (xh rs sb h1 h2 h3) ⟨fun σ H' aj ρ S ⟨kvs',r,hB,e⟩=>?_,fun r v H' aj g rv e=>e.elim,fun _ _ _ _ _ h=>h.elim,fun _ _ _ _ _ h=>h.elim⟩
 subst e
 obtain ⟨v,_,q',xs',_,⟨_,rfl⟩,a1,a2,a3⟩:=S.at_ 0 _ rfl (by simp)
 exact hq kvs' H' aj xs' hB S.bas a1 a2 a3
theorem vp (h:xg P w K mg base j x F) (hj:j≤k) (hN:At N i y) (hi:At ρ i r) (hr:r.sC=some kvs)
 (ha:pR c es ρ fun ds=>∃ B,F kvs ds B∧∀ kvs',B kvs'→Nx ρ i nx (r.p7 kvs'))
 (hg:sc.names.lookup x=some .globalImplicit:=by walk_at "u") (hdb:(x == ("__debug__":Str))=false:=by decide) (hd:(y == ("__debug__":Str))=false:=by decide) (hcd:(y == ("__classdict__":Str))=false:=by decide)
 (he:∀ env,starEach (.Name y py::es) env=(false,eval (.Name y py) env)::starEach es env:=by intro _; walk_at "u")
 (hpl:∀ env,(backTo cp (starEach es env)).any (·.1)=false:=by intro _; walk_at "u")
 (hs:∀ env,swapsWith (.Call (.Name x px) (.Name y py::es) [] cp) none pos.line env=pure false:=by intro _; walk_at "u"):eE c (.Expr (.Call (.Name x px) (.Name y py::es) [] cp) pos) ρ nx p:=fun σ H Hf D S o=>by
 obtain ⟨q,eq,rq⟩:=S.own hi.get (kH hr)
 obtain ⟨xs,h1,h2,h3⟩:=wJ hr rq
 refine dH (jR cO (hs _)) (show bE c.X _ σ H (fun _ H'=>D.nx σ H') from fun aa s I=>?_)
 obtain ⟨f,fd,ps,hm,hk,hb,hF⟩:=h.ex
 refine Ol (iD I (by unfold Gl Nz; rw [c.esc]; exact hg) (by rw [c.emg]; exact hm) ?_ hdb)
 have hA:bA c.X (.Name y py::es) σ H (fun vs H1=>∃ us aI ds B,vs=.ref q::us∧F kvs ds B∧(∀ kvs',B kvs'→Nx ρ i nx (r.p7 kvs'))∧aq c.X.K aI ds us∧aZ H Hf H1 aI) :=
  mH (bL (c.kF hN hd hcd) CV (he _)) ⟨_,eq,ha σ H Hf _ S fun ds vs H1 aI ⟨B,hF,hn⟩ rs g=>⟨vs,aI,ds,B,rfl,hF,hn,rs,g⟩⟩
 refine QW (h₀:=c.X.base) I.ok.mod.kin (by rw [c.eK]; exact hk) (bw (hA cp aa s I) fun us s1 hh=>z2 hh fun vs H1 hh=>w3 hh fun I1 rv hh=>z4 hh fun us' aI ds B hh=>w5 hh fun ev hF' hn rs g=>⟨I1.nI,?_⟩) (he _) (hpl _)
 subst ev
 have S1:=S.ck g
 have rq1:=rq.ck g
 obtain ⟨xs1,a1,a2,a3⟩:=wJ hr rq1
 have hF2:bz c.X.prog c.X.w c.X.K c.X.mg c.X.base (dR c.X.prog c.X.w) k f fd ps (G8 c.X.K F):=by rw [c.eP,c.ew,c.eK,c.emg,c.eb]; exact hF.mono hj
 have pe:G8 c.X.K F (.ref q::us') H1 (fun _ H'=>D.nx σ H') (fun _ _ _=>False):=by
  refine ⟨aI,q,kvs,xs1,us',ds,B,rfl,g.b,a1,a2,a3,rs,hF',fun kvs' H' aj xs' hB g2 b1 b2 b3=>?_⟩
  obtain ⟨ρ',hs',hn⟩:=hn kvs' hB
  refine o.nx σ H' aj ρ' ?_ hn
  rw [hs'.eq]
  exact S1.upd hi.get (kH hr) eq g2 (p8 hr rq1 b1 b2 b3) (kI hr)
 have hl:us.length=ps.length:=by rw [← rv.length]; exact hF2.len _ _ _ _ pe
 have hb':Binds c.X.K fd ps []:=by rw [c.eK]; exact hb
 have hb2:=hb' s1 us I1.nI (by simpa using hl)
 rw [NR] at hb2
 refine PU (PK (hF2.run c.X.A c.X.stack s1 H1 ⟨us,[]⟩ us _ _ _ c.room I1.CD hb2 rv pe) fun r' s' hq=>?_)
 cases r' with
 | error e =>
  obtain ⟨a,C,H',rfl,hE,h⟩:=hq
  exact h.elim
 | ok fl =>
  cases fl with
  | ret u=>exact I1.after hq
  | next=>exact NK hq
  | brk=>exact NK hq
  | cont=>exact NK hq
end
theorem aq.many {K:MI} (h:aq K H ds xs):∀ k:Nat,aq K H (MY k ds).flatten (MY k xs).flatten
 | 0=>ay.mpr rfl
 | k+1=>by
  rw [Ou,Ou,O6,O6]
  exact h.append (aq.many h k)
theorem aq.set {K:MI}:∀ {ds:List D} {xs:List V} (i:Nat) {d:D} {v:V},aq K H ds xs→Rep K H d v→aq K H (ds.set i d) (xs.set i v)
 | [],_,i,_,_,h,_=>by rw [ay] at h; subst h; exact ay.mpr rfl
 | e::ds,_,i,d,v,h,q=>by
  obtain ⟨x,r,rfl,h1,h2⟩:=aC.mp h
  cases i with
  | zero=>exact .cons q h2
  | succ i=>exact .cons h1 (aq.set i h2 q)
theorem AB {n k:Nat} {i:Int} (hi:i=k) (e:s.heap.get? l=some { cls:=.type "list",data:=.seq items n }) (hk:k<items.size) (hf:items.size<2 ^ 63)
 (hQ:Q () { s with heap:=s.heap.update l (Nn fun xs=>xs.setIfInBounds k v) }):wpAny (model prog w) A (setItem (.ref l) (.int i t) v) Q E s:=by
 have ht:s.TypeIs (.ref l) "list":=⟨_,e,rfl⟩
 have hx:items[k]?=some items[k]:=Nf hk
 unfold setItem
 refine NX (MG (R6 ht (by decide) ?_))
 refine MG (OI (name:=MH "__setitem__") ht PySem.slot_list_setitem (Oe PySem.slot_list_setitem ht PySem.entry_list_setitem ?_ (PySem.args_list_setitem _ _ _)))
 show wpAny _ _ (Builtin.List.listSubscript? (.int i t) >>= _) _ _ s
 refine MG (wpAny_listSubscript_int (fitsIndex_of (show 0≤i by lia) (show i<2 ^ 63 by lia)) ?_)
 clear hf
 subst hi
 show wpAny _ _ ((seqItemAt l k >>= fun r=>pure (r.map fun x=>(k,x))) >>= _) _ _ s
 refine MG (MG (wpAny_seqItemAt e rfl (MJ ?_)))
 rw [hx]
 show wpAny _ _ (setSeqItemAt l k v >>= _) _ _ s
 refine MG (wpAny_setSeqItemAt e rfl ?_)
 first
  | exact MG (MJ (MJ ⟨NO,rfl,MJ hQ⟩))
  | exact MJ ⟨NO,rfl,MJ hQ⟩
noncomputable def Kh:FQ:=fun o i v H Q=>∃ l xs k,o=.ref l∧i=.int (k:Nat)∧H l=some (.lst xs)∧k<xs.length∧Q (upd H l (.lst (xs.set k v)))
theorem AD:Jh X Kh:=by
 intro aa s σ H o i v ov iv u Q I r1 r2 r3 h
 obtain ⟨l,xs,k,rfl,rfl,hH,hk,q⟩:=h
 cases r1
 obtain ⟨t,rfl⟩:=r2
 obtain ⟨z,its,n,r,hl,e⟩:=I.pG hH
 have hbig:xs.length<2 ^ 63:=OM z (by decide)
 refine AB rfl e (by rw [M7,← hl]; exact hk) (by rw [M7,← hl]; exact hbig) ⟨_,I.sd (its':=its.set k u) (t':=s.toks) hH e ?_ (Vals.set r3 k r) (by rw [List.length_set]; exact z),q⟩
 show its.toArray.setIfInBounds k u=(its.set k u).toArray
 simp
theorem DV:LB X "int.bit_length" (fun x vs H Q=>∃ i,x=.int i∧vs=[]∧Q (.int (N3 i:Nat)) H):=by
 intro aa s σ H x xs v us Q I r1 r2 h
 obtain ⟨i,rfl,rfl,q⟩:=h
 obtain ⟨t,rfl⟩:=r1
 cases r2
 exact PyProof.Rows.call_int_bit_length ⟨.int (N3 i:Nat),H,I.tok _,⟨_,rfl⟩,q⟩
section
variable {K:MI} {c:Ctx P w K mg base k N sc bk}
theorem G9 (h:aF c e ρ (I1 fun i=>R (.int (N3 i:Nat)))) (hbase:∀ env,attributeBase e "bit_length" env (eval e env)=eval e env:=by intro _; walk_at "u") (hline:(ap.endLine == cp.line)=true:=by walk_at "u") :
 aF c (.Call (.Attribute e "bit_length" ap) [] [] cp) ρ R:=fun σ H Hf Q S q =>
 bF (Gi PySem.F.plainAttrs_int PySem.F.slot_int_bit_length PySem.F.type_int_bit_length DV cO (hbase _) hline) (h σ H Hf _ S fun d v H' aj ⟨i,e,hR⟩ r g=>by
  subst e
  rw [av] at r; subst r
  exact ⟨rfl,i,rfl,rfl,q _ _ H' aj hR (av.mpr rfl) g⟩)
theorem Kl {R:Sl→Prop} (h:c6 c a ρ fun r=>∃ ds,r=.ow ds∧aF c b ρ (I1 fun n=>Sd ((0≤n∧n<2 ^ 63)∧ds.length * n.toNat≤sizeLine) (R (.ow (MY n.toNat ds).flatten)))):c6 c (.BinOp a .Mult b pos) ρ R:=fun σ H Hf Q S q =>
 bF (yz Gj cO cO) (h σ H Hf _ S fun r v H1 aI ⟨ds,er,h1⟩ rr g1=>h1 σ H1 aI _ (S.ck g1) fun dn u H2 cD ⟨n,en,⟨⟨n0,n1⟩,hz⟩,hR⟩ rn g2=>by
  subst er en
  rw [av] at rn; subst rn
  obtain ⟨l,xs,rfl,fl,k1,k2,k3⟩:=rr
  have k1':=g2.s _ _ k1
  refine ⟨l,n,xs,rfl,rfl,k1',by lia,n1,by rw [← k3.length]; exact hz,fun p hp=>?_⟩
  have g3:=aZ.fN (o:=.lst (MY n.toNat xs).flatten) g2.b hp
  exact q _ _ _ _ hR ⟨p,_,rfl,(g1.trans g2).s.free hp,ah,g2.b.free hp,(k3.mono g2.f).many _⟩ ((g1.trans g2).trans g3))
theorem Hg (hN:At N i x) (hi:At ρ i r) (hr:r.getL=some ds) (h:aF c e ρ fun dv=>aF c b ρ fun dk=>∃ m:Nat,dk=.int m∧Sd (m<ds.length) (Nx ρ i nx (r.putL (ds.set m dv))))
 (hs:∀ env,swapsWithSole [.Subscript (.Name x px) b tp] e pos.line env=pure false:=by intro _; walk_at "u") (hw:∀ env,swappedStores [.Subscript (.Name x px) b tp] e env=pure none:=by intro _; walk_at "u")
 (h1:∀ env,(assignEach [.Subscript (.Name x px) b tp] env).map (·.2)=[assign (.Subscript (.Name x px) b tp) env]:=by intro _; walk_at "u")
 (ha:∀ env v,assign (.Subscript (.Name x px) b tp) env v=(do
   let ov ← holding [v] (eval (.Name x px) env)
   let iv ← holding [v,ov] (eval b env)
   standAt tp
   holding [v,ov,iv] (setItem ov iv v)
   release [v,ov,iv] []):=by intro _ _; walk_at "u")
 (hd:(x == ("__debug__":Str))=false:=by decide) (hcd:(x == ("__classdict__":Str))=false:=by decide):eE c (.Assign [.Subscript (.Name x px) b tp] e pos) ρ nx p:=fun σ H Hf D S o=>by
 obtain ⟨q,eq,rq⟩:=S.own hi.get (cS hr)
 refine dH (yw cO (FU (c.kF hN hd hcd) cO AD (ha _)) (hs _) (hw _) (h1 _)) (h σ H Hf _ S fun dv v H1 aI h2 rv g1=>⟨_,eq,h2 σ H1 aI _ (S.ck g1) fun dk y H2 cD ⟨m,em,hm,ρ',hs',hn⟩ ry g2=>?_⟩)
 subst em
 rw [av] at ry; subst ry
 have g:=g1.trans g2
 obtain ⟨xs,k1,k2,k3⟩:=GR hr (rq.ck g)
 refine ⟨q,xs,m,rfl,rfl,k1,by rw [← k3.length]; exact hm,o.nx _ _ cD ρ' ?_ hn⟩
 rw [hs'.eq]
 exact (S.ck g).upd hi.get (cS hr) eq (gw g.b k2) (kG hr (rq.ck g) ah k2 (k3.set m (Rep.mono g2.f _ rv))) (gS hr)
end
theorem gZ {K:MI}:∀ {ns:List Int} {xs:List V},aq K H (ns.map D.int) xs→xs=ns.map V.int
 | [],xs,h=>by rw [PN,ay] at h; subst h; rfl
 | b::bs,xs,h=>by
  rw [MN,aC] at h
  obtain ⟨x,r,rfl,h1,h2⟩:=h
  rw [av] at h1
  rw [h1,gZ h2]; rfl
theorem fU {ns:List Int} {us:List Value} (h:Vals (ns.map V.int) us) (i:Nat) (v:Value) (e:us.toArray[i]?=some v):∃ t,v=.int (ns.getD i 0) t:=by
 have e':us[i]?=some v:=by simpa using e
 have hi:i<ns.length:=by
  have:=(MU.mp e').1
  have l:=h.length
  rw [MO] at l
  omega
 obtain ⟨u,hu,r⟩:=h.get (i:=i) (x:=.int (ns.getD i 0)) (by simp [NT,hi])
 rw [e'] at hu; cases hu
 exact r
theorem lz (I:Inv X aa σ H s) (hq:gu X.K H p xs) :
 ∃ its:List Value,Vals xs its∧s.heap.IsList p its.toArray∧p<s.heap.objs.size:=by
 obtain ⟨its,rv,pl,hz⟩:=I.list hq
 exact ⟨its,rv,pl.isList,by obtain ⟨o,e,_⟩:=pl.isList; exact MR e⟩
theorem nk (I:Inv X aa σ H s) (hk:∀ b o,b∉[s.heap.objs.size]→(s.heap.push ob).get? b=some o→h'.get? b=some o):Inv X aa σ H { s with heap:=h',toks:=tk } :=
 I.kept (h':=h') (t':=tk) fun b u e=>hk b u (by simpa using Nh (MR e)) (MQ _ e)
theorem xj (hc:X.calm=true):fJ X (.builtin "max") (fun xs H Q=>∃ (p:Addr) (ns:List Int),xs=[.ref p]∧ns≠[]∧gu X.K H p (ns.map V.int)∧∀ m∈ns,(∀ n∈ns,n≤m)→Q (.int m) H):=by
 intro aa s σ H xs us Q I r h
 obtain ⟨p,ns,rfl,hne,hq,q⟩:=h
 obtain ⟨u,rfl,rx⟩:=vals1 r
 cases rx
 obtain ⟨its,rv,pl,hlt⟩:=lz I hq
 have hn:its.toArray.size=ns.length:=by have l:=rv.length; rw [MO] at l; simp [l]
 have hpos:0<ns.length:=List.length_pos_iff.mpr hne
 refine call_max_walk (R8 pl ?_)
 have hh:X.A.in1.handled=none:=I.ok.hd hc
 refine ⟨_,_,_,_,_,_,_,rfl,Walks.list hh s.heap.objs.size p (Nh hlt) its.toArray,⟨⟨_,M3 _ rfl,rfl,rfl⟩,pl.at fun o e=>MQ _ e⟩,?_,by rw [hn]; exact hpos,CmpOf.ints_gt (fun i=>ns.getD i 0) (fU rv),?_⟩
 ·intro b hb
  show b<(s.heap.push _).objs.size
  rw [OQ]
  simp only [M0,ON,or_false] at hb
  rcases hb with rfl | rfl
  ·exact O7 _
  ·exact Q0 hlt
 ·intro v h' tk hP hk
  obtain ⟨t,rfl⟩:=fU rv _ _ hP
  obtain ⟨b1,b2⟩:=argBest_gt (fun i=>ns.getD i 0) (its.toArray.size - 1)
  rw [hn] at b1 b2 ⊢
  have J:=nk (s:=s) (tk:=tk) I hk
  refine ⟨.int _,H,J,⟨_,rfl⟩,q _ ?_ fun n hm=>?_⟩
  ·rw [NT,M9 (by omega)]
   exact Nj _
  ·obtain ⟨j,hj,rfl⟩:=List.getElem_of_mem hm
   have:=b2 j (by omega)
   rw [show ns.getD j 0=ns[j] by simp [NT,hj]] at this
   exact this
theorem vq (ns:List Int):∀ j,j≤ns.length→preSum (fun i=>ns.getD i 0) j=(ns.take j).sum
 | 0,_=>rfl
 | j+1,h=>by
  show preSum (fun i=>ns.getD i 0) j+ns.getD j 0=_
  rw [vq ns j (by omega),NL (by omega),Pa]
  simp [NT,show j<ns.length by omega]
theorem xm (hc:X.calm=true):fJ X (.builtin "sum") (fun xs H Q=>∃ (p:Addr) (ns:List Int),xs=[.ref p]∧gu X.K H p (ns.map V.int)∧Q (.int ns.sum) H):=by
 intro aa s σ H xs us Q I r h
 obtain ⟨p,ns,rfl,hq,q⟩:=h
 obtain ⟨u,rfl,rx⟩:=vals1 r
 cases rx
 obtain ⟨its,rv,pl,hlt⟩:=lz I hq
 have hn:its.toArray.size=ns.length:=by have l:=rv.length; rw [MO] at l; simp [l]
 refine call_sum_walkG (R8 pl ?_)
 have hh:X.A.in1.handled=none:=I.ok.hd hc
 refine ⟨_,_,_,_,_,_,fun i=>ns.getD i 0,rfl,Walks.list hh s.heap.objs.size p (Nh hlt) its.toArray,⟨⟨_,M3 _ rfl,rfl,rfl⟩,pl.at fun o e=>MQ _ e⟩,?_,fU rv,?_⟩
 ·intro b hb
  show b<(s.heap.push _).objs.size
  rw [OQ]
  simp only [M0,ON,or_false] at hb
  rcases hb with rfl | rfl
  ·exact O7 _
  ·exact Q0 hlt
 ·intro h' tk t' hk
  rw [hn,vq ns _ (ML _),NF]
  have J:=nk (s:=s) (tk:=tk) I hk
  exact ⟨.int ns.sum,H,J,⟨_,rfl⟩,q⟩
section
variable {K:MI} {c:Ctx P w K mg base k N sc bk}
theorem boot_sum:bootBuiltins "sum"=some (.builtin "sum"):=by decide +kernel
theorem xo {Z:List Int→Int→Prop} (hr:∀ (p:Addr) (ns:List Int) H Q,gu K H p (ns.map V.int)→(∀ m,Z ns m→Q (.int m) H)→ns≠[]→r [.ref p] H Q) :
 zf K r (fun ds R=>∃ ns:List Int,ns≠[]∧ds=[.lst (ns.map D.int)]∧∀ m,Z ns m→R (.int m)):=by
 rintro ds vs H Hf Q R s rs ⟨ns,hne,rfl,hR⟩ q
 obtain ⟨v,rfl,rv⟩:=pV rs
 rw [aR] at rv
 obtain ⟨a,xs,rfl,h1,h2⟩:=rv
 rw [gZ h2] at h1
 exact hr a ns H Q (s.seq h1) (fun m hm=>q _ _ H Hf (hR m hm) (av.mpr rfl) (.refl s)) hne
theorem Hh (hm:mg "max"=none) (h:aF c e ρ fun x=>∃ ns:List Int,ns≠[]∧x=.lst (ns.map D.int)∧∀ m,(m∈ns∧∀ n∈ns,n≤m)→R (.int m)) (hg:sc.names.lookup (MH "max")=some .globalImplicit:=by walk_at "u")
 (he:∀ env,starEach [e] env=(false,eval e env)::starEach [] env:=by intro _; walk_at "u"):aF c (.Call (.Name "max" p) [e] [] pos) ρ R :=
 uI (xj c.calm) (xo (Z:=fun ns m=>m∈ns∧∀ n∈ns,n≤m) fun p ns H Q h q hne=>⟨p,ns,rfl,hne,h,fun m h1 h2=>q m ⟨h1,h2⟩⟩) hm boot_max
  (dI (h.imp fun d ⟨ns,hne,e,hR⟩=>kD ⟨ns,hne,by rw [e],hR⟩) he) hg (by decide) (by decide) he (by intro _; walk_at "u")
theorem Hi (hm:mg "sum"=none) (h:aF c e ρ fun x=>∃ ns:List Int,x=.lst (ns.map D.int)∧R (.int ns.sum)) (hg:sc.names.lookup (MH "sum")=some .globalImplicit:=by walk_at "u")
 (he:∀ env,starEach [e] env=(false,eval e env)::starEach [] env:=by intro _; walk_at "u"):aF c (.Call (.Name "sum" p) [e] [] pos) ρ R :=
 uI (xm c.calm) (q:=fun ds R=>∃ ns:List Int,ds=[.lst (ns.map D.int)]∧R (.int ns.sum)) (by
  rintro ds vs H Hf Q R s rs ⟨ns,rfl,hR⟩ q
  obtain ⟨v,rfl,rv⟩:=pV rs
  rw [aR] at rv
  obtain ⟨a,xs,rfl,h1,h2⟩:=rv
  rw [gZ h2] at h1
  exact ⟨a,ns,rfl,s.seq h1,q _ _ H Hf hR (av.mpr rfl) (.refl s)⟩) hm boot_sum (dI (h.imp fun d ⟨ns,e,hR⟩=>kD ⟨ns,by rw [e],hR⟩) he) hg (by decide) (by decide) he (by intro _; walk_at "u")
end
section
variable {prog:Program} {w:World} {A:Around} {E:Value→Shared→Prop} {s:Shared}
variable {jt tp:Addr} {i:Nat} {items:Array Value}
theorem nextT (hh:A.handled=none) (h1:s.heap.IsTupleIter jt tp i) (h2:s.heap.IsTuple tp items)
 (hv:∀ v,items[i]?=some v→∀ h',h'.IsTupleIter jt tp (i+1)→Ov jt s.heap h'→Q v { s with heap:=h' })
 (hn:items[i]?=none→∀ h' e,OV jt s.heap h'→(∃ o,h'.get? e=some o∧o.cls=.type "StopIteration")→E (.ref e) { s with heap:=h' }) :
 wpAny (model prog w) A (Pq (.ref jt)) Q E s:=by
 obtain ⟨ob,hob,hcb,hdb⟩:=id h1
 obtain ⟨ot,hot,_,m,hdt⟩:=id h2
 unfold Pq
 refine MG (OI (name:=MH "__next__") h1.typeIs F.slot_tuple_iterator_next (Oe F.slot_tuple_iterator_next h1.typeIs F.entry_tuple_iterator_next ?_ (F.args_tuple_iterator_next_1 _)))
 show wpAny _ _ (field (.ref jt) 0 >>= _) _ _ s
 refine MG (Ox hob hdb (x:=.ref tp) rfl ?_)
 show wpAny _ _ (if (Nc tp == NO)=true then _ else _) _ _ s
 rw [if_neg (show ¬ ((Nc tp == NO)=true) from MV)]
 show wpAny _ _ (field (.ref jt) 1 >>= _) _ _ s
 refine MG (Ox hob hdb (x:=.int i 0) rfl ?_)
 show wpAny _ _ (seqItems? (.ref tp) >>= _) _ _ s
 refine MG (wpAny_seqItems hot hdt ?_)
 rw [NN]
 dsimp only
 cases hx:items[i]? with
 | some v =>
  have q:=hv v hx (s.heap.update jt (Obj.mapFields fun vs=>vs.setIfInBounds 1 (rawInt ((i:Int)+1)))) ⟨_,Heap.get?_update_self _ hob (Obj.isFreed_of_fields (QX hdb _)),(Obj.cls_mapFields ..).trans hcb,by rw [QX hdb]; simp [rawInt]⟩ (P8 ..)
  dsimp only
  exact MG (Qi hob hdb (by simp) (MJ ⟨v,rfl,MJ q⟩))
 | none =>
  dsimp only
  refine MG (N6 (MG (Qi hob hdb (by simp) (show wpAny _ _ (newExc (.type "StopIteration") [] >>= _) _ _ _ from MG ?_))))
  simp only [newExc,newTuple]
  refine MG (NQ (MG (m:=firstArgMember _ _) (wpAny_of_eq (a:=NO) (by first | rfl | (simp only [firstArgMember]; rfl)) (NQ ?_ (by size_fits)))) (by size_fits))
  simp only [raiseNew]
  refine MG (wpAny_handled ?_)
  rw [show A.in1.handled=none from hh]
  exact MG (MJ (wpAny_throw (hn hx _ _ (((P8 ..).extBut.push _).push _) ⟨_,M3 _ rfl,rfl⟩)))
theorem Hj (hh:A.handled=none) (jt tp:Addr) (hne:tp≠jt) (items:Array Value) :
 Draws prog w A jt [jt,tp] items.size (fun i v=>items[i]?=some v) (fun i h=>h.IsTupleIter jt tp i∧h.IsTuple tp items) where
 live:=fun _ _ ⟨⟨o,ho,_⟩,_⟩=>⟨o,ho⟩
 frame:=fun _ _ _ ⟨⟨o,e,r⟩,⟨o',e',r'⟩⟩ hk=>⟨⟨o,hk jt (by simp) o e,r⟩,o',hk tp (by simp) o' e',r'⟩
 item:=fun i s Q E hi ⟨s1,s2⟩ q=>nextT hh s1 s2 (fun v hv h' a b=>q v h' s.toks hv ⟨a,s2.extBut b.extBut hne⟩ b) fun hx=>by
  rw [Nf hi] at hx; cases hx
 done:=fun s Q E ⟨s1,s2⟩ q=>nextT hh s1 s2 (fun v hv=>by simp at hv) fun _=>q
end
set_option maxHeartbeats 1000000 in
theorem qF (tp) (items) (n) (dc) (sl) :
 Meets (Builtin.«enumerate.__new__» ⟨[.type "enumerate",.ref tp],[]⟩) (fun _ R s=>s.heap.get? tp=some { cls:=.type "tuple",dict:=dc,data:=.seq items n,slots:=sl } ∧
  R (.ok (.ret (.ref (s.heap.push { cls:=.type "tuple_iterator",data:=.fields #[.ref tp,.int 0 0] }).objs.size)))
   { s with heap:=(s.heap.push { cls:=.type "tuple_iterator",data:=.fields #[.ref tp,.int 0 0] }).push { cls:=.type "enumerate",data:=.fields #[.none,.bool false,.ref s.heap.objs.size,rawInt 0,.none,.none] } }) :=
 .of_wp fun prog w A R ⟨hp,g,d,tk,os⟩ ⟨hl,h⟩=>by
  have hz:=sub_enumerate
  have hT:Heap.IsTuple (Shared.heap ⟨hp,g,d,tk,os⟩) tp items:=⟨_,hl,rfl,n,rfl⟩
  wp_walk using QI hl
  refine wpAny_stack_any fun st=>MJ ?_
  split
  ·rename_i k _ _ _ _ _
   cases (k == N1 "enumerate") <;> (wp_walk using QI hl,R1 hT; exact ⟨_,rfl,h⟩)
  ·wp_walk using QI hl,R1 hT; exact ⟨_,rfl,h⟩
section
theorem sR (hT:s.heap.IsTuple tp items)
 (h:∀ h',IsEnum h' (s.heap.objs.size+1) s.heap.objs.size 0 .none→h'.IsTupleIter s.heap.objs.size tp 0→(∀ b o,s.heap.get? b=some o→h'.get? b=some o)→Q (.ref (s.heap.objs.size+1)) { s with heap:=h' }) :
 wpAny (model prog w) A (call (.type "enumerate") [.ref tp]) Q E s:=by
 obtain ⟨⟨c,dc,dt,sl⟩,hl,hc,n,hd⟩:=hT
 obtain rfl:c=.type "tuple":=hc
 obtain rfl:dt=.seq items n:=hd
 refine callType_new F.called_enumerate (by decide) (F.typeCall_enumerate_1 _) (F.newCall_enumerate_1 _) (fun ob=>F.args_object_init_2 ob _) F.entry_enumerate_new (qF tp items n dc sl) ⟨hl,?_⟩
 generalize e1:s.heap.push { cls:=.type "tuple_iterator",data:=.fields #[.ref tp,.int 0 0] }=g1
 have hz:g1.objs.size=s.heap.objs.size+1:=by rw [← e1]; exact OQ ..
 have hi:g1.get? s.heap.objs.size=some { cls:=.type "tuple_iterator",data:=.fields #[.ref tp,.int 0 0] }:=by rw [← e1]; exact M3 _ rfl
 have hb:∀ b o,s.heap.get? b=some o→g1.get? b=some o:=fun b o q=>by rw [← e1]; exact MQ _ q
 have he:IsEnum (g1.push { cls:=.type "enumerate",data:=.fields #[.none,.bool false,.ref s.heap.objs.size,rawInt 0,.none,.none] }) g1.objs.size s.heap.objs.size 0 .none:=M3 _ rfl
 rw [hz] at he
 show _∧_
 rw [hz]
 exact ⟨⟨_,he,rfl⟩,h _ he ⟨_,MQ _ hi,rfl,rfl⟩ fun b o q=>MQ _ (hb b o q)⟩
end
noncomputable def lB (ds:List D):List D:=ds.zipIdx.map fun x=>D.tup [.int x.2,x.1]
noncomputable def L5 (K:MI) (t:Addr):It :=
 ⟨fun i H=>∃ xs x,cQ K H t xs∧xs[i]?=some x,
  fun i H v H'=>∃ p x,v=.ref p∧H p=none∧H'=upd H p (.tup [.int (i:Nat),x])∧∀ xs,cQ K H t xs→xs[i]?=some x,
  fun i H=>∃ xs,cQ K H t xs∧xs.length≤i⟩
theorem DW (I:Inv X aa σ H s) (h1:cQ X.K H a xs) (h2:cQ X.K H a ys):xs=ys:=I.jc h1 h2
theorem AE {prog:Program} {w:World} {A:Around} (hh:A.handled=none) (j t:Addr) (items:Array Value) (i:Nat) (hx:items[i]?=none) :
 Draws prog w A j [j,t] i (fun _ _=>False) (fun k h=>k=i∧h.IsTupleIter j t i∧h.IsTuple t items) where
 live:=fun _ _ ⟨_,⟨o,ho,_⟩,_⟩=>⟨o,ho⟩
 frame:=fun _ _ _ ⟨ek,⟨o,e,r⟩,⟨o',e',r'⟩⟩ hk=>⟨ek,⟨o,hk j (by simp) o e,r⟩,o',hk t (by simp) o' e',r'⟩
 item:=fun k s Q E hi ⟨ek,_⟩ _=>absurd ek (Nh hi)
 done:=fun s Q E ⟨_,s1,s2⟩ q=>nextT hh s1 s2 (fun v hv=>by rw [hx] at hv; cases hv) fun _=>q
theorem xq {P:Program} {w:World} {K:MI} {elts:List Expr} {k:Nat} {pos:Pos} {e j t:Addr} (hne:e≠j) :
 Turn P w K (.Tuple elts k pos) (L5 K t) [e,j] e (fun i h=>(∃ old,IsEnum h e j i old)∧h.IsTupleIter j t i) where
 mem:=by simp
 obj:=fun i h ⟨⟨old,he⟩,⟨o1,e1,_,d1⟩⟩ b hb=>by
  simp only [M0,ON,or_false] at hb
  rcases hb with rfl | rfl
  ·exact ⟨_,he,fun v q=>by have q':Rz _=Data.cell v:=q; cases q'⟩
  ·exact ⟨_,e1,fun v q=>by rw [d1] at q; cases q⟩
 keep:=fun i h h' ⟨⟨old,he⟩,⟨o1,e1,r1⟩⟩ hk=>⟨⟨old,hk e (by simp) _ he⟩,⟨o1,hk j (by simp) _ e1,r1⟩⟩
 item:=by
  intro X hP hw hK hc i aa s σ H E I hf st hg
  subst hP hw hK
  obtain ⟨⟨old,he⟩,hj⟩:=st
  obtain ⟨xs,x,q1,hx⟩:=hg
  obtain ⟨its,rv,p1,z1⟩:=I.tuple q1
  obtain ⟨u,hu,ru⟩:=rv.get hx
  have pT:s.heap.IsTuple t its.toArray:=by obtain ⟨o,ho,hc',n,hd⟩:=p1; exact ⟨o,ho,hc',n,hd⟩
  have hjt:t≠j:=by
   obtain ⟨o,ho,hc',n,hd⟩:=pT
   obtain ⟨o',ho',hc'',_⟩:=hj
   rintro rfl
   rw [ho] at ho'; cases ho'
   rw [hc'] at hc''; exact absurd hc'' (by simp)
  have het:e≠t:=by
   obtain ⟨o,ho,hc',n,hd⟩:=pT
   rintro rfl
   rw [he] at ho; cases ho
   exact absurd hc' (by simp)
  have hi:i<its.toArray.size:=by
   have:i<its.length:=(MU.mp hu).1
   simpa using this
  have hh:X.A.in1.handled=none:=I.ok.hd hc
  refine wpAny_pyNext_enum_itemD (Hj hh j t hjt its.toArray) he ⟨hj,pT⟩ hi hne (by simp; exact ⟨hne,het⟩) fun x' h' tk hPx a1 a2 a3 a4 hk=>?_
  have ex:x'=u:=by
   have:its[i]?=some x':=by simpa using hPx
   rw [hu] at this; cases this; rfl
  subst ex
  have Hp:H s.heap.objs.size=none:=I.hok.fresh (ML _)
  have IA:Inv X aa σ (upd H s.heap.objs.size (.tup [.int (i:Nat),x])) { s with heap:=s.heap.push { cls:=.type "tuple",data:=.seq #[.int (i:Nat) tk,x'] },toks:=tk+1 } :=
   I.laid (a:=s.heap.objs.size) (o:=.tup [.int (i:Nat),x]) (fun _ _ q=>MQ _ q) (ML _) ⟨by show 2≤sizeLine; decide,[.int (i:Nat) tk,x'],.cons ⟨tk,rfl⟩ (.cons ru .nil),_,M3 _ rfl,rfl,0,rfl⟩
  have lt:∀ b∈[e,j],b<s.heap.objs.size:=fun b hb=>by
   obtain ⟨o1,e1,_⟩:=hj
   simp only [M0,ON,or_false] at hb
   rcases hb with rfl | rfl
   ·exact MR he
   ·exact MR e1
  have gf:∀ b∈[e,j],fG X aa (upd H s.heap.objs.size (.tup [.int (i:Nat),x])) b:=fun b hb=>⟨by rw [ak (Nh (lt b hb))]; exact (hf b hb).1,(hf b hb).2⟩
  have I1:Inv X aa σ (upd H s.heap.objs.size (.tup [.int (i:Nat),x])) { s with heap:=h',toks:=tk+1 } :=
   oA (s:={ s with heap:=s.heap.push { cls:=.type "tuple",data:=.seq #[.int (i:Nat) tk,x'] },toks:=tk+1 }) (t':=tk+1) (h':=h') (L:=[e,j]) IA (fun b o hb q=>by
    simp only [M0,ON,or_false,not_or] at hb
    by_cases z:b=s.heap.objs.size
    ·subst z
     rw [M3 _ rfl] at q; cases q; exact a3
    ·refine hk b o hb.1 hb.2 ?_
     rw [Heap.get?_push_ne _ _ _ z] at q; exact q) gf
  refine ⟨_,rfl,wpAny_letOwnedTupleGo_enum (s:={ s with heap:=h',toks:=tk+1 }) a1 fun h2' hz' hs'=>?_⟩
  refine ⟨.ref s.heap.objs.size,_,oA (s:={ s with heap:=h',toks:=tk+1 }) (t':=tk+1) (h':=h2') (L:=[e,j]) I1 (fun b o hb q=>hs'.extBut b o (fun z=>hb (by simp [z])) q) gf,rfl,
   ⟨_,x,rfl,Hp,rfl,fun xs' h=>by rw [DW I h q1]; exact hx⟩,⟨⟨x',?_⟩,a2.1.extBut hs'.extBut (M8 hne)⟩,fun b hb=>(gf b hb).1⟩
  have hz2:=hz'
  rw [show ((i:Int)+1)=((i+1:Nat):Int) by lia] at hz2
  exact hz2
 done:=by
  intro X hP hw hK hc i aa s σ H E I hf st hg
  subst hP hw hK
  obtain ⟨⟨old,he⟩,hj⟩:=st
  obtain ⟨xs,q1,hend⟩:=hg
  obtain ⟨its,rv,p1,z1⟩:=I.tuple q1
  have pT:s.heap.IsTuple t its.toArray:=by obtain ⟨o,ho,hc',n,hd⟩:=p1; exact ⟨o,ho,hc',n,hd⟩
  have hl:=rv.length
  have hx:its.toArray[i]?=none:=by simp; lia
  have hh:X.A.in1.handled=none:=I.ok.hd hc
  exact wpAny_pyNext_enum_endD (AE hh j t its.toArray i hx) he ⟨rfl,hj,pT⟩ fun h' hk=>⟨rfl,oA (t':=s.toks) (L:=[e,j]) I (fun b o hb q=>hk b o (fun z=>hb (by simp [z])) q) hf⟩
 self:=fun A i s Q E ⟨⟨old,he⟩,_⟩ h=>wpAny_pyIter_enum he h
theorem xr {K:MI} {Hf:Hp} {ds:List D} {xs:List V} {t:Addr} (h1:cQ K Hf t xs) (r1:aq K Hf ds xs):jh K (L5 K t) (lB ds) Hf where
 go:=fun i d H aI s1 s2 e=>by
  unfold lB at e
  rw [MS,MZ] at e
  obtain ⟨⟨x,m⟩,ex,rfl⟩:=e
  rw [List.getElem?_zipIdx,MZ] at ex
  obtain ⟨x',ex,ee⟩:=ex
  cases ee
  obtain ⟨v1,f1,g1⟩:=r1.get ex
  have q1:=au (s1.trans s2) h1
  refine ⟨⟨xs,v1,q1,f1⟩,fun v H' ⟨p,y,e1,e2,e3,e4⟩=>?_⟩
  have z1:=e4 xs q1
  rw [f1] at z1; cases z1
  subst e1 e3
  have g:=aZ.new s2 e2 (o:=.tup [.int (i:Nat),v1])
  rw [OT]
  exact ⟨upd aI p (.tup [.int (i:Nat),v1]),g,aE.mpr ⟨p,_,rfl,.inl (.inl ah),.cons (av.mpr rfl) (.cons (Rep.mono (s1.trans g.f) _ g1) (ay.mpr rfl))⟩⟩
 stop:=fun i H aI s1 s2 e=>⟨xs,au (s1.trans s2) h1,by
  rw [← r1.length]
  simpa [lB] using e⟩
theorem xu:bootBuiltins "enumerate"=some (.type "enumerate"):=by decide +kernel
noncomputable def Km (K:MI) (ta:TA):TI:=fun σ H R=>ta σ H fun vs H1=>∃ t xs,vs=[.ref t]∧cQ K H1 t xs∧R (L5 K t) H1
theorem DX (hg:Gl X "enumerate") (hm:X.mg "enumerate"=none) (ha:PA X [a] ta) (hs:starEach [a] X.env=[(false,eval a X.env)]) :
 PI X (.Tuple elts kt tpos) (.Call (.Name "enumerate" p) [a] [] pos) (Km X.K ta):=by
 intro aa s σ H R I h
 refine Call_ (c7 I hg hm xu (P0 (bw (ha pos aa s σ H _ I h) fun us s1 ⟨vs,H1,I1,r1,q1⟩=>?_) hs (by rfl)))
 obtain ⟨t,xs,e,q1,q⟩:=q1
 subst e
 obtain ⟨u,rfl,rx⟩:=vals1 r1
 cases rx
 obtain ⟨its,rv,p1,z1⟩:=I1.tuple q1
 have pT:s1.heap.IsTuple t its.toArray:=by obtain ⟨o,ho,hc',n,hd⟩:=p1; exact ⟨o,ho,hc',n,hd⟩
 refine sR pT fun h' a1 a2 hk=>wpAny_pyIter_enum a1 ?_
 refine ⟨s1.heap.objs.size+1,[s1.heap.objs.size+1,s1.heap.objs.size],_,_,H1,rfl,I1.kept (t':=s1.toks) hk,xq (PM (O7 _)),⟨⟨.none,a1⟩,a2⟩,fun b hb=>?_,q⟩
 have hb':s1.heap.objs.size≤b:=by
  simp only [M0,ON,or_false] at hb
  rcases hb with rfl | rfl
  ·exact PF _ _
  ·exact ML _
 exact I1.lR hb' (I1.hok.fresh hb')
section
variable {K:MI} {c:Ctx P w K mg base k N sc bk}
theorem Hl (hm:mg "enumerate"=none) (h:aF c a ρ fun x=>∃ ds,x=.tup ds∧R (lB ds)) (hg:sc.names.lookup (MH "enumerate")=some .globalImplicit:=by walk_at "u")
 (hs:∀ env,starEach [a] env=(false,eval a env)::starEach [] env:=by intro _; walk_at "u"):GL c (.Tuple elts kt tpos) (.Call (.Name "enumerate" p) [a] [] pos) ρ R:=fun σ H Hf Q S q aa s I =>
 DX (by unfold Gl Nz; rw [c.esc]; exact hg) (by rw [c.emg]; exact hm) (bL cO c8 (hs _)) (by rw [hs]; rfl) aa s σ H Q I
  (h σ H Hf _ S fun x v1 H1 aI ⟨ds,e1,hR⟩ r1 g1=>by
    subst e1
    rw [aE] at r1
    obtain ⟨t,xs,rfl,s1,t1⟩:=r1
    exact ⟨t,xs,rfl,au g1.b s1,q _ _ H1 aI hR g1 (xr s1 t1)⟩)
end
noncomputable def Ho (lo:Int) (n:Nat):It:=⟨fun i _=>i<n,fun i H x H'=>H'=H∧x=.int (lo - i),fun i _=>n≤i⟩
noncomputable def AF (lo:Int) (n:Nat):List D:=(Ny n).map fun (i:Nat)=>D.int (lo - (i:Int))
theorem xw {P:Program} {w:World} {K:MI} {tg:Expr} (j:Addr) (lo:Int) (n:Nat):Turn P w K tg (Ho lo n) [j] j (fun i h=>IsRangeIter h j (lo+(i:Nat) * -1) ((n:Int) - (i:Nat)) (-1)) where
 mem:=M4.mpr rfl
 obj:=fun i h st b hb=>by
  obtain rfl:b=j:=M4.mp hb
  exact ⟨_,st,fun v z=>by have q:Rz _=Data.cell v:=z; cases q⟩
 keep:=fun i h h' st k=>k j (M4.mpr rfl) _ st
 item:=by
  intro X hP hw hK hc i aa s σ H E I hf st hg
  subst hP hw hK
  obtain ⟨f0,f1,f2,f3,f4,f5⟩:=hf j (M4.mpr rfl)
  have W:=Walks.range (prog:=X.prog) (w:=X.w) (I.ok.hd hc) j lo (-1) n
  refine W.item i s _ _ hg st fun v h' tk hv st' kk=>?_
  obtain ⟨t,rfl⟩:=hv
  have I1:Inv X aa σ H { s with heap:=h',toks:=tk }:=I.turned (fun b o hb e=>kk b o (by simpa using hb) e) f0 f1 f3 f4 f5
  have e:lo+(i:Int) * -1=lo - i:=by lia
  exact ⟨_,rfl,l8 (s:={ s with heap:=h',toks:=tk }) (n:="range_iterator") st' rfl rfl (by decide) ⟨.int (lo - i),H,I1,⟨t,by rw [e]⟩,⟨rfl,rfl⟩,st',fun b hb=>(hf b hb).1⟩⟩
 done:=by
  intro X hP hw hK hc i aa s σ H E I hf st hg
  subst hP hw hK
  obtain ⟨f0,f1,f2,f3,f4,f5⟩:=hf j (M4.mpr rfl)
  exact wpAny_pyNext_range_end (I.ok.hd hc) st (by have:n≤i:=hg; lia) fun h' eb=>⟨rfl,I.turned (t':=s.toks) (fun b o hb e=>eb b o hb e) f0 f1 f3 f4 f5⟩
 self:=fun _ _ _ _ _ st h=>wpAny_pyIter_rangeiter st h
theorem lC {lo hi:Int}:QJ lo hi (-1)=((lo - hi).toNat:Int):=by
 unfold QJ
 rw [if_neg (by decide)]
 split
 ·rw [show - (-1:Int)=1 by decide,Int.ediv_one]; lia
 ·lia
theorem small_down (ha: -(2 ^ 62)≤a) (ha':a<2 ^ 62) (hb: -(2 ^ 62)≤b) (hb':b<2 ^ 62):Builtin.Range.small a b (-1)=true:=by
 unfold Builtin.Range.small
 rw [lC]
 simp only [Builtin.Range.rangeFitsLong,Qc,Bool.or_eq_true,decide_eq_true_eq,beq_iff_eq,show ¬ (-1:Int)>0 by decide,if_false]
 lia
noncomputable def Kn (ta:TA):TI:=fun σ H R=>ta σ H fun vs H1=>∃ i j:Int,vs=[.int i,.int j,.int (-1)]∧(-(2 ^ 62)≤i∧i<2 ^ 62∧ -(2 ^ 62)≤j∧j<2 ^ 62)∧R (Ho i (i - j).toNat) H1
theorem DY (hg:Gl X "range") (hm:X.mg "range"=none) (ha:PA X [a,b,c] ta) (hs:starEach [a,b,c] X.env=[(false,eval a X.env),(false,eval b X.env),(false,eval c X.env)])
 (hs2:starEach [b,c] X.env=[(false,eval b X.env),(false,eval c X.env)]):PI X tg (.Call (.Name "range" p) [a,b,c] [] pos) (Kn ta):=by
 intro aa s σ H R I h
 refine Call_ (c7 I hg hm boot_range (P0 (bw (ha pos aa s σ H _ I h) fun us s1 ⟨vs,H1,I1,r1,q1⟩=>?_) (by rw [hs,hs2]) (by rw [hs2]; rfl)))
 obtain ⟨i,j,e,⟨q1,q2,q3,q4⟩,q⟩:=q1
 subst e
 cases r1 with
 | cons r rr=>cases rr with
  | cons r' rr=>cases rr with
   | cons r'' rr =>
    cases rr
    obtain ⟨t,rfl⟩:=r
    obtain ⟨t',rfl⟩:=r'
    obtain ⟨t'',rfl⟩:=r''
    refine call_range_3 (by decide) ?_ (.inl (PyProof.noPylong_of_log2 (by decide +kernel)))
    refine wpAny_pyIter_range (IsRange.new ..) (small_down q1 q2 q3 q4) ?_
    have I2:Inv X aa σ H1 { s1 with heap:=s1.heap.push { cls:=.type "range",data:=.fields #[.int i t,.int j t',.int (-1) t''] },toks:=s1.toks }:=I1.kept fun b o e=>MQ _ e
    generalize s1.heap.push { cls:=.type "range",data:=.fields #[.int i t,.int j t',.int (-1) t''] }=g at I2 ⊢
    refine ⟨g.objs.size,[g.objs.size],_,_,H1,rfl,I2.kept (t':=s1.toks) fun b o e=>MQ _ e,xw _ i (i - j).toNat,?_,fun b hb=>?_,q⟩
    ·show IsRangeIter _ _ (i+((0:Nat):Int) * -1) ((((i - j).toNat:Nat):Int) - ((0:Nat):Int)) (-1)
     rw [show i+((0:Nat):Int) * -1=i by simp,show (((i - j).toNat:Nat):Int) - ((0:Nat):Int)=QJ i j (-1) by rw [lC]; lia]
     exact M3 _ rfl
    ·obtain rfl:b=g.objs.size:=M4.mp hb
     exact I2.lR (ML _) (I2.hok.fresh (ML _))
theorem AG {K:MI} {lo:Int} {n:Nat} {dB:Hp}:jh K (Ho lo n) (AF lo n) dB where
 go:=fun i d H Hf s1 s2 e=>by
  unfold AF at e
  rw [MS] at e
  obtain ⟨j,e1,e2⟩:=MZ.mp e
  have hi:i<n:=by simpa using (MU.mp e1).1
  have:j=i:=by rw [Py hi] at e1; cases e1; rfl
  subst this
  refine ⟨hi,fun x H' ⟨e3,e4⟩=>?_⟩
  subst e3 e4 e2
  exact ⟨Hf,.refl s2,av.mpr rfl⟩
 stop:=fun i H Hf s1 s2 e=>show n≤i by simpa [AF] using e
section
variable {K:MI} {c:Ctx P w K mg base k N sc bk}
theorem Hq (hm:mg "range"=none) (h:aF c a ρ fun x=>aF c b ρ fun y=>aF c e ρ fun z=>∃ i j:Int,x=.int i∧y=.int j∧z=.int (-1)∧Sd (zF i) (Sd (zF j) (R (AF i (i - j).toNat))))
 (hg:sc.names.lookup (MH "range")=some .globalImplicit:=by walk_at "u")
 (hs:∀ env,starEach [a,b,e] env=(false,eval a env)::starEach [b,e] env:=by intro _; walk_at "u") (hs2:∀ env,starEach [b,e] env=(false,eval b env)::starEach [e] env:=by intro _; walk_at "u")
 (hs3:∀ env,starEach [e] env=(false,eval e env)::starEach [] env:=by intro _; walk_at "u"):GL c tg (.Call (.Name "range" p) [a,b,e] [] pos) ρ R:=fun σ H Hf Q S q aa s I =>
 DY (by unfold Gl Nz; rw [c.esc]; exact hg) (by rw [c.emg]; exact hm) (bL cO (bL cO (bL cO c8 (hs3 _)) (hs2 _)) (hs _)) (by rw [hs,hs2,hs3]; rfl) (by rw [hs2,hs3]; rfl) aa s σ H Q I
  (h σ H Hf _ S fun x v1 H1 aI h1 r1 g1=>h1 σ H1 aI _ (S.ck g1) fun y v2 H2 cD h2 r2 g2=>h2 σ H2 cD _ (S.ck (g1.trans g2)) fun z v3 H3 Hf3 ⟨i,j,e1,e2,e3,⟨hi,⟨hj,hR⟩⟩⟩ r3 g3=>by
    subst e1 e2 e3; rw [av] at r1 r2 r3; subst r1 r2 r3
    exact ⟨i,j,rfl,⟨hi.1,hi.2,hj.1,hj.2⟩,q _ _ H3 Hf3 hR ((g1.trans g2).trans g3) AG⟩)
end
noncomputable abbrev ltI (x y:Int):Bool:=decide (x<y)
noncomputable def Mn (d:Addr) (o:Obj) (ys:List (Key×V)):It :=
 ⟨fun i H=>H d=some (.frz o (.dK ys))∧i<ys.length,fun i H x H'=>H'=H∧∃ y,ys[i]?=some y∧x=kV y.1,fun i H=>H d=some (.frz o (.dK ys))∧ys.length≤i⟩
section
theorem oE (I:Inv X aa σ H s) (hH:H d=some (.frz o (.dK ys))):∃ (vs:List (Key×Value)) (es:Array DictEntry) (ep:Nat),o.data=.dict es ep∧KV ys vs∧s.heap.DictAt (bR X.prog X.w) d vs ep∧(d == sysModules)=false∧ys.length≤sizeLine:=by
 obtain ⟨ho,ok⟩:=(show aX X.prog X.w H s.heap d (.frz o (.dK ys)) from I.hok d _ hH)
 obtain ⟨z,y,vs,kv,o',es,ep,h1,h2,h3,h4,h5,h6⟩:=ok
 rw [ho] at h1; cases h1
 exact ⟨vs,es,ep,h3,kv,⟨o,es,ho,h2,h3,h4,h5,h6⟩,y,z⟩
end
theorem xx {P:Program} {w:World} {K:MI} {tg:Expr} {d j:Addr} {o:Obj} {ys:List (Key×V)} {es:Array DictEntry} {ep:Nat} (hod:o.data=.dict es ep):Turn P w K tg (Mn d o ys) [j] j (fun i h=>h.IsKeyIter j d i ys.length ep) where
 mem:=M4.mpr rfl
 obj:=fun i h ⟨q,e,_,hd⟩ b hb=>by
  obtain rfl:b=j:=M4.mp hb
  exact ⟨_,e,fun v z=>by rw [hd] at z; cases z⟩
 keep:=fun i h h' ⟨q,e,r⟩ k=>⟨q,k j (M4.mpr rfl) _ e,r⟩
 item:=by
  intro X hP hw hK hc i aa s σ H E I hf st hg
  subst hP hw hK
  obtain ⟨f0,f1,f2,f3,f4,f5⟩:=hf j (M4.mpr rfl)
  obtain ⟨hH,hi⟩:=hg
  obtain ⟨vs,es',ep',e1,kv,da,_⟩:=oE I hH
  rw [hod] at e1; cases e1
  have hl:ys.length=vs.length:=N4 kv
  obtain ⟨⟨ky,v⟩,hv,r1,r2⟩:=cU kv (M9 hi)
  rw [hl] at st
  refine wpAny_pyNext_dict_item st da hv fun key h' hkey hit' hs'=>?_
  have I1:Inv X aa σ H { s with heap:=h',toks:=s.toks }:=I.turned (fun b o hb e=>hs'.extBut b o hb e) f0 f1 f3 f4 f5
  obtain ⟨q,e,qc,qd⟩:=id hit'
  rw [← hl] at hit'
  exact ⟨_,rfl,l8 (s:={ s with heap:=h',toks:=s.toks }) (n:="dict_keyiterator") e qc qd (by decide) ⟨kV ky,H,I1,uV hkey,⟨rfl,_,M9 hi,by rw [r1]⟩,hit',fun b hb=>(hf b hb).1⟩⟩
 done:=by
  intro X hP hw hK hc i aa s σ H E I hf st hg
  subst hP hw hK
  obtain ⟨f0,f1,f2,f3,f4,f5⟩:=hf j (M4.mpr rfl)
  obtain ⟨hH,hi⟩:=hg
  obtain ⟨vs,es',ep',e1,kv,da,_⟩:=oE I hH
  rw [hod] at e1; cases e1
  have hl:ys.length=vs.length:=N4 kv
  rw [hl] at st
  exact wpAny_pyNext_dict_end (I.ok.hd hc) st da (Oj (by lia)) fun h' eb=>⟨rfl,I.turned (t':=s.toks) (fun b o hb e=>eb b o hb e) f0 f1 f3 f4 f5⟩
 self:=fun _ _ _ _ _ st h=>wpAny_pyIter_keyiter st h
theorem xy {K:MI} {Hf:Hp} {d:Addr} {o:Obj} {ys:List (Key×V)} {ns:List Int} (hH:Hf d=some (.frz o (.dK ys))) (hk:ys.map (·.1)=ns.map M6):jh K (Mn d o ys) (ns.map D.int) Hf where
 go:=fun i x H aI s1 s2 e=>by
  rw [MS,MZ] at e
  obtain ⟨n,hn,rfl⟩:=e
  have hq:=congrArg (fun l=>l[i]?) hk
  simp only [MS,hn,Option.map_some] at hq
  obtain ⟨y,hy,ey⟩:=MZ.mp hq
  refine ⟨⟨s2 _ _ (s1 _ _ hH),(MU.mp hy).1⟩,fun v H' ⟨e1,y',e2,e3⟩=>?_⟩
  rw [hy] at e2; cases e2
  subst e1 e3
  exact ⟨aI,.refl s2,by rw [ey]; exact av.mpr rfl⟩
 stop:=fun i H aI s1 s2 e=>⟨s2 _ _ (s1 _ _ hH),by
  have:=congrArg Pd hk
  simp only [MO] at this e
  lia⟩
section
theorem nv (hT:s.TypeIs (.ref v) "dict") (hQ:Q false s):wpAny (model prog w) A (Pk (.ref v)) Q E s:=by
 unfold Pk
 refine MG (wpAny_specialOf hT PySem.F.slot_dict_len.lookup ?_)
 have e:splitId "dict.__len__"=some ("dict","__len__"):=by decide +kernel
 dsimp only
 rw [e]
 dsimp only
 refine MG (Q7 (b:=true) hT (by rw [isSubtype_type]; kernel_rfl) ?_)
 rw [if_neg (by decide)]
 exact MG (OS hT (MJ hQ))
end
section
variable {X:Cx} {aa:List (Addr×Obj)} {σ:L2.St} {H Hf:Hp} {s:Shared} {E:Value→Shared→Prop}
theorem qG {K:MI}:∀ {L:List Int} {us:List Value},Paired (fun x u=>jJ K Hf (D.int x) u) L us→IntsAre us L
 | _,_,.nil=>.nil
 | _,_,.cons ⟨x,r1,h1⟩ t=>by
  rw [av] at h1; subst h1
  obtain ⟨tk,rfl⟩:=r1
  exact .cons _ _ (qG t)
theorem DZ:Kf X D.int ltI oneType' where
 lin:=fun L=>⟨fun x _=>by simp,fun x _ y _ z _ h g=>by simp only [decide_eq_true_eq] at *; lia,fun x _ y _ h=>by simp only [decide_eq_true_eq]; lia⟩
 inj:=fun _ _ _ _ _ _ _ x y u ⟨v,r1,h1⟩ ⟨v',r2,h2⟩=>by
  rw [av] at h1 h2; subst h1 h2
  obtain ⟨t,rfl⟩:=r1
  obtain ⟨t',e⟩:=r2
  cases e; rfl
 kind:=fun _ _ _ _ _ _ _ _ _ L us p h2 Q hQ=>by
  rw [ksk_kind (kz:=L) (qG p) (by simpa using h2)]
  exact MJ hQ
 cmp:=fun _ _ _ _ _ _ _ _ _ _ x y u v ⟨a,r1,h1⟩ ⟨b,r2,h2⟩ Q hQ=>by
  rw [av] at h1 h2; subst h1 h2
  obtain ⟨t,rfl⟩:=r1
  obtain ⟨t',rfl⟩:=r2
  rw [keyLt'_oneType]
  exact oneLt_int hQ
theorem qH (hc:X.calm=true) (I:Inv X aa σ H s) (sb:aD Hf H) (hA:X.A.units+60<cLine) (hH:Hf d=some (.frz o (.dK ys))) (hk:ys.map (·.1)=ns.map M6) (nd:ns.Nodup)
 (hQ:∀ (L':List Int) (xs':List V) (s':Shared) (H' aj:Hp) (a:Addr),L'.Perm ns→fh ltI b L'→aq X.K aj (L'.map D.int) xs'→aZ H Hf H' aj→H' a=none→Inv X aa σ (upd H' a (.lst xs')) s'→Q (.ref a) s') :
 wpAny (model X.prog X.w) X.A (call (.builtin "sorted") [.ref d] [(MH "reverse",.bool b)]) Q E s:=by
 refine call_function_entry_kw kind_sorted plain_sorted entry_sorted (args_sorted_rev _ _) ?_
 unfold Builtin.«sorted»
 refine MG (m:=checkCount "sorted" 1 1 _) (MJ ?_)
 have h1:X.A.in1.handled=none:=I.ok.hd hc
 have h2:X.A.in1.frames=some X.stack:=I.ok.frames
 obtain ⟨vs,es,ep,e1,kv,da,hs,hz⟩:=oE I (sb _ _ hH)
 have hl:ys.length=vs.length:=N4 kv
 have hn:(ns.map D.int).length=ys.length:=by have:=congrArg Pd hk; simp only [MO] at this ⊢; lia
 refine MG (k6 (X:=DM X X.A.in1) (H:=H) (Hf:=Hf) (ds:=ns.map D.int) (T:="dict") hc h1 h2 (jm I (fun _=>h1) h2) sb da.lt_size (by lia) (by decide) (fun s' k=>(da.keep k).dictOf.typeIs) (fun A s' Q E q h=>nv q h) (fun A s1 H1 E I1 sb1 k1=>?_) fun us s' H' aj xs I' rv rr g hz'=>?_)
 ·refine wpAny_pyIter_dict hs (da.keep k1) ?_
  refine ⟨_,_,_,rfl,ML _,I1.kept (t':=s1.toks) fun b o e=>MQ _ e,xx e1,⟨_,M3 _ rfl,rfl,?_⟩,fun b hb=>?_,fun b o e=>MQ _ e,xy hH hk⟩
  ·rw [hl]; rfl
  ·obtain rfl:b=s1.heap.objs.size:=M4.mp hb
   exact I1.lR (ML _) (I1.hok.fresh (ML _))
 ·have I2:=fS I.ok I'
  have el:=rr.length
  have el2:=rv.length
  refine Ao (b:=b) DZ I2 g.b ?_ rr rv (by lia) nd fun L' xs' s2 p1 p2 p3 p4 I3=>hQ L' xs' s2 H' aj _ p1 p2 p3 g (I2.hok.fresh (ML _)) I3
  show X.A.units+1+20<cLine
  lia
end
section
variable {K:MI} {c:Ctx P w K mg base k N sc bk}
theorem sS (hm:mg "sorted"=none) (h:aF c e ρ fun d=>∃ (ns:List Int) (ds:List D),d=.fdK (ns.map M6) ds∧Sd ns.Nodup (∀ L':List Int,L'.Perm ns→fh ltI true L'→R (.ow (L'.map D.int))))
 (hg:sc.names.lookup (MH "sorted")=some .globalImplicit:=by walk_at "u")
 (he:∀ env,starEach [e] env=(false,eval e env)::starEach [] env:=by intro _; walk_at "u")
 (hpl:∀ env,(backTo pos (starEach [e] env)).any (·.1)=false:=by intro _; walk_at "u") :
 c6 c (.Call (.Name "sorted" np) [e] [⟨some "reverse",.Constant (.bool true) j kp1,kp⟩] pos) ρ R:=fun σ H Hf Q S q aa s I=>by
 have hgl:Gl c.X "sorted":=by unfold Gl Nz; rw [c.esc]; exact hg
 refine Ol (c7 I hgl (by rw [c.emg]; exact hm) (show bootBuiltins "sorted"=some (.builtin "sorted") by decide +kernel) ?_ (by decide) (by decide))
 refine callWith_kw ?_ (by rw [he]; rfl) (hpl _)
 have hpa:=bL (X:=c.X) (e:=e) (es:=[]) cO c8 (he _)
 refine bw (hpa pos aa s σ H (fun vs H1=>∃ x,vs=[x]∧∃ (ns:List Int) (ds:List D) (aI:Hp),Rep c.X.K aI (.fdK (ns.map M6) ds) x∧ns.Nodup∧aZ H Hf H1 aI∧∀ L':List Int,L'.Perm ns→fh ltI true L'→R (.ow (L'.map D.int))) I ?_) fun us s1 hh=>z2 hh fun vs H1 hh=>w3 hh fun I1 r1 hh=>hh.elim fun x hh=>w2 hh fun ex hh=>z3 hh fun ns ds aI hh=>w4 hh fun e1 e7 e8 e9=>?_
 ·exact h σ H Hf _ S fun d v H1 aI ⟨ns,ds,hp,⟨hn,hR⟩⟩ rv g=>⟨_,rfl,ns,ds,aI,by rw [← hp]; exact rv,hn,g,hR⟩
 ·subst ex
  obtain ⟨a0,ys,o,rfl,hs,hk,hr⟩:=iF.mp e1
  have eu:us=[.ref a0]:=by
   cases r1 with
   | cons q1 q2=>cases q2; cases q1; rfl
  subst eu
  refine kws_cons (bw (ES (X:=c.X) (b:=true) (j:=j) (pos:=kp1) aa s1 σ _ (fun x H2=>x=.bl true∧H2=H1) I1 ⟨rfl,rfl⟩) fun kv s2 ⟨x,H2,I2,rx,e10,e11⟩=>kws_nil ?_)
  subst e10 e11
  have ek:kv=.bool true:=rx
  subst ek
  refine qH (b:=true) c.calm I2 e8.b ?_ hs hk e7 fun L' xs' s' H' aj a p1 p2 p3 g na I3=>?_
  ·have:=c.room.un
   lia
  ·have gg:=e8.trans g
   exact ⟨.ref a,_,I3,rfl,q (.ow (L'.map D.int)) _ _ aj (e9 L' p1 p2) ⟨a,xs',rfl,gg.s.free na,ah,g.b.free na,p3⟩ (gg.trans (aZ.fN g.b na))⟩
end
theorem D0 {Q:Value→Shared→Prop} (ho:s.heap.get? l=some o) (hc:o.cls=.type "tuple") (hd:o.data=.seq its.toArray n) (hk:0≤k) (hk2:k<2 ^ 63) (hz:its.length * k.toNat≤sizeLine) (hne:its≠[])
 (h1:k=1→Q (.ref l) s) (h2:k≠1→Q (.ref s.heap.objs.size) { s with heap:=s.heap.push { cls:=.type "tuple",data:=.seq (MY k.toNat its).flatten.toArray } }) :
 wpAny (model prog w) A (Builtin.«tuple.__mul__» ⟨[.ref l,.int k u],[]⟩) (fun fin s'=>∃ v,fin=.done (.ret v)∧Q v s') E s:=by
 unfold Builtin.«tuple.__mul__»
 show wpAny _ _ (asIndex (.int k u) >>= _) _ _ s
 have ea:asIndex (.int k u)=pure k:=rfl
 rw [ea]
 refine MG (MJ ?_)
 have b1:(decide (k< -2 ^ 63) || decide (k≥2 ^ 63))=false:=by simp only [Bool.or_eq_false_iff,decide_eq_false_iff_not]; lia
 rw [if_neg (by rw [b1]; exact MV)]
 dsimp only
 refine MG (show wpAny _ _ (seqItems? (.ref l) >>= _) _ _ s from MG (wpAny_seqItems ho hd (MJ ?_)))
 have hne':its.toArray.isEmpty=false:=by cases its with | nil=>exact absurd rfl hne | cons a r=>rfl
 rw [hne',Bool.false_or]
 by_cases e:k=1
 ·rw [if_pos (by simp [e])]
  refine MG (MG (OS ⟨o,ho,hc⟩ (MJ ?_)))
  rw [if_pos (by decide)]
  exact MG (N6 (MJ ⟨_,rfl,h1 e⟩))
 ·rw [if_neg (by simpa using e)]
  have h2':=h2 e
  by_cases e0:k=0
  ·subst e0
   rw [if_pos (by decide)]
   exact MG (NQ (MJ ⟨_,rfl,h2'⟩))
  ·have hpos:0<k:=by lia
   rw [if_neg (by simp; lia)]
   have hm:(its.toArray.size:Int) * k=((its.length * k.toNat:Nat):Int):=by
    rw [Int.natCast_mul,Int.toNat_of_nonneg hk,M7]
   have hs:(sizeLine:Nat)≤(2 ^ 63 - 1) / 8:=by decide
   rw [hm,if_neg (by lia),if_neg (by unfold Builtin.Tuple.tupleTooMany; simp only [decide_eq_true_eq]; lia)]
   have ef:=foldl_rep its k.toNat []
   rw [OO] at ef
   show wpAny _ _ (newObj (.type "tuple") (.seq (PY (fun x1 x2=>x1++x2) ([]:List Value).toArray (MY k.toNat its.toArray))) >>= _) _ _ _
   rw [ef]
   exact MG (NQ (MJ ⟨_,rfl,h2'⟩) (hd:=by
    show (MY k.toNat its).flatten.toArray.size≤sizeLine
    rw [M7,len_rep,Qq]; exact hz))
theorem sU:fillsNumberSlot (.type "tuple") "mul"=pure false:=PySem.fillsNumberSlot_seq (id:="tuple.__mul__") (r:=some (.builtin "tuple.__rmul__")) Sq.lookup (by decide +kernel) F.slot_tuple_rmul.lookup (by decide +kernel)
theorem sV:seqRepeat? (.type "tuple")=pure (some (.builtin "tuple.__mul__")):=by
 unfold seqRepeat?
 rw [PySem.seqSlot_of (T:="tuple") (name:="__mul__") (id:="tuple.__mul__") Sq.lookup (by decide +kernel),PySem.seqSlot_of (T:="tuple") (name:="__rmul__") (id:="tuple.__rmul__") F.slot_tuple_rmul.lookup (by decide +kernel)]
 rfl
theorem AH (a) (t:Tok) (l) (o) (items) (n) :
 Meets (Builtin.«int.__rmul__» ⟨[.int a t,.ref l],[]⟩) (fun _ R s=>s.heap.get? l=some o∧o.cls=.type "tuple"∧o.data=.seq items n∧R (.ok (.ret Value.notImplemented)) s) :=
 .of_wp fun prog w A R ⟨hp,g,d,tk,os⟩ ⟨hl,hc,hd,h⟩=>by
  obtain ⟨c,dc,dt,sl⟩:=o
  obtain rfl:c=.type "tuple":=hc
  obtain rfl:dt=.seq items n:=hd
  wp_walk
  exact ⟨_,rfl,h⟩
noncomputable def Ko (K:MI):R2:=fun x y H Q=>∃ l k xs,x=.ref l∧y=.int k∧cQ K H l xs∧xs≠[]∧0≤k∧k<2 ^ 63∧xs.length * k.toNat≤sizeLine∧(k=1→Q (.ref l) H)∧(k≠1→∀ p,H p=none→Q (.ref p) (upd H p (.tup (MY k.toNat xs).flatten)))
theorem D9:eX X (binaryOp .Mult) (Ko X.K):=by
 intro aa s σ H x y v u Q I rx ry h
 obtain ⟨l,k,xs,rfl,rfl,hq,hne,h0,h1,hz,q1,q2⟩:=h
 cases rx
 obtain ⟨t,rfl⟩:=ry
 obtain ⟨its,r,pl,hz0⟩:=I.tuple hq
 obtain ⟨o,ho,hc,n,hd⟩:=pl
 have hl:=r.length
 refine wpAny_binaryOp_repeat_ref (T:="tuple") (U:="int") (by decide) ⟨o,ho,hc⟩ (fun s'=>PV s' k t) sU F.fills_int_mul Rg sV F.slot_int_index.lookup
  (PX Rg (PV s k t) F.entry_int_rmul (F.args_int_rmul_2 _ _) (AH k t l o _ _) ⟨ho,hc,hd,rfl,⟨o,ho,hc⟩,Oe Sq ⟨o,ho,hc⟩ F.entry_tuple_mul (D0 (its:=its) ho hc hd h0 h1 (by rw [← hl]; exact hz) (by rintro rfl; cases r; exact hne rfl) (fun e=>?_) fun e=>?_) (F.args_tuple_mul_2 _ _)⟩)
 ·exact ⟨.ref l,H,I,rfl,q1 e⟩
 ·have Hp:H s.heap.objs.size=none:=I.hok.fresh (ML _)
  have hz2:(MY k.toNat xs).flatten.length≤sizeLine:=by rw [len_rep,Qq]; exact hz
  have IA:Inv X aa σ (upd H s.heap.objs.size (.tup (MY k.toNat xs).flatten)) { s with heap:=s.heap.push { cls:=.type "tuple",data:=.seq (MY k.toNat its).flatten.toArray },toks:=s.toks } :=
   I.laid (a:=s.heap.objs.size) (o:=.tup (MY k.toNat xs).flatten) (fun _ _ q=>MQ _ q) (ML _) ⟨hz2,_,r.rep k.toNat,_,M3 _ rfl,rfl,0,rfl⟩
  exact ⟨.ref s.heap.objs.size,_,IA,rfl,q2 e _ Hp⟩
section
variable {K:MI}
theorem Hr (h:aF c a ρ fun x=>aF c b ρ fun y=>∃ ds n,x=.tup ds∧y=.int n∧Sd (ds≠[]∧0≤n∧n<2 ^ 63∧ds.length * n.toNat≤sizeLine) (R (.tup (MY n.toNat ds).flatten))):aF c (.BinOp a .Mult b pos) ρ R:=fun σ H Hf Q S q =>
 bF (yz D9 cO cO) (h σ H Hf _ S fun x v H1 aI h1 r1 g1=>h1 σ H1 aI _ (S.ck g1) fun y u H2 cD ⟨ds,n,e1,e2,⟨hne,n0,n1,hz⟩,hR⟩ r2 g2=>by
  subst e1 e2
  have r1':=Rep.mono g2.f _ r1
  obtain ⟨l,xs,rfl,k1,k2⟩:=aE.mp r1'
  rw [av] at r2; subst r2
  have hl:=k2.length
  have g:=g1.trans g2
  refine ⟨l,n,xs,rfl,rfl,au g2.b k1,by rintro rfl; exact hne (List.eq_nil_of_length_eq_zero hl),n0,n1,by rw [← hl]; exact hz,fun e=>?_,fun _ p hp=>?_⟩
  ·subst e
   refine q _ _ H2 cD hR ?_ g
   rw [show (MY (1:Int).toNat ds).flatten=ds by simp]
   exact r1'
  ·have g3:=aZ.new (o:=.tup (MY n.toNat xs).flatten) g2.b hp
   exact q _ _ _ _ hR (aE.mpr ⟨p,_,rfl,.inl (.inl ah),(k2.mono g3.f).many _⟩) (g.trans g3))
end
section
variable {K:MI}
end
end EV
namespace EV
open PySem PySem.Spec PyProof.Rows L2
noncomputable def dig (b:Int):Nat→(Nat→Int)→Int
 | 0,_=>0
 | m+1,f=>f 0 * b ^ m+dig b m (fun i=>f (i+1))
noncomputable abbrev bQ (p:List Int) (i:Nat):Int:=p.getD i 0
noncomputable def pk (b:Int) (p:List Int):Int:=dig b 6 (bQ p)
theorem iY:∀ {m:Nat} {f g:Nat→Int},(∀ i,i<m→f i=g i)→dig b m f=dig b m g
 | 0,_,_,_=>rfl
 | m+1,f,g,h=>by
  unfold dig
  rw [h 0 (by lia),iY (m:=m) fun i hi=>h (i+1) (by lia)]
theorem vv:∀ (m:Nat) (f g:Nat→Int),dig b m (fun i=>f i+g i)=dig b m f+dig b m g
 | 0,_,_=>rfl
 | m+1,f,g=>by
  unfold dig
  rw [vv m (fun i=>f (i+1)) (fun i=>g (i+1)),Pf]
  lia
theorem iZ:∀ (m:Nat),dig b m (fun _=>0)=0
 | 0=>rfl
 | m+1=>by unfold dig; rw [iZ m,Pc]; rfl
theorem g6 (hb:0<b):∀ (m:Nat) (f:Nat→Int),(∀ i,i<m→0≤f i∧f i<b)→0≤dig b m f∧dig b m f<b ^ m
 | 0,_,_=>⟨N5 _,by show (0:Int)<b ^ 0; rw [Int.pow_zero]; decide⟩
 | m+1,f,h=>by
  have h0:=h 0 (by lia)
  have ih:=g6 hb m (fun i=>f (i+1)) fun i hi=>h (i+1) (by lia)
  have hp:0<b ^ m:=Pe hb
  unfold dig
  rw [Int.pow_succ]
  have a1:0≤f 0 * b ^ m:=Int.mul_nonneg h0.1 (by lia)
  have a2:(f 0+1) * b ^ m≤b * b ^ m:=Sz (by lia) (by lia)
  rw [Pf,Ry] at a2
  rw [Int.mul_comm (b ^ m) b]
  lia
theorem vz (hb:0<b):∀ (m:Nat) (f:Nat→Int),(∀ i,i<m→0≤f i∧f i<b)→∀ i,i<m→dig b m f / b ^ (m - 1 - i) % b=f i
 | 0,_,_,_,hi=>absurd hi (Nat.not_lt_zero _)
 | m+1,f,h,i,hi=>by
  have ih:=vz hb m (fun i=>f (i+1)) fun i hi=>h (i+1) (by lia)
  have bd:=g6 hb m (fun i=>f (i+1)) fun i hi=>h (i+1) (by lia)
  have hp:0<b ^ m:=Pe hb
  unfold dig
  cases i with
  | zero =>
   rw [show m+1 - 1 - 0=m by lia,Ru,Int.add_mul_ediv_right _ _ (by lia),Int.ediv_eq_zero_of_lt bd.1 bd.2,Qs]
   exact Int.emod_eq_of_lt (h 0 (by lia)).1 (h 0 (by lia)).2
  | succ i =>
   have e:b ^ m=b ^ (i+1) * b ^ (m - 1 - i):=by rw [← Int.pow_add]; congr 1; lia
   have hq:0<b ^ (m - 1 - i):=Pe hb
   rw [show m+1 - 1 - (i+1)=m - 1 - i by lia,e,← Qm,Ru,Int.add_mul_ediv_right _ _ (by lia),Int.pow_succ,← Qm,Int.add_mul_emod_self_right]
   exact ih i (by lia)
theorem jq (h:trim (x::p)=x::p):trim p=p:=by
 rcases List.eq_nil_or_concat p with rfl | ⟨r,z,rfl⟩
 ·rfl
 ·rw [List.concat_eq_append] at h ⊢
  by_cases e:z=0
  ·subst e
   rw [← Om,gB] at h
   have:=congrArg Pd h
   have l:=fT (x::r)
   simp only [Nl,Nr,Oo] at this l
   lia
  ·exact nh r e
theorem qI:∀ {p:List Int},trim p=p→p≠[]→(∀ x∈p,0≤x)→∃ i,i<p.length∧0<bQ p i
 | [],_,h,_=>absurd rfl h
 | [x],h,_,h0=>by
  refine ⟨0,by simp,?_⟩
  have:x≠0:=by rintro rfl; simp [trim] at h
  have:=h0 x (by simp)
  show 0<x
  lia
 | x::y::p,h,_,h0=>by
  obtain ⟨i,hi,hq⟩:=qI (jq h) (by simp) fun z hz=>h0 z (MX _ hz)
  exact ⟨i+1,by simp only [Nl] at *; lia,by simpa [bQ] using hq⟩
theorem vA (hb:0<b):∀ (m:Nat) (f:Nat→Int),(∀ i,i<m→0≤f i∧f i<b)→(∃ i,i<m∧0<f i)→0<dig b m f
 | 0,_,_,h=>by obtain ⟨i,hi,_⟩:=h; lia
 | m+1,f,h,⟨i,hi,hq⟩=>by
  have bd:=g6 hb m (fun i=>f (i+1)) fun i hi=>h (i+1) (by lia)
  have hp:0<b ^ m:=Pe hb
  unfold dig
  cases i with
  | zero =>
   have:=Int.mul_pos hq hp
   lia
  | succ i =>
   have:=vA hb m (fun i=>f (i+1)) (fun i hi=>h (i+1) (by lia)) ⟨i,by lia,hq⟩
   have:=Int.mul_nonneg (h 0 (by lia)).1 (show 0≤b ^ m by lia)
   lia
theorem AI (hb:0<b):∀ (m:Nat) (p q:List Int),trim p=p→trim q=q→p.length≤m→q.length≤m→(∀ x∈p,0≤x∧x<b)→(∀ x∈q,0≤x∧x<b)→HT.lexLt p q=true→dig b m (bQ p)<dig b m (bQ q)
 | m,[],[],_,_,_,_,_,_,h=>by cases h
 | m,[],y::q,_,tq,_,lq,_,hq,_=>by
  have e:dig b m (bQ [])=0:=by
   rw [show bQ ([]:List Int)=fun _=>0 from funext fun i=>by simp [bQ]]; exact iZ m
  rw [e]
  obtain ⟨i,hi,h0⟩:=qI tq (by simp) fun x hx=>(hq x hx).1
  refine vA hb m _ (fun j hj=>?_) ⟨i,by lia,h0⟩
  by_cases z:j<(y::q).length
  ·have:bQ (y::q) j=(y::q)[j]:=by unfold bQ; rw [NT,M9 z]; rfl
   rw [this]; exact hq _ (Nj _)
  ·have:bQ (y::q) j=0:=by simp only [bQ,NT,Oj (by lia:(y::q).length≤j)]; rfl
   rw [this]; lia
 | m,x::p,[],_,_,_,_,_,_,h=>by cases h
 | 0,x::p,y::q,_,_,lp,_,_,_,_=>by simp at lp
 | m+1,x::p,y::q,tp,tq,lp,lq,hp,hq,h=>by
  simp only [Nl] at lp lq
  rw [HT.cB] at h
  have rd:∀ (r:List Int),(∀ z∈r,0≤z∧z<b)→∀ j,0≤bQ r j∧bQ r j<b:=fun r hr j=>by
   by_cases z:j<r.length
   ·have:bQ r j=r[j]:=by unfold bQ; rw [NT,M9 z]; rfl
    rw [this]; exact hr _ (Nj _)
   ·have:bQ r j=0:=by simp only [bQ,NT,Oj (by lia:r.length≤j)]; rfl
    rw [this]; lia
  have hp':∀ z∈p,0≤z∧z<b:=fun z hz=>hp z (MX _ hz)
  have hq':∀ z∈q,0≤z∧z<b:=fun z hz=>hq z (MX _ hz)
  unfold dig
  show x * b ^ m+dig b m (bQ p)<y * b ^ m+dig b m (bQ q)
  by_cases e:x=y
  ·rw [if_pos e] at h
   subst e
   have:=AI hb m p q (jq tp) (jq tq) (by lia) (by lia) hp' hq' h
   lia
  ·rw [if_neg e] at h
   have hxy:x<y:=of_decide_eq_true h
   have b1:=g6 hb m (bQ p) fun i _=>rd p hp' i
   have b2:=g6 hb m (bQ q) fun i _=>rd q hq' i
   have a2:(x+1) * b ^ m≤y * b ^ m:=Sz (by lia) (by have hh:0<b ^ m:=Pe hb; lia)
   rw [Pf,Ry] at a2
   lia
noncomputable def Bd (b:Int) (p:List Int):Prop:=p.length≤6∧∀ x∈p,0≤x∧x<b
theorem c9 (z:j<p.length):bQ p j=p[j]:=by unfold bQ; rw [NT,M9 z]; rfl
theorem cL (z:p.length≤j):bQ p j=0:=by unfold bQ; rw [NT,Oj z]; rfl
theorem Fg (hb:0<b) (h:Bd b p) (i):0≤bQ p i∧bQ p i<b:=by
 by_cases z:i<p.length
 ·rw [c9 z]; exact h.2 _ (Nj _)
 ·rw [cL (by lia)]; lia
theorem qJ (p):∃ m,p=trim p++MY m 0:=by
 suffices H:∀ r:List Int,∃ m,r=MY m 0++r.dropWhile fun x=>x == 0 by
  obtain ⟨m,h⟩:=H p.reverse
  refine ⟨m,?_⟩
  have:=congrArg List.reverse h
  rw [List.reverse_reverse,RZ,List.reverse_replicate] at this
  exact this
 intro r
 induction r with
 | nil=>exact ⟨0,rfl⟩
 | cons x r ih =>
  by_cases e:x=0
  ·subst e
   obtain ⟨m,h⟩:=ih
   refine ⟨m+1,?_⟩
   rw [Ou,List.dropWhile_cons_of_pos (by simp),Om,← h]
  ·exact ⟨0,by rw [List.dropWhile_cons_of_neg (by simpa using e)]; rfl⟩
theorem dO (p) (i):bQ (trim p) i=bQ p i:=by
 obtain ⟨m,h⟩:=qJ p
 by_cases z:i<(trim p).length
 ·have e:bQ p i=bQ (trim p++MY m 0) i:=by rw [← h]
  rw [e]
  unfold bQ
  simp only [NT]
  rw [OH z]
 ·rw [cL (by lia)]
  have e:bQ p i=bQ (trim p++MY m 0) i:=by rw [← h]
  rw [e]
  unfold bQ
  simp only [NT]
  rw [Pn (by lia),RN]
  split <;> rfl
theorem Ea (b) (p):pk b (trim p)=pk b p:=iY fun i _=>dO p i
theorem qK (h:x∈trim p):x∈p:=by
 obtain ⟨m,e⟩:=qJ p
 rw [e]; exact O3 _ h
theorem oF (h:Bd b p):Bd b (trim p):=⟨MT (fT p) h.1,fun x hx=>h.2 x (qK hx)⟩
theorem AJ (hb:0<b) (hp:Bd b p) (hq:Bd b q) (tp:trim p=p) (tq:trim q=q) (h:HT.lexLt p q=true):pk b p<pk b q:=AI hb 6 p q tp tq hp.1 hq.1 hp.2 hq.2 h
theorem sW (hb:0<b) (hp:Bd b p) (hq:Bd b q) (tp:trim p=p) (tq:trim q=q) (h:pk b p=pk b q):p=q:=by
 by_cases e:p=q
 ·exact e
 ·exfalso
  rcases j4 e with z | z
  ·have:=AJ hb hp hq tp tq z; lia
  ·have:=AJ hb hq hp tq tp z; lia
noncomputable def K8 (b:Int) (key:Int):List Int:=trim ((Ny 6).map fun (i:Nat)=>key / b ^ (5 - i) % b)
theorem Hs (hb:0<b) (h:Bd b p):K8 b (pk b p)=trim p:=by
 have e:((Ny 6).map fun (i:Nat)=>pk b p / b ^ (5 - i) % b)=p++MY (6 - p.length) 0:=by
  refine Ra (by simp; have:=h.1; lia) fun i h1 h2=>?_
  have hi:i<6:=by simpa using h1
  rw [Sm,R3]
  have:=vz hb 6 (bQ p) (fun j _=>Fg hb h j) i hi
  rw [show 6 - 1 - i=5 - i by lia] at this
  rw [show pk b p=dig b 6 (bQ p) from rfl,this]
  by_cases z:i<p.length
  ·rw [c9 z,List.getElem_append_left z]
  ·rw [cL (by lia),List.getElem_append_right (by lia),List.getElem_replicate]
 unfold K8
 rw [e]
 generalize 6 - p.length=m
 induction m with
 | zero=>simp
 | succ m ih=>rw [List.replicate_succ',← Nb,gB]; exact ih
noncomputable def cF (B:List (Int×Int)):List (Key×D):=B.map fun x=>(.inl x.1,.int x.2)
theorem i6 (B) (k):bh (cF B) (.inl k)=(bh B k).map D.int:=by
 induction B with
 | nil=>rfl
 | cons t B ih =>
  by_cases e:t.1=k
  ·rw [aY e]
   show bh ((M6 t.1,D.int t.2)::cF B) _=_
   rw [aY (by rw [e])]; rfl
  ·rw [aP e,← ih]
   show bh ((M6 t.1,D.int t.2)::cF B) _=_
   rw [aP fun z=>e (M6.inj z)]
theorem qL (B) (k n):putD (cF B) (.inl k) (.int n)=cF (putD B k n):=by
 unfold putD
 rw [i6]
 by_cases h:(bh B k).isSome=true
 ·rw [if_pos h,if_pos (by rw [O5]; exact h)]
  unfold cF
  rw [Na,Na]
  refine OA fun t _=>?_
  simp only [Rn]
  by_cases e:t.1=k
  ·rw [if_pos e,if_pos (by rw [e])]
  ·rw [if_neg e,if_neg fun z=>e (M6.inj z)]
 ·rw [if_neg h,if_neg (by rw [O5]; exact h)]
  unfold cF
  simp
noncomputable def fV (b:Int) (t:aO):Int×Int:=(pk b t.1,t.2)
noncomputable def Gd (b:Int) (A:List aO):Prop:=∀ t∈A,Bd b t.1∧trim t.1=t.1
theorem sX (hb:0<b) (h:Gd b A) (hp:Bd b p) (tp:trim p=p):bh (A.map (fV b)) (pk b p)=bh A p:=by
 induction A with
 | nil=>rfl
 | cons t A ih =>
  have ih:=ih fun x hx=>h x (MX _ hx)
  have ht:=h t MW
  by_cases e:t.1=p
  ·rw [aY e,MN,aY (show (fV b t).1=pk b p by unfold fV; rw [e])]; rfl
  ·rw [aP e,MN,aP fun z=>e (sW hb ht.1 hp ht.2 tp z),ih]
theorem Ht (hb:0<b) (h:Gd b A) (hp:Bd b p) (tp:trim p=p):putD (A.map (fV b)) (pk b p) n=(putD A p n).map (fV b):=by
 unfold putD
 rw [sX hb h hp tp]
 split
 ·rw [Na,Na]
  refine OA fun t ht=>?_
  simp only [Rn]
  by_cases e:t.1=p
  ·rw [if_pos e,if_pos (show (fV b t).1=pk b p by unfold fV; rw [e])]; rfl
  ·rw [if_neg e,if_neg (show ¬ (fV b t).1=pk b p from fun z=>e (sW hb (h t ht).1 hp (h t ht).2 tp z))]
 ·simp [fV]
theorem Hu (h:Gd b A) (hp:Bd b p) (tp:trim p=p):Gd b (putD A p n):=fun t ht=>by
 rcases oB ht with e | e
 ·rw [e]; exact ⟨hp,tp⟩
 ·exact h t e
theorem oG (h:∀ t∈ts,Bd b t.1):Gd b (aG ts):=by
 unfold aG
 suffices H:∀ A,Gd b A→Gd b (ts.foldl fj A) from H [] (fun _ h=>by cases h)
 induction ts with
 | nil=>exact fun A h=>h
 | cons u ts ih=>exact fun A hA=>ih (fun t ht=>h t (MX _ ht)) _ (Hu hA (oF (h u MW)) (cg _))
theorem Hw (hb:0<b) (h:∀ t∈ts,Bd b t.1) (ht:Bd b t.1) :
 putD ((aG ts).map (fV b)) (pk b t.1) ((bh ((aG ts).map (fV b)) (pk b t.1)).getD 0+t.2)=(aG (ts++[t])).map (fV b):=by
 rw [qD]
 unfold fj
 rw [← Ea b t.1,sX hb (oG h) (oF ht) (cg _),Ht hb (oG h) (oF ht) (cg _)]
theorem qM:∀ {L M:List Int},L.Perm M→L.Pairwise (fun x y=>y<x)→M.Pairwise (fun x y=>y<x)→L=M
 | [],M,h,_,_=>by rw [List.nil_perm] at h; exact h.symm
 | x::L,[],h,_,_=>by simp at h
 | x::L,y::M,h,h1,h2=>by
  rw [Pz] at h1 h2
  by_cases e:x=y
  ·subst e
   rw [qM ((List.perm_cons _).mp h) h1.2 h2.2]
  ·exfalso
   have hx:x∈M:=(M0.mp (h.subset MW)).resolve_left e
   have hy:y∈L:=(M0.mp (h.symm.subset MW)).resolve_left (M8 e)
   have a:=h1.1 y hy
   have b:=h2.1 x hx
   lia
theorem oH {A:List aO} (hk:(A.map (·.1)).Nodup) {t:aO} (h:t∈A):bh A t.1=some t.2:=by
 induction A with
 | nil=>cases h
 | cons u A ih =>
  rw [MN,N8] at hk
  rcases M0.mp h with rfl | h
  ·exact aY rfl
  ·rw [aP fun e=>hk.1 (by rw [e]; exact List.mem_map_of_mem h)]
   exact ih hk.2 h
theorem AK (hb:0<b) (h:∀ t∈ts,Bd b t.1) (hp:L'.Perm (((aG ts).map (fV b)).map (·.1))) (hs:L'.Pairwise fun x y=>y<x):L'=(eS (aG ts)).map fun t=>pk b t.1:=by
 have hg:=oG h
 have hk:=dN ts
 generalize aG ts=A at *
 refine qM (hp.trans ?_) hs ?_
 ·rw [Na]
  exact ((bu A).map _).symm
 ·rw [OB]
  have hs2:=gD (keys_nodup hk)
  have hm:∀ t∈eS A,t∈A:=fun t ht=>(bu A).subset ht
  have hk2:(eS A).Pairwise fun x y=>x.1≠y.1:=by
   have:=((bu A).map (·.1)).nodup_iff.mpr hk
   unfold Qu at this
   rwa [OB] at this
  unfold iW fh at hs2
  refine RB.imp_of_mem (R:=fun x y=>(if true then cK y x=true else cK x y=true)∧x.1≠y.1) (fun {x y} hx hy q=>?_) (hs2.and hk2)
  obtain ⟨q1,q2⟩:=q
  rw [if_pos rfl] at q1
  unfold cK at q1
  rw [if_neg (M8 q2)] at q1
  exact AJ hb (hg _ (hm _ hy)).1 (hg _ (hm _ hx)).1 (hg _ (hm _ hy)).2 (hg _ (hm _ hx)).2 q1
noncomputable def Eb (b:Int) (p:List Int):Int:=p.foldl (fun a x=>a * b+x) 0
theorem AL (b) (p) (x):Eb b (p++[x])=Eb b p * b+x:=by unfold Eb; rw [Sf]; rfl
theorem qN (b):∀ (p:List Int) (a:Int),p.foldl (fun a x=>a * b+x) a=a * b ^ p.length+dig b p.length (bQ p)
 | [],a=>by simp [dig]
 | x::p,a=>by
  rw [N9,qN b p]
  show (a * b+x) * b ^ p.length+_=a * b ^ (p.length+1)+(x * b ^ p.length+dig b p.length (bQ p))
  rw [Pf,Int.pow_succ,Qm,Int.mul_comm b (b ^ p.length)]
  lia
theorem vB (b) (p):Eb b p=dig b p.length (bQ p):=by unfold Eb; rw [qN]; lia
theorem qO (k):∀ (m:Nat) (f:Nat→Int),(∀ i,m≤i→f i=0)→dig b (m+k) f=dig b m f * b ^ k
 | 0,f,h=>by
  rw [OT,iY (g:=fun _=>0) fun i _=>h i (Nu _),iZ]
  show 0=0 * b ^ k
  rw [Pc]
 | m+1,f,h=>by
  rw [show m+1+k=(m+k)+1 by lia]
  unfold dig
  rw [qO k m (fun i=>f (i+1)) fun i hi=>h (i+1) (by lia),Pf,Int.pow_add,Qm]
theorem Hx (h:p.length≤6):Eb b p * b ^ (6 - p.length)=pk b p:=by
 rw [vB,← qO (6 - p.length) p.length (bQ p) fun i hi=>cL hi]
 rw [show p.length+(6 - p.length)=6 by lia]
 rfl
theorem AM (hb:0<b) (h:∀ x∈p,0≤x∧x<b):0≤Eb b p∧Eb b p<b ^ p.length:=by
 rw [vB]
 exact g6 hb _ _ fun i hi=>by rw [c9 hi]; exact h _ (Nj _)
theorem Kp (hb:0<b) (h:Bd b p):0≤pk b p∧pk b p<b ^ 6:=g6 hb _ _ fun i _=>Fg hb h i
theorem two_pos (W):(0:Int)<2 ^ W:=Pe (by decide)
theorem gE (W):((2:Int) ^ W)=((2 ^ W:Nat):Int):=by rw [Int.natCast_pow]; rfl
theorem AN (hW:W≤10) (hn:n≤6):((2:Int) ^ W) ^ n≤2 ^ 60:=by
 rw [← Int.pow_mul,gE,gE]
 exact Int.ofNat_le.mpr (QO (by decide) (MT (Qj hW hn) (by decide)))
theorem vC (hW:W≤10) (hn:n≤6) (h0:0≤x) (h:x<((2:Int) ^ W) ^ n):x.natAbs<2 ^ 64:=by
 have:=AN hW hn
 have h60:(2:Int) ^ 60<2 ^ 64:=by decide
 have:x<((2 ^ 64:Nat):Int):=by rw [← gE]; lia
 lia
theorem xA (W) (h:0≤x):Builtin.bitAnd x (1 * 2 ^ W - 1)=x % 2 ^ W:=by
 have hp:=two_pos W
 have e0:(1:Int) * 2 ^ W - 1=((2 ^ W - 1:Nat):Int):=by
  have:0<2 ^ W:=Nat.pow_pos (by decide)
  rw [Ry,gE]; lia
 rw [e0]
 show (match decide (0≤x),decide (0≤((2 ^ W - 1:Nat):Int)) with
  | true,true=>(((x.toNat &&& (((2 ^ W - 1:Nat):Int)).toNat:Nat)):Int)
  | true,false=>_ | false,true=>_ | false,false=>_)=_
 rw [decide_eq_true h,decide_eq_true (Int.natCast_nonneg _)]
 show ((x.toNat &&& (2 ^ W - 1):Nat):Int)=_
 rw [Nat.and_two_pow_sub_one_eq_mod,gE,Int.natCast_emod,Int.toNat_of_nonneg h]
noncomputable def cu (p q:List Int):List Int:=(Ny (max p.length q.length)).map fun k=>bQ p k+bQ q k
noncomputable def dh (l r:aO):aO:=(cu l.1 r.1,l.2 * r.2)
noncomputable def aH (A B:List aO):List aO:=A.flatMap fun l=>B.map (dh l)
theorem i7 (p q):(cu p q).length=max p.length q.length:=by simp [cu]
theorem bV (p q) (i):bQ (cu p q) i=bQ p i+bQ q i:=by
 by_cases z:i<max p.length q.length
 ·rw [c9 (by rw [i7]; exact z)]; simp [cu]
 ·rw [cL (by rw [i7]; lia),cL (by lia),cL (by lia)]; rfl
theorem Ec (b) (p q):pk b (cu p q)=pk b p+pk b q:=by
 unfold pk
 rw [← vv]
 exact iY fun i _=>bV p q i
theorem fW (h:t∈aH A B):∃ l∈A,∃ r∈B,t=dh l r:=by
 unfold aH at h
 obtain ⟨l,hl,h⟩:=Q9.mp h
 obtain ⟨r,hr,rfl⟩:=Nk.mp h
 exact ⟨l,hl,r,hr,rfl⟩
theorem ny (A B) (l):aH (A++[l]) B=aH A B++B.map (dh l):=by
 unfold aH
 rw [List.flatMap_append,Q5,Sn,NR]
theorem cX (A B):(aH A B).length=A.length * B.length:=by
 induction A with
 | nil=>simp [aH]
 | cons a A ih =>
  unfold aH at *
  rw [Q5,Nr,ih,MO,Nl,Qp]
  lia
end EV
namespace EV
open PySem PySem.Spec PySem.Calls PyProof.Rows L2
theorem AO {K:MI}:∀ {kvs:List (Key×D)} {ys:List (Key×V)},ys.map (·.1)=kvs.map (·.1)→aq K H (kvs.map (·.2)) (ys.map (·.2))→lN K H kvs ys
 | [],[],_,_=>.nil
 | [],y::ys,h,_=>by simp at h
 | x::kvs,[],h,_=>by simp at h
 | x::kvs,y::ys,h,r=>by
  rw [MN,MN] at h r
  obtain ⟨v,t,e,r1,r2⟩:=aC.mp r
  injection e with e1 e2
  injection h with h1 h2
  subst e1 e2
  exact .cons ⟨h1.symm,r1⟩ (AO h2 r2)
section
variable {K:MI}
theorem Hy (h:aF c a ρ fun x=>aF c b ρ fun y=>∃ (kvs:List (Key×D)) (kk:Key) (d:D),x=.fdK (kvs.map (·.1)) (kvs.map (·.2))∧y.wH=some kk∧bh kvs kk=some d∧R d) (hs:CO b:=by with_unfolding_all exact fun _ _=>rfl):aF c (.Subscript a b pos) ρ R:=fun σ H Hf Q S q =>
 bF (uC c.hu cO cO hs) (h σ H Hf _ S fun x v H1 aI h1 r1 g1=>h1 σ H1 aI _ (S.ck g1) fun y u H2 cD ⟨kvs,kk,d,e1,e2,e3,hR⟩ r2 g2=>by
  subst e1
  obtain ⟨p,ys,o,rfl,k1,k2,k3⟩:=iF.mp r1
  have kv:=(AO k2 k3).mono g2.f
  have rel:=kv.val kk
  rw [e3] at rel
  rw [iO e2 r2]
  cases z:ko ys kk with
  | none=>rw [z] at rel; exact rel.elim
  | some v =>
   rw [z] at rel
   exact ⟨p,v,rfl,.inl ⟨ys,kk,.inr ⟨o,g2.b _ _ (g2.f _ _ k1)⟩,rfl,z.symm⟩,q d v H2 cD hR rel (g1.trans g2)⟩)
end
end EV
namespace EV
open PySem PySem.Spec PyProof.Rows L2
theorem qP {A:List aO} {l:List Int} {n:Int} {t:aO} (h:t∈putD A l n):t=(l,n)∨t∈A:=by
 unfold putD at h
 split at h
 ·obtain ⟨u,hu,e⟩:=Nk.mp h
  split at e
  ·rename_i q; subst e; exact .inl (by rw [q])
  ·subst e; exact .inr hu
 ·rcases Ng.mp h with q | q
  ·exact .inr q
  ·simp at q; exact .inl q
theorem Hz {A:List aO} (h:∀ t∈A,t.2.natAbs≤c) (l):((bh A l).getD 0).natAbs≤c:=by
 unfold bh
 cases e:A.find? (fun kv=>decide (kv.1=l)) with
 | none=>exact Nu _
 | some u=>exact h u (List.mem_of_find?_eq_some e)
theorem vD:∀ (ts A:List aO) (c:Nat),(∀ t∈A,t.2.natAbs≤c)→(∀ t∈ts,t.2.natAbs≤m)→∀ t∈ts.foldl fj A,t.2.natAbs≤c+ts.length * m
 | [],A,c,h,_,t,ht=>by simpa using h t ht
 | u::ts,A,c,h,g,t,ht=>by
  have:=vD (m:=m) ts (fj A u) (c+m) (fun t' ht'=>by
   rcases qP ht' with rfl | q
   ·have a:=Hz h (trim u.1)
    have b:=g u MW
    show ((bh A (trim u.1)).getD 0+u.2).natAbs≤c+m
    omega
   ·have:=h t' q; omega) (fun t h=>g t (MX _ h)) t ht
  rw [Nl,Qp]
  omega
theorem HA (h:∀ t∈ts,t.2.natAbs≤m):∀ t∈aG ts,t.2.natAbs≤ts.length * m:=fun t ht=>by
 have:=vD ts [] 0 (by simp) h t ht
 omega
theorem xB (l m:List Int):kC (n+1) (.tup (l.map D.int)) (.tup (m.map D.int)):=.tup fun i d e h1 h2=>by
 simp only [MS,MZ] at h1 h2
 obtain ⟨a,_,rfl⟩:=h1
 obtain ⟨b,_,rfl⟩:=h2
 exact .sc rfl
theorem qQ (x y):kC (n+2) (aM x) (aM y):=.tup fun i d e h1 h2=>by
 rcases i with _ | _ | i
 ·simp at h1 h2; subst h1 h2; exact xB _ _
 ·simp at h1 h2; subst h1 h2; exact .sc rfl
 ·simp at h1
theorem AQ (L M:List aO):kC (n+3) (.lst (L.map aM)) (.lst (M.map aM)):=.lst fun i d e h1 h2=>by
 simp only [MS,MZ] at h1 h2
 obtain ⟨a,_,rfl⟩:=h1
 obtain ⟨b,_,rfl⟩:=h2
 exact qQ a b
theorem AR (es):nR [] es:=fun i d e h _=>by simp at h
theorem nC (h:kC 40 d e) (t:nR ds es):nR (d::ds) (e::es):=fun i a b h1 h2=>by
 cases i with
 | zero=>simp at h1 h2; subst h1 h2; exact h
 | succ i=>exact t i a b (by simpa using h1) (by simpa using h2)
theorem xC (L M:List aO):nR (L.map aM) (M.map aM):=fun i d e h1 h2=>by
 simp only [MS,MZ] at h1 h2
 obtain ⟨a,_,rfl⟩:=h1
 obtain ⟨b,_,rfl⟩:=h2
 exact qQ a b
theorem lD (h:nR ds ds) (t:T true):CZ (.lst ds) (.lst ds) T:=C1 ⟨h,by rw [decide_eq_true rfl]; exact t⟩
section
variable {K:MI}
theorem int_mk (KX:K.In h) (G:h.Ns mainGlobals mg) (a:NJ K mainGlobals x=some (some (.int i tk))):∃ tk:Tok,mg x=some (.int i tk):=⟨tk,PySem.W.mg_of KX G a⟩
theorem vE {st:Stmt} (m:mg x=some (.ref f)) (Fu:fM K x x st f fd) (ok:bz P w K mg base (dR P w) k f fd ps (G8 K F))
 (hb:∀ (kV doc pm:Value) (an:Option Addr) (cdv ct:Value) (us:List Value),us.length=ps.length→bindArgs (Ow x x (dU st) (aB st) (af st) .none kV doc pm an cdv ct) ⟨us,[]⟩=pure (ps.zip us)):xg P w K mg base k x F :=
 ⟨f,fd,ps,m,Fu.kp,Fu.binds hb,ok⟩
end
theorem ic (h:n≤100000):n<sizeLine:=OM h (by decide)
theorem sY (h:n≤100000):n≤sizeLine:=OU (ic h)
structure AS (P:Program) (w:World) (K:MI) (mg:Str→Option Value) (base:Heap) (k:Nat) (f:Addr) (F:Fn):Prop where
 ex:∃ fd ps,Oq K (.ref f)=true∧Binds K fd ps []∧bz P w K mg base (dR P w) k f fd ps (gv K F)
section
variable {K:MI} {c:Ctx P w K mg base k N sc bk}
theorem dz.at_ (h:dz P w K mg base j x F):∃ f,mg x=some (.ref f)∧AS P w K mg base j f F:=by
 obtain ⟨f,fd,ps,a,b,c,d⟩:=h.ex
 exact ⟨f,a,fd,ps,b,c,d⟩
theorem HB (hm:mg x=some (.ref f)) (hR:R (.adr f)) (hg:sc.names.lookup x=some .globalImplicit:=by walk_at "u") (hd:(x == ("__debug__":Str))=false:=by decide) :
 aF c (.Name x pos) ρ R:=fun σ H Hf Q S q =>
 bF (uh (X:=c.X) (v:=.ref f) (u:=.ref f) (by unfold Gl Nz; rw [c.esc]; exact hg) (by rw [c.emg]; exact hm) rfl hd) (q _ _ H Hf hR (eB.mpr rfl) (.refl S.sb))
theorem AU (h:AS P w K mg base j f F) (hj:j≤k):Oq K (.ref f)=true ∧
 ∀ (aa:List (Addr×Obj)) (σ:L2.St) (H Hf:Hp) (s:Shared) (us:List Value) (vs:List V) (ds:List D) (r:Res) (Q:VK),Inv c.X aa σ H s→bg c σ H Hf ρ→Vals vs us→aq c.X.K Hf ds vs→F ds r →
  (∀ sl v H' aj,r=.ok sl→aS c.X.K (fun p=>H p=none) H' aj sl v→aZ H Hf H' aj→Q v H')→(∀ C,r=.ex C→c.RX C ρ)→wpAny (model c.X.prog c.X.w) c.X.A (call (.ref f) us) (EP c.X aa σ Q) c.X.xe s:=by
 obtain ⟨fd,ps,hk,hb,hF⟩:=h.ex
 refine ⟨hk,fun aa σ H Hf s us vs ds r Q I S rv rs hr q hx=>?_⟩
 have hF':bz c.X.prog c.X.w c.X.K c.X.mg c.X.base (dR c.X.prog c.X.w) k f fd ps (gv c.X.K F):=by rw [c.eP,c.ew,c.eK,c.emg,c.eb]; exact hF.mono hj
 have pe:gv c.X.K F vs H Q (fun cv ao H'=>∃ C,r=.ex C∧cv=.ref C∧aD H H'):=by
  refine ⟨Hf,ds,r,S.bas.b,rs,hr,?_⟩
  cases r with
  | ok sl=>exact fun v H' aj g rs2=>q sl v H' aj rfl rs2 g
  | ex C=>exact fun a H' s2=>⟨C,rfl,rfl,s2⟩
 have hl:us.length=ps.length:=by rw [← rv.length]; exact hF'.len _ _ _ _ pe
 have hb':Binds c.X.K fd ps []:=by rw [c.eK]; exact hb
 have hb2:=hb' s us I.nI (by simpa using hl)
 rw [NR] at hb2
 refine PU (PK (hF'.run c.X.A c.X.stack s H ⟨us,[]⟩ us vs Q _ c.room I.CD hb2 rv pe) fun r' s' hq=>?_)
 cases r' with
 | error e =>
  obtain ⟨a,C,H',rfl,hE,C',e1,e2,sm⟩:=hq
  cases e2
  exact c.exc C a aa σ H Hf ρ s H' s' I S (hx C e1) hE sm
 | ok fl =>
  cases fl with
  | ret u=>exact I.after hq
  | next=>exact NK hq
  | brk=>exact NK hq
  | cont=>exact NK hq
theorem j5 {R:Sl→Prop} (h:AS P w K mg base j f F) (hj:j≤k) (hN:At N i x) (hi:At ρ i (.va (.adr f)))
 (ha:pR c (e::es) ρ fun ds=>∃ r,F ds r∧GD c ρ R r)
 (hdb:(x == ("__debug__":Str))=false:=by decide) (hcd:(x == ("__classdict__":Str))=false:=by decide) (he:∀ env,starEach (e::es) env=(false,eval e env)::starEach es env:=by intro _; walk_at "u")
 (hpl:∀ env,(backTo pos (starEach es env)).any (·.1)=false:=by intro _; walk_at "u"):c6 c (.Call (.Name x p) (e::es) [] pos) ρ R:=fun σ H Hf Q S q aa s I=>by
 obtain ⟨hk,run⟩:=AU (c:=c) (ρ:=ρ) h hj
 obtain ⟨v0,e0,r0⟩:=S.va hi.get
 rw [eB] at r0
 subst r0
 refine Ol (bw (c.kF hN hdb hcd aa s σ H (fun v H1=>v=.ref f∧H1=H) I ⟨_,e0,rfl,rfl⟩) fun fv s1 ⟨v,H1,I1,rv,e1,e2⟩=>?_)
 subst e1 e2
 have ef:fv=.ref f:=rv
 subst ef
 refine QW (h₀:=c.X.base) I1.ok.mod.kin (by rw [c.eK]; exact hk) (bw (ha σ _ Hf (fun vs H1=>∃ aI ds,(∃ r,F ds r∧GD c ρ R r)∧aq c.X.K aI ds vs∧aZ _ Hf H1 aI) S (fun ds vs H1 aI hr rs g=>⟨aI,ds,hr,rs,g⟩) pos aa s1 I1) fun us s2 ⟨vs,H2,I2,rv,aI,ds,⟨r,hF,hR⟩,rs,g⟩=>⟨I2.nI,?_⟩) (he _) (hpl _)
 refine run aa σ H2 aI s2 us vs ds r Q I2 (S.ck g) rv rs hF (fun sl v H' aj e1 rs2 g2=>?_) fun C e1=>?_
 ·subst e1
  exact q sl v H' aj hR (rs2.weak fun p hp=>g.s.free hp) (g.trans g2)
 ·subst e1
  exact hR
end
end EV
namespace EV
open PySem PySem.Spec PySem.Calls PyProof.Rows L2
section
theorem xD (hc:X.calm=true) (I:Inv X aa σ H s) (sb:aD Hf H) (hv:s.heap.IsItemsView v d) (hH:Hf d=some (.frz o u)) (hd:HO.dct u) (hp:Paired (mS X.K Hf) ds (bJ u))
 (hQ:∀ (a:Addr) (s':Shared) (H' aj:Hp) (xs:List V),Inv X aa σ H' s'→H' a=some (.lst xs)→H a=none→aj a=none→aq X.K aj ds xs→aZ H Hf H' aj→Q (.ref a) s'):wpAny (model X.prog X.w) X.A (call (.type "list") [.ref v]) Q E s:=by
 obtain ⟨ho,ok⟩:=(show aX X.prog X.w H s.heap d (.frz o u) from I.hok d _ (sb _ _ hH))
 obtain ⟨_,_,_,_,_,_,hz⟩:=cE ok hd ho
 have h1:X.A.in1.handled=none:=I.ok.hd hc
 have h2:X.A.in1.frames=some X.stack:=I.ok.frames
 refine callType_codes (Q₁:=fun obj s₁=>obj=.ref s.heap.objs.size∧s₁={ s with heap:=s.heap.push { cls:=.type "list",data:=.seq #[] } }) F.called_list (F.typeCall_list_1 _) F.entry_list_init
  (code_list_new _ ⟨rfl,rfl⟩) fun obj s₁ h₁=>?_
 obtain ⟨rfl,rfl⟩:=h₁
 have hS:(s.heap.push { cls:=.type "list",data:=.seq #[] }).get? s.heap.objs.size=some { cls:=.type "list",data:=.seq #[] }:=M3 _ rfl
 refine ⟨⟨_,hS,rfl⟩,F.args_list_init_2 _ _,?_⟩
 show wpAny _ X.A.in1.in1 (do let old ← P5 (.ref s.heap.objs.size); OJ (.ref s.heap.objs.size) (fun _=> #[]); letGo old.toList.reverse; QA (.ref s.heap.objs.size) (.ref v) .none) _ _ _
 refine MG (Qo hS rfl ?_)
 have HS:H s.heap.objs.size=none:=I.hok.fresh (ML _)
 have I1:Inv X aa σ (upd H s.heap.objs.size (.lst [])) { s with heap:=s.heap.push { cls:=.type "list",data:=.seq ([]:List Value).toArray },toks:=s.toks }:=I.CL (t':=s.toks) (ys:=[]) (its:=[]) .nil (Nu _)
 refine MG (Oc hS rfl ?_)
 have I2:=I1.sd (f:=fun _=>(#[]:Array Value)) (its':=[]) (ys:=[]) (t':=s.toks) ah (n:=0) hS (by simp) .nil (Nu _)
 rw [nG] at I2
 refine MG (Rv ?_)
 have k1:∀ b o,s.heap.get? b=some o→((s.heap.push { cls:=.type "list",data:=.seq ([]:List Value).toArray }).update s.heap.objs.size (Nn fun _=>(#[]:Array Value))).get? b=some o:=fun b o e=>by
  rw [OL _ _ _ _ (Nh (MR e))]
  exact MQ _ e
 have up:∀ s':Shared,(∀ b o,s.heap.get? b=some o→s'.heap.get? b=some o)→s'.heap.IsItemsView v d:=fun s' k=>by obtain ⟨q,q1,q2⟩:=hv; exact ⟨q,k _ _ q1,q2⟩
 have hne:s.heap.objs.size≠v:=PM (by obtain ⟨_,q,_⟩:=hv; exact MR q)
 have g0:aZ H Hf (upd H s.heap.objs.size (.lst [])) Hf:=aZ.fN sb HS
 refine ng (X:=DM X X.A.in1) (T:="dict_items") (ds:=ds) (H:=H) (Hf:=Hf) (R:=wants (fun r s₂=>r=.none∧Q (.ref s.heap.objs.size) s₂) E) hc h1 h2 (jm I2 (fun _=>h1) h2) sb HS hne ?_ (by rw [N4 hp]; exact hz) (by decide) (fun s' k=>(up s' fun b o e=>k b o (k1 b o e)).typeIs) (fun A s' Q E q h=>wZ q h) ?_ fun s' H' aj xs I' hS' hfS hr g=>⟨rfl,hQ _ s' H' aj xs (fS I.ok I') hS' HS hfS hr g⟩
 ·show _<(Heap.update _ _ _).objs.size
  rw [So]
  show _<(Heap.push _ _).objs.size
  rw [OQ]; exact O7 _
 ·refine Nv (DO (X:=DM X X.A.in1) (tg:=.Name "x" ⟨0,0,0,0⟩) (jm I2 (fun _=>h1) h2) (up _ k1) (g0.b _ _ hH) hd) (fun itv s2 hh=>z3 hh fun it es ep hh=>w7 hh fun e hit I3 Tn t0 hf k2=>?_) fun _ _ x=>x
  exact ⟨it,_,_,e,hit,I3,Tn,t0,hf,k2,sL hH hp⟩
end
section
variable {K:MI} {c:Ctx P w K mg base k N sc bk}
theorem qR (hm:mg "list"=none) (h:aF c e ρ fun d=>∃ ds,d.pairs=some ds∧R (.ow ds)) (hg:sc.names.lookup (MH "list")=some .globalImplicit:=by walk_at "u")
 (hb:∀ env,attributeBase e "items" env (eval e env)=eval e env:=by intro _; walk_at "u") (hl:(ap.endLine == cp.line)=true:=by walk_at "u") :
 c6 c (.Call (.Name "list" np) [.Call (.Attribute e "items" ap) [] [] cp] [] pos) ρ R:=fun σ H Hf Q S q aa s I=>by
 have hgl:Gl c.X "list":=by unfold Gl Nz; rw [c.esc]; exact hg
 refine Ol (c7 I hgl (by rw [c.emg]; exact hm) (show bootBuiltins "list"=some (.type "list") by decide +kernel) ?_ (by decide) (by decide))
 have hpa:=bL (X:=c.X) (e:=.Call (.Attribute e "items" ap) [] [] cp) (es:=[]) (An cO (hb _) hl) c8 (by rfl)
 refine P0 (bw (hpa pos aa s σ H (fun vs H1=>∃ x,vs=[x]∧∃ (v d:Addr) (o:Obj) (u:HO) (ds:List D) (H0 Cs:Hp),x=.ref v∧H1=upd H0 v (.ext fun h=>h.IsItemsView v d)∧H0 v=none∧Cs d=some (.frz o u)∧HO.dct u∧Paired (mS c.X.K Cs) ds (bJ u)∧aZ H Hf H0 Cs∧R (.ow ds)) I ?_) fun us s1 hh=>z2 hh fun vs H1 hh=>w3 hh fun I1 r1 hh=>hh.elim fun x hh=>w2 hh fun ex hh=>z4 hh fun v d o u hh=>z3 hh fun ds H0 Cs hh=>w8 hh fun e1 e2 e3 e4 e5 e6 e8 e9=>?_) (by rfl) (by rfl)
 ·exact h σ H Hf _ S fun d v H1 aI ⟨ds,hp,hR⟩ rv g=>by
   obtain ⟨a,o,u,e1,e2,e3,e4⟩:=wQ hp rv
   exact ⟨a,o,u,e1,g.b _ _ e2,e3,fun vw hv=>⟨_,rfl,vw,a,o,u,ds,H1,aI,rfl,rfl,hv,e2,e3,e4,g,hR⟩⟩
 ·subst ex e1 e2
  have eu:us=[.ref v]:=by
   cases r1 with
   | cons q1 q2=>cases q2; cases q1; rfl
  subst eu
  have g1:aZ H0 Cs (upd H0 v (.ext fun h=>h.IsItemsView v d)) Cs:=aZ.fN e8.b e3
  obtain ⟨hvw,_⟩:=(show aX c.X.prog c.X.w _ s1.heap v (.ext fun h=>h.IsItemsView v d) from I1.hok v _ ah)
  refine xD c.calm I1 g1.b hvw e4 e5 e6 fun a s' H' aj xs I' hS' na yk hr g=>?_
  have gg:=(e8.trans g1).trans g
  exact ⟨.ref a,H',I',rfl,q (.ow ds) _ _ aj e9 ⟨a,xs,rfl,e8.s.free (g1.s.free na),hS',yk,hr⟩ gg⟩
end
section
theorem AV {K:MI}:∀ {ds:List D} {xs:List V} {us:List Value},aq K Hf ds xs→Vals xs us→Paired (fun d u=>jJ K Hf d u) ds us
 | [],xs,us,h,v=>by rw [ay] at h; subst h; cases v; exact .nil
 | t::L,xs,us,h,v=>by
  obtain ⟨x,r,rfl,h1,h2⟩:=aC.mp h
  cases v with
  | cons r1 r2=>exact .cons ⟨x,r1,h1⟩ (AV h2 r2)
theorem AW {K:MI}:∀ {ds:List D} {us:List Value},Paired (fun d u=>jJ K Hf d u) ds us→∃ xs,aq K Hf ds xs∧Vals xs us
 | _,_,.nil=>⟨[],ay.mpr rfl,.nil⟩
 | _,_,.cons ⟨x,r1,h1⟩ t=>by
  obtain ⟨xs,h2,h3⟩:=AW t
  exact ⟨x::xs,.cons h1 h2,.cons r1 h3⟩
theorem sZ (hc:X.calm=true) (I:Inv X aa σ H s) (sb:aD Hf H) (hl:gu X.K Hf l ys) (hr:aq X.K Hf ds ys) (hd:∀ d∈ds,∃ es,d=.lst es)
 (hQ:∀ (ds':List D) (xs':List V) (s':Shared) (a:Addr),ds'.Perm ds→aq X.K Hf ds' xs'→H a=none→Inv X aa σ (upd H a (.lst xs')) s'→Q (.ref a) s') :
 wpAny (model X.prog X.w) X.A (call (.builtin "sorted") [.ref l] [(MH "key",.builtin "len")]) Q E s:=by
 refine call_function_entry_kw kind_sorted plain_sorted entry_sorted (SR.jI _ _) ?_
 unfold Builtin.«sorted»
 refine MG (m:=checkCount "sorted" 1 1 _) (MJ ?_)
 obtain ⟨its,rv,p,hz⟩:=I.list (sb.seq hl)
 have el:=rv.length
 refine MG (collect_list p.isList ?_ (by lia))
 have I2:Inv X aa σ H { s with heap:=(s.heap.push (seqObj "list" #[] 0)).update s.heap.objs.size (Nn (· ++its.toArray)),toks:=s.toks }:=I.kept fun c o e=>by
  rw [OL _ _ _ _ (Nh (MR e))]
  exact MQ _ e
 generalize (s.heap.push (seqObj "list" #[] 0)).update s.heap.objs.size (Nn (· ++its.toArray))=h0 at I2 ⊢
 refine MG (Qk ?_ (by lia))
 have ha:(h0.push (seqObj "list" its.toArray 0)).get? h0.objs.size=some (seqObj "list" its.toArray 0):=M3 _ rfl
 have Ha:H h0.objs.size=none:=I2.hok.fresh (ML _)
 have k2:∀ b o,h0.get? b=some o→(h0.push (seqObj "list" its.toArray 0)).get? b=some o:=fun b o e=>MQ _ e
 have I3:Inv X aa σ H { s with heap:=h0.push (seqObj "list" its.toArray 0),toks:=s.toks }:=I2.kept (t':=s.toks) k2
 have pL:=AV hr rv
 refine MG (NX (RW slot_list_sort ⟨_,ha,rfl⟩ entry_list_sort (SR.Ak ha (by lia) (fun v hv=>?_) fun out h' tk e hp he hk=>⟨_,rfl,?_⟩) (SR.gX _ _)))
 ·obtain ⟨d,hd',x,r1,h1⟩:=SR.gW pL v hv
  obtain ⟨es,rfl⟩:=hd d hd'
  obtain ⟨b,zs,rfl,q1,q2⟩:=aR.mp h1
  cases r1
  obtain ⟨its',rv',p',hz'⟩:=I3.list (sb.seq q1)
  have e':=rv'.length
  refine ⟨b,its'.toArray,rfl,?_,p'.isList,by simp only [M7]; lia⟩
  rintro rfl
  obtain ⟨_,_,p2,_⟩:=I2.list (sb.seq q1)
  obtain ⟨o,q,_⟩:=p2.isList
  exact Oh _ (MR q)
 ·obtain ⟨ds',p1,p2⟩:=SR.fR hp pL
  obtain ⟨xs',r',v'⟩:=AW p2
  have hlen:out.toList.length=its.length:=hp.length_eq
  refine MJ ⟨_,rfl,hQ ds' xs' _ _ p1 r' Ha ?_⟩
  refine I2.laid (t':=tk) (a:=h0.objs.size) (fun b o q=>hk b o (Nh (MR q)) (k2 b o q)) (ML _) ⟨by have:=v'.length; lia,out.toList,e,v',by simpa using he⟩
end
section
variable {K:MI} {c:Ctx P w K mg base k N sc bk}
theorem xE (hm:mg "sorted"=none) (hml:mg "len"=none) (h:aF c e ρ fun d=>∃ ds,d=.lst ds∧Sd (∀ x∈ds,∃ es,x=.lst es) (∀ ds':List D,ds'.Perm ds→R (.ow ds')))
 (hg:sc.names.lookup (MH "sorted")=some .globalImplicit:=by walk_at "u") (hgl:sc.names.lookup (MH "len")=some .globalImplicit:=by walk_at "u")
 (he:∀ env,starEach [e] env=(false,eval e env)::starEach [] env:=by intro _; walk_at "u")
 (hpl:∀ env,(backTo pos (starEach [e] env)).any (·.1)=false:=by intro _; walk_at "u") :
 c6 c (.Call (.Name "sorted" np) [e] [⟨some "key",.Name "len" kp1,kp⟩] pos) ρ R:=fun σ H Hf Q S q aa s I=>by
 have hgs:Gl c.X "sorted":=by unfold Gl Nz; rw [c.esc]; exact hg
 have hgl':Gl c.X "len":=by unfold Gl Nz; rw [c.esc]; exact hgl
 refine Ol (c7 I hgs (by rw [c.emg]; exact hm) (show bootBuiltins "sorted"=some (.builtin "sorted") by decide +kernel) ?_ (by decide) (by decide))
 refine callWith_kw ?_ (by rw [he]; rfl) (hpl _)
 have hpa:=bL (X:=c.X) (e:=e) (es:=[]) cO c8 (he _)
 refine bw (hpa pos aa s σ H (fun vs H1=>∃ x,vs=[x]∧∃ (ds:List D) (aI:Hp),Rep c.X.K aI (.lst ds) x∧(∀ x∈ds,∃ es,x=.lst es)∧aZ H Hf H1 aI∧∀ ds':List D,ds'.Perm ds→R (.ow ds')) I ?_) fun us s1 hh=>z2 hh fun vs H1 hh=>w3 hh fun I1 r1 hh=>hh.elim fun x hh=>w2 hh fun ex hh=>z2 hh fun ds aI hh=>w4 hh fun e1 e7 e8 e9=>?_
 ·exact h σ H Hf _ S fun d v H1 aI ⟨ds,hp,⟨hn,hR⟩⟩ rv g=>⟨_,rfl,ds,aI,by rw [← hp]; exact rv,hn,g,hR⟩
 ·subst ex
  obtain ⟨a0,ys,rfl,hs,hr⟩:=aR.mp e1
  have eu:us=[.ref a0]:=by
   cases r1 with
   | cons q1 q2=>cases q2; cases q1; rfl
  subst eu
  refine kws_cons (c7 I1 hgl' (by rw [c.emg]; exact hml) (show bootBuiltins "len"=some (.builtin "len") by decide +kernel) ?_ (by decide) (by decide))
  refine kws_nil ?_
  exact sZ c.calm I1 e8.b hs hr e7 fun ds' xs' s' a p1 p3 na I3=>⟨.ref a,_,I3,rfl,q (.ow ds') _ _ aI (e9 ds' p1) ⟨a,xs',rfl,e8.s.free na,ah,e8.b.free na,p3⟩ (e8.trans (aZ.fN e8.b na))⟩
end
mutual
def Sh.d:Sh→D
 | .v d=>d
 | .l ds=>.lst ds
 | .la _ ds=>.lst ds
 | .t ss=>.tup (Sh.ds ss)
 | .ls ss=>.lst (Sh.ds ss)
def Sh.ds:List Sh→List D
 | []=>[]
 | s::ss=>s.d::Sh.ds ss
end
section
variable {K:MI} {H Hf H' aj:Hp}
noncomputable abbrev Fp:=List (Addr×List V)
mutual
theorem aW.fz:∀ (s:Sh) {v:V} {fp:Fp},aW K H Hf s v fp→∀ a∈fp,H a.1=some (pl a.1 a.2)∧Hf a.1=none
 | .v d,_,_,h=>by simp only [aW] at h; obtain ⟨_,rfl⟩:=h; intro a ha; cases ha
 | .l ds,_,_,h=>by
  simp only [aW] at h
  obtain ⟨p,xs,e,h1,h2,h3,rfl⟩:=h
  intro a ha
  obtain rfl:=M4.mp ha
  exact ⟨h1,h2⟩
 | .la p ds,_,_,h=>by
  simp only [aW] at h
  obtain ⟨xs,e,h1,h2,h3,rfl⟩:=h
  intro a ha
  obtain rfl:=M4.mp ha
  exact ⟨h1,h2⟩
 | .t ss,_,_,h=>by
  simp only [aW] at h
  obtain ⟨a,xs,e,h1,h2⟩:=h
  exact aA.fz ss h2
 | .ls ss,_,_,h=>by
  simp only [aW] at h
  obtain ⟨p,xs,fq,e,h1,h2,h3,rfl⟩:=h
  intro a ha
  rcases M0.mp ha with rfl | ha
  ·exact ⟨h1,h2⟩
  ·exact aA.fz ss h3 a ha
theorem aA.fz:∀ (ss:List Sh) {xs:List V} {fp:Fp},aA K H Hf ss xs fp→∀ a∈fp,H a.1=some (pl a.1 a.2)∧Hf a.1=none
 | [],_,_,h=>by simp only [aA] at h; obtain ⟨_,rfl⟩:=h; intro a ha; cases ha
 | s::ss,_,_,h=>by
  simp only [aA] at h
  obtain ⟨x,r,f1,f2,e,h1,h2,rfl⟩:=h
  intro a ha
  rcases Ng.mp ha with ha | ha
  ·exact aW.fz s h1 a ha
  ·exact aA.fz ss h2 a ha
end
mutual
theorem aW.rep (sf:aD Hf aj):∀ (s:Sh) {v:V} {fp:Fp},(∀ a∈fp,aj a.1=some (.lst a.2))→aW K H Hf s v fp→Rep K aj s.d v
 | .v d,_,_,_,h=>by simp only [aW] at h; exact h.1.mono sf d
 | .l ds,_,_,hk,h=>by
  simp only [aW] at h
  obtain ⟨p,xs,e,h1,h2,h3,rfl⟩:=h
  exact aR.mpr ⟨p,xs,e,.inl (.inl (hk _ MW)),h3.mono sf ds⟩
 | .la p ds,_,_,hk,h=>by
  simp only [aW] at h
  obtain ⟨xs,e,h1,h2,h3,rfl⟩:=h
  exact aR.mpr ⟨p,xs,e,.inl (.inl (hk _ MW)),h3.mono sf ds⟩
 | .t ss,_,_,hk,h=>by
  simp only [aW] at h
  obtain ⟨a,xs,e,h1,h2⟩:=h
  exact aE.mpr ⟨a,xs,e,au sf h1,aA.rep sf ss hk h2⟩
 | .ls ss,_,_,hk,h=>by
  simp only [aW] at h
  obtain ⟨p,xs,fq,e,h1,h2,h3,rfl⟩:=h
  exact aR.mpr ⟨p,xs,e,.inl (.inl (hk _ MW)),aA.rep sf ss (fun a ha=>hk a (MX _ ha)) h3⟩
theorem aA.rep (sf:aD Hf aj):∀ (ss:List Sh) {xs:List V} {fp:Fp},(∀ a∈fp,aj a.1=some (.lst a.2))→aA K H Hf ss xs fp→aq K aj (Sh.ds ss) xs
 | [],_,_,_,h=>by simp only [aA] at h; exact ay.mpr h.1
 | s::ss,_,_,hk,h=>by
  simp only [aA] at h
  obtain ⟨x,r,f1,f2,e,h1,h2,rfl⟩:=h
  exact aC.mpr ⟨x,r,e,aW.rep sf s (fun a ha=>hk a (O3 _ ha)) h1,aA.rep sf ss (fun a ha=>hk a (N2 _ ha)) h2⟩
end
noncomputable def jK (H:Hp) (fp:Fp):Hp:=fun a=>if a∈fp.map (·.1) then none else H a
noncomputable def gK (g:Addr→List V→HO):Fp→Hp→Hp
 | [],H=>H
 | p::fp,H=>upd (gK g fp H) p.1 (g p.1 p.2)
noncomputable def AX:Addr→List V→HO:=fun _ xs=>.lst xs
theorem eU (h:a∉fp.map (·.1)):jK H fp a=H a:=if_neg h
theorem j6 (h:a∈fp.map (·.1)):jK H fp a=none:=if_pos h
theorem aQ:∀ {fp:Fp},a∉fp.map (·.1)→gK g fp H a=H a
 | [],_=>rfl
 | p::fp,h=>by
  rw [MN,M0,not_or] at h
  show upd _ _ _ a=_
  rw [ak h.1,aQ h.2]
theorem fk:∀ {fp:Fp},(fp.map (·.1)).Nodup→∀ a∈fp,gK g fp H a.1=some (g a.1 a.2)
 | p::fp,nd,a,ha=>by
  rw [MN,N8] at nd
  show upd _ _ _ a.1=_
  rcases M0.mp ha with rfl | ha
  ·exact ah
  ·rw [ak fun e=>nd.1 (by rw [← e]; exact Nk.mpr ⟨a,ha,rfl⟩)]
   exact fk nd.2 a ha
theorem cy {fp:Fp} (h:a∈fp.map (·.1)):∃ p∈fp,p.1=a:=Nk.mp h
theorem AY (nd:(fp.map (·.1)).Nodup) (hz:∀ a∈fp,H a.1=some (pl a.1 a.2)∧Hf a.1=none) (g:aZ (gK AX fp H) (gK AX fp Hf) H' aj):aZ H Hf (gK pl fp H') (jK aj fp):=by
 refine ⟨fun b o e=>?_,fun b o e=>?_,fun b o e=>?_,fun b h1 h2 h3=>?_⟩
 ·by_cases m:b∈fp.map (·.1)
  ·obtain ⟨p,hp,rfl⟩:=cy m
   rw [fk nd p hp,← (hz p hp).1]; exact e
  ·rw [aQ m]; exact g.s b o (by rw [aQ m]; exact e)
 ·have m:b∉fp.map (·.1):=fun m=>by obtain ⟨p,hp,rfl⟩:=cy m; rw [(hz p hp).2] at e; cases e
  rw [eU m]; exact g.f b o (by rw [aQ m]; exact e)
 ·by_cases m:b∈fp.map (·.1)
  ·rw [j6 m] at e; cases e
  ·rw [eU m] at e; rw [aQ m]; exact g.b b o e
 ·by_cases m:b∈fp.map (·.1)
  ·exact j6 m
  ·rw [eU m]; exact g.n b (by rw [aQ m]; exact h1) (by rw [aQ m]; exact h2) fun xs=>by rw [aQ m]; exact h3 xs
end
section
theorem Fi:aX P w H h p (pl p xs)↔aX P w H h p (.lst xs):=by
 constructor
 ·exact fun q=>q.1
 ·rintro ⟨z,its,n,r,e⟩
  exact ⟨⟨z,its,n,r,e⟩,⟨_,e⟩,fun h1 h2 ⟨z,its,n,r,e⟩ k=>⟨z,its,n,r,k _ e⟩⟩
theorem tu (I:Inv X aa σ H s) (h:H a=some (.lst xs)):Inv X aa σ (upd H a (pl a xs)) s :=
 n6 I h (by intro _ z; cases z) (by intro _ z; cases z) (by intro _ z; cases z) (fun o z e=>by have q:=I.base.frzs a o z e; rw [h] at q; cases q) (Fi.mpr (I.hok a _ h))
theorem AZ (I:Inv X aa σ H s) (h:H a=some (pl a xs)):Inv X aa σ (upd H a (.lst xs)) s :=
 n6 I h (by intro _ z; cases z) (by intro _ z; cases z) (by intro _ z; cases z) (fun o z e=>by have q:=I.base.frzs a o z e; rw [h] at q; cases q) (Fi.mp (I.hok a _ h))
theorem lE (I:Inv X aa σ H s):∀ {fp:Fp},(fp.map (·.1)).Nodup→(∀ a∈fp,H a.1=some (pl a.1 a.2))→Inv X aa σ (gK AX fp H) s
 | [],_,_=>I
 | p::fp,nd,h=>by
  rw [MN,N8] at nd
  exact AZ (lE I nd.2 fun a ha=>h a (MX _ ha)) (by rw [aQ nd.1]; exact h p MW)
theorem qS (I:Inv X aa σ H s):∀ {fp:Fp},(fp.map (·.1)).Nodup→(∀ a∈fp,H a.1=some (.lst a.2))→Inv X aa σ (gK pl fp H) s
 | [],_,_=>I
 | p::fp,nd,h=>by
  rw [MN,N8] at nd
  exact tu (qS I nd.2 fun a ha=>h a (MX _ ha)) (by rw [aQ nd.1]; exact h p MW)
end
inductive IW:List Sl→Prop where
 | nil:IW []
 | cons {r:Sl} {l:List Sl} (h:r.JD=false):IW l→IW (r::l)
inductive jL:List Sl→Nat→Sh→Prop where
 | z {s:Sh} {l:List Sl}:IW l→jL (.fo s::l) 0 s
 | s {r:Sl} {l:List Sl} {i:Nat} {s:Sh} (h:r.JD=false):jL l i s→jL (r::l) (i+1) s
theorem IW.get (h:IW l):∀ {j:Nat} {r:Sl},l[j]?=some r→r.JD=false:=by
 induction h with
 | nil=>intro j r e; simp at e
 | cons h _ ih =>
  intro j r e
  cases j with
  | zero=>simp at e; subst e; exact h
  | succ j=>exact ih (by simpa using e)
theorem jL.at_ {l:List Sl} {i:Nat} {s:Sh} (h:jL l i s):l[i]?=some (.fo s)∧∀ {j:Nat} {r:Sl},j≠i→l[j]?=some r→r.JD=false:=by
 induction h with
 | z h =>
  refine ⟨rfl,fun {j r} hj e=>?_⟩
  cases j with
  | zero=>exact absurd rfl hj
  | succ j=>exact h.get (by simpa using e)
 | s h _ ih =>
  refine ⟨by simpa using ih.1,fun {j r} hj e=>?_⟩
  cases j with
  | zero=>simp at e; subst e; exact h
  | succ j=>exact ih.2 (fun z=>hj (congrArg (· +1) z)) (by simpa using e)
section
variable {K:MI}
theorem cR.Kq (S:cR K H₀ dB σ H Hf ρ) (h:jL ρ i s) :
 ∃ fp:Fp,(fp.map (·.1)).Nodup∧(∀ a∈fp,H a.1=some (pl a.1 a.2)∧Hf a.1=none)∧cR K H₀ dB σ (gK AX fp H) (gK AX fp Hf) (ρ.set i (.va s.d)):=by
 obtain ⟨hi,ho⟩:=h.at_
 obtain ⟨v,ev,fp,rf,nd,hfr⟩:=S.at_ i _ hi (by intro z; cases z)
 have hz:=aW.fz s rf
 have hlt:i<ρ.length:=(MU.mp hi).1
 have none_in:∀ {b:Addr} {o:HO},Hf b=some o→b∉fp.map (·.1):=fun e m=>by obtain ⟨p,hp,rfl⟩:=cy m; rw [(hz p hp).2] at e; cases e
 have fr_in:∀ {b:Addr},b∈fp.map (·.1)→H₀ b=none:=fun m=>by obtain ⟨p,hp,rfl⟩:=cy m; exact hfr p hp
 have sf:aD Hf (gK AX fp Hf):=fun b o e=>by rw [aQ (none_in e)]; exact e
 refine ⟨fp,nd,hz,⟨⟨fun b o e=>?_,S.bas.f.trans sf,fun b o e=>?_,fun b h1 h2 h3=>?_⟩,by simp [S.len],fun j r hj hu=>?_,fun j j' r r' q hne h1 h2 o1 o2=>?_⟩⟩
 ·rw [aQ fun m=>by rw [fr_in m] at e; cases e]; exact S.bas.s b o e
 ·by_cases m:b∈fp.map (·.1)
  ·obtain ⟨p,hp,rfl⟩:=cy m
   rw [fk nd p hp] at e ⊢; exact e
  ·rw [aQ m] at e ⊢; exact S.sb b o e
 ·rw [aQ fun m=>h2 (fr_in m)]; exact S.bas.n b h1 h2 h3
 ·by_cases q:j=i
  ·subst q
   rw [NU hlt] at hj
   cases hj
   exact ⟨v,ev,aW.rep sf s (fun a ha=>fk nd a ha) rf⟩
  ·rw [NV (M8 q)] at hj
   obtain ⟨v,e1,e2⟩:=S.at_ j r hj hu
   refine ⟨v,e1,aS.mv (B:=fun a=>a∈fp.map (·.1)) sf (fun a o hm e1 _ e3=>⟨by rw [aQ hm]; exact e1,by rw [aQ hm]; exact e3⟩) (fun hf=>by rw [ho q hj] at hf; cases hf) (fun ow a e m=>?_) e2⟩
   subst e
   obtain ⟨_,_,e,_,_,_,nf⟩:=e2.pZ ow
   cases e
   obtain ⟨p,hp,rfl⟩:=cy m
   exact nf ⟨p.2,(hz p hp).1⟩
 ·have out:∀ {j:Nat} {r:Sl},(ρ.set i (.va s.d))[j]?=some r→r.owned=true→ρ[j]?=some r:=fun {j r} hj ho=>by
   by_cases q:j=i
   ·subst q; rw [NU hlt] at hj; cases hj; cases ho
   ·rw [NV (M8 q)] at hj; exact hj
  exact S.sep j j' r r' q hne (out h1 o1) (out h2 o2) o1 o2
end
section
variable {K:MI}
theorem HC (i) (h1:jL ρ i s) (hs:SSet ρ i (.va s.d) ρ') (h:jg c e ρ' T):jg c e ρ T:=fun σ H Hf Q S q aa s' I=>by
 obtain ⟨fp,nd,hz,S1⟩:=S.Kq h1
 rw [← hs.eq] at S1
 refine bw (h σ _ _ (fun b H'=>∃ aj,T b∧aZ (gK AX fp H) (gK AX fp Hf) H' aj) S1 (fun b H' aj rd g=>⟨aj,rd,g⟩) aa s' (lE I nd fun a ha=>(hz a ha).1)) fun b s1 ⟨H1,I1,aI,rd,g⟩=>?_
 have hL:∀ a∈fp,H1 a.1=some (.lst a.2):=fun a ha=>g.s _ _ (fk nd a ha)
 exact ⟨_,qS I1 nd hL,q b _ (jK aI fp) rd (AY nd hz g)⟩
theorem Ed {R:Sl→Prop} (h:c6 c e ρ fun r=>∃ ds,r=.ow ds∧R (.fo (.l ds))):c6 c e ρ R:=fun σ H Hf Q S q aa s I=>by
 refine bw (h σ H Hf (fun v H'=>∃ ds aj,aS c.X.K (fun p=>H p=none) H' aj (.ow ds) v∧aZ H Hf H' aj∧R (.fo (.l ds))) S (fun r v H' aj ⟨ds,e,hR⟩ rs g=>⟨ds,aj,by rw [← e]; exact rs,g,hR⟩) aa s I) fun u s1 hh=>z2 hh fun v H1 hh=>w3 hh fun I1 rv hh=>z2 hh fun ds aI hh=>w3 hh fun hh g hR=>z2 hh fun a xs hh=>w5 hh fun ev fa h1 h2 h3=>?_
 subst ev
 exact ⟨_,_,tu I1 h1,rv,q (.fo (.l ds)) _ _ aI hR ⟨[(a,xs)],by simp only [aW]; exact ⟨a,xs,rfl,ah,h2,h3,rfl⟩,by simp,fun b hb=>by obtain rfl:=M4.mp hb; exact fa⟩ (nX g fa h2)⟩
noncomputable def Sl.sh:Sl→Option Sh | .va d=>some (.v d) | .fo s=>some s | _=>none
theorem HD {H H' aj:Hp} (e:r.sh=some s) (h:aS K (fun p=>H p=none) H' aj r v):∃ fp,aW K H' aj s v fp∧(fp.map (·.1)).Nodup∧∀ a∈fp,H a.1=none:=by
 cases r with
 | va d=>cases e; exact ⟨[],by simp only [aW]; exact ⟨h,trivial⟩,by simp,by intro a ha; cases ha⟩
 | fo s=>cases e; exact h
 | _=>cases e
noncomputable def Ef (c:Ctx P w K mg base k N sc bk) (es:List Expr) (ρ:List Sl) (R:List Sh→Prop):Prop :=
 ∀ (σ:L2.St) (H Hf:Hp) (Q:List V→Hp→Prop),bg c σ H Hf ρ→(∀ ss vs fp H' aj,R ss→aA c.X.K H' aj ss vs fp→(fp.map (·.1)).Nodup→(∀ a∈fp,H a.1=none)→aZ H Hf H' aj→Q vs H')→bA c.X es σ H Q
theorem Kr {R:List Sh→Prop} (h:R []):Ef c [] ρ R:=fun σ H Hf Q S q=>mH c8 (q [] [] [] H Hf h (by simp [aA]) List.nodup_nil (by intro a ha; cases ha) (.refl S.sb))
theorem oJ {R:List Sh→Prop} (h:c6 c e ρ fun r=>∃ s,r.sh=some s∧Ef c es ρ fun ss=>R (s::ss)) (hs:∀ env,starEach (e::es) env=(false,eval e env)::starEach es env:=by intro _; walk_at "u"):Ef c (e::es) ρ R:=fun σ H Hf Q S q =>
 mH (bL cO CV (hs _)) (h σ H Hf _ S fun r v H1 aI ⟨s,es,h1⟩ rs g1=>by
  obtain ⟨f1,r1,n1,fr1⟩:=HD es rs
  have z1:=aW.fz s r1
  refine h1 σ H1 aI _ (S.ck g1) fun ss vs fp H2 cD h2 r2 n2 fr2 g2=>q (s::ss) (v::vs) (f1++fp) H2 cD h2 ?_ ?_ ?_ (g1.trans g2)
  ·simp only [aA]
   refine ⟨v,vs,f1,fp,rfl,aW.mv g2.f s (fun a _ e1 e2=>⟨g2.s _ _ e1,g2.n a.1 e2 (by rw [e1]; simp) (by intro ys z; rw [e1] at z; cases z)⟩) r1,r2,rfl⟩
  ·rw [Nt,Q4]
   refine ⟨n1,n2,fun a ha b hb e=>?_⟩
   subst e
   obtain ⟨p,hp,rfl⟩:=cy ha
   obtain ⟨p',hp',e'⟩:=cy hb
   have:=(z1 p hp).1
   rw [← e',fr2 p' hp'] at this; cases this
  ·intro a ha
   rcases Ng.mp ha with ha | ha
   ·exact fr1 a ha
   ·exact g1.s.free (fr2 a ha))
theorem aA.len:∀ {ss:List Sh} {xs:List V} {fp:Fp},aA K H Hf ss xs fp→ss.length=xs.length
 | [],_,_,h=>by simp only [aA] at h; rw [h.1]; rfl
 | s::ss,_,_,h=>by
  simp only [aA] at h
  obtain ⟨x,r,f1,f2,rfl,_,h2,_⟩:=h
  rw [Nl,Nl,aA.len h2]
theorem HE {R:Sl→Prop} (h:Ef c es ρ fun ss=>Sd (ss.length≤sizeLine) (R (.fo (.t ss)))):c6 c (.Tuple es j pos) ρ R:=fun σ H Hf Q S q =>
 bF (yE CV) (h σ H Hf _ S fun ss vs fp H' aj ⟨hl,hR⟩ r nd fr g=>⟨by rw [← aA.len r]; exact hl,fun p hp=>by
  have g2:=aZ.new g.b hp (o:=.tup vs)
  have hz:=aA.fz ss r
  refine q _ _ _ _ hR ⟨fp,?_,nd,fr⟩ (g.trans g2)
  simp only [aW]
  exact ⟨p,vs,rfl,.inl (.inl ah),aA.mv g2.f ss (fun a _ e1 e2=>⟨g2.s _ _ e1,g2.n a.1 e2 (by rw [e1]; simp) (by intro ys z; rw [e1] at z; cases z)⟩) r⟩⟩)
end
noncomputable def IX (K:MI) (ok:Sh→Prop):Sp:=fun vs H Q _=>∃ Hf s v fp,vs=[v]∧aD Hf H∧aW K H Hf s v fp∧(fp.map (·.1)).Nodup∧ok s∧∀ H' aj,aZ (jK H fp) Hf H' aj→Q .non H'
structure Eg (P:Program) (w:World) (K:MI) (mg:Str→Option Value) (base:Heap) (k:Nat) (x:Str) (ok:Sh→Prop):Prop where
 ex:∃ f fd ps,mg x=some (.ref f)∧Oq K (.ref f)=true∧Binds K fd ps []∧bz P w K mg base (dR P w) k f fd ps (IX K ok)
theorem oM:aD (jK H fp) H:=fun b o e=>by
 by_cases m:b∈fp.map (·.1)
 ·rw [j6 m] at e; cases e
 ·rw [eU m] at e; exact e
theorem A0 (sb:aD Hf H):aZ (jK H fp) Hf H Hf:=⟨oM,.refl _,sb,fun _ h _ _=>h⟩
theorem xF {K:MI} (r:aW K H Hf s v fp) (nd:(fp.map (·.1)).Nodup) (sb:aD Hf H) (hN:1≤N.length) :
 cR K (jK H fp) Hf (L2.start N [v]) H Hf (.fo s::MY (N.length - 1) .un):=by
 have rest:∀ (i:Nat) (r':Sl),(Sl.fo s::MY (N.length - 1) Sl.un)[i]?=some r'→r'≠.un→i=0∧r'=.fo s:=fun i r' h hu=>by
  cases i with
  | zero=>exact ⟨rfl,by simpa using h.symm⟩
  | succ i=>exact absurd (QG (NY (by simpa using h))) hu
 refine ⟨A0 sb,by simp [L2.start],fun i r' h hu=>?_,fun i j r1 r2 p hne e1 e2 o1 o2=>?_⟩
 ·obtain ⟨rfl,rfl⟩:=rest i r' h hu
  exact ⟨v,by simp [L2.start],fp,r,nd,fun a ha=>j6 (Nk.mpr ⟨a,ha,rfl⟩)⟩
 ·obtain ⟨_,rfl⟩:=rest i r1 e1 (by rintro rfl; cases o1)
  cases o1
section
variable {K:MI} {c:Ctx P w K mg base k N sc bk}
theorem L6 {st:Stmt} (Fu:fM K x qual st f fd) (Sc:aL N ps (af st)) (Vi:∀ x∈N,Loc (af st) x) (h1:ps.length=1) (hN:1≤N.length)
 (body:∀ (c:Ctx P w K mg base k N (af st) false),c.X.xe=(fun _ _=>False)→∀ s,ok s→bf c (aB st) (.fo s::MY (N.length - 1) .un) (fun _=>True) { rt:=fun _=>False }) :
 bz P w K mg base (dR P w) (k+1) f fd ps (IX K ok):=by
 obtain ⟨oc,od,kV,doc,pm,an,cdv,ct,osl,rfl,lk,hcd⟩:=Fu.ex
 refine yF lk hcd Sc (fun vs H Q E ⟨Hf,s,v,fp,e,_⟩=>by rw [e,h1]; rfl) fun A outer st' H vs Q E hr hh=>z4 hh fun Hf s v fp hh=>w6 hh fun e sb rf nd hok hq=>?_
 subst e
 let X:Cx:=(pD (dR P w) P w K mg base N qual (af st) f cdv A outer st' H E).ET
 let c:Ctx P w K mg base k N (af st) false :=
  { X:=X,eP:=rfl,ew:=rfl,eK:=rfl,emg:=rfl,eb:=rfl,eN:=rfl,esc:=rfl,calm:=rfl,top:=fun _=>⟨rfl,rfl,rfl⟩,cb:=fun _ _ _ _ _ I x c h=>I.ok.cab x c rfl h,fn:=fun _ _=>.inl rfl,B:=jK H fp,room:=hr,nd:=Sc.nd,vis:=Vi,Hf:=Hf,RX:=fun _ _=>False,
    exc:=fun _ _ _ _ _ _ _ _ _ _ _ _ h _ _=>h.elim,RM:=fun _ _=>False,mde:=fun _ _ _ _ _ _ _ _ _ _ _ _ h _=>h.elim }
 refine ⟨_,rP.ET (t:=Gw X (aB st)) (pQ (X:=X)),?_⟩
 exact body c rfl s hok (L2.start N [v]) H Hf _ (xF rf nd sb hN) ⟨fun σ H' aj ρ S _=>hq H' aj S.bas,fun r v H' aj g rv e=>e.elim,fun _ _ _ _ _ h=>h.elim,fun _ _ _ _ _ h=>h.elim⟩
theorem bO {α:Type} {l:List α} {a b:α} (h:(l.set i a)[j]?=some b):(j=i∧b=a)∨(j≠i∧l[j]?=some b):=by
 by_cases e:j=i
 ·subst e
  have hl:j<l.length:=by have:=(MU.mp h).1; simpa using this
  rw [NU hl] at h
  exact .inl ⟨rfl,(Of h).symm⟩
 ·rw [NV (M8 e)] at h
  exact .inr ⟨e,h⟩
theorem cR.gone (S:cR K H₀ dB σ H Hf ρ) (h:jL ρ i s) (ev:σ[i]?=some (some v)) (rf:aW K H Hf s v fp) (fr:∀ a∈fp,H₀ a.1=none) (g:aZ (jK H fp) Hf H1 aI):cR K H₀ dB σ H1 aI (ρ.set i .un):=by
 obtain ⟨hi,ho⟩:=h.at_
 have hz:=aW.fz s rf
 have fr_in:∀ {b:Addr},b∈fp.map (·.1)→H₀ b=none:=fun m=>by obtain ⟨p,hp,rfl⟩:=cy m; exact fr p hp
 have s0:aD H₀ (jK H fp):=fun b o e=>by rw [eU fun m=>by rw [fr_in m] at e; cases e]; exact S.bas.s b o e
 refine ⟨⟨s0.trans g.s,S.bas.f.trans g.f,g.b,fun b h1 h2 h3=>?_⟩,by simp [S.len],fun j r hj hu=>?_,fun j j' r r' q hne h1 h2 o1 o2=>?_⟩
 ·cases z:H₀ b with
  | none=>exact absurd z h2
  | some o1 =>
   have e1:=s0 b o1 z
   exact g.n b (S.bas.n b h1 h2 h3) (by rw [e1]; simp) fun xs=>by rw [e1,← z]; exact h3 xs
 ·rcases bO hj with ⟨_,rfl⟩ | ⟨q,hj⟩
  ·exact absurd rfl hu
  ·obtain ⟨v,e1,e2⟩:=S.at_ j r hj hu
   have e3:aS K (fun p=>H₀ p=none) (jK H fp) Hf r v:=aS.mv (B:=fun a=>a∈fp.map (·.1)) (.refl _) (fun a o hm e1 _ e3=>⟨by rw [eU hm]; exact e1,e3⟩) (fun hf=>by rw [ho q hj] at hf; cases hf) (fun ow a e m=>by
    subst e
    obtain ⟨_,_,e,_,_,_,nf⟩:=e2.pZ ow
    cases e
    obtain ⟨p,hp,rfl⟩:=cy m
    exact nf ⟨p.2,(hz p hp).1⟩) e2
   exact ⟨v,e1,e3.ck g⟩
 ·have out:∀ {j:Nat} {r:Sl},(ρ.set i .un)[j]?=some r→r.owned=true→ρ[j]?=some r:=fun {j r} hj ho=>by
   rcases bO hj with ⟨_,rfl⟩ | ⟨_,hj⟩
   ·cases ho
   ·exact hj
  exact S.sep j j' r r' q hne (out h1 o1) (out h2 o2) o1 o2
theorem Eh (h:Eg P w K mg base j x ok) (hj:j≤k) (hN:At N i y) (h1:jL ρ i s) (hok:ok s) (hn:Nx ρ i nx .un)
 (hg:sc.names.lookup x=some .globalImplicit:=by walk_at "u") (hdb:(x == ("__debug__":Str))=false:=by decide) (hd:(y == ("__debug__":Str))=false:=by decide) (hcd:(y == ("__classdict__":Str))=false:=by decide)
 (he:∀ env,starEach [.Name y py] env=(false,eval (.Name y py) env)::starEach [] env:=by intro _; walk_at "u")
 (hpl:∀ env,(backTo cp (starEach [] env)).any (·.1)=false:=by intro _; walk_at "u")
 (hs:∀ env,swapsWith (.Call (.Name x px) [.Name y py] [] cp) none pos.line env=pure false:=by intro _; walk_at "u"):eE c (.Expr (.Call (.Name x px) [.Name y py] [] cp) pos) ρ nx p:=fun σ H Hf D S o=>by
 obtain ⟨v,ev,fp,rf,nd,hfr⟩:=S.at_ i _ h1.at_.1 (by intro z; cases z)
 obtain ⟨ρ',hs',hn⟩:=hn
 refine dH (jR cO (hs _)) (show bE c.X _ σ H (fun _ H'=>D.nx σ H') from fun aa s' I=>?_)
 obtain ⟨f,fd,ps,hm,hk,hb,hF⟩:=h.ex
 refine Ol (iD I (by unfold Gl Nz; rw [c.esc]; exact hg) (by rw [c.emg]; exact hm) ?_ hdb)
 have hA:bA c.X [.Name y py] σ H (fun vs H1=>vs=[v]∧H1=H):=mH (bL (c.kF hN hd hcd) c8 (he _)) ⟨_,ev,rfl,rfl⟩
 refine QW (h₀:=c.X.base) I.ok.mod.kin (by rw [c.eK]; exact hk) (bw (hA cp aa s' I) fun us s1 ⟨vs,H1,I1,rv,e1,e2⟩=>⟨I1.nI,?_⟩) (he _) (hpl _)
 subst e1 e2
 have hF2:bz c.X.prog c.X.w c.X.K c.X.mg c.X.base (dR c.X.prog c.X.w) k f fd ps (IX c.X.K ok):=by rw [c.eP,c.ew,c.eK,c.emg,c.eb]; exact hF.mono hj
 have pe:IX c.X.K ok [v] H1 (fun _ H'=>D.nx σ H') (fun _ _ _=>False):=by
  refine ⟨Hf,s,v,fp,rfl,S.sb,rf,nd,hok,fun H' aj g=>?_⟩
  refine o.nx σ H' aj ρ' ?_ hn
  rw [hs'.eq]
  exact S.gone h1 ev rf hfr g
 have hl:us.length=ps.length:=by rw [← rv.length]; exact hF2.len _ _ _ _ pe
 have hb':Binds c.X.K fd ps []:=by rw [c.eK]; exact hb
 have hb2:=hb' s1 us I1.nI (by simpa using hl)
 rw [NR] at hb2
 refine PU (PK (hF2.run c.X.A c.X.stack s1 H1 ⟨us,[]⟩ us _ _ _ c.room I1.CD hb2 rv pe) fun r' s' hq=>?_)
 cases r' with
 | error e =>
  obtain ⟨a,C,H',rfl,hE,h⟩:=hq
  exact h.elim
 | ok fl =>
  cases fl with
  | ret u=>exact I1.after hq
  | next=>exact NK hq
  | brk=>exact NK hq
  | cont=>exact NK hq
noncomputable def Sh.raw:Sh→Option D | .v d=>some d | .la a _=>some (.adr a) | _=>none
noncomputable def xG:List Sh→Option (List D)
 | []=>some []
 | s::ss=>match s.raw,xG ss with | some d,some ds=>some (d::ds) | _,_=>none
theorem aW.raw (e:s.raw=some d) (h:aW K H Hf s v fp):Rep K Hf d v:=by
 cases s with
 | v d'=>cases e; simp only [aW] at h; exact h.1
 | la a ds=>cases e; simp only [aW] at h; obtain ⟨xs,e,_⟩:=h; exact eB.mpr e
 | _=>cases e
theorem aA.raw:∀ {ss:List Sh} {vs:List V} {fp:Fp} {ds:List D},xG ss=some ds→aA K H Hf ss vs fp→aq K Hf ds vs
 | [],_,_,_,e,h=>by cases e; simp only [aA] at h; exact ay.mpr h.1
 | s::ss,_,_,_,e,h=>by
  simp only [aA] at h
  obtain ⟨x,r,f1,f2,rfl,h1,h2,_⟩:=h
  unfold xG at e
  split at e
  ·rename_i d ds q1 q2
   cases e
   exact .cons (h1.raw q1) (aA.raw q2 h2)
  ·cases e
theorem HF (hN:At N i y) (hi:At ρ i (.fo (.t ss))) (hr:xG ss=some ds) (hR:R (.tup ds)) (hd:(y == ("__debug__":Str))=false:=by decide) (hcd:(y == ("__classdict__":Str))=false:=by decide):aF c (.Name y py) ρ R:=fun σ H Hf Q S q=>by
 obtain ⟨v,ev,fp,rf,nd,hfr⟩:=S.at_ i _ hi.get (by intro z; cases z)
 refine bF (c.kF hN hd hcd) ⟨v,ev,q (.tup ds) v H Hf hR ?_ (.refl S.sb)⟩
 simp only [aW] at rf
 obtain ⟨a,xs,e,h1,h2⟩:=rf
 exact aE.mpr ⟨a,xs,e,h1,aA.raw hr h2⟩
end
section
variable {K:MI}
noncomputable def lF (L:List (Addr×List D)):List Sh:=L.map fun x=>.la x.1 x.2
theorem vF (q1:H q=some (pl q xs)) (q2:Hf q=none) (q3:aq K Hf ds xs):aW K H Hf (.la q ds) (.ref q) [(q,xs)]:=by
 simp only [aW]
 exact ⟨xs,trivial,q1,q2,q3,rfl⟩
theorem aA.tag:∀ {dss:List (List D)} {vs:List V} {fp:Fp},aA K H Hf (dss.map .l) vs fp→∃ L:List (Addr×List D),L.map (·.2)=dss∧aA K H Hf (lF L) vs fp
 | [],_,_,h=>⟨[],rfl,h⟩
 | ds::dss,_,_,h=>by
  simp only [MN,aA] at h
  obtain ⟨x,r,f1,f2,rfl,h1,h2,rfl⟩:=h
  obtain ⟨L,e,h3⟩:=aA.tag h2
  simp only [aW] at h1
  obtain ⟨p,xs,rfl,q1,q2,q3,rfl⟩:=h1
  refine ⟨(p,ds)::L,by rw [MN,e],?_⟩
  show aA K H Hf (.la p ds::lF L) _ _
  simp only [aA]
  exact ⟨_,r,_,f2,rfl,vF q1 q2 q3,h3,rfl⟩
theorem cR.L7 (S:cR K H₀ dB σ H Hf ρ) (h:ρ[i]?=some (.fo (.t (dss.map .l)))):∃ L:List (Addr×List D),L.map (·.2)=dss∧cR K H₀ dB σ H Hf (ρ.set i (.fo (.t (lF L)))):=by
 obtain ⟨v,ev,fp,rf,nd,hfr⟩:=S.at_ i _ h (by intro z; cases z)
 simp only [aW] at rf
 obtain ⟨a,xs,e,h1,h2⟩:=rf
 obtain ⟨L,eL,h3⟩:=aA.tag h2
 refine ⟨L,eL,S.bas,by simp [S.len],fun j r hj hu=>?_,fun j j' r r' q hne h1 h2 o1 o2=>?_⟩
 ·rcases bO hj with ⟨rfl,rfl⟩ | ⟨_,hj⟩
  ·exact ⟨v,ev,fp,by simp only [aW]; exact ⟨a,xs,e,h1,h3⟩,nd,hfr⟩
  ·exact S.at_ j r hj hu
 ·have out:∀ {j:Nat} {r:Sl},(ρ.set i (.fo (.t (lF L))))[j]?=some r→r.owned=true→ρ[j]?=some r:=fun {j r} hj ho=>by
   rcases bO hj with ⟨_,rfl⟩ | ⟨_,hj⟩
   ·cases ho
   ·exact hj
  exact S.sep j j' r r' q hne (out h1 o1) (out h2 o2) o1 o2
theorem aA.Fj:∀ {pre post:List Sh} {vs:List V} {fp:Fp},aA K H Hf (pre++.la q ds::post) vs fp →
 ∃ (xs:List V) (f1 f2:Fp),fp=f1++(q,xs)::f2∧H q=some (pl q xs)∧Hf q=none∧aq K Hf ds xs∧aA K H Hf (pre++.v (.adr q)::post) vs (f1++f2)
 | [],post,_,_,h=>by
  simp only [OO,aA] at h
  obtain ⟨x,r,f1,f2,rfl,h1,h2,rfl⟩:=h
  simp only [aW] at h1
  obtain ⟨xs,rfl,q1,q2,q3,rfl⟩:=h1
  refine ⟨xs,[],f2,rfl,q1,q2,q3,?_⟩
  simp only [OO,aA]
  exact ⟨_,r,[],f2,rfl,by simp only [aW]; exact ⟨eB.mpr rfl,trivial⟩,h2,rfl⟩
 | s::pre,post,_,_,h=>by
  simp only [Om,aA] at h
  obtain ⟨x,r,f1,f2,rfl,h1,h2,rfl⟩:=h
  obtain ⟨xs,g1,g2,rfl,q1,q2,q3,q4⟩:=aA.Fj h2
  refine ⟨xs,f1++g1,g2,by rw [Nb],q1,q2,q3,?_⟩
  simp only [Om,aA]
  exact ⟨x,r,f1,g1++g2,rfl,h1,q4,by rw [Nb]⟩
theorem aA.Fl (q1:H q=some (pl q xs)) (q2:Hf q=none) (q3:aq K Hf ds xs):∀ {pre post:List Sh} {vs:List V} {fp:Fp},aA K H Hf (pre++.v (.adr q)::post) vs fp →
 ∃ (f1 f2:Fp),fp=f1++f2∧aA K H Hf (pre++.la q ds::post) vs (f1++(q,xs)::f2)
 | [],post,_,_,h=>by
  simp only [OO,aA] at h
  obtain ⟨x,r,f1,f2,rfl,h1,h2,rfl⟩:=h
  simp only [aW] at h1
  obtain ⟨h1,rfl⟩:=h1
  rw [eB] at h1
  subst h1
  refine ⟨[],f2,rfl,?_⟩
  simp only [OO,aA]
  exact ⟨_,r,[(q,xs)],f2,rfl,vF q1 q2 q3,h2,rfl⟩
 | s::pre,post,_,_,h=>by
  simp only [Om,aA] at h
  obtain ⟨x,r,f1,f2,rfl,h1,h2,rfl⟩:=h
  obtain ⟨g1,g2,rfl,q4⟩:=aA.Fl q1 q2 q3 h2
  refine ⟨f1++g1,g2,by rw [Nb],?_⟩
  simp only [Om,aA]
  exact ⟨x,r,f1,g1++(q,xs)::g2,rfl,h1,q4,by rw [Nb]⟩
theorem cR.Fo (S:cR K H₀ dB σ H Hf ρ) (h1:jL ρ i s) (hk:k<ρ.length) (hik:k≠i) (fq:H₀ q=none) (rQ:Hf q=none) (hq:∀ (j:Nat) (r:Sl),j≠i→j≠k→ρ[j]?=some r→r.owned=true→σ[j]?≠some (some (.ref q)))
 (v1:r1≠.un→∃ v,σ[i]?=some (some v)∧aS K (fun p=>H₀ p=none) (L2.upd H q o) Hf r1 v) (v2:r2≠.un→∃ v,σ[k]?=some (some v)∧aS K (fun p=>H₀ p=none) (L2.upd H q o) Hf r2 v) (n1:r1.owned=false) (n2:r2.owned=true→σ[k]?=some (some (.ref q))) :
 cR K H₀ dB σ (L2.upd H q o) Hf ((ρ.set i r1).set k r2):=by
 obtain ⟨hi,ho⟩:=h1.at_
 have get:∀ {j:Nat} {r:Sl},((ρ.set i r1).set k r2)[j]?=some r→(j=k∧r=r2)∨(j≠k∧j=i∧r=r1)∨(j≠k∧j≠i∧ρ[j]?=some r):=fun {j r} h=>by
  rcases bO h with ⟨a,b⟩ | ⟨a,h⟩
  ·exact .inl ⟨a,b⟩
  ·rcases bO h with ⟨b,c⟩ | ⟨b,h⟩
   ·exact .inr (.inl ⟨a,b,c⟩)
   ·exact .inr (.inr ⟨a,b,h⟩)
 refine ⟨⟨fun b u e=>by rw [L2.ak (az e fq)]; exact S.bas.s b u e,S.bas.f,fun b u e=>by rw [L2.ak (az e rQ)]; exact S.bas.b b u e,S.bas.n⟩,by simp [S.len],fun j r hj hu=>?_,fun j j' r r' p hne e1 e2 o1 o2=>?_⟩
 ·rcases get hj with ⟨rfl,rfl⟩ | ⟨_,rfl,rfl⟩ | ⟨a,b,hj⟩
  ·exact v2 hu
  ·exact v1 hu
  ·obtain ⟨v,e1,e2⟩:=S.at_ j r hj hu
   exact ⟨v,e1,aS.mv (B:=fun z=>z=q) (.refl _) (fun z u hz e1 _ e3=>⟨by rw [L2.ak hz]; exact e1,e3⟩) (fun hf=>by rw [ho b hj] at hf; cases hf) (fun ow z ez e=>by subst e; subst ez; exact hq j r b a hj ow e1) e2⟩
 ·rcases get e1 with ⟨rfl,rfl⟩ | ⟨_,rfl,rfl⟩ | ⟨a,b,f1⟩
  ·intro s1 s2
   rw [n2 o1] at s1; cases s1
   rcases get e2 with ⟨rfl,rfl⟩ | ⟨_,rfl,rfl⟩ | ⟨a2,b2,f2⟩
   ·exact hne rfl
   ·rw [n1] at o2; cases o2
   ·exact hq j' r' b2 a2 f2 o2 s2
  ·rw [n1] at o1; cases o1
  ·rcases get e2 with ⟨rfl,rfl⟩ | ⟨_,rfl,rfl⟩ | ⟨a2,b2,f2⟩
   ·intro s1 s2
    rw [n2 o2] at s2; cases s2
    exact hq j r b a f1 o1 s1
   ·rw [n1] at o2; cases o2
   ·exact S.sep j j' r r' p hne f1 f2 o1 o2
end
section
variable {K:MI} {st:Stmt}
theorem HG (i) (hi:At ρ i (.fo (.t (dss.map .l)))) (h:∀ L:List (Addr×List D),L.map (·.2)=dss→eE c st (ρ.set i (.fo (.t (lF L)))) nx p):eE c st ρ nx p:=fun σ H Hf D S o=>by
 obtain ⟨L,e,S1⟩:=S.L7 hi.get
 exact h L e σ H Hf D S1 o
theorem A1 (i j) (h1:jL ρ i (.t (pre++.la q ds::post))) (hj:At ρ j (.va (.adr q))) (h:bf c sts ((ρ.set i (.fo (.t (pre++.v (.adr q)::post)))).set j (.aw q ds)) nx p) (hij:j≠i):bf c sts ρ nx p:=fun σ H Hf D S o aa s I=>by
 obtain ⟨v,ev,fp,rf,nd,hfr⟩:=S.at_ i _ h1.at_.1 (by intro z; cases z)
 obtain ⟨vj,evj,rj⟩:=S.va hj.get
 rw [eB] at rj
 subst rj
 simp only [aW] at rf
 obtain ⟨a,vs,e,t1,t2⟩:=rf
 obtain ⟨xs,f1,f2,rfl,q1,q2,q3,q4⟩:=aA.Fj t2
 have fq:c.B q=none:=hfr (q,xs) (by simp)
 have nq:q∉(f1++f2).map (·.1):=fun m=>by
  rw [Nt,MN,Q4,N8] at nd
  rw [Nt,Ng] at m
  rcases m with m | m
  ·exact nd.2.2 q m q MW rfl
  ·exact nd.2.1.1 m
 have I1:=AZ I q1
 refine h σ _ Hf D (S.Fo h1 (MU.mp hj.get).1 hij fq q2 (fun j' r a b hj' ow e=>?_) (fun _=>⟨v,ev,f1++f2,?_,?_,?_⟩) (fun _=>⟨_,evj,q,xs,rfl,⟨fq,rfl⟩,ah,q2,q3⟩) rfl fun _=>evj) o aa s I1
 ·obtain ⟨v',e',r'⟩:=S.at_ j' r hj' (by rintro rfl; cases ow)
  rw [e] at e'; cases e'
  obtain ⟨_,_,e2,_,_,_,nf⟩:=r'.pZ ow
  cases e2
  exact nf ⟨xs,q1⟩
 ·simp only [aW]
  exact ⟨a,vs,e,t1,aA.mv (.refl _) _ (fun z hz e1 e2=>⟨by rw [ak fun e=>nq (by rw [← e]; exact Nk.mpr ⟨z,hz,rfl⟩)]; exact e1,e2⟩) q4⟩
 ·rw [Nt] at nd ⊢
  exact nd.sublist (List.Sublist.append (List.Sublist.refl _) (by rw [MN]; exact List.sublist_cons_self _ _))
 ·intro z hz
  exact hfr z (by rcases Ng.mp hz with h | h; exact O3 _ h; exact N2 _ (MX _ h))
theorem A2 (i j) (h1:jL ρ i (.t (pre++.v (.adr q)::post))) (hj:At ρ j (.aw q ds)) (h:bf c sts ((ρ.set i (.fo (.t (pre++.la q ds::post)))).set j .un) nx p) (hij:j≠i):bf c sts ρ nx p:=fun σ H Hf D S o aa s I=>by
 obtain ⟨v,ev,fp,rf,nd,hfr⟩:=S.at_ i _ h1.at_.1 (by intro z; cases z)
 obtain ⟨vj,evj,rj⟩:=S.at_ j _ hj.get (by intro z; cases z)
 obtain ⟨q',xs,rfl,⟨fq,rfl⟩,q1,q2,q3⟩:=rj
 have hz:=aW.fz _ rf
 simp only [aW] at rf
 obtain ⟨a,vs,e,t1,t2⟩:=rf
 have nq:q'∉fp.map (·.1):=fun m=>by
  obtain ⟨z,hm,rfl⟩:=cy m
  have:=(hz z hm).1
  rw [q1] at this; cases this
 have t3:=aA.mv (H':=upd H q' (pl q' xs)) (.refl _) _ (fun z hz e1 e2=>⟨by rw [ak fun e=>nq (by rw [← e]; exact Nk.mpr ⟨z,hz,rfl⟩)]; exact e1,e2⟩) t2
 obtain ⟨f1,f2,rfl,t4⟩:=aA.Fl ah q2 q3 t3
 have I1:=tu I q1
 refine h σ _ Hf D (S.Fo h1 (MU.mp hj.get).1 hij fq q2 (fun j' r a b hj' ow e=>?_) (fun _=>⟨v,ev,f1++(q',xs)::f2,?_,?_,?_⟩) (fun z=>absurd rfl z) rfl fun z=>by cases z) o aa s I1
 ·exact S.sep j' j r _ q' b hj' hj.get ow rfl e evj
 ·simp only [aW]
  exact ⟨a,vs,e,t1,t4⟩
 ·rw [Nt,MN]
  rw [Nt] at nd nq
  rw [Q4] at nd ⊢
  rw [Ng,not_or] at nq
  refine ⟨nd.1,N8.mpr ⟨nq.2,nd.2.1⟩,fun a ha b hb e=>?_⟩
  rcases M0.mp hb with rfl | hb
  ·subst e; exact nq.1 ha
  ·exact nd.2.2 a ha b hb e
 ·intro z hz
  rcases Ng.mp hz with h | h
  ·exact hfr z (O3 _ h)
  ·rcases M0.mp h with rfl | h
   ·exact fq
   ·exact hfr z (N2 _ h)
end
end EV
namespace EV
open PySem PySem.Spec PyProof.Rows L2
noncomputable def xH (t:aO):aO:=(t.1,-t.2)
theorem Ei (h:trim m=m) (hn:m≠[]):bQ m (m.length - 1)≠0:=by
 rcases List.eq_nil_or_concat m with rfl | ⟨l,x,rfl⟩
 ·exact absurd rfl hn
 ·rw [List.concat_eq_append] at h ⊢
  intro z
  have e:bQ (l++[x]) ((l++[x]).length - 1)=x:=by
   rw [c9 (by simp)]; simp
  rw [e] at z; subst z
  rw [gB] at h
  have:=fT l
  rw [h,Nr,QM] at this
  lia
theorem xJ (hl:trim l=l) (hm:trim m=m) (h:∀ i,bQ l i=bQ m i):l=m:=by
 have key:∀ {l m:List Int},trim m=m→(∀ i,bQ l i=bQ m i)→m.length≤l.length:=fun {l m} hm h=>by
  rcases Nat.lt_or_ge l.length m.length with z | z
  ·have hn:m≠[]:=by rintro rfl; simp at z
   have:=Ei hm hn
   rw [← h,cL (by lia)] at this
   exact absurd rfl this
  ·exact z
 have e:l.length=m.length:=Nat.le_antisymm (key hl fun i=>(h i).symm) (key hm h)
 refine Ra e fun i h1 h2=>?_
 have:=h i
 rwa [c9 h1,c9 h2] at this
theorem fX (h:∀ i,bQ p i=bQ q i):trim p=trim q:=xJ (cg p) (cg q) fun i=>by rw [dO,dO,h]
theorem xK (a b):trim (cu (trim a) (trim b))=trim (cu a b):=fX fun i=>by rw [bV,bV,dO,dO]
theorem tw (a b):trim (cu (trim a) b)=trim (cu a b):=fX fun i=>by rw [bV,bV,dO]
theorem tD (a b):trim (cu a (trim b))=trim (cu a b):=fX fun i=>by rw [bV,bV,dO]
theorem xM (a b):cu a b=cu b a:=by
 unfold cu; rw [Nat.max_comm]; exact OA fun k _=>Ru _ _
theorem lG (a):trim (cu [] a)=trim a:=fX fun i=>by rw [bV,cL (Nu _),Qs]
theorem tE (a b c):trim (cu (cu a b) c)=trim (cu a (cu b c)):=fX fun i=>by
 rw [bV,bV,bV,bV,Int.add_assoc]
noncomputable def ev (g:List Int→Int):List aO→Int
 | []=>0
 | t::A=>t.2 * g (trim t.1)+ev g A
theorem aU (g) (t) (A):ev g (t::A)=t.2 * g (trim t.1)+ev g A:=rfl
theorem bX (g) (B):∀ A,ev g (A++B)=ev g A+ev g B
 | []=>by simp [ev]
 | t::A=>by rw [Om,aU,aU,bX g B A]; lia
theorem jr (g):∀ A:List aO,ev g (A.map xH)= - ev g A
 | []=>rfl
 | t::A=>by
  rw [MN,aU,aU,jr g A]
  show -t.2 * g (trim t.1)+_=_
  rw [Int.neg_mul]; lia
theorem A3 (g) (l):∀ B:List aO,ev g (B.map (dh l))=l.2 * ev (fun q=>g (trim (cu (trim l.1) q))) B
 | []=>by simp [ev]
 | r::B=>by
  rw [MN,aU,aU,A3 g l B]
  show l.2 * r.2 * g (trim (cu l.1 r.1))+_=_
  rw [Int.mul_add,xK,Qm]
theorem bN (g) (B):∀ A:List aO,ev g (aH A B)=ev (fun p=>ev (fun q=>g (trim (cu p q))) B) A
 | []=>rfl
 | l::A=>by
  show ev g (B.map (dh l)++aH A B)=_
  rw [bX,A3,bN g B A]; rfl
theorem fY (e:∀ p,trim p=p→g p=h p):∀ A,ev g A=ev h A
 | []=>rfl
 | t::A=>by rw [aU,aU,e _ (cg _),fY e A]
theorem A4 (g h):∀ A,ev (fun p=>g p+h p) A=ev g A+ev h A
 | []=>rfl
 | t::A=>by rw [aU,aU,aU,A4 g h A,Int.mul_add]; lia
theorem Fq (c) (g):∀ A,ev (fun p=>c * g p) A=c * ev g A
 | []=>by simp [ev]
 | t::A=>by rw [aU,aU,Fq c g A,Int.mul_add,Int.mul_left_comm]
theorem vG:∀ A,ev (fun _=>0) A=0
 | []=>rfl
 | t::A=>by rw [aU,vG A]; simp
theorem vH (f:List Int→List Int→Int) (B):∀ A,ev (fun p=>ev (fun q=>f p q) B) A=ev (fun q=>ev (fun p=>f p q) A) B
 | []=>by show 0=ev (fun _=>0) B; rw [vG]
 | t::A=>by
  show t.2 * ev (fun q=>f (trim t.1) q) B+ev _ A=ev (fun q=>t.2 * f (trim t.1) q+ev (fun p=>f p q) A) B
  rw [A4,Fq,vH f B A]
noncomputable def eqv (A B:List aO):Prop:=∀ g,ev g A=ev g B
theorem eqv.rf (A):eqv A A:=fun _=>rfl
theorem eqv.app (h:eqv A A') (k:eqv B B'):eqv (A++B) (A'++B'):=fun g=>by rw [bX,bX,h g,k g]
theorem eqv.neg (h:eqv A B):eqv (A.map xH) (B.map xH):=fun g=>by rw [jr,jr,h g]
theorem eqv.prod (h:eqv A A') (k:eqv B B'):eqv (aH A B) (aH A' B'):=fun g=>by
 rw [bN,bN,h]; exact fY (fun p _=>k _) _
instance trmSetoid:Setoid (List aO):=⟨eqv,⟨eqv.rf,fun h g=>(h g).symm,fun h k g=>(h g).trans (k g)⟩⟩
noncomputable def MP:Type:=Quotient trmSetoid
noncomputable def mp (A:List aO):MP:=Quotient.mk trmSetoid A
theorem dP:mp A=mp B↔eqv A B:=⟨fun h=>Quotient.exact h,fun h=>Rj h⟩
noncomputable def cT (n:Int):List aO:=[([],n)]
theorem jM (g) (n):ev g (cT n)=n * g []:=by show n * g (trim [])+0=_; rw [Rt]; rfl
noncomputable instance:Add MP:=⟨Quotient.lift₂ (fun A B=>mp (A++B)) fun _ _ _ _ h k=>Rj (eqv.app h k)⟩
noncomputable instance:Mul MP:=⟨Quotient.lift₂ (fun A B=>mp (aH A B)) fun _ _ _ _ h k=>Rj (eqv.prod h k)⟩
noncomputable instance:Neg MP:=⟨Quotient.lift (fun A=>mp (A.map xH)) fun _ _ h=>Rj (eqv.neg h)⟩
noncomputable instance:Sub MP:=⟨fun a b=>a+ -b⟩
noncomputable instance:NatCast MP:=⟨fun n=>mp (cT n)⟩
noncomputable instance:IntCast MP:=⟨fun n=>mp (cT n)⟩
noncomputable instance (n:Nat):OfNat MP n:=⟨mp (cT n)⟩
noncomputable instance:SMul Nat MP:=⟨fun n a=>(n:MP) * a⟩
noncomputable instance:SMul Int MP:=⟨fun n a=>(n:MP) * a⟩
noncomputable def MP.pow (a:MP):Nat→MP
 | 0=>1
 | n+1=>MP.pow a n * a
noncomputable instance:HPow MP Nat MP:=⟨MP.pow⟩
theorem oN (A B):mp (A++B)=mp A+mp B:=rfl
theorem tF (A B):mp (aH A B)=mp A * mp B:=rfl
theorem oO (n):mp (cT n)=(n:MP):=rfl
theorem o8 {P:MP→Prop} (h:∀ A,P (mp A)) (a:MP):P a:=Quotient.inductionOn a h
theorem HH (g) (A):ev g (aH (cT 1) A)=ev g A:=by
 rw [bN,jM,Ry]
 exact fY (fun p hp=>by rw [lG,hp]) _
theorem mulC:∀ a b:MP,a * b=b * a:=o8 fun A=>o8 fun B=>dP.mpr fun g=>by
 rw [bN,bN,vH]
 exact fY (fun q _=>fY (fun p _=>by rw [xM]) _) _
theorem Ks:∀ a:MP,1 * a=a:=o8 fun A=>dP.mpr fun g=>HH g A
theorem L8:∀ a b:MP,a+b=b+a:=o8 fun A=>o8 fun B=>dP.mpr fun g=>by rw [bX,bX,Ru]
theorem Ft:∀ a b c:MP,(a+b) * c=a * c+b * c:=o8 fun A=>o8 fun B=>o8 fun C=>dP.mpr fun g=>by rw [bN,bX,bX,bN,bN]
theorem Fv:∀ a:MP,0 * a=0:=o8 fun A=>dP.mpr fun g=>by
 rw [bN,jM,jM]; show 0 * _=0 * _; rw [Pc,Pc]
noncomputable instance:Lean.Grind.CommRing MP where
 add_zero:=o8 fun A=>dP.mpr fun g=>by rw [bX,jM]; show _+0 * _=_; rw [Pc,Rt]
 add_comm:=L8
 add_assoc:=o8 fun A=>o8 fun B=>o8 fun C=>dP.mpr fun g=>by rw [bX,bX,bX,bX,Int.add_assoc]
 mul_assoc:=o8 fun A=>o8 fun B=>o8 fun C=>dP.mpr fun g=>by
  rw [bN,bN,bN]
  refine fY (fun p _=>?_) _
  rw [bN]
  refine fY (fun q _=>fY (fun r _=>?_) _) _
  rw [tw,tD,tE]
 mul_one:=fun a=>by rw [mulC,Ks]
 one_mul:=Ks
 left_distrib:=fun a b c=>by rw [mulC,Ft,mulC b,mulC c]
 right_distrib:=Ft
 zero_mul:=Fv
 mul_zero:=fun a=>by rw [mulC,Fv]
 pow_zero:=fun _=>rfl
 pow_succ:=fun _ _=>rfl
 ofNat_succ:=fun n=>dP.mpr fun g=>by
  show ev g (cT ((n+1:Nat):Int))=ev g (cT (n:Int)++cT ((1:Nat):Int))
  rw [bX,jM,jM,jM,Int.natCast_add,Pf]
 ofNat_eq_natCast:=fun _=>rfl
 nsmul_eq_natCast_mul:=fun _ _=>rfl
 neg_add_cancel:=o8 fun A=>dP.mpr fun g=>by
  rw [bX,jr,jM]; show _=0 * _; rw [Pc]; lia
 sub_eq_add_neg:=fun _ _=>rfl
 neg_zsmul:=fun i=>o8 fun A=>dP.mpr fun g=>by
  show ev g (aH (cT (-i)) A)=ev g ((aH (cT i) A).map xH)
  rw [jr,bN,bN,jM,jM,Int.neg_mul]
 zsmul_natCast_eq_nsmul:=fun _ _=>rfl
 intCast_ofNat:=fun _=>rfl
 intCast_neg:=fun i=>dP.mpr fun g=>by
  show ev g (cT (-i))=ev g ((cT i).map xH)
  rw [jr,jM,jM,Int.neg_mul]
 mul_comm:=mulC
theorem A5 {A:List aO} {p q:List Int} {n:Int}:(bh (putD A p n) q).getD 0=if q=p then n else (bh A q).getD 0:=by
 unfold putD
 split
 ·rename_i h
  induction A with
  | nil=>simp [bh] at h
  | cons t A ih =>
   rw [MN]
   by_cases e:t.1=p
   ·rw [if_pos e]
    by_cases z:q=p
    ·rw [if_pos z,aY (by rw [e,z])]; rfl
    ·rw [if_neg z,aP (by rw [e]; exact fun w=>z w.symm),aP (by rw [e]; exact fun w=>z w.symm)]
     clear ih h
     induction A with
     | nil=>rfl
     | cons u A ih =>
      rw [MN]
      by_cases w:u.1=q
      ·rw [if_neg (by rw [w]; exact z),aY w,aY w]
      ·rw [aP w,← ih,aP (by split <;> exact w)]
   ·rw [if_neg e]
    have h':(bh A p).isSome=true:=by rw [aP e] at h; exact h
    by_cases z:t.1=q
    ·rw [aY z,aY z,if_neg (by rw [← z]; exact e)]
    ·rw [aP z,aP z,ih h']
 ·rename_i h
  induction A with
  | nil =>
   rw [OO]
   by_cases z:q=p
   ·rw [if_pos z,aY z.symm]; rfl
   ·rw [if_neg z,aP fun w=>z w.symm]
  | cons t A ih =>
   have h0:¬ t.1=p:=fun e=>h (by rw [aY e]; rfl)
   rw [Om]
   by_cases z:t.1=q
   ·rw [aY z,aY z,if_neg (by rw [← z]; exact h0)]
   ·rw [aP z,aP z,ih (by rw [aP h0] at h; exact h)]
noncomputable def cf (p:List Int) (A:List aO):Int:=ev (fun q=>if q=p then 1 else 0) A
theorem A6 (p):∀ ts:List aO,(bh (aG ts) p).getD 0=cf p ts:=by
 intro ts
 suffices H:∀ (ts A:List aO),(bh (ts.foldl fj A) p).getD 0=(bh A p).getD 0+cf p ts by
  have:=H ts []
  rw [show (bh ([]:List aO) p).getD 0=0 from rfl,Qs] at this
  exact this
 intro ts
 induction ts with
 | nil=>intro A; show _=_+0; rw [Rt]; rfl
 | cons t ts ih =>
  intro A
  rw [N9,ih]
  unfold fj
  rw [A5]
  show _=_+(t.2 * (if trim t.1=p then 1 else 0)+cf p ts)
  by_cases z:p=trim t.1
  ·rw [if_pos z,if_pos z.symm,z]; lia
  ·rw [if_neg z,if_neg fun w=>z w.symm]; lia
theorem A7:t∈nz (aG ts)↔trim t.1=t.1∧t.2≠0∧t.2=cf t.1 ts:=by
 have hk:=dN ts
 constructor
 ·intro h
  unfold nz at h
  rw [Qf] at h
  refine ⟨?_,by simpa using h.2,?_⟩
  ·have bd:∃ n,∀ t∈ts,t.1.length≤n:=by
    clear h hk
    induction ts with
    | nil=>exact ⟨0,fun t h=>by cases h⟩
    | cons u ts ih =>
     obtain ⟨n,hn⟩:=ih
     refine ⟨max n u.1.length,fun t ht=>?_⟩
     rcases M0.mp ht with rfl | ht
     ·lia
     ·have:=hn t ht; lia
   obtain ⟨n,hn⟩:=bd
   exact (iX hn t h.1).1
  ·rw [← A6,oH hk h.1]; rfl
 ·rintro ⟨h1,h2,h3⟩
  unfold nz
  rw [Qf]
  refine ⟨?_,by simpa using h2⟩
  rw [← A6] at h3
  cases e:bh (aG ts) t.1 with
  | none=>rw [e] at h3; exact absurd h3 h2
  | some n =>
   rw [e] at h3
   have h3':t.2=n:=h3
   unfold bh at e
   obtain ⟨u,hu,e2⟩:=MZ.mp e
   have m:=List.mem_of_find?_eq_some hu
   have z:u.1=t.1:=by simpa using List.find?_some hu
   have:u=t:=Prod.ext z (by rw [e2,h3'])
   rw [← this]; exact m
theorem qT {L M:List aO} (h1:L.Nodup) (h2:M.Nodup) (h:∀ t,t∈L↔t∈M):L.Perm M:=(List.perm_ext_iff_of_nodup h1 h2).mpr h
theorem A8 (h:eqv A B):bC A=bC B:=by
 have nA:=keys_nodup (vo (dN A))
 have nB:=keys_nodup (vo (dN B))
 have hp:(nz (aG A)).Perm (nz (aG B)):=qT nA nB fun t=>by rw [A7,A7]; unfold cf; rw [h]
 exact Au nB ((bu _).trans hp) (gD nA)
theorem ie (h:mp A=mp B):bC A=bC B:=A8 (dP.mp h)
theorem HJ (g) (hp:trim p=p) (n) (hk:(A.map (·.1)).Nodup) (ht:∀ t∈A,trim t.1=t.1):ev g (putD A p n)=ev g A+(n - (bh A p).getD 0) * g p:=by
 unfold putD
 split
 ·rename_i h
  induction A with
  | nil=>simp [bh] at h
  | cons t A ih =>
   rw [MN]
   rw [MN,N8] at hk
   by_cases e:t.1=p
   ·rw [if_pos e]
    have same:A.map (fun kv:aO=>if kv.1=p then (kv.1,n) else kv)=A:=by
     refine (OA fun u hu=>?_).trans (List.map_id A)
     rw [if_neg fun z=>hk.1 (by rw [e,← z]; exact Nk.mpr ⟨u,hu,rfl⟩)]; rfl
    rw [same,aY e]
    rw [aU,aU]
    show n * g (trim t.1)+_=_+(n - t.2) * _
    rw [ht t MW,e,Int.sub_mul]; lia
   ·rw [if_neg e]
    rw [aU,aU,ih hk.2 (fun u hu=>ht u (MX _ hu)) (by rw [aP e] at h; exact h),aP e]; lia
 ·rename_i h
  have e:bh A p=none:=by
   cases e:bh A p with
   | none=>rfl
   | some n=>rw [e] at h; exact absurd rfl h
  rw [bX,e]
  show _+(n * g (trim p)+0)=_+(n - 0) * _
  rw [hp,Int.sub_zero,Rt]
theorem vI (ts):eqv (aG ts) ts:=by
 suffices H:∀ (ts A:List aO),(A.map (·.1)).Nodup→(∀ t∈A,trim t.1=t.1)→eqv (ts.foldl fj A) (A++ts) from H ts [] (by simp) (by simp)
 intro ts
 induction ts with
 | nil=>intro A _ _ g; simp
 | cons t ts ih =>
  intro A hk ht g
  have ih':ev g (ts.foldl fj (fj A t))=ev g (fj A t++ts):=ih _ (qC _ _ hk) (fun u hu=>by
   rcases oB hu with e | e
   ·rw [e,cg]
   ·exact ht u e) g
  rw [N9,ih',bX,bX]
  unfold fj
  rw [HJ g (cg _) _ hk ht]
  show _=_+(t.2 * g (trim t.1)+ev g ts)
  rw [Int.sub_mul,Pf]; lia
theorem Ej (g) (h:A.Perm B):ev g A=ev g B:=by
 induction h with
 | nil=>rfl
 | cons x _ ih=>rw [aU,aU,ih]
 | swap x y l=>rw [aU,aU,aU,aU]; lia
 | trans _ _ a b=>rw [a,b]
theorem A9 (g):∀ A:List aO,ev g (nz A)=ev g A
 | []=>rfl
 | t::A=>by
  unfold nz
  by_cases h:t.2=0
  ·rw [P1 (by simp [h])]
   show ev g (nz A)=t.2 * _+_
   rw [A9 g A,h,Pc,Qs]
  ·rw [O0 (by simp [h])]
   show _+ev g (nz A)=_
   rw [A9 g A]; rfl
theorem Ba (ts):eqv (bC ts) ts:=fun g=>by
 show ev g (eS (nz (aG ts)))=_
 rw [Ej g (bu _),A9,vI ts g]
theorem Ek (A):mp (bC A)=mp A:=dP.mpr (Ba A)
theorem HK (A):mp (aG A)=mp A:=dP.mpr (vI A)
noncomputable def stp {α:Type} (xs:List α) (lo hi st:Option Int):List α:=(sliceRange (sliceBounds lo hi st xs.length).1 (sliceBounds lo hi st xs.length).2.1 (sliceBounds lo hi st xs.length).2.2).filterMap (xs[·]?)
theorem xN (h:Vals xs its):∀ ns:List Nat,Vals (ns.filterMap (xs[·]?)) (ns.filterMap (its[·]?)):=by
 intro ns
 induction ns with
 | nil=>exact .nil
 | cons n ns ih =>
  rw [N7,N7]
  by_cases z:n<xs.length
  ·obtain ⟨u,e,hu⟩:=h.get (M9 z)
   rw [M9 z,e]
   exact .cons hu ih
  ·rw [Oj (by lia),Oj (by rw [← h.length]; lia)]
   exact ih
theorem xO {K:MI} (h:aq K H ds xs):∀ ns:List Nat,aq K H (ns.filterMap (ds[·]?)) (ns.filterMap (xs[·]?)):=by
 intro ns
 induction ns with
 | nil=>exact ay.mpr rfl
 | cons n ns ih =>
  rw [N7,N7]
  by_cases z:n<ds.length
  ·obtain ⟨u,e,hu⟩:=h.get (M9 z)
   rw [M9 z,e]
   exact aC.mpr ⟨_,_,rfl,hu,ih⟩
  ·rw [Oj (by lia),Oj (by rw [← h.length]; lia)]
   exact ih
section
end
section
variable {K:MI}
end
end EV
namespace EV
open PySem PySem.Spec PySem.Calls PyProof.Rows L2
structure Drw (prog:Program) (w:World) (L:List Addr) (i:Addr) (N N':Heap→Prop) (x:Value):Prop where
 keep:∀ {b:Addr} {h h':Heap},b∈L→OV b h h'→N h→N h'
 keep':∀ {b:Addr} {h h':Heap},b∈L→OV b h h'→N' h→N' h'
 run:∀ {A:Around} {E Q:Value→Shared→Prop} {s:Shared},N s.heap→(∀ h',N' h'→Ov i s.heap h'→Q x { s with heap:=h' })→wpAny (model prog w) A (Pq (.ref i)) Q E s
structure Dry (prog:Program) (w:World) (L:List Addr) (i:Addr) (N:Heap→Prop):Prop where
 keep:∀ {b:Addr} {h h':Heap},b∈L→OV b h h'→N h→N h'
 run:∀ {A:Around} {E Q:Value→Shared→Prop} {s:Shared},A.handled=none→N s.heap→(∀ h' e,OV i s.heap h'→(∃ o,h'.get? e=some o∧o.cls=.type "StopIteration")→E (.ref e) { s with heap:=h' })→wpAny (model prog w) A (Pq (.ref i)) Q E s
structure MF (z TI TO i1 i2:Addr):Prop where
 a:TI≠z
 b:TO≠z
 c:i1≠z
 d:i2≠z
 e:TI≠TO
 f:TI≠i1
 g:TI≠i2
 h:TO≠i1
 i:TO≠i2
 j:i1≠i2
section
end
end EV
namespace EV
open PySem PySem.Spec PyProof.Rows L2
section
theorem El (nd:(fp.map (·.1)).Nodup) (hn:∀ a∈fp,aI a.1=none) (fr:∀ a∈fp,H a.1=none) (g:aZ H Hf H1 aI):aZ H Hf (gK AX fp H1) (gK AX fp aI):=by
 have o1:∀ {b:Addr} {o:HO},H b=some o→b∉fp.map (·.1):=fun e m=>by obtain ⟨p,hp,rfl⟩:=cy m; rw [fr p hp] at e; cases e
 refine ⟨fun b o e=>?_,fun b o e=>?_,fun b o e=>?_,fun b h1 h2 h3=>?_⟩
 ·rw [aQ (o1 e)]; exact g.s b o e
 ·have e1:=g.f b o e
  rw [aQ fun m=>by obtain ⟨p,hp,rfl⟩:=cy m; rw [hn p hp] at e1; cases e1]; exact e1
 ·by_cases m:b∈fp.map (·.1)
  ·obtain ⟨p,hp,rfl⟩:=cy m
   rw [fk nd p hp] at e ⊢; exact e
  ·rw [aQ m] at e ⊢; exact g.b b o e
 ·rw [aQ fun m=>by obtain ⟨p,hp,rfl⟩:=cy m; exact h2 (fr p hp)]; exact g.n b h1 h2 h3
end
section
variable {K:MI}
theorem Ku (h:c6 c e ρ fun r=>∃ s,r=.fo s∧R s.d):aF c e ρ R:=fun σ H Hf Q S q aa s I=>by
 refine bw (h σ H Hf (fun v H'=>∃ (sh:Sh) (fp:Fp) (aj:Hp),aW c.X.K H' aj sh v fp∧(fp.map (·.1)).Nodup∧(∀ a∈fp,H a.1=none)∧aZ H Hf H' aj∧R sh.d) S (fun r v H' aj ⟨sh,e,hR⟩ rs g=>by subst e; obtain ⟨fp,r1,r2,r3⟩:=rs; exact ⟨sh,fp,aj,r1,r2,r3,g,hR⟩) aa s I) fun u s1 hh=>z2 hh fun v H1 hh=>w3 hh fun I1 rv hh=>z3 hh fun sh fp aI hh=>w5 hh fun rf nd fr g hR=>?_
 have hz:=aW.fz sh rf
 exact ⟨v,_,lE I1 nd fun a ha=>(hz a ha).1,rv,q sh.d v _ (gK AX fp aI) hR (aW.rep (fun b o e=>by rw [aQ fun m=>by obtain ⟨p,hp,rfl⟩:=cy m; rw [(hz p hp).2] at e; cases e]; exact e) sh (fun a ha=>fk nd a ha) rf) (El nd (fun a ha=>(hz a ha).2) fr g)⟩
end
end EV
namespace EV
open PySem PySem.Spec PySem.Calls PyProof.Rows L2
structure ZS (K:MI) where
 sq:Hp→Addr→List V→Prop
 it:Heap→Addr→Addr→Nat→Prop
 us:Heap→Addr→Array Value→Prop
 dm:List D→D
 cl:String
 rep:∀ {H:Hp} {ds:List D} {v:V},Rep K H (dm ds) v↔∃ a xs,v=.ref a∧sq H a xs∧aq K H ds xs
 same:∀ {H H':Hp} {a:Addr} {xs:List V},aD H H'→sq H a xs→sq H' a xs
 ini:∀ {h:Heap} {i l:Addr},h.get? i=some { cls:=.type cl,data:=.fields #[.ref l,.int 0 0] }→it h i l 0
 get:∀ {X:Cx} {aa:List (Addr×Obj)} {σ:L2.St} {H:Hp} {s:Shared} {l:Addr} {xs:List V},X.K=K→Inv X aa σ H s→sq H l xs→∃ its,Vals xs its∧us s.heap l its.toArray
 inj:∀ {X:Cx} {aa:List (Addr×Obj)} {σ:L2.St} {H:Hp} {s:Shared} {l:Addr} {xs ys:List V},X.K=K→Inv X aa σ H s→sq H l xs→sq H l ys→xs=ys
 ito:∀ {h:Heap} {i l:Addr} {k:Nat},it h i l k→∃ o,h.get? i=some o∧∀ v,o.data≠.cell v
 itk:∀ {h h':Heap} {i l:Addr} {k:Nat},(∀ o,h.get? i=some o→h'.get? i=some o)→it h i l k→it h' i l k
 usk:∀ {h h':Heap} {l:Addr} {a:Array Value},(∀ o,h.get? l=some o→h'.get? l=some o)→us h l a→us h' l a
 uso:∀ {h:Heap} {l:Addr} {a:Array Value},us h l a→∃ o,h.get? l=some o
 run:∀ {prog:Program} {w:World} {i l:Addr} {a:Array Value} {k:Nat} {x:Value} {A:Around} {E Q:Value→Shared→Prop} {s:Shared},l≠i→a[k]?=some x→it s.heap i l k→us s.heap l a→(∀ h',it h' i l (k+1)→Ov i s.heap h'→Q x { s with heap:=h' })→wpAny (model prog w) A (Pq (.ref i)) Q E s
 dry:∀ {prog:Program} {w:World} {i l:Addr} {a:Array Value} {k:Nat} {A:Around} {E Q:Value→Shared→Prop} {s:Shared},A.handled=none→a[k]?=none→it s.heap i l k→us s.heap l a→(∀ h' e,OV i s.heap h'→(∃ o,h'.get? e=some o∧o.cls=.type "StopIteration")→E (.ref e) { s with heap:=h' })→wpAny (model prog w) A (Pq (.ref i)) Q E s
section
variable {K:MI}
end
section
variable (c d:String)
end
section
variable {K:MI}
end
section
variable {K:MI}
end
end EV
namespace EV
open PySem PySem.Spec PyProof.Rows L2
theorem Em {K:MI} {st:Stmt} (m:mg x=some (.ref f)) (Fu:fM K x x st f fd) (h:bz P w K mg base (dR P w) k f fd ps (IX K ok))
 (hb:∀ (kV doc pm:Value) (an:Option Addr) (cdv ct:Value) (us:List Value),us.length=ps.length→bindArgs (Ow x x (dU st) (aB st) (af st) .none kV doc pm an cdv ct) ⟨us,[]⟩=pure (ps.zip us)):Eg P w K mg base k x ok :=
 ⟨f,fd,ps,m,Fu.kp,Fu.binds hb,h⟩
end EV
namespace EV
open PySem PySem.Spec PySem.Calls PyProof.Rows L2
noncomputable abbrev fZ (l:List Int):D:=.tup (l.map .int)
section
variable {X:Cx}
theorem j7 (I:Inv X aa σ H s) (sb:aD Hf H) (h:jJ X.K Hf (fZ l) u):∃ b its,u=.ref b∧IsTup s.heap b its∧IntsAre its.toList l:=by
 obtain ⟨v,rv,q⟩:=h
 obtain ⟨b,ys,rfl,h3,h4⟩:=aE.mp q
 cases rv
 obtain ⟨its2,rel2,tu2,_⟩:=I.tuple (au sb h3)
 have e:=iV h4
 subst e
 exact ⟨b,its2.toArray,rfl,tu2,intsAre_of rel2⟩
theorem Bb (h:fZ x=fZ y):x=y:=by
 simp only [fZ,D.tup.injEq] at h
 exact (List.map_inj_right (f:=D.int) (fun a b e=>by injection e)).mp h
theorem Bc (I:Inv X aa σ H s) (sb:aD Hf H) (h1:jJ X.K Hf (fZ x) u) (h2:jJ X.K Hf (fZ y) u):x=y:=by
 obtain ⟨v,r1,q1⟩:=h1
 obtain ⟨v',r2,q2⟩:=h2
 have:=r1.inj r2
 subst this
 exact Bb (nT I sb 1 _ _ _ (Al x y) q1 q2)
theorem En (L):SR.Fd HT.lexLt L:=⟨fun _ _=>j3 _,fun _ _ _ _ _ _ h g=>sQ h g,fun _ _ _ _ h=>j4 h⟩
noncomputable def Be (L:List (List Int)):SortKind:=open Classical in if ∀ l∈L,l≠[] then tuples' true else if L.head?=some [] then oneType' else general'
theorem Eo (b) (h:Q (decide (m<n)) s):wpAny (model X.prog X.w) A (oneLt' b (.int m t) (.int n u)) Q E s:=by
 cases b with
 | true=>exact oneLt_int h
 | false =>
  rw [oneLt'_eq,if_neg MV]
  exact MG (lt_int (MJ h))
theorem vJ:∀ {vs ws:List Value} {x y:List Int} (i:Nat),IntsAre vs x→IntsAre ws y→x.length+n=y.length+m→Q (HT.lexLt x y) s→PySem.W.KatLex X.prog X.w A b (decide (m<n)) Q (vs.zip ws) i s
 | _,_,_,_,i,.nil,.nil,e,h=>PySem.W.kat_nil (by rw [HT.gM] at h; rw [decide_eq_false (by simp at e; lia)]; exact h)
 | _,_,_,_,i,.nil,.cons c u hw,e,h=>PySem.W.kat_nil (by rw [HT.fK] at h; rw [decide_eq_true (by simp at e; lia)]; exact h)
 | _,_,_,_,i,.cons a t hv,.nil,e,h=>PySem.W.kat_nil (by rw [HT.fL] at h; rw [decide_eq_false (by simp at e; lia)]; exact h)
 | _,_,_,_,i,.cons a t hv,.cons c u hw,e,h=>by
  rw [QY]
  refine PySem.W.kat_cons (wpAny_eqBool_int ?_)
  rw [HT.cB] at h
  by_cases z:a=c
  ·rw [if_pos z] at h
   rw [show (a == c)=true by simpa using z]
   exact PySem.W.kat_yes (vJ (i+1) hv hw (by simp at e; lia) h)
  ·rw [if_neg z] at h
   rw [show (a == c)=false by simpa using z]
   exact PySem.W.kat_no (Eo _ h)
theorem jF:∀ {l:List α} {m:List β} {i:Nat} {b:β},Paired F l m→m[i]?=some b→∃ a,l[i]?=some a∧F a b
 | _,_,_,_,.nil,e=>by simp at e
 | _,_,0,_,.cons r _,e=>by simp at e; subst e; exact ⟨_,rfl,r⟩
 | _,_,i+1,a,.cons _ t,e=>by
  obtain ⟨b,h1,h2⟩:=jF (i:=i) t (by simpa using e)
  exact ⟨b,by simpa using h1,h2⟩
theorem Bf (I:Inv X aa σ H s) (sb:aD Hf H) (h:Paired (fun x u=>jJ X.K Hf (fZ x) u) L us) (h2:2≤us.length) (hQ:Q (Be L) s):wpAny (model X.prog X.w) A (keyKind' us.toArray) Q E s:=by
 have key:∃ fs:List (Option Value),Paired (fun (l:List Int) o=>(l=[]∧o=none)∨∃ n r t,l=n::r∧o=some (Qw n t)) L fs∧Paired (fun u o=>∀ (Q:Option Value→Shared→Prop),Q o s→wpAny (model X.prog X.w) A (firstOfTuple' u) Q E s) us fs:=by
  clear h2 hQ
  induction h with
  | nil=>exact ⟨[],.nil,.nil⟩
  | @cons x u L us r t ih =>
   obtain ⟨fs,e1,e2⟩:=ih
   obtain ⟨a,its,rfl,⟨o,ho,hc,n,hd⟩,ia⟩:=j7 I sb r
   refine ⟨its[0]?::fs,.cons ?_ e1,.cons (fun Q hQ=>?_) e2⟩
   ·rw [← NB]
    generalize its.toList=il at ia
    cases ia with
    | nil=>exact .inl ⟨rfl,rfl⟩
    | cons n t' _=>exact .inr ⟨n,_,t',rfl,rfl⟩
   ·show wpAny _ _ (do
     if (← typeOf (.ref a)) != .type "tuple" then return none
     return (← P5 (.ref a))[0]?) _ _ _
    refine MG (OS (T:="tuple") ⟨o,ho,hc⟩ ?_)
    rw [if_neg (by simp)]
    exact MG (Qo ho hd (MJ hQ))
 obtain ⟨fs,e1,e2⟩:=key
 rw [keyKind'_eq,List.mapM_toArray]
 simp only [bind_map_left]
 refine MG (gY _ _ e2 ?_)
 have typs:∀ {T:String} (vs:List Value) (Q:List Value→Shared→Prop),(∀ v∈vs,s.TypeIs v T)→Q (vs.map fun _=>.type T) s→wpAny (model X.prog X.w) A (vs.mapM typeOf) Q E s:=fun {T} vs Q ht hQ=>by
  refine gY _ _ ?_ hQ
  clear hQ
  induction vs with
  | nil=>exact .nil
  | cons f fs ih=>exact .cons (fun Q hQ=>OS (ht f MW) hQ) (ih fun g hg=>ht g (MX _ hg))
 have el:L.length=us.length:=N4 h
 have ef:L.length=fs.length:=N4 e1
 have oneT:∀ {T:String} (vs:List Value) (Q:Option Value→Shared→Prop),vs≠[]→(∀ v∈vs,s.TypeIs v T)→Q (some (.type T)) s→wpAny (model X.prog X.w) A (oneTypeOnly' vs.toArray) Q E s:=fun {T} vs Q hne ht hQ=>by
  rw [oneTypeOnly'_eq,List.mapM_toArray]
  simp only [bind_map_left]
  refine MG (typs (T:=T) vs _ ht ?_)
  obtain ⟨f,r,rfl⟩:=List.exists_cons_of_ne_nil hne
  have h0:(List.map (fun _=>N1 T) (f::r)).toArray[0]?=some (N1 T):=by simp
  rw [h0]
  dsimp only
  rw [if_pos (by simp)]
  exact MJ hQ
 unfold Be at hQ
 by_cases hall:∀ l∈L,l≠[]
 ·rw [if_pos hall] at hQ
  have e3:∃ gs:List Value,fs=gs.map some∧∀ g∈gs,s.TypeIs g "int":=by
   clear h h2 hQ e2 el ef oneT typs
   induction e1 with
   | nil=>exact ⟨[],rfl,by simp⟩
   | @cons x o L fs r t ih =>
    obtain ⟨gs,q1,q2⟩:=ih fun l hl=>hall l (MX _ hl)
    rcases r with ⟨z,_⟩ | ⟨n,r',t',_,rfl⟩
    ·exact absurd z (hall x MW)
    ·exact ⟨.int n t'::gs,by rw [q1]; rfl,fun g hg=>by
      rcases M0.mp hg with rfl | hg
      ·exact PV s n t'
      ·exact q2 g hg⟩
  obtain ⟨gs,rfl,q2⟩:=e3
  rw [if_pos (by simp)]
  refine MG (N6 ?_)
  have e4:(gs.map some).toArray.filterMap id=gs.toArray:=by simp
  rw [e4]
  refine MG (oneT (T:="int") gs _ (fun z=>by subst z; rw [el,PN,Oo] at ef; lia) q2 (MJ ?_))
  have e6:(some (N1 "int")).any (fun x=>x != N1 "tuple")=true:=by decide
  rw [e6]
  exact hQ
 ·rw [if_neg hall] at hQ
  have hno:¬ (fs.toArray.all fun x=>x.isSome)=true:=fun z=>hall fun l hl hl0=>by
   obtain ⟨i,hi,ei⟩:=List.mem_iff_getElem.mp hl
   obtain ⟨o,ho,r⟩:=cU e1 (M9 hi)
   rw [ei] at r
   have zo:o.isSome=true:=by
    rw [List.all_toArray,List.all_eq_true] at z
    exact z o (NY ho)
   rcases r with ⟨_,rfl⟩ | ⟨n,r',t',e,_⟩
   ·cases zo
   ·rw [hl0] at e; cases e
  rw [if_neg hno]
  cases e1 with
  | nil=>rw [Oo] at el; lia
  | @cons x o L fs r t =>
   have e0:((o::fs).toArray[0]?.bind id)=o:=by simp
   rw [e0]
   rcases r with ⟨rfl,rfl⟩ | ⟨n,r',t',rfl,rfl⟩
   ·rw [if_pos (by simp)] at hQ
    rw [if_neg (by simp)]
    refine MG (oneT (T:="tuple") us _ (fun z=>by subst z; simp at h2) (fun v hv=>?_) (MJ hQ))
    obtain ⟨i,hi,ei⟩:=List.mem_iff_getElem.mp hv
    obtain ⟨l,_,r⟩:=jF h (M9 hi)
    rw [ei] at r
    obtain ⟨a,its,rfl,⟨o,ho,hc,n,hd⟩,ia⟩:=j7 I sb r
    exact ⟨o,ho,hc⟩
   ·rw [if_neg (by simp)] at hQ
    rw [if_pos (by simp)]
    exact MJ hQ
theorem HL (I:Inv X aa σ H s) (sb:aD Hf H) (hA:A.units+10<cLine) (hx:jJ X.K Hf (fZ x) u) (hy:jJ X.K Hf (fZ y) v) (hQ:Q (HT.lexLt x y) s):wpAny (model X.prog X.w) A (keyLt' (Be L) u v) Q E s:=by
 obtain ⟨a,its,rfl,ta,ia⟩:=j7 I sb hx
 obtain ⟨b,its2,rfl,tb,ib⟩:=j7 I sb hy
 have hu:A.units<cLine:=by lia
 have gen:wpAny (model X.prog X.w) A (oneLt' false (.ref a) (.ref b)) Q E s:=PySem.W.kat_one _ _ (HT.r6 ta tb ia ib hu hQ)
 obtain ⟨⟨cls,dd,data,sl⟩,ho,hc,n,hd⟩:=id ta
 obtain ⟨⟨cls2,dd2,data2,sl2⟩,ho2,hc2,n2,hd2⟩:=id tb
 simp only at hc hd hc2 hd2
 subst hc hd hc2 hd2
 unfold Be
 split
 ·exact PySem.W.kat_lt ho rfl ho2 rfl (vJ (m:=its.size) (n:=its2.size) 0 ia ib (by have:=ia.length; have:=ib.length; simp only [NC] at *; lia) hQ)
 ·split
  ·rw [keyLt'_oneType,oneLt'_eq]
   simp only [if_true]
   refine MG (wpAny_cRoomFor hu ?_)
   refine MG (wpAny_callSpecialIfBound?_slot ⟨_,ho,rfl⟩ RT (PX RT ⟨_,ho,rfl⟩ PySem.F.entry_tuple_lt (PySem.F.args_tuple_lt_2 _ _) (HT.gO a b its its2 n n2 dd dd2 sl sl2 x y ia ib) ⟨ho,ho2,?_⟩))
   exact P9 hQ
  ·exact gen
end
section
open PySem in
theorem Bg (hd:(d == sysModules)=false) (ho:s.heap.get? d=some o) (hx:o.ExactDict) (hdat:o.data=.dict es ep)
 (hQ:Q (.ref s.heap.objs.size) { s with heap:=s.heap.push { cls:=.type "dict_keyiterator",data:=.fields #[.ref d,.int 0 0,.int es.size 0,.int ep 0] } }) :
 wpAny (model prog w) A (pyIter (.ref d)) Q E s:=by
 have hT:s.TypeIs (.ref d) "dict":=⟨o,ho,hx.1⟩
 refine R7 hT F.slot_dict_iter (Oe F.slot_dict_iter hT F.entry_dict_iter ?_ (F.args_dict_iter_1 _))
 unfold Builtin.«dict.__iter__»
 refine MG ?_
 unfold Builtin.Dict.dictSlotNone
 refine MG (wpAny_notOrdered_dict hT ?_)
 show wpAny _ _ (pure (Nc d)) _ _ s
 refine MJ ?_
 show wpAny _ _ (QN d >>= _) _ _ s
 unfold QN
 rw [if_neg (by rw [hd]; exact MV)]
 refine MG (MJ ?_)
 refine MG (PD ho hdat ?_)
 refine MG (PJ ho hdat ?_)
 refine MG (NQ (MJ ⟨_,rfl,"dict_keyiterator",_,⟨_,M3 _ rfl,rfl⟩,PZ.lookup,?_⟩))
 simpa [rawInt] using hQ
theorem Bh (hit:s.heap.IsKeyIter it d i es.size ep)
 (hod:s.heap.get? d=some od) (hdd:od.data=.dict es ep) (hx:es[i]?=some e)
 (hQ:∀ h',h'.IsKeyIter it d (i+1) es.size ep→Ov it s.heap h'→Q (some e.key) { s with heap:=h' }) :
 wpAny (model prog w) A (pyNext (.ref it)) Q E s:=by
 obtain ⟨o,ho,hc,hd⟩:=id hit
 unfold pyNext
 refine MG (OR (OI (name:=MH "__next__") hit.typeIs PZ
  (Oe PZ hit.typeIs SH ?_ (SD _))))
 refine MG (MJ ?_)
 refine MG ?_
 refine MG ?_
 first | refine MG (Qz hit.typeIs (MJ ?_)) | refine MG (QE hit.typeIs (MJ ?_))
 refine MG (Rh ho hd ?_)
 have hown:RD "dict_keyiterator"=false:=by decide
 simp only [hown,ND,if_false]
 show wpAny _ _ (if (Nc d == NO)=true then _ else _) _ _ s
 rw [if_neg (show ¬ ((Nc d == NO)=true) from MV)]
 refine MG (MJ ?_)
 refine MG (PD hod hdd ?_)
 rw [if_neg (by simp)]
 refine MG (MJ ?_)
 refine MG (PJ hod hdd ?_)
 rw [if_neg (by simp)]
 refine MJ ?_
 simp only [show ¬ ((i:Int)<0) from by omega,if_false,NN,hx]
 refine MG ?_
 first | refine MG (Qz hit.typeIs (MJ ?_)) | refine MG (QE hit.typeIs (MJ ?_))
 refine MG (wpAny_isOneOf_keyiter hit.typeIs ?_)
 show wpAny _ _ (setField (.ref it) 1 (rawInt ((i:Int)+1)) >>= _) _ _ s
 refine MG (Qi ho hd (by simp) ?_)
 have hit':(s.heap.update it (Obj.mapFields (·.setIfInBounds 1 (rawInt ((i:Int)+1))))).IsKeyIter it d (i+1) es.size ep :=
  ⟨_,Heap.get?_update_self _ ho (Obj.isFreed_of_fields (QX hd _)),(Obj.cls_mapFields ..).trans hc,by rw [QX hd]; simp [rawInt]⟩
 refine MG (NX ?_)
 refine MG (wpAny_isOneOf_keyiter (s:={ s with heap:=s.heap.update it (Obj.mapFields (·.setIfInBounds 1 (rawInt ((i:Int)+1)))) }) hit'.typeIs ?_)
 show wpAny _ _ (pure e.key) _ _ _
 exact MJ (MJ ⟨_,rfl,MJ (hQ _ hit' (P8 ..))⟩)
theorem Ep (hh:A.handled=none) (hit:s.heap.IsKeyIter it d i es.size ep)
 (hod:s.heap.get? d=some od) (hdd:od.data=.dict es ep) (hge:es.size≤i)
 (hQ:∀ h',OV it s.heap h'→Q none { s with heap:=h' }):wpAny (model prog w) A (pyNext (.ref it)) Q E s:=by
 obtain ⟨o,ho,hc,hd⟩:=id hit
 unfold pyNext
 refine MG (OR (OI (name:=MH "__next__") hit.typeIs PZ
  (Oe PZ hit.typeIs SH ?_ (SD _))))
 refine MG (MJ ?_)
 refine MG ?_
 refine MG ?_
 first | refine MG (Qz hit.typeIs (MJ ?_)) | refine MG (QE hit.typeIs (MJ ?_))
 refine MG (Rh ho hd ?_)
 have hown:RD "dict_keyiterator"=false:=by decide
 simp only [hown,ND,if_false]
 show wpAny _ _ (if (Nc d == NO)=true then _ else _) _ _ s
 rw [if_neg (show ¬ ((Nc d == NO)=true) from MV)]
 refine MG (MJ ?_)
 refine MG (PD hod hdd ?_)
 rw [if_neg (by simp)]
 refine MG (MJ ?_)
 refine MG (PJ hod hdd ?_)
 rw [if_neg (by simp)]
 refine MJ ?_
 simp only [show ¬ ((i:Int)<0) from by omega,if_false,NN,Array.getElem?_eq_none hge]
 refine MG ?_
 first | refine MG (Qz hit.typeIs (MJ ?_)) | refine MG (QE hit.typeIs (MJ ?_))
 show wpAny _ _ (setField (.ref it) 0 .none >>= _) _ _ s
 refine MG (Qi ho hd (by simp) ?_)
 show wpAny _ _ (newExc (.type "StopIteration") [] >>= _) _ _ _
 refine MG ?_
 simp only [newExc,newTuple]
 refine MG (NQ ?_ (by size_fits))
 refine MG (m:=firstArgMember _ _) (wpAny_of_eq (a:=NO) (by first | rfl | (simp only [firstArgMember]; rfl)) ?_)
 refine NQ ?_ (by size_fits)
 simp only [raiseNew]
 refine MG (wpAny_handled ?_)
 rw [show A.in1.handled=none from hh]
 refine MG (MJ (wpAny_throw ?_))
 refine MG (Q7 (T:="StopIteration") (b:=true) ⟨_,M3 _ rfl,rfl⟩ isSubtype_stop ?_)
 exact MJ (hQ _ (((P8 ..).extBut.push _).push _))
end
section
variable {X:Cx} {aa:List (Addr×Obj)} {σ:L2.St} {H Hf:Hp} {s:Shared} {E:Value→Shared→Prop} {α:Type} {enc:α→D} {lt:α→α→Bool} {κ:SortKind}
structure Kv (X:Cx) (enc:α→D) (lt:α→α→Bool) (κ:SortKind) (L:List α):Prop where
 lin:SR.Fd lt L
 inj:∀ (aa:List (Addr×Obj)) (σ:L2.St) (H Hf:Hp) (s:Shared),Inv X aa σ H s→aD Hf H→∀ x y u,jJ X.K Hf (enc x) u→jJ X.K Hf (enc y) u→x=y
 kind:∀ (aa:List (Addr×Obj)) (σ:L2.St) (H Hf:Hp) (s:Shared) (A:Around) (E:Value→Shared→Prop),Inv X aa σ H s→aD Hf H→∀ us:List Value,Paired (fun x u=>jJ X.K Hf (enc x) u) L us→2≤us.length→∀ Q:SortKind→Shared→Prop,Q κ s→wpAny (model X.prog X.w) A (keyKind' us.toArray) Q E s
 cmp:∀ (aa:List (Addr×Obj)) (σ:L2.St) (H Hf:Hp) (s:Shared) (A:Around) (E:Value→Shared→Prop),Inv X aa σ H s→aD Hf H→A.units+10<cLine→∀ (x y:α) (u v:Value),jJ X.K Hf (enc x) u→jJ X.K Hf (enc y) v→∀ Q:Bool→Shared→Prop,Q (lt x y) s→wpAny (model X.prog X.w) A (keyLt' κ u v) Q E s
theorem Er (L):Kv X fZ HT.lexLt (Be L) L :=
 ⟨En L,fun _ _ _ _ _ I sb _ _ _ h1 h2=>Bc I sb h1 h2,fun _ _ _ _ _ _ _ I sb _ p h2 _ hQ=>Bf I sb p h2 hQ,fun _ _ _ _ _ _ _ I sb hA _ _ _ _ hx hy _ hQ=>HL I sb hA hx hy hQ⟩
theorem xP {Q:Value→Shared→Prop} (hs:Kv X enc lt κ L) (I:Inv X aa σ H s) (sb:aD Hf H) (hA:A.units+20<cLine) (hr:aq X.K Hf (L.map enc) xs) (hv:Vals xs us) (hz:us.length≤sizeLine) (nd:L.Nodup)
 (hkw:∀ l,Builtin.«list.sort» ⟨[.ref l],kw⟩=Builtin.«list.sort» ⟨[.ref l],[(MH "reverse",.bool b)]⟩) (hka:∀ l,argsOk "list.sort" ⟨[.ref l],kw⟩)
 (hQ:∀ (L':List α) (xs':List V) (s':Shared),L'.Perm L→fh lt b L'→aq X.K Hf (L'.map enc) xs'→xs'.length≤sizeLine→Inv X aa σ (upd H s.heap.objs.size (.lst xs')) s'→Q (.ref s.heap.objs.size) s') :
 wpAny (model X.prog X.w) A (newList us >>= fun l=>(holding [l] (call (.builtin "list.sort") [l] kw) >>= fun _=>ret l)) (fun fin s'=>∃ v,fin=.done (.ret v)∧Q v s') E s:=by
 refine MG (Qk ?_ hz)
 have ha:(s.heap.push (seqObj "list" us.toArray 0)).get? s.heap.objs.size=some (seqObj "list" us.toArray 0):=M3 _ rfl
 have I1:Inv X aa σ H { s with heap:=s.heap.push (seqObj "list" us.toArray 0),toks:=s.toks }:=I.kept fun b o e=>MQ _ e
 have Ha:H s.heap.objs.size=none:=I.hok.fresh (ML _)
 obtain ⟨f0,f1,f2,f3,f4,f5⟩:=I.lR (H':=H) (ML _) Ha
 have pL:=k7 hr hv
 refine MG (NX (RW slot_list_sort ⟨_,ha,rfl⟩ entry_list_sort (by
  rw [hkw]
  refine SR.nc (κ:=κ) (rk:=SR.wY (fun x u=>jJ X.K Hf (enc x) u) lt L) (b:=b) ha ?_ hz fun out hp ho=>⟨_,rfl,?_⟩
  ·intro h' k
   have I2:=I1.turned (h':=h') (t':=s.toks) (it:=s.heap.objs.size) (fun b o hb e=>k b o hb e) f0 f1 f3 f4 f5
   refine ⟨fun Q E h2 hQ=>hs.kind _ _ _ _ _ _ _ I2 sb _ pL h2 _ hQ,SR.Aj (fun x y u h1 h2=>hs.inj _ _ _ _ _ I2 sb x y u h1 h2) hs.lin pL fun x _ y _ u v hx hy E Q hQ=>hs.cmp _ _ _ _ _ _ _ I2 sb ?_ _ _ _ _ hx hy _ hQ⟩
   show A.units+1+10<cLine
   lia
  ·obtain ⟨L',p1,p2,p3⟩:=SR.qB (S:=fun x u=>jJ X.K Hf (enc x) u) (fun x y u h1 h2=>hs.inj _ _ _ _ _ I sb x y u h1 h2) hs.lin nd pL hp ho
   obtain ⟨xs',r',v'⟩:=k8 p3
   obtain ⟨e,he⟩:=sortedHeap_at (vs:=us) (out:=out) ha
   have hl:out.toList.length=us.length:=hp.length_eq
   refine MJ ⟨_,rfl,hQ L' xs' _ p1 p2 r' ?_ ?_⟩
   ·have:=v'.length; lia
   ·refine I.laid (t':=s.toks) (fun b o q=>?_) (ML _) ⟨by have:=v'.length; lia,out.toList,e,v',by simpa using he⟩
    have lt:=MR q
    rw [sortedHeap_old (Nh lt) (by rw [size_push']; exact Q0 lt)]
    exact MQ _ q) (hka _)))
end
theorem lY:argsOk "sorted" ⟨[a],[]⟩:=by unfold argsOk; kernel_rfl
theorem args_list_sort_1:argsOk "list.sort" ⟨[a],[]⟩:=by unfold argsOk; kernel_rfl
noncomputable def Kw (d:Addr) (o:Obj) (u:HO):It :=
 ⟨fun i H=>H d=some (.frz o u)∧i<(bJ u).length,fun i H x H'=>H'=H∧∃ y,(bJ u)[i]?=some y∧x=y.1,fun i H=>H d=some (.frz o u)∧(bJ u).length≤i⟩
theorem tG {P:Program} {w:World} {K:MI} {tg:Expr} {d j:Addr} {o:Obj} {u:HO} {es:Array DictEntry} {ep:Nat} (hd:HO.dct u) (hod:o.data=.dict es ep) (hes:es.size=(bJ u).length):Turn P w K tg (Kw d o u) [j] j (fun i h=>h.IsKeyIter j d i es.size ep) where
 mem:=M4.mpr rfl
 obj:=fun i h ⟨q,e,_,hd⟩ b hb=>by
  obtain rfl:b=j:=M4.mp hb
  exact ⟨_,e,fun v z=>by rw [hd] at z; cases z⟩
 keep:=fun i h h' ⟨q,e,r⟩ k=>⟨q,k j (M4.mpr rfl) _ e,r⟩
 item:=by
  intro X hP hw hK hc i aa s σ H E I hf st hg
  subst hP hw hK
  obtain ⟨f0,f1,f2,f3,f4,f5⟩:=hf j (M4.mpr rfl)
  obtain ⟨hH,hi⟩:=hg
  obtain ⟨ho,ok⟩:=(show aX X.prog X.w H s.heap d (.frz o u) from I.hok d _ hH)
  obtain ⟨_,es',ep',e1,e2,_⟩:=cE ok hd ho
  rw [hod] at e1; cases e1
  obtain ⟨e,he,re⟩:=cU e2 (M9 hi)
  have he':es[i]?=some e:=by simpa using he
  refine Bh st ho hod he' fun h' hit' hs'=>?_
  have I1:Inv X aa σ H { s with heap:=h',toks:=s.toks }:=I.turned (fun b o hb e=>hs'.extBut b o hb e) f0 f1 f3 f4 f5
  obtain ⟨q,eq,qc,qd⟩:=id hit'
  exact ⟨_,rfl,l8 (s:={ s with heap:=h',toks:=s.toks }) (n:="dict_keyiterator") eq qc qd (by decide) ⟨_,H,I1,re.1,⟨rfl,_,M9 hi,rfl⟩,hit',fun b hb=>(hf b hb).1⟩⟩
 done:=by
  intro X hP hw hK hc i aa s σ H E I hf st hg
  subst hP hw hK
  obtain ⟨f0,f1,f2,f3,f4,f5⟩:=hf j (M4.mpr rfl)
  obtain ⟨hH,hi⟩:=hg
  obtain ⟨ho,ok⟩:=(show aX X.prog X.w H s.heap d (.frz o u) from I.hok d _ hH)
  exact Ep (I.ok.hd hc) st ho hod (by rw [hes]; exact hi) fun h' eb=>⟨rfl,I.turned (t':=s.toks) (fun b o hb e=>eb b o hb e) f0 f1 f3 f4 f5⟩
 self:=fun _ _ _ _ _ st h=>wpAny_pyIter_keyiter st h
theorem tH {K:MI} {Hf:Hp} {d:Addr} {o:Obj} {ys:List (List Key×Addr×V)} {ks:List (List Int)} (hH:Hf d=some (.frz o (.dT ys))) (hk:ys.map (·.1)=ks.map (·.map M6)) (hs:∀ y∈ys,cQ K Hf y.2.1 (y.1.map kV)):jh K (Kw d o (.dT ys)) (ks.map fZ) Hf where
 go:=fun i x H aI s1 s2 e=>by
  rw [MS,MZ] at e
  obtain ⟨n,hn,rfl⟩:=e
  have hq:=congrArg (fun l=>l[i]?) hk
  simp only [MS,hn,Option.map_some] at hq
  obtain ⟨y,hy,ey⟩:=MZ.mp hq
  have hp:(bJ (.dT ys))[i]?=some (.ref y.2.1,y.2.2):=by
   show (ys.map _)[i]?=_
   rw [MS,hy]; rfl
  refine ⟨⟨s2 _ _ (s1 _ _ hH),(MU.mp hp).1⟩,fun v H' ⟨e1,y',e2,e3⟩=>?_⟩
  rw [hp] at e2; cases e2
  subst e1 e3
  refine ⟨aI,.refl s2,aE.mpr ⟨y.2.1,y.1.map kV,rfl,au s1 (hs y (NY hy)),?_⟩⟩
  rw [ey,Na]
  exact jf n
 stop:=fun i H aI s1 s2 e=>⟨s2 _ _ (s1 _ _ hH),by
  have:=congrArg Pd hk
  show (ys.map _).length≤i
  simp only [MO] at this e ⊢
  lia⟩
section
theorem oQ (hc:X.calm=true) (I:Inv X aa σ H s) (sb:aD Hf H) (hA:X.A.units+60<cLine) (hH:Hf d=some (.frz o (.dT ys))) (hk:ys.map (·.1)=ks.map (·.map M6)) (hq:∀ y∈ys,cQ X.K Hf y.2.1 (y.1.map kV)) (nd:ks.Nodup)
 (hQ:∀ (L':List (List Int)) (xs':List V) (s':Shared) (H' aj:Hp) (a:Addr),L'.Perm ks→fh HT.lexLt false L'→aq X.K aj (L'.map fZ) xs'→aZ H Hf H' aj→H' a=none→Inv X aa σ (upd H' a (.lst xs')) s'→Q (.ref a) s') :
 wpAny (model X.prog X.w) X.A (call (.builtin "sorted") [.ref d]) Q E s:=by
 refine call_function_entry kind_sorted plain_sorted entry_sorted lY ?_
 unfold Builtin.«sorted»
 refine MG (m:=checkCount "sorted" 1 1 _) (MJ ?_)
 have h1:X.A.in1.handled=none:=I.ok.hd hc
 have h2:X.A.in1.frames=some X.stack:=I.ok.frames
 obtain ⟨ho,ok⟩:=(show aX X.prog X.w H s.heap d (.frz o (.dT ys)) from I.hok d _ (sb _ _ hH))
 obtain ⟨hx,es,ep,e1,e2,hs,hz⟩:=cE ok trivial ho
 have hsz:es.size=(bJ (.dT ys)).length:=by rw [N4 e2]; simp
 have hn:(ks.map fZ).length=(bJ (.dT ys)).length:=by have:=congrArg Pd hk; show _=(ys.map _).length; simp only [MO] at this ⊢; lia
 have ty:∀ s':Shared,(∀ b o,s.heap.get? b=some o→s'.heap.get? b=some o)→s'.TypeIs (.ref d) "dict":=fun s' k=>⟨o,k _ _ ho,hx.1⟩
 refine MG (k6 (X:=DM X X.A.in1) (H:=H) (Hf:=Hf) (ds:=ks.map fZ) (T:="dict") hc h1 h2 (jm I (fun _=>h1) h2) sb (MR ho) (by lia) (by decide) (fun s' k=>ty s' k) (fun A s' Q E q h=>nv q h) (fun A s1 H1 E I1 sb1 k1=>?_) fun us s' H' aj xs I' rv rr g hz'=>?_)
 ·refine Bg hs (k1 _ _ ho) hx e1 ?_
  refine ⟨_,_,_,rfl,ML _,I1.kept (t':=s1.toks) fun b o e=>MQ _ e,tG (u:=.dT ys) trivial e1 hsz,⟨_,M3 _ rfl,rfl,rfl⟩,fun b hb=>?_,fun b o e=>MQ _ e,tH hH hk hq⟩
  obtain rfl:b=s1.heap.objs.size:=M4.mp hb
  exact I1.lR (ML _) (I1.hok.fresh (ML _))
 ·have I2:=fS I.ok I'
  have el:=rr.length
  have el2:=rv.length
  refine xP (b:=false) (Er ks) I2 g.b ?_ rr rv (by lia) nd (fun _=>rfl) (fun _=>args_list_sort_1) fun L' xs' s2 p1 p2 p3 p4 I3=>hQ L' xs' s2 H' aj _ p1 p2 p3 g (I2.hok.fresh (ML _)) I3
  show X.A.units+1+20<cLine
  lia
end
section
variable {K:MI} {c:Ctx P w K mg base k N sc bk}
theorem Bj (hm:mg "sorted"=none) (h:aF c e ρ fun d=>∃ (ks:List (List Int)) (ds:List D),d=.fdT (ks.map (·.map M6)) ds∧Sd ks.Nodup (∀ L':List (List Int),L'.Perm ks→fh HT.lexLt false L'→R (.ow (L'.map fZ))))
 (hg:sc.names.lookup (MH "sorted")=some .globalImplicit:=by walk_at "u")
 (he:∀ env,starEach [e] env=(false,eval e env)::starEach [] env:=by intro _; walk_at "u")
 (hpl:∀ env,(backTo pos (starEach [] env)).any (·.1)=false:=by intro _; walk_at "u") :
 c6 c (.Call (.Name "sorted" np) [e] [] pos) ρ R:=fun σ H Hf Q S q aa s I=>by
 have hgl:Gl c.X "sorted":=by unfold Gl Nz; rw [c.esc]; exact hg
 refine Ol (c7 I hgl (by rw [c.emg]; exact hm) (show bootBuiltins "sorted"=some (.builtin "sorted") by decide +kernel) ?_ (by decide) (by decide))
 have hpa:=bL (X:=c.X) (e:=e) (es:=[]) cO c8 (he _)
 refine RC (bw (hpa pos aa s σ H (fun vs H1=>∃ x,vs=[x]∧∃ (ks:List (List Int)) (ds:List D) (aI:Hp),Rep c.X.K aI (.fdT (ks.map (·.map M6)) ds) x∧ks.Nodup∧aZ H Hf H1 aI∧∀ L':List (List Int),L'.Perm ks→fh HT.lexLt false L'→R (.ow (L'.map fZ))) I ?_) fun us s1 hh=>z2 hh fun vs H1 hh=>w3 hh fun I1 r1 hh=>hh.elim fun x hh=>w2 hh fun ex hh=>z3 hh fun ks ds aI hh=>w4 hh fun e1 e7 e8 e9=>?_) (he _) (hpl _)
 ·exact h σ H Hf _ S fun d v H1 aI ⟨ks,ds,hp,⟨hn,hR⟩⟩ rv g=>⟨_,rfl,ks,ds,aI,by rw [← hp]; exact rv,hn,g,hR⟩
 ·subst ex
  obtain ⟨a0,ys,o,rfl,hs,hk,hq,hr⟩:=iG.mp e1
  have eu:us=[.ref a0]:=by
   cases r1 with
   | cons q1 q2=>cases q2; cases q1; rfl
  subst eu
  refine oQ c.calm I1 e8.b ?_ hs hk hq e7 fun L' xs' s' H' aj a p1 p2 p3 g na I3=>?_
  ·have:=c.room.un
   lia
  ·have gg:=e8.trans g
   exact ⟨.ref a,_,I3,rfl,q (.ow (L'.map fZ)) _ _ aj (e9 L' p1 p2) ⟨a,xs',rfl,gg.s.free na,ah,g.b.free na,p3⟩ (gg.trans (aZ.fN g.b na))⟩
end
section
noncomputable def Kx:V→List V→Hp→VK→Prop:=fun x vs H Q=>∃ l xs y,x=.ref l∧vs=[.int 0,y]∧H l=some (.lst xs)∧xs.length<sizeLine∧Q .non (upd H l (.lst (y::xs)))
theorem Es:Mi X "list.insert" Kx:=by
 intro aa s σ H x vs v us Q I rx rv h
 obtain ⟨l,xs,y,rfl,rfl,hH,hz,q⟩:=h
 cases rx
 cases rv with
 | cons r0 rv =>
  obtain ⟨t,rfl⟩:=r0
  obtain ⟨u,rfl,ru⟩:=Vals.one rv
  obtain ⟨z,its,n,r,hl,e⟩:=I.pG hH
  refine PX F.slot_list_insert ⟨_,e,rfl⟩ F.entry_list_insert (F.args_list_insert_3 _ _ _) (PySem.AutoSeq1.list_insert_list_int_val_1 l its.toArray n 0 t u (by decide) (by rw [M7]; lia)) ⟨e,?_⟩
  refine ⟨.non,_,I.sd (its':=u::its) hH e (by simp) (.cons ru r) ?_,rfl,q⟩
  rw [Nl]
  lia
end
section
variable {K:MI} {c:Ctx P w K mg base k N sc bk}
theorem HM (hN:At N i x) (hi:At ρ i r) (hr:r.getL=some ds) (h:aF c e ρ fun d=>Sd (ds.length<sizeLine) (Nx ρ i nx (r.putL (d::ds))))
 (hs:∀ env,swapsWith (.Call (.Attribute (.Name x px) "insert" ap) [.Constant (.int 0) j p0,e] [] cp) none pos.line env=pure false:=by intro _; walk_at "u") (hd:(x == ("__debug__":Str))=false:=by decide) (hcd:(x == ("__classdict__":Str))=false:=by decide)
 (hbase:∀ env,attributeBase (.Name x px) "insert" env (eval (.Name x px) env)=eval (.Name x px) env:=by intro _; walk_at "u")
 (hfew:∀ env,((backTo cp (starEach [.Constant (.int 0) j p0,e] env)).all (fun x=> !x.1) && (backToKw cp (keywordEach [] env)).all (fun x=>x.1.isSome)
   && decide (([.Constant (.int 0) j p0,e]:List Expr).length+([]:List Keyword).length+(if ([]:List Keyword).isEmpty then 0 else 1)<30))=true:=by intro _; walk_at "u")
 (hline:(ap.endLine == cp.line)=true:=by walk_at "u") (he0:∀ env,starEach [.Constant (.int 0) j p0,e] env=(false,eval (.Constant (.int 0) j p0) env)::starEach [e] env:=by intro _; walk_at "u") (he:∀ env,starEach [e] env=(false,eval e env)::starEach [] env:=by intro _; walk_at "u") (hpl:∀ env,(backTo cp (starEach [e] env)).any (·.1)=false:=by intro _; walk_at "u") :
 eE c (.Expr (.Call (.Attribute (.Name x px) "insert" ap) [.Constant (.int 0) j p0,e] [] cp) pos) ρ nx p:=fun σ H Hf D S o=>by
 obtain ⟨q,eq,rq⟩:=S.own hi.get (cS hr)
 obtain ⟨xs,h1,h2,h3⟩:=GR hr rq
 refine dH (jR (EX PySem.F.plainAttrs_list PySem.F.slot_list_insert PySem.F.type_list_insert Es (c.kF hN hd hcd) (bL yq (bL cO c8 (he _)) (he0 _)) (hbase _) (hfew _) hline (he0 _) (hpl _)) (hs _)) ⟨_,eq,.inl ⟨rfl,xs,.inl (.inl h1)⟩,?_⟩
 refine h σ H Hf _ S fun d v H' aj ⟨hz,ρ',hs',hn⟩ rd g=>?_
 have S':=S.ck g
 have e1:H' q=some (.lst xs):=g.s _ _ h1
 have e2:aj q=none:=g.n q h2 (by rw [h1]; simp) (by intro ys; rw [h1]; simp)
 refine ⟨q,xs,v,rfl,rfl,e1,by rw [← h3.length]; exact hz,?_⟩
 refine o.nx _ _ aj ρ' ?_ hn
 rw [hs'.eq]
 have rq':=rq.ck g
 exact S'.upd hi.get (cS hr) eq (gw g.b e2) (kG hr rq' ah e2 (.cons rd (h3.mono g.f))) (gS hr)
end
end EV
namespace EV
open PySem PySem.Spec PyProof.Rows L2
theorem vK {α:Type}:∀ ys:List α,(Ny ys.length).filterMap (ys[·]?)=ys
 | []=>rfl
 | y::ys=>by
  rw [Nl,List.range_succ_eq_map,N7]
  show y::_=_
  rw [R4]
  exact congrArg (y:: ·) (vK ys)
theorem qU {α β:Type} {f g:α→Option β}:∀ {l:List α},(∀ x∈l,f x=g x)→l.filterMap f=l.filterMap g
 | [],_=>rfl
 | x::l,h=>by rw [N7,N7,h x MW,qU fun y hy=>h y (MX _ hy)]
theorem Bk {α:Type} (xs:List α):List.filterMap ((xs[·]?)∘fun i=>xs.length - 1 - i) (Ny xs.length)=xs.reverse:=by
 have h:=vK xs.reverse
 rw [R0] at h
 refine Eq.trans (qU fun k hk=>?_) h
 exact (List.getElem?_reverse (Rl.mp hk)).symm
theorem vL (xs:List α):stp xs none none (some (-1))=xs.reverse:=by
 unfold stp sliceBounds
 simp only [Option.getD_some,show ¬ ((-1:Int)>0) by decide,if_false]
 have e:sliceRange ((xs.length:Int) - 1) (-1) (-1)=(Ny xs.length).map fun i=>xs.length - 1 - i:=by
  unfold sliceRange
  simp only [show ¬ ((-1:Int)>0) by decide,if_false]
  have c:(if (xs.length:Int) - 1> -1 then ((xs.length:Int) - 1 - -1 - -1 - 1) / (- -1) else 0)=(xs.length:Int):=by
   split
   ·rw [show (- -1:Int)=1 by decide,Int.ediv_one]; omega
   ·omega
  rw [c,NN]
  refine OA fun k hk=>?_
  have:=Rl.mp hk
  omega
 rw [e,R4]
 exact Bk xs
noncomputable def Ma (X:Cx) (te:TE) (tl th ts:TO):TE:=fun σ H Q=>te σ H fun x H1=>tl σ H1 fun l H2=>th σ H2 fun u H3=>ts σ H3 fun t H4=>∃ a xs k,x=.ref a∧gu X.K H4 a xs∧l=none∧u=none∧t=some k∧k= -1∧∀ p,H4 p=none→Q (.ref p) (upd H4 p (.lst (stp xs l u (some k))))
section
variable {lo hi:Option Expr} {st:Expr}
theorem HN (he:PE X e te) (hl:PO X lo tl) (hu:PO X hi th) (ht:PO X (some st) ts):PE X (.Subscript e (.Slice lo hi (some st) p2) pos) (Ma X te tl th ts):=by
 intro aa s σ H Q I h
 refine Subscript_ (bw (he aa s σ H _ I h) fun v s1 ⟨x,H1,I1,r1,q1⟩=>?_)
 refine wpAny_Slice (bw (hl aa s1 σ H1 _ I1 q1) fun vl s2 ⟨l,H2,I2,pl,q2⟩=>bw (hu aa s2 σ H2 _ I2 q2) fun vu s3 ⟨u,H3,I3,pu,q3⟩=>bw (ht aa s3 σ H3 _ I3 q3) fun vt s4 ⟨t,H4,I4,pt,q4⟩=>?_)
 obtain ⟨a,xs,k,rfl,hx,rfl,rfl,rfl,rfl,q⟩:=q4
 have I5:Inv X aa σ H4 { s4 with heap:=s4.heap.push { cls:=.type "slice",data:=.fields #[vl,vu,vt] } }:=I4.kept (t':=s4.toks) fun b ob q=>MQ _ q
 cases r1
 obtain ⟨its,r,hi,hz⟩:=I5.list hx
 have hlen:=r.length
 show wpAny (model X.prog X.w) X.A (subscriptTail e (.Slice lo _ (some st) p2) (.ref a) (.ref s4.heap.objs.size)) (EP X aa σ Q) X.xe { s4 with heap:=s4.heap.push { cls:=.type "slice",data:=.fields #[vl,vu,vt] } }
 refine tail_any (ops:=[.ref a,.ref s4.heap.objs.size]) hi.isList.typeIs R9.lookup ?_ (by walk_at "u")
 refine wpAny_getItem_list_slice hi.isList (Heap.IsSliceOf.new ..) pl pu pt (by decide) ?_ (by rw [M7] <;> lia)
 have I6:=I5
 generalize hS:({ s4 with heap:=s4.heap.push { cls:=.type "slice",data:=.fields #[vl,vu,vt] } }:Shared)=S at I6 ⊢
 have ep:slicePick its.toArray none none (some (-1))=(stp its none none (some (-1))).toArray:=by
  unfold slicePick stp
  simp only [M7,List.getElem?_toArray]
 rw [ep]
 refine ⟨.ref S.heap.objs.size,_,I6.laid (t':=S.toks) (o:=.lst (stp xs none none (some (-1)))) (fun b ob q=>MQ _ q) (ML _) ?_,rfl,q _ (I6.hok.fresh (ML _))⟩
 exact ⟨by rw [vL,R0]; exact hz,_,0,by unfold stp; rw [hlen]; exact xN r _,M3 _ rfl⟩
end
section
variable {K:MI}
theorem Ky {lo hi:Option Expr} {st:Expr} (h:aF c e ρ fun x=>Cm c lo ρ fun l=>Cm c hi ρ fun u=>Cm c (some st) ρ fun t=>l=none∧u=none∧t=some (-1)∧∃ ds,x=.lst ds∧R (.ow ds.reverse)):c6 c (.Subscript e (.Slice lo hi (some st) p2) pos) ρ R:=fun σ H Hf Q S q =>
 bF (HN cO J0 J0 J0) (h σ H Hf _ S fun x v H1 aI h1 r1 g1=>h1 σ H1 aI _ (S.ck g1) fun l H2 cD h2 g2=>h2 σ H2 cD _ (S.ck (g1.trans g2)) fun u H3 Hf3 h3 g3=>h3 σ H3 Hf3 _ (S.ck ((g1.trans g2).trans g3)) fun t H4 Hf4 h4 g4=>by
  obtain ⟨rfl,rfl,rfl,ds,rfl,hR⟩:=h4
  have r3:=Rep.mono g4.f _ (Rep.mono g3.f _ (Rep.mono g2.f _ r1))
  have g:=((g1.trans g2).trans g3).trans g4
  rw [aR] at r3
  obtain ⟨a,xs,rfl,k1,k2⟩:=r3
  refine ⟨a,xs,-1,rfl,g4.b.seq k1,rfl,rfl,rfl,rfl,fun p hp=>?_⟩
  exact q _ _ _ _ hR ⟨p,_,rfl,g.s.free hp,ah,g4.b.free hp,by rw [← vL]; unfold stp; rw [k2.length]; exact xO k2 _⟩ (g.trans (aZ.fN g4.b hp)))
end
end EV
namespace EV
open PySem PySem.Spec PySem.Calls PyProof.Rows L2
theorem Bl {K:MI}:∀ {kvs:List (List Key×D)} {ys:List (List Key×Addr×V)},ys.map (·.1)=kvs.map (·.1)→(∀ y∈ys,cQ K H y.2.1 (y.1.map kV))→aq K H (kvs.map (·.2)) (ys.map (·.2.2))→kB K H kvs ys
 | [],[],_,_,_=>.nil
 | [],y::ys,h,_,_=>by simp at h
 | x::kvs,[],h,_,_=>by simp at h
 | x::kvs,y::ys,h,hq,r=>by
  rw [MN,MN] at h r
  obtain ⟨v,t,e,r1,r2⟩:=aC.mp r
  injection e with e1 e2
  injection h with h1 h2
  subst e1 e2
  exact .cons ⟨h1.symm,by rw [← h1]; exact hq y MW,r1⟩ (Bl h2 (fun z hz=>hq z (MX _ hz)) r2)
section
variable {K:MI}
theorem HP (h:aF c a ρ fun x=>aF c b ρ fun y=>∃ (kvs:List (List Key×D)) (ds:List D) (kk:List Key) (d:D),x=.fdT (kvs.map (·.1)) (kvs.map (·.2))∧y=.tup ds∧D.keys ds=some kk∧bh kvs kk=some d∧R d) (hs:CO b:=by with_unfolding_all exact fun _ _=>rfl):aF c (.Subscript a b pos) ρ R:=fun σ H Hf Q S q =>
 bF (uC c.hu cO cO hs) (h σ H Hf _ S fun x v H1 aI h1 r1 g1=>h1 σ H1 aI _ (S.ck g1) fun y u H2 cD ⟨kvs,ds,kk,d,e1,e0,e2,e3,hR⟩ r2 g2=>by
  subst e1 e0
  obtain ⟨p,ys,o,rfl,k1,k2,k4,k3⟩:=iG.mp r1
  have kv:=(Bl k2 k4 k3).mono g2.f
  have rel:=kv.val kk
  rw [e3] at rel
  obtain ⟨pb,xb,rfl,kb,rb⟩:=aE.mp r2
  rw [gx e2 rb] at kb
  cases z:atT ys kk with
  | none=>rw [z] at rel; exact rel.elim
  | some v =>
   rw [z] at rel
   exact ⟨p,v,rfl,.inr ⟨ys,kk,pb,.inr ⟨o,g2.b _ _ (g2.f _ _ k1)⟩,fun x hx=>au g2.b (au g2.f (k4 x hx)),rfl,au g2.b kb,z.symm⟩,q d v H2 cD hR rel (g1.trans g2)⟩)
end
end EV
namespace My
open PySem PySem.Spec PyProof.Rows L2 EV
noncomputable abbrev top (i:Nat):Stmt:=PySem.Challenge.pw_everydraw_k18_circles_round.main.body.getD i (.Pass ⟨0,0,0,0⟩)
noncomputable abbrev ig:=top 2
theorem tK:aL ["powers","end"] ["powers"] (af ig):=⟨rfl,rfl,rfl,by decide +kernel,rfl,by decide +kernel,by decide +kernel⟩
theorem tL:∀ x∈(["powers","end"]:List Str),L2.Loc (af ig) x:=by unfold L2.Loc; decide +kernel
noncomputable abbrev cC:=top 3
theorem ir:aL ["some","greatest","powers","number","k","power"] ["some"] (af cC):=⟨rfl,rfl,rfl,by decide +kernel,rfl,by decide +kernel,by decide +kernel⟩
theorem iu:∀ x∈(["some","greatest","powers","number","k","power"]:List Str),L2.Loc (af cC) x:=by unfold L2.Loc; decide +kernel
noncomputable abbrev ju:=top 4
theorem xQ:aL ["powers","width","key","power"] ["powers","width"] (af ju):=⟨rfl,rfl,rfl,by decide +kernel,rfl,by decide +kernel,by decide +kernel⟩
theorem xR:∀ x∈(["powers","width","key","power"]:List Str),L2.Loc (af ju) x:=by unfold L2.Loc; decide +kernel
noncomputable abbrev fm:=top 5
theorem oR:aL ["key","width","mask"] ["key","width"] (af fm):=⟨rfl,rfl,rfl,by decide +kernel,rfl,by decide +kernel,by decide +kernel⟩
theorem oS:∀ x∈(["key","width","mask"]:List Str),L2.Loc (af fm) x:=by unfold L2.Loc; decide +kernel
noncomputable abbrev jv:=top 6
theorem xS:aL ["some","width"] ["some","width"] (af jv):=⟨rfl,rfl,rfl,by decide +kernel,rfl,by decide +kernel,by decide +kernel⟩
theorem xT:∀ x∈(["some","width"]:List Str),L2.Loc (af jv) x:=by unfold L2.Loc; decide +kernel
noncomputable abbrev f9:=top 7
theorem qV:aL ["total","width"] ["total","width"] (af f9):=⟨rfl,rfl,rfl,by decide +kernel,rfl,by decide +kernel,by decide +kernel⟩
theorem qW:∀ x∈(["total","width"]:List Str),L2.Loc (af f9) x:=by unfold L2.Loc; decide +kernel
noncomputable abbrev di:=top 8
theorem jN:aL ["total","left","right","key","number","shift","part","whole"] ["total","left","right"] (af di):=⟨rfl,rfl,rfl,by decide +kernel,rfl,by decide +kernel,by decide +kernel⟩
theorem jO:∀ x∈(["total","left","right","key","number","shift","part","whole"]:List Str),L2.Loc (af di) x:=by unfold L2.Loc; decide +kernel
noncomputable abbrev gc:=top 10
theorem qX:aL ["parts","most","part"] ["parts"] (af gc):=⟨rfl,rfl,rfl,by decide +kernel,rfl,by decide +kernel,by decide +kernel⟩
theorem qY:∀ x∈(["parts","most","part"]:List Str),L2.Loc (af gc) x:=by unfold L2.Loc; decide +kernel
noncomputable abbrev gh:=top 11
theorem qZ:aL ["whole","part","width","factors","left","right","product"] ["whole","part","width"] (af gh):=⟨rfl,rfl,rfl,by decide +kernel,rfl,by decide +kernel,by decide +kernel⟩
theorem q8:∀ x∈(["whole","part","width","factors","left","right","product"]:List Str),L2.Loc (af gh) x:=by unfold L2.Loc; decide +kernel
noncomputable abbrev d7:=top 12
theorem lZ:aL ["parts","width","whole","part"] ["parts"] (af d7):=⟨rfl,rfl,rfl,by decide +kernel,rfl,by decide +kernel,by decide +kernel⟩
theorem l0:∀ x∈(["parts","width","whole","part"]:List Str),L2.Loc (af d7) x:=by unfold L2.Loc; decide +kernel
noncomputable abbrev d8:=top 14
theorem l5:aL ["total","c","i"] ["total","c","i"] (af d8):=⟨rfl,rfl,rfl,by decide +kernel,rfl,by decide +kernel,by decide +kernel⟩
theorem l6:∀ x∈(["total","c","i"]:List Str),L2.Loc (af d8) x:=by unfold L2.Loc; decide +kernel
noncomputable abbrev dw:=top 15
theorem jP:aL ["c","i"] ["c","i"] (af dw):=⟨rfl,rfl,rfl,by decide +kernel,rfl,by decide +kernel,by decide +kernel⟩
theorem jQ:∀ x∈(["c","i"]:List Str),L2.Loc (af dw) x:=by unfold L2.Loc; decide +kernel
noncomputable abbrev fu:=top 17
theorem oU:aL ["_law_script","_law_k"] ["_law_script","_law_k"] (af fu):=⟨rfl,rfl,rfl,by decide +kernel,rfl,by decide +kernel,by decide +kernel⟩
theorem oV:∀ x∈(["_law_script","_law_k"]:List Str),L2.Loc (af fu) x:=by unfold L2.Loc; decide +kernel
noncomputable abbrev gi:=top 18
theorem q9:aL ["_law_script","_law_k","_law_cell","_law_number"] ["_law_script","_law_k"] (af gi):=⟨rfl,rfl,rfl,by decide +kernel,rfl,by decide +kernel,by decide +kernel⟩
theorem rg:∀ x∈(["_law_script","_law_k","_law_cell","_law_number"]:List Str),L2.Loc (af gi) x:=by unfold L2.Loc; decide +kernel
noncomputable abbrev iw:=top 19
theorem tM:aL ["_law_terms_here","_law_found","_law_powers","_law_number","_law_key"] ["_law_terms_here"] (af iw):=⟨rfl,rfl,rfl,by decide +kernel,rfl,by decide +kernel,by decide +kernel⟩
theorem tN:∀ x∈(["_law_terms_here","_law_found","_law_powers","_law_number","_law_key"]:List Str),L2.Loc (af iw) x:=by unfold L2.Loc; decide +kernel
noncomputable abbrev fy:=top 20
theorem oW:aL ["_law_factors","_law_found","_law_some_here","_law_terms_here","_law_powers","_law_number","_law_other","_law_count","_law_wide","_law_one","_law_two"] ["_law_factors"] (af fy):=⟨rfl,rfl,rfl,by decide +kernel,rfl,by decide +kernel,by decide +kernel⟩
theorem oX:∀ x∈(["_law_factors","_law_found","_law_some_here","_law_terms_here","_law_powers","_law_number","_law_other","_law_count","_law_wide","_law_one","_law_two"]:List Str),L2.Loc (af fy) x:=by unfold L2.Loc; decide +kernel
noncomputable abbrev lH:=top 21
theorem Bm:aL ["_law_parts","_law_terms_here","_law_number","_law_factors"] ["_law_parts"] (af lH):=⟨rfl,rfl,rfl,by decide +kernel,rfl,by decide +kernel,by decide +kernel⟩
theorem Bo:∀ x∈(["_law_parts","_law_terms_here","_law_number","_law_factors"]:List Str),L2.Loc (af lH) x:=by unfold L2.Loc; decide +kernel
noncomputable abbrev jw:=top 22
theorem xU:aL ["_law_number","_law_terms_here","_law_many","_law_k","_law_powers","_law_count"] ["_law_number"] (af jw):=⟨rfl,rfl,rfl,by decide +kernel,rfl,by decide +kernel,by decide +kernel⟩
theorem xV:∀ x∈(["_law_number","_law_terms_here","_law_many","_law_k","_law_powers","_law_count"]:List Str),L2.Loc (af jw) x:=by unfold L2.Loc; decide +kernel
noncomputable abbrev gj:=top 23
theorem ri:aL ["_law_script","_law_at","_law_many"] ["_law_script","_law_at","_law_many"] (af gj):=⟨rfl,rfl,rfl,by decide +kernel,rfl,by decide +kernel,by decide +kernel⟩
theorem rm:∀ x∈(["_law_script","_law_at","_law_many"]:List Str),L2.Loc (af gj) x:=by unfold L2.Loc; decide +kernel
noncomputable abbrev gm:=top 24
theorem rA:aL ["_law_told"] ["_law_told"] (af gm):=⟨rfl,rfl,rfl,by decide +kernel,rfl,by decide +kernel,by decide +kernel⟩
theorem rB:∀ x∈(["_law_told"]:List Str),L2.Loc (af gm) x:=by unfold L2.Loc; decide +kernel
noncomputable abbrev iy:=top 25
theorem tO:aL ["_law_some_here","_law_term","_law_number"] ["_law_some_here"] (af iy):=⟨rfl,rfl,rfl,by decide +kernel,rfl,by decide +kernel,by decide +kernel⟩
theorem tP:∀ x∈(["_law_some_here","_law_term","_law_number"]:List Str),L2.Loc (af iy) x:=by unfold L2.Loc; decide +kernel
noncomputable abbrev jx:=top 26
theorem xW:aL ["_law_found","_law_due_here","_law_k"] ["_law_found","_law_due_here"] (af jx):=⟨rfl,rfl,rfl,by decide +kernel,rfl,by decide +kernel,by decide +kernel⟩
theorem xX:∀ x∈(["_law_found","_law_due_here","_law_k"]:List Str),L2.Loc (af jx) x:=by unfold L2.Loc; decide +kernel
noncomputable abbrev iz:=top 27
theorem tQ:aL ["_law_found","_law_some_here"] ["_law_found"] (af iz):=⟨rfl,rfl,rfl,by decide +kernel,rfl,by decide +kernel,by decide +kernel⟩
theorem tR:∀ x∈(["_law_found","_law_some_here"]:List Str),L2.Loc (af iz) x:=by unfold L2.Loc; decide +kernel
noncomputable abbrev lI:=top 28
theorem Bp:aL ["_law_c","_law_i","_law_xc","_law_yc","_law_wc","_law_xi","_law_yi","_law_wi","_law_last"] ["_law_c","_law_i"] (af lI):=⟨rfl,rfl,rfl,by decide +kernel,rfl,by decide +kernel,by decide +kernel⟩
theorem Bq:∀ x∈(["_law_c","_law_i","_law_xc","_law_yc","_law_wc","_law_xi","_law_yi","_law_wi","_law_last"]:List Str),L2.Loc (af lI) x:=by unfold L2.Loc; decide +kernel
noncomputable abbrev tS:=top 29
theorem HQ:aL ["_law_script","_law_c","_law_i","_law_handed","_law_due_here","_law_found"] ["_law_script"] (af tS):=⟨rfl,rfl,rfl,by decide +kernel,rfl,by decide +kernel,by decide +kernel⟩
theorem HR:∀ x∈(["_law_script","_law_c","_law_i","_law_handed","_law_due_here","_law_found"]:List Str),L2.Loc (af tS) x:=by unfold L2.Loc; decide +kernel
local macro_rules | `(tactic| walk_at "side")=> `(tactic| first | omega | assumption | exact kK | exact pU (Nat.le_of_ble_eq_true rfl) | exact zd (by decide) (by decide +kernel) | (show rX _ _; exact ⟨by decide,by decide,by decide +kernel⟩))
local macro_rules | `(tactic| walk_at "at")=> `(tactic| with_reducible (repeat (first | exact At.z | apply At.s)))
local macro_rules | `(tactic| walk_at "sset")=> `(tactic| with_reducible (repeat (first | exact SSet.z | apply SSet.s)))
local macro_rules | `(tactic| walk_at "atI")=> `(tactic| first | assumption | rfl)
local macro_rules | `(tactic| walk_at "own")=> `(tactic| walk_at "u")
local macro_rules | `(tactic| walk_at "evSs")=> `(tactic| first
 | with_reducible refine bq ?_
 | with_reducible refine su ?_)
local macro_rules | `(tactic| walk_at "evS")=> `(tactic| first
 | ((with_reducible show eE _ (Rw [M5 _ _] _ _) _ _ _); with_reducible refine zc (by walk_at "at") ?_)
 | ((with_reducible show eE _ (Stmt.If _ _ _ _) _ _ _); walk_at "evIf")
 | ((with_reducible show eE _ (Stmt.Expr _ _) _ _ _); walk_at "evXp")
 | ((with_reducible show eE _ (Stmt.Return (some (M5 _ _)) _) _ _ _); with_reducible refine zb (by walk_at "at") (by walk_at "at") rfl ?_)
 | ((with_reducible show eE _ (Stmt.Return (some _) _) _ _ _); with_reducible refine gP ?_)
 | ((with_reducible show eE _ (Stmt.Return none _) _ _ _); with_reducible refine s_retN ?_)
 | ((with_reducible show eE _ (Ri (M5 _ _) Rq _ _) _ _ _); with_reducible refine s_addq (by walk_at "at") (by walk_at "at") ?_)
 | ((with_reducible show eE _ (Ri (M5 _ _) Operator.Sub _ _) _ _ _); with_reducible refine GC (by walk_at "at") (by walk_at "at") ?_)
 | ((with_reducible show eE _ (Ri (OC (M5 _ _) _ _) Rq _ _) _ _ _); with_reducible refine uP (by walk_at "at") (by walk_at "at") ?_)
 | ((with_reducible show eE _ (Rw [Expr.Tuple [M5 _ _,M5 _ _] _ _] (Expr.Tuple [_,_] _ _) _) _ _ _); with_reducible refine s_par (by walk_at "at") (by walk_at "at") (by decide) ?_)
 | ((with_reducible show eE _ (Rw [Expr.Tuple _ _ _] _ _) _ _ _); with_reducible refine JV ?_)
 | ((with_reducible show eE _ (Rw [OC (M5 _ _) _ _] _ _) _ _ _); walk_at "evPut")
 | with_reducible refine s_break ?_
 | with_reducible refine s_continue ?_
 | with_reducible refine s_pass ?_)
local macro_rules | `(tactic| walk_at "evIf")=> `(tactic| with_reducible refine JT ?_)
local macro_rules | `(tactic| walk_at "evXp")=> `(tactic| with_reducible refine sA (by walk_at "at") (by walk_at "at") (by walk_at "own") ?_)
local macro_rules | `(tactic| walk_at "evPut")=> `(tactic| with_reducible refine GU (by walk_at "at") (by walk_at "at") ?_ (ho:=by walk_at "own"))
local macro_rules | `(tactic| walk_at "evK")=> `(tactic| first
 | with_reducible refine JE ?_
 | with_reducible refine LN ?_
 | with_reducible refine e_non ?_
 | with_reducible refine e_str ?_)
local macro_rules | `(tactic| walk_at "evCm")=> `(tactic| first
 | with_reducible refine e_isN ?_
 | with_reducible refine e_notN ?_
 | with_reducible refine e_lt ?_
 | with_reducible refine LV ?_
 | with_reducible refine e_ne ?_)
local macro_rules | `(tactic| walk_at "evIx")=> `(tactic| first
 | ((with_reducible show aF _ (OC _ (Expr.Slice _ _ _ _) _) _ _); with_reducible refine zG ?_)
 | ((with_reducible show aF _ (OC (M5 _ _) _ _) _ _); with_reducible refine J6 (by walk_at "at") (by walk_at "at") (by walk_at "own") (by walk_at "sset") ?_ (by walk_at "at"))
 | ((with_reducible show aF _ (OC (M5 _ _) _ _) _ _); with_reducible refine e_dix (by walk_at "at") (by walk_at "at") ?_)
 | with_reducible refine J2 ?_)
local macro_rules | `(tactic| walk_at "evBo")=> `(tactic| first
 | with_reducible refine GO ?_
 | with_reducible refine JI ?_
 | with_reducible refine JJ ?_
 | with_reducible refine JK ?_
 | with_reducible refine Gz ?_
 | with_reducible refine JL ?_)
local macro_rules | `(tactic| walk_at "evCa")=> `(tactic| first
 | ((with_reducible show aF _ (NH (Expr.Attribute _ _ _) _ _ _) _ _); walk_at "evMt")
 | ((with_reducible show aF _ (NH (M5 "isinstance" _) _ _ _) _ _); first
  | with_reducible refine nS (Txt.isin (by assumption)) (Txt.J7 (by assumption)) ?_
  | with_reducible refine nS (Txt.isin (by assumption)) (Txt.Dt (by assumption)) ?_
  | with_reducible refine nS (Txt.isin (by assumption)) (Txt.GX (by assumption)) ?_
  | with_reducible refine nS (Txt.isin (by assumption)) (Txt.GW (by assumption)) ?_)
 | ((with_reducible show aF _ (NH (M5 "len" _) _ _ _) _ _); first
  | ((with_reducible show aF _ (NH _ [M5 _ _] _ _) _ _); with_reducible refine e_lenO (Txt.len (by assumption)) (by walk_at "at") (by walk_at "at") (by walk_at "own") (by walk_at "sset") ?_)
  | with_reducible refine e_len (Txt.len (by assumption)) ?_)
 | ((with_reducible show aF _ (NH (M5 "tuple" _) _ _ _) _ _); first
  | ((with_reducible show aF _ (NH _ [M5 _ _] _ _) _ _); with_reducible refine e_tupleO (Txt.tuple (by assumption)) (by walk_at "at") (by walk_at "at") (by walk_at "own") (by walk_at "sset") ?_)
  | with_reducible refine jV (Txt.tuple (by assumption)) ?_)
 | ((with_reducible show aF _ (NH (M5 "abs" _) _ _ _) _ _); with_reducible refine e_abs (Txt.abs (by assumption)) ?_)
 | ((with_reducible show aF _ (NH (M5 "int" _) _ _ _) _ _); with_reducible refine e_intB (Txt.int (by assumption)) ?_))
local macro_rules | `(tactic| walk_at "evMt")=> `(tactic| with_reducible refine GS (by walk_at "at") (by walk_at "at") ?_ (ho:=by walk_at "own"))
local macro_rules | `(tactic| walk_at "evE")=> `(tactic| first
 | ((with_reducible show aF _ (M5 _ _) _ _); with_reducible refine uE (by walk_at "at") (by walk_at "at") ?_)
 | ((with_reducible show aF _ (Expr.Constant _ _ _) _ _); walk_at "evK")
 | ((with_reducible show aF _ (NH _ _ _ _) _ _); walk_at "evCa")
 | ((with_reducible show aF _ (OC _ _ _) _ _); walk_at "evIx")
 | ((with_reducible show aF _ (Expr.BinOp _ _ _ _) _ _); walk_at "evBo")
 | ((with_reducible show aF _ (Expr.Compare _ _ _ _) _ _); walk_at "evCm")
 | with_reducible refine E1 ?_
 | with_reducible refine GP ?_
 | with_reducible refine JM ?_
 | with_reducible refine e_not ?_
 | with_reducible refine JR ?_
 | with_reducible refine e_or ?_
 | with_reducible refine JQ ?_
 | with_reducible refine Dd ?_)
local macro_rules | `(tactic| walk_at "evX")=> `(tactic| first
 | ((with_reducible show c6 _ (Expr.List _ _) _ _); with_reducible refine E2 ?_)
 | ((with_reducible show c6 _ (NH _ _ _ _) _ _); walk_at "evXC")
 | ((with_reducible show c6 _ (Expr.BinOp _ Rq _ _) _ _); with_reducible refine zA ?_)
 | ((with_reducible show c6 _ (OC _ (Expr.Slice _ _ _ _) _) _ _); with_reducible refine uN ?_)
 | with_reducible refine IU ?_)
local macro_rules | `(tactic| walk_at "evXC")=> `(tactic| first
 | ((with_reducible show c6 _ (NH (M5 "list" _) _ _ _) _ _); first
  | ((with_reducible show c6 _ (NH _ [M5 _ _] _ _) _ _); with_reducible refine x_listO (Txt.list (by assumption)) (by walk_at "at") (by walk_at "at") (by walk_at "own") (by walk_at "sset") ?_)
  | with_reducible refine zu (Txt.list (by assumption)) ?_)
 | with_reducible refine IU ?_)
local macro_rules | `(tactic| walk_at "evT")=> `(tactic| first
 | ((with_reducible show jg _ (Expr.Compare _ _ _ _) _ _); first
  | with_reducible refine t_isN ?_
  | with_reducible refine t_notN ?_
  | with_reducible refine LU ?_
  | with_reducible refine LS ?_
  | with_reducible refine LO ?_
  | with_reducible refine t_le ?_
  | with_reducible refine LP ?_
  | with_reducible refine LQ ?_
  | with_reducible refine E7 (by walk_at "at") (by walk_at "at") ?_
  | with_reducible refine t_dnotin (by walk_at "at") (by walk_at "at") ?_)
 | with_reducible refine JP ?_
 | with_reducible refine Mm (w_and ?_)
 | with_reducible refine Mm (w_or ?_)
 | with_reducible refine JS ?_)
local macro_rules | `(tactic| walk_at "evW")=> `(tactic| first
 | with_reducible refine w_and ?_
 | with_reducible refine w_or ?_
 | with_reducible refine GA ?_
 | with_reducible refine JO ?_)
local macro_rules | `(tactic| walk_at "evG")=> `(tactic| first
 | ((with_reducible show mJ _ (M5 _ _) _ _ _); with_reducible refine dJ (by walk_at "at") ?_)
 | with_reducible refine JU rfl (by walk_at "u") ?_)
local macro_rules | `(tactic| walk_at "evGs")=> `(tactic| first
 | with_reducible refine GB ?_
 | ((with_reducible show wz _ (_::_) _ _ _); with_reducible refine De (by walk_at "at") ?_))
local macro_rules | `(tactic| walk_at "evL")=> `(tactic| first
 | ((with_reducible show Nx _ _ _ _); with_reducible refine yl (by walk_at "sset") ?_)
 | ((with_reducible show Sd _ _); first | with_reducible refine Sd.mk (by walk_at "side") ?_ | with_reducible refine Sd.mk ?_ ?_)
 | ((with_reducible show mO _ _ _); first
  | with_reducible refine JG ?_
  | with_reducible refine JH ?_
  | with_reducible refine CY ?_
  | with_reducible refine CW (fun h=>?_) (fun h=>?_)
  | with_reducible refine if2 (fun h=>?_) (fun h=>?_))
 | with_reducible refine i2 ?_
 | with_reducible refine i1 ?_
 | with_reducible refine b1 ?_
 | ((with_reducible show CZ _ _ _); first
  | with_reducible refine C0 ?_
  | with_reducible refine eqp_bl ?_
  | with_reducible refine eqp_str ?_)
 | ((with_reducible show kE _ _ _); first
  | with_reducible refine zH ?_
  | with_reducible refine zI ?_
  | with_reducible refine zJ ?_)
 | ((with_reducible show Gx _ _); first
  | with_reducible refine E4 ?_
  | with_reducible refine fE ?_)
 | ((with_reducible show IsN _ _); first
  | with_reducible refine isn_t ?_
  | with_reducible refine isn_f (by intro q; cases q) ?_)
 | ((with_reducible show IV _ _ _); first
  | refine iK (by rfl) ?_
  | refine zm (by rfl) ?_)
 | ((with_reducible show GK _ _ _ _); first
  | with_reducible refine EV.GK.lst ?_
  | with_reducible refine EV.GK.tup ?_)
 | ((with_reducible show ∃ ys,D.row _=some ys∧_); refine zK (by rfl) ?_)
 | ((with_reducible show ∃ t b,wB _ _ t∧_); first
  | with_reducible refine GQ .int GY ?_
  | with_reducible refine GQ .int (Txt.ib (by assumption)) ?_
  | with_reducible refine GQ .bl kit_bb ?_
  | with_reducible refine GQ .lst G0 ?_
  | with_reducible refine GQ .tup GZ ?_)
 | ((with_reducible show ∃ j d,D.int _=D.int j∧_); refine ⟨_,_,rfl,(by walk_at "atI"),?_⟩)
 | ((with_reducible show ∃ r,_∧GD _ _ _ r); walk_at "evR"))
local macro_rules | `(tactic| walk_at "ev1")=> `(tactic| first
 | ((with_reducible show aF _ _ _ _); walk_at "evE")
 | ((with_reducible show c6 _ _ _ _); walk_at "evX")
 | ((with_reducible show jg _ _ _ _); walk_at "evT")
 | ((with_reducible show bf _ _ _ _ _); walk_at "evSs")
 | ((with_reducible show eE _ _ _ _ _); walk_at "evS")
 | ((with_reducible show pR _ _ _ _); first | with_reducible refine dI ?_ | with_reducible refine kD ?_)
 | ((with_reducible show E0 _ _ _ _); walk_at "evW")
 | ((with_reducible show mJ _ _ _ _ _); walk_at "evG")
 | ((with_reducible show wz _ _ _ _ _); walk_at "evGs")
 | ((with_reducible show Cm _ _ _ _); first | with_reducible refine GI ?_ | with_reducible refine GJ ?_)
 | walk_at "evL")
local macro_rules | `(tactic| walk_at "ev")=> `(tactic| repeat' (walk_at "ev1"))
section
variable {K:MI}
noncomputable def rC:Fn:=fun ds r=>∃ l:List Int,l.length≤64∧ds=[.tup (l.map .int)]∧r=.ok (.va (.tup ((trim l).map .int)))
theorem HU (h:l.length≤64):rC [.tup (l.map .int)] (.ok (.va (.tup ((trim l).map .int)))):=⟨l,h,rfl,rfl⟩
theorem Br {cl:List Int} {j:Int} (h0:0≤j) (h1:j<cl.length) (h:R (.int (cl.getD j.toNat 0))):IV (.tup (cl.map D.int)) (.int j) R:=by
 refine iK ?_ h
 rw [gy h0 (by simpa using h1)]
 have hj:j.toNat<cl.length:=by lia
 simp [MS,hj]
theorem Et (Fu:fM K "trimmed" "trimmed" ig f fd) (T:Txt K mg):bz P w K mg base (dR P w) 1 f fd ["powers"] (gv K rC):=by
 refine dS Fu tK tL (by rintro ds r ⟨a,_,rfl,_⟩; rfl) (by rintro ds r ⟨a,_,_,rfl⟩; exact ⟨_,rfl⟩) fun c hq ds sl hF=>?_
 obtain ⟨l,hl,rfl,e⟩:=hF
 injection e with e
 subst e
 show bf c _ [.va (.tup (l.map .int)),.un] _ _
 conv in (aB _)=>whnf
 walk_at "ev"
 with_reducible refine uH hq (fun m ρ'=>m≤l.length∧trim (l.take m)=trim l∧ρ'=[.va (.tup (l.map .int)),.va (.int (m:Int))]) (m₀:=l.length) ?_ ?_
 ·refine ⟨ML _,by rw [NF],?_⟩
  rw [MO]
 ·rintro m ρ' ⟨hm,ht,rfl⟩
  walk_at "ev"
  ·refine Br (by lia) (by lia) ?_
   have hk:((m:Int) - 1).toNat=m - 1:=by lia
   rw [hk]
   have hm1:m - 1+1=m:=by lia
   walk_at "ev"
   ·exact ⟨m - 1,by lia,by lia,ni (by lia) (by assumption) (by rw [hm1]; exact ht),by rw [show ((m - 1:Nat):Int)=(m:Int) - 1 by lia]⟩
   ·show Sl.va _=Sl.va _
    rw [qb,Aq _ hm]
    have:=jo (l:=l) (m:=m - 1) (by lia) (by assumption) (by rw [hm1]; exact ht)
    rw [hm1] at this
    rw [this]
  ·show Sl.va _=Sl.va _
   have:m=0:=by lia
   subst this
   rw [qb,Aq _ hm,← ht]
   rfl
theorem jy (x):(aM x).nl:=sG (by unfold D.o7; exact ⟨sG (Ds _),dD (f:=D.int) (l:=[x.2]) fun _ _=>kK⟩)
noncomputable def Eu (t:aO):Option D:=if t.2≠0 then some (aM t) else none
theorem j8:∀ L:List aO,(L.map Eu).filterMap id=(nz L).map aM
 | []=>rfl
 | t::L=>by
  unfold nz
  by_cases h:t.2=0
  ·simp only [MN,Eu,h,ne_eq,not_true,if_false,N7,id,List.filter_cons,bne_self_eq_false,ND]
   exact j8 L
  ·have hb:(t.2 != 0)=true:=by simpa using h
   rw [List.filter_cons,if_pos hb,MN,MN,N7]
   simp only [Eu,ne_eq,h,not_false_eq_true,if_true,id]
   rw [j8 L]; rfl
noncomputable def oY:Fn:=fun ds r=>∃ ts:List aO,ts.length≤20000∧(∀ t∈ts,t.1.length≤64)∧ds=[.lst (ts.map aM)]∧r=.ok (.ow ((eS (nz (aG ts))).map aM))
theorem tT (h:ts.length≤20000) (h2:∀ t∈ts,t.1.length≤64):oY [.lst (ts.map aM)] (.ok (.ow ((eS (nz (aG ts))).map aM))):=⟨ts,h,h2,rfl,rfl⟩
theorem Bt (l m):cK (l,0) (m,0)=HT.lexLt l m:=by
 unfold cK
 by_cases e:l=m
 ·subst e; rw [if_pos rfl,EV.j3]; rfl
 ·rw [if_neg e]
theorem tU (hk:(A.map (·.1)).Nodup) (hp:L.Perm (A.map (·.1))) (hs:fh HT.lexLt false L):L.reverse=(eS A).map (·.1):=by
 have h:(L.reverse.map fun l=>((l,0):aO))=((eS A).map (·.1)).map fun l=>((l,0):aO):=by
  refine k9 (((Q3 L).trans (hp.trans ((bu A).map _).symm)).map _) ?_ ?_
  ·unfold iW fh at *
   rw [OB,List.pairwise_reverse]
   exact hs.imp fun h=>by simpa [Bt] using h
  ·have ho:iW true (eS A):=gD (keys_nodup hk)
   have hn:((eS A).map (·.1)).Nodup:=((bu A).map _).nodup_iff.mpr hk
   unfold iW fh Qu at *
   rw [OB] at hn
   rw [OB,OB]
   refine ho.imp₂ (fun x y h q=>?_) hn
   simp only [if_true] at h ⊢
   rw [Bt]
   unfold cK at h
   rw [if_neg fun z=>q z.symm] at h
   exact h
 have:=congrArg (List.map (·.1)) h
 rw [Na,Na] at this
 exact ((List.map_id _).symm.trans this).trans (List.map_id _)
theorem Bu {l:List Int} (h:m<l.length):jS ((l.take (m+1)).map D.int) (-1)=some (.int (l.getD m 0)):=by
 have hl:(l.take (m+1)).length=m+1:=by simp; lia
 rw [uU (by decide) (by simp only [MO,hl]; lia),MO,hl]
 have e:(-1+((m+1:Nat):Int)).toNat=m:=by lia
 rw [e,MS,List.getElem?_take]
 simp [NT,h]
theorem HV (xs:List α):EV.cutD xs none (some (-1))=xs.dropLast:=by
 unfold EV.cutD HT.bZ
 rw [List.dropLast_eq_take]
 simp only [List.drop_zero]
 congr 1
 split <;> lia
section
local macro_rules | `(tactic| walk_at "evIx")=> `(tactic| first | ((with_reducible show aF _ (OC _ (M5 _ _) _) _ _); with_reducible refine HP ?_))
local macro_rules | `(tactic| walk_at "evX")=> `(tactic| first | ((with_reducible show c6 _ (Expr.Dict _ _ _) _ _); with_reducible refine Dm ?_))
theorem Bv (Fu:fM K "_law_plain" "_law_plain" iw f fd) (T:Txt K mg):bz P w K mg base (dR P w) 1 f fd ["_law_terms_here"] (gv K oY):=by
 refine dS Fu tM tN (by rintro ds r ⟨n,_,_,rfl,_⟩; rfl) (by rintro ds r ⟨n,_,_,_,rfl⟩; exact ⟨_,rfl⟩) fun c hq ds sl hF=>?_
 obtain ⟨ts,hl,hlen,rfl,e⟩:=hF
 injection e with e
 subst e
 show bf c _ [.va (.lst (ts.map aM)),.un,.un,.un,.un] _ _
 conv in (aB _)=>whnf
 walk_at "ev"
 with_reducible refine cP hq (cj ?_)
 walk_at "ev"
 refine ⟨fun i ρ'=>∃ s2 s3 s4:Sl,ρ'=[.va (.lst (ts.map aM)),.oT (encA (aG (ts.take i))),s2,s3,s4],⟨_,_,_,rfl⟩,?_,?_⟩
 ·rintro c' o5 ym yo i d ρ' hd ⟨s2,s3,s4,rfl⟩
  simp only [MS,MZ] at hd
  obtain ⟨t,ht,rfl⟩:=hd
  obtain ⟨hi,rfl⟩:=MU.mp ht
  have h6:=hlen _ (Nj hi)
  have hsz:(aG (ts.take i)).length<sizeLine:=ic (by have:=gC (ts.take i); rw [NW] at this; lia)
  have e:aG (ts.take (i+1))=putD (aG (ts.take i)) (trim ts[i].1) ((bh (aG (ts.take i)) (trim ts[i].1)).getD 0+ts[i].2):=by
   rw [NL hi,qD]; rfl
  have hq':c'.X.xe=fun _ _=>False:=by rw [o5]; exact hq
  generalize aG (ts.take i)=A at hsz e ⊢
  generalize ts[i]=t at h6 e ⊢
  show mJ c' _ (D.tup [.tup (t.1.map .int),.int t.2]) _ _
  walk_at "ev"
  with_reducible refine uH hq' (fun m ρ'=>m≤t.1.length∧trim (t.1.take m)=trim t.1∧ρ'=[.va (.lst (ts.map aM)),.oT (encA A),.va (.tup (t.1.map .int)),.va (.int t.2),.va (.tup ((t.1.take m).map .int))]) (m₀:=t.1.length) ?_ ?_
  ·exact ⟨ML _,by rw [NF],by rw [NF]⟩
  ·rintro m ρ' ⟨hm,ht,rfl⟩
   have hL:((t.1.take m).map D.int).length=m:=by simp; lia
   walk_at "ev"
   ·rw [hL] at *
    obtain ⟨n,rfl⟩:∃ n,m=n+1:=⟨m - 1,by omega⟩
    refine iK (Bu (by omega)) ?_
    walk_at "ev"
    ·refine ⟨n,by omega,by omega,ni (by omega) (by assumption) ht,?_⟩
     rw [HV,jn (by omega),Nt,List.map_singleton,List.dropLast_concat]
    ·have eT:t.1.take (n+1)=trim t.1:=by first | exact jo (by omega) (by assumption) ht | exact (jo (by omega) (by assumption) ht).symm
     rw [eT]
     refine ⟨_,Aw (A:=A) rfl _,?_⟩
     rw [qE]
     walk_at "ev"
     refine ⟨_,Ax hsz,?_⟩
     walk_at "ev"
     show ∃ s2 s3 s4:Sl,_=[_,Sl.oT (encA (aG (ts.take (i+1)))),s2,s3,s4]
     rw [e]
     exact ⟨_,_,_,rfl⟩
   ·have:m=0:=by rw [hL] at *; omega
    subst this
    have eT:t.1.take 0=trim t.1:=ht
    rw [eT]
    refine ⟨_,Aw (A:=A) rfl _,?_⟩
    rw [qE]
    walk_at "ev"
    refine ⟨_,Ax hsz,?_⟩
    walk_at "ev"
    show ∃ s2 s3 s4:Sl,_=[_,Sl.oT (encA (aG (ts.take (i+1)))),s2,s3,s4]
    rw [e]
    exact ⟨_,_,_,rfl⟩
 ·rintro ρ' ⟨s2,s3,s4,rfl⟩
  rw [MO,NF]
  have hn:=keys_nodup (dN ts)
  have hn':=dN ts
  have hle:=gC ts
  with_reducible refine bq ?_
  with_reducible refine gP ?_
  refine sI 1 (by walk_at "at") (encK _) (by walk_at "sset") (dZ hq (N':=["_law_key","_law_found"]) (ρ0:=fun _=>[.un,.va (D.fdT ((aG ts).map fun t=>t.1.map M6) ((aG ts).map fun t=>D.int t.2))]) (fun t=>.un (.fr (by walk_at "at") (by walk_at "at") (by decide) rfl .nil)) (cj (e_x (Ky ?_))))
  refine e_x (Bj (Txt.sorted T) ?_)
  walk_at "ev"
  refine ⟨(aG ts).map (·.1),_,by rw [Na]; rfl,hn',fun L' hp hs=>?_⟩
  have eL:=tU hn' hp hs
  have hpl:=(bu (aG ts)).length_eq
  refine fE ?_
  walk_at "ev"
  refine ⟨rfl,rfl,rfl,_,rfl,?_⟩
  rw [← List.map_reverse,eL]
  refine fE (zK rfl ⟨sY (by simp only [MO]; omega),(eS (aG ts)).map Eu,by simp,?_,?_⟩)
  ·intro c' hc t i d o hd ho
   simp only [MS,MZ] at hd ho
   obtain ⟨n,⟨x,hx,rfl⟩,rfl⟩:=hd
   obtain ⟨x',hx',rfl⟩:=ho
   rw [hx] at hx'; cases hx'
   have hm:x∈aG ts:=(bu (aG ts)).subset (NY hx)
   have hv:bh (encA (aG ts)) (x.1.map M6)=some (.int x.2):=by
    rw [oq,oH hn' hm]; rfl
   refine dJ (by walk_at "at") (yl (by walk_at "sset") ⟨.un (.same .nil),?_⟩)
   simp only [sF]
   walk_at "ev"
   refine ⟨encA (aG ts),_,_,_,?_,rfl,eO x.1,hv,?_⟩
   ·show _=D.fdT (((aG ts).map _).map _) (((aG ts).map _).map _)
    rw [Na,Na]; rfl
   walk_at "ev"
   ·unfold Eu; rw [if_neg fun h=>h (by assumption)]
   refine ⟨encA (aG ts),_,_,_,?_,rfl,eO x.1,hv,?_⟩
   ·show _=D.fdT (((aG ts).map _).map _) (((aG ts).map _).map _)
    rw [Na,Na]; rfl
   walk_at "ev"
   unfold Eu
   rw [if_pos (by assumption)]
  ·rw [j8,Av (keys_nodup hn')]
   exact ⟨dD fun x _=>jy x,rfl⟩
end
end
section
variable {K:MI}
noncomputable def Ew (p:List Int) (g:Nat→Int) (k:Nat):Int:=if bQ p k>g k then bQ p k else g k
noncomputable def gk (L:List aO) (k:Nat):Int:=L.foldl (fun a t=>if bQ t.1 k>a then bQ t.1 k else a) 0
noncomputable def dQ (L:List aO):List Int:=(Ny 6).map (gk L)
noncomputable def iA (p:List Int) (g:Nat→Int) (j k:Nat):Int:=if k<j then Ew p g k else g k
theorem vM (L:List aO) (k):∀ a:Int,a≤L.foldl (fun a t=>if bQ t.1 k>a then bQ t.1 k else a) a:=by
 induction L with
 | nil=>exact fun a=>N5 _
 | cons t L ih =>
  intro a
  rw [N9]
  refine Nm ?_ (ih _)
  split <;> lia
theorem Fw (L) (k):0≤gk L k:=vM L k 0
theorem Ey (L) (t):gk (L++[t])=Ew t.1 (gk L):=by
 funext k
 unfold gk Ew
 rw [Sf]; rfl
theorem Ez:iA p (gk L) p.length=Ew p (gk L):=by
 funext k
 unfold iA
 split
 ·rfl
 ·unfold Ew
  rw [cL (by lia)]
  have:=Fw L k
  rw [if_neg (by lia)]
theorem Bw (p) (g):iA p g 0=g:=by funext k; unfold iA; rw [if_neg (by lia)]
noncomputable def fC (g:Nat→Int):List D:=((Ny 6).map g).map D.int
theorem Bx (p) (g) (h:j<6) (q:Ew p g j=bQ p j):(fC (iA p g j)).set j (.int (bQ p j))=fC (iA p g (j+1)):=by
 refine Ra (by simp [fC]) fun i h1 h2=>?_
 have hi:i<6:=by simpa [fC] using h2
 rw [List.getElem_set]
 simp only [fC,Sm,R3]
 unfold iA
 by_cases e:j=i
 ·subst e
  rw [if_pos rfl,if_pos (by lia),q]
 ·rw [if_neg e]
  by_cases z:i<j
  ·rw [if_pos z,if_pos (by lia)]
  ·rw [if_neg z,if_neg (by lia)]
theorem xY (p) (g) (q:Ew p g j=g j):fC (iA p g j)=fC (iA p g (j+1)):=by
 unfold fC
 congr 1
 refine OA fun i _=>?_
 unfold iA
 by_cases z:i<j
 ·rw [if_pos z,if_pos (by lia)]
 ·by_cases e:i=j
  ·subst e; rw [if_neg z,if_pos (by lia),q]
  ·rw [if_neg z,if_neg (by lia)]
theorem EA (g) {j:Nat} (h:j<6):jS (fC g) (j:Int)=some (.int (g j)):=by
 rw [gy (by lia) (by simp [fC]; lia),NN]
 simp [fC,h]
noncomputable def lJ:Fn:=fun ds r=>∃ L:List aO,(∀ t∈L,t.1.length≤6)∧ds=[.lst (L.map aM)]∧r=.ok (.ow (fC (gk L)))
theorem EB (h:∀ t∈L,t.1.length≤6):lJ [.lst (L.map aM)] (.ok (.ow (fC (gk L)))):=⟨L,h,rfl,rfl⟩
section
local macro_rules | `(tactic| walk_at "evPut")=> `(tactic| with_reducible refine Hg (by walk_at "at") (by walk_at "at") (by walk_at "own") ?_)
local macro_rules | `(tactic| walk_at "evX")=> `(tactic| first | ((with_reducible show c6 _ (Expr.BinOp _ Operator.Mult _ _) _ _); with_reducible refine Kl ?_))
local macro_rules | `(tactic| walk_at "evE")=> `(tactic| first | ((with_reducible show aF _ (M5 "PLACES" _) _ _); with_reducible refine sj (by assumption) ?_))
theorem By (Fu:fM K "greatest_powers" "greatest_powers" cC f fd) (T:Txt K mg) (PL:∃ tk:Tok,mg "PLACES"=some (.int 6 tk)):bz P w K mg base (dR P w) 1 f fd ["some"] (gv K lJ):=by
 obtain ⟨tk,hPL⟩:=PL
 refine dS Fu ir iu (by rintro ds r ⟨L,_,rfl,_⟩; rfl) (by rintro ds r ⟨L,_,_,rfl⟩; exact ⟨_,rfl⟩) fun c hq ds sl hF=>?_
 obtain ⟨L,hl,rfl,e⟩:=hF
 injection e with e
 subst e
 show bf c _ [.va (.lst (L.map aM)),.un,.un,.un,.un,.un] _ _
 conv in (aB _)=>whnf
 walk_at "ev"
 refine ⟨_,rfl,?_⟩
 walk_at "ev"
 ·exact ⟨⟨by decide,by decide⟩,by decide⟩
 walk_at "ev"
 show eE c _ [.va (.lst (L.map aM)),.ow (fC (gk [])),.un,.un,.un,.un] _ _
 with_reducible refine cP hq (cj ?_)
 walk_at "ev"
 refine ⟨fun i ρ'=>∃ s2 s3 s4 s5:Sl,ρ'=[.va (.lst (L.map aM)),.ow (fC (gk (L.take i))),s2,s3,s4,s5],⟨_,_,_,_,rfl⟩,?_,?_⟩
 ·rintro c' o5 ym yo i d ρ' hd ⟨s2,s3,s4,s5,rfl⟩
  simp only [MS,MZ] at hd
  obtain ⟨t,ht,rfl⟩:=hd
  obtain ⟨hi,rfl⟩:=MU.mp ht
  have h6:=hl _ (Nj hi)
  have hq':c'.X.xe=fun _ _=>False:=by rw [o5]; exact hq
  show mJ c' _ (D.tup [.tup (L[i].1.map .int),.int L[i].2]) _ _
  walk_at "ev"
  have eg:gk (L.take (i+1))=iA L[i].1 (gk (L.take i)) L[i].1.length:=by rw [NL hi,Ey,Ez]
  generalize L[i]=t at h6 eg ⊢
  generalize gk (L.take i)=g at eg ⊢
  with_reducible refine cP hq' (Hl (Txt.enum (by assumption)) ?_)
  walk_at "ev"
  refine ⟨_,rfl,?_⟩
  refine ⟨fun j ρ'=>∃ s4 s5:Sl,ρ'=[.va (.lst (L.map aM)),.ow (fC (iA t.1 g j)),.va (.tup (t.1.map .int)),.va (.int t.2),s4,s5],⟨s4,s5,by rw [Bw]⟩,?_,?_⟩
  ·rintro c2 hcX2 hcR2 hcM2 j d ρ' hd ⟨s4,s5,rfl⟩
   unfold lB at hd
   simp only [MS,MZ,List.getElem?_zipIdx] at hd
   obtain ⟨⟨x,m⟩,⟨y,⟨z,hz,rfl⟩,e⟩,rfl⟩:=hd
   obtain ⟨rfl,rfl⟩:D.int z=x∧0+j=m:=by simpa using e
   obtain ⟨hj,rfl⟩:=MU.mp hz
   have hj6:j<6:=by lia
   have ha:jS (fC (iA t.1 g j)) (((0+j:Nat):Int))=some (.int (g j)):=by
    rw [OT,EA _ hj6]; unfold iA; rw [if_neg (by lia)]
   have ep:bQ t.1 j=t.1[j]:=c9 hj
   have hj0:0+j=j:=OT j
   rw [hj0] at ha ⊢
   show mJ c2 _ (D.tup [.int (j:Nat),.int t.1[j]]) _ _
   walk_at "ev"
   ·refine ⟨j,rfl,⟨by simp [fC]; lia,?_⟩⟩
    walk_at "ev"
    refine ⟨.va (.int (j:Nat)),.va (.int t.1[j]),?_⟩
    show [_,Sl.ow ((fC (iA t.1 g j)).set j (.int t.1[j])),_,_,_,_]=_
    rw [← ep,Bx t.1 g hj6 (by unfold Ew; rw [ep,if_pos (by assumption)])]
   ·refine ⟨.va (.int (j:Nat)),.va (.int t.1[j]),?_⟩
    rw [xY t.1 g (by unfold Ew; rw [ep,if_neg (by assumption)])]
  ·rintro ρ' ⟨s4,s5,rfl⟩
   rw [show (lB (t.1.map D.int)).length=t.1.length by simp [lB]]
   walk_at "ev"
   exact ⟨_,_,_,_,by rw [eg]⟩
 ·rintro ρ' ⟨s2,s3,s4,s5,rfl⟩
  rw [MO,NF]
  walk_at "ev"
  rfl
end
noncomputable def Cp (ns:List Int):Int:=ns.foldr max 0
theorem BA:∀ {ns:List Int} {n:Int},n∈ns→n≤Cp ns
 | x::ns,n,h=>by
  show n≤max x (Cp ns)
  rcases M0.mp h with rfl | h
  ·lia
  ·have:=BA h; lia
theorem Fx:∀ (ns:List Int),0≤Cp ns
 | []=>N5 _
 | x::ns=>by show 0≤max x (Cp ns); have:=Fx ns; lia
theorem tV:∀ {ns:List Int} {m:Int},0≤m→(∀ n∈ns,n≤m)→Cp ns≤m
 | [],_,h,_=>h
 | x::ns,m,h0,h=>by
  show max x (Cp ns)≤m
  have:=tV h0 fun n hn=>h n (MX _ hn)
  have:=h x MW
  lia
theorem BB (h:m∈dQ L) (h2:∀ n∈dQ L,n≤m):m=Cp (dQ L):=by
 have h0:0≤m:=by
  unfold dQ at h
  obtain ⟨k,_,rfl⟩:=Nk.mp h
  exact Fw L k
 exact Int.le_antisymm (BA h) (tV h0 h2)
end
section
variable {K:MI}
noncomputable def BC:Fn:=fun ds r=>∃ (p:List Int) (W:Nat),W≤10∧Bd (2 ^ W) p∧ds=[.tup (p.map .int),.int (W:Nat)]∧r=.ok (.va (.int (pk (2 ^ W) p)))
theorem Kz (h:W≤10) (h2:Bd (2 ^ W) p):BC [.tup (p.map .int),.int (W:Nat)] (.ok (.va (.int (pk (2 ^ W) p)))):=⟨p,W,h,h2,rfl,rfl⟩
section
local macro_rules | `(tactic| walk_at "evE")=> `(tactic| first | ((with_reducible show aF _ (M5 "PLACES" _) _ _); with_reducible refine sj (by assumption) ?_))
local macro_rules | `(tactic| walk_at "evBo")=> `(tactic| first | with_reducible refine Fe ?_ | with_reducible refine Ff ?_ | with_reducible refine AA ?_)
theorem HW (Fu:fM K "key_of" "key_of" ju f fd) (T:Txt K mg) (PL:∃ tk:Tok,mg "PLACES"=some (.int 6 tk)):bz P w K mg base (dR P w) 1 f fd ["powers","width"] (gv K BC):=by
 obtain ⟨tk,hPL⟩:=PL
 refine dS Fu xQ xR (by rintro ds r ⟨p,W,_,_,rfl,_⟩; rfl) (by rintro ds r ⟨p,W,_,_,_,rfl⟩; exact ⟨_,rfl⟩) fun c hq ds sl hF=>?_
 obtain ⟨p,W,hW,hp,rfl,e⟩:=hF
 injection e with e
 subst e
 have h6:=hp.1
 show bf c _ [.va (.tup (p.map .int)),.va (.int (W:Nat)),.un,.un] _ _
 conv in (aB _)=>whnf
 walk_at "ev"
 with_reducible refine cP hq (cj ?_)
 walk_at "ev"
 refine ⟨fun i ρ'=>∃ s3:Sl,ρ'=[.va (.tup (p.map .int)),.va (.int (W:Nat)),.va (.int (Eb (2 ^ W) (p.take i))),s3],⟨_,rfl⟩,?_,?_⟩
 ·rintro c' o5 ym yo i d ρ' hd ⟨s3,rfl⟩
  simp only [MS,MZ] at hd
  obtain ⟨x,hx,rfl⟩:=hd
  obtain ⟨hi,rfl⟩:=MU.mp hx
  have bd:=AM (two_pos W) (p:=p.take i) fun x hx=>hp.2 x (QT hx)
  have hl:(p.take i).length≤6:=by rw [NW]; lia
  walk_at "ev"
  ·exact ⟨by lia,by lia,vC hW hl bd.1 bd.2⟩
  ·refine ⟨.va (.int p[i]),?_⟩
   rw [NL hi,AL,NN]
 ·rintro ρ' ⟨s3,rfl⟩
  rw [MO,NF]
  have bd:=AM (two_pos W) hp.2
  have ew:(W:Int) * (6 - ((p.map D.int).length:Nat))=((W * (6 - p.length):Nat):Int):=by
   rw [MO,Int.natCast_mul,Int.ofNat_sub h6]; rfl
  have ew2:W * (6 - p.length)≤60:=MT (Qj hW (Nat.sub_le 6 _)) (by decide)
  walk_at "ev"
  ·exact qf (by lia)
  ·rw [ew]; exact ⟨by lia,by lia,vC hW h6 bd.1 bd.2⟩
  ·show Sl.va _=Sl.va _
   rw [ew,NN,Int.pow_mul,Hx h6]
end
theorem cM {α:Type} (f:α→D):∀ L:List α,(L.map fun t=>some (f t)).filterMap id=L.map f
 | []=>rfl
 | x::L=>by
  rw [MN,MN,N7]
  exact congrArg (f x:: ·) (cM f L)
noncomputable def rD:Fn:=fun ds r=>∃ (x:Int) (W:Nat),W≤10∧0≤x∧ds=[.int x,.int (W:Nat)]∧r=.ok (.va (.tup ((K8 (2 ^ W) x).map .int)))
theorem HX (h:W≤10) (h2:0≤x):rD [.int x,.int (W:Nat)] (.ok (.va (.tup ((K8 (2 ^ W) x).map .int)))):=⟨x,W,h,h2,rfl,rfl⟩
section
local macro_rules | `(tactic| walk_at "evE")=> `(tactic| first | ((with_reducible show aF _ (M5 "PLACES" _) _ _); with_reducible refine sj (by assumption) ?_))
local macro_rules | `(tactic| walk_at "evBo")=> `(tactic| first | with_reducible refine Fe ?_ | with_reducible refine Ff ?_ | with_reducible refine AA ?_)
local macro_rules | `(tactic| walk_at "evXC")=> `(tactic| first | with_reducible refine x_call (F:=rC) (by assumption) (by decide) ?_)
theorem EC (Fu:fM K "powers_of" "powers_of" fm f fd) (T:Txt K mg) (PL:∃ tk:Tok,mg "PLACES"=some (.int 6 tk)) (h1:dz P w K mg base 1 "trimmed" rC):bz P w K mg base (dR P w) 2 f fd ["key","width"] (gv K rD):=by
 obtain ⟨tk,hPL⟩:=PL
 refine dS Fu oR oS (by rintro ds r ⟨x,W,_,_,rfl,_⟩; rfl) (by rintro ds r ⟨x,W,_,_,_,rfl⟩; exact ⟨_,rfl⟩) fun c hq ds sl hF=>?_
 obtain ⟨x,W,hW,hx,rfl,e⟩:=hF
 injection e with e
 subst e
 show bf c _ [.va (.int x),.va (.int (W:Nat)),.un] _ _
 conv in (aB _)=>whnf
 walk_at "ev"
 ·exact ⟨by lia,by lia,by decide⟩
 walk_at "ev"
 rw [NN]
 refine e_x (dZ hq (N':=["k","key","mask","width"]) (ρ0:=fun _=>[.un,.va (.int x),.va (.int (1 * 2 ^ W - 1)),.va (.int (W:Nat))]) (fun t=>.un (.fr (by walk_at "at") (by walk_at "at") (by decide) rfl (.fr (by walk_at "at") (by walk_at "at") (by decide) rfl (.fr (by walk_at "at") (by walk_at "at") (by decide) rfl .nil)))) (Hq (Txt.range T) ?_))
 walk_at "ev"
 refine ⟨rfl,⟨⟨by decide,by decide⟩,⟨⟨by decide,by decide⟩,⟨by decide,?_⟩⟩⟩⟩
 refine ⟨(Ny 6).map fun (i:Nat)=>some (.int (x / (2 ^ W) ^ (5 - i) % 2 ^ W)),rfl,?_,fE ?_⟩
 ·intro c' hc t i d o hd ho
  unfold AF at hd
  simp only [MS,MZ] at hd ho
  obtain ⟨a,ha,rfl⟩:=hd
  obtain ⟨a',ha',rfl⟩:=ho
  have hi:i<6:=by simpa using (MU.mp ha').1
  rw [Py hi] at ha'; cases ha'
  rw [show (6 - 1 - -1:Int).toNat=6 by decide,Py hi] at ha; cases ha
  refine dJ (by walk_at "at") (yl (by walk_at "sset") ⟨.un (.same (.same (.same .nil))),?_⟩)
  simp only [sF]
  refine ⟨fun _=>?_,fun h=>by cases h⟩
  have e5:((W:Int) * (6 - 1 - (i:Int))).toNat=W * (5 - i):=by
   rw [show ((6:Int) - 1 - (i:Int))=((5 - i:Nat):Int) by lia,← Int.natCast_mul,NN]
  have e6:(0:Int)≤(W:Int) * (6 - 1 - (i:Int)):=Int.mul_nonneg (by lia) (by lia)
  have hp:(0:Int)<(2 ^ W) ^ (5 - i):=Pe (two_pos W)
  walk_at "ev"
  ·exact qf (by lia)
  ·show some _=some (D.int _)
   rw [e5,Int.pow_mul,xA W (Int.ediv_nonneg hx (by lia))]
 ·refine ⟨_,rfl,?_⟩
  rw [cM (fun (i:Nat)=>D.int (x / (2 ^ W) ^ (5 - i) % 2 ^ W)) (Ny 6),show ((Ny 6).map fun (i:Nat)=>D.int (x / (2 ^ W) ^ (5 - i) % 2 ^ W))=((Ny 6).map fun (i:Nat)=>x / (2 ^ W) ^ (5 - i) % 2 ^ W).map D.int by rw [Na]; rfl]
  walk_at "ev"
  exact bB (HU (by simp)) rfl
end
noncomputable def rE (b:Int) (t:aO):D:=.tup [.int (pk b t.1),.int t.2]
noncomputable def rF:Fn:=fun ds r=>∃ (L:List aO) (W:Nat),W≤10∧L.length≤20000∧(∀ t∈L,Bd (2 ^ W) t.1)∧ds=[.lst (L.map aM),.int (W:Nat)]∧r=.ok (.ow (L.map (rE (2 ^ W))))
theorem HY {L:List aO} (h:W≤10) (h1:L.length≤20000) (h2:∀ t∈L,Bd (2 ^ W) t.1):rF [.lst (L.map aM),.int (W:Nat)] (.ok (.ow (L.map (rE (2 ^ W))))):=⟨L,W,h,h1,h2,rfl,rfl⟩
section
local macro_rules | `(tactic| walk_at "evCa")=> `(tactic| first | with_reducible refine cG (F:=BC) (by assumption) (by decide) ?_)
theorem ED (Fu:fM K "packed" "packed" jv f fd) (T:Txt K mg) (h1:dz P w K mg base 1 "key_of" BC):bz P w K mg base (dR P w) 2 f fd ["some","width"] (gv K rF):=by
 refine dS Fu xS xT (by rintro ds r ⟨L,W,_,_,_,rfl,_⟩; rfl) (by rintro ds r ⟨L,W,_,_,_,_,rfl⟩; exact ⟨_,rfl⟩) fun c hq ds sl hF=>?_
 obtain ⟨L,W,hW,hL,hb,rfl,e⟩:=hF
 injection e with e
 subst e
 show bf c _ [.va (.lst (L.map aM)),.va (.int (W:Nat))] _ _
 conv in (aB _)=>whnf
 refine bq (gP (dZ hq (N':=["powers","number","width"]) (ρ0:=fun _=>[.un,.un,.va (.int (W:Nat))]) (fun t=>.un (.un (.fr (by walk_at "at") (by walk_at "at") (by decide) rfl .nil))) (cj ?_)))
 walk_at "ev"
 ·exact sY (by rw [MO]; lia)
 refine ⟨L.map fun t=>some (rE (2 ^ W) t),by simp,?_,by show Sl.ow _=Sl.ow _; rw [cM]⟩
 intro c' hc t i d o hd ho
 simp only [MS,MZ] at hd ho
 obtain ⟨x,hx,rfl⟩:=hd
 obtain ⟨x',hx',rfl⟩:=ho
 rw [hx] at hx'; cases hx'
 have hbx:=hb x (NY hx)
 show mJ c' _ (.tup [.tup (x.1.map .int),.int x.2]) _ _
 walk_at "ev"
 refine ⟨.un (.un (.same .nil)),?_⟩
 simp only [sF]
 refine ⟨fun _=>?_,fun h=>by cases h⟩
 walk_at "ev"
 refine bB (Kz hW hbx) ?_
 walk_at "ev"
 rfl
end
end
section
variable {P:Program} {w:World} {K:MI} {mg:Str→Option Value} {base:Heap}
noncomputable def EE:K7:=fun kvs ds Z=>∃ (ts A B:List aO) (W:Nat),W≤10∧ts.length+A.length * B.length≤20000∧A.length≤20000∧B.length≤20000∧(∀ t∈ts,Bd (2 ^ W) t.1)∧(∀ l∈A,∀ r∈B,Bd (2 ^ W) (cu l.1 r.1)∧EV.MulOk l.2 r.2) ∧
 kvs=cF ((aG ts).map (fV (2 ^ W)))∧ds=[.lst (A.map (rE (2 ^ W))),.lst (B.map (rE (2 ^ W)))]∧Z=fun kvs'=>kvs'=cF ((aG (ts++aH A B)).map (fV (2 ^ W)))
section
local macro_rules | `(tactic| walk_at "evS")=> `(tactic| first | ((with_reducible show eE _ (Ri (OC (M5 _ _) _ _) Rq _ _) _ _ _); with_reducible refine uP (by walk_at "at") (by walk_at "at") ?_ (ho:=by walk_at "own")))
theorem HZ (Fu:fM K "add_products" "add_products" di f fd) (T:Txt K mg):bz P w K mg base (dR P w) 1 f fd ["total","left","right"] (G8 K EE):=by
 refine Kg Fu jN jO (by rintro kvs ds Z ⟨t0,A,B,W,_,_,_,_,_,_,_,rfl,_⟩; rfl) fun c hq q kvs ds Z hF=>?_
 obtain ⟨t0,A,B,W,hW,hl,hA,hB,hb0,hp,rfl,rfl,rfl⟩:=hF
 have e00:t0=t0++aH (A.take 0) B:=by show t0=t0++[]; rw [NR]
 rw [show cF ((aG t0).map (fV (2 ^ W)))=cF ((aG (t0++aH (A.take 0) B)).map (fV (2 ^ W))) by rw [← e00]]
 show bf c _ [.aK q (cF ((aG (t0++aH (A.take 0) B)).map (fV (2 ^ W)))),.va (.lst (A.map (rE (2 ^ W)))),.va (.lst (B.map (rE (2 ^ W)))),.un,.un,.un,.un,.un] _ _
 conv in (aB _)=>whnf
 walk_at "ev"
 with_reducible refine cP hq (cj ?_)
 walk_at "ev"
 refine ⟨fun i ρ'=>∃ s3 s4 s5 s6 s7:Sl,ρ'=[.aK q (cF ((aG (t0++aH (A.take i) B)).map (fV (2 ^ W)))),.va (.lst (A.map (rE (2 ^ W)))),.va (.lst (B.map (rE (2 ^ W)))),s3,s4,s5,s6,s7],⟨_,_,_,_,_,rfl⟩,?_,?_⟩
 ·rintro c' o5 ym yo i d ρ' hd ⟨s3,s4,s5,s6,s7,rfl⟩
  simp only [MS,MZ] at hd
  obtain ⟨l,hlx,rfl⟩:=hd
  obtain ⟨hi,rfl⟩:=MU.mp hlx
  have hq':c'.X.xe=fun _ _=>False:=by rw [o5]; exact hq
  show mJ c' _ (.tup [.int (pk (2 ^ W) A[i].1),.int A[i].2]) _ _
  walk_at "ev"
  with_reducible refine cP hq' (cj ?_)
  walk_at "ev"
  have hpi:=hp A[i] (Nj hi)
  have e0:t0++aH (A.take (i+1)) B=(t0++aH (A.take i) B)++B.map (dh A[i]):=by
   rw [NL hi,ny,Nb]
  have hprev:∀ t∈t0++aH (A.take i) B,Bd (2 ^ W) t.1:=fun t ht=>by
   rcases Ng.mp ht with z | z
   ·exact hb0 t z
   ·obtain ⟨l,hl,r,hr,rfl⟩:=fW z
    exact (hp l (QT hl) r hr).1
  have hlen:(t0++aH (A.take i) B).length+B.length≤20000:=by
   rw [Nr,cX,NW,Qe (by lia),Nat.add_assoc,← Qp]
   exact MT (Nat.add_le_add_left (Nat.mul_le_mul_right _ (by lia)) _) hl
  generalize A[i]=l at hpi e0 ⊢
  generalize t0++aH (A.take i) B=ts at e0 hprev hlen ⊢
  refine ⟨fun j ρ'=>∃ s5 s6 s7:Sl,ρ'=[.aK q (cF ((aG (ts++(B.take j).map (dh l))).map (fV (2 ^ W)))),.va (.lst (A.map (rE (2 ^ W)))),.va (.lst (B.map (rE (2 ^ W)))),.va (.int (pk (2 ^ W) l.1)),.va (.int l.2),s5,s6,s7],⟨s5,s6,s7,by simp⟩,?_,?_⟩
  ·rintro c2 hcX2 hcR2 hcM2 j d ρ' hd ⟨s5,s6,s7,rfl⟩
   simp only [MS,MZ] at hd
   obtain ⟨r,hrx,rfl⟩:=hd
   obtain ⟨hj,rfl⟩:=MU.mp hrx
   obtain ⟨hb,hm⟩:=hpi B[j] (Nj hj)
   have e1:ts++(B.take (j+1)).map (dh l)=(ts++(B.take j).map (dh l))++[dh l B[j]]:=by
    rw [NL hj,Nt,Nb]; rfl
   have hprev2:∀ t∈ts++(B.take j).map (dh l),Bd (2 ^ W) t.1:=fun t ht=>by
    rcases Ng.mp ht with z | z
    ·exact hprev t z
    ·obtain ⟨r,hr,rfl⟩:=Nk.mp z
     exact (hpi r (QT hr)).1
   have hlen2:(ts++(B.take j).map (dh l)).length<20000:=by
    rw [Nr,MO,NW]; lia
   have key:=Hw (two_pos W) hprev2 (t:=dh l B[j]) hb
   rw [← e1] at key
   generalize ts++(B.take j).map (dh l)=us at key hlen2 ⊢
   generalize B[j]=r at key hb hm ⊢
   show mJ c2 _ (.tup [.int (pk (2 ^ W) r.1),.int r.2]) _ _
   have ek:pk (2 ^ W) (dh l r).1=pk (2 ^ W) l.1+pk (2 ^ W) r.1:=Ec _ _ _
   rw [ek] at key
   have hC:(cF ((aG us).map (fV (2 ^ W)))).length<sizeLine:=ic (by
    have:=gC us
    simp only [cF,MO]; lia)
   generalize (aG us).map (fV (2 ^ W))=C at key hC ⊢
   walk_at "ev"
   refine E7 (by walk_at "at") (by walk_at "at") ?_
   walk_at "ev"
   refine ⟨_,.k rfl rfl,?_⟩
   rw [i6]
   cases hv:bh C (pk (2 ^ W) l.1+pk (2 ^ W) r.1) with
   | some m =>
    rw [hv] at key
    show mO _ _ true
    walk_at "ev"
    refine ⟨m,by rw [← show bh (cF C) (.inl (pk (2 ^ W) l.1+pk (2 ^ W) r.1))=some (D.int m) by rw [i6,hv]; rfl]; exact .k rfl rfl,?_⟩
    walk_at "ev"
    refine ⟨_,.k rfl rfl hC,?_⟩
    walk_at "ev"
    refine ⟨.va (.int (pk (2 ^ W) r.1)),.va (.int r.2),.va (.int (pk (2 ^ W) l.1+pk (2 ^ W) r.1)),?_⟩
    show [Sl.aK q (putD (cF C) (.inl (pk (2 ^ W) l.1+pk (2 ^ W) r.1)) (.int (m+l.2 * r.2))),_,_,_,_,_,_,_]=_
    rw [qL,show putD C (pk (2 ^ W) l.1+pk (2 ^ W) r.1) (m+l.2 * r.2)=_ from key]
   | none =>
    rw [hv] at key
    show mO _ _ false
    walk_at "ev"
    refine ⟨_,.k rfl rfl hC,?_⟩
    walk_at "ev"
    refine ⟨.va (.int (pk (2 ^ W) r.1)),.va (.int r.2),.va (.int (pk (2 ^ W) l.1+pk (2 ^ W) r.1)),?_⟩
    show [Sl.aK q (putD (cF C) (.inl (pk (2 ^ W) l.1+pk (2 ^ W) r.1)) (.int (l.2 * r.2))),_,_,_,_,_,_,_]=_
    rw [qL,← Qs (l.2 * r.2),show putD C (pk (2 ^ W) l.1+pk (2 ^ W) r.1) (0+l.2 * r.2)=_ from key]
  ·rintro ρ' ⟨s5,s6,s7,rfl⟩
   rw [MO,NF,← e0]
   walk_at "ev"
   exact ⟨_,_,_,_,_,rfl⟩
 ·rintro ρ' ⟨s3,s4,s5,s6,s7,rfl⟩
  rw [MO,NF]
  walk_at "ev"
  exact ⟨_,_,rfl,rfl⟩
end
noncomputable def IY (C:List (Int×Int)):D:=.fdK ((cF C).map (·.1)) ((cF C).map (·.2))
theorem BD (C):(cF C).map (·.1)=(C.map (·.1)).map M6:=by unfold cF; rw [Na,Na]; rfl
noncomputable def BE:Fn:=fun ds r=>∃ (ts:List aO) (W:Nat),W≤10∧ts.length≤20000∧(∀ t∈ts,Bd (2 ^ W) t.1)∧ds=[IY ((aG ts).map (fV (2 ^ W))),.int (W:Nat)]∧r=.ok (.ow ((bC ts).map aM))
theorem KA (h:W≤10) (h1:ts.length≤20000) (h2:∀ t∈ts,Bd (2 ^ W) t.1):BE [IY ((aG ts).map (fV (2 ^ W))),.int (W:Nat)] (.ok (.ow ((bC ts).map aM))):=⟨ts,W,h,h1,h2,rfl,rfl⟩
theorem tW (h:fh ltI true L):L.Pairwise fun x y=>y<x:=by
 unfold fh at h
 exact h.imp fun {x y} q=>by simpa using q
section
local macro_rules | `(tactic| walk_at "evIx")=> `(tactic| with_reducible refine Hy ?_)
local macro_rules | `(tactic| walk_at "evCa")=> `(tactic| first | with_reducible refine cG (F:=rD) (by assumption) (by decide) ?_)
theorem Ia (Fu:fM K "unpacked" "unpacked" f9 f fd) (T:Txt K mg) (h1:dz P w K mg base 2 "powers_of" rD):bz P w K mg base (dR P w) 3 f fd ["total","width"] (gv K BE):=by
 refine dS Fu qV qW (by rintro ds r ⟨ts,W,_,_,_,rfl,_⟩; rfl) (by rintro ds r ⟨ts,W,_,_,_,_,rfl⟩; exact ⟨_,rfl⟩) fun c hq ds sl hF=>?_
 obtain ⟨ts,W,hW,hl,hb,rfl,e⟩:=hF
 injection e with e
 subst e
 show bf c _ [.va (IY ((aG ts).map (fV (2 ^ W)))),.va (.int (W:Nat))] _ _
 conv in (aB _)=>whnf
 refine bq (gP (dZ hq (N':=["key","total","width"]) (ρ0:=fun _=>[.un,.va (IY ((aG ts).map (fV (2 ^ W)))),.va (.int (W:Nat))]) (fun t=>.un (.fr (by walk_at "at") (by walk_at "at") (by decide) rfl (.fr (by walk_at "at") (by walk_at "at") (by decide) rfl .nil))) (cj (e_x (sS (Txt.sorted T) ?_)))))
 walk_at "ev"
 have hk:=dN ts
 have hg:=oG hb
 have nd:(((aG ts).map (fV (2 ^ W))).map (·.1)).Nodup:=by
  rw [Na]
  unfold Qu at hk ⊢
  rw [OB] at hk ⊢
  exact RB.imp_of_mem (fun {x y} hx hy q z=>q (sW (two_pos W) (hg x hx).1 (hg y hy).1 (hg x hx).2 (hg y hy).2 z)) hk
 refine ⟨((aG ts).map (fV (2 ^ W))).map (·.1),_,by rw [← BD]; rfl,nd,fun L' hp hs=>?_⟩
 have eL:=AK (two_pos W) hb hp (tW hs)
 subst eL
 have hle:=gC ts
 have hpl:=(bu (aG ts)).length_eq
 refine fE (zK rfl ⟨sY (by simp only [MO]; lia),(eS (aG ts)).map Eu,by simp,?_,?_⟩)
 ·intro c' hc t i d o hd ho
  simp only [MS,MZ] at hd ho
  obtain ⟨n,⟨x,hx,rfl⟩,rfl⟩:=hd
  obtain ⟨x',hx',rfl⟩:=ho
  rw [hx] at hx'; cases hx'
  have hm:x∈aG ts:=(bu (aG ts)).subset (NY hx)
  have hv:bh (cF ((aG ts).map (fV (2 ^ W)))) (.inl (pk (2 ^ W) x.1))=some (.int x.2):=by
   rw [i6,sX (two_pos W) hg (hg x hm).1 (hg x hm).2,oH hk hm]; rfl
  refine dJ (by walk_at "at") (yl (by walk_at "sset") ⟨.un (.same (.same .nil)),?_⟩)
  simp only [sF]
  have h0:=(Kp (two_pos W) (hg x hm).1).1
  walk_at "ev"
  refine ⟨_,_,_,rfl,rfl,hv,?_⟩
  walk_at "ev"
  ·unfold Eu; rw [if_neg fun h=>h (by assumption)]
  refine bB (HX hW h0) ?_
  rw [Hs (two_pos W) (hg x hm).1,(hg x hm).2]
  walk_at "ev"
  refine ⟨_,_,_,rfl,rfl,hv,?_⟩
  walk_at "ev"
  unfold Eu
  rw [if_pos (by assumption)]
 ·show Sl.ow _=Sl.ow _
  rw [j8,Av (keys_nodup hk)]
  rfl
end
structure Mp (A B:List aO):Prop where
 la:A.length≤20000
 lb:B.length≤20000
 lp:A.length * B.length≤20000
 pa:∀ t∈A,t.1.length≤6∧∀ x∈t.1,0≤x∧x≤500
 pb:∀ t∈B,t.1.length≤6∧∀ x∈t.1,0≤x∧x≤500
 mu:∀ l∈A,∀ r∈B,EV.MulOk l.2 r.2
theorem vN:∀ {L:List aO} (a:Int),a≤m→(∀ t∈L,bQ t.1 k≤m)→L.foldl (fun a t=>if bQ t.1 k>a then bQ t.1 k else a) a≤m
 | [],_,h,_=>h
 | t::L,a,h,q=>by
  rw [N9]
  have:=q t MW
  exact vN _ (by split <;> lia) fun u hu=>q u (MX _ hu)
theorem BF (h0:0≤m) (h:∀ t∈L,∀ x∈t.1,x≤m):Cp (dQ L)≤m:=by
 refine tV h0 fun n hn=>?_
 unfold dQ at hn
 obtain ⟨k,_,rfl⟩:=Nk.mp hn
 refine vN 0 h0 fun t ht=>?_
 by_cases z:k<t.1.length
 ·rw [c9 z]; exact h t ht _ (Nj _)
 ·rw [cL (by lia)]; exact h0
theorem BG (ht:t∈L) (hl:t.1.length≤6) (hx:x∈t.1):x≤Cp (dQ L):=by
 obtain ⟨k,hk,rfl⟩:=List.getElem_of_mem hx
 refine Nm ?_ (BA (show gk L k∈dQ L from Nk.mpr ⟨k,by simp; lia,rfl⟩))
 unfold gk
 rw [← c9 hk]
 suffices H:∀ a:Int,bQ t.1 k≤L.foldl (fun a t=>if bQ t.1 k>a then bQ t.1 k else a) a from H 0
 induction L with
 | nil=>cases ht
 | cons u L ih =>
  intro a
  rw [N9]
  rcases M0.mp ht with rfl | ht
  ·refine Nm ?_ (vM L k _)
   split <;> lia
  ·exact ih ht _
theorem EF (h:0≤x):x<2 ^ N3 x:=by
 unfold N3
 by_cases z:x=0
 ·subst z; decide
 ·have e:(x == 0)=false:=by simpa using z
  rw [e,if_neg MV,gE]
  have:=Nat.lt_log2_self (n:=x.natAbs)
  lia
theorem bits_le (h:x.natAbs<1024):N3 x≤10:=by
 unfold N3
 by_cases z:x=0
 ·subst z; decide
 ·have e:(x == 0)=false:=by simpa using z
  rw [e,if_neg MV]
  have:=(Nat.log2_lt (n:=x.natAbs) (k:=10) (by lia)).mpr h
  lia
end
section
variable {P:Program} {w:World} {K:MI} {mg:Str→Option Value} {base:Heap}
noncomputable abbrev Part:=Int×List (List aO)
noncomputable def ai (A:List aO):D:=.lst (A.map aM)
noncomputable def gn (p:Part):D:=.tup (.int p.1::p.2.map ai)
noncomputable def gF (n:Int) (As:List (List aO)):List aO:=As.foldl aH (cT n)
noncomputable def gp (ps:List Part):List aO:=ps.flatMap fun p=>gF p.1 p.2
noncomputable def bD (As:List (List aO)):Nat:=(As.map fun A=>max A.length 1).foldr (· * ·) 1
noncomputable def lO (A:List aO):Int:=Cp (dQ A)
noncomputable def tX (As:List (List aO)):MP:=(As.map mp).foldr (· * ·) 1
theorem BH (As):∀ L:List aO,mp (As.foldl aH L)=mp L * tX As:=by
 induction As with
 | nil=>intro L; show mp L=mp L * 1; grind
 | cons A As ih =>
  intro L
  rw [N9,ih,tF]
  show _=mp L * (mp A * tX As)
  grind
theorem iB (n) (As):mp (gF n As)=(n:MP) * tX As:=by unfold gF; rw [BH,oO]
theorem BI (h:As.Perm Bs):tX As=tX Bs:=by
 induction h with
 | nil=>rfl
 | cons x _ ih=>exact congrArg (mp x * ·) ih
 | swap x y l=>show mp y * (mp x * tX l)=mp x * (mp y * tX l); grind
 | trans _ _ a b=>rw [a,b]
theorem BJ (As) (A):tX (As++[A])=tX As * mp A:=by
 induction As with
 | nil=>show mp A * 1=1 * mp A; grind
 | cons B As ih=>show mp B * tX (As++[A])=mp B * tX As * mp A; rw [ih]; grind
theorem xZ (h:As.Perm Bs):bD As=bD Bs:=by
 unfold bD
 induction h with
 | nil=>rfl
 | cons x _ ih=>simp only [MN,Qg] at ih ⊢; rw [ih]
 | swap x y l=>simp only [MN,Qg]; rw [Nat.mul_left_comm]
 | trans _ _ a b=>rw [a,b]
theorem x6 (As) (A):bD (As++[A])=bD As * max A.length 1:=by
 unfold bD
 induction As with
 | nil=>simp
 | cons B As ih=>simp only [Om,MN,Qg] at ih ⊢; rw [ih,Nat.mul_assoc]
theorem BK (As):1≤bD As:=by
 unfold bD
 induction As with
 | nil=>exact ML _
 | cons B As ih=>simp only [MN,Qg]; exact Qj (m₁:=1) (n₁:=1) (by lia) ih
theorem gG (As) (i):bD (As.take i)≤bD As:=by
 induction As generalizing i with
 | nil=>simp
 | cons B As ih =>
  cases i with
  | zero=>exact BK _
  | succ i =>
   have:=ih i
   unfold bD at *
   simp only [List.take_succ_cons,MN,Qg]
   exact Nat.mul_le_mul_left _ this
noncomputable def Ex (m:Int) (L:List aO):Prop:=∀ t∈L,t.1.length≤6∧∀ x∈t.1,0≤x∧x≤m
noncomputable def Bn (m:Nat) (L:List aO):Prop:=∀ t∈L,t.2.natAbs<2 ^ m
theorem Ex.bd (h:Ex m L) (hm:m<2 ^ W):∀ t∈L,Bd (2 ^ W) t.1:=fun t ht=>⟨(h t ht).1,fun x hx=>⟨((h t ht).2 x hx).1,QZ ((h t ht).2 x hx).2 hm⟩⟩
theorem BL (h0:0≤m) (h:∀ x∈p,0≤x∧x≤m) (k):0≤bQ p k∧bQ p k≤m:=by
 by_cases z:k<p.length
 ·rw [c9 z]; exact h _ (Nj _)
 ·rw [cL (by lia)]; lia
theorem EG (h0:0≤m) (g0:0≤n) (hp:p.length≤6∧∀ x∈p,0≤x∧x≤m) (hq:q.length≤6∧∀ x∈q,0≤x∧x≤n):(cu p q).length≤6∧∀ x∈cu p q,0≤x∧x≤m+n:=by
 refine ⟨by rw [i7]; lia,fun x hx=>?_⟩
 unfold cu at hx
 obtain ⟨k,_,rfl⟩:=Nk.mp hx
 have:=BL h0 hp.2 k
 have:=BL g0 hq.2 k
 lia
theorem Ex.prod (h0:0≤m) (g0:0≤n) (h:Ex m A) (g:Ex n B):Ex (m+n) (aH A B):=fun t ht=>by
 obtain ⟨l,hl,r,hr,rfl⟩:=fW ht
 exact EG h0 g0 (h l hl) (g r hr)
theorem Ex.sum (h:Ex m L):Ex m (aG L):=by
 unfold aG
 suffices H:∀ (ts A:List aO),Ex m A→Ex m ts→Ex m (ts.foldl fj A) from H L [] (fun t ht=>by cases ht) h
 intro ts
 induction ts with
 | nil=>exact fun A hA _=>hA
 | cons u ts ih =>
  refine fun A hA hts=>ih _ (fun t ht=>?_) fun t ht=>hts t (MX _ ht)
  rcases qP ht with rfl | q
  ·have:=hts u MW
   exact ⟨MT (fT _) this.1,fun x hx=>this.2 x (qK hx)⟩
  ·exact hA t q
theorem Ex.mono (h:Ex m L) (hn:m≤n):Ex n L:=fun t ht=>⟨(h t ht).1,fun x hx=>⟨((h t ht).2 x hx).1,Nm ((h t ht).2 x hx).2 hn⟩⟩
theorem Bn.mono (h:Bn m L) (hn:m≤n):Bn n L:=fun t ht=>NI (h t ht) (QO (by decide) hn)
theorem Bn.prod (h:Bn m A) (g:Bn n B):Bn (m+n) (aH A B):=fun t ht=>by
 obtain ⟨l,hl,r,hr,rfl⟩:=fW ht
 show (l.2 * r.2).natAbs<_
 rw [Int.natAbs_mul,Nat.pow_add]
 exact Nat.mul_lt_mul'' (h l hl) (g r hr)
theorem Bn.sum (h:Bn m L) (hl:L.length<2 ^ 16):Bn (m+16) (aG L):=fun t ht=>by
 have:=HA (m:=2 ^ m) (fun t ht=>OU (h t ht)) t ht
 refine OM this ?_
 rw [Nat.pow_add,Qq]
 exact Nat.mul_lt_mul_of_pos_left hl (Nat.two_pow_pos m)
theorem vO (h:a.natAbs<2 ^ m):N3 a≤m+1:=by
 unfold N3
 by_cases z:a=0
 ·subst z; simp
 ·have e:(a == 0)=false:=by simpa using z
  rw [e,if_neg MV]
  have:=(Nat.log2_lt (n:=a.natAbs) (k:=m) (by lia)).mpr h
  lia
theorem oZ (h:a.natAbs<2 ^ m) (g:b.natAbs<2 ^ n) (hm:m+n≤1000000):EV.MulOk a b:=by
 have h1:=vO h
 have h2:=vO g
 unfold EV.MulOk IntMulOk Builtin.Int.intTooBig bitsLine
 have e:decide (((N3 a+N3 b:Nat):Int)>((2 ^ 27:Nat):Int))=false:=by
  apply decide_eq_false
  rw [show (2:Nat) ^ 27=134217728 by decide]
  lia
 simp only [Qc]
 rintro ⟨_,z⟩
 have z':=of_decide_eq_true z
 rw [show (2:Nat) ^ 27=134217728 by decide] at z'
 lia
structure cN (A:List aO):Prop where
 l:A.length≤20000
 e:Ex 120 A
 b:Bn 2000 A
structure cV (p:Part):Prop where
 n:p.1.natAbs<2 ^ 2000
 m:p.2.length≤8
 f:∀ A∈p.2,cN A
structure cA (ps:List Part):Prop where
 p:∀ p∈ps,cV p
 l:ps.length≤1000
 s:(ps.map fun p=>bD p.2).sum≤20000
theorem BN (A):0≤lO A:=Fx _
theorem cN.mx (h:cN A):lO A≤120:=BF (by decide) fun t ht x hx=>((h.e t ht).2 x hx).2
theorem cN.ex (h:cN A):Ex (lO A) A:=fun t ht=>⟨(h.e t ht).1,fun x hx=>⟨((h.e t ht).2 x hx).1,BG ht (h.e t ht).1 hx⟩⟩
noncomputable def o9 (p:Part):Int:=(p.2.map lO).sum
theorem vP (As:List (List aO)):0≤(As.map lO).sum:=by
 induction As with
 | nil=>exact N5 _
 | cons A As ih=>rw [MN,OF]; have:=BN A; lia
theorem cV.sz (h:cV p):o9 p≤960:=by
 have:∀ As:List (List aO),(∀ A∈As,cN A)→(As.map lO).sum≤120 * As.length:=fun As=>by
  induction As with
  | nil=>exact fun _=>by simp
  | cons A As ih =>
   intro hA
   have:=ih fun B hB=>hA B (MX _ hB)
   have:=(hA A MW).mx
   rw [MN,OF,Nl]; lia
 have h1:=this p.2 h.f
 have h2:=h.m
 unfold o9
 lia
noncomputable def gq (ps:List Part):Int:=ps.foldl (fun m p=>if o9 p>m then o9 p else m) 0
theorem nD (ps:List Part):∀ m:Int,m≤ps.foldl (fun m p=>if o9 p>m then o9 p else m) m:=by
 induction ps with
 | nil=>exact fun m=>N5 _
 | cons p ps ih=>intro m; rw [N9]; refine Nm ?_ (ih _); split <;> lia
theorem EH (h:p∈ps):o9 p≤gq ps:=by
 unfold gq
 suffices H:∀ m:Int,o9 p≤ps.foldl (fun m p=>if o9 p>m then o9 p else m) m from H 0
 induction ps with
 | nil=>cases h
 | cons q ps ih =>
  intro m
  rw [N9]
  rcases M0.mp h with rfl | h
  ·refine Nm ?_ (nD ps _)
   split <;> lia
  ·exact ih h _
theorem EI (h:∀ p∈ps,cV p):gq ps≤960:=by
 unfold gq
 suffices H:∀ m:Int,m≤960→ps.foldl (fun m p=>if o9 p>m then o9 p else m) m≤960 from H 0 (by decide)
 induction ps with
 | nil=>exact fun m hm=>hm
 | cons q ps ih =>
  intro m hm
  rw [N9]
  refine ih (fun p hp=>h p (MX _ hp)) _ ?_
  have:=(h q MW).sz
  split <;> lia
noncomputable def BO (ps:List Part):Nat:=N3 (gq ps)
theorem EJ (h:∀ p∈ps,cV p):BO ps≤10∧∀ p∈ps,o9 p<2 ^ BO ps:=by
 have h0:0≤gq ps:=nD ps 0
 have h1:=EI h
 exact ⟨bits_le (by lia),fun p hp=>QZ (EH hp) (EF h0)⟩
theorem i8 (x:α) (xs):EV.cutD (x::xs) (some 1) none=xs:=by
 unfold EV.cutD HT.bZ; simp
noncomputable def BP:Fn:=fun ds r=>∃ ps:List Part,(∀ p∈ps,cV p)∧ds=[.lst (ps.map gn)]∧r=.ok (.va (.int (BO ps:Nat)))
theorem KC (h:∀ p∈ps,cV p):BP [.lst (ps.map gn)] (.ok (.va (.int (BO ps:Nat)))):=⟨ps,h,rfl,rfl⟩
section
local macro_rules | `(tactic| walk_at "evMt")=> `(tactic| with_reducible refine G9 ?_)
local macro_rules | `(tactic| walk_at "evCa")=> `(tactic| first
 | ((with_reducible show aF _ (NH (M5 "max" _) [_] _ _) _ _); with_reducible refine Hh (Txt.max (by assumption)) ?_)
 | ((with_reducible show aF _ (NH (M5 "max" _) [_,_] _ _) _ _); with_reducible refine Az (Txt.max (by assumption)) ?_)
 | ((with_reducible show aF _ (NH (M5 "sum" _) _ _ _) _ _); with_reducible refine Hi (Txt.sum (by assumption)) ?_)
 | with_reducible refine cG (F:=lJ) (by assumption) (by decide) ?_)
theorem Ib (Fu:fM K "width_of" "width_of" gc f fd) (T:Txt K mg) (h1:dz P w K mg base 1 "greatest_powers" lJ):bz P w K mg base (dR P w) 2 f fd ["parts"] (gv K BP):=by
 refine dS Fu qX qY (by rintro ds r ⟨ps,_,rfl,_⟩; rfl) (by rintro ds r ⟨ps,_,_,rfl⟩; exact ⟨_,rfl⟩) fun c hq ds sl hF=>?_
 obtain ⟨ps,hp,rfl,e⟩:=hF
 injection e with e
 subst e
 show bf c _ [.va (.lst (ps.map gn)),.un,.un] _ _
 conv in (aB _)=>whnf
 walk_at "ev"
 with_reducible refine cP hq (cj ?_)
 walk_at "ev"
 refine ⟨fun i ρ'=>∃ s2:Sl,ρ'=[.va (.lst (ps.map gn)),.va (.int (gq (ps.take i))),s2],⟨_,rfl⟩,?_,?_⟩
 ·rintro c' o5 ym yo i d ρ' hd ⟨s2,rfl⟩
  simp only [MS,MZ] at hd
  obtain ⟨p,hpx,rfl⟩:=hd
  obtain ⟨hi,rfl⟩:=MU.mp hpx
  have hpo:=hp ps[i] (Nj hi)
  have eg:gq (ps.take (i+1))=if o9 ps[i]>gq (ps.take i) then o9 ps[i] else gq (ps.take i):=by
   unfold gq; rw [NL hi,Sf]; rfl
  generalize ps[i]=p at hpo eg ⊢
  show mJ c' _ (.tup (.int p.1::p.2.map ai)) _ _
  walk_at "ev"
  refine e_x (dZ (show c'.X.xe=jW by rw [o5]; exact hq) (N':=["some"]) (ρ0:=fun _=>[.un]) (fun t=>.un .nil) (cj ?_))
  walk_at "ev"
  ·rw [i8,MO]; exact sY (by have:=hpo.m; lia)
  rw [i8]
  refine ⟨p.2.map fun A=>some (.int (lO A)),by simp,?_,fE ?_⟩
  ·intro c2 hc2 t j d o hd ho
   simp only [MS,MZ] at hd ho
   obtain ⟨A,hA,rfl⟩:=hd
   obtain ⟨A',hA',rfl⟩:=ho
   rw [hA] at hA'; cases hA'
   have hf:=hpo.f A (NY hA)
   refine dJ (by walk_at "at") (yl (by walk_at "sset") ⟨.un .nil,?_⟩)
   simp only [sF]
   refine ⟨fun _=>?_,fun h=>by cases h⟩
   show aF c2 _ [.va (.lst (A.map aM))] _
   walk_at "ev"
   refine bB (EB fun t ht=>(hf.e t ht).1) (fE ⟨dQ A,by simp [dQ],rfl,fun m ⟨m1,m2⟩=>?_⟩)
   rw [BB m1 m2]; rfl
  ·rw [cM]
   refine ⟨p.2.map lO,by rw [Na]; rfl,?_⟩
   walk_at "ev"
   refine ⟨.va (gn p),?_⟩
   rw [eg]; rfl
 ·rintro ρ' ⟨s2,rfl⟩
  rw [MO,NF]
  walk_at "ev"
  rfl
end
end
section
variable {P:Program} {w:World} {K:MI} {mg:Str→Option Value} {base:Heap}
theorem EK (x:α) (xs):jS (x::xs) 0=some x:=by rw [gy (by decide) (by simp)]; rfl
theorem Ic (b):pk b []=0:=(iY (g:=fun _=>0) fun i _=>cL (Nu _)).trans (iZ _)
theorem Fy (b n):(cT n).map (rE b)=[.tup [.int 0,.int n]]:=by show [D.tup [.int (pk b []),.int n]]=_; rw [Ic]
theorem BQ (xs:List α):EV.cutD xs none (some (-1))=xs.dropLast:=by
 unfold EV.cutD HT.bZ
 rw [List.dropLast_eq_take]
 simp only [List.drop_zero]
 congr 1
 split <;> lia
theorem EL (xs) (x:α):jS (xs++[x]) (-1)=some x:=by
 rw [uU (by decide) (by simp; lia),show (-1+((xs++[x]).length:Int)).toNat=xs.length by simp; lia]
 simp
noncomputable def K9 (b:Int) (A:List aO):D:=.lst (A.map (rE b))
theorem BR {α β:Type} {f:α→β} {L:List α} {M:List β} (h:M.Perm (L.map f)):∃ L':List α,L'.Perm L∧M=L'.map f:=by
 have p:∀ L:List α,Paired (fun a b=>b=f a) L (L.map f):=fun L=>by
  induction L with
  | nil=>exact .nil
  | cons x L ih=>exact .cons rfl ih
 obtain ⟨L',h1,h2⟩:=SR.fR h (p L)
 refine ⟨L',h1,?_⟩
 clear h1 h p
 induction h2 with
 | nil=>rfl
 | cons r _ ih=>rw [r,ih]; rfl
theorem x8 (C):(IY C).pairs=some (C.map fun c=>D.tup [.int c.1,.int c.2]):=by
 show some _=some _
 congr 1
 unfold cF
 rw [Na,Na,List.zipWith_map,List.zipWith_self]
 rfl
theorem x9 (b) (L:List aO):(IY (L.map (fV b))).pairs=some (L.map (rE b)):=by
 rw [x8,Na]; rfl
theorem Ie (b) (L:List aO):D.o7 (L.map (rE b)):=dD fun x _=>sG (by unfold D.o7; exact ⟨kK,by unfold D.o7; exact ⟨kK,by unfold D.o7; trivial⟩⟩)
structure Way (n:Int) (As:List (List aO)) (L:List aO):Prop where
 m:mp L=(n:MP) * tX As
 l:L.length≤bD As
 e:Ex (As.map lO).sum L
 b:Bn (2000+2016 * As.length) L
theorem vQ {n:Int} (h:n.natAbs<2 ^ 2000):Way n [] (cT n) where
 m:=by rw [oO]; show _=_ * (1:MP); grind
 l:=ML _
 e:=fun t ht=>by
  have:t=([],n):=by simpa [cT] using ht
  subst this
  exact ⟨Nu _,fun x hx=>by cases hx⟩
 b:=fun t ht=>by
  have:t=([],n):=by simpa [cT] using ht
  subst this
  exact h
theorem tY:cN (cT 1) where
 l:=by show (1:Nat)≤_; lia
 e:=fun t ht=>by
  have:t=([],1):=by simpa [cT] using ht
  subst this
  exact ⟨Nu _,fun x hx=>by cases hx⟩
 b:=fun t ht=>by
  have:t=([],1):=by simpa [cT] using ht
  subst this
  exact Nat.one_lt_two_pow (by decide)
theorem ya (As) (A):((As++[A]).map lO).sum=(As.map lO).sum+lO A:=by
 rw [Nt,Pa]; simp
theorem gr (h:Way n As L) (f:cN A):mp (aH L A)=(n:MP) * tX (As++[A])∧(aH L A).length≤bD (As++[A])∧Ex ((As++[A]).map lO).sum (aH L A)∧Bn (2000+2016 * As.length+2000) (aH L A):=by
 refine ⟨?_,?_,?_,h.b.prod f.b⟩
 ·rw [tF,h.m,BJ]; grind
 ·rw [cX,x6]; exact Qj h.l (by lia)
 ·rw [ya]; exact Ex.prod (vP _) (BN _) h.e f.ex
theorem BS (h:Way n As L) (f:cN A) (hl:bD (As++[A])≤20000):Way n (As++[A]) (aG (aH L A)):=by
 obtain ⟨h1,h2,h3,h4⟩:=gr h f
 refine ⟨by rw [HK,h1],MT (gC _) h2,h3.sum,(h4.sum (OM (MT h2 hl) (by decide))).mono ?_⟩
 rw [Nr,QM]; lia
theorem BU {As Bs:List (List aO)} (h:As.Perm Bs):(As.map lO).sum=(Bs.map lO).sum:=by
 induction h with
 | nil=>rfl
 | cons x _ ih=>rw [MN,OF,MN,OF,ih]
 | swap x y l=>simp only [MN,OF]; lia
 | trans _ _ a b=>rw [a,b]
theorem BV (As:List (List aO)) (i):((As.take i).map lO).sum≤(As.map lO).sum:=by
 have e:(As.map lO).sum=((As.take i).map lO).sum+((As.drop i).map lO).sum:=by rw [← Pa,← Nt,Oi]
 have:=vP (As.drop i)
 lia
noncomputable def o4:K7:=fun kvs ds Z=>∃ (ts:List aO) (p:Part) (W:Nat),W≤10∧cV p∧o9 p<2 ^ W∧ts.length+bD p.2≤20000∧(∀ t∈ts,Bd (2 ^ W) t.1)∧kvs=cF ((aG ts).map (fV (2 ^ W)))∧ds=[gn p,.int (W:Nat)] ∧
 Z=fun kvs'=>∃ X,mp X=mp (gF p.1 p.2)∧X.length≤bD p.2∧(∀ t∈X,Bd (2 ^ W) t.1)∧kvs'=cF ((aG (ts++X)).map (fV (2 ^ W)))
section
local macro_rules | `(tactic| walk_at "evX")=> `(tactic| first | ((with_reducible show c6 _ (Expr.Dict _ _ _) _ _); with_reducible refine uO ?_))
local macro_rules | `(tactic| walk_at "evXC")=> `(tactic| first
 | ((with_reducible show c6 _ (NH (M5 "sorted" _) _ _ _) _ _); with_reducible refine xE (Txt.sorted (by assumption)) (Txt.len (by assumption)) ?_)
 | ((with_reducible show c6 _ (NH (M5 "list" _) [NH _ _ _ _] _ _) _ _); refine sI 6 (by walk_at "at") rfl (by walk_at "sset") (qR (Txt.list (by assumption)) ?_)))
local macro_rules | `(tactic| walk_at "evXp")=> `(tactic| with_reducible refine vp (F:=EE) (by assumption) (by decide) (by walk_at "at") (by walk_at "at") (by walk_at "own") ?_)
theorem BW (Fu:fM K "add_part" "add_part" gh f fd) (T:Txt K mg) (h1:dz P w K mg base 2 "packed" rF) (h2:xg P w K mg base 1 "add_products" EE):bz P w K mg base (dR P w) 3 f fd ["whole","part","width"] (G8 K o4):=by
 refine Kg Fu qZ q8 (by rintro kvs ds Z ⟨ts,p,W,_,_,_,_,_,_,rfl,_⟩; rfl) fun c hq q kvs ds Z hF=>?_
 obtain ⟨ts,p,W,hW,hp,hsz,hl,hb,rfl,rfl,rfl⟩:=hF
 show bf c _ [.aK q (cF ((aG ts).map (fV (2 ^ W)))),.va (.tup (.int p.1::p.2.map ai)),.va (.int (W:Nat)),.un,.un,.un,.un] _ _
 conv in (aB _)=>whnf
 walk_at "ev"
 refine e_x (dZ hq (N':=["some","width"]) (ρ0:=fun _=>[.un,.va (.int (W:Nat))]) (fun t=>.un (.fr (by walk_at "at") (by walk_at "at") (by decide) rfl .nil)) (cj ?_))
 walk_at "ev"
 ·rw [i8,MO]; exact sY (by have:=hp.m; lia)
 rw [i8]
 refine ⟨p.2.map fun A=>some (K9 (2 ^ W) A),by simp,?_,fE ?_⟩
 ·intro c2 hc2 t j d o hd ho
  simp only [MS,MZ] at hd ho
  obtain ⟨A,hA,rfl⟩:=hd
  obtain ⟨A',hA',rfl⟩:=ho
  rw [hA] at hA'; cases hA'
  have hm:=NY hA
  have hf:=hp.f A hm
  refine dJ (by walk_at "at") (yl (by walk_at "sset") ⟨.un (.same .nil),?_⟩)
  simp only [sF]
  refine ⟨fun _=>?_,fun h=>by cases h⟩
  show aF c2 _ [.va (.lst (A.map aM)),_] _
  refine cG (F:=rF) h1 (by decide) ?_
  walk_at "ev"
  have hx:lO A<2 ^ W:=by
   refine QZ ?_ hsz
   obtain ⟨l,r,e⟩:=List.append_of_mem hm
   unfold o9
   rw [e,Nt,MN,Pa,OF]
   have:=vP l
   have:=vP r
   lia
  exact bB (HY hW hf.l (hf.ex.bd hx)) (fE rfl)
 rw [cM]
 refine ⟨_,rfl,fun x hx=>by obtain ⟨A,_,rfl⟩:=Nk.mp hx; exact ⟨_,rfl⟩,fun ds' hp'=>?_⟩
 obtain ⟨As,hpm,rfl⟩:=BR hp'
 have yk:∀ A∈As,cN A:=fun A hA=>hp.f A (hpm.mem_iff.mp hA)
 have hpl:=xZ hpm
 have hps:=BU hpm
 have hlen:=hpm.length_eq
 refine yl (by walk_at "sset") ?_
 with_reducible refine nZ 3 (by walk_at "at") rfl (by walk_at "sset") ?_
 walk_at "ev"
 refine iK (EK _ _) ?_
 walk_at "ev"
 with_reducible refine J5 4 (by walk_at "at") rfl (by walk_at "sset") ?_
 rw [← Fy (2 ^ W) p.1]
 with_reducible refine cP hq (cj ?_)
 walk_at "ev"
 rw [BQ]
 have hcap:∀ i,bD (As.take i)≤20000:=fun i=>MT (gG As i) (by lia)
 have hm8:As.length≤8:=by rw [hlen]; exact hp.m
 have Lb:∀ (i:Nat) (L A:List aO),As[i]?=some A→Way p.1 (As.take i) L→cN A∧As.take (i+1)=As.take i++[A]∧mp (aH L A)=(p.1:MP) * tX (As.take (i+1))∧(aH L A).length≤bD (As.take (i+1))∧(∀ l∈L,∀ r∈A,Bd (2 ^ W) (cu l.1 r.1)∧EV.MulOk l.2 r.2)∧L.length≤20000:=fun i L A hA hw=>by
  obtain ⟨hi,rfl⟩:=MU.mp hA
  have hf:=yk As[i] (Nj hi)
  have et:As.take (i+1)=As.take i++[As[i]]:=NL hi
  obtain ⟨q1,q2,q3,q4⟩:=gr hw hf
  rw [← et] at q1 q2 q3
  refine ⟨hf,et,q1,q2,fun l hl r hr=>⟨?_,?_⟩,MT hw.l (hcap i)⟩
  ·have hm:dh l r∈aH L As[i]:=Q9.mpr ⟨l,hl,Nk.mpr ⟨r,hr,rfl⟩⟩
   have hx:=BV As (i+1)
   exact q3.bd (by unfold o9 at hsz; lia) _ hm
  ·refine oZ (hw.b l hl) (hf.b r hr) ?_
   rw [NW]; lia
 refine ⟨fun i ρ'=>∃ (L:List aO) (s5 s6:Sl),Way p.1 (As.take i) L∧ρ'=[.aK q (cF ((aG ts).map (fV (2 ^ W)))),.va (.tup (.int p.1::p.2.map ai)),.va (.int (W:Nat)),.va (.lst (As.map (K9 (2 ^ W)))),.va (.lst (L.map (rE (2 ^ W)))),s5,s6],⟨_,_,_,vQ hp.n,rfl⟩,?_,?_⟩
 ·rintro c' o5 ym yo i d ρ' hd ⟨L,s5,s6,hw,rfl⟩
  rw [← List.map_dropLast] at hd
  simp only [MS,MZ] at hd
  obtain ⟨A,hA,rfl⟩:=hd
  rw [List.getElem?_dropLast] at hA
  replace hA:As[i]?=some A:=by
   split at hA
   ·exact hA
   ·cases hA
  obtain ⟨hf,et,q1,q2,q3,q4⟩:=Lb i L A hA hw
  have q5:=hcap (i+1)
  have q6:=BS hw hf (by rw [← et]; exact q5)
  rw [← et] at q6
  show mJ c' _ (.lst (A.map (rE (2 ^ W)))) _ _
  walk_at "ev"
  refine ⟨_,⟨[],L,A,W,hW,by rw [cX] at q2; show 0+_≤_; lia,q4,hf.l,(by intro t ht; cases ht),q3,rfl,rfl,rfl⟩,?_⟩
  rintro kvs' rfl
  walk_at "ev"
  refine ⟨_,x9 _ _,Ie _ _,?_⟩
  repeat ((fail_if_success (with_reducible show bf _ [] _ _ _)); walk_at "ev1")
  with_reducible refine nZ 4 (by walk_at "at") rfl (by walk_at "sset") ?_
  walk_at "ev"
  exact ⟨_,_,_,q6,rfl⟩
 ·rintro ρ' ⟨L,s5,s6,hw,rfl⟩
  rw [List.length_dropLast,MO] at hw
  walk_at "ev"
  ·have hne:As≠[]:=by rintro rfl; simp at *
   obtain ⟨i0,A,e0⟩:∃ i0 A,As=i0++[A]:=⟨As.dropLast,As.getLast hne,(List.dropLast_concat_getLast hne).symm⟩
   have ei:As.length - 1=i0.length:=by rw [e0]; simp
   have hA:As[As.length - 1]?=some A:=by rw [ei,e0]; simp
   have etl:As.take (As.length - 1+1)=As:=P4 (by lia)
   obtain ⟨hf,et,q1,q2,q3,q4⟩:=Lb _ L A hA hw
   rw [etl] at q1 q2
   refine zm (show jS (As.map (K9 (2 ^ W))) (-1)=some (K9 (2 ^ W) A) by rw [e0,Nt]; exact EL _ _) ?_
   walk_at "ev"
   refine ⟨_,⟨ts,L,A,W,hW,by rw [cX] at q2; lia,q4,hf.l,hb,q3,rfl,rfl,rfl⟩,?_⟩
   rintro kvs' rfl
   walk_at "ev"
   refine ⟨_,_,⟨aH L A,by rw [q1,iB,BI hpm],by rw [← hpl]; exact q2,fun t ht=>?_,rfl⟩,rfl⟩
   obtain ⟨l,hl,r,hr,rfl⟩:=fW ht
   exact (q3 l hl r hr).1
  ·have e0:As=[]:=by
    cases As with
    | nil=>rfl
    | cons A As=>simp at *
   have hw0:Way p.1 [] L:=by rw [e0] at hw; exact hw
   have p0:p.2=[]:=List.length_eq_zero_iff.mp (by rw [← hlen,e0]; rfl)
   obtain ⟨q1,q2,q3,q4⟩:=gr hw0 tY
   have hL:L.length≤1:=hw0.l
   have q5:(aH L (cT 1)).length≤1:=q2
   have h0W:(0:Int)<2 ^ W:=two_pos W
   have hx:(([]++[cT 1]:List (List aO)).map lO).sum<2 ^ W:=h0W
   have hp1:bD p.2=1:=by rw [p0]; rfl
   rw [← Fy (2 ^ W) 1]
   refine ⟨_,⟨ts,L,cT 1,W,hW,by rw [cX] at q5; lia,by lia,tY.l,hb,fun l hl r hr=>⟨?_,?_⟩,rfl,rfl,rfl⟩,?_⟩
   ·exact q3.bd hx _ (Q9.mpr ⟨l,hl,Nk.mpr ⟨r,hr,rfl⟩⟩)
   ·exact oZ (hw0.b l hl) (tY.b r hr) (by show 2000+2016 * 0+2000≤_; lia)
   rintro kvs' rfl
   walk_at "ev"
   refine ⟨_,_,⟨aH L (cT 1),?_,by rw [hp1]; exact q5,q3.bd hx,rfl⟩,rfl⟩
   rw [q1,iB,p0]
   show _ * (mp (cT 1) * 1)=_ * (1:MP)
   rw [oO]
   show _ * ((1:MP) * 1)=_ * (1:MP)
   grind
end
end
section
variable {K:MI}
theorem rG (ps) (p:Part):mp (gp (ps++[p]))=mp (gp ps)+mp (gF p.1 p.2):=by
 unfold gp
 rw [List.flatMap_append,oN]
 congr 1
 rw [Q5,Sn,NR]
theorem rH (l:List Nat) (i):(l.take i).sum≤l.sum:=by
 rw [← Oi i l,Pa,Oi]; lia
noncomputable def yb:Fn:=fun ds r=>∃ ps:List Part,cA ps∧ds=[.lst (ps.map gn)]∧r=.ok (.ow ((bC (gp ps)).map aM))
theorem vR (h:cA ps):yb [.lst (ps.map gn)] (.ok (.ow ((bC (gp ps)).map aM))):=⟨ps,h,rfl,rfl⟩
section
local macro_rules | `(tactic| walk_at "evX")=> `(tactic| first | ((with_reducible show c6 _ (Expr.Dict _ _ _) _ _); with_reducible refine uO ?_))
local macro_rules | `(tactic| walk_at "evCa")=> `(tactic| first | with_reducible refine cG (F:=BP) (by assumption) (by decide) ?_)
local macro_rules | `(tactic| walk_at "evXp")=> `(tactic| with_reducible refine vp (F:=o4) (by assumption) (by decide) (by walk_at "at") (by walk_at "at") (by walk_at "own") ?_)
local macro_rules | `(tactic| walk_at "evXC")=> `(tactic| first | ((with_reducible show c6 _ (NH (M5 "unpacked" _) _ _ _) _ _); refine sI 2 (by walk_at "at") rfl (by walk_at "sset") (x_call (F:=BE) (by assumption) (by decide) ?_)))
theorem Ig (Fu:fM K "poly_total" "poly_total" d7 f fd) (T:Txt K mg) (h1:dz P w K mg base 2 "width_of" BP) (h2:xg P w K mg base 3 "add_part" o4) (h3:dz P w K mg base 3 "unpacked" BE):bz P w K mg base (dR P w) 4 f fd ["parts"] (gv K yb):=by
 refine dS Fu lZ l0 (by rintro ds r ⟨ps,_,rfl,_⟩; rfl) (by rintro ds r ⟨ps,_,_,rfl⟩; exact ⟨_,rfl⟩) fun c hq ds sl hF=>?_
 obtain ⟨ps,h,rfl,e⟩:=hF
 injection e with e
 subst e
 show bf c _ [.va (.lst (ps.map gn)),.un,.un,.un] _ _
 conv in (aB _)=>whnf
 obtain ⟨hW,hsz⟩:=EJ h.p
 walk_at "ev"
 refine bB (KC h.p) ?_
 walk_at "ev"
 generalize BO ps=W at hW hsz ⊢
 with_reducible refine cP hq (cj ?_)
 walk_at "ev"
 refine ⟨fun i ρ'=>∃ (ts:List aO) (s3:Sl),mp ts=mp (gp (ps.take i))∧ts.length≤((ps.take i).map fun p=>bD p.2).sum∧(∀ t∈ts,Bd (2 ^ W) t.1)∧ρ'=[.va (.lst (ps.map gn)),.va (.int (W:Nat)),.oK (cF ((aG ts).map (fV (2 ^ W)))),s3],⟨[],_,rfl,ML _,(by intro t ht; cases ht),rfl⟩,?_,?_⟩
 ·rintro c' o5 ym yo i d ρ' hd ⟨ts,s3,hm,hl,hb,rfl⟩
  simp only [MS,MZ] at hd
  obtain ⟨p,hpx,rfl⟩:=hd
  obtain ⟨hi,rfl⟩:=MU.mp hpx
  have et:ps.take (i+1)=ps.take i++[ps[i]]:=NL hi
  have hmem:ps[i]∈ps:=Nj hi
  have hcap:((ps.take (i+1)).map fun p=>bD p.2).sum≤20000:=by rw [List.map_take]; exact MT (rH _ _) h.s
  have ec:((ps.take (i+1)).map fun p=>bD p.2).sum=((ps.take i).map fun p=>bD p.2).sum+bD ps[i].2:=by rw [et,Nt,Pa]; simp
  rw [ec] at hcap
  walk_at "ev"
  refine ⟨_,⟨ts,ps[i],W,hW,h.p _ hmem,hsz _ hmem,by lia,hb,rfl,rfl,rfl⟩,?_⟩
  rintro kvs' ⟨X,x1,x2,x3,rfl⟩
  walk_at "ev"
  refine ⟨ts++X,.va (gn ps[i]),?_,?_,fun t ht=>(Ng.mp ht).elim (hb t) (x3 t),rfl⟩
  ·rw [oN,hm,x1,et,rG]
  ·rw [ec,Nr]; lia
 ·rintro ρ' ⟨ts,s3,hm,hl,hb,rfl⟩
  rw [MO,NF] at hm hl
  walk_at "ev"
  refine bB (KA (ts:=ts) hW (by have:=h.s; lia) hb) ⟨dD fun x _=>jy x,?_⟩
  show Sl.ow _=Sl.ow _
  rw [ie hm]
end
end
section
variable {K:MI}
theorem Ex.BX (h:Ex m L):Ex m (bC L):=fun t ht=>Ex.sum h t (lu ht).1
theorem Bn.BX (h:Bn m L) (hl:L.length<2 ^ 16):Bn (m+16) (bC L):=fun t ht=>Bn.sum h hl t (lu ht).1
noncomputable def cY (As:List (List aO)):List aO:=As.foldl (fun L A=>bC (aH L A)) [([],1)]
theorem nE (As) (A):cY (As++[A])=bC (aH (cY As) A):=by simp [cY]
theorem BY (h:Way n As L) (f:cN A) (hl:bD (As++[A])≤20000):Way n (As++[A]) (bC (aH L A)):=by
 obtain ⟨h1,h2,h3,h4⟩:=gr h f
 refine ⟨by rw [Ek,h1],MT (ly _) h2,h3.BX,(h4.BX (OM (MT h2 hl) (by decide))).mono ?_⟩
 rw [Nr,QM]; lia
theorem eV (hf:∀ A∈As,cN A) (hl:bD As≤20000):∀ i,i≤As.length→Way 1 (As.take i) (cY (As.take i))
 | 0,_=>vQ (by decide)
 | i+1,hi=>by
  rw [NL hi,nE]
  refine BY (eV hf hl i (by lia)) (hf _ (Nj hi)) ?_
  rw [← NL hi]
  exact MT (gG _ _) hl
noncomputable def BZ:Fn:=fun ds r=>∃ As:List (List aO),As.length≤8∧(∀ A∈As,cN A)∧bD As≤20000∧ds=[.lst (As.map ai)]∧r=.ok (.ow ((cY As).map aM))
theorem KD (h:As.length≤8) (hf:∀ A∈As,cN A) (hl:bD As≤20000):BZ [.lst (As.map ai)] (.ok (.ow ((cY As).map aM))):=⟨As,h,hf,hl,rfl,rfl⟩
theorem i9 (n):(pY 0 n).length=n:=by simp [pY]
theorem jz (L) (t):L.map aM++[aM t]=(L++[t]).map aM:=by rw [Nt]; rfl
theorem yc (n):(MY n [D.int 0]).flatten=(MY n (0:Int)).map D.int:=by
 induction n with
 | zero=>rfl
 | succ n ih=>rw [Ou,O6,ih,Ou]; rfl
theorem B0 (h:k<n) (hp:p.length≤n):jS (p.map D.int++(MY (n - p.length) [D.int 0]).flatten) (k:Int)=some (.int (bQ p k)):=by
 rw [yc,← Nt,gy (by lia) (by simp; lia),NN,MS]
 by_cases z:k<p.length
 ·rw [OH z,M9 z,c9 z]; rfl
 ·rw [Pn (by lia),RN,if_pos (by lia),cL (by lia)]; rfl
theorem vS {p:List Int} {n:Nat}:((n:Int) - ((p.map D.int).length:Int)).toNat=n - p.length:=by rw [MO]; lia
section
local macro_rules | `(tactic| walk_at "evBo")=> `(tactic| first | ((with_reducible show aF _ (Expr.BinOp (Expr.Tuple _ _ _) Operator.Mult _ _) _ _); with_reducible refine Hr ?_))
local macro_rules | `(tactic| walk_at "evCa")=> `(tactic| first
 | ((with_reducible show aF _ (NH (M5 "max" _) [_,_] _ _) _ _); with_reducible refine Az (Txt.max (by assumption)) ?_))
theorem Ih (Fu:fM K "_law_product" "_law_product" fy f fd) (T:Txt K mg) (h1:dz P w K mg base 1 "_law_plain" oY):bz P w K mg base (dR P w) 2 f fd ["_law_factors"] (gv K BZ):=by
 refine dS Fu oW oX (by rintro ds r ⟨As,_,_,_,rfl,_⟩; rfl) (by rintro ds r ⟨As,_,_,_,_,rfl⟩; exact ⟨_,rfl⟩) fun c hq ds sl hF=>?_
 obtain ⟨As,h8,hf,hl,rfl,e⟩:=hF
 injection e with e
 subst e
 show bf c _ [.va (.lst (As.map ai)),.un,.un,.un,.un,.un,.un,.un,.un,.un,.un] _ _
 conv in (aB _)=>whnf
 walk_at "ev"
 show eE c _ [.va (.lst (As.map ai)),.ow ((cY (As.take 0)).map aM),.un,.un,.un,.un,.un,.un,.un,.un,.un] _ _
 with_reducible refine cP hq (cj ?_)
 walk_at "ev"
 refine ⟨fun i ρ'=>∃ s2 s3 s4 s5 s6 s7 s8 s9 s10:Sl,ρ'=[.va (.lst (As.map ai)),.ow ((cY (As.take i)).map aM),s2,s3,s4,s5,s6,s7,s8,s9,s10],⟨_,_,_,_,_,_,_,_,_,rfl⟩,?_,?_⟩
 ·rintro c' o5 ym yo i d ρ' hd ⟨s2,s3,s4,s5,s6,s7,s8,s9,s10,rfl⟩
  simp only [MS,MZ] at hd
  obtain ⟨B,hBx,rfl⟩:=hd
  obtain ⟨hi,rfl⟩:=MU.mp hBx
  have hq':c'.X.xe=fun _ _=>False:=by rw [o5]; exact hq
  have hfB:=hf _ (Nj hi)
  have hw:=eV hf hl i (by omega)
  have hp2:bD (As.take i++[As[i]])≤20000:=by
   rw [← NL hi]; exact MT (gG _ _) hl
  have hlp:(cY (As.take i)).length * As[i].length≤20000:=by
   have:=(gr hw hfB).2.1
   rw [cX] at this; omega
  have eN:cY (As.take (i+1))=bC (aH (cY (As.take i)) As[i]):=by rw [NL hi,nE]
  have hAl:(cY (As.take i)).length≤20000:=MT hw.l (MT (gG _ _) hl)
  have hA6:∀ t∈cY (As.take i),t.1.length≤6:=fun t ht=>(hw.e t ht).1
  have hAb:Bn 20000 (cY (As.take i)):=hw.b.mono (by rw [NW]; omega)
  generalize cY (As.take i)=A at hlp eN hAl hA6 hAb ⊢
  generalize As[i]=B at hfB hlp eN ⊢
  clear hw hp2 hBx
  refine dJ (by walk_at "at") (yl (by walk_at "sset") ?_)
  refine nZ 1 (by walk_at "at") rfl (by walk_at "sset") ?_
  walk_at "ev"
  show eE c' _ [_,_,_,.ow ((aH (A.take 0) B).map aM),_,_,_,_,_,_,_] _ _
  with_reducible refine cP hq' (cj ?_)
  walk_at "ev"
  refine ⟨fun i ρ'=>∃ s4 s5 s6 s7 s8 s9 s10:Sl,ρ'=[.va (.lst (As.map ai)),.va (.lst (A.map aM)),.va (ai B),.ow ((aH (A.take i) B).map aM),s4,s5,s6,s7,s8,s9,s10],⟨_,_,_,_,_,_,_,rfl⟩,?_,?_⟩
  ·rintro c1 hcX1 hcR1 hcM1 i1 d ρ' hd ⟨s4,s5,s6,s7,s8,s9,s10,rfl⟩
   simp only [MS,MZ] at hd
   obtain ⟨l,hlx,rfl⟩:=hd
   obtain ⟨hi1,rfl⟩:=MU.mp hlx
   have hq1:c1.X.xe=fun _ _=>False:=by rw [hcX1]; exact hq'
   have h6:=hA6 A[i1] (Nj hi1)
   have hlb:=hAb A[i1] (Nj hi1)
   have e0:aH (A.take (i1+1)) B=aH (A.take i1) B++B.map (dh A[i1]):=by
    rw [NL hi1,ny]
   have hlen:(aH (A.take i1) B).length+B.length≤20000:=by
    rw [cX,NW,Qe (by omega),← Qp]
    exact MT (Nat.mul_le_mul_right _ (by omega)) hlp
   generalize A[i1]=l at h6 hlb e0 ⊢
   generalize aH (A.take i1) B=ts at e0 hlen ⊢
   show mJ c1 _ (.tup [.tup (l.1.map .int),.int l.2]) _ _
   walk_at "ev"
   with_reducible refine cP hq1 (cj ?_)
   refine uE (by walk_at "at") (by walk_at "at") ?_
   refine zK (ds:=B.map aM) rfl ?_
   refine ⟨fun j ρ'=>∃ s6 s7 s8 s9 s10:Sl,ρ'=[.va (.lst (As.map ai)),.va (.lst (A.map aM)),.va (ai B),.ow ((ts++(B.take j).map (dh l)).map aM),.va (.tup (l.1.map .int)),.va (.int l.2),s6,s7,s8,s9,s10],⟨s6,s7,s8,s9,s10,by simp⟩,?_,?_⟩
   ·rintro c2 hcX2 hcR2 hcM2 j d ρ' hd ⟨s6,s7,s8,s9,s10,rfl⟩
    simp only [MS,MZ] at hd
    obtain ⟨r,hrx,rfl⟩:=hd
    obtain ⟨hj,rfl⟩:=MU.mp hrx
    have h6r:=(hfB.e B[j] (Nj hj)).1
    have hrb:=hfB.b B[j] (Nj hj)
    have hq2:c2.X.xe=fun _ _=>False:=by rw [hcX2]; exact hq1
    have e1:ts++(B.take (j+1)).map (dh l)=(ts++(B.take j).map (dh l))++[dh l B[j]]:=by
     rw [NL hj,Nt,Nb]; rfl
    have hlen2:((ts++(B.take j).map (dh l)).map aM).length<sizeLine:=ic (by
     rw [MO,Nr,MO,NW]; omega)
    generalize ts++(B.take j).map (dh l)=us at e1 hlen2 ⊢
    generalize B[j]=r at h6r hrb e1 ⊢
    show mJ c2 _ (.tup [.tup (r.1.map .int),.int r.2]) _ _
    generalize hG:(fun ρ'=>bf c2 _ ρ' _ _)=G
    walk_at "ev"
    subst hG
    refine bq ?_
    generalize hG:(fun ρ'=>bf c2 _ ρ' _ _)=G
    walk_at "ev"
    have ew:(if ((r.1.map D.int).length:Int)>((l.1.map D.int).length:Int) then ((r.1.map D.int).length:Int) else ((l.1.map D.int).length:Int))=((max l.1.length r.1.length:Nat):Int):=by simp only [MO]; split <;> omega
    rw [ew]
    have hw6:max l.1.length r.1.length≤6:=by omega
    generalize hwd:max l.1.length r.1.length=wd at hw6 ⊢
    subst hG
    refine bq ?_
    generalize hG:(fun ρ'=>bf c2 _ ρ' _ _)=G
    walk_at "ev"
    refine ⟨_,_,rfl,rfl,⟨⟨by simp,by rw [MO]; omega,by rw [MO]; omega,by rw [vS]; exact sY (by simp; omega)⟩,?_⟩⟩
    rw [vS]
    walk_at "ev"
    ·exact sY (by simp; omega)
    subst hG
    refine bq ?_
    generalize hG:(fun ρ'=>bf c2 _ ρ' _ _)=G
    walk_at "ev"
    refine ⟨_,_,rfl,rfl,⟨⟨by simp,by rw [MO]; omega,by rw [MO]; omega,by rw [vS]; exact sY (by simp; omega)⟩,?_⟩⟩
    rw [vS]
    walk_at "ev"
    ·exact sY (by simp; omega)
    subst hG
    refine bq ?_
    with_reducible refine sA (by walk_at "at") (by walk_at "at") (by walk_at "own") ?_
    refine E1 (dI (jV (Txt.tuple T) (e_x (dZ hq2 (N':=["_law_k","_law_one","_law_two"]) (ρ0:=fun _=>[.un,.va (.tup (l.1.map .int++(MY (wd - l.1.length) [D.int 0]).flatten)),.va (.tup (r.1.map .int++(MY (wd - r.1.length) [D.int 0]).flatten))]) (fun t=>.un (.fr (by walk_at "at") (by walk_at "at") (by decide) rfl (.fr (by walk_at "at") (by walk_at "at") (by decide) rfl .nil))) (iL (Txt.range T) ?_)))) ?_)
    case refine_2=>intro _; walk_at "u"
    walk_at "ev"
    ·exact ⟨by omega,by omega⟩
    ·rw [i9]; exact sY (by omega)
    refine ⟨(Ny wd).map fun k=>some (.int (bQ l.1 k+bQ r.1 k)),by simp [i9],?_,?_⟩
    ·intro c3 hc3 t k d o hd ho
     rw [NN] at hd
     obtain ⟨hk,rfl⟩:=jY hd
     rw [MS,Py hk] at ho
     cases ho
     refine dJ (by walk_at "at") (yl (by walk_at "sset") ⟨.un (.same (.same .nil)),?_⟩)
     simp only [sF]
     refine ⟨fun _=>?_,fun h=>by cases h⟩
     walk_at "ev"
     refine iK (B0 (p:=l.1) hk (by omega)) ?_
     walk_at "ev"
     refine iK (B0 (p:=r.1) hk (by omega)) ?_
     walk_at "ev"
     rfl
    ·rw [cM (fun k=>D.int (bQ l.1 k+bQ r.1 k)),show (Ny wd).map (fun k=>D.int (bQ l.1 k+bQ r.1 k))=(cu l.1 r.1).map D.int by rw [← hwd]; unfold cu; rw [Na]; rfl]
     walk_at "ev"
     ·exact oZ hlb hrb (by decide)
     show ∃ s6 s7 s8 s9 s10:Sl,_=[_,_,_,.ow ((ts++(B.take (j+1)).map (dh l)).map aM),_,_,s6,s7,s8,s9,s10]
     rw [e1,← jz]
     exact ⟨_,_,_,_,_,rfl⟩
   ·rintro ρ' ⟨s6,s7,s8,s9,s10,rfl⟩
    rw [MO,NF,← e0]
    walk_at "ev"
    exact ⟨_,_,_,_,_,_,_,rfl⟩
  ·rintro ρ' ⟨s4,s5,s6,s7,s8,s9,s10,rfl⟩
   rw [MO,NF]
   refine bq (zc (by walk_at "at") (uT 3 (by walk_at "at") rfl (by walk_at "sset") (x_call (F:=oY) h1 (by decide) ?_)))
   walk_at "ev"
   refine bB (tT (by rw [cX]; exact hlp) fun t ht=>?_) ⟨dD fun x _=>jy x,?_⟩
   ·obtain ⟨l,hl,r,hr,rfl⟩:=fW ht
    show (cu l.1 r.1).length≤64
    have:=hA6 l hl
    have:=(hfB.e r hr).1
    rw [i7]; omega
   walk_at "ev"
   show ∃ s2 s3 s4 s5 s6 s7 s8 s9 s10:Sl,_=[_,.ow ((cY (As.take (i+1))).map aM),s2,s3,s4,s5,s6,s7,s8,s9,s10]
   rw [eN]
   exact ⟨_,_,_,_,_,_,_,_,_,rfl⟩
 ·rintro ρ' ⟨s2,s3,s4,s5,s6,s7,s8,s9,s10,rfl⟩
  rw [MO,NF]
  walk_at "ev"
  rfl
end
end
section
variable {P:Program} {w:World} {K:MI} {mg:Str→Option Value} {base:Heap}
noncomputable def lK (n:Int) (t:aO):aO:=(t.1,n * t.2)
theorem lG (p):cu [] p=p:=by
 unfold cu
 refine Ra (by simp) fun i h1 h2=>?_
 rw [Sm,R3]
 simp [bQ,M9 h2]
theorem Ii (n:Int) (A:List aO):mp (A.map (lK n))=(n:MP) * mp A:=by
 rw [← oO,← tF]
 refine congrArg mp ?_
 unfold aH cT
 rw [Q5,Sn,NR]
 refine OA fun t _=>?_
 unfold lK dh
 rw [lG]
noncomputable def rJ (p:Part):D:=.tup [.int p.1,.lst (p.2.map ai)]
noncomputable def fD (ps:List Part):List aO:=ps.flatMap fun p=>(cY p.2).map (lK p.1)
theorem yd (ps) (p:Part):fD (ps++[p])=fD ps++(cY p.2).map (lK p.1):=by simp [fD]
theorem EM (hf:∀ A∈As,cN A) (hl:bD As≤20000):mp (cY As)=tX As:=by
 have h:=(eV hf hl As.length (ML _)).m
 rw [NF] at h
 rw [h]; grind
theorem vU {ps:List Part} (hp:p∈ps):bD p.2≤(ps.map fun p=>bD p.2).sum:=by
 induction ps with
 | nil=>cases hp
 | cons q ps ih =>
  rw [MN,OF]
  rcases M0.mp hp with rfl | h
  ·exact PF _ _
  ·exact MT (ih h) (Nat.le_add_left _ _)
theorem vV (h:∀ p∈ps,cV p∧bD p.2≤20000):mp (fD ps)=mp (gp ps):=by
 induction ps with
 | nil=>rfl
 | cons p ps ih =>
  have hp:=h p MW
  have e1:fD (p::ps)=(cY p.2).map (lK p.1)++fD ps:=rfl
  have e2:gp (p::ps)=gF p.1 p.2++gp ps:=rfl
  rw [e1,e2,oN,oN,ih fun q hq=>h q (MX _ hq),Ii,EM hp.1.f hp.2,iB]
theorem lM (h:∀ p∈ps,cV p∧bD p.2≤20000):(fD ps).length≤(ps.map fun p=>bD p.2).sum:=by
 induction ps with
 | nil=>exact ML _
 | cons p ps ih =>
  have hp:=h p MW
  have e1:fD (p::ps)=(cY p.2).map (lK p.1)++fD ps:=rfl
  have hw:=(eV hp.1.f hp.2 p.2.length (ML _)).l
  rw [NF] at hw
  rw [e1,Nr,MO,MN,OF]
  exact Nat.add_le_add hw (ih fun q hq=>h q (MX _ hq))
theorem Ij (hf:∀ A∈As,cN A) (hl:bD As≤20000):∀ t∈cY As,t.1.length≤6:=fun t ht=>by
 have h:=(eV hf hl As.length (ML _)).e
 rw [NF] at h
 exact (h t ht).1
theorem Ik (h8:As.length≤8) (hf:∀ A∈As,cN A) (hl:bD As≤20000):Bn 20000 (cY As):=by
 have h:=(eV hf hl As.length (ML _)).b
 rw [NF] at h
 exact h.mono (by omega)
theorem B3 (h:∀ p∈ps,cV p∧bD p.2≤20000):∀ t∈fD ps,t.1.length≤6:=fun t ht=>by
 obtain ⟨p,hp,ht⟩:=Q9.mp ht
 obtain ⟨u,hu,rfl⟩:=Nk.mp ht
 exact Ij (h p hp).1.f (h p hp).2 u hu
noncomputable def B4:Fn:=fun ds r=>∃ ps:List Part,cA ps∧ds=[.lst (ps.map rJ)]∧r=.ok (.ow ((bC (gp ps)).map aM))
theorem vW (h:cA ps):B4 [.lst (ps.map rJ)] (.ok (.ow ((bC (gp ps)).map aM))):=⟨ps,h,rfl,rfl⟩
theorem Il (Fu:fM K "_law_sum" "_law_sum" lH f fd) (T:Txt K mg) (h1:dz P w K mg base 1 "_law_plain" oY) (h2:dz P w K mg base 2 "_law_product" BZ):bz P w K mg base (dR P w) 3 f fd ["_law_parts"] (gv K B4):=by
 refine dS Fu Bm Bo (by rintro ds r ⟨As,_,rfl,_⟩; rfl) (by rintro ds r ⟨As,_,_,rfl⟩; exact ⟨_,rfl⟩) fun c hq ds sl hF=>?_
 obtain ⟨ps,h,rfl,e⟩:=hF
 injection e with e
 subst e
 have hh:∀ p∈ps,cV p∧bD p.2≤20000:=fun p hp=>⟨h.p p hp,MT (vU hp) h.s⟩
 show bf c _ [.va (.lst (ps.map rJ)),.un,.un,.un] _ _
 conv in (aB _)=>whnf
 walk_at "ev"
 show eE c _ [.va (.lst (ps.map rJ)),.ow ((fD (ps.take 0)).map aM),.un,.un] _ _
 with_reducible refine cP hq (cj ?_)
 walk_at "ev"
 refine ⟨fun i ρ'=>∃ s2 s3:Sl,ρ'=[.va (.lst (ps.map rJ)),.ow ((fD (ps.take i)).map aM),s2,s3],⟨_,_,rfl⟩,?_,?_⟩
 ·rintro c' o5 ym yo i d ρ' hd ⟨s2,s3,rfl⟩
  simp only [MS,MZ] at hd
  obtain ⟨p,hpx,rfl⟩:=hd
  obtain ⟨hi,rfl⟩:=MU.mp hpx
  have hq':c'.X.xe=fun _ _=>False:=by rw [o5]; exact hq
  obtain ⟨hp,hpl⟩:=hh _ (Nj hi)
  have eN:fD (ps.take (i+1))=fD (ps.take i)++(cY ps[i].2).map (lK ps[i].1):=by rw [NL hi,yd]
  have hln:(fD (ps.take i)).length+(cY ps[i].2).length≤20000:=by
   have h1:=lM (ps:=ps.take (i+1)) fun q hq=>hh q (QT hq)
   rw [eN,Nr,MO] at h1
   refine MT h1 (MT ?_ h.s)
   rw [← Oi (i+1) ps,Nt,Pa,Oi]
   exact PF _ _
  generalize fD (ps.take i)=A at eN hln ⊢
  generalize ps[i]=p at hp hpl eN hln ⊢
  show mJ c' _ (.tup [.int p.1,.lst (p.2.map ai)]) _ _
  generalize hG:(fun ρ'=>bf c' _ ρ' _ _)=G
  walk_at "ev"
  subst hG
  refine bq (zc (by walk_at "at") (uT 1 (by walk_at "at") rfl (by walk_at "sset") (zA (uE (by walk_at "at") (by walk_at "at") (e_x (dZ hq' (N':=["_law_powers","_law_count","_law_number"]) (ρ0:=fun _=>[.un,.un,.va (.int p.1)]) (fun t=>.un (.un (.fr (by walk_at "at") (by walk_at "at") (by decide) rfl .nil))) (cj (e_x (x_call (F:=BZ) h2 (by decide) ?_)))))))))
  walk_at "ev"
  refine bB (KD hp.m hp.f hpl) (fE ?_)
  have hb:=Ik hp.m hp.f hpl
  generalize cY p.2=L at eN hln hb ⊢
  refine zK rfl ⟨sY (by simp only [MO]; omega),L.map fun x=>some (aM (lK p.1 x)),by simp,?_,?_⟩
  ·intro c2 hc t i d o hd ho
   simp only [MS,MZ] at hd ho
   obtain ⟨x,hx,rfl⟩:=hd
   obtain ⟨x',hx',rfl⟩:=ho
   rw [hx] at hx'; cases hx'
   have hxb:=hb x (NY hx)
   show mJ c2 _ (.tup [.tup (x.1.map .int),.int x.2]) _ _
   walk_at "ev"
   refine ⟨.un (.un (.same .nil)),?_⟩
   simp only [sF]
   refine ⟨fun _=>?_,fun h=>by cases h⟩
   walk_at "ev"
   ·exact oZ hp.n hxb (by decide)
   rfl
  ·rw [cM (fun x=>aM (lK p.1 x)),show L.map (fun x=>aM (lK p.1 x))=(L.map (lK p.1)).map aM by rw [Na]; rfl]
   walk_at "ev"
   ·exact sY (by simp only [MO]; omega)
   ·rw [← Nt]; exact dD fun x _=>jy x
   show ∃ s2 s3:Sl,_=[_,.ow ((fD (ps.take (i+1))).map aM),s2,s3]
   rw [eN,Nt]
   exact ⟨_,_,rfl⟩
 ·rintro ρ' ⟨s2,s3,rfl⟩
  rw [MO,NF]
  refine bq (gP (uT 1 (by walk_at "at") rfl (by walk_at "sset") (x_call (F:=oY) h1 (by decide) ?_)))
  walk_at "ev"
  refine bB (tT (MT (lM hh) h.s) fun t ht=>MT (B3 hh t ht) (by decide)) ⟨dD fun x _=>jy x,?_⟩
  show Sl.ow _=Sl.ow _
  rw [show eS (nz (aG (fD ps)))=bC (gp ps) from ie (vV hh)]
noncomputable def B5:Fn:=fun ds r=>∃ (ns:List Int) (k:Nat),ds=[.lst (ns.map .int),.int (k:Int)]∧r=.ok (.va (.int (ns.getD k 0)))
theorem KG (ns:List Int) (k:Nat):B5 [.lst (ns.map .int),.int (k:Int)] (.ok (.va (.int (ns.getD k 0)))):=⟨ns,k,rfl,rfl⟩
theorem Im {ns:List Int} (h:k<ns.length):jS (ns.map D.int) (k:Int)=some (D.int (ns.getD k 0)):=by
 rw [gy (by lia) (by simp; lia),NN,MS,M9 h,NT,M9 h]
 rfl
theorem Io (Fu:fM K "_law_cell_at" "_law_cell_at" fu f fd) (T:Txt K mg):bz P w K mg base (dR P w) 1 f fd ["_law_script","_law_k"] (gv K B5):=by
 refine dS Fu oU oV (by rintro ds r ⟨ns,k,rfl,_⟩; rfl) (by rintro ds r ⟨ns,k,_,rfl⟩; exact ⟨_,rfl⟩) fun c hq ds sl hF=>?_
 obtain ⟨ns,k,rfl,e⟩:=hF
 injection e with e
 subst e
 show bf c _ [.va (.lst (ns.map .int)),.va (.int (k:Int))] _ _
 conv in (aB _)=>whnf
 walk_at "ev"
 ·have hk:k<ns.length:=by simp only [MO] at *; omega
  refine zm (Im hk) ?_
  walk_at "ev"
  rfl
 ·have hk:¬ k<ns.length:=by simp only [MO] at *; omega
  show Sl.va _=Sl.va _
  rw [NT,Oj (by omega)]; rfl
noncomputable def KH (c:Int) (k:Nat):Int:=(c * 48271+(k:Int) * 69621+11) % 2147483629
noncomputable def Ip (c:Int) (k:Nat):Int:=KH c k * KH c k % 2147483587
noncomputable def ye (ns:List Int) (k:Nat):Int :=
 if ns.getD k 0≥10 ^ Qx 18 then ns.getD k 0 - 10 ^ Qx 18 else Ip (ns.getD k 0) k * 2147483563+Ip (ns.getD k 0) k * Ip (ns.getD k 0) k % 2147483563
noncomputable def B6:Fn:=fun ds r=>∃ (ns:List Int) (k:Nat),ds=[.lst (ns.map .int),.int (k:Int)]∧r=.ok (.va (.int (ye ns k)))
theorem KI (ns) (k:Nat):B6 [.lst (ns.map .int),.int (k:Int)] (.ok (.va (.int (ye ns k)))):=⟨ns,k,rfl,rfl⟩
theorem KJ:rX 10 9:=⟨by decide,by decide,by decide +kernel⟩
theorem B7:rX 10 18:=⟨by decide,by decide,by decide +kernel⟩
theorem tZ (h:b.natAbs<2 ^ 63):EV.MulOk a b:=IntMulOk.of_right (qe h)
section
local macro_rules | `(tactic| walk_at "evR")=> `(tactic| with_reducible refine bB (KG _ _) ?_)
local macro_rules | `(tactic| walk_at "evCa")=> `(tactic| with_reducible refine cG (F:=B5) (by assumption) (by decide) ?_)
theorem Iq (Fu:fM K "_law_digits" "_law_digits" gi f fd) (T:Txt K mg) (h1:dz P w K mg base 1 "_law_cell_at" B5):bz P w K mg base (dR P w) 2 f fd ["_law_script","_law_k"] (gv K B6):=by
 refine dS Fu q9 rg (by rintro ds r ⟨ns,k,rfl,_⟩; rfl) (by rintro ds r ⟨ns,k,_,rfl⟩; exact ⟨_,rfl⟩) fun c hq ds sl hF=>?_
 obtain ⟨ns,k,rfl,e⟩:=hF
 injection e with e
 subst e
 show bf c _ [.va (.lst (ns.map .int)),.va (.int (k:Int)),.un,.un] _ _
 conv in (aB _)=>whnf
 walk_at "ev"
 ·exact B7
 ·exact B7
 ·show Sl.va _=Sl.va _
  unfold ye
  rw [if_pos (by assumption)]
 ·exact tZ (by decide)
 ·exact tZ (by decide)
 ·exact qf (by omega)
 ·exact tZ (by decide)
 ·exact qf (by omega)
 ·show Sl.va _=Sl.va _
  unfold ye
  rw [if_neg (by assumption)]
  rfl
end
noncomputable def stN (r:Int):Int:=r / 513 / 16
noncomputable def Cq (r:Int):aO:=([r % 3,r / 3 % 3,r / 9 % 3],if r / 513 % 16=15 then (r / 27 % 19 - 9) * (10 ^ Qx 9+7) else r / 27 % 19 - 9)
noncomputable def l7:Nat→Int→List aO×Int
 | 0,r=>([],r)
 | i+1,r=>((l7 i r).1++[Cq (l7 i r).2],stN (l7 i r).2)
noncomputable def rK (n:Int):List aO:=bC (l7 (n % 4).toNat (n / 4)).1
theorem j9 (i) (r):(l7 i r).1.length=i:=by
 induction i with
 | zero=>rfl
 | succ i ih=>simp [l7,ih]
noncomputable def rL:Fn:=fun ds r=>∃ n:Int,ds=[.int n]∧r=.ok (.ow ((rK n).map aM))
theorem Ir (n):rL [.int n] (.ok (.ow ((rK n).map aM))):=⟨n,rfl,rfl⟩
theorem KL (i) (r):∀ t∈(l7 i r).1,t.1.length=3:=by
 induction i with
 | zero=>intro t ht; cases ht
 | succ i ih =>
  intro t ht
  rcases Ng.mp ht with h | h
  ·exact ih t h
  ·rw [M4.mp h]; rfl
section
theorem EN (Fu:fM K "_law_some" "_law_some" jw f fd) (T:Txt K mg) (h1:dz P w K mg base 1 "_law_plain" oY):bz P w K mg base (dR P w) 2 f fd ["_law_number"] (gv K rL):=by
 refine dS Fu xU xV (by rintro ds r ⟨n,rfl,_⟩; rfl) (by rintro ds r ⟨n,_,rfl⟩; exact ⟨_,rfl⟩) fun c hq ds sl hF=>?_
 obtain ⟨n,rfl,e⟩:=hF
 injection e with e
 subst e
 show bf c _ [.va (.int n),.un,.un,.un,.un,.un] _ _
 conv in (aB _)=>whnf
 walk_at "ev"
 show eE c _ [.va (.int (l7 0 (n / 4)).2),.ow ((l7 0 (n / 4)).1.map aM),.va (.int (n % 4)),.un,.un,.un] _ _
 with_reducible refine cP hq (iL (Txt.range (by assumption)) ?_)
 walk_at "ev"
 ·exact ⟨by omega,by omega⟩
 refine ⟨fun i ρ'=>∃ s3 s4 s5:Sl,ρ'=[.va (.int (l7 i (n / 4)).2),.ow ((l7 i (n / 4)).1.map aM),.va (.int (n % 4)),s3,s4,s5],⟨_,_,_,rfl⟩,?_,?_⟩
 ·rintro c' o5 ym yo i d ρ' hd ⟨s3,s4,s5,rfl⟩
  obtain ⟨hi,rfl⟩:=jY hd
  have hl:=j9 i (n / 4)
  have eN:l7 (i+1) (n / 4)=((l7 i (n / 4)).1++[Cq (l7 i (n / 4)).2],stN (l7 i (n / 4)).2):=rfl
  generalize l7 i (n / 4)=g at hl eN ⊢
  obtain ⟨L,r⟩:=g
  have hm:=Int.emod_lt_of_pos (r / 27) (b:=19) (by decide)
  have hm0:=Int.emod_nonneg (r / 27) (b:=19) (by decide)
  have hz:(L.map aM).length<sizeLine:=ic (by rw [MO]; have:L.length=i:=hl; omega)
  walk_at "ev"
  ·exact KJ
  ·exact qf (by show ((r / 27 % 19 - 9:Int)).natAbs<_; omega)
  ·show ∃ s3 s4 s5:Sl,_=[.va (.int (l7 (i+1) (n / 4)).2),.ow ((l7 (i+1) (n / 4)).1.map aM),.va (.int (n % 4)),s3,s4,s5]
   rw [eN,← jz,show aM (Cq r)=.tup [.tup [.int (r % 3),.int (r / 3 % 3),.int (r / 9 % 3)],.int ((r / 27 % 19 - 9) * (10 ^ Qx 9+7))] by unfold Cq; rw [if_pos (by assumption)]; rfl]
   exact ⟨_,_,_,rfl⟩
  ·show ∃ s3 s4 s5:Sl,_=[.va (.int (l7 (i+1) (n / 4)).2),.ow ((l7 (i+1) (n / 4)).1.map aM),.va (.int (n % 4)),s3,s4,s5]
   rw [eN,← jz,show aM (Cq r)=.tup [.tup [.int (r % 3),.int (r / 3 % 3),.int (r / 9 % 3)],.int (r / 27 % 19 - 9)] by unfold Cq; rw [if_neg (by assumption)]; rfl]
   exact ⟨_,_,_,rfl⟩
 ·rintro ρ' ⟨s3,s4,s5,rfl⟩
  rw [i9]
  refine bq (gP (uT 1 (by walk_at "at") rfl (by walk_at "sset") (x_call (F:=oY) h1 (by decide) ?_)))
  walk_at "ev"
  refine bB (tT (by rw [j9]; omega) fun t ht=>by rw [KL _ _ t ht]; decide) ⟨dD fun x _=>jy x,?_⟩
  rfl
end
end
section
variable {K:MI}
noncomputable def yf (ps:List Part):List D:=(bC (gp ps)).map aM
noncomputable def lP (a b c x y z:List aO):List (List Part):=[[(1,[c,z,z])],[(-2,[a,z,z])],[(-2,[b,z,z])],[(2,[x,a,z]),(2,[y,b,z]),(-1,[x,x,c]),(-1,[y,y,c])]]
noncomputable def KN (P:Program) (w:World) (K:MI) (mg:Str→Option Value) (base:Heap):Fn:=fun ds r=>∃ (f:Addr) (a b c x y z:List aO),AS P w K mg base 4 f yb∧(∀ ps∈lP a b c x y z,cA ps) ∧
 ds=[.adr f,.tup [ai a,ai b,ai c],.tup [ai x,ai y,ai z]]∧r=.ok (.fo (.t ((lP a b c x y z).map fun ps=>.l (yf ps))))
noncomputable def Iu:Fn:=fun ds r=>∃ (a b c x y z:List aO),(∀ ps∈lP a b c x y z,cA ps) ∧
 ds=[.tup [ai a,ai b,ai c],.tup [ai x,ai y,ai z]]∧r=.ok (.fo (.t ((lP a b c x y z).map fun ps=>.l (yf ps))))
theorem Mb (hf:AS P w K mg base 4 f yb) (h:∀ ps∈lP a b c x y z,cA ps):KN P w K mg base [.adr f,.tup [ai a,ai b,ai c],.tup [ai x,ai y,ai z]] (.ok (.fo (.t ((lP a b c x y z).map fun ps=>.l (yf ps))))):=⟨f,a,b,c,x,y,z,hf,h,rfl,rfl⟩
theorem Mc (h:∀ ps∈lP a b c x y z,cA ps):Iu [.tup [ai a,ai b,ai c],.tup [ai x,ai y,ai z]] (.ok (.fo (.t ((lP a b c x y z).map fun ps=>.l (yf ps))))):=⟨a,b,c,x,y,z,h,rfl,rfl⟩
theorem KO (Fu:fM K "round_rule" "round_rule" d8 f fd):bz P w K mg base (dR P w) 5 f fd ["total","c","i"] (gv K (KN P w K mg base)):=by
 refine dS Fu l5 l6 (by rintro ds r ⟨f,a,b,c,x,y,z,_,_,rfl,_⟩; rfl) (by rintro ds r ⟨f,a,b,c,x,y,z,_,_,_,rfl⟩; exact ⟨_,rfl⟩) fun k hq ds sl hF=>?_
 obtain ⟨g,a,b,c,x,y,z,hg,h,rfl,e⟩:=hF
 injection e with e
 subst e
 have h1:cA [(1,[c,z,z])]:=h _ (by simp [lP])
 have h2:cA [(-2,[a,z,z])]:=h _ (by simp [lP])
 have h3:cA [(-2,[b,z,z])]:=h _ (by simp [lP])
 have h4:cA [(2,[x,a,z]),(2,[y,b,z]),(-1,[x,x,c]),(-1,[y,y,c])]:=h _ (by simp [lP])
 show bf k _ [.va (.adr g),.va (.tup [ai a,ai b,ai c]),.va (.tup [ai x,ai y,ai z])] _ _
 conv in (aB _)=>whnf
 walk_at "evSs"
 refine gP ?_
 refine HE ?_
 refine oJ ?_
 refine Ed (j5 hg (by decide) (by walk_at "at") (by walk_at "at") ?_)
 walk_at "ev"
 refine bB (vR h1) ⟨_,rfl,_,rfl,?_⟩
 refine oJ ?_
 refine Ed (j5 hg (by decide) (by walk_at "at") (by walk_at "at") ?_)
 walk_at "ev"
 refine bB (vR h2) ⟨_,rfl,_,rfl,?_⟩
 refine oJ ?_
 refine Ed (j5 hg (by decide) (by walk_at "at") (by walk_at "at") ?_)
 walk_at "ev"
 refine bB (vR h3) ⟨_,rfl,_,rfl,?_⟩
 refine oJ ?_
 refine Ed (j5 hg (by decide) (by walk_at "at") (by walk_at "at") ?_)
 walk_at "ev"
 refine bB (vR h4) ⟨_,rfl,_,rfl,?_⟩
 refine Kr ?_
 refine Sd.mk (pU (Nat.le_of_ble_eq_true rfl)) ?_
 exact rfl
theorem KP (Fu:fM K "round_circle" "round_circle" dw f fd) (h1:dz P w K mg base 4 "poly_total" yb) (h2:dz P w K mg base 5 "round_rule" (KN P w K mg base)):bz P w K mg base (dR P w) 6 f fd ["c","i"] (gv K Iu):=by
 refine dS Fu jP jQ (by rintro ds r ⟨a,b,c,x,y,z,_,rfl,_⟩; rfl) (by rintro ds r ⟨a,b,c,x,y,z,_,_,rfl⟩; exact ⟨_,rfl⟩) fun k hq ds sl hF=>?_
 obtain ⟨a,b,c,x,y,z,h,rfl,e⟩:=hF
 injection e with e
 subst e
 obtain ⟨g,hm,hg⟩:=h1.at_
 show bf k _ [.va (.tup [ai a,ai b,ai c]),.va (.tup [ai x,ai y,ai z])] _ _
 conv in (aB _)=>whnf
 walk_at "evSs"
 refine gP (x_call (F:=KN P w K mg base) h2 (by decide) ?_)
 refine dI (HB hm ?_)
 walk_at "ev"
 exact bB (Mb hg h) rfl
noncomputable def B8 (ns:List Int) (a:Nat) (m:Nat):List (List aO):=(Ny m).map fun k=>rK (ye ns (a+k))
noncomputable def t6:Fn:=fun ds r=>∃ (ns:List Int) (a m:Nat),m≤100∧a≤1000∧ds=[.lst (ns.map .int),.int (a:Int),.int (m:Int)]∧r=.ok (.va (.tup ((B8 ns a m).map ai)))
theorem Fz (ns) {a m:Nat} (h:m≤100) (ha:a≤1000):t6 [.lst (ns.map .int),.int (a:Int),.int (m:Int)] (.ok (.va (.tup ((B8 ns a m).map ai)))):=⟨ns,a,m,h,ha,rfl,rfl⟩
theorem Iv (Fu:fM K "_law_things" "_law_things" gj f fd) (T:Txt K mg) (h1:dz P w K mg base 2 "_law_digits" B6) (h2:dz P w K mg base 2 "_law_some" rL):bz P w K mg base (dR P w) 3 f fd ["_law_script","_law_at","_law_many"] (gv K t6):=by
 refine dS Fu ri rm (by rintro ds r ⟨ns,a,m,_,_,rfl,_⟩; rfl) (by rintro ds r ⟨ns,a,m,_,_,_,rfl⟩; exact ⟨_,rfl⟩) fun c hq ds sl hF=>?_
 obtain ⟨ns,a,m,hm,ha,rfl,e⟩:=hF
 injection e with e
 subst e
 show bf c _ [.va (.lst (ns.map .int)),.va (.int (a:Int)),.va (.int (m:Int))] _ _
 conv in (aB _)=>whnf
 refine bq (gP (IU (jV (Txt.tuple T) (e_x (dZ hq (N':=["_law_k","_law_script","_law_at"]) (ρ0:=fun _=>[.un,.va (.lst (ns.map .int)),.va (.int (a:Int))]) (fun t=>.un (.fr (by walk_at "at") (by walk_at "at") (by decide) rfl (.fr (by walk_at "at") (by walk_at "at") (by decide) rfl .nil))) (iL (Txt.range T) ?_))))))
 walk_at "ev"
 ·exact ⟨by omega,by omega⟩
 ·rw [i9]; exact sY (by omega)
 rw [NN]
 refine ⟨(B8 ns a m).map fun A=>some (ai A),by simp [i9,B8],?_,?_⟩
 ·intro c3 hc3 t k d o hd ho
  obtain ⟨hk,rfl⟩:=jY hd
  unfold B8 at ho
  rw [MS,MS,Py hk] at ho
  cases ho
  refine dJ (by walk_at "at") (yl (by walk_at "sset") ⟨.un (.same (.same .nil)),?_⟩)
  simp only [sF]
  refine ⟨fun _=>?_,fun h=>by cases h⟩
  refine cG (F:=rL) h2 (by decide) (dI (cG (F:=B6) h1 (by decide) ?_))
  walk_at "ev"
  rw [show (a:Int)+(k:Int)=((a+k:Nat):Int) by omega]
  refine bB (KI ns (a+k)) (E4 ?_)
  walk_at "ev"
  refine bB (Ir _) ?_
  walk_at "ev"
  rfl
 ·rw [cM ai]
  walk_at "ev"
  rfl
noncomputable def yg:Fn:=fun ds r=>∃ As:List (List aO),As.length≤1000∧ds=[.tup (As.map ai)]∧r=.ok (.va (.tup (As.map ai)))
theorem KQ {As:List (List aO)} (h:As.length≤1000):yg [.tup (As.map ai)] (.ok (.va (.tup (As.map ai)))):=⟨As,h,rfl,rfl⟩
theorem Iw (Fu:fM K "_law_copied" "_law_copied" gm f fd) (T:Txt K mg):bz P w K mg base (dR P w) 1 f fd ["_law_told"] (gv K yg):=by
 refine dS Fu rA rB (by rintro ds r ⟨A,_,rfl,_⟩; rfl) (by rintro ds r ⟨A,_,_,rfl⟩; exact ⟨_,rfl⟩) fun c hq ds sl hF=>?_
 obtain ⟨As,hl,rfl,e⟩:=hF
 injection e with e
 subst e
 show bf c _ [.va (.tup (As.map ai))] _ _
 conv in (aB _)=>whnf
 refine bq (gP (IU (jV (Txt.tuple T) (e_x (dZ hq (N':=["_law_some_here"]) (ρ0:=fun _=>[.un]) (fun t=>.un .nil) (cj ?_))))))
 walk_at "ev"
 ·exact sY (by rw [MO]; omega)
 refine ⟨As.map fun t=>some (ai t),by simp,?_,fE ?_⟩
 ·intro c' hc t i d o hd ho
  simp only [MS,MZ] at hd ho
  obtain ⟨x,hx,rfl⟩:=hd
  obtain ⟨x',hx',rfl⟩:=ho
  rw [hx] at hx'; cases hx'
  refine dJ (by walk_at "at") (yl (by walk_at "sset") ⟨.un .nil,?_⟩)
  simp only [sF]
  refine ⟨fun _=>?_,fun h=>by cases h⟩
  refine e_x (zu (Txt.list T) ?_)
  walk_at "ev"
  rfl
 ·rw [cM ai]
  walk_at "ev"
  rfl
noncomputable def B9:Fn:=fun ds r=>∃ L:List aO,(∀ t∈L,t.1.length≤64)∧ds=[.lst (L.map aM)]∧r=.ok (.va (.bl true))
theorem KR {L:List aO} (h2:∀ t∈L,t.1.length≤64):B9 [.lst (L.map aM)] (.ok (.va (.bl true))):=⟨L,h2,rfl,rfl⟩
theorem Iz (Fu:fM K "_law_terms" "_law_terms" iy f fd) (T:Txt K mg):bz P w K mg base (dR P w) 1 f fd ["_law_some_here"] (gv K B9):=by
 refine dS Fu tO tP (by rintro ds r ⟨n,_,rfl,_⟩; rfl) (by rintro ds r ⟨n,_,_,rfl⟩; exact ⟨_,rfl⟩) fun c hq ds sl hF=>?_
 obtain ⟨L,hlen,rfl,e⟩:=hF
 injection e with e
 subst e
 show bf c _ [.va (.lst (L.map aM)),.un,.un] _ _
 conv in (aB _)=>whnf
 walk_at "ev"
 with_reducible refine cP hq (cj ?_)
 walk_at "ev"
 refine ⟨fun i ρ'=>∃ s1 s2:Sl,ρ'=[.va (.lst (L.map aM)),s1,s2],⟨_,_,rfl⟩,?_,?_⟩
 ·rintro c' o5 ym yo i d ρ' hd ⟨s1,s2,rfl⟩
  simp only [MS,MZ] at hd
  obtain ⟨t,ht,rfl⟩:=hd
  have hlt:=hlen t (NY ht)
  have hq':c'.X.xe=fun _ _=>False:=by rw [o5]; exact hq
  show mJ c' _ (.tup [.tup (t.1.map .int),.int t.2]) _ _
  walk_at "ev"
  case refine_2 h=>exact absurd rfl h
  with_reducible refine cP hq' (cj ?_)
  walk_at "ev"
  ·exact sY (by simp; omega)
  refine ⟨fun i ρ'=>∃ s2:Sl,ρ'=[.va (.lst (L.map aM)),.va (aM t),s2],⟨_,rfl⟩,?_,?_⟩
  ·rintro c2 hcX2 hcR2 hcM2 j d ρ' hd ⟨s2,rfl⟩
   rw [show (t.1.map D.int++[D.int t.2])=(t.1++[t.2]).map D.int by simp,MS,MZ] at hd
   obtain ⟨n,_,rfl⟩:=hd
   walk_at "ev"
   exact ⟨_,rfl⟩
  ·rintro ρ' ⟨s2,rfl⟩
   walk_at "ev"
   exact ⟨_,_,rfl⟩
 ·rintro ρ' ⟨s1,s2,rfl⟩
  walk_at "ev"
  rfl
noncomputable def yh:Fn:=fun ds r=>∃ As:List (List aO),As.length≤1000∧(∀ A∈As,∀ t∈A,t.1.length≤64)∧ds=[.tup (As.map ai),.tup (As.map ai)]∧r=.ok (.va (.bl true))
theorem KS {As:List (List aO)} (h:As.length≤1000) (h2:∀ A∈As,∀ t∈A,t.1.length≤64):yh [.tup (As.map ai),.tup (As.map ai)] (.ok (.va (.bl true))):=⟨As,h,h2,rfl,rfl⟩
section
local macro_rules | `(tactic| walk_at "evCa")=> `(tactic| first | with_reducible refine cG (F:=B9) (by assumption) (by decide) ?_)
theorem IB (Fu:fM K "_law_same" "_law_same" jx f fd) (T:Txt K mg) (h1:dz P w K mg base 1 "_law_terms" B9):bz P w K mg base (dR P w) 2 f fd ["_law_found","_law_due_here"] (gv K yh):=by
 refine dS Fu xW xX (by rintro ds r ⟨n,_,_,rfl,_⟩; rfl) (by rintro ds r ⟨n,_,_,_,rfl⟩; exact ⟨_,rfl⟩) fun c hq ds sl hF=>?_
 obtain ⟨As,hl,hlen,rfl,e⟩:=hF
 injection e with e
 subst e
 show bf c _ [.va (.tup (As.map ai)),.va (.tup (As.map ai)),.un] _ _
 conv in (aB _)=>whnf
 walk_at "ev"
 case refine_2 h=>exact absurd rfl h
 with_reducible refine cP hq (iL (Txt.range (by assumption)) ?_)
 walk_at "ev"
 ·exact ⟨by omega,by simp only [MO]; omega⟩
 refine ⟨fun i ρ'=>∃ s2:Sl,ρ'=[.va (.tup (As.map ai)),.va (.tup (As.map ai)),s2],⟨_,rfl⟩,?_,?_⟩
 ·rintro c' o5 ym yo i d ρ' hd ⟨s2,rfl⟩
  obtain ⟨hi,rfl⟩:=jY hd
  rw [MO,NN] at hi
  have hA:=hlen _ (Nj hi)
  have hat:jS (As.map ai) (i:Int)=some (ai As[i]):=by
   rw [gy (by omega) (by simp; omega),NN,MS,M9 hi]; rfl
  generalize As[i]=A at hA hat
  walk_at "ev"
  refine iK hat ?_
  walk_at "ev"
  refine bB (KR hA) ?_
  walk_at "ev"
  refine iK hat ?_
  walk_at "ev"
  refine iK hat ?_
  walk_at "ev"
  refine lD (xC A A) ?_
  walk_at "ev"
  exact ⟨_,rfl⟩
 ·rintro ρ' ⟨s2,rfl⟩
  walk_at "ev"
  rfl
end
noncomputable def La:D:=.tup [.tup [.int 1],.int 5]
noncomputable def Me:D:=.tup [.tup [],.int 0]
noncomputable def Ca (x:Addr×List D):Addr×List D:=(x.1,Me::(x.2++[La]))
noncomputable def KU (i:Nat) (L:List (Addr×List D)):List (Addr×List D):=(L.take i).map Ca++L.drop i
theorem Cb:∀ L:List (Addr×List D),xG (lF L)=some (L.map fun x=>D.adr x.1)
 | []=>rfl
 | x::L=>by
  have:=Cb L
  unfold lF at this ⊢
  simp only [MN,xG,Sh.raw,this]
theorem t8 (A B):lF (A++B)=lF A++lF B:=by unfold lF; rw [Nt]
theorem Cc (h:i<L.length):lF (KU i L)=lF ((L.take i).map Ca)++.la L[i].1 L[i].2::lF (L.drop (i+1)):=by
 unfold KU
 rw [t8,RG h]
 rfl
theorem Cd (h:i<L.length):lF ((L.take i).map Ca)++.la L[i].1 (Me::(L[i].2++[La]))::lF (L.drop (i+1))=lF (KU (i+1) L):=by
 unfold KU
 rw [t8,NL h,Nt,t8,Nb]
 rfl
noncomputable def vX (s:Sh):Prop:=∃ dss:List (List D),s=.t (dss.map .l)∧dss.length≤1000∧∀ ds∈dss,ds.length≤20000
theorem Ce (Fu:fM K "_law_spoil" "_law_spoil" iz f fd):bz P w K mg base (dR P w) 1 f fd ["_law_found"] (IX K vX):=by
 refine L6 Fu tQ tR rfl (by decide) fun c hq s hs=>?_
 obtain ⟨dss,rfl,hl,hd'⟩:=hs
 show bf c _ [.fo (.t (dss.map .l)),.un] _ _
 conv in (aB _)=>whnf
 refine bq (HG 0 (by walk_at "at") fun L e=>?_)
 subst e
 show eE c _ [.fo (.t (lF L)),.un] _ _
 have hll:L.length≤1000:=by rw [← MO (f:=(·.2))]; exact hl
 with_reducible refine cP hq (cj (HF (by walk_at "at") (by walk_at "at") (Cb L) ?_))
 refine ⟨_,rfl,fun i ρ'=>ρ'=[.fo (.t (lF (KU i L))),.un],rfl,?_,?_⟩
 ·rintro c' o5 ym yo i d ρ' hd rfl
  simp only [MS,MZ] at hd
  obtain ⟨x,hx,rfl⟩:=hd
  obtain ⟨hi,rfl⟩:=MU.mp hx
  have hli:L[i].2.length≤20000:=hd' _ (Nk.mpr ⟨_,Nj hi,rfl⟩)
  refine dJ (by walk_at "at") (yl (by walk_at "sset") ?_)
  rw [Cc hi]
  refine A1 0 1 (.z (.cons rfl .nil)) (by walk_at "at") ?_ (by decide)
  show bf c' _ [.fo (.t (lF ((L.take i).map Ca)++.v (.adr L[i].1)::lF (L.drop (i+1)))),.aw L[i].1 L[i].2] _ _
  refine bq ?_
  with_reducible refine sA (by walk_at "at") (by walk_at "at") (by walk_at "own") ?_
  generalize hG:(fun ρ''=>bf c' _ ρ'' _ _)=G
  walk_at "ev"
  ·exact ic (by omega)
  subst hG
  refine bq ?_
  with_reducible refine HM (ds:=L[i].2++[La]) (by walk_at "at") (by walk_at "at") (by walk_at "own") ?_
  generalize hG:(fun ρ''=>bf c' _ ρ'' _ _)=G
  walk_at "ev"
  ·exact ic (by simp; omega)
  subst hG
  show bf c' _ [.fo (.t (lF ((L.take i).map Ca)++.v (.adr L[i].1)::lF (L.drop (i+1)))),.aw L[i].1 (Me::(L[i].2++[La]))] _ _
  refine A2 0 1 (.z (.cons rfl .nil)) (by walk_at "at") ?_ (by decide)
  refine su ?_
  show [Sl.fo (.t _),Sl.un]=_
  rw [Cd hi]
 ·rintro ρ' rfl
  exact su trivial
end
section
variable {P:Program} {w:World} {K:MI} {mg:Str→Option Value} {base:Heap}
noncomputable def IC (a b c x y z:List aO):List (List aO):=(lP a b c x y z).map fun ps=>bC (gp ps)
noncomputable def Cf:Fn:=fun ds r=>∃ a b c x y z:List aO,(∀ ps∈lP a b c x y z,cA ps)∧ds=[.tup [ai a,ai b,ai c],.tup [ai x,ai y,ai z]]∧r=.ok (.va (.tup ((IC a b c x y z).map ai)))
theorem KW (h:∀ ps∈lP a b c x y z,cA ps):Cf [.tup [ai a,ai b,ai c],.tup [ai x,ai y,ai z]] (.ok (.va (.tup ((IC a b c x y z).map ai)))):=⟨a,b,c,x,y,z,h,rfl,rfl⟩
section
local macro_rules | `(tactic| walk_at "evCa")=> `(tactic| first | with_reducible refine cG (F:=B4) (by assumption) (by decide) ?_)
theorem ID (Fu:fM K "_law_due" "_law_due" lI f fd) (T:Txt K mg) (h1:dz P w K mg base 3 "_law_sum" B4):bz P w K mg base (dR P w) 4 f fd ["_law_c","_law_i"] (gv K Cf):=by
 refine dS Fu Bp Bq (by rintro ds r ⟨a,b,c,x,y,z,_,rfl,_⟩; rfl) (by rintro ds r ⟨a,b,c,x,y,z,_,_,rfl⟩; exact ⟨_,rfl⟩) fun k hq ds sl hF=>?_
 obtain ⟨a,b,c,x,y,z,h,rfl,e⟩:=hF
 injection e with e
 subst e
 have t1:cA [(1,[c,z,z])]:=h _ (by simp [lP])
 have t2:cA [(-2,[a,z,z])]:=h _ (by simp [lP])
 have t3:cA [(-2,[b,z,z])]:=h _ (by simp [lP])
 have t4:cA [(2,[x,a,z]),(2,[y,b,z]),(-1,[x,x,c]),(-1,[y,y,c])]:=h _ (by simp [lP])
 show bf k _ [.va (.tup [ai a,ai b,ai c]),.va (.tup [ai x,ai y,ai z]),.un,.un,.un,.un,.un,.un,.un] _ _
 conv in (aB _)=>whnf
 walk_at "ev"
 refine bB (vW t4) ?_
 walk_at "ev"
 refine bB (vW t1) ?_
 walk_at "ev"
 refine bB (vW t2) ?_
 walk_at "ev"
 refine bB (vW t3) ?_
 walk_at "ev"
 rfl
end
structure Cg (A:List aO):Prop where
 l:A.length≤3
 e:Ex 2 A
 b:Bn 100 A
theorem Cg.Lb (h:Cg A):cN A:=⟨MT h.l (by decide),h.e.mono (by decide),h.b.mono (by decide)⟩
theorem IE (r):(Cq r).1.length≤6∧(∀ x∈(Cq r).1,0≤x∧x≤2)∧(Cq r).2.natAbs<2 ^ 50:=by
 unfold Cq
 refine ⟨by show (3:Nat)≤6; decide,fun x hx=>?_,?_⟩
 ·simp only [M0,ON,or_false] at hx
  rcases hx with rfl | rfl | rfl <;> omega
 ·have h1:=Int.emod_lt_of_pos (r / 27) (b:=19) (by decide)
  have h2:=Int.emod_nonneg (r / 27) (b:=19) (by decide)
  have e9:(10:Int) ^ Qx 9=1000000000:=by decide +kernel
  rw [e9]
  dsimp only
  split <;> omega
theorem uc (i) (r):∀ t∈(l7 i r).1,t.1.length≤6∧(∀ x∈t.1,0≤x∧x≤2)∧t.2.natAbs<2 ^ 50:=by
 induction i with
 | zero=>intro t ht; cases ht
 | succ i ih =>
  intro t ht
  rcases Ng.mp ht with h | h
  ·exact ih t h
  ·rw [M4.mp h]; exact IE _
theorem gH (n:Int):Cg (rK n) where
 l:=MT (ly _) (by rw [j9]; omega)
 e:=Ex.BX fun t ht=>⟨(uc _ _ t ht).1,(uc _ _ t ht).2.1⟩
 b:=(Bn.BX (m:=50) (fun t ht=>(uc _ _ t ht).2.2) (by rw [j9]; omega)).mono (by decide)
theorem vY:∀ {As:List (List aO)},(∀ A∈As,Cg A)→bD As≤3 ^ As.length
 | [],_=>ML _
 | A::As,h=>by
  have h1:=(h A MW).l
  have h2:=vY fun B hB=>h B (MX _ hB)
  show max A.length 1 * bD As≤_
  rw [Nl,Nat.pow_succ,Qq]
  exact Qj h2 (by omega)
theorem IF {ps:List Part} (h:∀ p∈ps,p.1.natAbs<1000∧p.2.length≤6∧∀ A∈p.2,Cg A) (hl:ps.length≤27):cA ps where
 p:=fun p hp=>⟨NI (h p hp).1 (MT (by decide:1000≤2 ^ 10) (QO (by decide) (by decide))),MT (h p hp).2.1 (by decide),fun A hA=>((h p hp).2.2 A hA).Lb⟩
 l:=MT hl (by decide)
 s:=by
  have:∀ qs:List Part,(∀ p∈qs,p∈ps)→(qs.map fun p=>bD p.2).sum≤729 * qs.length:=fun qs=>by
   induction qs with
   | nil=>exact fun _=>ML _
   | cons q qs ih =>
    intro hq
    have h1:=ih fun p hp=>hq p (MX _ hp)
    have h2:=h q (hq q MW)
    have h3:bD q.2≤3 ^ 6:=MT (vY h2.2.2) (QO (by decide) h2.2.1)
    rw [MN,OF,Nl]
    omega
  have:=this ps fun _ h=>h
  omega
theorem EO (h:cA ps):(bC (gp ps)).length≤20000∧∀ t∈bC (gp ps),t.1.length≤64:=by
 have hh:∀ p∈ps,cV p∧bD p.2≤20000:=fun p hp=>⟨h.p p hp,MT (vU hp) h.s⟩
 rw [← show bC (fD ps)=bC (gp ps) from ie (vV hh)]
 exact ⟨MT (ly _) (MT (lM hh) h.s),Ay fun t ht=>MT (B3 hh t ht) (by decide)⟩
structure Cr (a b c x y z:List aO):Prop where
 a:Cg a
 b:Cg b
 c:Cg c
 x:Cg x
 y:Cg y
 z:Cg z
theorem Cr.tot {a b c x y z:List aO} (h:Cr a b c x y z):∀ ps∈lP a b c x y z,cA ps:=by
 have ⟨ha,hb,hc,hx,hy,hz⟩:=h
 intro L hL
 simp only [lP,M0,ON,or_false] at hL
 rcases hL with rfl | rfl | rfl | rfl <;> exact IF (by simp [ha,hb,hc,hx,hy,hz]) (by simp)
end
section
variable {K:MI}
noncomputable def th (ns:List Int) (k:Nat):List aO:=rK (ye ns k)
theorem IG (ns):t6 [.lst (ns.map .int),.int 1,.int 3] (.ok (.va (.tup [ai (th ns 1),ai (th ns 2),ai (th ns 3)]))):=Fz ns (a:=1) (m:=3) (by decide) (by decide)
theorem II (ns):t6 [.lst (ns.map .int),.int 4,.int 3] (.ok (.va (.tup [ai (th ns 4),ai (th ns 5),ai (th ns 6)]))):=Fz ns (a:=4) (m:=3) (by decide) (by decide)
theorem IJ (a b c):yg [.tup [ai a,ai b,ai c]] (.ok (.va (.tup [ai a,ai b,ai c]))):=KQ (As:=[a,b,c]) (by show (3:Nat)≤1000; decide)
noncomputable def KY (a b c x y z:List aO):List (List D):=(IC a b c x y z).map fun A=>A.map aM
theorem KZ (a b c x y z):((lP a b c x y z).map fun ps=>Sh.l (yf ps))=(KY a b c x y z).map .l:=by
 unfold KY IC yf
 rw [Na,Na]; rfl
theorem Cr.out {a b c x y z:List aO} (h:Cr a b c x y z):∀ L∈IC a b c x y z,L.length≤20000∧∀ t∈L,t.1.length≤64:=fun L hL=>by
 obtain ⟨ps,hp,rfl⟩:=Nk.mp hL
 exact EO (h.tot ps hp)
theorem Cr.K0 {a b c x y z:List aO} (h:Cr a b c x y z):vX (.t ((KY a b c x y z).map .l)):=⟨_,rfl,by show (4:Nat)≤1000; decide,fun ds hd=>by
 obtain ⟨L,hL,rfl⟩:=Nk.mp hd
 rw [MO]; exact (h.out L hL).1⟩
theorem K1 (h:Cr a b c x y z):Iu [.tup [ai a,ai b,ai c],.tup [ai x,ai y,ai z]] (.ok (.fo (.t ((KY a b c x y z).map .l)))):=by rw [← KZ]; exact Mc h.tot
theorem IK (h:Cr a b c x y z):yh [(Sh.t ((KY a b c x y z).map .l)).d,.tup ((IC a b c x y z).map ai)] (.ok (.va (.bl true))):=KS (As:=IC a b c x y z) (by show (4:Nat)≤1000; decide) fun A hA=>(h.out A hA).2
theorem nF (Ls Ms:List (List aO)):kC (n+4) (.tup (Ls.map ai)) (.tup (Ms.map ai)):=.tup fun i d e h1 h2=>by
 simp only [MS,MZ] at h1 h2
 obtain ⟨a,_,rfl⟩:=h1
 obtain ⟨b,_,rfl⟩:=h2
 exact AQ a b
theorem rM (L1 L2:List (List aO)):nR [.tup (L1.map ai),.tup (L2.map ai)] [.tup (L1.map ai),.tup (L2.map ai)]:=nC (nF L1 L1) (nC (nF L2 L2) (AR _))
section
local macro_rules | `(tactic| walk_at "evCa")=> `(tactic| first
 | with_reducible refine cG (F:=t6) (by assumption) (by decide) ?_
 | with_reducible refine cG (F:=yg) (by assumption) (by decide) ?_
 | with_reducible refine cG (F:=Cf) (by assumption) (by decide) ?_
 | with_reducible refine cG (F:=yh) (by assumption) (by decide) ?_
 | with_reducible refine Ku (x_call (x:=MH "round_circle") (F:=Iu) (by assumption) (by decide) ?_))
local macro_rules | `(tactic| walk_at "evXC")=> `(tactic| first
 | with_reducible refine x_call (x:=MH "round_circle") (F:=Iu) (by assumption) (by decide) ?_)
local macro_rules | `(tactic| walk_at "evR")=> `(tactic| first
 | refine bB (IG _) ?_
 | refine bB (II _) ?_
 | refine bB (IJ _ _ _) ?_
 | refine bB (KW (Cr.tot (by assumption))) ?_
 | refine bB (IK (by assumption)) ?_
 | refine bB (K1 (by assumption)) ?_)
local macro_rules | `(tactic| walk_at "evIf")=> `(tactic| first
 | refine JT (HC 5 (.s rfl (.s rfl (.s rfl (.s rfl (.s rfl (.z .nil)))))) (by walk_at "sset") ?_))
theorem IL (Fu:fM K "law" "law" tS f fd) (T:Txt K mg) (h1:dz P w K mg base 3 "_law_things" t6) (h2:dz P w K mg base 1 "_law_copied" yg) (h3:dz P w K mg base 4 "_law_due" Cf) (h4:dz P w K mg base 6 "round_circle" Iu)
 (h5:dz P w K mg base 2 "_law_same" yh) (h6:Eg P w K mg base 1 "_law_spoil" vX):bz P w K mg base (dR P w) 7 f fd ["_law_script"] (gv K zS):=by
 refine dS Fu HQ HR (by rintro ds r ⟨ns,_,rfl,_⟩; rfl) (by rintro ds r ⟨ns,_,_,rfl⟩; exact ⟨_,rfl⟩) fun k hq ds sl hF=>?_
 obtain ⟨ns,hns,rfl,e⟩:=hF
 injection e with e
 subst e
 show bf k _ [.va (.lst (ns.map .int)),.un,.un,.un,.un,.un] _ _
 conv in (aB _)=>whnf
 refine bq ?_
 generalize hG:(fun ρ'=>bf k _ ρ' _ _)=G
 walk_at "ev"
 subst hG
 refine bq ?_
 generalize hG:(fun ρ'=>bf k _ ρ' _ _)=G
 walk_at "ev"
 subst hG
 have h:Cr (th ns 1) (th ns 2) (th ns 3) (th ns 4) (th ns 5) (th ns 6):=⟨gH _,gH _,gH _,gH _,gH _,gH _⟩
 generalize th ns 1=a at h ⊢
 generalize th ns 2=b at h ⊢
 generalize th ns 3=c at h ⊢
 generalize th ns 4=x at h ⊢
 generalize th ns 5=y at h ⊢
 generalize th ns 6=z at h ⊢
 refine bq ?_
 generalize hG:(fun ρ'=>bf k _ ρ' _ _)=G
 walk_at "ev"
 subst hG
 refine nZ 3 (by walk_at "at") rfl (by walk_at "sset") ?_
 walk_at "ev"
 refine lD (rM [a,b,c] [x,y,z]) ?_
 walk_at "ev"
 refine Eh h6 (by decide) (by walk_at "at") (.s rfl (.s rfl (.s rfl (.s rfl (.s rfl (.z .nil)))))) h.K0 ?_
 walk_at "ev"
 refine lD (rM [a,b,c] [x,y,z]) ?_
 walk_at "ev"
 refine ⟨_,rfl,?_⟩
 walk_at "ev"
 rfl
end
end
section
variable {K:MI}
theorem ER (yk:mg "law"=some (.ref fa)) (T:Txt K mg) (xPLACES:∃ tk:Tok,mg "PLACES"=some (.int 6 tk))
 (D2:aJ K mg "trimmed" (top 2))
 (D3:aJ K mg "greatest_powers" (top 3))
 (D4:aJ K mg "key_of" (top 4))
 (D5:aJ K mg "powers_of" (top 5))
 (D6:aJ K mg "packed" (top 6))
 (D7:aJ K mg "unpacked" (top 7))
 (D8:aJ K mg "add_products" (top 8))
 (D10:aJ K mg "width_of" (top 10))
 (D11:aJ K mg "add_part" (top 11))
 (D12:aJ K mg "poly_total" (top 12))
 (D14:aJ K mg "round_rule" (top 14))
 (D15:aJ K mg "round_circle" (top 15))
 (D17:aJ K mg "_law_cell_at" (top 17))
 (D18:aJ K mg "_law_digits" (top 18))
 (D19:aJ K mg "_law_plain" (top 19))
 (D20:aJ K mg "_law_product" (top 20))
 (D21:aJ K mg "_law_sum" (top 21))
 (D22:aJ K mg "_law_some" (top 22))
 (D23:aJ K mg "_law_things" (top 23))
 (D24:aJ K mg "_law_copied" (top 24))
 (D25:aJ K mg "_law_terms" (top 25))
 (D26:aJ K mg "_law_same" (top 26))
 (D27:aJ K mg "_law_spoil" (top 27))
 (D28:aJ K mg "_law_due" (top 28))
 (D29:aJ K mg "law" (top 29))
 : ∃ fd:FuncData,(∀ (s:Shared) (u:Value),BindsTo s fd ⟨[u],[]⟩ [("_law_script",u)])∧∀ base:Heap,K.In base→base.Ns mainGlobals mg→bz P w K mg base (dR P w) 20 fa fd ["_law_script"] (gv K zS):=by
 refine Classical.byContradiction fun hG=>?_
 obtain ⟨f2,fd2,m2,Fu2⟩:=D2
 obtain ⟨f3,fd3,m3,Fu3⟩:=D3
 obtain ⟨f4,fd4,m4,Fu4⟩:=D4
 obtain ⟨f5,fd5,m5,Fu5⟩:=D5
 obtain ⟨f6,fd6,m6,Fu6⟩:=D6
 obtain ⟨f7,fd7,m7,Fu7⟩:=D7
 obtain ⟨f8,fd8,m8,Fu8⟩:=D8
 obtain ⟨f10,fd10,m10,Fu10⟩:=D10
 obtain ⟨f11,fd11,m11,Fu11⟩:=D11
 obtain ⟨f12,fd12,m12,Fu12⟩:=D12
 obtain ⟨f14,fd14,m14,Fu14⟩:=D14
 obtain ⟨f15,fd15,m15,Fu15⟩:=D15
 obtain ⟨f17,fd17,m17,Fu17⟩:=D17
 obtain ⟨f18,fd18,m18,Fu18⟩:=D18
 obtain ⟨f19,fd19,m19,Fu19⟩:=D19
 obtain ⟨f20,fd20,m20,Fu20⟩:=D20
 obtain ⟨f21,fd21,m21,Fu21⟩:=D21
 obtain ⟨f22,fd22,m22,Fu22⟩:=D22
 obtain ⟨f23,fd23,m23,Fu23⟩:=D23
 obtain ⟨f24,fd24,m24,Fu24⟩:=D24
 obtain ⟨f25,fd25,m25,Fu25⟩:=D25
 obtain ⟨f26,fd26,m26,Fu26⟩:=D26
 obtain ⟨f27,fd27,m27,Fu27⟩:=D27
 obtain ⟨f28,fd28,m28,Fu28⟩:=D28
 obtain ⟨f29,fd29,m29,Fu29⟩:=D29
 have e:=yk.symm.trans m29
 cases e
 refine hG ⟨fd29,?_,fun base _ _=>?_⟩
 ·obtain ⟨oc,od,kV,doc,pm,an,cdv,ct,osl,rfl,lk,hcd⟩:=Fu29.ex
  exact fun s u=>.of_eq rfl
 have C2:dz P w K mg base 1 "trimmed" (rC):=bH (ps:=["powers"]) m2 Fu2 (Et Fu2 T) (fun _ _ _ _ _ _ us hl=>by obtain ⟨a,rfl⟩:=kN us hl; rfl)
 have C3:dz P w K mg base 1 "greatest_powers" (lJ):=bH (ps:=["some"]) m3 Fu3 (By Fu3 T xPLACES) (fun _ _ _ _ _ _ us hl=>by obtain ⟨a,rfl⟩:=kN us hl; rfl)
 have C4:dz P w K mg base 1 "key_of" (BC):=bH (ps:=["powers","width"]) m4 Fu4 (HW Fu4 T xPLACES) (fun _ _ _ _ _ _ us hl=>by obtain ⟨a,b,rfl⟩:=n5 us hl; rfl)
 have C5:dz P w K mg base 2 "powers_of" (rD):=bH (ps:=["key","width"]) m5 Fu5 (EC Fu5 T xPLACES C2) (fun _ _ _ _ _ _ us hl=>by obtain ⟨a,b,rfl⟩:=n5 us hl; rfl)
 have C6:dz P w K mg base 2 "packed" (rF):=bH (ps:=["some","width"]) m6 Fu6 (ED Fu6 T C4) (fun _ _ _ _ _ _ us hl=>by obtain ⟨a,b,rfl⟩:=n5 us hl; rfl)
 have C7:dz P w K mg base 3 "unpacked" (BE):=bH (ps:=["total","width"]) m7 Fu7 (Ia Fu7 T C5) (fun _ _ _ _ _ _ us hl=>by obtain ⟨a,b,rfl⟩:=n5 us hl; rfl)
 have C8:xg P w K mg base 1 "add_products" (EE):=vE (ps:=["total","left","right"]) m8 Fu8 (HZ Fu8 T) (fun _ _ _ _ _ _ us hl=>by obtain ⟨a,b,c,rfl⟩:=Du us hl; rfl)
 have C10:dz P w K mg base 2 "width_of" (BP):=bH (ps:=["parts"]) m10 Fu10 (Ib Fu10 T C3) (fun _ _ _ _ _ _ us hl=>by obtain ⟨a,rfl⟩:=kN us hl; rfl)
 have C11:xg P w K mg base 3 "add_part" (o4):=vE (ps:=["whole","part","width"]) m11 Fu11 (BW Fu11 T C6 C8) (fun _ _ _ _ _ _ us hl=>by obtain ⟨a,b,c,rfl⟩:=Du us hl; rfl)
 have C12:dz P w K mg base 4 "poly_total" (yb):=bH (ps:=["parts"]) m12 Fu12 (Ig Fu12 T C10 C11 C7) (fun _ _ _ _ _ _ us hl=>by obtain ⟨a,rfl⟩:=kN us hl; rfl)
 have C14:dz P w K mg base 5 "round_rule" (KN P w K mg base):=bH (ps:=["total","c","i"]) m14 Fu14 (KO Fu14) (fun _ _ _ _ _ _ us hl=>by obtain ⟨a,b,c,rfl⟩:=Du us hl; rfl)
 have C15:dz P w K mg base 6 "round_circle" (Iu):=bH (ps:=["c","i"]) m15 Fu15 (KP Fu15 C12 C14) (fun _ _ _ _ _ _ us hl=>by obtain ⟨a,b,rfl⟩:=n5 us hl; rfl)
 have C17:dz P w K mg base 1 "_law_cell_at" (B5):=bH (ps:=["_law_script","_law_k"]) m17 Fu17 (Io Fu17 T) (fun _ _ _ _ _ _ us hl=>by obtain ⟨a,b,rfl⟩:=n5 us hl; rfl)
 have C18:dz P w K mg base 2 "_law_digits" (B6):=bH (ps:=["_law_script","_law_k"]) m18 Fu18 (Iq Fu18 T C17) (fun _ _ _ _ _ _ us hl=>by obtain ⟨a,b,rfl⟩:=n5 us hl; rfl)
 have C19:dz P w K mg base 1 "_law_plain" (oY):=bH (ps:=["_law_terms_here"]) m19 Fu19 (Bv Fu19 T) (fun _ _ _ _ _ _ us hl=>by obtain ⟨a,rfl⟩:=kN us hl; rfl)
 have C20:dz P w K mg base 2 "_law_product" (BZ):=bH (ps:=["_law_factors"]) m20 Fu20 (Ih Fu20 T C19) (fun _ _ _ _ _ _ us hl=>by obtain ⟨a,rfl⟩:=kN us hl; rfl)
 have C21:dz P w K mg base 3 "_law_sum" (B4):=bH (ps:=["_law_parts"]) m21 Fu21 (Il Fu21 T C19 C20) (fun _ _ _ _ _ _ us hl=>by obtain ⟨a,rfl⟩:=kN us hl; rfl)
 have C22:dz P w K mg base 2 "_law_some" (rL):=bH (ps:=["_law_number"]) m22 Fu22 (EN Fu22 T C19) (fun _ _ _ _ _ _ us hl=>by obtain ⟨a,rfl⟩:=kN us hl; rfl)
 have C23:dz P w K mg base 3 "_law_things" (t6):=bH (ps:=["_law_script","_law_at","_law_many"]) m23 Fu23 (Iv Fu23 T C18 C22) (fun _ _ _ _ _ _ us hl=>by obtain ⟨a,b,c,rfl⟩:=Du us hl; rfl)
 have C24:dz P w K mg base 1 "_law_copied" (yg):=bH (ps:=["_law_told"]) m24 Fu24 (Iw Fu24 T) (fun _ _ _ _ _ _ us hl=>by obtain ⟨a,rfl⟩:=kN us hl; rfl)
 have C25:dz P w K mg base 1 "_law_terms" (B9):=bH (ps:=["_law_some_here"]) m25 Fu25 (Iz Fu25 T) (fun _ _ _ _ _ _ us hl=>by obtain ⟨a,rfl⟩:=kN us hl; rfl)
 have C26:dz P w K mg base 2 "_law_same" (yh):=bH (ps:=["_law_found","_law_due_here"]) m26 Fu26 (IB Fu26 T C25) (fun _ _ _ _ _ _ us hl=>by obtain ⟨a,b,rfl⟩:=n5 us hl; rfl)
 have C27:Eg P w K mg base 1 "_law_spoil" (vX):=Em (ps:=["_law_found"]) m27 Fu27 (Ce Fu27) (fun _ _ _ _ _ _ us hl=>by obtain ⟨a,rfl⟩:=kN us hl; rfl)
 have C28:dz P w K mg base 4 "_law_due" (Cf):=bH (ps:=["_law_c","_law_i"]) m28 Fu28 (ID Fu28 T C21) (fun _ _ _ _ _ _ us hl=>by obtain ⟨a,b,rfl⟩:=n5 us hl; rfl)
 exact (IL Fu29 T C23 C24 C28 C15 C26 C27).mono (by decide)
end
end My
open PySem PySem.W PyProof.Rows
set_option maxRecDepth 100000 in
set_option maxHeartbeats 0 in
theorem PySem.Challenge.cw_everydraw_k18_circles_round_holds : PySem.Challenge.rw_everydraw_k18_circles_round.Holds := by
 w_on; o_law; k_head; (case hw=>w_witness2)
 k_fill
 refine EV.walk (k:=20) (l:=PySem.Challenge.rw_everydraw_k18_circles_round) (by decide) rfl rfl (fun w h Y=>PySem.W.kIn_of Y) ?F
 case F =>
  intro w mg fa h KX G hmg
  have D2:EV.aJ (L2.cZ KX) mg (Str.ofString "trimmed") (My.top 2):=by
   dsimp only [L2.cZ]
   refine' EV.br KX G ?a ?l ?c ?k
   (case a=>k_is); (case l=>k_is); (case c=>k_is); (case k=>k_is)
  have D3:EV.aJ (L2.cZ KX) mg (Str.ofString "greatest_powers") (My.top 3):=by
   dsimp only [L2.cZ]
   refine' EV.br KX G ?a ?l ?c ?k
   (case a=>k_is); (case l=>k_is); (case c=>k_is); (case k=>k_is)
  have D4:EV.aJ (L2.cZ KX) mg (Str.ofString "key_of") (My.top 4):=by
   dsimp only [L2.cZ]
   refine' EV.br KX G ?a ?l ?c ?k
   (case a=>k_is); (case l=>k_is); (case c=>k_is); (case k=>k_is)
  have D5:EV.aJ (L2.cZ KX) mg (Str.ofString "powers_of") (My.top 5):=by
   dsimp only [L2.cZ]
   refine' EV.br KX G ?a ?l ?c ?k
   (case a=>k_is); (case l=>k_is); (case c=>k_is); (case k=>k_is)
  have D6:EV.aJ (L2.cZ KX) mg (Str.ofString "packed") (My.top 6):=by
   dsimp only [L2.cZ]
   refine' EV.br KX G ?a ?l ?c ?k
   (case a=>k_is); (case l=>k_is); (case c=>k_is); (case k=>k_is)
  have D7:EV.aJ (L2.cZ KX) mg (Str.ofString "unpacked") (My.top 7):=by
   dsimp only [L2.cZ]
   refine' EV.br KX G ?a ?l ?c ?k
   (case a=>k_is); (case l=>k_is); (case c=>k_is); (case k=>k_is)
  have D8:EV.aJ (L2.cZ KX) mg (Str.ofString "add_products") (My.top 8):=by
   dsimp only [L2.cZ]
   refine' EV.br KX G ?a ?l ?c ?k
   (case a=>k_is); (case l=>k_is); (case c=>k_is); (case k=>k_is)
  have D10:EV.aJ (L2.cZ KX) mg (Str.ofString "width_of") (My.top 10):=by
   dsimp only [L2.cZ]
   refine' EV.br KX G ?a ?l ?c ?k
   (case a=>k_is); (case l=>k_is); (case c=>k_is); (case k=>k_is)
  have D11:EV.aJ (L2.cZ KX) mg (Str.ofString "add_part") (My.top 11):=by
   dsimp only [L2.cZ]
   refine' EV.br KX G ?a ?l ?c ?k
   (case a=>k_is); (case l=>k_is); (case c=>k_is); (case k=>k_is)
  have D12:EV.aJ (L2.cZ KX) mg (Str.ofString "poly_total") (My.top 12):=by
   dsimp only [L2.cZ]
   refine' EV.br KX G ?a ?l ?c ?k
   (case a=>k_is); (case l=>k_is); (case c=>k_is); (case k=>k_is)
  have D14:EV.aJ (L2.cZ KX) mg (Str.ofString "round_rule") (My.top 14):=by
   dsimp only [L2.cZ]
   refine' EV.br KX G ?a ?l ?c ?k
   (case a=>k_is); (case l=>k_is); (case c=>k_is); (case k=>k_is)
  have D15:EV.aJ (L2.cZ KX) mg (Str.ofString "round_circle") (My.top 15):=by
   dsimp only [L2.cZ]
   refine' EV.br KX G ?a ?l ?c ?k
   (case a=>k_is); (case l=>k_is); (case c=>k_is); (case k=>k_is)
  have D17:EV.aJ (L2.cZ KX) mg (Str.ofString "_law_cell_at") (My.top 17):=by
   dsimp only [L2.cZ]
   refine' EV.br KX G ?a ?l ?c ?k
   (case a=>k_is); (case l=>k_is); (case c=>k_is); (case k=>k_is)
  have D18:EV.aJ (L2.cZ KX) mg (Str.ofString "_law_digits") (My.top 18):=by
   dsimp only [L2.cZ]
   refine' EV.br KX G ?a ?l ?c ?k
   (case a=>k_is); (case l=>k_is); (case c=>k_is); (case k=>k_is)
  have D19:EV.aJ (L2.cZ KX) mg (Str.ofString "_law_plain") (My.top 19):=by
   dsimp only [L2.cZ]
   refine' EV.br KX G ?a ?l ?c ?k
   (case a=>k_is); (case l=>k_is); (case c=>k_is); (case k=>k_is)
  have D20:EV.aJ (L2.cZ KX) mg (Str.ofString "_law_product") (My.top 20):=by
   dsimp only [L2.cZ]
   refine' EV.br KX G ?a ?l ?c ?k
   (case a=>k_is); (case l=>k_is); (case c=>k_is); (case k=>k_is)
  have D21:EV.aJ (L2.cZ KX) mg (Str.ofString "_law_sum") (My.top 21):=by
   dsimp only [L2.cZ]
   refine' EV.br KX G ?a ?l ?c ?k
   (case a=>k_is); (case l=>k_is); (case c=>k_is); (case k=>k_is)
  have D22:EV.aJ (L2.cZ KX) mg (Str.ofString "_law_some") (My.top 22):=by
   dsimp only [L2.cZ]
   refine' EV.br KX G ?a ?l ?c ?k
   (case a=>k_is); (case l=>k_is); (case c=>k_is); (case k=>k_is)
  have D23:EV.aJ (L2.cZ KX) mg (Str.ofString "_law_things") (My.top 23):=by
   dsimp only [L2.cZ]
   refine' EV.br KX G ?a ?l ?c ?k
   (case a=>k_is); (case l=>k_is); (case c=>k_is); (case k=>k_is)
  have D24:EV.aJ (L2.cZ KX) mg (Str.ofString "_law_copied") (My.top 24):=by
   dsimp only [L2.cZ]
   refine' EV.br KX G ?a ?l ?c ?k
   (case a=>k_is); (case l=>k_is); (case c=>k_is); (case k=>k_is)
  have D25:EV.aJ (L2.cZ KX) mg (Str.ofString "_law_terms") (My.top 25):=by
   dsimp only [L2.cZ]
   refine' EV.br KX G ?a ?l ?c ?k
   (case a=>k_is); (case l=>k_is); (case c=>k_is); (case k=>k_is)
  have D26:EV.aJ (L2.cZ KX) mg (Str.ofString "_law_same") (My.top 26):=by
   dsimp only [L2.cZ]
   refine' EV.br KX G ?a ?l ?c ?k
   (case a=>k_is); (case l=>k_is); (case c=>k_is); (case k=>k_is)
  have D27:EV.aJ (L2.cZ KX) mg (Str.ofString "_law_spoil") (My.top 27):=by
   dsimp only [L2.cZ]
   refine' EV.br KX G ?a ?l ?c ?k
   (case a=>k_is); (case l=>k_is); (case c=>k_is); (case k=>k_is)
  have D28:EV.aJ (L2.cZ KX) mg (Str.ofString "_law_due") (My.top 28):=by
   dsimp only [L2.cZ]
   refine' EV.br KX G ?a ?l ?c ?k
   (case a=>k_is); (case l=>k_is); (case c=>k_is); (case k=>k_is)
  have D29:EV.aJ (L2.cZ KX) mg (Str.ofString "law") (My.top 29):=by
   dsimp only [L2.cZ]
   refine' EV.br KX G ?a ?l ?c ?k
   (case a=>k_is); (case l=>k_is); (case c=>k_is); (case k=>k_is)
  have T:EV.Txt (L2.cZ KX) mg:=by
   dsimp only [L2.cZ]
   refine' EV.G1 KX G ?z1 ?z2 ?z3 ?z4 ?z5 ?z6 ?z7 ?z8 ?z9 ?z10 ?z11 ?z12 ?z13 ?z14 ?z15 ?z16 ?z17 ?sib
   (case z1=>k_is)
   (case z2=>k_is)
   (case z3=>k_is)
   (case z4=>k_is)
   (case z5=>k_is)
   (case z6=>k_is)
   (case z7=>k_is)
   (case z8=>k_is)
   (case z9=>k_is)
   (case z10=>k_is)
   (case z11=>k_is)
   (case z12=>k_is)
   (case z13=>k_is)
   (case z14=>k_is)
   (case z15=>k_is)
   (case z16=>k_is)
   (case z17=>k_is)
   (case sib=>k_is)
  have xPLACES:∃ tk:Tok,mg (Str.ofString "PLACES")=some (.int 6 tk):=by
   refine' EV.int_mk KX G ?a
   (case a=>k_is)
  exact My.ER hmg T xPLACES D2 D3 D4 D5 D6 D7 D8 D10 D11 D12 D14 D15 D17 D18 D19 D20 D21 D22 D23 D24 D25 D26 D27 D28 D29
#print axioms PySem.Challenge.cw_everydraw_k18_circles_round_holds
