import PyProof.Rows.All
import KE.RegKIsAll
import KE.RegKTryMore
import KE.KSortKey
import PySem.Challenge.RW_paceplan_k34_least_plans
set_option Elab.async false
set_option linter.all false
set_option maxRecDepth 100000
set_option autoImplicit true
set_option relaxedAutoImplicit true
namespace HP
open PySem
abbrev S:=Stmt
noncomputable def b:=PySem.Challenge.pw_paceplan_k34_least_plans.main.body
local macro_rules
 | `(tactic| o_head $n:term)=>`(tactic| (refine (?f:∀ s,b[$n]?=some s->_) _ rfl;exact fun s _=>s))
noncomputable def c0:S:=by o_head 0
noncomputable def c1:S:=by o_head 1
noncomputable def c2:S:=by o_head 2
noncomputable def c3:S:=by o_head 3
noncomputable def c4:S:=by o_head 4
noncomputable def c5:S:=by o_head 5
noncomputable def c6:S:=by o_head 6
noncomputable def c7:S:=by o_head 7
noncomputable def c8:S:=by o_head 8
noncomputable def c9:S:=by o_head 9
noncomputable def c10:S:=by o_head 10
noncomputable def c11:S:=by o_head 11
noncomputable def c12:S:=by o_head 12
noncomputable def c13:S:=by o_head 13
noncomputable def c14:S:=by o_head 14
noncomputable def c15:S:=by o_head 15
noncomputable def c16:S:=by o_head 16
noncomputable def c17:S:=by o_head 17
noncomputable def c18:S:=by o_head 18
noncomputable def c19:S:=by o_head 19
noncomputable def c20:S:=by o_head 20
noncomputable def c21:S:=by o_head 21
noncomputable def c22:S:=by o_head 22
noncomputable def c23:S:=by o_head 23
noncomputable def c24:S:=by o_head 24
noncomputable def c25:S:=by o_head 25
noncomputable def c26:S:=by o_head 26
noncomputable def c27:S:=by o_head 27
noncomputable def c28:S:=by o_head 28
noncomputable def c29:S:=by o_head 29
noncomputable def c30:S:=by o_head 30
noncomputable def c31:S:=by o_head 31
noncomputable def c32:S:=by o_head 32
noncomputable def c33:S:=by o_head 33
noncomputable def c34:S:=by o_head 34
noncomputable def c35:S:=by o_head 35
noncomputable def c36:S:=by o_head 36
noncomputable def c37:S:=by o_head 37
noncomputable def c38:S:=by o_head 38
noncomputable def c39:S:=by o_head 39
noncomputable def c40:S:=by o_head 40
noncomputable def c41:S:=by o_head 41
noncomputable def c42:S:=by o_head 42
noncomputable def c43:S:=by o_head 43
noncomputable def c44:S:=by o_head 44
noncomputable def c45:S:=by o_head 45
noncomputable def c46:S:=by o_head 46
noncomputable def c47:S:=by o_head 47
noncomputable def c48:S:=by o_head 48
noncomputable def c49:S:=by o_head 49
noncomputable def c50:S:=by o_head 50
noncomputable def c51:S:=by o_head 51
noncomputable def c52:S:=by o_head 52
noncomputable def c53:S:=by o_head 53
noncomputable def c54:S:=by o_head 54
noncomputable def c55:S:=by o_head 55
noncomputable def c56:S:=by o_head 56
noncomputable def c57:S:=by o_head 57
noncomputable def c58:S:=by o_head 58
noncomputable def c59:S:=by o_head 59
noncomputable def c60:S:=by o_head 60
noncomputable def c61:S:=by o_head 61
noncomputable def c62:S:=by o_head 62
noncomputable def c63:S:=by o_head 63
noncomputable def c64:S:=by o_head 64
noncomputable def c65:S:=by o_head 65
noncomputable def c66:S:=by o_head 66
noncomputable def c67:S:=by o_head 67
noncomputable def c68:S:=by o_head 68
noncomputable def c69:S:=by o_head 69
noncomputable def c70:S:=by o_head 70
noncomputable def t62:List S:=c62::c63::c64::c65::c66::c67::c68::c69::c70::[]
noncomputable def t53:List S:=c53::c54::c55::c56::c57::c58::c59::c60::c61::t62
noncomputable def t44:List S:=c44::c45::c46::c47::c48::c49::c50::c51::c52::t53
noncomputable def t35:List S:=c35::c36::c37::c38::c39::c40::c41::c42::c43::t44
noncomputable def t26:List S:=c26::c27::c28::c29::c30::c31::c32::c33::c34::t35
noncomputable def t17:List S:=c17::c18::c19::c20::c21::c22::c23::c24::c25::t26
noncomputable def t8:List S:=c8::c9::c10::c11::c12::c13::c14::c15::c16::t17
noncomputable def t0:List S:=c0::c1::c2::c3::c4::c5::c6::c7::t8
noncomputable def s:Scope:=by refine (?f:∀ s,PySem.Challenge.pw_paceplan_k34_least_plans.main=⟨_,s,_,_,_⟩->_) _ rfl;exact fun s _=>s
noncomputable def p:Program:=by
 refine (?f:∀ l s a f m ms ps ab h g,PySem.Challenge.pw_paceplan_k34_least_plans=Program.mk ⟨l,s,a,f,m⟩ ms ps ab h g->_) _ _ _ _ _ _ _ _ _ _ rfl
 exact fun _ _ a f m ms ps ab h g _=>⟨⟨t0,s,a,f,m⟩,ms,ps,ab,h,g⟩
theorem e:PySem.Challenge.pw_paceplan_k34_least_plans=p:=by kernel_rfl
end HP
name_quick tw12400675530315616786 for HP.p by HP.e
theorem PySem.W.Fast.te12400675530315616786:PySem.Challenge.pw_paceplan_k34_least_plans=PySem.W.Fast.tw12400675530315616786:=PySem.W.Fast.tw12400675530315616786_eq
theorem B8 {α β γ:Type} {o:Option α} {f:α->β} {g:α->γ} {a:β} {b:γ} (h1:o.map f=some a) (h2:o.map g=some b):o.map (fun s=>(f s,g s))=some (a,b):=by
 cases o with
 | none=>cases h1
 | some x=>cases h1;cases h2;rfl
namespace HW
open PySem
def keep:List Nat:=[1,3,4,5,6,7,8,9,10,11,12,14,15,16,17,18,19,20,21,22,23,24,26,27,28,29,30,31,33,34,35,36,37,38,39,41,42,43,44,45,47,48,49,50,51,52,53,54,55,56,57,58,59,60,61,62,63,64,65,66,67,68,69,70]
def V:Program:=PySem.W.view PySem.Challenge.pw_paceplan_k34_least_plans keep
end HW
section HWs
open PySem PySem.W PyProof.Rows
set_option maxHeartbeats 0
abbrev HWe(w:World):=openEnds treeTable PySem.Challenge.rw_paceplan_k34_least_plans.row.prog w 8112
abbrev HWo:=fun s:Shared=>openSeen HW.V [] (importedModules PySem.Challenge.rw_paceplan_k34_least_plans.row.prog.main.body) (fun s=>xlAt HW.V [] s && recOk PySem.Challenge.rw_paceplan_k34_least_plans.row.records s) true s
local macro_rules
 | `(tactic| nofun)=>`(tactic| (intro w;delta HWe HWo openEnds fencedOpening topFrom;rw [PySem.W.Fast.te14364793385576792824,PySem.W.Fast.te14082659384304107361,PySem.W.Fast.te10274390034422433532,PySem.W.Fast.te1435165496053646825,PySem.W.Fast.te14289696077712309145,PySem.W.Fast.te4187177175401517315];kernel_rfl))
theorem HW1:∀ w,(HWe w).map (fun s=>(HWo s).1)=some (openGood HW.V []).1:=by nofun
theorem HW2:∀ w,(HWe w).map (fun s=>(HWo s).2.1)=some (openGood HW.V []).2.1:=by nofun
theorem HW3:∀ w,(HWe w).map (fun s=>(HWo s).2.2.1)=some (openGood HW.V []).2.2.1:=by nofun
theorem HW4:∀ w,(HWe w).map (fun s=>(HWo s).2.2.2)=some (openGood HW.V []).2.2.2:=by nofun
theorem HWa:∀ w,(HWe w).map HWo=some (openGood HW.V []):=fun w=>B8 (HW1 w) (B8 (HW2 w) (B8 (HW3 w) (HW4 w)))
local macro_rules
 | `(tactic| o_head $H:term) => `(tactic| (
   refine holds_open (q:=HW.V) (loose:=[]) (N:=8112)
    (Xt:=fun s=>xlAt HW.V [] s && recOk (RowW.records (OpenRow.toRowW (OpenLaw.row PySem.Challenge.rw_paceplan_k34_least_plans))) s)
    (XP:=XL HW.V []) (Yf:=Hook.obs $H) (Ya:=Hook.val $H) (YP:=Hook.says $H)
    ?hl (Hook.of $H) (Hook.keeps $H)
    (fun s e=>xl_of s (Bool.and_eq_true_iff.mp e).1) XL.keeps
    (by rfl) (by rfl) (by rfl)
    (fun s e=>recFacts_of (Bool.and_eq_true_iff.mp e).2) (by rfl) (by assumption) (by decide +kernel)
    ⟨rfl,rfl,rfl,rfl,rfl,by decide +kernel⟩ ?hw ?hc
   (case hl=>
    intro w;refine B8 (HWa w) ?_;delta openEnds fencedOpening topFrom;rw [PySem.W.Fast.te14364793385576792824,PySem.W.Fast.te14082659384304107361,PySem.W.Fast.te10274390034422433532,PySem.W.Fast.te1435165496053646825,PySem.W.Fast.te14289696077712309145]
    kernel_rfl)))
open_top HWtop for PySem.Challenge.rw_paceplan_k34_least_plans
end HWs
open Array renaming length_toList→NU,getElem?_eq_some_iff→N5,getElem?_eq_none_iff→P5,mem_toList_iff→Q4
open Bool renaming false_ne_true→L5,and_eq_true→ME,eq_iff_iff→M6,and_false→Nn,or_true→NS,false_and→NY,not_eq_true'→OX,false_eq_true→O5,false_or→Qm,or_eq_true→QQ,not_true→RC,and_true→RD,true_and→RH,or_false→Tw,or_assoc→Tx
open Classical renaming choose_spec→OG,byContradiction→P9,choose→Qv
open False renaming elim→MY
open ForInStep renaming yield→PJ
open Int renaming mul_ediv_cancel_left→Mt,mul_right_comm→M9,eq_ofNat_of_zero_le→Nb,emod_lt_of_pos→NA,emod_nonneg→NI,mul_pos→N9,ediv_pos_of_pos_of_dvd→Oy,eq_of_mul_eq_mul_right→Oz,natAbs_mul→OQ,mul_le_mul_of_nonneg_left→OZ,ediv_nonneg→Pg,mul_lt_mul_of_pos_right→Ph,lt_of_mul_lt_mul_right→Pp,gcd_ediv_gcd_ediv_gcd→Pr,natAbs_natCast→P6,mul_le_mul_of_nonneg_right→P8,gcd_add_mul_right_right→Qs,fdiv_eq_ediv_of_nonneg→QB,ediv_le_self→QR,natCast_mul→Q7,dvd_trans→Ro,toNat_natCast→RA,natAbs_of_nonneg→Su,ediv_one→Tc,natAbs_neg→Tk,mul_nonneg→Tl
open LawfulBEq renaming eq_of_beq→PX
open List renaming getElem?_eq_getElem→LL,length_map→LO,mem_singleton→LP,mem_of_getElem?→LQ,getElem?_eq_some_iff→LR,mem_range→LW,getElem?_map→LX,mem_cons_self→LY,mem_cons→LZ,mem_cons_of_mem→L3,mem_filter→Mb,mem_map→Mc,mem_append_right→Md,Nodup→Mg,mem_append→Mh,getD_eq_getElem?_getD→Mi,length_range→Mw,size_toArray→Mz,replicate→MC,mem_append_left→MJ,mem_iff_getElem→MM,take_add_one→MN,length_append→MO,length_filter_le→MP,length_cons→MS,pairwise_iff_getElem→MT,nodup_cons→MU,getElem?_eq_none→MV,map_cons→M3,take_length→M4,contains_iff_mem→M5,nodup_append→Nd,getElem_mem→Nh,map_append→Ni,range_succ→Nj,all_eq_true→No,not_mem_nil→Nq,getElem?_range→Nz,filter_eq_self→NC,append_nil→NF,getElem?_set_ne→NL,foldl_cons→NM,countP_eq_zero→NN,getElem?_cons_zero→N6,getElem?_cons_succ→N7,map_map→Oa,length_take→Of,foldl_append→Oi,Pairwise→Om,contains_eq_mem→OD,contains_cons→OF,getElem?_set_self→OI,filterMap_cons→ON,getElem?_append_left→OO,length_set→OP,nodup_range→OS,length_pos_iff→O1,mem_filterMap→O7,getElem?_replicate→O8,find?_cons→O9,filter_cons_of_pos→Pa,filter_cons_of_neg→Pb,dropLast_concat_getLast→Pi,length_eq_zero_iff→Pj,ext_getElem?→Pq,length_replicate→Pw,length_drop→PD,any_cons→PF,mem_of_mem_take→PM,nodup_nil→PZ,map_congr_left→P7,lookup_cons→Qe,take_of_length_le→Qf,range_succ_eq_map→Qg,append_assoc→Qh,filter_append→Qo,append_of_mem→Qq,any_eq_false→QD,mem_of_mem_drop→QX,getElem?_append_right→QY,drop_eq_getElem_cons→Ra,filter_cons→Re,sum_cons→Rf,getElem_map→Rg,pairwise_append→Rh,mem_or_eq_of_mem_set→Ri,find?_range_eq_some→Rv,eq_of_mem_replicate→Rw,find?_eq_none→RI,of_mem_zip→RM,length_nil→RO,eraseIdx_cons_succ→RY,pairwise_lt_range→Sj,Sublist→Sk,take_zero→Sy,filterMap_append→SE,countP_cons→SQ,all_cons→Td,nil_append→Tj
open List.Pairwise renaming filter→Nr
open List.Sublist renaming refl→Sl
open Nat renaming le_refl→LN,lt_of_lt_of_le→Mp,zero_le→Mx,le_trans→MG,lt_irrefl→Na,ne_of_lt→Nc,lt_of_le_of_lt→Nx,le_of_lt→NH,ne_of_gt→NP,le_of_eq→NQ,dvd_refl→NT,not_lt_zero→NW,pow_le_pow_right→Ot,mul_le_mul_left→OB,le_succ→OK,zero_add→OW,mul_le_mul_right→Py,succ_le_succ→PQ,lt_succ_of_lt→Qn,lt_trichotomy→Qp,mul_succ→Qu,le_of_dvd→RE,not_succ_le_zero→SF,add_mul→SL,min_eq_left→SN,mul_assoc→Tu,log2_lt→TV
open Ne renaming symm→NO
open Option renaming map_eq_some_iff→Mn,some→MW,isSome_iff_exists→Nm,isSome_some→Rb
open Option.some renaming inj→MB
open Or renaming inr→L7,inl→L8
open Prod renaming ext→TZ
open Prod.mk renaming injEq→Tv
open Pure renaming pure→Nt
open PyProof renaming noPylong_small→QC
open PyProof.Rows renaming boot_isinstance→Me,boot_tuple→MR,callWith_type1→MZ,slot_tuple_getitem→M0,IntsAre→N8,boot_list→OY,seqObj→O0,envOfC→Pu,AllBare→Pz,assignInOrder_cons→P0,boot_bool→Qw,subscriptTail_builtinR→QL,entry_tuple_getitem→Rr,boot_range→RL,args_tuple_getitem→RP,IsTup→R1,assignInOrder_nil→R3,boot_str→Tp,boot_min→Tq,Call_→TY
open PyProof.Rows.IsTup renaming new→So
open PySem renaming wpAny_bind→LM,FuncData→LS,Shared→LV,wpAny_pure→L1,starEach→L4,wpAny→L6,model→Ma,mainGlobals→Mf,Str→Mj,Program→Mo,Around→Mq,PassesOwn→Mr,Expr→Mu,Heap→MA,World→MD,boot_len→MH,compareOp→ML,wpAny_newObj_type→MQ,wpAny_mono→Ng,wpAny_truthy_bool→Nk,foldedSetIterable→Nl,wpAny_callSpecial?_slot→Np,attributeBase→Nu,assignEach→Nw,wpAny_field→ND,bootBuiltins→NG,Builtin→NJ,sizeLine_eq→NV,wpAny_call_entry→NX,wpAny_Call_Name_kw→NZ,swapsWith→Od,wpAny_passesOwn→Oe,excClassObj→Oh,backTo→Ol,Pos→Oo,codeAny→Op,sysModules→Ov,wpAny_pyIter_tuple→Ow,binaryOp→OA,wpAny_standAt→OE,Scope→OH,codeAny_mono→OU,behindInMarks→O2,NameKind→O3,wpAny_comprehension_free→O4,wpAny_execs_nil→O6,cellsFrom→Pe,sliceBounds→Pf,wpAny_pyIter_list→Pk,compEnvC→Pm,wpAny_setField→Pn,wpAny_pyIter_enum→Po,assign→Ps,wpAny_call→Pt,closureFor→Px,wpAny_attempt→PB,letOwnedTupleGo→PH,codeAny_builtin→PL,getItem→PN,Keyword→PP,noteFrame→PY,wpAny_newFunctionEnv_cells→P1,newFunctionEnv→P3,wpAny_letOwnedTupleGo_enum→P4,wpAny_assign_Name→Qa,IsRange→Qc,keywordEach→Qd,swapsWithSole→Qj,swappedStores→Ql,tupleKind→Qr,wpAny_pyNext_enum_itemD→Qt,wpAny_pyNext_range_end→Qy,wpAny_pyIter_rangeiter→Qz,BindsTo→QH,IsPart→QJ,wpAny_typeOf→QK,call_meets→QM,codeAny_compStart_list→QN,codeAny_call_function→QZ,exec_Assign_Name_used→Q0,wpAny_loadName_local→Q1,IsRangeIter→Q2,subscripted→Q3,codeAny_call_builtin→Q8,wpAny_loadPart→Q9,unsupported→Rc,DictEntry→Rm,callerA→Rn,setFlight→Rp,wpAny_loadName_cell→Rq,assignInOrder→Ry,rangeSize_one→Rz,nums_intItems→RG,wpAny_rule→RJ,wpAny_pyIter_range→RK,PlainAttrs→RQ,tupleKind_room_in1→RT,wpAny_extend_range→RW,Env→R0,bindName→R4,Code→R5,backToKw→R7,wpAny_sequenceKey→R8,seqIndex_neg→R9,slot_list_getitem→Sa,relabel→Sb,newList→Sc,OwnTail→Se,valueAt→Sf,wpAny_Call_method→Sg,wpAny_execs_cons→Sm,small_one→Sq,lastMarks→Sr,Result→Ss,wpAny_lookBehind→Sv,pastItsLine_dict→Sw,wpAny_isInstance→Sx,pushCells→SD,bindL→SG,bindC→SH,seqIndex_of→SJ,leaving→SR,ItemsOf→SS,builtinsNs→SU,Model→SV,wpAny_Name→SW,CmpOp→SX,Operator→SY,wpAny_load→SZ,Data→S1,bindArgs→Ta,typeIs_int→Te,isInstance→Ti,atKey→Tn,numAt_eq→To,storeName→TB,inplaceOp→TD,Arguments→TJ,seqIndex?→TK,standAt→TL,setItem→TM,pyNext→TN,pyIter→TQ,operate→TR,typeOf→TU,collect→TW,Tok→TX,field→Ua
open PySem.Around renaming under_plainId→OR,under→QF
open PySem.AutoSeq1 renaming wpAny_loadPart'→On
open PySem.Builtin.Int renaming intBits→Rs
open PySem.Builtin.List renaming listExtendWith→PR
open PySem.Builtin.Range renaming rangeSize→Pd,small→Ub
open PySem.Builtin.Slice renaming slicePlaces→Q6,sliceAdjust→SI
open PySem.Builtin.SmallTypes renaming nextOf→Ob
open PySem.Builtin.Tuple renaming tupleExact→P2
open PySem.Code renaming quiet_builtin→RS,isFrame→R6
open PySem.Data renaming fields→Qb,cell→Rj
open PySem.F renaming plainAttrs_list→MK,slot_dict_itemiterator_iter→PU,attrBase_ValueError→Rt,slot_dict_get→RF
open PySem.Flow renaming next→Sn
open PySem.Heap renaming get?_push_of_some→LU,get?_push_size→Mm,lt_size→Mv,get?_update_other→MI,get?_none_of_le→NK,size_push→N4,get?_update_self→Os,SameBut→OT,MadeExcOf→Tg
open PySem.Heap.SameBut renaming update→Ru
open PySem.MeetsSeq renaming EqGives→Sz
open PySem.NameKind renaming cell→RB,free→Ts
open PySem.PassesOwn renaming never→L9,leaving→Qi
open PySem.PyData renaming eqv→M7,depthAll→NE,shownAll→OC,showableAll→RU,canLayAll0→Sd,hasDictAll→Si,int→Tf,eqvAll→Tt
open PySem.SeqAt renaming EqAt→RN
open PySem.Str renaming ofString→Og
open PySem.Value renaming ref→Ml,none→Nf,int→Oc,type→Oj,bool→OM,str→PV,isStrOf→Tr
open PySem.W renaming kia_one→OJ,looks_findIn→QP,cellsFrom_some→Q5,looks_clsIn→SK,callWith_K→Tb,methodObj→Tz,kitx_list→TH
open Rat renaming intCast_mul→MF,le_refl→M8,intCast_lt_intCast→Ny,intCast_natCast→Oq,mul_le_mul_of_nonneg_right→Ou,mul_lt_mul_of_pos_right→OL,le_of_lt→OV,intCast_inj→QU,intCast_add→QV,not_le→RZ,div_def→SO
open Sum renaming inl→Nv,inr→Qx
open True renaming intro→Ox
open Array (append_empty ext' find?_toList getElem?_toList toArray_toList toList)
open Bool (and_or_distrib_left and_or_distrib_right decide_or noConfusion)
open PySem.Builtin.Range (rangeFitsLong)
open PySem.Builtin.Slice (sliceApplied sliceFields slicePartIndex)
open PySem.Builtin.Tuple (tupleCompareSizes tupleIsExact tupleItemsOf)
open PySem.Heap (get?_push_at)
open Int (add_nonneg ediv_le_ediv ediv_mul_cancel ediv_mul_le fmod_eq_emod_of_nonneg gcd_dvd_left gcd_mul_right gcd_mul_right_right_of_gcd_eq_one le_ediv_iff_mul_le le_total lt_ediv_add_one_mul_self lt_or_eq_of_le lt_or_le mul_add mul_dvd_mul mul_ediv_cancel mul_one mul_pos mul_zero natAbs_add_le natCast_ediv natCast_emod neg_gcd neg_mul neg_neg not_lt ofNat_le sub_eq_add_neg zero_ediv zero_mul)
open List (all_map any_map append_inj' cons_append countP_eq_length_filter countP_le_length countP_map drop_eq_nil_of_le drop_sublist drop_zero eq_nil_of_length_eq_zero eq_nil_or_concat eraseIdxIfInBounds_toArray ext_getElem filter filterMap_map filter_congr filter_eq_nil_iff filter_filter filter_map foldl forIn_toArray getElem?_drop getElem?_of_mem getElem?_set getElem?_take_of_lt getElem_drop getElem_inj getElem_range getElem_take getElem_toArray getElem_zip getLast_mem head?_filter length length_erase length_eraseIdx_le length_filterMap_le length_reverse length_singleton length_zip lookup_cons_self map map_drop map_id map_id' map_nil map_replicate map_reverse map_take mem_append mem_map nodup_cons pairwise_append pairwise_map pairwise_singleton range replicate_succ reverse_cons reverse_perm set_comm sublist_append_left take_append_drop take_sublist zip_cons_cons zip_nil_left zip_nil_right)
open Nat (add_assoc add_le_add_left add_zero dvd_lcm_left dvd_lcm_right gcd_rec lcm lcm_dvd lcm_pos le_add_left le_max_left le_max_right le_of_mul_le_mul_left le_of_not_lt le_of_succ_le le_of_succ_le_succ le_trans lt_of_le_of_lt lt_of_lt_of_le lt_succ_self lt_trans min_le_right min_self mul_div_assoc mul_lt_mul'' one_mul pow_add pow_pos pow_succ sub_self sub_zero succ_lt_succ succ_ne_self succ_pos zero_le)
open Option (getD_none getD_some isSome_map isSome_none map_none map_some)
open PySem.EqMixed (eq_bool_str eq_int_str eq_str_bool eq_str_int ne_bool_str ne_int_str ne_str_bool ne_str_int)
open PySem.EqNone (eq_bool_none eq_int_none eq_none_bool eq_none_int eq_none_none eq_none_str eq_str_none ne_bool_none ne_int_none ne_none_bool ne_none_int ne_none_none ne_none_str ne_str_none)
open PySem.F (args_bexc_ga args_dict_get_3 args_dict_itemiterator_iter_1 args_dict_items_1 args_tuple_lt_2 entry_bexc_ga entry_dict_get entry_dict_items entry_tuple_lt excBase_ValueError plainAttrs_dict slot_dict_items slot_list_remove slot_list_reverse slot_tuple_lt store_object type_dict_get type_dict_items type_list_remove type_list_reverse)
open PySem.W (any_some bind_fn check_slot class_get clsIn codeRec_of eq_bytes exm_one findObj findObj_data findObj_own handedIn handed_on hideAll hideAll_get hideAll_none hideAll_size instObj isFn ki_setAt ki_setBack kia_tup kitMeta kitx_bool kitx_dict kitx_float kitx_int kitx_none kitx_own kitx_str kitx_tuple lookIn looks_find looks_mroIn makesIn mroIn ne_bytes notCls of_hideAll osa_eq plainGet plainOver set_plain)
open PySem.SeqAt.EqAt (bool_bool bool_int bool_none bool_str int_bool int_int int_none int_str none_bool none_int none_str str_bool str_int str_none str_str)
open PySem.Value (builtin bytes float isInt_shape isStrOf_shape notImplemented)
local macro_rules
 | `(Z)=>`(rfl)
abbrev Fg:=PySem.W.Frag
abbrev cy:=List (PySem.Addr×PySem.Obj)
abbrev c5:=PySem.Value->PySem.Shared->Prop
theorem A5:1≤PySem.sizeLine:=by decide
theorem iY:2≤PySem.sizeLine:=by decide
theorem Du:3≤PySem.sizeLine:=by decide
theorem Gr:4≤PySem.sizeLine:=by decide
theorem Ks:6≤PySem.sizeLine:=by decide
theorem Kr:7≤PySem.sizeLine:=by decide
namespace L2
open PySem PySem.Spec PyProof.Rows
abbrev dQ:=Sum Int Mj
def mR:dQ->Value->Bool
 | .inl k,v=>Value.isInt k v
 | .inr x,v=>Tr x v
def Jl(w:MD):dQ->Int
 | .inl k=>hashInt k
 | .inr x=>hashStr w x
theorem cG:∀{k:dQ} {v:Value},mR k v=true->(∃i t,k=Nv i/\v=Oc i t)∨(∃x t,k=Qx x/\v=PV x t)
 | .inl i,v,h=>by
  obtain⟨t,e⟩:=isInt_shape (k:=i) (v:=v) h;exact .inl ⟨i,t,Z,e⟩
 | .inr x,v,h=>by
  obtain⟨t,e⟩:=isStrOf_shape (x:=x) (v:=v) h;exact .inr ⟨x,t,Z,e⟩
theorem wj(i:Int)(t:TX):mR (.inl i) (.int i t)=true:=by simp[mR,Value.isInt]
theorem wg(x:Mj)(t:TX):mR (.inr x) (.str x t)=true:=by simp[mR,Tr]
theorem FK(a b:Int):decide ((Nv a:dQ)=Nv b)=(a==b):=by
 by_cases e:a=b
 ·subst e;simp
 ·have h:¬(Nv a:dQ)=Nv b:=λq=>e (Nv.inj q)
  rw[decide_eq_false h];exact(beq_eq_false_iff_ne.mpr e).symm
theorem FH(a b:Mj):decide ((Qx a:dQ)=Qx b)=decide (a=b):=by
 by_cases e:a=b
 ·subst e;simp
 ·have h:¬(Qx a:dQ)=Qx b:=λq=>e (Qx.inj q)
  rw[decide_eq_false h,decide_eq_false e]
theorem FJ(a:Int)(b:Mj):decide ((Nv a:dQ)=Qx b)=false:=decide_eq_false (λq=>nomatch q)
theorem FI(a:Mj)(b:Int):decide ((Qx a:dQ)=Nv b)=false:=decide_eq_false (λq=>nomatch q)
def cF(prog:Mo)(w:MD):PySem.KeyKind prog w dQ where
 is:=mR
 hash:=Jl w
 inj:=λv a b ha hb=>by
  rcases cG ha with⟨i,t,rfl,rfl⟩ | ⟨x,t,rfl,rfl⟩
  ·rcases cG hb with⟨j,u,rfl,e⟩ | ⟨y,u,rfl,e⟩
   ·injection e with e1 _;rw[e1]
   ·exact nomatch e
  ·rcases cG hb with⟨j,u,rfl,e⟩ | ⟨y,u,rfl,e⟩
   ·exact nomatch e
   ·injection e with e1 _;rw[e1]
 byValue:=λk v h=>by
  rcases cG h with⟨i,t,rfl,rfl⟩ | ⟨x,t,rfl,rfl⟩<;>rfl
 pyHash:=λhv h=>by
  rcases cG hv with⟨i,t,rfl,rfl⟩ | ⟨x,t,rfl,rfl⟩
  ·exact wpAny_pyHash_int h
  ·exact wpAny_pyHash_str h
 eqBool:=λhu hv h=>by
  rcases cG hu with⟨i,t,rfl,rfl⟩ | ⟨x,t,rfl,rfl⟩
  ·rcases cG hv with⟨j,u,rfl,rfl⟩ | ⟨y,u,rfl,rfl⟩
   ·rw[FK] at h;exact wpAny_eqBool_int h
   ·rw[FJ] at h;exact int_str i t y u _ _ _ _ h
  ·rcases cG hv with⟨j,u,rfl,rfl⟩ | ⟨y,u,rfl,rfl⟩
   ·rw[FI] at h;exact str_int x t j u _ _ _ _ h
   ·rw[FH] at h;exact wpAny_eqBool_str h
 «strs»:=λk x t v h=>by
  rcases cG h with⟨i,u,rfl,e⟩ | ⟨y,u,rfl,e⟩
  ·exact nomatch e
  ·injection e with e1 _;subst e1
   cases v<;>rfl
theorem rA(prog:Mo)(w:MD)(i:Int)(t:TX):(cF prog w).is (.inl i) (.int i t)=true:=wj i t
theorem rq(prog:Mo)(w:MD)(x:Mj)(t:TX):(cF prog w).is (.inr x) (.str x t)=true:=wg x t
end L2
namespace L2
open PySem PySem.Spec PyProof.Rows
inductive V where
 |non|bl (b:Bool)|int (i:Int)|str (x:Mj)|byt (b:Array UInt8)|flt (b:UInt64)|ref (a:Addr)|ty (n:String)
 deriving DecidableEq
def bv:V->Value->Prop
 | .non,u=>u=Nf
 | .bl b,u=>u=OM b
 | .int i,u=>∃t,u=Oc i t
 | .str x,u=>∃t,u=PV x t
 | .byt b,u=>∃t,u=bytes b t
 | .flt b,u=>∃t,u=float b t
 | .ref a,u=>u=Ml a
 | .ty n,u=>u=Oj n
abbrev bj:List V->List Value->Prop:=Paired bv
theorem bj.length(r:bj xs us):xs.length=us.length:=Paired.length r
theorem bj.get:∀{xs:List V} {us:List Value} {i:Nat} {x:V},bj xs us->xs[i]?=some x->∃u,us[i]?=some u/\bv x u
 |_,_,_,_,.nil,e=>by simp at e
 |_,_,0,_,.cons r _,e=>by simp at e;subst e;exact⟨_,Z,r⟩
 |_,_,i+1,x,.cons _ t,e=>by
  obtain⟨u,h1,h2⟩:=bj.get (i:=i) (x:=x) t (by simpa using e);exact⟨u,by simpa using h1,h2⟩
theorem bj.set{x:V}{u:Value}(r:bv x u):∀{xs:List V} {us:List Value} (i:Nat),bj xs us->bj (xs.set i x) (us.set i u)
 |_,_,_,.nil=>.nil
 |_,_,0,.cons _ t=>.cons r t
 |_,_,i+1,.cons q t=>.cons q (bj.set r i t)
theorem bj.append:∀{xs ys:List V} {us ws:List Value},bj xs us->bj ys ws->bj (xs++ys) (us++ws)
 |_,_,_,_,.nil,s=>s
 |_,_,_,_,.cons r t,s=>.cons r (bj.append t s)
theorem bj.take:∀{xs:List V} {us:List Value} (n:Nat),bj xs us->bj (xs.take n) (us.take n)
 |_,_,0,_=>.nil
 |_,_,_+1,.nil=>.nil
 |_,_,n+1,.cons r t=>.cons r (bj.take n t)
theorem bj.drop:∀{xs:List V} {us:List Value} (n:Nat),bj xs us->bj (xs.drop n) (us.drop n)
 |_,_,0,r=>r
 |_,_,_+1,.nil=>.nil
 |_,_,n+1,.cons _ t=>bj.drop n t
def gW:Option V->Option Value->Prop
 |some v,some u=>bv v u
 |none,none=>True
 |_,_=>False
def KV{κ:Type}:List (κ×V)->List (κ×Value)->Prop:=Paired λ(p:κ×V) (q:κ×Value)=>p.1=q.1/\bv p.2 q.2
def kV:dQ->V
 | .inl i=>.int i
 | .inr x=>.str x
inductive HO where
 |lst (xs:List V)
 |tup (xs:List V)
 |dK (kvs:List (dQ×V))|dT (kvs:List (List dQ×V))
 |set (S:Int->Bool) (n:Nat)
 |ins (C dx:Addr) (fs:List (Mj×V))
 |own (x:Addr)
 |xd (fs:List (Mj×V))
 |met (f x:Addr)
 |rng (lo hi:Int)
 |frz (o:Obj) (u:HO)
 |tbl (ps:Array Value)
 |ext (φ:MA->Prop)
abbrev Hp:=Addr->Option HO
def upd(H:Hp)(a:Addr)(o:HO):Hp:=λb=>if b=a then some o else H b
theorem ah:upd H a o a=some o:=by unfold upd;rw[if_pos Z]
theorem aE(h:b≠a):upd H a o b=H b:=by unfold upd;rw[if_neg h]
theorem kZ:upd (upd H a o) a u=upd H a u:=by
 funext b;unfold upd;split<;>rfl
theorem Hu{H:Hp}{a b:Addr}{o u:HO}(h:H a=some o)(h':H b=some u)(d:o≠u):a≠b:=by
 intro e;subst e;rw[h] at h';exact d (MB h')
theorem aX{H:Hp}{a b:Addr}{o:HO}(h:H a=some o)(h':H b=none):a≠b:=by
 intro e;subst e;rw[h] at h';cases h'
section
variable (P:Mo) (w:MD)
def ObjOk(H:Hp)(h:MA)(a:Addr):HO->Prop
 | .lst xs=>xs.length≤sizeLine/\∃(its:List Value) (n:Nat),bj xs its/\h.get? a=some { cls:=.type "list",data:=.seq its.toArray n}
 | .tup xs=>xs.length≤sizeLine/\∃its:List Value,bj xs its/\R1 h a its.toArray
 | .dK kvs=>kvs.length≤sizeLine/\(a==Ov)=false/\∃vs,KV kvs vs/\h.DictOf (cF P w) a vs
 | .dT kvs=>kvs.length≤sizeLine/\(a==Ov)=false/\∃xs:List (List dQ×Addr×Value),
   Paired (λ(p:List dQ×V) (q:List dQ×Addr×Value)=>p.1=q.1/\H q.2.1=some (.tup (p.1.map kV))/\bv p.2 q.2.2) kvs xs∧
   ∃o es ep,h.get? a=some o/\o.ExactDict/\o.data=.dict es ep/\es.toList=xs.map (entryOfKey (Qr (cF P w)))/\(xs.map (·.1)).Nodup
 | .set S n=>h.SetOf (intKind P w) a S n
 | .ins C dx fs=>H dx=some (.own a)/\fs.length≤1000/\dx≠a/\h.get? a=some (instObj C dx)∧
   ∃mA,h.Ns1 dx mA/\(∀f,gW (fs.lookup f) (mA f))/\PySem.Within mA (fs.map (·.1))
 | .own _=>∃o,h.get? a=some o
 | .xd fs=>∃mA,h.Ns1 a mA/\∀f,gW (fs.lookup f) (mA f)
 | .rng lo hi=>∃t u v,h.get? a=some { cls:=.type "range",data:=.fields #[.int lo t,.int hi u,.int 1 v]}
 | .frz o u=>h.get? a=some o/\ObjOk H h a u
 | .tbl ps=>h.get? a=some { cls:=.none,data:=.fields ps}
 | .met f x=>h.get? a=some (Tz (.ref f) (.ref x))
 | .ext φ=>φ h/\(∃o,h.get? a=some o)/\∀h1 h2:MA,φ h1->(∀o,h1.get? a=some o->h2.get? a=some o)->φ h2
def iX(H:Hp)(h:MA):Prop:=∀a o,H a=some o->ObjOk P w H h a o
end
section
variable {P:Mo}{w:MD}{H H':Hp}{h h':MA}{a:Addr}{o:HO}
theorem ObjOk.lt(x:ObjOk P w H h a o):a<h.objs.size:=by
 cases o with
 |lst xs=>obtain⟨_,_,_,_,e⟩:=x;exact Mv e
 |tup xs=>obtain⟨_,_,_,p⟩:=x;exact p.lt
 |dK kvs=>obtain⟨_,_,_,_,o,_,_,e,_⟩:=x;exact Mv e
 |dT kvs=>obtain⟨_,_,_,_,o,_,_,e,_⟩:=x;exact Mv e
 |set S n=>obtain⟨o,_,_,_,e,_⟩:=x;exact Mv e
 |ins C dx fs=>obtain⟨_,_,_,e,_⟩:=x;exact Mv e
 |own y=>obtain⟨_,e⟩:=x;exact Mv e
 |xd fs=>obtain⟨_,⟨_,_,_,e,_⟩,_⟩:=x;exact Mv e
 |rng lo hi=>obtain⟨_,_,_,e⟩:=x;exact Mv e
 |frz ob u=>obtain⟨e,_⟩:=x;exact Mv e
 |tbl ps=>exact Mv (show h.get? a=some _ from x)
 |met f y=>exact Mv (show h.get? a=some _ from x)
 |ext φ=>obtain⟨_,⟨_,e⟩,_⟩:=x;exact Mv e
theorem Paired.mapP{α β:Type}{F G:α->β->Prop}:∀{l₁:List α} {l₂:List β},Paired F l₁ l₂->(∀a b,F a b->G a b)->Paired G l₁ l₂
 |_,_,.nil,_=>.nil
 |_,_,.cons r t,f=>.cons (f _ _ r) (Paired.mapP t f)
theorem ObjOk.stay(x:ObjOk P w H h a o)(k:∀b u,(b=a∨H b=some (.own a))->h.get? b=some u->h'.get? b=some u)
  (ho:∀b,H b=some (.own a)->H' b=some (.own a)) (ht:∀b xs,H b=some (.tup xs)->H' b=some (.tup xs)):ObjOk P w H' h' a o:=by
 induction o with
 |lst xs=>obtain⟨z,its,n,r,e⟩:=x;exact⟨z,its,n,r,k _ _ (.inl Z) e⟩
 |tup xs=>obtain⟨z,its,r,ob,e,c⟩:=x;exact⟨z,its,r,ob,k _ _ (.inl Z) e,c⟩
 |dK kvs=>obtain⟨z,y,vs,r,ob,es,ep,e,c⟩:=x;exact⟨z,y,vs,r,ob,es,ep,k _ _ (.inl Z) e,c⟩
 |dT kvs=>
  obtain⟨z,y,xs,r,ob,es,ep,e,c⟩:=x;exact⟨z,y,xs,Paired.mapP r λp q z=>⟨z.1,ht _ _ z.2.1,z.2.2⟩,ob,es,ep,k _ _ (.inl Z) e,c⟩
 |set S n=>obtain⟨ob,es,ep,t,e,c⟩:=x;exact⟨ob,es,ep,t,k _ _ (.inl Z) e,c⟩
 |ins C dx fs=>
  obtain⟨d,z,ne,e,mA,⟨od,es,ep,e2,c⟩,r⟩:=x;exact⟨ho _ d,z,ne,k _ _ (.inl Z) e,mA,⟨od,es,ep,k _ _ (.inr d) e2,c⟩,r⟩
 |own y=>obtain⟨ob,e⟩:=x;exact⟨ob,k _ _ (.inl Z) e⟩
 |xd fs=>obtain⟨mA,⟨od,es,ep,e,c⟩,r⟩:=x;exact⟨mA,⟨od,es,ep,k _ _ (.inl Z) e,c⟩,r⟩
 |rng lo hi=>obtain⟨t,u,v,e⟩:=x;exact⟨t,u,v,k _ _ (.inl Z) e⟩
 |frz ob u ih=>obtain⟨e,q⟩:=x;exact⟨k _ _ (.inl Z) e,ih q⟩
 |tbl ps=>
  have e:h.get? a=some { cls:=.none,data:=.fields ps}:=x;show h'.get? a=some { cls:=.none,data:=.fields ps};exact k a _ (.inl Z) e
 |met f y=>
  have e:h.get? a=some (Tz (.ref f) (.ref y)):=x;show h'.get? a=some (Tz (.ref f) (.ref y));exact k a _ (.inl Z) e
 |ext φ=>obtain⟨p,⟨o,e⟩,st⟩:=x;exact⟨st _ _ p λo q=>k _ _ (.inl Z) q,⟨o,k _ _ (.inl Z) e⟩,st⟩
theorem iX.lt(x:iX P w H h)(e:H a=some o):a<h.objs.size:=(x a o e).lt
theorem iX.fresh(x:iX P w H h)(e:h.objs.size≤a):H a=none:=by
 cases q:H a with
 |none=>rfl
 |some u=>exact absurd (Mp (x.lt q) e) (Na _)
theorem iX.kept(x:iX P w H h)(k:∀b u,h.get? b=some u->h'.get? b=some u):iX P w H h':=λa o e=>
 (x a o e).stay (λb u _ q=>k b u q) (λ_ q=>q) λ_ _ q=>q
theorem iX.laid(x:iX P w H h)(k:∀b u,h.get? b=some u->h'.get? b=some u)(hp:h.objs.size≤a)(new:ObjOk P w (upd H a o) h' a o):iX P w (upd H a o) h':=λb u e=>by
 have hn:=x.fresh hp;by_cases hb:b=a
 ·subst hb;rw[ah] at e;cases e;exact new
 ·rw[aE hb] at e;exact(x b u e).stay (λc v _ q=>k c v q) (λc q=>by rw[aE (aX q hn)];exact q) λc xs q=>by rw[aE (aX q hn)];exact q
end
def Rd(H:Hp)(a:Addr)(u:HO):Prop:=H a=some u∨∃o,H a=some (.frz o u)
theorem Rd.ok(r:Rd H a u)(x:iX P w H h):ObjOk P w H h a u:=by
 rcases r with r | ⟨o,r⟩
 ·exact x a u r
 ·obtain⟨_,q⟩:=x a _ r;exact q
def Ii:Option HO->Prop
 |some (.lst _)=>True
 |some (.dK _)=>True
 |some (.dT _)=>True
 |some (.set _ _)=>True
 |some (.ins _ _ _)=>True
 |some (.ext _)=>True
 |_=>False
section
variable {P:Mo}{w:MD}{H:Hp}{h h':MA}{x e:Addr}{o':HO}
theorem iX.write(ok:iX P w H h)(mu:Ii (H x))(he:e=x∨H e=some (.own x))(k:∀b u,b≠e->h.get? b=some u->h'.get? b=some u)(heo:∃u,h'.get? e=some u)
  (new:ObjOk P w (upd H x o') h' x o'):iX P w (upd H x o') h':=λb u q=>by
 have nown:∀c y,H c=some (.own y)->c≠x:=λc y r z=>by subst z;rw[r] at mu;exact mu
 have ntup:∀c xs,H c=some (.tup xs)->c≠x:=λc xs r z=>by subst z;rw[r] at mu;exact mu
 by_cases hb:b=x
 ·subst hb;rw[ah] at q;cases q;exact new
 ·rw[aE hb] at q;by_cases hbe:b=e
  ·have q':H b=some (.own x):=by
    rcases he with z|z
    ·exact absurd (hbe.trans z) hb
    ·rw[hbe];exact z
   rw[q] at q';cases q';obtain⟨v,hv⟩:=heo;exact⟨v,by rw[hbe];exact hv⟩
  ·refine(ok b u q).stay (λc v hc r=>k c v ?_ r) (λc r=>by rw[aE (nown c b r)];exact r) λc xs r=>by rw[aE (ntup c xs r)];exact r
   rcases hc with rfl|hc
   ·exact hbe
   ·rintro rfl;rcases he with z|z
    ·exact nown c b hc z
    ·rw[hc] at z;cases z;exact hb Z
end
structure Un(fs ex:List Addr)(H H':Hp)(h h':MA):Prop where
 keep:∀b o,h.get? b=some o->H b=none->b∉fs->b∉ex->h'.get? b=some o
 slot:∀b o,h.get? b=some o->H b=none->b∈fs->b∉ex->∃sl,h'.get? b=some { o with slots:=sl}
 free:∀b o,h.get? b=some o->H b=none->b∉ex->H' b=none
 there:∀b o,h.get? b=some o->b∉ex->∃o',h'.get? b=some o'
 tups:∀b xs,H b=some (.tup xs)->H' b=some (.tup xs)
 frzs:∀b o u,H b=some (.frz o u)->H' b=some (.frz o u)
 tbls:∀b ps,H b=some (.tbl ps)->∃more,H' b=some (.tbl (ps++more))
section
variable {fs fs' ex ex':List Addr}{H H1 H2:Hp}{h h1 h2 h':MA}{a x e:Addr}{o:HO}
theorem Un.any(u:Un fs ex H H1 h h1)(q:h.get? b=some ob)(n:H b=none)(hx:b∉ex):∃sl,h1.get? b=some { ob with slots:=sl}:=by
 by_cases hb:b∈fs
 ·exact u.slot b ob q n hb hx
 ·exact⟨ob.slots,u.keep b ob q n hb hx⟩
theorem Un.kept(k:∀b u,h.get? b=some u->h'.get? b=some u):Un fs ex H H h h':=
 ⟨λb ob q _ _ _=>k b ob q,λb ob q _ _ _=>⟨ob.slots,k b ob q⟩,λ_ _ _ n _=>n,λb ob q _=>⟨ob,k b ob q⟩,λ_ _ q=>q,λ_ _ _ q=>q,λ_ ps q=>⟨#[],by rw[q];simp⟩⟩
theorem Un.refl:Un fs ex H H h h:=Un.kept λ_ _ q=>q
theorem Un.laid(k:∀b u,h.get? b=some u->h'.get? b=some u)(hp:h.objs.size≤a)(hn:H a=none):Un fs ex H (upd H a o) h h' where
 keep:=λb u q _ _ _=>k b u q
 slot:=λb u q _ _ _=>⟨u.slots,k b u q⟩
 free:=λb u q n _=>by rw[aE (Nc (Mp (Mv q) hp))];exact n
 there:=λb u q _=>⟨u,k b u q⟩
 tups:=λb xs q=>by rw[aE (aX q hn)];exact q
 frzs:=λb u xs q=>by rw[aE (aX q hn)];exact q
 tbls:=λb ps q=>⟨#[],by rw[aE (aX q hn),q];simp⟩
theorem Un.write(mu:Ii (H x))(he:e=x∨H e=some (.own x))(k:∀b u,b≠e->h.get? b=some u->h'.get? b=some u)(heo:∃u,h'.get? e=some u):Un fs ex H (upd H x o) h h':=by
 have hx:∀b,H b=none->b≠x:=λb n z=>by subst z;rw[n] at mu;exact mu
 have hb:∀b,H b=none->b≠e:=λb n z=>by
  subst z;rcases he with r|r
  ·exact hx b n r
  ·rw[n] at r;cases r
 have hm:∀b u,H b=some u->¬Ii (some u)->b≠x:=λb u q nm z=>by subst z;rw[q] at mu;exact nm mu
 refine⟨λb u q n _ _=>k b u (hb b n) q,λb u q n _ _=>⟨u.slots,k b u (hb b n) q⟩,λb u q n _=>by rw[aE (hx b n)];exact n,λb u q _=>?_,
  λb xs q=>by rw[aE (hm b _ q λz=>z)];exact q,λb u xs q=>by rw[aE (hm b _ q λz=>z)];exact q,λb ps q=>⟨#[],by rw[aE (hm b _ q λz=>z),q];simp⟩⟩
 by_cases hbe:b=e
 ·subst hbe;exact heo
 ·exact⟨u,k b u hbe q⟩
end
def Dx(h:MA)(H:Hp):List Addr:=(range h.objs.size).filter λa=>(H a).isSome
def p5(h:MA)(H:Hp):MA:=hideAll h (Dx h H)
theorem wt(h:MA)(H:Hp):(p5 h H).objs.size=h.objs.size:=hideAll_size _ _
theorem Av(e:h.get? b=some o)(n:H b=none):(p5 h H).get? b=some o:=
 hideAll_get _ e λhm=>by
  have q:(H b).isSome=true:=(Mb.mp hm).2;rw[n] at q;simp at q
theorem Cc(e:(p5 h H).get? b=some o):h.get? b=some o/\H b=none:=by
 have e':h.get? b=some o:=of_hideAll (Dx h H) e;refine⟨e',?_⟩
 cases q:H b with
 |none=>rfl
 |some x=>
  have hm:b∈Dx h H:=Mb.mpr ⟨LW.mpr (Mv e'),by simp[q]⟩;have z:(p5 h H).get? b=none:=hideAll_none (Dx h H) hm;rw[z] at e;cases e
def jT(g h:MA)(L:Addr):cy:=(range h.objs.size).filterMap λa=>if a=L∨(g.get? a).isSome=true then none else(h.get? a).map λo=>(a,o)
theorem rE(h1:a≠L)(h2:g.get? a=none)(h3:h.get? a=some o):(a,o)∈jT g h L:=
 O7.mpr ⟨a,LW.mpr (Mv h3),by simp[h1,h2,h3]⟩
theorem mD(hp:p∈jT g h L):p.1≠L/\g.get? p.1=none/\h.get? p.1=some p.2:=by
 obtain⟨b,_,e⟩:=O7.mp hp
 split at e
 ·cases e
 ·rename_i hn
  cases q:h.get? b with
  |none=>rw[q] at e;simp at e
  |some u=>
   rw[q] at e;simp only[map_some,MW.injEq] at e;subst e;refine⟨λz=>hn (.inl z),?_,q⟩;show g.get? b=none
   cases r:g.get? b with
   |none=>rfl
   |some v=>exact(hn (.inr (by simp[r]))).elim
def cV(g h:MA)(L d:Addr):cy:=(jT g h L).filter λp=>decide (p.1≠d)
end L2
namespace L2
open PySem PySem.Spec PyProof.Rows
structure Mod(K:Fg)(mg:Mj->Option Value)(base:MA):Prop where
 kin:K.In base
 glob:base.Ns Mf mg
 blt:∃mb,base.Ns SU mb/\∀x:Mj,x ≠ "__name__"->mb x=NG x
 nolimit:base.NoLimit
structure Cx where
 prog:Mo
 w:MD
 K:Fg
 mg:Mj->Option Value
 base:MA
 A:Mq
 N:List Mj
 s₀:LV
 H₀:Hp
 env:R0
 outer:List R0
 stack:List R0
 ex:List Addr
 fn:Mj->Bool
 calm:Bool
 pn:cy
 xe:c5
def nH(l:List R0):List Addr:=l.filterMap (·.frame)
abbrev Cx.fs(X:Cx):List Addr:=nH X.outer
def HY(sc:OH)(x:Mj):Prop:=sc.names.lookup x=some .local∨sc.names.lookup x=some .cell∨sc.names.lookup x=some .free
def wP(sc:OH)(x:Mj):Prop:=sc.names.lookup x=some .local∨sc.names.lookup x=some .cell
def JA(env:R0)(h:MA)(m:Mj->Option Value)(x:Mj)(u:Value):Prop:=
 (env.kindOf x=some .local/\m x=some u)∨((env.kindOf x=some .cell∨env.kindOf x=some .free)/\∃c,env.cells.lookup x=some c/\h.IsCell c (some u))
structure Cx.Ok(X:Cx):Prop where
 mod:Mod X.K X.mg X.base
 kind:X.env.scope.kind=.function
 glob:X.env.globals=Mf
 blt:X.env.builtins=SU
 above:X.s₀.heap.objs.size≤X.env.locals
 inj:∀x y c,X.env.cells.lookup x=some c->X.env.cells.lookup y=some c->x=y
 has:∀x,(X.env.kindOf x=some .cell∨X.env.kindOf x=some .free)->∃c,X.env.cells.lookup x=some c
 cab:∀x c,X.fn x=true->X.env.cells.lookup x=some c->X.s₀.heap.objs.size≤c
 hd:X.calm=true->X.A.handled=none
 frames:X.A.frames=some X.stack
 stk:X.stack=X.outer∨(X.stack=X.env::X.outer/\X.env.frame=some X.env.locals)
 exf:∀b∈X.ex,b≠X.env.locals/\∀x c,X.env.cells.lookup x=some c->c≠b
 bs:∀b o,X.base.get? b=some o->X.s₀.heap.get? b=some o/\X.H₀ b=none
 bsz:X.base.objs.size≤X.s₀.heap.objs.size
 noex:∀b o,X.base.get? b=some o->b∉X.ex
 exfs:∀b∈X.ex,b∉X.fs
 funs:X.s₀.heap.FunFrames X.base X.outer
 frf:∀b∈X.fs,X.H₀ b=none
structure Inv(X:Cx)(pins:cy)(σ:List (Option V))(H:Hp)(s:LV):Prop where
 ok:X.Ok
 os:s.os=X.s₀.os
 bare:Pz s.gens
 base:Un X.fs X.ex X.H₀ H X.s₀.heap s.heap
 loc:∃m,s.heap.Ns X.env.locals m/\∀(i:Nat) (x:Mj) (v:V),X.N[i]?=some x->σ[i]?=some (some v)->HY X.env.scope x->∃u,bv v u/\JA X.env s.heap m x u
 cell:∀x c,X.env.cells.lookup x=some c->∃v,s.heap.IsCell c v
 free:H X.env.locals=none
 freeC:∀x c,X.env.cells.lookup x=some c->H c=none
 pin:∀p∈X.pn++pins,s.heap.get? p.1=some p.2/\H p.1=none/\p.1≠X.env.locals/\p.1∉X.fs/\∀v,p.2.data≠.cell v
 hok:iX X.prog X.w H s.heap
 len:σ.length=X.N.length
section
variable {X:Cx}{pins:cy}{σ:List (Option V)}{H H':Hp}{s:LV}{h':MA}
theorem Cx.Ok.nofr(ok:X.Ok)(e:X.base.get? b=some o):b∉X.fs:=λhb=>by
 have:=(ok.funs.mem hb).1;rw[e] at this;cases this
theorem Inv.bs(I:Inv X pins σ H s):∀b o,X.base.get? b=some o->s.heap.get? b=some o/\H b=none:=λb o e=>
 ⟨I.base.keep b o (I.ok.bs b o e).1 (I.ok.bs b o e).2 (I.ok.nofr e) (I.ok.noex b o e),I.base.free b o (I.ok.bs b o e).1 (I.ok.bs b o e).2 (I.ok.noex b o e)⟩
theorem Inv.bk(I:Inv X pins σ H s):∀b o,X.base.get? b=some o->s.heap.get? b=some o:=λb o e=>(I.bs b o e).1
theorem Inv.mod(I:Inv X pins σ H s):Mod X.K X.mg X.base:=I.ok.mod
theorem Inv.kIn(I:Inv X pins σ H s):X.K.In s.heap:=I.ok.mod.kin.keeps I.bk
theorem Inv.lt(I:Inv X pins σ H s):X.env.locals<s.heap.objs.size:=let ⟨_,hn,_⟩:=I.loc;hn.lt
theorem Inv.sz(I:Inv X pins σ H s):X.s₀.heap.objs.size≤s.heap.objs.size:=MG I.ok.above (NH I.lt)
theorem Inv.nofs(I:Inv X pins σ H s){a:Addr}(h:s.heap.objs.size≤a):a∉X.fs:=λhb=>by
 obtain⟨_,o,ho,_⟩:=I.ok.funs.mem hb;exact absurd (Mp (Mv ho) (MG I.sz h)) (Na _)
theorem Inv.cne(I:Inv X pins σ H s):∀x c,X.env.cells.lookup x=some c->c≠X.env.locals:=λx c e z=>by
 obtain⟨v,o,ho,hd⟩:=I.cell x c e;obtain⟨m,⟨o',es,ep,ho',hd',_⟩,_⟩:=I.loc;rw[z,ho'] at ho;cases ho;rw[hd'] at hd;cases hd
theorem Inv.funs(I:Inv X pins σ H s):s.heap.FunFrames X.base X.outer:=by
 have all:∀(l:List R0),(∀b∈nH l,b∈X.fs)->X.s₀.heap.FunFrames X.base l->s.heap.FunFrames X.base l:=by
  intro l
  induction l with
  |nil=>intro _ _;trivial
  |cons env r ih=>
   intro hs hl;obtain⟨hk,⟨L,o,hf,hn,ho,hd⟩,hr⟩:=hl;have hL:L∈X.fs:=hs L (by unfold nH;rw[ON,hf];exact LY);obtain⟨sl,e⟩:=I.base.slot L o ho (I.ok.frf L hL) hL λz=>I.ok.exfs L z hL
   exact⟨hk,⟨L,_,hf,hn,e,hd⟩,ih (λb hb=>hs b (by unfold nH;rw[ON,hf];exact L3 _ hb)) hr⟩
 exact all X.outer (λ_ hb=>hb) I.ok.funs
theorem Inv.stack(I:Inv X pins σ H s):s.heap.FunFrames X.base X.stack:=by
 rcases I.ok.stk with e | ⟨e,hf⟩
 ·rw[e];exact I.funs
 ·rw[e];obtain⟨m,hn,_⟩:=I.loc;refine .cons (by rw[I.ok.kind];decide) hf hn ?_ I.funs;exact NK (MG I.ok.bsz I.ok.above)
theorem Inv.stkSub(I:Inv X pins σ H s):∀b∈nH X.stack,b∈X.env.locals::X.fs:=λb hb=>by
 rcases I.ok.stk with e | ⟨e,hf⟩
 ·rw[e] at hb;exact L3 _ hb
 ·rw[e] at hb;unfold nH at hb;rw[ON,hf] at hb;exact hb
theorem Inv.stkFree(I:Inv X pins σ H s):∀b∈nH X.stack,H b=none:=λb hb=>by
 rcases LZ.mp (I.stkSub b hb) with e|hb
 ·rw[e];exact I.free
 ·obtain⟨_,o,ho,_⟩:=I.ok.funs.mem hb;exact I.base.free b o ho (I.ok.frf b hb) λz=>I.ok.exfs b z hb
theorem Inv.step{ch:List Addr}(I:Inv X pins σ H s)
  (hch:∀b∈ch,(b∈X.ex∨X.s₀.heap.get? b=none)/\b≠X.env.locals/\(∀x c,X.env.cells.lookup x=some c->c≠b)/\∀p∈X.pn++pins,p.1≠b)
  (keep:∀b o,b≠X.env.locals->b∉X.fs->b∉ch->s.heap.get? b=some o->H b=none->h'.get? b=some o)
  (slot:∀b o,b≠X.env.locals->b∈X.fs->b∉ch->s.heap.get? b=some o->H b=none->∃sl,h'.get? b=some { o with slots:=sl}) (free:∀b o,b∉ch->s.heap.get? b=some o->H b=none->H' b=none)
  (there:∀b o,b∉ch->s.heap.get? b=some o->∃o',h'.get? b=some o')
  (tups:∀b xs,H b=some (.tup xs)->H' b=some (.tup xs)) (frzs:∀b o u,H b=some (.frz o u)->H' b=some (.frz o u)) (tbls:∀b ps,H b=some (.tbl ps)->∃more,H' b=some (.tbl (ps++more)))
  (ns:∀m,s.heap.Ns X.env.locals m->h'.Ns X.env.locals m) (hok:iX X.prog X.w H' h') (hg:Pz g'):
  Inv X pins σ H' { s with heap:=h',gens:=g',drawn:=d',toks:=t'}:=by
 have neL:∀b o,X.s₀.heap.get? b=some o->b≠X.env.locals:=λb o e=>Nc (Mp (Mv e) I.ok.above)
 have neC:∀b o,X.s₀.heap.get? b=some o->b∉X.ex->b∉ch:=λb o e hx hb=>by
  rcases(hch b hb).1 with z|z
  ·exact hx z
  ·rw[e] at z;cases z
 have cellK:∀x c,X.env.cells.lookup x=some c->∀v,s.heap.IsCell c v->h'.IsCell c v:=λx c e v ⟨o,ho,hd⟩=>by
  have nch:c∉ch:=λz=>(hch c z).2.2.1 x c e Z
  by_cases hc:c∈X.fs
  ·obtain⟨sl,q⟩:=slot c o (I.cne x c e) hc nch ho (I.freeC x c e);exact⟨_,q,hd⟩
  ·exact⟨o,keep c o (I.cne x c e) hc nch ho (I.freeC x c e),hd⟩
 refine⟨I.ok,I.os,hg,⟨λb o e n hb hx=>?_,λb o e n hb hx=>?_,λb o e n hx=>?_,λb o e hx=>?_,λb xs e=>tups b xs (I.base.tups b xs e),λb o xs e=>frzs b o xs (I.base.frzs b o xs e),λb ps e=>?_⟩,?_,λx c e=>?_,?_,λx c e=>?_,λp hp=>?_,hok,I.len⟩
 ·exact keep b o (neL b o e) hb (neC b o e hx) (I.base.keep b o e n hb hx) (I.base.free b o e n hx)
 ·obtain⟨sl,e1⟩:=I.base.slot b o e n hb hx;obtain⟨sl',e2⟩:=slot b _ (neL b o e) hb (neC b o e hx) e1 (I.base.free b o e n hx);exact⟨sl',e2⟩
 ·obtain⟨o',e1⟩:=I.base.there b o e hx;exact free b o' (neC b o e hx) e1 (I.base.free b o e n hx)
 ·obtain⟨o',e1⟩:=I.base.there b o e hx;exact there b o' (neC b o e hx) e1
 ·obtain⟨m1,e1⟩:=I.base.tbls b ps e;obtain⟨m2,e2⟩:=tbls b _ e1;exact⟨m1++m2,by rw[e2,Array.append_assoc]⟩
 ·obtain⟨m,hn,hl⟩:=I.loc;refine⟨m,ns m hn,λi x v e1 e2 e3=>?_⟩;obtain⟨u,r,l⟩:=hl i x v e1 e2 e3;refine⟨u,r,?_⟩;rcases l with l | ⟨k,c,e,z⟩
  ·exact .inl l
  ·exact .inr ⟨k,c,e,cellK x c e _ z⟩
 ·obtain⟨v,z⟩:=I.cell x c e;exact⟨v,cellK x c e v z⟩
 ·obtain⟨m,⟨o,_,_,ho,_⟩,_⟩:=I.loc;exact free _ o (λz=>(hch _ z).2.1 Z) ho I.free
 ·obtain⟨v,o,ho,hd⟩:=I.cell x c e;exact free c o (λz=>(hch c z).2.2.1 x c e Z) ho (I.freeC x c e)
 ·obtain⟨e,n,ne,nf,d⟩:=I.pin p hp;have nch:p.1∉ch:=λz=>(hch p.1 z).2.2.2 p hp Z
  exact⟨keep p.1 p.2 ne nf nch e n,free p.1 p.2 nch e n,ne,nf,d⟩
theorem Inv.un(I:Inv X pins σ H s)(u:Un X.fs [] H H' s.heap h')(hok:iX X.prog X.w H' h'):Inv X pins σ H' { s with heap:=h',toks:=t'}:=by
 obtain⟨m,⟨o,es,ep,ho,r⟩,_⟩:=id I.loc;obtain⟨sl,hL⟩:=u.any ho I.free (by simp);exact I.step (g':=s.gens) (d':=s.drawn) (ch:=[]) (λ_ z=>nomatch z) (λb o _ hb _ e n=>u.keep b o e n hb (by simp)) (λb o _ hb _ e n=>u.slot b o e n hb (by simp)) (λb o _ e n=>u.free b o e n (by simp)) (λb o _ e=>u.there b o e (by simp)) u.tups u.frzs u.tbls (λm' hm=>by
  obtain⟨o',es',ep',ho',r'⟩:=hm;rw[ho] at ho';cases ho';exact⟨_,es',ep',hL,r'⟩) hok I.bare
theorem Inv.call(I:Inv X pins σ H s)(u:Un (nH X.stack) ch H H' s.heap h')(hok:iX X.prog X.w H' h')(hg:Pz g')
  (hch:∀b∈ch,(b∈X.ex∨X.s₀.heap.get? b=none)/\b≠X.env.locals/\(∀x c,X.env.cells.lookup x=some c->c≠b)/\∀p∈X.pn++pins,p.1≠b):
  Inv X pins σ H' { s with heap:=h',gens:=g',drawn:=d',toks:=t'}:=by
 obtain⟨m,⟨o,es,ep,ho,r⟩,_⟩:=id I.loc;obtain⟨sl,hL⟩:=u.any ho I.free λz=>(hch _ z).2.1 Z
 exact I.step (ch:=ch) hch (λb o hL hb hc e n=>u.keep b o e n (λz=>(LZ.mp (I.stkSub b z)).elim hL hb) hc) (λb o _ _ hc e n=>u.any e n hc) (λb o hc e n=>u.free b o e n hc) (λb o hc e=>u.there b o e hc) u.tups u.frzs u.tbls (λm' hm=>by
  obtain⟨o',es',ep',ho',r'⟩:=hm;rw[ho] at ho';cases ho';exact⟨_,es',ep',hL,r'⟩) hok hg
theorem Inv.turned(I:Inv X pins σ H s)(k:∀b o,b≠it->s.heap.get? b=some o->h'.get? b=some o)(hn:H it=none)(hL:it≠X.env.locals)
  (h1:it∈X.ex∨X.s₀.heap.get? it=none) (h2:∀x c,X.env.cells.lookup x=some c->c≠it) (h3:∀p∈X.pn++pins,p.1≠it):Inv X pins σ H { s with heap:=h',toks:=t'}:=by
 have nit:∀b u,H b=some u->b≠it:=λb u e z=>by rw[z,hn] at e;cases e
 refine I.step (g':=s.gens) (d':=s.drawn) (ch:=[it]) (λb hb=>?_) (λb o _ _ hc e _=>k b o (λz=>hc (by simp[z])) e) (λb o _ _ hc e _=>⟨o.slots,k b o (λz=>hc (by simp[z])) e⟩) (λ_ _ _ _ n=>n)
  (λb o hc e=>⟨o,k b o (λz=>hc (by simp[z])) e⟩) (λ_ _ e=>e) (λ_ _ _ e=>e) (λb ps e=>⟨#[],by rw[e];simp⟩) (λm hm=>?_) (λb u e=>?_) I.bare
 ·have e:b=it:=by simpa using hb
  subst e;exact⟨h1,hL,h2,h3⟩
 ·obtain⟨o,es,ep,ho,r⟩:=hm;exact⟨o,es,ep,k _ o (NO hL) ho,r⟩
 ·refine(I.hok b u e).stay (λc v hc q=>k c v ?_ q) (λ_ q=>q) λ_ _ q=>q
  rcases hc with z|z
  ·rw[z];exact nit b u e
  ·exact nit c _ z
theorem Inv.tok(I:Inv X pins σ H s)(t:Nat):Inv X pins σ H { s with toks:=t}:=I.un (h':=s.heap) (t':=t) Un.refl I.hok
theorem Inv.kept(I:Inv X pins σ H s)(k:∀b u,s.heap.get? b=some u->h'.get? b=some u):Inv X pins σ H { s with heap:=h',toks:=t'}:=I.un (Un.kept k) (I.hok.kept k)
theorem Inv.laid{a:Addr}{o:HO}{t':Nat}(I:Inv X pins σ H s)(k:∀b u,s.heap.get? b=some u->h'.get? b=some u)(hp:s.heap.objs.size≤a)(new:ObjOk X.prog X.w (upd H a o) h' a o) :
  Inv X pins σ (upd H a o) { s with heap:=h',toks:=t'}:=I.un (Un.laid k hp (I.hok.fresh hp)) (I.hok.laid k hp new)
theorem Inv.write(I:Inv X pins σ H s)(mu:Ii (H x))(he:e=x∨H e=some (.own x))(k:∀b u,b≠e->s.heap.get? b=some u->h'.get? b=some u)(heo:∃u,h'.get? e=some u)
  (new:ObjOk X.prog X.w (upd H x o) h' x o):Inv X pins σ (upd H x o) { s with heap:=h',toks:=t'}:=I.un (Un.write mu he k heo) (I.hok.write mu he k heo new)
theorem Inv.weak(I:Inv X pins σ H s)(hl:σ'.length=σ.length)(w:∀(i:Nat) v,σ'[i]?=some (some v)->σ[i]?=some (some v)):Inv X pins σ' H s:=
 ⟨I.ok,I.os,I.bare,I.base,let ⟨m,hn,hl'⟩:=I.loc;⟨m,hn,λi x v e1 e2 e3=>hl' i x v e1 (w i v e2) e3⟩,I.cell,I.free,I.freeC,I.pin,I.hok,hl.trans I.len⟩
theorem Inv.pins_of(I:Inv X pins σ H s)(h:∀p∈pins',s.heap.get? p.1=some p.2/\H p.1=none/\p.1≠X.env.locals/\p.1∉X.fs/\∀v,p.2.data≠.cell v):Inv X pins' σ H s:=
 ⟨I.ok,I.os,I.bare,I.base,I.loc,I.cell,I.free,I.freeC,λp hp=>(Mh.mp hp).elim (λz=>I.pin p (MJ _ z)) (h p),I.hok,I.len⟩
theorem mE{N:List Mj}(hN:N.Nodup){i j:Nat}(a:N[i]?=some x)(b:N[j]?=some x):i=j:=by
 obtain⟨h1,e1⟩:=LR.mp a;obtain⟨h2,e2⟩:=LR.mp b;exact(getElem_inj hN).mp (e1.trans e2.symm)
theorem vz{M:SV}{A:Mq}{E:c5}{i:Nat}{x:Mj}{v:V}{u:Value}{Q:Unit->LV->Prop}(I:Inv X pins σ H s)(hN:X.N.Nodup)(hi:X.N[i]?=some x)(hx:wP X.env.scope x)(r:bv v u)
  (h:∀s',Inv X pins (σ.set i (some v)) H s'->(∃a,OT a s.heap s'.heap/\(a=X.env.locals∨X.env.cells.lookup x=some a))->Q () s') (hf:X.fn x=true∨X.env.scope.names.lookup x=some .local:=by first|exact .inl Z|exact .inr Z|assumption):L6 M A (TB X.env x u) Q E s:=by
 obtain⟨m,hn,hl⟩:=id I.loc;have hcls:(X.env.scope.kind==.class||(X.env.scope.kind==.module&&X.env.locals != X.env.globals))=false:=by rw[I.ok.kind];rfl
 have hiσ:i<σ.length:=by rw[I.len];exact(LR.mp hi).1
 have cne:=I.cne;have tracked:∀{a:Addr} {h':MA},(∃o,s.heap.get? a=some o/\H a=none)->OT a s.heap h'->iX X.prog X.w H h':=λ{a h'} ha hs b ob e=>by
  obtain⟨_,_,hfree⟩:=ha;refine(I.hok b ob e).stay (λc w' hc q=>(hs.2 c ?_).trans q) (λ_ q=>q) λ_ _ q=>q
  rintro rfl;rcases hc with rfl|hc
  ·rw[hfree] at e;cases e
  ·rw[hfree] at hc;cases hc
 rcases hx with hk|hk
 ·refine wpAny_storeName_local hk hn (λh' hn' hs=>?_) hcls;obtain⟨oL,_,_,hoL,_⟩:=id hn;refine h _ ⟨I.ok,I.os,I.bare,⟨λb o e n hb hx=>?_,λb o e n hb hx=>?_,I.base.free,λb o e hx=>?_,I.base.tups,I.base.frzs,I.base.tbls⟩,⟨_,hn',λj y v' e1 e2 e3=>?_⟩,λy c e=>?_,I.free,I.freeC,λp hp=>?_,tracked ⟨oL,hoL,I.free⟩ hs,by simpa using I.len⟩ ⟨_,hs,.inl Z⟩
  ·exact(hs.2 b (Nc (Mp (Mv e) I.ok.above))).trans (I.base.keep b o e n hb hx)
  ·obtain⟨sl,e1⟩:=I.base.slot b o e n hb hx;exact⟨sl,(hs.2 b (Nc (Mp (Mv e) I.ok.above))).trans e1⟩
  ·obtain⟨o',e1⟩:=I.base.there b o e hx;exact⟨o',(hs.2 b (Nc (Mp (Mv e) I.ok.above))).trans e1⟩
  ·by_cases hj:j=i
   ·subst hj;rw[hi] at e1;cases e1;rw[OI hiσ] at e2
    cases e2
    exact⟨u,r,.inl ⟨hk,by simp⟩⟩
   ·rw[NL (NO hj)] at e2;obtain⟨u',r',q⟩:=hl j y v' e1 e2 e3;refine⟨u',r',?_⟩;rcases q with⟨k,e⟩ | ⟨k,c,e,z⟩
    ·refine .inl ⟨k,?_⟩;have:y≠x:=λe=>hj (mE hN e1 (e▸hi))
     simp[this,e]
    ·exact .inr ⟨k,c,e,z.sameBut hs (cne y c e)⟩
  ·obtain⟨w',z⟩:=I.cell y c e;exact⟨w',z.sameBut hs (cne y c e)⟩
  ·obtain⟨e,n,ne,nf,d⟩:=I.pin p hp;exact⟨(hs.2 p.1 ne).trans e,n,ne,nf,d⟩
 ·have hfn:X.fn x=true:=by
   rcases hf with z|z
   ·exact z
   ·rw[z] at hk;cases hk
  obtain⟨c,hc⟩:=I.ok.has x (.inl hk);obtain⟨w',z⟩:=I.cell x c hc;refine wpAny_storeName_cell I.ok.kind hk hc z (λh' hc' hs=>?_);obtain⟨oc,hoc,hocd⟩:=id z;refine h { s with heap:=h'} ⟨I.ok,I.os,I.bare,⟨λb o e n hb hx=>?_,λb o e n hb hx=>?_,I.base.free,λb o e hx=>?_,I.base.tups,I.base.frzs,I.base.tbls⟩,⟨m,hn.sameBut hs (NO (cne x c hc)),λj y v' e1 e2 e3=>?_⟩,λy c' e=>?_,I.free,I.freeC,λp hp=>?_,tracked ⟨oc,hoc,I.freeC x c hc⟩ hs,by simpa using I.len⟩ ⟨c,hs,.inr hc⟩
  ·exact(hs.2 b (Nc (Mp (Mv e) (I.ok.cab x c hfn hc)))).trans (I.base.keep b o e n hb hx)
  ·obtain⟨sl,e1⟩:=I.base.slot b o e n hb hx;exact⟨sl,(hs.2 b (Nc (Mp (Mv e) (I.ok.cab x c hfn hc)))).trans e1⟩
  ·obtain⟨o',e1⟩:=I.base.there b o e hx;exact⟨o',(hs.2 b (Nc (Mp (Mv e) (I.ok.cab x c hfn hc)))).trans e1⟩
  ·by_cases hj:j=i
   ·subst hj;rw[hi] at e1;cases e1;rw[OI hiσ] at e2
    cases e2
    exact⟨u,r,.inr ⟨.inl hk,c,hc,hc'⟩⟩
   ·rw[NL (NO hj)] at e2;obtain⟨u',r',q⟩:=hl j y v' e1 e2 e3;refine⟨u',r',?_⟩;rcases q with q | ⟨k,c',e,z'⟩
    ·exact .inl q
    ·refine .inr ⟨k,c',e,z'.sameBut hs ?_⟩;rintro rfl;exact hj (mE hN e1 (I.ok.inj _ _ _ e hc▸hi))
  ·by_cases hcc:c'=c
   ·subst hcc;exact⟨_,hc'⟩
   ·obtain⟨w2,z2⟩:=I.cell y c' e;exact⟨w2,z2.sameBut hs hcc⟩
  ·obtain⟨e,n,ne,nf,d⟩:=I.pin p hp;refine⟨(hs.2 p.1 ?_).trans e,n,ne,nf,d⟩;intro q;rw[q,hoc] at e;have q':oc=p.2:=MB e;exact d w' (by rw[←q'];exact hocd)
theorem eV{M:SV}{A:Mq}{E:c5}{i:Nat}{x:Mj}{v:V}{u:Value}{Q:Unit->LV->Prop}(I:Inv X pins σ H s)(hN:X.N.Nodup)(hi:X.N[i]?=some x)(hx:wP X.env.scope x)(r:bv v u)
  (h:∀s',Inv X pins (σ.set i (some v)) H s'->Q () s') (hf:X.fn x=true∨X.env.scope.names.lookup x=some .local:=by first|exact .inl Z|exact .inr Z|assumption):L6 M A (TB X.env x u) Q E s:=
 vz I hN hi hx r (λs' I' _=>h s' I') hf
theorem Inv.call'(I:Inv X pins σ H s)(ho:s'.os=s.os)(u:Un (nH X.stack) ch H H' s.heap s'.heap)(hok:iX X.prog X.w H' s'.heap)(hg:Pz s'.gens)
  (hch:∀b∈ch,(b∈X.ex∨X.s₀.heap.get? b=none)/\b≠X.env.locals/\(∀x c,X.env.cells.lookup x=some c->c≠b)/\∀p∈X.pn++pins,p.1≠b):Inv X pins σ H' s':=by
 obtain⟨h',g',d',t',o'⟩:=s';have e:o'=s.os:=ho;subst e;exact I.call (g':=g') (t':=t') (d':=d') u hok hg hch
end
abbrev XK:=Value->Option Addr->Hp->Prop
abbrev St:=List (Option V)
abbrev VK:=V->Hp->Prop
abbrev TE:=St->Hp->VK->Prop
abbrev TT:=St->Hp->(Bool->Hp->Prop)->Prop
abbrev TA:=St->Hp->(List V->Hp->Prop)->Prop
structure iN where
 nx:St->Hp->Prop
 rt:VK
 bk:St->Hp->Prop:=λ_ _=>False
 ct:St->Hp->Prop:=λ_ _=>False
abbrev TS:=iN->St->Hp->Prop
def EP(X:Cx)(pins:cy)(σ:St)(Q:VK)(u:Value)(s':LV):Prop:=∃v H',Inv X pins σ H' s'/\bv v u/\Q v H'
def TP(X:Cx)(pins:cy)(σ:St)(Q:Bool->Hp->Prop)(b:Bool)(s':LV):Prop:=∃H',Inv X pins σ H' s'/\Q b H'
def AP(X:Cx)(pins:cy)(σ:St)(Q:List V->Hp->Prop)(us:List Value)(s':LV):Prop:=∃vs H',Inv X pins σ H' s'/\bj vs us/\Q vs H'
def SP(X:Cx)(pins:cy)(D:iN)(f:Flow)(s':LV):Prop:=
 match f with
 | .next=>∃σ' H',Inv X pins σ' H' s'/\D.nx σ' H'
 | .brk=>∃σ' H',Inv X pins σ' H' s'/\D.bk σ' H'
 | .cont=>∃σ' H',Inv X pins σ' H' s'/\D.ct σ' H'
 | .ret u=>∃v σ' H',Inv X pins σ' H' s'/\bv v u/\D.rt v H'
def PE(X:Cx)(e:Mu)(t:TE):Prop:=
 ∀(pins:cy) (s:LV) (σ:St) (H:Hp) (Q:VK),Inv X pins σ H s->t σ H Q->L6 (Ma X.prog X.w) X.A (eval e X.env) (EP X pins σ Q) X.xe s
def PT(X:Cx)(e:Mu)(t:TT):Prop:=
 ∀(pins:cy) (s:LV) (σ:St) (H:Hp) (Q:Bool->Hp->Prop),Inv X pins σ H s->t σ H Q->L6 (Ma X.prog X.w) X.A (isTrue e X.env (eval e X.env)) (TP X pins σ Q) X.xe s
def PW(X:Cx)(e:Mu)(t:TT):Prop:=
 ∀(whole:Sem Value) (pins:cy) (s:LV) (σ:St) (H:Hp) (Q:Bool->Hp->Prop),Inv X pins σ H s->t σ H Q->L6 (Ma X.prog X.w) X.A (isTrue e X.env whole) (TP X pins σ Q) X.xe s
theorem PW.pt(h:PW X e t):PT X e t:=h _
def PA(X:Cx)(es:List Mu)(t:TA):Prop:=
 ∀(pos:Oo) (pins:cy) (s:LV) (σ:St) (H:Hp) (Q:List V->Hp->Prop),Inv X pins σ H s->t σ H Q->L6 (Ma X.prog X.w) X.A (spliced (Ol pos (L4 es X.env))) (AP X pins σ Q) X.xe s
def PS(X:Cx)(st:Stmt)(t:TS):Prop:=
 ∀(pins:cy) (s:LV) (σ:St) (H:Hp) (D:iN),Inv X pins σ H s->t D σ H->L6 (Ma X.prog X.w) X.A (exec st X.env) (SP X pins D) X.xe s
def oP(X:Cx)(st:List Stmt)(t:TS):Prop:=
 ∀(pins:cy) (s:LV) (σ:St) (H:Hp) (D:iN),Inv X pins σ H s->t D σ H->L6 (Ma X.prog X.w) X.A (execs st X.env) (SP X pins D) X.xe s
theorem cA{α:Type}{t:Sem α}{Q Q':α->LV->Prop}{M:SV}{A:Mq}{E:c5}{s:LV}(h:L6 M A t Q E s)(hQ:∀a s,Q a s->Q' a s):L6 M A t Q' E s:=Ng h hQ λ_ _ x=>x
end L2
namespace L2
open PySem PySem.Spec PyProof.Rows
section
variable {X:Cx}
def Dz(i:Nat):TE:=λσ H Q=>∃v,σ[i]?=some (some v)/\Q v H
def tC(v:V):TE:=λ_ H Q=>Q v H
theorem EG{i:Nat}{x:Mj}{pos:Oo}(hN:X.N[i]?=some x)(hv:HY X.env.scope x)(hd:(x==("__debug__" : Mj))=false:=by decide)(hcd:(x==("__classdict__" : Mj))=false:=by decide):PE X (.Name x pos) (Dz i):=by
 intro pins s σ H Q I h;obtain⟨v,e,h⟩:=h;obtain⟨m,hn,hl⟩:=I.loc;obtain⟨u,r,l⟩:=hl i x v hN e hv;have fin:EP X pins σ Q u s:=⟨v,H,I,r,h⟩;rcases l with⟨hk,hm⟩ | ⟨hk,c,hc,hcell⟩
 ·exact SW (Q1 I.ok.kind hk hn hm fin) hd
 ·rcases hk with hk|hk
  ·exact SW (Rq I.ok.kind hk hc hcell fin) hd
  ·exact SW (wpAny_loadName_free I.ok.kind hk hc hcell fin hcd) hd
theorem EM{i j pos}:PE X (.Constant (.int i) j pos) (tC (.int i)):=λ_ _ _ H _ I h=>wpAny_Constant_int ⟨.int i,H,I.tok _,⟨_,Z⟩,h⟩
theorem He{b j pos}:PE X (.Constant (.bool b) j pos) (tC (.bl b)):=λ_ _ _ H _ I h=>Constant_bool ⟨.bl b,H,I,Z,h⟩
theorem EK{j pos}:PE X (.Constant .none j pos) (tC .non):=λ_ _ _ H _ I h=>Constant_none ⟨.non,H,I,Z,h⟩
def Gl(X:Cx)(x:Mj):Prop:=X.env.kindOf x=some .globalImplicit
theorem iB{E:c5}{pins:cy}{s:LV}{σ:St}{H:Hp}{x:Mj}{u:Value}{pos:Oo}{Q:c5}(I:Inv X pins σ H s)(hg:Gl X x)(hm:X.mg x=some u)(h:Q u s)
  (hd:(x==("__debug__" : Mj))=false:=by decide):L6 (Ma X.prog X.w) X.A (eval (.Name x pos) X.env) Q E s:=
 Calls.Name_function_global I.ok.kind hg (Calls.loadGlobal_global (by rw[I.ok.glob];exact I.mod.glob.keeps I.bk) hm h) hd
theorem gj{E:c5}{pins:cy}{s:LV}{σ:St}{H:Hp}{x:Mj}{u:Value}{pos:Oo}{Q:c5}(I:Inv X pins σ H s)(hg:Gl X x)(hm:X.mg x=none)(hv:NG x=some u)(h:Q u s)
  (hn:x ≠ "__name__" := by decide) (hd:(x==("__debug__" : Mj))=false:=by decide):L6 (Ma X.prog X.w) X.A (eval (.Name x pos) X.env) Q E s:=by
 obtain⟨mb,h1,h2⟩:=I.mod.blt;exact Calls.Name_function_global I.ok.kind hg (Calls.loadGlobal_builtin (by rw[I.ok.glob];exact I.mod.glob.keeps I.bk) hm (by rw[I.ok.blt];exact h1.keeps I.bk) ((h2 x hn).trans hv) h) hd
theorem B2{x:Mj}{v:V}{u:Value}{pos:Oo}(hg:Gl X x)(hm:X.mg x=some u)(r:bv v u)(hd:(x==("__debug__" : Mj))=false:=by decide):PE X (.Name x pos) (tC v):=
 λ_ _ _ H _ I h=>iB I hg hm ⟨v,H,I,r,h⟩ hd
theorem B6{x:Mj}{v:V}{u:Value}{pos:Oo}(hg:Gl X x)(hm:X.mg x=none)(hv:NG x=some u)(r:bv v u)(hn:x ≠ "__name__" := by decide)(hd:(x==("__debug__" : Mj))=false:=by decide):PE X (.Name x pos) (tC v):=
 λ_ _ _ H _ I h=>gj I hg hm hv ⟨v,H,I,r,h⟩ hn hd
def Iu(ta tb:TE)(k:Int->Int->Hp->Prop):St->Hp->Prop:=λσ H=>ta σ H λx H1=>tb σ H1 λy H2=>∃i j,x=.int i/\y=.int j/\k i j H2
def KJ(ta tb:TE):TE:=λσ H Q=>Iu ta tb (λi j H2=>Q (.int (i+j)) H2) σ H
def Ky(ta tb:TE):TE:=λσ H Q=>Iu ta tb (λi j H2=>Q (.int (i-j)) H2) σ H
def KC(ta tb:TE):TE:=λσ H Q=>Iu ta tb (λi j H2=>(-(2^64)<i/\i<2^64)/\Q (.int (i*j)) H2) σ H
variable {a b:Mu}{ta tb:TE}{pos:Oo}
def PC(X:Cx)(op:SX)(a b:Mu)(t:TE):Prop:=
 ∀(pins:cy) (s:LV) (σ:St) (H:Hp) (Q:VK),Inv X pins σ H s->t σ H Q→
  L6 (Ma X.prog X.w) X.A (eval a X.env) (λv s₁=>L6 (Ma X.prog X.w) X.A (eval b X.env) (λu s₂=>L6 (Ma X.prog X.w) X.A (ML op v u) (EP X pins σ Q) X.xe s₂) X.xe s₁) X.xe s
def vy(p:Int->Int->Bool)(ta tb:TE):TE:=λσ H Q=>Iu ta tb (λi j H2=>Q (.bl (p i j)) H2) σ H
abbrev Lv:TE->TE->TE:=vy λi j=>decide (i<j)
abbrev Lw:TE->TE->TE:=vy λi j=>decide (i≤j)
abbrev Lx:TE->TE->TE:=vy λi j=>decide (j<i)
abbrev Lz:TE->TE->TE:=vy λi j=>decide (j≤i)
abbrev KG:TE->TE->TE:=vy λi j=>decide (i=j)
abbrev KB:TE->TE->TE:=vy λi j=>!decide (i=j)
def KD(ta:TE):TE:=λσ H Q=>ta σ H λx H1=>Q (.bl (decide (x=.non))) H1
def JQ(ta:TE):TE:=λσ H Q=>ta σ H λx H1=>Q (.bl (!decide (x=.non))) H1
def tB(t:TE):TT:=λσ H Q=>t σ H λx H1=>∃c,x=.bl c/\Q c H1
theorem Ew{e:Mu}{t:TE}(h:PE X e t)(he:∀whole,isTrue e X.env whole=(do let v ←whole;TL e.pos;holding [v] (truthy v)):=by intro _;rfl):PT X e (tB t):=by
 intro pins s σ H Q I hw;refine isTrue_plain (cA (h pins s σ H _ I hw) λv s1 ⟨x,H1,I1,r1,q1⟩=>?_) (he _);obtain⟨d,rfl,q⟩:=q1
 cases r1
 exact Nk ⟨H1,I1,q⟩
variable {tA tB':TT}{cV:List Mu}
def GO(t u:TT):TT:=λσ H Q=>t σ H λc H1=>if c=true then u σ H1 Q else Q false H1
def JP(t u:TT):TT:=λσ H Q=>t σ H λc H1=>if c=true then Q true H1 else u σ H1 Q
def GG(t:TT):TT:=λσ H Q=>t σ H λc H1=>Q (!c) H1
theorem BF(ha:PT X a tA):PW X (.BoolOp .And [a] pos) tA:=by
 intro wh pins s σ H Q I h;refine isTrue_and (cA (ha pins s σ H Q I h) λc s1 e=>?_)
 cases c with
 |true=>exact isTrue_and_nil e
 |false=>exact e
theorem Et(ha:PT X a tA):PW X (.BoolOp .Or [a] pos) tA:=by
 intro wh pins s σ H Q I h;refine isTrue_or (cA (ha pins s σ H Q I h) λc s1 e=>?_)
 cases c with
 |false=>exact isTrue_or_nil e
 |true=>exact e
theorem Eu(ha:PT X a tA)(hb:PW X (.BoolOp .And (b::cV) pos) tB'):PW X (.BoolOp .And (a::b::cV) pos) (GO tA tB'):=by
 intro wh pins s σ H Q I h;refine isTrue_and (cA (ha pins s σ H _ I h) λc s1 ⟨H1,I1,q1⟩=>?_)
 cases c with
 |true=>exact hb wh pins s1 σ H1 Q I1 q1
 |false=>exact⟨H1,I1,q1⟩
theorem G4(ha:PT X a tA)(hb:PW X (.BoolOp .Or (b::cV) pos) tB'):PW X (.BoolOp .Or (a::b::cV) pos) (JP tA tB'):=by
 intro wh pins s σ H Q I h;refine isTrue_or (cA (ha pins s σ H _ I h) λc s1 ⟨H1,I1,q1⟩=>?_)
 cases c with
 |true=>exact⟨H1,I1,q1⟩
 |false=>exact hb wh pins s1 σ H1 Q I1 q1
theorem Ex(ha:PT X a tA):PT X (.UnaryOp .Not a pos) (GG tA):=by
 intro pins s σ H Q I h;exact isTrue_not (ha pins s σ H (λc H1=>Q (!c) H1) I h)
def C4(ta tb:TE):TE:=λσ H Q=>ta σ H λx H1=>∃c,x=.bl c/\if c=true then tb σ H1 Q else Q (.bl false) H1
def KA(ta tb:TE):TE:=λσ H Q=>ta σ H λx H1=>∃c,x=.bl c/\if c=true then Q (.bl true) H1 else tb σ H1 Q
def CY(ta:TE):TE:=λσ H Q=>ta σ H λx H1=>∃c,x=.bl c/\Q (.bl (!c)) H1
theorem EI{op}(h:PE X a t):PE X (.BoolOp op [a] pos) t:=λpins s σ H Q I hw=>BoolOp_one (h pins s σ H Q I hw)
theorem EO(ha:PE X a ta)(hb:PE X (.BoolOp .And (b::cV) pos) tb):PE X (.BoolOp .And (a::b::cV) pos) (C4 ta tb):=by
 intro pins s σ H Q I h;refine BoolOp_and (cA (ha pins s σ H _ I h) λv s1 ⟨x,H1,I1,r1,q1⟩=>?_);obtain⟨c,rfl,q1⟩:=q1
 cases r1
 refine Nk ?_
 cases c with
 |true=>exact hb pins s1 σ H1 Q I1 q1
 |false=>exact⟨.bl false,H1,I1,Z,q1⟩
theorem EJ(ha:PE X a ta):PE X (.UnaryOp .Not a pos) (CY ta):=by
 intro pins s σ H Q I h;refine UnaryOp_ (cA (ha pins s σ H _ I h) λv s1 ⟨x,H1,I1,r1,q1⟩=>?_);obtain⟨c,rfl,q1⟩:=q1
 cases r1
 exact not_of (Nk ⟨.bl (!c),H1,I1,Z,q1⟩)
def JT(t:TT)(ta tb:TE):TE:=λσ H Q=>t σ H λc H1=>if c=true then ta σ H1 Q else tb σ H1 Q
theorem zO(hc:PT X c tA)(ha:PE X a ta)(hb:PE X b tb):PE X (.IfExp c a b pos) (JT tA ta tb):=by
 intro pins s σ H Q I h;refine wpAny_IfExp (cA (hc pins s σ H _ I h) λd s1 ⟨H1,I1,q1⟩=>?_)
 cases d with
 |true=>exact ha pins s1 σ H1 Q I1 q1
 |false=>exact hb pins s1 σ H1 Q I1 q1
end
end L2
namespace L2
open PySem PySem.Spec PyProof.Rows
def aS(K:Fg)(H:Hp)(a:Addr)(xs:List V):Prop:=
 Rd H a (.lst xs)∨
  ∃(o:Obj) (its:Array Value) (n:Nat),K.lookup a=some o/\o.cls=.type "list"/\o.dict=none/\o.data=.seq its n/\its.size≤sizeLine/\bj xs its.toList
def bH(K:Fg)(H:Hp)(a:Addr)(xs:List V):Prop:=
 Rd H a (.tup xs)∨
  ∃(o:Obj) (its:Array Value) (n:Nat),K.lookup a=some o/\o.cls=.type "tuple"/\o.data=.seq its n/\its.size≤sizeLine/\bj xs its.toList
def Js:Value->Option V
 | .none=>some .non
 | .bool b=>some (.bl b)
 | .int i _=>some (.int i)
 | .str x _=>some (.str x)
 | .bytes b _=>some (.byt b)
 | .float b _=>some (.flt b)
 | .ref a=>some (.ref a)
 | .type n=>some (.ty n)
 |_=>none
theorem bv.abs(r:bv x u):Js u=some x:=by
 cases x with
 |non=>cases r;rfl
 |bl _=>cases r;rfl
 |int _=>obtain⟨t,rfl⟩:=r;rfl
 |str _=>obtain⟨t,rfl⟩:=r;rfl
 |byt _=>obtain⟨t,rfl⟩:=r;rfl
 |flt _=>obtain⟨t,rfl⟩:=r;rfl
 |ref _=>cases r;rfl
 |ty _=>cases r;rfl
theorem bv.inj(r:bv x u)(q:bv y u):x=y:=MB (r.abs.symm.trans q.abs)
theorem bj.inj:∀{xs ys:List V} {us:List Value},bj xs us->bj ys us->xs=ys
 |_,_,_,.nil,.nil=>rfl
 |_,_,_,.cons r t,.cons r' t'=>by rw[r.inj r',bj.inj t t']
section
variable {X:Cx}{pins:cy}{σ:St}{H:Hp}{s:LV}{a:Addr}{xs ys:List V}
theorem aS.of{K:Fg}(h:H a=some (.lst xs)):aS K H a xs:=.inl (.inl h)
theorem bH.of{K:Fg}(h:H a=some (.tup xs)):bH K H a xs:=.inl (.inl h)
theorem Inv.list(I:Inv X pins σ H s)(h:aS X.K H a xs):∃its:List Value,bj xs its/\PlainL s.heap a its.toArray/\xs.length≤sizeLine:=by
 rcases h with h | ⟨o,its,n,hk,hc,hd,hs,hz,r⟩
 ·obtain⟨z,its,n,r,e⟩:=h.ok I.hok;exact⟨its,r,⟨_,n,e,Z,Z,Z⟩,z⟩
 ·refine⟨its.toList,r,⟨o,n,I.kIn a o hk,hc,hd,by simpa using hs⟩,?_⟩;have e:=r.length;simp only[NU] at e;omega
theorem Inv.tuple(I:Inv X pins σ H s)(h:bH X.K H a xs):∃its:List Value,bj xs its/\R1 s.heap a its.toArray/\xs.length≤sizeLine:=by
 rcases h with h | ⟨o,its,n,hk,hc,hs,hz,r⟩
 ·obtain⟨z,its,r,p⟩:=h.ok I.hok;exact⟨its,r,p,z⟩
 ·refine⟨its.toList,r,⟨o,I.kIn a o hk,hc,n,by simpa using hs⟩,?_⟩;have e:=r.length;simp only[NU] at e;omega
theorem Inv.list_inj(I:Inv X pins σ H s)(h:aS X.K H a xs)(h':aS X.K H a ys):xs=ys:=by
 obtain⟨its,r,⟨o,n,e,_,_,d⟩,_⟩:=I.list h;obtain⟨its',r',⟨o',n',e',_,_,d'⟩,_⟩:=I.list h';rw[e] at e';cases e';rw[d] at d';injection d' with d1 _;have:its=its':=by simpa using congrArg toList d1
 subst this;exact r.inj r'
theorem Inv.tuple_inj(I:Inv X pins σ H s)(h:bH X.K H a xs)(h':bH X.K H a ys):xs=ys:=by
 obtain⟨its,r,⟨o,e,_,n,d⟩,_⟩:=I.tuple h;obtain⟨its',r',⟨o',e',_,n',d'⟩,_⟩:=I.tuple h';rw[e] at e';cases e';rw[d] at d';injection d' with d1 _;have:its=its':=by simpa using congrArg toList d1
 subst this;exact r.inj r'
end
abbrev Cx.wish(X:Cx)(E:c5):Cx:={ X with xe:=E}
abbrev Cx.nox(X:Cx):Cx:=X.wish λ_ _=>False
theorem Cx.Ok.wish{X:Cx}(ok:X.Ok)(E:c5):(X.wish E).Ok:=
 ⟨ok.mod,ok.kind,ok.glob,ok.blt,ok.above,ok.inj,ok.has,ok.cab,ok.hd,ok.frames,ok.stk,ok.exf,ok.bs,ok.bsz,ok.noex,ok.exfs,ok.funs,ok.frf⟩
theorem Cx.Ok.unwish{X:Cx}(ok:(X.wish E).Ok):X.Ok:=
 ⟨ok.mod,ok.kind,ok.glob,ok.blt,ok.above,ok.inj,ok.has,ok.cab,ok.hd,ok.frames,ok.stk,ok.exf,ok.bs,ok.bsz,ok.noex,ok.exfs,ok.funs,ok.frf⟩
section
variable {X:Cx}{pins:cy}{σ:St}{H:Hp}{s:LV}{E:c5}
theorem Inv.wish(I:Inv X pins σ H s)(E:c5):Inv (X.wish E) pins σ H s:=⟨I.ok.wish E,I.os,I.bare,I.base,I.loc,I.cell,I.free,I.freeC,I.pin,I.hok,I.len⟩
theorem Inv.unwish(I:Inv (X.wish E) pins σ H s):Inv X pins σ H s:=⟨I.ok.unwish,I.os,I.bare,I.base,I.loc,I.cell,I.free,I.freeC,I.pin,I.hok,I.len⟩
theorem SP.unwish(h:SP (X.wish E) pins D f s'):SP X pins D f s':=by
 cases f with
 |next=>obtain⟨σ',H',I,q⟩:=h;exact⟨σ',H',I.unwish,q⟩
 |brk=>obtain⟨σ',H',I,q⟩:=h;exact⟨σ',H',I.unwish,q⟩
 |cont=>obtain⟨σ',H',I,q⟩:=h;exact⟨σ',H',I.unwish,q⟩
 |ret u=>obtain⟨v,σ',H',I,r,q⟩:=h;exact⟨v,σ',H',I.unwish,r,q⟩
theorem oP.nox{st:List Stmt}(h:oP X.nox st t):oP X st t:=λpins s σ H D I hw=>
 Ng (h pins s σ H D (I.wish _) hw) (λ_ _ q=>q.unwish) λ_ _ z=>MY z
end
section
variable {X:Cx}{st:Stmt}{cV:List Stmt}{t u:TS}{e:Mu}{te:TE}{pos:Oo}
def CZ:TS:=λD σ H=>D.nx σ H
def DA(t u:TS):TS:=λD σ H=>t { D with nx:=u D} σ H
theorem BK:oP X [] CZ:=λ_ _ σ H _ I h=>O6 ⟨σ,H,I,h⟩
theorem zn(h1:PS X st t)(h2:oP X cV u):oP X (st::cV) (DA t u):=by
 intro pins s σ H D I h;refine Sm (cA (h1 pins s σ H { D with nx:=u D} I h) λf s1 q=>?_)
 cases f with
 |next=>
  obtain⟨σ',H',I',q⟩:=q;exact h2 pins s1 σ' H' D I' q
 |ret v=>exact q
 |brk=>exact q
 |cont=>exact q
theorem BJ(h1:PS X st t):oP X [st] t:=by
 intro pins s σ H D I h;refine Sm (cA (h1 pins s σ H D I h) λf s1 q=>?_)
 cases f with
 |next=>exact O6 q
 |ret v=>exact q
 |brk=>exact q
 |cont=>exact q
def IZ:TS:=λD σ H=>D.bk σ H
def C2:TS:=λD σ H=>D.ct σ H
theorem rj:PS X (.Continue pos) C2:=λ_ _ σ H _ I h=>wpAny_Continue ⟨σ,H,I,h⟩
theorem Inv.quiet{pins:cy}{σ:St}{H:Hp}{s:LV}(I:Inv X pins σ H s):interactive X.env=false:=by simp[interactive,I.ok.kind]
def C1(te:TE):TS:=λD σ H=>te σ H λ_ H1=>D.nx σ H1
theorem BN(he:PE X e te)(hs:Od e none pos.line X.env=Nt false:=by rfl):PS X (.Expr e pos) (C1 te):=by
 intro pins s σ H D I h;exact wpAny_Expr_any (cA (he pins s σ H _ I h) λv s1 ⟨x,H1,I1,r1,q1⟩=>⟨σ,H1,I1,q1⟩) I.quiet hs
def GE(te:TE):TS:=λD σ H=>te σ H D.rt
theorem Ez(he:PE X e te):PS X (.Return (some e) pos) (GE te):=by
 intro pins s σ H D I h;exact wpAny_Return_some (cA (he pins s σ H _ I h) λv s1 ⟨x,H1,I1,r1,q1⟩=>⟨x,σ,H1,I1,r1,q1⟩)
def JO:TS:=λD _ H=>D.rt .non H
def GJ(c:TT)(t u:TS):TS:=λD σ H=>c σ H λb H1=>if b=true then t D σ H1 else u D σ H1
theorem G5(hc:PT X c tc)(ha:oP X a t)(hb:oP X b u):PS X (.If c a b pos) (GJ tc t u):=by
 intro pins s σ H D I h;refine wpAny_If (cA (hc pins s σ H _ I h) λd s1 ⟨H1,I1,q1⟩=>?_)
 cases d with
 |true=>exact ha pins s1 σ H1 D I1 q1
 |false=>exact hb pins s1 σ H1 D I1 q1
def xq:TS:=λ_ _ _=>False
theorem zr:PS X st xq:=λ_ _ _ _ _ _ h=>h.elim
end
abbrev TG:=V->St->Hp->(St->Hp->Prop)->Prop
abbrev wN:=List V->St->Hp->(St->Hp->Prop)->Prop
def PG(X:Cx)(target:Mu)(t:TG):Prop:=
 ∀(pins:cy) (s:LV) (σ:St) (H:Hp) (v:V) (u:Value) (Q:St->Hp->Prop),Inv X pins σ H s->bv v u->t v σ H Q→
  L6 (Ma X.prog X.w) X.A (Ps target X.env u) (λ_ s'=>∃σ' H',Inv X pins σ' H' s'/\Q σ' H') X.xe s
def Gy(X:Cx)(ts:List Mu)(t:wN):Prop:=
 ∀(pins:cy) (s:LV) (σ:St) (H:Hp) (vs:List V) (us:List Value) (Q:St->Hp->Prop),Inv X pins σ H s->bj vs us->t vs σ H Q→
  L6 (Ma X.prog X.w) X.A (Ry ((Nw ts X.env).map (·.2)) us) (λ_ s'=>∃σ' H',Inv X pins σ' H' s'/\Q σ' H') X.xe s
abbrev A0:=V->V->V->Hp->(Hp->Prop)->Prop
def Gh(X:Cx)(t:A0):Prop:=
 ∀(pins:cy) (s:LV) (σ:St) (H:Hp) (o i v:V) (ov iv u:Value) (Q:Hp->Prop),Inv X pins σ H s->bv o ov->bv i iv->bv v u->t o i v H Q→
  L6 (Ma X.prog X.w) X.A (TM ov iv u) (λ_ s'=>∃H',Inv X pins σ H' s'/\Q H') X.xe s
abbrev Gw:=V->V->Hp->VK->Prop
def Jx(X:Cx)(op:SY)(t:Gw):Prop:=
 ∀(pins:cy) (s:LV) (σ:St) (H:Hp) (x y:V) (v u:Value) (Q:VK),Inv X pins σ H s->bv x v->bv y u->t x y H Q→
  L6 (Ma X.prog X.w) X.A (TD op v u) (EP X pins σ Q) X.xe s
section
variable {X:Cx}{pos:Oo}
def jK(i:Nat):TG:=λv σ H Q=>Q (σ.set i (some v)) H
theorem BZ{i:Nat}{x:Mj}(hN:X.N.Nodup)(hi:X.N[i]?=some x)(hx:wP X.env.scope x)(hf:X.fn x=true∨X.env.scope.names.lookup x=some .local:=by first|exact .inl Z|exact .inr Z|assumption):PG X (.Name x pos) (jK i):=by
 intro pins s σ H v u Q I r h;exact Qa (eV I hN hi hx r (λs' I'=>⟨_,H,I',h⟩) hf)
def HM:wN:=λvs σ H Q=>vs=[]/\Q σ H
def Dj(t:TG)(u:wN):wN:=λvs σ H Q=>∃v r,vs=v::r/\t v σ H λσ' H'=>u r σ' H' Q
theorem BX:Gy X [] HM:=by
 intro pins s σ H vs us Q I r h;obtain⟨e,h⟩:=h;subst e
 cases r
 exact R3 ⟨σ,H,I,h⟩
theorem zI{e:Mu}{es:List Mu}{t:TG}{u:wN}(h1:PG X e t)(h2:Gy X es u)
  (hs:(Nw (e::es) X.env).map (·.2)=Ps e X.env::(Nw es X.env).map (·.2):=by rfl):Gy X (e::es) (Dj t u):=by
 intro pins s σ H vs us Q I r h;obtain⟨v,vr,e1,h⟩:=h;subst e1
 cases r with
 |cons r rr=>
  rw[hs];refine P0 (cA (h1 pins s σ H _ _ _ I r h) λ_ s1 ⟨σ1,H1,I1,q1⟩=>?_);exact h2 pins s1 σ1 H1 _ _ Q I1 rr q1
def Co(K:Fg)(n:Nat)(t:wN):TG:=λv σ H Q=>∃a xs,v=.ref a/\bH K H a xs/\xs.length=n/\t xs σ H Q
theorem zJ{es:List Mu}{k:Nat}{t:wN}{n:Nat}(hc:X.calm=true)(h:Gy X es t)
  (hn:(Nw es X.env).length=n:=by rfl) (hst:(Nw es X.env).findIdx? (·.1)=none:=by rfl):PG X (.Tuple es k pos) (Co X.K n t):=by
 intro pins s σ H v u Q I r hw;obtain⟨a,xs,e1,hq,hl,hw⟩:=hw;subst e1
 cases r
 obtain⟨its,rv,ht,hz⟩:=I.tuple hq;refine assign_Tuple_tuple (I.ok.hd hc) ht (by simp[hn,←hl,rv.length]) hst λh' hx=>?_
 have I1:Inv X pins σ H { s with heap:=h'}:=I.kept (t':=s.toks) λb o e=>hx b o (Nc (Mv e)) e
 exact h pins _ σ H xs _ Q I1 (by simpa using rv) hw
def HL(to ti:TE)(t:A0):TG:=λv σ H Q=>to σ H λo H1=>ti σ H1 λi H2=>t o i v H2 λH3=>Q σ H3
theorem EF{o i:Mu}{to ti:TE}{t:A0}(ho:PE X o to)(hi:PE X i ti)(hs:Gh X t)
  (ha:∀v,Ps (.Subscript o i pos) X.env v=(do
   let ov ←holding [v] (eval o X.env);let iv ←holding [v,ov] (eval i X.env)
   TL pos
   holding [v,ov,iv] (TM ov iv v)
   release [v,ov,iv] []):=by intro _;rfl):PG X (.Subscript o i pos) (HL to ti t):=by
 intro pins s σ H v u Q I r h;rw[ha];refine LM (wpAny_holding (cA (ho pins s σ H _ I h) λov s1 ⟨x,H1,I1,r1,q1⟩=>?_));refine LM (wpAny_holding (cA (hi pins s1 σ H1 _ I1 q1) λiv s2 ⟨y,H2,I2,r2,q2⟩=>?_));refine LM (OE (LM (wpAny_holding (cA (hs pins s2 σ H2 x y v ov iv u _ I2 r1 r2 r q2) λ_ s3 ⟨H3,I3,q3⟩=>?_))));exact wpAny_release ⟨σ,H3,I3,q3⟩
def oZ(te:TE)(g:TG):TS:=λD σ H=>te σ H λx H1=>g x σ H1 D.nx
theorem ED{tg e:Mu}{te:TE}{g:TG}(he:PE X e te)(hg:PG X tg g)(hs:Qj [tg] e pos.line X.env=Nt false:=by rfl)(hw:Ql [tg] e X.env=Nt none:=by rfl)
  (h1:(Nw [tg] X.env).map (·.2)=[Ps tg X.env]:=by rfl):PS X (.Assign [tg] e pos) (oZ te g):=by
 intro pins s σ H D I h;refine wpAny_Assign_stores (cA (he pins s σ H _ I h) λv s1 ⟨x,H1,I1,r1,q1⟩=>?_) hs hw;rw[h1];exact cA (hg pins s1 σ H1 x v _ I1 r1 q1) λ_ s2 q=>q
theorem Ey{i:Nat}{x:Mj}{e:Mu}{te:TE}{pos':Oo}(hN:X.N.Nodup)(hi:X.N[i]?=some x)(hx:wP X.env.scope x)(he:PE X e te)(hs:Od e (some (.Name x pos')) pos.line X.env=Nt false:=by rfl)(hf:X.fn x=true∨X.env.scope.names.lookup x=some .local:=by first|exact .inl Z|exact .inr Z|assumption) :
  PS X (.Assign [.Name x pos'] e pos) (oZ te (jK i)):=by
 intro pins s σ H D I h;refine wpAny_Assign_Name (cA (he pins s σ H _ I h) λv s1 ⟨y,H1,I1,r1,q1⟩=>?_) hs;exact eV I1 hN hi hx r1 (λs2 I2=>⟨_,H1,I2,q1⟩) hf
def GF(i j:Nat)(ta:TA):TS:=λD σ H=>ta σ H λvs H1=>∃v w,vs=[v,w]/\D.nx ((σ.set i (some v)).set j (some w)) H1
theorem EA{i j:Nat}{x y:Mj}{a b:Mu}{ta:TA}{px py pt:Oo}{kt k2 pt2}(hc:X.calm=true)(hN:X.N.Nodup)(hi:X.N[i]?=some x)(hj:X.N[j]?=some y)(hij:i≠j)
  (hx:X.env.scope.names.lookup x=some .local) (hy:X.env.scope.names.lookup y=some .local) (ha:PA X [a,b] ta)
  (hw:Ql [.Tuple [.Name x px,.Name y py] kt pt] (.Tuple [a,b] k2 pt2) X.env=Nt (some [x,y]))
  (hs:Qj [.Tuple [.Name x px,.Name y py] kt pt] (.Tuple [a,b] k2 pt2) pos.line X.env=Nt false:=by rfl) :
  PS X (.Assign [.Tuple [.Name x px,.Name y py] kt pt] (.Tuple [a,b] k2 pt2) pos) (GF i j ta):=by
 intro pins s σ H D I h;rw[exec_Assign_arm];refine LM (OE ?_);rw[hs];refine LM (L1 ?_);rw[if_neg (by decide)];refine LM (Tuple_ (cA (ha _ pins s σ H _ I h) λus s1 ⟨vs,H1,I1,r1,q1⟩=>?_));obtain⟨v,w,e1,q1⟩:=q1;subst e1;obtain⟨u1,u2,rfl,rv,rw'⟩:∃u1 u2,us=[u1,u2]/\bv v u1/\bv w u2:=by
  cases r1 with
  |cons p q=>
   cases q with
   |cons p' q'=>
    cases q'
    exact⟨_,_,Z,p,p'⟩
 refine MQ ?_ iY;have I2:Inv X pins σ H1 { s1 with heap:=s1.heap.push { cls:=.type "tuple",data:=.seq [u1,u2].toArray} }:=I1.kept (t':=s1.toks) λb o e=>LU _ e
 rw[hw];refine LM (L1 ?_);show L6 (Ma X.prog X.w) X.A (do rule "assign.swapped-stores";let items ←unpackItems (.ref s1.heap.objs.size) 2 none;Ry [λv=>R4 X.env y v,λv=>R4 X.env x v] items.reverse;Nt Sn) _ _ _;refine LM (RJ (LM (unpackItems_tuple (items:=#[u1,u2]) (I.ok.hd hc) (So s1.heap _) λh' hx'=>?_)));have I3:=I2.kept (h':=h') (t':=s1.toks) λb o e=>hx' b o (Nc (Mv e)) e
 show L6 _ _ (Ry [λv=>R4 X.env y v,λv=>R4 X.env x v] [u2,u1] >>= λ_=>Nt Sn) _ _ _;refine LM (P0 (wpAny_bindName (eV I3 hN hj (.inl hy) rw' (λs2 I4=>?_) (.inr hy))));refine P0 (wpAny_bindName (eV I4 hN hi (.inl hx) rv (λs3 I5=>R3 (L1 ?_)) (.inr hx)));rw[set_comm _ _ (NO hij)] at I5;exact⟨_,H1,I5,q1⟩
def GN(i:Nat)(te:TE)(ti:Gw):TS:=λD σ H=>∃x,σ[i]?=some (some x)/\te σ H λy H1=>ti x y H1 λz H2=>D.nx (σ.set i (some z)) H2
theorem EC{i:Nat}{x:Mj}{e:Mu}{te:TE}{op:SY}{ti:Gw}{pos':Oo}(hN:X.N.Nodup)(hi:X.N[i]?=some x)(hx:wP X.env.scope x)(he:PE X e te)(ho:Jx X op ti)(hf:X.fn x=true∨X.env.scope.names.lookup x=some .local:=by first|exact .inl Z|exact .inr Z|assumption) :
  PS X (.AugAssign (.Name x pos') op e pos) (GN i te ti):=by
 intro pins s σ H D I h;obtain⟨v,e1,h⟩:=h;obtain⟨m,hn,hl⟩:=I.loc;have vis:HY X.env.scope x:=by rcases hx with k|k;exact .inl k;exact .inr (.inl k)
 obtain⟨u,r,l⟩:=hl i x v hi e1 vis;refine wpAny_AugAssign_Name ?_;have go:L6 (Ma X.prog X.w) X.A (eval e X.env) (λw s₂=>L6 (Ma X.prog X.w) X.A (TD op u w) (λr s₃=>L6 (Ma X.prog X.w) X.A (TB X.env x r) (λ_=>SP X pins D .next) X.xe s₃) X.xe s₂) X.xe s:=by
  refine cA (he pins s σ H _ I h) λw s1 ⟨y,H1,I1,r1,q1⟩=>?_
  refine cA (ho pins s1 σ H1 v y u w _ I1 r r1 q1) λz s2 ⟨zv,H2,I2,r2,q2⟩=>?_
  exact eV I2 hN hi hx r2 (λs3 I3=>⟨_,H2,I3,q2⟩) hf
 rcases l with⟨hk,hm⟩ | ⟨hk,c,hc,hcell⟩
 ·exact Q1 I.ok.kind hk hn hm go
 ·rcases hk with hk|hk
  ·exact Rq I.ok.kind hk hc hcell go
  ·rcases hx with k|k
   ·have:X.env.scope.names.lookup x=some .free:=hk;rw[k] at this;cases this
   ·have:X.env.scope.names.lookup x=some .free:=hk;rw[k] at this;cases this
def JX(to ti te:TE)(tget:V->V->Hp->VK->Prop)(tip:Gw)(tset:A0):TS:=λD σ H=>to σ H λo H1=>ti σ H1 λi H2=>tget o i H2 λx H3=>te σ H3 λy H4=>tip x y H4 λz H5=>tset o i z H5 λH6=>D.nx σ H6
def Lg(X:Cx)(t:V->V->Hp->VK->Prop):Prop:=
 ∀(pins:cy) (s:LV) (σ:St) (H:Hp) (o i:V) (ov iv:Value) (Q:VK),Inv X pins σ H s->bv o ov->bv i iv->t o i H Q→
  L6 (Ma X.prog X.w) X.A (PN ov iv) (EP X pins σ Q) X.xe s
def K3(f:Int->Int->Int):Gw:=λx y H Q=>∃i j,x=.int i/\y=.int j/\Q (.int (f i j)) H
theorem FN:Jx X .Sub (K3 λi j=>i-j):=by
 intro pins s σ H x y v u Q I r1 r2 h;obtain⟨i,j,e1,e2,q⟩:=h;subst e1;subst e2;obtain⟨t,rfl⟩:=r1;obtain⟨t',rfl⟩:=r2;exact isub_int ⟨.int _,H,I.tok _,⟨_,Z⟩,q⟩
end
section
variable {X:Cx}{pos:Oo}
def xm(c:TT)(tb:TS):TS:=λD σ H=>∃W:Nat->St->Hp->Prop,(∃m,W m σ H)/\∀m σ H,W m σ H→
 c σ H λb H1=>if b=true then ∃N:St->Hp->Prop,(∀σ' H',N σ' H'->∃m',m'<m/\W m' σ' H')/\tb { D with nx:=N,ct:=N,bk:=D.nx} σ H1 else D.nx σ H1
theorem zo(hp:Mr (Ma X.prog X.w) X.A X.env X.xe)(hc:PT X c tc)(hb:oP X body tb):PS X (.While c body [] pos) (xm tc tb):=by
 intro pins s σ H D I h;obtain⟨W,⟨m0,w0⟩,turn⟩:=h;refine wpAny_While (codeAny_whileLoop (λn s'=>∃σ' H',Inv X pins σ' H' s'/\W n σ' H') ?_ m0 ⟨σ,H,I,w0⟩);rintro n s1 ⟨σ1,H1,I1,w1⟩;refine Oe hp (cA (hc pins s1 σ1 H1 _ I1 (turn n σ1 H1 w1)) λb s2 ⟨H2,I2,q2⟩=>?_)
 cases b with
 |true=>
  obtain⟨N,hN,q2⟩:=q2;rw[if_pos Z];refine Oe hp (cA (hb pins s2 σ1 H2 _ I2 q2) λf s3 q3=>?_)
  cases f with
  |next=>
   obtain⟨σ3,H3,I3,n3⟩:=q3;obtain⟨m',hm,w3⟩:=hN σ3 H3 n3;exact⟨m',hm,σ3,H3,I3,w3⟩
  |cont=>
   obtain⟨σ3,H3,I3,n3⟩:=q3;obtain⟨m',hm,w3⟩:=hN σ3 H3 n3;exact⟨m',hm,σ3,H3,I3,w3⟩
  |brk=>exact q3
  |ret v=>exact q3
 |false=>
  rw[if_neg L5];exact O6 ⟨σ1,H2,I2,q2⟩
end
structure It where
 go:Nat->Hp->Prop
 yld:Nat->Hp->V->Hp->Prop
 stop:Nat->Hp->Prop
def fg(X:Cx)(pins:cy)(H:Hp)(b:Addr):Prop:=
 H b=none/\b≠X.env.locals/\b∉X.fs/\(b∈X.ex∨X.s₀.heap.get? b=none)/\(∀x c,X.env.cells.lookup x=some c->c≠b)/\∀p∈X.pn++pins,p.1≠b
theorem Inv.fpOk{X:Cx}{pins:cy}{σ:St}{H H':Hp}{s:LV}{b:Addr}(I:Inv X pins σ H s)(hb:s.heap.objs.size≤b)(hn:H' b=none):fg X pins H' b:=by
 refine⟨hn,NP (Mp I.lt hb),I.nofs hb,.inr (NK (MG I.sz hb)),λx c e z=>?_,λp hp z=>?_⟩
 ·obtain⟨v,q⟩:=I.cell x c e;exact absurd (Mp q.lt (by rw[z];exact hb)) (Na _)
 ·exact absurd (Mp (Mv (I.pin p hp).1) (by rw[z];exact hb)) (Na _)
structure sg(P:Mo)(w:MD)(K:Fg)(tg:Mu)(J:It)(fp:List Addr)(it:Addr)(tn:Nat->MA->Prop):Prop where
 mem:it∈fp
 obj:∀i h,tn i h->∀b∈fp,∃o,h.get? b=some o/\∀v,o.data≠.cell v
 keep:∀i h h',tn i h->(∀b∈fp,∀o,h.get? b=some o->h'.get? b=some o)->tn i h'
 item:∀(X:Cx),X.prog=P->X.w=w->X.K=K->X.calm=true->∀(i:Nat) (pins:cy) (s:LV) (σ:St) (H:Hp) (E:c5),Inv X pins σ H s->(∀b∈fp,fg X pins H b)->tn i s.heap->J.go i H→
  L6 (Ma P w) X.A (TN (.ref it)) (λr s1=>∃u,r=some u∧
   L6 (Ma P w) X.A (PH tg (.ref it) u) (λ_ s2=>∃x H',Inv X pins σ H' s2/\bv x u/\J.yld i H x H'/\tn (i+1) s2.heap/\∀b∈fp,H' b=none) E s1) E s
 done:∀(X:Cx),X.prog=P->X.w=w->X.K=K->X.calm=true->∀(i:Nat) (pins:cy) (s:LV) (σ:St) (H:Hp) (E:c5),Inv X pins σ H s->(∀b∈fp,fg X pins H b)->tn i s.heap->J.stop i H→
  L6 (Ma P w) X.A (TN (.ref it)) (λr s1=>r=none/\Inv X pins σ H s1) E s
 self:∀(A:Mq) (i:Nat) (s:LV) (Q:c5) (E:c5),tn i s.heap->Q (.ref it) s->L6 (Ma P w) A (TQ (.ref it)) Q E s
abbrev TI:=St->Hp->(It->Hp->Prop)->Prop
def Km(X:Cx)(pins:cy)(σ:St)(tg:Mu)(R:It->Hp->Prop)(itv:Value)(s2:LV):Prop:=
 ∃(it:Addr) (fp:List Addr) (tn:Nat->MA->Prop) (J:It) (H':Hp),itv=.ref it/\Inv X pins σ H' s2/\sg X.prog X.w X.K tg J fp it tn/\tn 0 s2.heap/\(∀b∈fp,fg X pins H' b)/\R J H'
def PI(X:Cx)(tg iter:Mu)(wi:TI):Prop:=
 ∀(pins:cy) (s:LV) (σ:St) (H:Hp) (R:It->Hp->Prop),Inv X pins σ H s->wi σ H R→
  L6 (Ma X.prog X.w) X.A (eval iter X.env) (λv s1=>L6 (Ma X.prog X.w) X.A (TQ v) (Km X pins σ tg R) X.xe s1) X.xe s
theorem uW{M:SV}{A:Mq}{E:c5}{s:LV}{tg:Mu}{it:Addr}{u:Value}{o:Obj}{n:String}{vs:Array Value}{Q:Unit->LV->Prop}(ho:s.heap.get? it=some o)(hc:o.cls=.type n)(hd:o.data=.fields vs)
  (hn:["enumerate","zip","dict_itemiterator","dict_reverseitemiterator","odict_iterator","itertools.zip_longest","itertools.pairwise"].contains n=false) (hQ:Q () s):L6 M A (PH tg (.ref it) u) Q E s:=by
 unfold PH
 cases tg<;>first
  |exact L1 hQ
  | (cases u<;>first
    |exact L1 hQ
    | (refine LM (SZ ho ?_)
       rw[hc,hd];show L6 M A (if(["enumerate","zip","dict_itemiterator","dict_reverseitemiterator","odict_iterator","itertools.zip_longest","itertools.pairwise"].contains n&&vs[0]?==some (rawInt _))=true then _ else _) Q E s;rw[if_neg (by intro h;rw[hn,NY] at h;cases h)];exact L1 hQ))
def Gm(K:Fg)(a:Addr):It:=
 ⟨λi H=>∃xs x,aS K H a xs/\xs[i]?=some x,λi H x H'=>H'=H/\∀xs,aS K H a xs->xs[i]?=some x,λi H=>∃xs,aS K H a xs/\xs.length≤i⟩
def A3(K:Fg)(a:Addr):It:=
 ⟨λi H=>∃xs x,bH K H a xs/\xs[i]?=some x,λi H x H'=>H'=H/\∀xs,bH K H a xs->xs[i]?=some x,λi H=>∃xs,bH K H a xs/\xs.length≤i⟩
def CO(lo:Int)(n:Nat):It:=⟨λi _=>i<n,λi H x H'=>H'=H/\x=.int (lo+i),λi _=>n≤i⟩
theorem nP{P:Mo}{w:MD}{K:Fg}{tg:Mu}(a it:Addr):sg P w K tg (Gm K a) [it] it (λi h=>h.IsListIter it a i) where
 mem:=by simp
 obj:=λi h st b hb=>by
  have e:b=it:=by simpa using hb
  subst e;obtain⟨o,e,c,d⟩:=st;exact⟨o,e,λv z=>by rw[d] at z;cases z⟩
 keep:=λi h h' st k=>st.at λo e=>k it (by simp) o e
 item:=by
  intro X hP hw hK hc i pins s σ H E I hf st hg;subst hP hw hK;obtain⟨xs,x,hq,hx⟩:=hg;obtain⟨its,rv,p,hz⟩:=I.list hq;obtain⟨u,hu,ru⟩:=rv.get hx;obtain⟨f0,f1,f2,f3,f4,f5⟩:=hf it (by simp);refine wpAny_pyNext_list_item st p.isList (x:=u) (by simpa using hu) λh' st' sb=>?_
  have I1:Inv X pins σ H { s with heap:=h'}:=I.turned (t':=s.toks) (λb o hb e=>(sb.2 b hb).trans e) f0 f1 f3 f4 f5;obtain⟨o,e,c,d⟩:=id st';exact⟨u,Z,uW (s:={ s with heap:=h'}) e c d (by decide) ⟨x,H,I1,ru,⟨rfl,λys hy=>by rw[I.list_inj hy hq];exact hx⟩,st',λb hb=>(hf b hb).1⟩⟩
 done:=by
  intro X hP hw hK hc i pins s σ H E I hf st hg;subst hP hw hK;obtain⟨xs,hq,hx⟩:=hg;obtain⟨its,rv,p,hz⟩:=I.list hq;obtain⟨f0,f1,f2,f3,f4,f5⟩:=hf it (by simp);have hl:=rv.length;exact wpAny_pyNext_list_end (I.ok.hd hc) st p.isList (by simp;omega) λh' eb=>⟨Z,I.turned (t':=s.toks) (λb o hb e=>eb b o hb e) f0 f1 f3 f4 f5⟩
 self:=λ_ _ _ _ _ st h=>wpAny_pyIter_listiter st h
theorem lH{P:Mo}{w:MD}{K:Fg}{tg:Mu}(a it:Addr):sg P w K tg (A3 K a) [it] it (λi h=>h.IsTupleIter it a i) where
 mem:=by simp
 obj:=λi h st b hb=>by
  have e:b=it:=by simpa using hb
  subst e;obtain⟨o,e,c,d⟩:=st;exact⟨o,e,λv z=>by rw[d] at z;cases z⟩
 keep:=λi h h' st k=>st.at λo e=>k it (by simp) o e
 item:=by
  intro X hP hw hK hc i pins s σ H E I hf st hg;subst hP hw hK;obtain⟨xs,x,hq,hx⟩:=hg;obtain⟨its,rv,p,hz⟩:=I.tuple hq;obtain⟨u,hu,ru⟩:=rv.get hx;obtain⟨f0,f1,f2,f3,f4,f5⟩:=hf it (by simp);refine wpAny_pyNext_tuple_item st (show s.heap.IsTuple a its.toArray from p) (x:=u) (by simpa using hu) λh' st' sb=>?_
  have I1:Inv X pins σ H { s with heap:=h'}:=I.turned (t':=s.toks) (λb o hb e=>(sb.2 b hb).trans e) f0 f1 f3 f4 f5;obtain⟨o,e,c,d⟩:=id st';exact⟨u,Z,uW (s:={ s with heap:=h'}) e c d (by decide) ⟨x,H,I1,ru,⟨rfl,λys hy=>by rw[I.tuple_inj hy hq];exact hx⟩,st',λb hb=>(hf b hb).1⟩⟩
 done:=by
  intro X hP hw hK hc i pins s σ H E I hf st hg;subst hP hw hK;obtain⟨xs,hq,hx⟩:=hg;obtain⟨its,rv,p,hz⟩:=I.tuple hq;obtain⟨f0,f1,f2,f3,f4,f5⟩:=hf it (by simp);have hl:=rv.length;exact wpAny_pyNext_tuple_end (I.ok.hd hc) st (show s.heap.IsTuple a its.toArray from p) (by simp;omega) λh' eb=>⟨Z,I.turned (t':=s.toks) (λb o hb e=>eb b o hb e) f0 f1 f3 f4 f5⟩
 self:=λ_ _ _ _ _ st h=>wpAny_pyIter_tupleiter st h
theorem sr{P:Mo}{w:MD}{K:Fg}{tg:Mu}(it:Addr)(lo:Int)(n:Nat):sg P w K tg (CO lo n) [it] it (λi h=>Q2 h it (lo+(i:Nat)*1) ((n:Int)-(i:Nat)) 1) where
 mem:=by simp
 obj:=λi h st b hb=>by
  have e:b=it:=by simpa using hb
  subst e;exact⟨_,st,λv z=>by
   have z':Qb _=Rj v:=z
   cases z'⟩
 keep:=λi h h' st k=>k it (by simp) _ st
 item:=by
  intro X hP hw hK hc i pins s σ H E I hf st hg;subst hP hw hK;obtain⟨f0,f1,f2,f3,f4,f5⟩:=hf it (by simp);have W:=Walks.range (prog:=X.prog) (w:=X.w) (I.ok.hd hc) it lo 1 n;refine W.item i s _ _ hg st λv h' tk hv st' kk=>?_
  obtain⟨t,rfl⟩:=hv;have I1:Inv X pins σ H { s with heap:=h',toks:=tk}:=I.turned (λb o hb e=>kk b o (by simpa using hb) e) f0 f1 f3 f4 f5;refine⟨_,rfl,uW (s:={ s with heap:=h',toks:=tk}) (n := "range_iterator") st' rfl rfl (by decide) ⟨.int (lo+i),H,I1,⟨t,?_⟩,⟨rfl,rfl⟩,st',λb hb=>(hf b hb).1⟩⟩;rw[mul_one]
 done:=by
  intro X hP hw hK hc i pins s σ H E I hf st hg;subst hP hw hK;obtain⟨f0,f1,f2,f3,f4,f5⟩:=hf it (by simp);exact Qy (I.ok.hd hc) st (by have:n≤i:=hg;omega) λh' eb=>⟨Z,I.turned (t':=s.toks) (λb o hb e=>eb b o hb e) f0 f1 f3 f4 f5⟩
 self:=λ_ _ _ _ _ st h=>Qz st h
end L2
namespace L2
open PySem PySem.Spec PyProof.Rows
section
variable {X:Cx}{tg:Mu}
def Ar(K:Fg)(tl:TE):TI:=λσ H R=>tl σ H λx H1=>∃a,x=.ref a/\(∃xs,aS K H1 a xs)/\R (Gm K a) H1
def Cn(K:Fg)(tl:TE):TI:=λσ H R=>tl σ H λx H1=>∃a,x=.ref a/\(∃xs,bH K H1 a xs)/\R (A3 K a) H1
theorem BV(hl:PE X l tl):PI X tg l (Ar X.K tl):=by
 intro pins s σ H R I h;refine cA (hl pins s σ H _ I h) λv s1 ⟨x,H1,I1,r1,q1⟩=>?_
 obtain⟨a,e,⟨xs,hq⟩,q⟩:=q1;subst e
 cases r1
 obtain⟨its,rv,p,hz⟩:=I1.list hq;refine Pk p.isList ?_;refine⟨s1.heap.objs.size,[s1.heap.objs.size],_,_,H1,Z,I1.kept (t':=s1.toks) λb o e=>LU _ e,nP a _,⟨_,Mm _ Z,Z,Z⟩,λb hb=>?_,q⟩;have e:b=s1.heap.objs.size:=by simpa using hb
 subst e;exact I1.fpOk (LN _) (I1.hok.fresh (LN _))
theorem zF(hl:PE X l tl):PI X tg l (Cn X.K tl):=by
 intro pins s σ H R I h;refine cA (hl pins s σ H _ I h) λv s1 ⟨x,H1,I1,r1,q1⟩=>?_
 obtain⟨a,e,⟨xs,hq⟩,q⟩:=q1;subst e
 cases r1
 obtain⟨its,rv,p,hz⟩:=I1.tuple hq;refine Ow (show s1.heap.IsTuple a its.toArray from p) ?_;refine⟨s1.heap.objs.size,[s1.heap.objs.size],_,_,H1,Z,I1.kept (t':=s1.toks) λb o e=>LU _ e,lH a _,⟨_,Mm _ Z,Z,Z⟩,λb hb=>?_,q⟩;have e:b=s1.heap.objs.size:=by simpa using hb
 subst e;exact I1.fpOk (LN _) (I1.hok.fresh (LN _))
theorem qY{pins:cy}{σ:St}{H:Hp}{s:LV}{R:It->Hp->Prop}{E:c5}{lo hi:Int}{t u v:TX}{tk:Nat}(I:Inv X pins σ H s)(h1:-(2^62)≤lo)(h2:lo<2^62)(h3:-(2^62)≤hi)(h4:hi<2^62)
  (q:R (CO lo (hi-lo).toNat) H):L6 (Ma X.prog X.w) X.A (TQ (.ref s.heap.objs.size)) (Km X pins σ tg R) E { s with heap:=s.heap.push { cls:=.type "range",data:=.fields #[.int lo t,.int hi u,.int 1 v]},toks:=tk}:=by
 refine RK (Qc.new ..) (Sq h1 h2 h3 h4) ?_;have I1:Inv X pins σ H { s with heap:=s.heap.push { cls:=.type "range",data:=.fields #[.int lo t,.int hi u,.int 1 v]},toks:=tk}:=I.kept λb o e=>LU _ e
 refine⟨(s.heap.push { cls:=.type "range",data:=.fields #[.int lo t,.int hi u,.int 1 v]}).objs.size,[(s.heap.push { cls:=.type "range",data:=.fields #[.int lo t,.int hi u,.int 1 v]}).objs.size],_,_,H,Z,
  I1.kept (t':=tk) λb o e=>LU _ e,sr _ lo (hi-lo).toNat,?_,λb hb=>?_,q⟩
 ·have e1:lo+((0:Nat):Int)*1=lo:=by simp
  have e2:(((hi-lo).toNat:Nat):Int)-((0:Nat):Int)=Pd lo hi 1:=by rw[Rz];split<;>omega
  show Q2 _ _ (lo+((0:Nat):Int)*1) ((((hi-lo).toNat:Nat):Int)-((0:Nat):Int)) 1;rw[e1,e2];exact Mm _ Z
 ·have e:b=(s.heap.push { cls:=.type "range",data:=.fields #[.int lo t,.int hi u,.int 1 v]}).objs.size:=by simpa using hb
  subst e;exact I1.fpOk (LN _) (I1.hok.fresh (LN _))
def Dg(ta:TA):TI:=λσ H R=>ta σ H λvs H1=>∃j:Int,vs=[.int j]/\-(2^62)≤j/\j<2^62/\R (CO 0 j.toNat) H1
def Df(ta:TA):TI:=λσ H R=>ta σ H λvs H1=>∃i j:Int,vs=[.int i,.int j]/\(-(2^62)≤i/\i<2^62/\-(2^62)≤j/\j<2^62)/\R (CO i (j-i).toNat) H1
theorem vZ{a:Mu}{ta:TA}{p pos:Oo}(hg:Gl X "range")(hm:X.mg "range"=none)(ha:PA X [a] ta)(hs:L4 [a] X.env=[(false,eval a X.env)]:=by rfl):PI X tg (.Call (.Name "range" p) [a] [] pos) (Dg ta):=by
 intro pins s σ H R I h;refine TY (gj I hg hm RL (MZ (cA (ha pos pins s σ H _ I h) λus s1 ⟨vs,H1,I1,r1,q1⟩=>?_) hs Z));obtain⟨j,e,q1,q2,q⟩:=q1;subst e
 cases r1 with
 |cons r rr=>
  cases rr
  obtain⟨t,rfl⟩:=r;exact call_range_1 (qY I1 (by omega) (by omega) q1 q2 (by simpa using q))
theorem vY{a b:Mu}{ta:TA}{p pos:Oo}(hg:Gl X "range")(hm:X.mg "range"=none)(ha:PA X [a,b] ta)(hs:L4 [a,b] X.env=[(false,eval a X.env),(false,eval b X.env)]:=by rfl)(hs2:L4 [b] X.env=[(false,eval b X.env)]:=by rfl) :
  PI X tg (.Call (.Name "range" p) [a,b] [] pos) (Df ta):=by
 intro pins s σ H R I h;refine TY (gj I hg hm RL (MZ (cA (ha pos pins s σ H _ I h) λus s1 ⟨vs,H1,I1,r1,q1⟩=>?_) (by rw[hs,hs2]) (by rw[hs2];rfl)));obtain⟨i,j,e,⟨q1,q2,q3,q4⟩,q⟩:=q1;subst e
 cases r1 with
 |cons r rr=>
  cases rr with
  |cons r' rr=>
   cases rr
   obtain⟨t,rfl⟩:=r;obtain⟨t',rfl⟩:=r';exact call_range_2 (qY I1 q1 q2 q3 q4 q)
def GK(wi:TI)(g:TG)(tb:TS):TS:=λD σ H=>wi σ H λJ H1=>∃W:Nat->Nat->St->Hp->Prop,(∃m,W 0 m σ H1)/\∀i m σ H,W i m σ H→
 (J.stop i H/\D.nx σ H)∨(J.go i H/\∃N:St->Hp->Prop,(∀σ' H',N σ' H'->∃m',m'<m/\W (i+1) m' σ' H')/\∀x H',J.yld i H x H'->g x σ H' λσ2 H2=>tb { D with nx:=N,ct:=N,bk:=D.nx} σ2 H2)
def kh(fp:List Addr)(h:MA):cy:=fp.filterMap λb=>(h.get? b).map λo=>(b,o)
theorem eR(hb:b∈fp)(e:h.get? b=some o):(b,o)∈kh fp h:=O7.mpr ⟨b,hb,by rw[e];rfl⟩
theorem v9(hp:p∈kh fp h):p.1∈fp/\h.get? p.1=some p.2:=by
 obtain⟨b,hb,e⟩:=O7.mp hp
 cases q:h.get? b with
 |none=>rw[q] at e;cases e
 |some o=>
  rw[q] at e;have e':(b,o)=p:=MB e;subst e';exact⟨hb,q⟩
theorem Inv.pinned{pins:cy}{σ:St}{H:Hp}{s:LV}{fp:List Addr}(I:Inv X pins σ H s)(hf:∀b∈fp,fg X pins H b)(ho:∀b∈fp,∃o,s.heap.get? b=some o/\∀v,o.data≠.cell v):Inv X (pins++kh fp s.heap) σ H s:=
 I.pins_of λp hp=>(Mh.mp hp).elim (λz=>I.pin p (Md _ z)) λz=>by
  obtain⟨hb,e⟩:=v9 z;obtain⟨f0,f1,f2,_⟩:=hf p.1 hb;obtain⟨o,e',d⟩:=ho p.1 hb;rw[e] at e';cases e';exact⟨e,f0,f1,f2,d⟩
theorem Inv.unpinned{pins pl:cy}{σ:St}{H:Hp}{s:LV}(I:Inv X (pins++pl) σ H s):Inv X pins σ H s:=I.pins_of λp hp=>I.pin p (Md _ (MJ _ hp))
theorem EB{iter:Mu}{body:List Stmt}{wi:TI}{g:TG}{tb:TS}{pos:Oo}(hp:Mr (Ma X.prog X.w) X.A X.env X.xe)(hc:X.calm=true)(hi:PI X tg iter wi)(hg:PG X tg g)(hb:oP X body tb)
  (hs:∀x,Nl iter X.env x=Nt x:=by intro _;rfl):PS X (.For tg iter body [] pos) (GK wi g tb):=by
 intro pins s σ H D I h;refine wpAny_For (cA (hi pins s σ H _ I h) λv s1 h1=>cA h1 λitv s2 h2=>?_) hs;obtain⟨it,fp,tn,J,H2,e,I2,T,st2,f2,W,⟨m0,w0⟩,turn⟩:=h2;subst e;have stat:∀{H':Hp},(∀b∈fp,H' b=none)->∀b∈fp,fg X pins H' b:=λhn b hb=>⟨hn b hb,(f2 b hb).2⟩
 refine codeAny_forLoop_any (λn s'=>∃i σ' H',Inv X pins σ' H' s'/\tn i s'.heap/\(∀b∈fp,H' b=none)/\W i n σ' H') ?_ m0 ⟨0,σ,H2,I2,st2,λb hb=>(f2 b hb).1,w0⟩;rintro n s3 ⟨i,σ3,H3,I3,st3,fr3,w3⟩;rcases turn i n σ3 H3 w3 with⟨stop,qn⟩ | ⟨go,N,hN,step⟩
 ·refine Oe hp (cA (T.done X Z Z Z hc i pins s3 σ3 H3 X.xe I3 (stat fr3) st3 stop) λr s4 ⟨hr,I4⟩=>?_);subst hr;exact O6 ⟨σ3,H3,I4,qn⟩
 ·refine Oe hp (cA (T.item X Z Z Z hc i pins s3 σ3 H3 X.xe I3 (stat fr3) st3 go) λr s4 ⟨u,hr,h4⟩=>?_);subst hr;refine Oe hp (cA h4 λ_ s5 ⟨x,H5,I5,r5,y5,st5,fr5⟩=>?_);have I5':=I5.pinned (stat fr5) (T.obj _ _ st5);refine Oe hp (cA (hg _ s5 σ3 H5 x u _ I5' r5 (step x H5 y5)) λ_ s6 ⟨σ6,H6,I6,q6⟩=>?_);refine Oe hp (cA (hb _ s6 σ6 H6 _ I6 q6) λf s7 q7=>?_);have again:∀{σ7:St} {H7:Hp},Inv X (pins++kh fp s5.heap) σ7 H7 s7->N σ7 H7->∃m,m<n/\∃i σ' H',Inv X pins σ' H' s7/\tn i s7.heap/\(∀b∈fp,H' b=none)/\W i m σ' H':=λ{σ7 H7} I7 n7=>by
   obtain⟨m',hm,w7⟩:=hN σ7 H7 n7;refine⟨m',hm,i+1,σ7,H7,I7.unpinned,T.keep _ _ _ st5 λb hb o e=>(I7.pin (b,o) (Md _ (Md _ (eR hb e)))).1,λb hb=>?_,w7⟩;obtain⟨o,e,d⟩:=T.obj _ _ st5 b hb;exact(I7.pin (b,o) (Md _ (Md _ (eR hb e)))).2.1
  cases f with
  |next=>obtain⟨σ7,H7,I7,n7⟩:=q7;exact again I7 n7
  |cont=>obtain⟨σ7,H7,I7,n7⟩:=q7;exact again I7 n7
  |brk=>obtain⟨σ7,H7,I7,q7⟩:=q7;exact⟨σ7,H7,I7.unpinned,q7⟩
  |ret v=>obtain⟨x7,σ7,H7,I7,r7,q7⟩:=q7;exact⟨x7,σ7,H7,I7.unpinned,r7,q7⟩
end
theorem dW{K:Fg}{a:Addr}{xs:List V}{g:TG}{tb:TS}{D:iN}{σ:St}{H:Hp}(Pv:Nat->St->Hp->Prop)(h0:Pv 0 σ H)(hl:∀i σ H,i≤xs.length->Pv i σ H->aS K H a xs)
  (hs:∀i x σ H,xs[i]?=some x->Pv i σ H->g x σ H λσ2 H2=>tb { D with nx:=Pv (i+1),ct:=Pv (i+1),bk:=D.nx} σ2 H2) (hd:∀σ H,Pv xs.length σ H->D.nx σ H) :
  ∃W:Nat->Nat->St->Hp->Prop,(∃m,W 0 m σ H)/\∀i m σ H,W i m σ H→
   ((Gm K a).stop i H/\D.nx σ H)∨((Gm K a).go i H/\∃N:St->Hp->Prop,(∀σ' H',N σ' H'->∃m',m'<m/\W (i+1) m' σ' H')/\∀x H',(Gm K a).yld i H x H'->g x σ H' λσ2 H2=>tb { D with nx:=N,ct:=N,bk:=D.nx} σ2 H2):=by
 refine⟨λi m σ H=>m=xs.length-i/\i≤xs.length/\Pv i σ H,⟨xs.length,by simp,Mx _,h0⟩,?_⟩;rintro i m σ H ⟨rfl,hi,p⟩;have q:=hl i σ H hi p;by_cases hlt:i<xs.length
 ·refine .inr ⟨⟨xs,xs[i],q,by simp[hlt]⟩,Pv (i+1),λσ' H' p'=>⟨xs.length-(i+1),by omega,Z,hlt,p'⟩,λx H' y=>?_⟩;obtain⟨e,y⟩:=y;subst e;exact hs i x σ _ (y xs q) p
 ·have e:i=xs.length:=by omega
  subst e;exact .inl ⟨⟨xs,q,LN _⟩,hd σ H p⟩
theorem iE{K:Fg}{a:Addr}{xs:List V}{g:TG}{tb:TS}{D:iN}{σ:St}{H:Hp}(Pv:Nat->St->Hp->Prop)(h0:Pv 0 σ H)(hl:∀i σ H,i≤xs.length->Pv i σ H->bH K H a xs)
  (hs:∀i x σ H,xs[i]?=some x->Pv i σ H->g x σ H λσ2 H2=>tb { D with nx:=Pv (i+1),ct:=Pv (i+1),bk:=D.nx} σ2 H2) (hd:∀σ H,Pv xs.length σ H->D.nx σ H) :
  ∃W:Nat->Nat->St->Hp->Prop,(∃m,W 0 m σ H)/\∀i m σ H,W i m σ H→
   ((A3 K a).stop i H/\D.nx σ H)∨((A3 K a).go i H/\∃N:St->Hp->Prop,(∀σ' H',N σ' H'->∃m',m'<m/\W (i+1) m' σ' H')/\∀x H',(A3 K a).yld i H x H'->g x σ H' λσ2 H2=>tb { D with nx:=N,ct:=N,bk:=D.nx} σ2 H2):=by
 refine⟨λi m σ H=>m=xs.length-i/\i≤xs.length/\Pv i σ H,⟨xs.length,by simp,Mx _,h0⟩,?_⟩;rintro i m σ H ⟨rfl,hi,p⟩;have q:=hl i σ H hi p;by_cases hlt:i<xs.length
 ·refine .inr ⟨⟨xs,xs[i],q,by simp[hlt]⟩,Pv (i+1),λσ' H' p'=>⟨xs.length-(i+1),by omega,Z,hlt,p'⟩,λx H' y=>?_⟩;obtain⟨e,y⟩:=y;subst e;exact hs i x σ _ (y xs q) p
 ·have e:i=xs.length:=by omega
  subst e;exact .inl ⟨⟨xs,q,LN _⟩,hd σ H p⟩
theorem cP{lo:Int}{n:Nat}{g:TG}{tb:TS}{D:iN}{σ:St}{H:Hp}(Pv:Nat->St->Hp->Prop)(h0:Pv 0 σ H)
  (hs:∀i σ H,i<n->Pv i σ H->g (.int (lo+i)) σ H λσ2 H2=>tb { D with nx:=Pv (i+1),ct:=Pv (i+1),bk:=D.nx} σ2 H2) (hd:∀σ H,Pv n σ H->D.nx σ H) :
  ∃W:Nat->Nat->St->Hp->Prop,(∃m,W 0 m σ H)/\∀i m σ H,W i m σ H→
   ((CO lo n).stop i H/\D.nx σ H)∨((CO lo n).go i H/\∃N:St->Hp->Prop,(∀σ' H',N σ' H'->∃m',m'<m/\W (i+1) m' σ' H')/\∀x H',(CO lo n).yld i H x H'->g x σ H' λσ2 H2=>tb { D with nx:=N,ct:=N,bk:=D.nx} σ2 H2):=by
 refine⟨λi m σ H=>m=n-i/\i≤n/\Pv i σ H,⟨n,by simp,Mx _,h0⟩,?_⟩;rintro i m σ H ⟨rfl,hi,p⟩;by_cases hlt:i<n
 ·refine .inr ⟨hlt,Pv (i+1),λσ' H' p'=>⟨n-(i+1),by omega,Z,hlt,p'⟩,λx H' y=>?_⟩;obtain⟨e,y⟩:=y;subst e y;exact hs i σ _ hlt p
 ·have e:i=n:=by omega
  subst e;exact .inl ⟨LN _,hd σ H p⟩
end L2
namespace L2
open PySem PySem.Spec PyProof.Rows
abbrev R2:=V->V->Hp->VK->Prop
def gk(X:Cx)(f:Value->Value->Sem Value)(r:R2):Prop:=
 ∀(pins:cy) (s:LV) (σ:St) (H:Hp) (x y:V) (v u:Value) (Q:VK),Inv X pins σ H s->bv x v->bv y u->r x y H Q→
  L6 (Ma X.prog X.w) X.A (f v u) (EP X pins σ Q) X.xe s
def IJ(X:Cx)(f:Value->Sem Value)(r:V->Hp->VK->Prop):Prop:=
 ∀(pins:cy) (s:LV) (σ:St) (H:Hp) (x:V) (v:Value) (Q:VK),Inv X pins σ H s->bv x v->r x H Q→
  L6 (Ma X.prog X.w) X.A (f v) (EP X pins σ Q) X.xe s
def dX(X:Cx)(f:Value)(r:List V->Hp->VK->Prop):Prop:=
 ∀(pins:cy) (s:LV) (σ:St) (H:Hp) (xs:List V) (us:List Value) (Q:VK),Inv X pins σ H s->bj xs us->r xs H Q→
  L6 (Ma X.prog X.w) X.A (call f us) (EP X pins σ Q) X.xe s
def K9(X:Cx)(r:V->Hp->(Bool->Hp->Prop)->Prop):Prop:=
 ∀(pins:cy) (s:LV) (σ:St) (H:Hp) (x:V) (v:Value) (Q:Bool->Hp->Prop),Inv X pins σ H s->bv x v->r x H Q→
  L6 (Ma X.prog X.w) X.A (truthy v) (TP X pins σ Q) X.xe s
def Bf(r:R2)(ta tb:TE):TE:=λσ H Q=>ta σ H λx H1=>tb σ H1 λy H2=>r x y H2 Q
def JK(r:V->Hp->VK->Prop)(ta:TE):TE:=λσ H Q=>ta σ H λx H1=>r x H1 Q
def rI(C:Int->Int->Prop)(g:Int->Int->V):R2:=λx y H Q=>∃i j,x=.int i/\y=.int j/\C i j/\Q (g i j) H
def C8(g:Int->Int->V):R2:=λx y H Q=>∃i j,x=.int i/\y=.int j/\Q (g i j) H
def rU(g:Int->V):V->Hp->VK->Prop:=λx H Q=>∃i,x=.int i/\Q (g i) H
section
variable {X:Cx}{a b c:Mu}{ta tb tc:TE}{pos:Oo}
theorem Ga(ha:PE X a ta)(hb:PE X b tb){pins:cy}{s:LV}{σ:St}{H:Hp}{R:V->V->Hp->Prop}(I:Inv X pins σ H s)
  (h:ta σ H λx H1=>tb σ H1 λy H2=>R x y H2) {Q:c5} {f:Value->Value->Sem Value}
  (hf:∀v u s2 x y H2,Inv X pins σ H2 s2->bv x v->bv y u->R x y H2->L6 (Ma X.prog X.w) X.A (f v u) Q X.xe s2) :
  L6 (Ma X.prog X.w) X.A (eval a X.env) (λv s₁=>L6 (Ma X.prog X.w) X.A (eval b X.env) (λu s₂=>L6 (Ma X.prog X.w) X.A (f v u) Q X.xe s₂) X.xe s₁) X.xe s:=by
 refine cA (ha pins s σ H _ I h) λv s1 ⟨x,H1,I1,r1,q1⟩=>?_
 refine cA (hb pins s1 σ H1 _ I1 q1) λu s2 ⟨y,H2,I2,r2,q2⟩=>?_
 exact hf v u s2 x y H2 I2 r1 r2 q2
theorem Hb(ho:gk X (OA op) r)(ha:PE X a ta)(hb:PE X b tb):PE X (.BinOp a op b pos) (Bf r ta tb):=by
 intro pins s σ H Q I h;exact wpAny_BinOp (Ga ha hb I h λv u s2 x y H2 I2 rx ry q=>ho pins s2 σ H2 x y v u Q I2 rx ry q)
theorem G9(ho:IJ X (unaryOp op) r)(ha:PE X a ta):PE X (.UnaryOp op a pos) (JK r ta):=by
 intro pins s σ H Q I h;exact UnaryOp_ (cA (ha pins s σ H _ I h) λv s1 ⟨x,H1,I1,r1,q1⟩=>ho pins s1 σ H1 x v Q I1 r1 q1)
theorem Gs{f:Value->Value->Sem Value}{C:Int->Int->Prop}{g:Int->Int->Int}
  (rule:∀(i j:Int) (t u:TX) (s:LV) (Q:c5) (E:c5),C i j->Q (.int (g i j) s.toks) { s with toks:=s.toks+1}->L6 (Ma X.prog X.w) X.A (f (.int i t) (.int j u)) Q E s) :
  gk X f (rI C λi j=>.int (g i j)):=by
 intro pins s σ H x y v u Q I rx ry h;obtain⟨i,j,rfl,rfl,hc,q⟩:=h;obtain⟨t,rfl⟩:=rx;obtain⟨t',rfl⟩:=ry;exact rule i j t t' s _ _ hc ⟨.int (g i j),H,I.tok _,⟨_,Z⟩,q⟩
theorem Hj{f:Value->Value->Sem Value}{g:Int->Int->Int}
  (rule:∀(i j:Int) (t u:TX) (s:LV) (Q:c5) (E:c5),Q (.int (g i j) s.toks) { s with toks:=s.toks+1}->L6 (Ma X.prog X.w) X.A (f (.int i t) (.int j u)) Q E s) :
  gk X f (C8 λi j=>.int (g i j)):=by
 intro pins s σ H x y v u Q I rx ry h;obtain⟨i,j,rfl,rfl,q⟩:=h;obtain⟨t,rfl⟩:=rx;obtain⟨t',rfl⟩:=ry;exact rule i j t t' s _ _ ⟨.int (g i j),H,I.tok _,⟨_,Z⟩,q⟩
theorem Cb{f:Value->Value->Sem Value}{g:Int->Int->Bool}
  (rule:∀(i j:Int) (t u:TX) (s:LV) (Q:c5) (E:c5),Q (.bool (g i j)) s->L6 (Ma X.prog X.w) X.A (f (.int i t) (.int j u)) Q E s) :
  gk X f (C8 λi j=>.bl (g i j)):=by
 intro pins s σ H x y v u Q I rx ry h;obtain⟨i,j,rfl,rfl,q⟩:=h;obtain⟨t,rfl⟩:=rx;obtain⟨t',rfl⟩:=ry;exact rule i j t t' s _ _ ⟨.bl (g i j),H,I,Z,q⟩
def JI(i j:Int):Prop:=0<j/\j<1073741824
def Ko(i j:Int):Prop:=j≠0/\j.natAbs<1073741824
def JH(i j:Int):Prop:=0≤j/\j≤1000000/\i.natAbs<2^64
def Gp(i j:Int):Prop:=(-(2^64)<i/\i<2^64)∨(-(2^64)<j/\j<2^64)
theorem Gp.ok(h:Gp i j):IntMulOk i j:=by
 rcases h with⟨h1,h2⟩ | ⟨h1,h2⟩
 ·exact .of_left (intBits_le_64 h1 h2)
 ·exact .of_right (intBits_le_64 h1 h2)
theorem dP:gk X (OA .Add) (C8 λi j=>.int (i+j)):=Hj λ_ _ _ _ _ _ _ q=>add_int q
theorem fo:gk X (OA .Sub) (C8 λi j=>.int (i-j)):=Hj λ_ _ _ _ _ _ _ q=>sub_int q
theorem ft:gk X (OA .Mult) (rI Gp λi j=>.int (i*j)):=Gs λ_ _ _ _ _ _ _ hc q=>mul_int q hc.ok
theorem gS:gk X (OA .FloorDiv) (rI JI λi j=>.int (i/j)):=Gs λi j _ _ _ _ _ hc q=>by
 have h1:(0:Int)<j:=hc.1;have h2:j<1073741824:=hc.2;exact floordiv_int (by omega) (by rw[QB i (by omega)];exact q) (.inl (QC (by omega)))
theorem gh:gk X (OA .Mod) (rI (λ_ j=>0<j) λi j=>.int (i%j)):=Gs λi j _ _ _ _ _ hc q=>by
 have h1:(0:Int)<j:=hc;exact mod_int' (by omega) (by rw[fmod_eq_emod_of_nonneg i (by omega)];exact q)
theorem ES:gk X (OA .Pow) (rI JH λi j=>.int (i^j.toNat)):=Gs λ_ _ _ _ _ _ _ hc q=>pow_int_small hc.1 hc.2.1 hc.2.2 q
theorem Kt{f:Value->Sem Value}{g:Int->Int}
  (rule:∀(i:Int) (t:TX) (s:LV) (Q:c5) (E:c5),Q (.int (g i) s.toks) { s with toks:=s.toks+1}->L6 (Ma X.prog X.w) X.A (f (.int i t)) Q E s) :
  IJ X f (rU λi=>.int (g i)):=by
 intro pins s σ H x v Q I rx h;obtain⟨i,rfl,q⟩:=h;obtain⟨t,rfl⟩:=rx;exact rule i t s _ _ ⟨.int (g i),H,I.tok _,⟨_,Z⟩,q⟩
theorem f7:IJ X (unaryOp .USub) (rU λi=>.int (-i)):=Kt λ_ _ _ _ _ q=>neg_int q
end
def GQ:V->V->Bool
 | .non,.non=>true | .non,.int _=>true | .int _,.non=>true | .non,.bl _=>true | .bl _,.non=>true | .non,.str _=>true | .str _,.non=>true
 | .int _,.int _=>true | .bl _,.bl _=>true | .str _,.str _=>true | .byt _,.byt _=>true
 | .int _,.str _=>true | .str _,.int _=>true | .bl _,.str _=>true | .str _,.bl _=>true
 |_,_=>false
def KZ:R2:=λx y H Q=>GQ x y=true/\Q (.bl (decide (x=y))) H
def KQ:R2:=λx y H Q=>GQ x y=true/\Q (.bl (!decide (x=y))) H
theorem u7:decide (V.int i=V.int j)=(i==j):=by
 rw[M6];simp
theorem AM:decide (V.bl i=V.bl j)=(i==j):=by
 rw[M6];simp
theorem u6:decide (V.str i=V.str j)=(i==j):=by
 rw[M6];simp
theorem u8:decide (V.byt i=V.byt j)=(i.toList==j.toList):=by
 rw[M6]
 cases i
 cases j
 simp
section
variable {X:Cx}{a b c:Mu}{ta tb tc:TE}{pos:Oo}
theorem bO{pins:cy}{σ:St}{H:Hp}{s:LV}{Q:VK}{k k':Bool}(I:Inv X pins σ H s)(q:Q (.bl k) H)(e:k=k'):EP X pins σ Q (.bool k') s:=by
 subst e;exact⟨.bl k,H,I,Z,q⟩
theorem dg:gk X (ML .Eq) KZ:=by
 intro pins s σ H x y v u Q I rx ry h;obtain⟨hs,q⟩:=h
 cases x with
 |non=>
  cases rx
  cases y with
  |non=>cases ry;exact eq_none_none (bO I q (by simp))
  |bl j=>cases ry;exact eq_none_bool (bO I q (by simp))
  |int j=>obtain⟨t',rfl⟩:=ry;exact eq_none_int (bO I q (by simp))
  |str j=>obtain⟨t',rfl⟩:=ry;exact eq_none_str (bO I q (by simp))
  |_=>exact absurd (show false=true from hs) L5
 |bl i=>
  cases rx
  cases y with
  |non=>cases ry;exact eq_bool_none (bO I q (by simp))
  |bl j=>cases ry;exact eq_bool (bO I q AM)
  |str j=>obtain⟨t',rfl⟩:=ry;exact eq_bool_str (bO I q (by simp))
  |_=>exact absurd (show false=true from hs) L5
 |int i=>
  obtain⟨t,rfl⟩:=rx
  cases y with
  |non=>cases ry;exact eq_int_none (bO I q (by simp))
  |int j=>obtain⟨t',rfl⟩:=ry;exact eq_int (bO I q u7)
  |str j=>obtain⟨t',rfl⟩:=ry;exact eq_int_str (bO I q (by simp))
  |_=>exact absurd (show false=true from hs) L5
 |str i=>
  obtain⟨t,rfl⟩:=rx
  cases y with
  |non=>cases ry;exact eq_str_none (bO I q (by simp))
  |bl j=>cases ry;exact eq_str_bool (bO I q (by simp))
  |int j=>obtain⟨t',rfl⟩:=ry;exact eq_str_int (bO I q (by simp))
  |str j=>obtain⟨t',rfl⟩:=ry;exact eq_str (bO I q u6)
  |_=>exact absurd (show false=true from hs) L5
 |byt i=>
  obtain⟨t,rfl⟩:=rx
  cases y with
  |byt j=>obtain⟨t',rfl⟩:=ry;exact eq_bytes (bO I q u8)
  |_=>exact absurd (show false=true from hs) L5
 |_=>cases y<;>exact absurd (show false=true from hs) L5
theorem iR:gk X (ML .NotEq) KQ:=by
 intro pins s σ H x y v u Q I rx ry h;obtain⟨hs,q⟩:=h
 cases x with
 |non=>
  cases rx
  cases y with
  |non=>cases ry;exact ne_none_none (bO I q (by simp))
  |bl j=>cases ry;exact ne_none_bool (bO I q (by simp))
  |int j=>obtain⟨t',rfl⟩:=ry;exact ne_none_int (bO I q (by simp))
  |str j=>obtain⟨t',rfl⟩:=ry;exact ne_none_str (bO I q (by simp))
  |_=>exact absurd (show false=true from hs) L5
 |bl i=>
  cases rx
  cases y with
  |non=>cases ry;exact ne_bool_none (bO I q (by simp))
  |bl j=>cases ry;exact ne_bool (bO I q (congrArg not AM))
  |str j=>obtain⟨t',rfl⟩:=ry;exact ne_bool_str (bO I q (by simp))
  |_=>exact absurd (show false=true from hs) L5
 |int i=>
  obtain⟨t,rfl⟩:=rx
  cases y with
  |non=>cases ry;exact ne_int_none (bO I q (by simp))
  |int j=>obtain⟨t',rfl⟩:=ry;exact ne_int (bO I q (congrArg not u7))
  |str j=>obtain⟨t',rfl⟩:=ry;exact ne_int_str (bO I q (by simp))
  |_=>exact absurd (show false=true from hs) L5
 |str i=>
  obtain⟨t,rfl⟩:=rx
  cases y with
  |non=>cases ry;exact ne_str_none (bO I q (by simp))
  |bl j=>cases ry;exact ne_str_bool (bO I q (by simp))
  |int j=>obtain⟨t',rfl⟩:=ry;exact ne_str_int (bO I q (by simp))
  |str j=>obtain⟨t',rfl⟩:=ry;exact ne_str (bO I q (congrArg not u6))
  |_=>exact absurd (show false=true from hs) L5
 |byt i=>
  obtain⟨t,rfl⟩:=rx
  cases y with
  |byt j=>obtain⟨t',rfl⟩:=ry;exact ne_bytes (bO I q (congrArg not u8))
  |_=>exact absurd (show false=true from hs) L5
 |_=>cases y<;>exact absurd (show false=true from hs) L5
theorem mz:gk X (ML .Lt) (C8 λi j=>.bl (decide (i<j))):=Cb λ_ _ _ _ _ _ _ q=>lt_int q
theorem gY:gk X (ML .LtE) (C8 λi j=>.bl (decide (i≤j))):=Cb λ_ _ _ _ _ _ _ q=>le_int q
theorem fV:gk X (ML .Gt) (C8 λi j=>.bl (decide (j<i))):=Cb λ_ _ _ _ _ _ _ q=>gt_int q
theorem Hi:gk X (ML .GtE) (C8 λi j=>.bl (decide (j≤i))):=Cb λ_ _ _ _ _ _ _ q=>ge_int q
theorem pV:gk X (ML .Is) (λx y H Q=>y=.non/\Q (.bl (decide (x=.non))) H):=by
 intro pins s σ H x y v u Q I rx ry h;obtain⟨rfl,q⟩:=h
 cases ry
 refine is_none_gen (bO I q ?_)
 cases x<;>first
  | (cases rx;rfl)
  | (obtain⟨t,rfl⟩:=rx;rfl)
theorem uJ:gk X (ML .IsNot) (λx y H Q=>y=.non/\Q (.bl (!decide (x=.non))) H):=by
 intro pins s σ H x y v u Q I rx ry h;obtain⟨rfl,q⟩:=h
 cases ry
 refine isnot_none_gen (bO I q ?_)
 cases x<;>first
  | (cases rx;rfl)
  | (obtain⟨t,rfl⟩:=rx;rfl)
def Kd:HO->Bool
 | .lst _=>true
 | .ins _ _ _=>true
 |_=>false
theorem aL(b:Mu){op:SX}(h:op≠.In:=by decide)(h2:op≠.NotIn:=by decide):O2 op b=false:=by
 have e1:(op==SX.In)=false:=by cases op<;>first|rfl|exact absurd Z h
 have e2:(op==SX.NotIn)=false:=by cases op<;>first|rfl|exact absurd Z h2
 cases b<;>simp[O2,e1,e2]
theorem B4(ho:gk X (ML op) r)(ha:PE X a ta)(hb:PE X b tb)(hm:O2 op b=false):PE X (.Compare a [op] [b] pos) (Bf r ta tb):=by
 intro pins s σ H Q I h;exact wpAny_Compare1 (Ga ha hb I h λv u s2 x y H2 I2 rx ry q=>ho pins s2 σ H2 x y v u Q I2 rx ry q) hm
def um(t:TE):TT:=λσ H Q=>t σ H λx H'=>∃k,x=.bl k/\Q k H'
theorem BI(ho:gk X (ML op) r)(ha:PE X a ta)(hb:PE X b tb)(hm:O2 op b=false):PT X (.Compare a [op] [b] pos) (um (Bf r ta tb)):=by
 intro pins s σ H Q I h;refine wpAny_isTrue_Compare1 (cA (ha pins s σ H _ I h) λv s1 ⟨x,H1,I1,r1,q1⟩=>cA (hb pins s1 σ H1 _ I1 q1) λu s2 ⟨y,H2,I2,r2,q2⟩=>
  cA (ho pins s2 σ H2 x y v u _ I2 r1 r2 q2) λc s3 ⟨z,H3,I3,r3,k,e,q3⟩=>?_) hm
 subst e
 cases r3
 exact Nk ⟨H3,I3,q3⟩
def oY(r r':R2)(ta tb tc:TE):TE:=λσ H Q=>ta σ H λx H1=>tb σ H1 λy H2=>r x y H2 λz H3=>∃k,z=.bl k∧
 (if k=true then tc σ H3 λw' H4=>r' y w' H4 Q else Q (.bl false) H3)
theorem zR{op op':SX}{r r':R2}(ho:gk X (ML op) r)(ho':gk X (ML op') r')(ha:PE X a ta)(hb:PE X b tb)(hc:PE X c tc)
  (hm:Sr [op,op'] [b,c]=false:=by with_unfolding_all rfl):PE X (.Compare a [op,op'] [b,c] pos) (oY r r' ta tb tc):=by
 intro pins s σ H Q I h;refine Compare_chain (cA (ha pins s σ H _ I h) λv s1 ⟨x,H1,I1,r1,q1⟩=>chain_link (cA (hb pins s1 σ H1 _ I1 q1) λu s2 ⟨y,H2,I2,r2,q2⟩=>
  cA (ho pins s2 σ H2 x y v u _ I2 r1 r2 q2) λd s3 ⟨z,H3,I3,r3,k,e,q3⟩=>?_)) hm
 subst e
 cases r3
 refine Nk ?_
 cases k with
 |false=>exact ite_ff ⟨.bl false,H3,I3,Z,q3⟩
 |true=>exact ite_tt (chain_last (cA (hc pins s3 σ H3 _ I3 q3) λw' s4 ⟨z',H4,I4,r4,q4⟩=>ho' pins s4 σ H4 y z' u w' Q I4 r2 r4 q4))
theorem zm{op op':SX}{r r':R2}(ho:gk X (ML op) r)(ho':gk X (ML op') r')(ha:PE X a ta)(hb:PE X b tb)(hc:PE X c tc)
  (hm:Sr [op,op'] [b,c]=false:=by with_unfolding_all rfl):PT X (.Compare a [op,op'] [b,c] pos) (um (oY r r' ta tb tc)):=by
 intro pins s σ H Q I h;refine isTrue_chain (cA (ha pins s σ H _ I h) λv s1 ⟨x,H1,I1,r1,q1⟩=>test_link (cA (hb pins s1 σ H1 _ I1 q1) λu s2 ⟨y,H2,I2,r2,q2⟩=>
  cA (ho pins s2 σ H2 x y v u _ I2 r1 r2 q2) λd s3 ⟨z,H3,I3,r3,k,e,q3⟩=>?_)) hm
 subst e
 cases r3
 refine Nk ?_
 cases k with
 |false=>
  obtain⟨k',e',q'⟩:=q3
  cases e'
  exact ite_ff ⟨H3,I3,q'⟩
 |true=>
  refine ite_tt (test_last (cA (hc pins s3 σ H3 _ I3 q3) λw' s4 ⟨z',H4,I4,r4,q4⟩=>cA (ho' pins s4 σ H4 y z' u w' _ I4 r2 r4 q4) λd' s5 ⟨z2,H5,I5,r5,k2,e2,q5⟩=>?_));subst e2
  cases r5
  exact Nk ⟨H5,I5,q5⟩
def K8(K:Fg)(x:V)(H:Hp)(k:Bool):Prop:=
 match x with
 | .non=>k=false
 | .bl b=>k=b
 | .int i=>k=(i != 0)
 | .str y=>y.length≤sizeLine/\k=((y.length:Int) != 0)
 | .byt y=>y.size≤sizeLine/\k=((y.size:Int) != 0)
 | .ref p=>(∃xs,aS K H p xs/\k=!xs.isEmpty)∨(∃xs,bH K H p xs/\k=!xs.isEmpty)∨∃kvs,H p=some (.dK kvs)/\k=!kvs.isEmpty
 |_=>False
theorem pZ:(sizeLine:Nat)<2^63:=by rw[NV];decide
def Ih(b:Mu):Prop:=∀o i,Q3 b false o i=TR [o,i] (PN o i)
theorem gm(r:bj [x] us):∃u,us=[u]/\bv x u:=by
 cases r with
 |cons r1 r2=>cases r2;exact⟨_,Z,r1⟩
theorem ul(r:bj [x,y] us):∃u w',us=[u,w']/\bv x u/\bv y w':=by
 cases r with
 |cons r1 r2=>
  cases r2 with
  |cons r3 r4=>cases r4;exact⟨_,_,Z,r1,r3⟩
theorem mZ:dX X (.builtin "abs") (λxs H Q=>∃i,xs=[.int i]/\Q (.int (if i<0 then -i else i)) H):=by
 intro pins s σ H xs us Q I r h;obtain⟨i,rfl,q⟩:=h;obtain⟨u,rfl,t,rfl⟩:=gm r;exact call_abs_int λu tk=>⟨.int (if i<0 then -i else i),H,I.tok _,⟨_,Z⟩,q⟩
def Lj(K:Fg)(x:V)(H:Hp)(n:Nat):Prop:=
 match x with
 | .str y=>y.length≤sizeLine/\n=y.length
 | .byt y=>y.size≤sizeLine/\n=y.size
 | .ref p=>(∃xs,aS K H p xs/\n=xs.length)∨∃xs,bH K H p xs/\n=xs.length
 |_=>False
end
end L2
namespace L2
open PySem PySem.Spec PyProof.Rows
structure Gj(h:MA)(x dx C:Addr)(mA:Mj->Option Value):Prop where
 obj:h.get? x=some (instObj C dx)
 ns:h.Ns1 dx mA
 ne:dx≠x
theorem om{h:MA}(n:h.Ns1 dx mA):∃od,h.get? dx=some od/\∀name,lookIn name od=some (mA name):=by
 obtain⟨o,es,ep,ho,hd,hk,_,hm⟩:=n;refine⟨o,ho,λname=>?_⟩;have e:=hm name;unfold nsFind findBy at e;rw[←find?_toList] at e;unfold lookIn;rw[hd];dsimp only
 split
 ·rename_i y q;rw[q] at e;exact congrArg some e
 ·rename_i q;rw[q] at e;have a:es.toList.any (·.refKey)=false:=by
   rw[QD];intro y hy;obtain⟨z,t,hkey⟩:=hk y (Q4.mp hy);simp[Rm.refKey,hkey]
  have a':¬es.toList.any (·.refKey)=true:=by rw[a];exact L5
  rw[if_neg a'];exact congrArg some e
theorem Gj.look(I:Gj h x dx C mA):∃od,PySem.W.InstAt h x (instObj C dx) C (some od)/\∀name,lookIn name od=some (mA name):=
 let ⟨od,ho,hl⟩:=om I.ns
 ⟨od,⟨I.obj,Z,Z,ho⟩,hl⟩
section
variable {prog:Mo}{w:MD}{A:Mq}{E:c5}{s:LV}{K:Fg}{x dx C f:Addr}{mA:Mj->Option Value}{name:Mj}{v:Value}
end
def Ev(f:Mj)(v:V):List (Mj×V)->List (Mj×V)
 | []=>[(f,v)]
 | (g,x)::r=>if g=f then(g,v)::r else(g,x)::Ev f v r
theorem gW.some_of(r:gW (some v) o):∃u,o=some u/\bv v u:=by
 cases o with
 |none=>exact(show False from r).elim
 |some u=>exact⟨u,Z,r⟩
theorem ww(r:bv v u):handedIn u=true:=by
 cases v with
 |non=>cases(show u=Nf from r);rfl
 |bl b=>cases(show u=OM b from r);rfl
 |int i=>obtain⟨t,e⟩:=(show ∃t,u=Oc i t from r);cases e;rfl
 |str x=>obtain⟨t,e⟩:=(show ∃t,u=PV x t from r);cases e;rfl
 |byt b=>obtain⟨t,e⟩:=(show ∃t,u=bytes b t from r);cases e;rfl
 |flt b=>obtain⟨t,e⟩:=(show ∃t,u=float b t from r);cases e;rfl
 |ref a=>cases(show u=Ml a from r);rfl
 |ty n=>cases(show u=Oj n from r);rfl
section
variable {P:Mo}{w:MD}{H H':Hp}{h h':MA}{a C dx:Addr}{fs fs':List (Mj×V)}
theorem Cl(hok:iX P w H h)(e:H a=some (.ins C dx fs)):∃mA,Gj h a dx C mA/\(∀f,gW (fs.lookup f) (mA f))/\PySem.Within mA (fs.map (·.1))/\fs.length≤1000/\H dx=some (.own a):=by
 obtain⟨d,z,ne,ob,mA,n,r,q⟩:=(show ObjOk P w H h a (.ins C dx fs) from hok a _ e);exact⟨mA,⟨ob,n,ne⟩,r,q,z,d⟩
end
structure Go(K:Fg)(C:Addr):Prop where
 pg:plainGet K C Mj.empty=true
 hd:PySem.W.hasDictIn K C=true
 po:plainOver K C=true
 sa:PySem.W.findIn K (.ref C) "__setattr__"=some (some (.builtin "object.__setattr__"))
theorem Go.get{K:Fg}{C:Addr}(c:Go K C)(f:Mj):plainGet K C f=true:=c.pg
def gl(K:Fg)(C:Addr)(f:Mj):Prop:=PySem.W.findIn K (.ref C) f=some none
structure Lr(K:Fg)(C:Addr)(f:Mj)(v:V)(u:Value):Prop where
 at_:PySem.W.findIn K (.ref C) f=some (some u)
 rel:bv v u
 get:PySem.W.specialIn K u "__get__"=some none
 cp:PySem.W.copiedNames.contains f=false
structure Li(K:Fg)(C:Addr)(m:Mj)(f:Addr):Prop where
 at_:PySem.W.findIn K (.ref C) m=some (some (.ref f))
 fn:isFn K (.ref f)=true
 kp:PySem.W.keepIn K (.ref f)=true
section
variable {X:Cx}{pins:cy}{σ:St}{H:Hp}{s:LV}{a C dx:Addr}{fs:List (Mj×V)}{f:Mj}{v:V}{A:Mq}{E:c5}
theorem CC{prog:Mo}{w:MD}{env:R0}{e:Mu}{f:Mj}{pos:Oo}{s:LV}{Q:c5}(hb:Nu e f env (eval e env)=eval e env)
  (h:L6 (Ma prog w) A (eval e env) (λo s₁=>L6 (Ma prog w) A (getAttr o f true) Q E s₁) E s):L6 (Ma prog w) A (eval (.Attribute e f pos) env) Q E s:=
 Attribute_any_ h (by rw[arm_eval_Attribute,hb])
end
def KF(K:Fg)(ta:TE)(f:Mj):TE:=λσ H Q=>ta σ H λx H1=>∃a C dx fs v,x=.ref a/\H1 a=some (.ins C dx fs)/\Go K C/\gl K C f/\fs.lookup f=some v/\Q v H1
def KI(K:Fg)(ta:TE)(f:Mj):TE:=λσ H Q=>ta σ H λx H1=>∃a C dx fs v u,x=.ref a/\H1 a=some (.ins C dx fs)/\Go K C/\Lr K C f v u/\fs.lookup f=none/\Q v H1
def KL(K:Fg)(ta tv:TE)(f:Mj):TS:=λD σ H=>tv σ H λy H1=>ta σ H1 λx H2=>∃a C dx fs,x=.ref a/\H2 a=some (.ins C dx fs)/\Go K C/\gl K C f/\fs.length<1000∧
 D.nx σ (upd H2 a (.ins C dx (Ev f y fs)))
def Lm(X:Cx)(op:SY)(rd:V->V->Hp->VK->Prop):Prop:=
 ∀(pins:cy) (s:LV) (σ:St) (H:Hp) (x y:V) (u v:Value) (Q:VK),Inv X pins σ H s->bv x u->bv y v->rd x y H Q->L6 (Ma X.prog X.w) X.A (TD op u v) (EP X pins σ Q) X.xe s
def IA(K:Fg)(ta tv:TE)(rd:V->V->Hp->VK->Prop)(f:Mj):TS:=λD σ H=>ta σ H λx H1=>∃a C dx fs v,x=.ref a/\H1 a=some (.ins C dx fs)/\Go K C/\gl K C f/\fs.lookup f=some v∧
 tv σ H1 λy H2=>rd v y H2 λz H3=>∃dx' fs',H3 a=some (.ins C dx' fs')/\fs'.length<1000/\D.nx σ (upd H3 a (.ins C dx' (Ev f z fs')))
section
variable {X:Cx}{o e value:Mu}{f:Mj}{pos pos' tpos:Oo}{ta tv:TE}
def K0:V->V->Hp->VK->Prop:=λx y H Q=>∃i j,x=.int i/\y=.int j/\Q (.int (i+j)) H
def KN:V->V->Hp->VK->Prop:=λx y H Q=>∃i j,x=.int i/\y=.int j/\Q (.int (i-j)) H
end
section
variable {X:Cx}{pins:cy}{σ:St}{H:Hp}{s:LV}{A:Mq}{E:c5}{Q:c5}{c:Value}{b:Bool}
inductive kq(K:Fg)(H:Hp):V->Value->Prop where
 |non:kq K H .non (.type "NoneType")
 |bl (x:Bool):kq K H (.bl x) (.type "bool")
 |int (i:Int):kq K H (.int i) (.type "int")
 |str (x:Mj):kq K H (.str x) (.type "str")
 |flt (x:UInt64):kq K H (.flt x) (.type "float")
 |lst {a:Addr} {xs:List V} (e:H a=some (.lst xs)):kq K H (.ref a) (.type "list")
 |frz {a:Addr} {o:Obj} {xs:List V} (e:H a=some (.frz o (.lst xs))):kq K H (.ref a) (.type "list")
 |tup {a:Addr} {xs:List V} (e:H a=some (.tup xs)):kq K H (.ref a) (.type "tuple")
 |dK {a:Addr} {kvs:List (dQ×V)} (e:H a=some (.dK kvs)):kq K H (.ref a) (.type "dict")
 |dT {a:Addr} {kvs:List (List dQ×V)} (e:H a=some (.dT kvs)):kq K H (.ref a) (.type "dict")
 |ins {a C dx:Addr} {fs:List (Mj×V)} (e:H a=some (.ins C dx fs)) (cl:Go K C) (ha:PySem.W.findIn K (.ref C) "__class__"=some (some (.builtin "object.__class__")))
   (hn:PySem.W.specialIn K (.builtin "object.__class__") "__get__"=some (some (.builtin "getset_descriptor.__get__"))) (htk:PySem.W.takesIn K (.builtin "object.__class__")=some true)
   (hm:mroIn K C (.type "object")=some true):kq K H (.ref a) (.ref C)
theorem wm(I:Inv X pins σ H s)(rx:bv x u)(ty:kq X.K H x t)(e:PySem.W.kitOne X.K t c=some b)(h:∀tk,Q (.bool b) { s with toks:=tk}):
  L6 (Ma X.prog X.w) A (call (.builtin "isinstance") [u,c]) Q E s:=by
 cases ty with
 |non=>cases(show u=Nf from rx);exact OJ kitx_none I.kIn Ox e (λz=>nomatch z) h
 |bl y=>cases(show u=OM y from rx);exact OJ kitx_bool I.kIn Ox e (λz=>nomatch z) h
 |int i=>obtain⟨t,q⟩:=(show ∃t,u=Oc i t from rx);cases q;exact OJ kitx_int I.kIn Ox e (λz=>nomatch z) h
 |str y=>obtain⟨t,q⟩:=(show ∃t,u=PV y t from rx);cases q;exact OJ kitx_str I.kIn Ox e (λz=>nomatch z) h
 |flt y=>obtain⟨t,q⟩:=(show ∃t,u=float y t from rx);cases q;exact OJ kitx_float I.kIn Ox e (λz=>nomatch z) h
 | @lst a xs ea=>
  cases(show u=Ml a from rx)
  obtain⟨_,_,n,_,h1⟩:=(show ObjOk X.prog X.w H s.heap a (.lst xs) from I.hok a _ ea);exact OJ TH I.kIn ⟨_,h1,Z⟩ e (λz=>nomatch z) h
 | @frz a ob xs ea=>
  cases(show u=Ml a from rx)
  obtain⟨_,_,_,n,_,h1⟩:=(show ObjOk X.prog X.w H s.heap a (.frz ob (.lst xs)) from I.hok a _ ea);exact OJ TH I.kIn ⟨_,h1,Z⟩ e (λz=>nomatch z) h
 | @tup a xs ea=>
  cases(show u=Ml a from rx)
  obtain⟨_,_,_,p⟩:=(show ObjOk X.prog X.w H s.heap a (.tup xs) from I.hok a _ ea);obtain⟨o,h1,h2,_⟩:=p;exact OJ kitx_tuple I.kIn ⟨o,h1,h2⟩ e (λz=>nomatch z) h
 | @dK a kvs ea=>
  cases(show u=Ml a from rx)
  obtain⟨_,_,vs,_,p⟩:=(show ObjOk X.prog X.w H s.heap a (.dK kvs) from I.hok a _ ea);obtain⟨o,es,ep,h1,h2,_⟩:=p;exact OJ kitx_dict I.kIn ⟨o,h1,h2.1⟩ e (λz=>nomatch z) h
 | @dT a kvs ea=>
  cases(show u=Ml a from rx)
  obtain⟨_,_,xs,_,o,es,ep,h1,h2,_⟩:=(show ObjOk X.prog X.w H s.heap a (.dT kvs) from I.hok a _ ea);exact OJ kitx_dict I.kIn ⟨o,h1,h2.1⟩ e (λz=>nomatch z) h
 | @ins a C dx fs ea cl ha hn htk hm=>
  cases(show u=Ml a from rx)
  obtain⟨mA,O,_⟩:=Cl I.hok ea;obtain⟨od,J,_⟩:=O.look;exact OJ (kitx_own (cl.get _) cl.hd ha hn htk hm) I.kIn J e (λz=>nomatch z) h
end
end L2
namespace L2
open PySem PySem.Spec PyProof.Rows
structure cZ(k:Nat)(A:Mq):Prop where
 hd:A.handled=none
 dp:A.depth+3*k+5<recursionLimit
 un:A.units+16*k+200<cLine
 gd:A.guards=some []
theorem cZ.mono(r:cZ k A)(h:j≤k):cZ j A:=⟨r.hd,by have:=r.dp;omega,by have:=r.un;omega,r.gd⟩
theorem cZ.deeper(r:cZ (k+1) A)(env:R0):cZ k (A.deeper env):=
 ⟨r.hd,by have:=r.dp;show A.depth+1+3*k+5<_;omega,by have:=r.un;show A.units+3+16*k+200<_;omega,r.gd⟩
theorem cZ.in1(r:cZ (k+1) A):cZ k A.in1:=
 ⟨r.hd,by have:=r.dp;show A.depth+3*k+5<_;omega,by have:=r.un;show A.units+1+16*k+200<_;omega,r.gd⟩
theorem tL{A:Mq}:(A.under (.builtin "type.__call__" ⟨.ref C:: us,kw⟩)).depth=A.depth+1:=by
 first|rfl|simp[QF,R5.weight,R5.isCreation,R5.isGuard,R5.isCaller,R5.frames,R6,guardIds]
theorem tK{A:Mq}:(A.under (.builtin "type.__call__" ⟨.ref C:: us,kw⟩)).units=A.units+1:=by
 first|rfl|simp[QF,R5.cUnits,R5.frames,R6]
theorem rF{A:Mq}:(A.under (.builtin "type.__call__" ⟨.ref C:: us,kw⟩)).guards=A.guards:=by
 first|rfl|simp[QF,R5.guards,R5.isGuard,guardIds,pushGuards]
theorem cZ.make(r:cZ (k+1) A)(C:Addr)(us:List Value)(kw:List (Mj×Value)):cZ k (A.under (.builtin "type.__call__" ⟨.ref C:: us,kw⟩)):=
 ⟨r.hd,by have:=r.dp;rw[tL];omega,by have:=r.un;rw[tK];omega,by rw[rF];exact r.gd⟩
theorem cZ.depth(r:cZ k A):A.depth<recursionLimit:=by have:=r.dp;omega
theorem cZ.units(r:cZ k A):A.units+64<cLine:=by have:=r.un;omega
theorem cZ.units0(r:cZ k A):A.units<cLine:=by have:=r.un;omega
def GH:TA:=λ_ H Q=>Q [] H
def C3(ta:TE)(tr:TA):TA:=λσ H Q=>ta σ H λx H1=>tr σ H1 λxs H2=>Q (x::xs) H2
section
variable {X:Cx}{e:Mu}{es:List Mu}{te:TE}{t:TA}{pos:Oo}
theorem ER:PA X [] GH:=λ_ _ _ _ H Q I h=>Calls.spliced_nil ⟨[],H,I,.nil,h⟩
theorem B7(ha:PE X e te)(hr:PA X es t)(hs:L4 (e::es) X.env=(false,eval e X.env)::L4 es X.env:=by rfl):PA X (e::es) (C3 te t):=by
 intro pos pins s σ H Q I h;rw[hs];show L6 _ _ (spliced ((false,eval e X.env)::Ol pos (L4 es X.env))) _ _ s;refine Calls.spliced_cons (cA (ha pins s σ H _ I h) λu s1 ⟨x,H1,I1,r1,q1⟩=>?_);exact cA (hr pos pins s1 σ H1 _ I1 q1) λus s2 ⟨xs,H2,I2,r2,q2⟩=>⟨x::xs,H2,I2,.cons r1 r2,q2⟩
def GD(t:TA):TE:=λσ H Q=>t σ H λxs H1=>xs.length≤sizeLine/\∀p,H1 p=none->Q (.ref p) (upd H1 p (.tup xs))
def GI(t:TA):TE:=λσ H Q=>t σ H λxs H1=>xs.length≤sizeLine/\∀p,H1 p=none->Q (.ref p) (upd H1 p (.lst xs))
theorem EH{x1}(h:PA X es t):PE X (.Tuple es x1 pos) (GD t):=by
 intro pins s σ H Q I hq;refine wpAny_Tuple_spliced (cA (h pos pins s σ H _ I hq) λus s1 ⟨xs,H1,I1,r,z,q⟩=>⟨by rw[←r.length];exact z,?_⟩);have hf:H1 s1.heap.objs.size=none:=I1.hok.fresh (LN _);refine⟨.ref s1.heap.objs.size,upd H1 s1.heap.objs.size (.tup xs),I1.laid (t':=s1.toks) (λb u e=>LU _ e) (LN _) ?_,Z,q _ hf⟩;exact⟨z,us,r,⟨_,Mm _ Z,Z,_,Z⟩⟩
theorem EL(h:PA X es t):PE X (.List es pos) (GI t):=by
 intro pins s σ H Q I hq;refine wpAny_List_spliced (cA (h pos pins s σ H _ I hq) λus s1 ⟨xs,H1,I1,r,z,q⟩=>⟨by rw[←r.length];exact z,?_⟩);have hf:H1 s1.heap.objs.size=none:=I1.hok.fresh (LN _);refine⟨.ref s1.heap.objs.size,upd H1 s1.heap.objs.size (.lst xs),I1.laid (t':=s1.toks) (λb u e=>LU _ e) (LN _) ?_,Z,q _ hf⟩;exact⟨z,us,0,r,Mm _ Z⟩
end
abbrev Sp:=List V->Hp->VK->XK->Prop
abbrev qm:=List R0->Hp->LV->XK->Value->LV->Prop
structure ku(P:Mo)(w:MD)(K:Fg)(mg:Mj->Option Value)(base:MA)(A:Mq)(outer:List R0)(s:LV)(H:Hp):Prop where
 frames:A.frames=some outer
 mod:Mod K mg base
 bs:∀b o,base.get? b=some o->s.heap.get? b=some o/\H b=none
 bsz:base.objs.size≤s.heap.objs.size
 funs:s.heap.FunFrames base outer
 frf:∀b∈nH outer,H b=none
 hok:iX P w H s.heap
 bare:Pz s.gens
def CE(outer:List R0)(P:Mo)(w:MD)(H:Hp)(s:LV)(Q:VK)(u:Value)(s':LV):Prop:=
 ∃v H',s'.os=s.os/\Pz s'.gens/\Un (nH outer) [] H H' s.heap s'.heap/\iX P w H' s'.heap/\bv v u/\Q v H'
def CR(CX:qm)(outer:List R0)(P:Mo)(w:MD)(H:Hp)(s:LV)(Q:VK)(E:XK)(r:Ss)(s':LV):Prop:=
 match r with
 | .ok (.ret u)=>CE outer P w H s Q u s'
 | .ok _=>False
 | .error e=>CX outer H s E e s'
structure bD(P:Mo)(w:MD)(K:Fg)(mg:Mj->Option Value)(base:MA)(CX:qm)(k:Nat)(f:Addr)(fd:LS)(ps:List Mj)(sp:Sp):Prop where
 len:∀vs H Q E,sp vs H Q E->vs.length=ps.length
 run:∀(A:Mq) (outer:List R0) (s:LV) (H:Hp) (args:Args) (us:List Value) (vs:List V) (Q:VK) (E:XK),cZ k A->ku P w K mg base A outer s H->QH s fd args (ps.zip us)->bj vs us->sp vs H Q E→
  Op (Ma P w) A (.call (.ref f) args) (CR CX outer P w H s Q E) s
theorem ku.make{P:Mo}{w:MD}{K:Fg}{mg:Mj->Option Value}{base:MA}{A:Mq}{outer:List R0}{s:LV}{H:Hp}(e:ku P w K mg base A outer s H)(C:Addr)(us:List Value)(kw:List (Mj×Value)) :
  ku P w K mg base (A.under (.builtin "type.__call__" ⟨.ref C::us,kw⟩)) outer s H:=⟨by first|exact e.frames | (simpa [QF,R5.envs,R6,pushEnvs] using e.frames),e.mod,e.bs,e.bsz,e.funs,e.frf,e.hok,e.bare⟩
theorem ku.in1{P:Mo}{w:MD}{K:Fg}{mg:Mj->Option Value}{base:MA}{A:Mq}{outer:List R0}{s:LV}{H:Hp}(e:ku P w K mg base A outer s H) :
  ku P w K mg base A.in1 outer s H:=⟨e.frames,e.mod,e.bs,e.bsz,e.funs,e.frf,e.hok,e.bare⟩
section
variable {X:Cx}{pins:cy}{σ:St}{H:Hp}{s s':LV}
theorem Inv.env0(I:Inv X pins σ H s):ku X.prog X.w X.K X.mg X.base X.A X.stack s H:=
 ⟨I.ok.frames,I.ok.mod,I.bs,MG I.ok.bsz I.sz,I.stack,I.stkFree,I.hok,I.bare⟩
theorem Inv.after(I:Inv X pins σ H s)(h:CE X.stack X.prog X.w H s Q u s'):EP X pins σ Q u s':=by
 obtain⟨v,H',os,bare,un,hok,r,q⟩:=h;obtain⟨hh,g,d,t,os'⟩:=s';obtain rfl:os'=s.os:=os;exact⟨v,H',I.call (h':=hh) (g':=g) (d':=d) (t':=t) (ch:=[]) un hok bare (λb z=>absurd z (by simp)),r,q⟩
end
def qD(sp:Sp)(dvs:List V)(E:XK)(t:TA):TE:=λσ H Q=>t σ H λvs H1=>sp (vs++dvs) H1 Q E
def JR(C:Addr)(m:Mj)(sp:Sp)(dvs:List V)(E:XK)(ta:TE)(t:TA):TE:=λσ H Q=>ta σ H λx H1=>∃a dx fs,x=.ref a/\H1 a=some (.ins C dx fs)/\fs.lookup m=none∧
 t σ H1 λvs H2=>sp (x::(vs++dvs)) H2 Q E
def JS(C:Addr)(sp:Sp)(dvs:List V)(E:XK)(t:TA):TE:=λσ H Q=>t σ H λvs H1=>∀x dx,H1 x=none->H1 dx=none->dx≠x→
 sp (.ref x::(vs++dvs)) (upd (upd H1 dx (.own x)) x (.ins C dx [])) (λv H2=>v=.non/\Q (.ref x) H2) E
def aV(K:Fg)(fd:LS)(ps:List Mj)(ds:List Value):Prop:=
 ∀(s:LV) (us:List Value),K.In s.heap->(us++ds).length=ps.length->QH s fd ⟨us,[]⟩ (ps.zip (us++ds))
theorem aV.all{K:Fg}{fd:LS}{ps:List Mj}(h:∀us:List Value,us.length=ps.length->Ta fd ⟨us,[]⟩=Nt (ps.zip us)):aV K fd ps []:=λs us _ hl=>by
 rw[NF] at hl ⊢;exact .of_eq (h us hl)
def gX(CX:qm)(X:Cx)(E:XK):Prop:=∀(pins:cy) (σ:St) (H:Hp) (s:LV) (e:Value) (s':LV),Inv X pins σ H s->CX X.stack H s E e s'->X.xe e s'
section
variable {X:Cx}{CX:qm}{k:Nat}{f C:Addr}{fd:LS}{ps:List Mj}{sp:Sp}{dvs:List V}{ds:List Value}{E:XK}{x m:Mj}{p pos apos:Oo}{e o:Mu}{es:List Mu}{ta:TE}{t:TA}
theorem Ei{pins:cy}{σ:St}{H:Hp}{s:LV}{Q:VK}{us:List Value}{vs:List V}(F:bD X.prog X.w X.K X.mg X.base CX k f fd ps sp)(hr:cZ k X.A)(hb:aV X.K fd ps ds)(hd:bj dvs ds)(hx:gX CX X E)
  (I:Inv X pins σ H s) (r:bj vs us) (h:sp (vs++dvs) H Q E):L6 (Ma X.prog X.w) X.A (call (.ref f) us) (EP X pins σ Q) X.xe s:=by
 have r2:bj (vs++dvs) (us++ds):=r.append hd;have hl:(us++ds).length=ps.length:=by rw[←r2.length];exact F.len _ _ _ _ h
 refine Pt (OU (F.run X.A X.stack s H ⟨us,[]⟩ (us++ds) (vs++dvs) Q E hr I.env0 (hb s us I.kIn hl) r2 h) λr s' hq=>?_)
 cases r with
 |error e=>exact hx pins σ H s e s' I hq
 |ok fl=>
  cases fl with
  |ret u=>exact I.after hq
  |next=>exact MY hq
  |brk=>exact MY hq
  |cont=>exact MY hq
theorem B5(F:bD X.prog X.w X.K X.mg X.base CX k f fd ps sp)(hr:cZ k X.A)(hg:Gl X x)(hm:X.mg x=some (.ref f))(hk:PySem.W.keepIn X.K (.ref f)=true)(hb:aV X.K fd ps ds)(hd:bj dvs ds)(hx:gX CX X E)
  (ha:PA X (e::es) t) (hdb:(x==("__debug__" : Mj))=false:=by decide) (he:L4 (e::es) X.env=(false,eval e X.env)::L4 es X.env:=by rfl) (hpl:(Ol pos (L4 es X.env)).any (·.1)=false:=by rfl) :
  PE X (.Call (.Name x p) (e::es) [] pos) (qD sp dvs E t):=by
 intro pins s σ H Q I h;refine NZ (iB I hg hm ?_ hdb);refine Tb (h₀:=X.base) I.ok.mod.kin hk (cA (ha pos pins s σ H _ I h) λus s1 ⟨vs,H1,I1,r,q⟩=>⟨I1.kIn,?_⟩) he hpl;exact Ei F hr hb hd hx I1 r q
structure Mk(K:Fg)(C f:Addr):Prop where
 makes:makesIn K C=true
 init:PySem.W.findIn K (.ref C) "__init__"=some (some (.ref f))
 fn:isFn K (.ref f)=true
 kp:PySem.W.keepIn K (.ref C)=true
end
def PK(X:Cx)(kws:List PP)(t:TA):Prop:=
 ∀(pos:Oo) (pins:cy) (s:LV) (σ:St) (H:Hp) (Q:List V->Hp->Prop),Inv X pins σ H s->t σ H Q->L6 (Ma X.prog X.w) X.A (evalAll ((R7 pos (Qd kws X.env)).map (·.2))) (AP X pins σ Q) X.xe s
section
variable {X:Cx}{CX:qm}{k:Nat}{f C:Addr}{fd:LS}{ps ks:List Mj}{sp:Sp}{E:XK}{x m:Mj}{p pos apos kpos:Oo}{e o:Mu}{es:List Mu}{kws:List PP}{te ta:TE}{t tk:TA}{nm:Option Mj}
structure JB(K:Fg)(fd:LS)(ps ks:List Mj)(g:List Value->List Value->List Value)(gV:List V->List V->List V):Prop where
 to:∀(s:LV) (us ws:List Value),K.In s.heap->(g us ws).length=ps.length->QH s fd ⟨us,ks.zip ws⟩ (ps.zip (g us ws))
 rel:∀{vs:List V} {us:List Value} {zs:List V} {ws:List Value},bj vs us->bj zs ws->bj (gV vs zs) (g us ws)
def IY(sp:Sp)(gV:List V->List V->List V)(E:XK)(t tk:TA):TE:=λσ H Q=>t σ H λvs H1=>tk σ H1 λzs H2=>sp (gV vs zs) H2 Q E
variable {g:List Value->List Value->List Value}{gV:List V->List V->List V}
end
structure aK(N P:List Mj)(sc:OH):Prop where
 kind:sc.kind=.function
 co:sc.isCoroutine=false
 gen:sc.isGenerator=false
 nd:N.Nodup
 pre:N.take P.length=P
 par:∀x∈P,sc.names.lookup x=some .local∨sc.names.lookup x=some .cell
 nofree:∀y∈sc.names,y.2≠.free
theorem oH{kindOf:Mj->Option O3}{x:Mj}:∀{binds:List (Mj×Value)} {m:Mj->Option Value},(∀v,(x,v)∉binds)->SG kindOf binds m x=m x
 | [],_,_=>rfl
 | (n,v)::r,m,h=>by
  unfold SG;rw[oH λw hw=>h w (L3 _ hw)]
  split
  ·have:x≠n:=by rintro rfl;exact h v LY
   simp[this]
  ·rfl
theorem oJ{kindOf:Mj->Option O3}{x:Mj}:∀{binds:List (Mj×Value)} {m:Mj->Option Value},(∀v,(x,v)∉binds)->SH kindOf binds m x=m x
 | [],_,_=>rfl
 | (n,v)::r,m,h=>by
  unfold SH;rw[oJ λw hw=>h w (L3 _ hw)]
  split
  ·rfl
  ·have:x≠n:=by rintro rfl;exact h v LY
   simp[this]
theorem oI{kindOf:Mj->Option O3}{x:Mj}{v:Value}:∀{P:List Mj} {vs:List Value} {i:Nat} {m:Mj->Option Value},P.Nodup->P[i]?=some x->vs[i]?=some v->kindOf x=some .local→
  SG kindOf (P.zip vs) m x=some v
 | [],_,_,_,_,h,_,_=>by simp at h
 |_::_,[],_,_,_,_,h,_=>by simp at h
 |p::P,w::vs,0,m,nd,h1,h2,hk=>by
  simp at h1 h2;subst h1;subst h2;show SG kindOf ((p,w)::P.zip vs) m p=_;unfold SG;rw[oH λv hv=>(MU.mp nd).1 (RM hv).1,if_pos hk];simp
 |p::P,w::vs,i+1,m,nd,h1,h2,hk=>by
  show SG kindOf ((p,w)::P.zip vs) m x=_;unfold SG;exact oI (i:=i) (MU.mp nd).2 (by simpa using h1) (by simpa using h2) hk
theorem oK{kindOf:Mj->Option O3}{x:Mj}{v:Value}:∀{P:List Mj} {vs:List Value} {i:Nat} {m:Mj->Option Value},P.Nodup->P[i]?=some x->vs[i]?=some v->kindOf x≠some .local→
  SH kindOf (P.zip vs) m x=some v
 | [],_,_,_,_,h,_,_=>by simp at h
 |_::_,[],_,_,_,_,h,_=>by simp at h
 |p::P,w::vs,0,m,nd,h1,h2,hk=>by
  simp at h1 h2;subst h1;subst h2;show SH kindOf ((p,w)::P.zip vs) m p=_;unfold SH;rw[oJ λv hv=>(MU.mp nd).1 (RM hv).1,if_neg hk];simp
 |p::P,w::vs,i+1,m,nd,h1,h2,hk=>by
  show SH kindOf ((p,w)::P.zip vs) m x=_;unfold SH;exact oK (i:=i) (MU.mp nd).2 (by simpa using h1) (by simpa using h2) hk
def fT(N:List Mj)(vs:List V):St:=vs.map some++MC (N.length-vs.length) none
def bL(CX:qm)(P:Mo)(w:MD)(K:Fg)(mg:Mj->Option Value)(base:MA)(N:List Mj)(qual:Mj)(scope:OH)(f:Addr)(cd:Value)(A:Mq)(outer:List R0)(s:LV)(H:Hp)(E:XK):Cx where
 prog:=P
 w:=w
 K:=K
 mg:=mg
 base:=base
 A:=A.deeper (Pu qual scope s.heap.objs.size f cd)
 N:=N
 s₀:=s
 H₀:=H
 env:=Pu qual scope s.heap.objs.size f cd
 outer:=outer
 stack:=Pu qual scope s.heap.objs.size f cd::outer
 ex:=[]
 calm:=true
 fn:=λ_=>true
 pn:=[]
 xe:=λe s'=>L6 (Ma P w) (A.deeper (Pu qual scope s.heap.objs.size f cd)) (SR (Pu qual scope s.heap.objs.size f cd) e) (λ_ s''=>CX outer H s E e s'') (λe' s''=>CX outer H s E e' s'') s'
theorem rT{sc:OH}(h:sc.names.lookup x=some .cell):∃c,(Pe n sc.names []).lookup x=some c:=by
 have q:=Q5 sc.names n [] (.inl h);exact Nm.mp q
theorem ot{CX:qm}{P:Mo}{w:MD}{K:Fg}{mg:Mj->Option Value}{base:MA}{N ps:List Mj}{qual:Mj}{scope:OH}{f:Addr}{cd:Value}{A:Mq}{outer:List R0}{s s1:LV}{H:Hp}{E:XK}{us:List Value}{vs:List V}
  (S:aK N ps scope) (hd:A.handled=none) (e0:ku P w K mg base A outer s H) (hl:vs.length=ps.length) (r:bj vs us)
  (x:InCallC s s.heap.objs.size (SG (Pu qual scope s.heap.objs.size f cd).kindOf (ps.zip us) λ_=>none) (Pe (s.heap.objs.size+1) scope.names []) (SH (Pu qual scope s.heap.objs.size f cd).kindOf (ps.zip us) λ_=>none) s1) :
  Inv (bL CX P w K mg base N qual scope f cd A outer s H E) [] (fT N vs) H s1:=by
 have hpl:ps.length≤N.length:=by have:=congrArg length S.pre;rw[Of] at this;omega
 obtain⟨h1,tk,rfl,hk⟩:=x.done;have noA:∀b:Addr,b∉(bL CX P w K mg base N qual scope f cd A outer s H E).ex:=λb z=>absurd (show b∈([]:List Addr) from z) (by simp)
 refine⟨⟨e0.mod,S.kind,Z,Z,LN _,λy z c h1 h2=>?_,λy hy=>?_,λy c _ h=>?_,λ_=>hd,Mq.frames_deeper e0.frames,.inr ⟨Z,Z⟩,λb z=>absurd z (noA b),e0.bs,e0.bsz,λb _ _=>noA b,λb z=>absurd z (noA b),e0.funs,e0.frf⟩,
  rfl,e0.bare,Un.kept hk,⟨_,x.toInCall.ns,λi y v h1 h2 h3=>?_⟩,λy c h=>⟨_,x.cell y c h⟩,e0.hok.fresh (LN _),λy c h=>?_,λp hp=>absurd (show p∈([]:cy) from hp) (by simp),e0.hok.kept hk,?_⟩
 ·exact name_of_addr x.apart (PySem.mem_of_lookup h1) (PySem.mem_of_lookup h2)
 ·have hy:scope.names.lookup y=some .cell∨scope.names.lookup y=some .free:=hy;rcases hy with hy|hy
  ·exact rT hy
  ·exact absurd Z (S.nofree _ (PySem.mem_of_lookup hy))
 ·exact NH (x.above y c (PySem.mem_of_lookup h))
 ·have hi:i<vs.length:=by
   unfold fT at h2;by_cases hi:i<vs.length
   ·exact hi
   ·rw[QY (by simpa using hi)] at h2;rw[O8] at h2
    split at h2<;>cases h2
  have ha:vs[i]?=some v:=by
   unfold fT at h2;rw[OO (by simpa using hi),LX] at h2
   cases e:vs[i]? with
   |none=>rw[e] at h2;cases h2
   |some a=>rw[e] at h2;cases h2;rfl
  obtain⟨u,hu,rv⟩:=r.get ha;have hp:ps[i]?=some y:=by
   rw[←S.pre,getElem?_take_of_lt (by omega)];exact h1
  have ndP:ps.Nodup:=by rw[←S.pre];exact S.nd.sublist (take_sublist _ _)
  refine⟨u,rv,?_⟩;rcases S.par y (LQ hp) with k|k
  ·exact .inl ⟨k,oI ndP hp hu k⟩
  ·obtain⟨c,e⟩:=rT (n:=s.heap.objs.size+1) k;refine .inr ⟨.inl k,c,e,?_⟩;have q:=x.cell y c e;rw[oK ndP hp hu (by show scope.names.lookup y≠_;rw[k];decide)] at q;exact q
 ·exact e0.hok.fresh (NH (x.above y c (PySem.mem_of_lookup h)))
 ·unfold fT;show _=N.length;rw[MO,LO,Pw];omega
theorem Dk{CX:qm}{P:Mo}{w:MD}{K:Fg}{mg:Mj->Option Value}{base:MA}{k:Nat}{f:Addr}{name qual:Mj}{params:TJ}{body:List Stmt}{scope:OH}{dV kV doc pm cdv ct oc:Value}{an od:Option Addr}
  {osl:Array (Option Value)} {N ps:List Mj} {sp:Sp} (lk:K.lookup f=some ⟨oc,od,.func (PySem.W.fnOf name qual params body scope dV kV doc pm an cdv ct),osl⟩) (hcd:PySem.W.codeIn K cdv qual=true) (S:aK N ps scope)
  (len:∀vs H Q E,sp vs H Q E->vs.length=ps.length)
  (hbody:∀(A:Mq) (outer:List R0) (s:LV) (H:Hp) (vs:List V) (Q:VK) (E:XK),cZ k (A.deeper (Pu qual scope s.heap.objs.size f cdv))->sp vs H Q E→
   ∃t,oP (bL CX P w K mg base N qual scope f cdv A outer s H E) body t/\t { nx:=λ_ H'=>Q .non H',rt:=Q} (fT N vs) H) :
  bD P w K mg base CX (k+1) f (PySem.W.fnOf name qual params body scope dV kV doc pm an cdv ct) ps sp:=by
 refine⟨len,λA outer s H args us vs Q E hr e0 hb r hsp=>?_⟩;have hl:=len _ _ _ _ hsp;have KX:K.In s.heap:=e0.mod.kin.keeps λb o e=>(e0.bs b o e).1
 have lim:s.heap.NoLimit:=e0.mod.nolimit.keeps λb o e=>(e0.bs b o e).1
 have hkind:∀y∈ps.zip us,scope.names.lookup y.1=some .local∨(scope.names.lookup y.1=some .cell/\((Pe (s.heap.objs.size+1) scope.names []).lookup y.1).isSome=true):=λ⟨n,v⟩ hy=>by
  rcases S.par n (RM hy).1 with q|q
  ·exact .inl q
  ·exact .inr ⟨q,Q5 _ _ _ (.inl q)⟩
 refine QZ hr.depth (KX _ _ lk) Z S.co S.gen Z (codeRec_of KX hcd) (hb _ _ _ _ ?_);refine P1 S.kind hkind λenv he s1 x=>?_
 subst he;refine⟨lim.keeps x.toInCall.keep,codeAny_func ?_⟩;obtain⟨t,ht,hq⟩:=hbody A outer s H vs Q E (hr.deeper _) hsp;have I:Inv (bL CX P w K mg base N qual scope f cdv A outer s H E) [] (fT N vs) H s1:=ot S hr.hd e0 hl r x;refine Ng (ht [] s1 (fT N vs) H _ I hq) (λfl s' hs=>?_) λe s' hs=>hs
 have fin:∀{σ':St} {H':Hp} {v:V} {u:Value},Inv (bL CX P w K mg base N qual scope f cdv A outer s H E) [] σ' H' s'->bv v u->Q v H'->CE outer P w H s Q u s':=
  λ{σ' H' v u} J rv q=>⟨v,H',J.os,J.bare,J.base,J.hok,rv,q⟩
 cases fl with
 |ret u=>
  obtain⟨v,σ',H',J,rv,q⟩:=hs;exact fin J rv q
 |next=>
  obtain⟨σ',H',J,q⟩:=hs;exact fin (v:=V.non) (u:=Nf) J Z q
 |brk=>
  obtain⟨_,_,_,q⟩:=hs;exact MY q
 |cont=>
  obtain⟨_,_,_,q⟩:=hs;exact MY q
end L2
namespace L2
open PySem PySem.Spec PyProof.Rows
section
variable {X:Cx}{x:Mj}{p pos:Oo}{e:Mu}{es:List Mu}{t:TA}{id T:String}{r:List V->Hp->VK->Prop}
def Ir(r:List V->Hp->VK->Prop)(t:TA):TE:=λσ H Q=>t σ H λvs H1=>r vs H1 Q
theorem zT(hc:dX X (.builtin id) r)(hg:Gl X x)(hm:X.mg x=none)(hv:NG x=some (.builtin id))(ha:PA X (e::es) t)(hn:x ≠ "__name__" := by decide)(hdb:(x==("__debug__" : Mj))=false:=by decide)
  (he:L4 (e::es) X.env=(false,eval e X.env)::L4 es X.env:=by rfl) (hpl:(Ol pos (L4 es X.env)).any (·.1)=false:=by rfl):PE X (.Call (.Name x p) (e::es) [] pos) (Ir r t):=by
 intro pins s σ H Q I h;refine NZ (gj I hg hm hv ?_ hn hdb);exact PyProof.Rows.callWith_builtin1 (cA (ha pos pins s σ H _ I h) λus s1 ⟨vs,H1,I1,r1,q1⟩=>hc pins s1 σ H1 vs us Q I1 r1 q1) he hpl
theorem v3(hc:dX X (.type T) r)(hg:Gl X x)(hm:X.mg x=none)(hv:NG x=some (.type T))(ha:PA X (e::es) t)(hn:x ≠ "__name__" := by decide)(hdb:(x==("__debug__" : Mj))=false:=by decide)
  (he:L4 (e::es) X.env=(false,eval e X.env)::L4 es X.env:=by rfl) (hpl:(Ol pos (L4 es X.env)).any (·.1)=false:=by rfl):PE X (.Call (.Name x p) (e::es) [] pos) (Ir r t):=by
 intro pins s σ H Q I h;refine NZ (gj I hg hm hv ?_ hn hdb);exact MZ (cA (ha pos pins s σ H _ I h) λus s1 ⟨vs,H1,I1,r1,q1⟩=>hc pins s1 σ H1 vs us Q I1 r1 q1) he hpl
end
end L2
namespace HT
open PySem PyProof.Rows
def lexLt:List Int->List Int->Bool
 | [],[]=>false
 | [],_::_=>true
 |_::_,[]=>false
 |x::xs,y::ys=>if x=y then lexLt xs ys else decide (x<y)
theorem tO(x y:Int)(xs ys:List Int):lexLt (x::xs) (y::ys)=if x=y then lexLt xs ys else decide (x<y):=Z
theorem nG:lexLt [] []=false:=Z
theorem mJ(y:Int)(ys:List Int):lexLt [] (y::ys)=true:=Z
theorem mK(x:Int)(xs:List Int):lexLt (x::xs) []=false:=Z
theorem AE(A:Mq)(s:LV)(a:Int)(t:TX)(c:Int)(u:TX):∃e,RN A s (.int a t) (.int c u) e/\(e=true↔a=c):=
 ⟨(a==c),int_int a t c u,by simp⟩
theorem yY(A:Mq)(s:LV)(a:Int)(t:TX)(c:Int)(u:TX)(prog:Mo)(w:MD)(E:c5)(Q:c5)(h:Q (.bool (decide (a<c))) s) :
  L6 (Ma prog w) A (richCompare .Lt (.int a t) (.int c u)) Q E s:=
 (PyProof.Rows.lt_int h:L6 (Ma prog w) A (ML .Lt (.int a t) (.int c u)) Q E s)
section
open PySem.SeqAt
open PySem.AutoSeq1 (wpAny_loadPart')
open PySem.MeetsSeq PySem.MeetsSeq2 PySem.MeetsSeq3
theorem np(l b:Addr)(items items2:Array Value)(n n2:Nat)(dd dd2:Option Addr)(sl sl2:Array (Option Value))(ns ms:List Int)(hi:N8 items.toList ns)(hj:N8 items2.toList ms) :
  Meets (NJ.«tuple.__lt__» ⟨[.ref l,.ref b],[]⟩)
   (λ_ R s=>s.heap.get? l=some { cls:=.type "tuple",dict:=dd,data:=.seq items n,slots:=sl}/\s.heap.get? b=some { cls:=.type "tuple",dict:=dd2,data:=.seq items2 n2,slots:=sl2}∧
    R (.ok (.ret (.bool (lexLt ns ms)))) s):=
 .of_wp λprog w A R s h=>by
  obtain⟨hp,g,d,tk,os⟩:=s;obtain⟨hl,hb,h⟩:=h;have f2:=AutoSeq1.sub_tuple_tuple;have z1:items.size=ns.length:=by rw[←hi.length];simp
  have z2:items2.size=ms.length:=by rw[←hj.length];simp
  wp_walk using wpAny_loadPart' hl,wpAny_loadPart' hb,wpAny_forIn_list _ (λcV b s'=>b.1=none/\s'=⟨hp,g,d,tk,os⟩/\∃(vs ws:List Value) (ns' ms':List Int),cV=vs.zip ws∧
   N8 vs ns'/\N8 ws ms'/\ns'.length+items2.size=ms'.length+items.size/\R (.ok (.ret (.bool (lexLt ns' ms')))) ⟨hp,g,d,tk,os⟩) _
  case turn=>
   rintro⟨y,x⟩ cV b s' ⟨hb',rfl,vs,ws,ns',ms',hz,hvi,hwi,hlen,hR⟩
   cases hvi with
   |nil=>rw[zip_nil_left] at hz;cases hz
   |cons a t hvi'=>
    cases hwi with
    |nil=>rw[zip_nil_right] at hz;cases hz
    |cons c u hwi'=>
     rw[zip_cons_cons] at hz;injection hz with hyx hrest;injection hyx with hy hx;subst hy hx;rw[tO] at hR;simp only[MS] at hlen;obtain⟨e,he,hiff⟩:=AE A.in1 ⟨hp,g,d,tk,os⟩ a t c u;refine LM (he prog w _ _ ?_)
     cases e with
     |true=>
      rw[if_pos (hiff.mp Z)] at hR
      wp_walk
      exact⟨Z,Z,_,_,_,_,hrest,hvi',hwi',by omega,hR⟩
     |false=>
      rw[if_neg (λq=>absurd (hiff.mpr q) L5)] at hR;have hri:=yY A.in1 ⟨hp,g,d,tk,os⟩ a t c u prog w
      wp_walk using hri
      exact⟨_,Z,by simpa using hR⟩
  case fin=>
   rintro⟨b1,b2⟩ s' ⟨hb',rfl,vs,ws,ns',ms',hz,hvi,hwi,hlen,hR⟩;simp only at hb';subst hb';have hv:lexLt ns' ms'=decide (items.size<items2.size):=by
    cases hvi with
    |nil=>
     cases hwi with
     |nil=>
      simp only[RO] at hlen;rw[nG];exact(decide_eq_false (by omega)).symm
     |cons c u hw=>
      simp only[RO,MS] at hlen;rw[mJ];exact(decide_eq_true (by omega)).symm
    |cons a t hv=>
     cases hwi with
     |nil=>
      simp only[RO,MS] at hlen;rw[mK];exact(decide_eq_false (by omega)).symm
     |cons c u hw=>
      rw[zip_cons_cons] at hz
      cases hz
   rw[hv] at hR
   wp_walk
   exact⟨_,Z,by simpa [tupleCompareSizes] using hR⟩
  case h=>
   exact⟨Z,Z,items.toList,items2.toList,ns,ms,Z,hi,hj,by omega,h⟩
end
section
variable {prog:Mo}{w:MD}{A:Mq}{E:c5}{s:LV}
theorem lt_tupInts{l b:Addr}{items items2:Array Value}{ns ms:List Int}{Q:c5}(hl:R1 s.heap l items)(hb:R1 s.heap b items2)(hi:N8 items.toList ns)(hj:N8 items2.toList ms)
  (hu:A.units<cLine) (h:Q (.bool (lexLt ns ms)) s):L6 (Ma prog w) A (ML .Lt (.ref l) (.ref b)) Q E s:=by
 obtain⟨⟨cls,dd,data,sl⟩,ho,hc,n,hd⟩:=id hl;obtain⟨⟨cls2,dd2,data2,sl2⟩,ho2,hc2,n2,hd2⟩:=id hb;simp only at hc hd hc2 hd2;subst hc hd hc2 hd2;exact richCompare_meets_room (op:=.Lt) ⟨_,ho,Z⟩ ⟨_,ho2,Z⟩ slot_tuple_lt entry_tuple_lt (args_tuple_lt_2 _ _) (np l b items items2 n n2 dd dd2 sl sl2 ns ms hi hj)
  ⟨ho,ho2,show OM (lexLt ns ms)≠notImplemented/\Q (.bool (lexLt ns ms)) s from⟨(λx=>nomatch x),h⟩⟩ hu
def sIx(n d:Nat):Option Int->Nat
 |none=>d
 |some v=>if v<0 then(v+(n:Int)).toNat else min v.toNat n
theorem sIx_none(n d:Nat):sIx n d none=d:=Z
theorem sIx_nat(n d k:Nat):sIx n d (some (k:Int))=min k n:=by
 show(if(k:Int)<0 then((k:Int)+(n:Int)).toNat else min (k:Int).toNat n)=min k n;rw[if_neg (by omega),RA]
theorem Eh(n d:Nat)(hd:d≤n)(o:Option Int):sIx n d o≤n:=by
 cases o with
 |none=>exact hd
 |some v=>
  show(if v<0 then(v+(n:Int)).toNat else min v.toNat n)≤n;by_cases hv:v<0
  ·rw[if_pos hv];omega
  ·rw[if_neg hv];exact min_le_right _ _
theorem vc(v:Int)(n d:Nat):(if v<0 then max (v+(n:Int)) 0 else min v (n:Int))=((sIx n d (some v):Nat):Int):=by
 show(if v<0 then max (v+(n:Int)) 0 else min v (n:Int))=(((if v<0 then(v+(n:Int)).toNat else min v.toNat n):Nat):Int);by_cases hv:v<0
 ·simp only[if_pos hv];omega
 ·simp only[if_neg hv];omega
theorem ub(lo hi:Option Int)(n:Nat):SI lo hi 1 (n:Int)=(((sIx n 0 lo:Nat):Int),((sIx n n hi:Nat):Int)):=by
 have h1:¬((1:Int)<0):=by omega
 unfold SI;simp only[h1,if_false];refine TZ ?_ ?_
 ·cases lo with
  |none=>rfl
  |some v=>exact vc v n 0
 ·cases hi with
  |none=>rfl
  |some v=>exact vc v n n
theorem tw(i j:Nat):Q6 (i:Int) (j:Int) 1=j-i:=by
 unfold Q6;have h1:(1:Int)>0:=by omega
 simp only[h1,if_true,Tc]
 split<;>omega
theorem lV(p:QJ v o)(h:Q o s):L6 (Ma prog w) A (slicePartIndex v) Q E s:=by
 cases p with
 |none=>exact slicePart_none h
 |int i t=>exact slicePart_int h
theorem gu{sl:Addr}{vl vu:Value}{lo hi:Option Int}{n:Nat}{Q:Int×Int×Nat->LV->Prop}(hs:s.heap.IsSliceOf sl vl vu .none)(pl:QJ vl lo)(pu:QJ vu hi)
  (h:Q (((sIx n 0 lo:Nat):Int),1,sIx n n hi-sIx n 0 lo) s):L6 (Ma prog w) A (sliceApplied (.ref sl) (Nt (n:Int))) Q E s:=by
 obtain⟨os,hos,hcs,hds⟩:=id hs;unfold sliceApplied sliceFields;refine LM (LM (ND hos hds (x:=vl) Z (LM (ND hos hds (x:=vu) Z (LM (ND hos hds (x:=.none) Z (L1 ?_)))))));refine LM (slicePart_none ?_);show L6 _ _ (if((1:Int)==0)=true then _ else _) _ _ s;rw[if_neg (by decide)];refine LM (lV pl (LM (lV pu (LM (L1 ?_)))));show L6 _ _ (match SI lo hi 1 (n:Int) with | (lo,hi)=>Nt (lo,(1:Int),Q6 lo hi 1)) _ _ s;rw[ub lo hi n];show L6 _ _ (Nt (((sIx n 0 lo:Nat):Int),(1:Int),Q6 ((sIx n 0 lo:Nat):Int) ((sIx n n hi:Nat):Int) 1)) _ _ s;rw[tw];exact L1 h
theorem zy(xs:Array Value)(i k:Nat):((range k).filterMap λ(m:Nat)=>xs[((i:Int)+(m:Int)*1).toNat]?).toArray=((xs.toList.drop i).take k).toArray:=by
 have e:(λ(m:Nat)=>xs[((i:Int)+(m:Int)*1).toNat]?)=λm=>xs[i+m]?:=by
  funext m
  have:((i:Int)+(m:Int)*1).toNat=i+m:=by omega
  rw[this]
 rw[e];have:=pick_run xs i k;rw[filterMap_map] at this;have e2:((λx=>xs[x]?)∘λx=>i+x)=λm=>xs[i+m]?:=Z
 rw[e2] at this;rw[this]
theorem getItem_tuple_cut{t sl:Addr}{items:Array Value}{vl vu:Value}{lo hi:Option Int}{Q:c5}(ht:R1 s.heap t items)(hs:s.heap.IsSliceOf sl vl vu .none)(pl:QJ vl lo)(pu:QJ vu hi)
  (hw:¬(sIx items.size 0 lo=0/\sIx items.size items.size hi=items.size))
  (h:Q (.ref s.heap.objs.size) { s with heap:=s.heap.push { cls:=.type "tuple",data:=.seq ((items.toList.drop (sIx items.size 0 lo)).take (sIx items.size items.size hi-sIx items.size 0 lo)).toArray} })
  (hsz:items.size≤sizeLine):L6 (Ma prog w) A (PN (.ref t) (.ref sl)) Q E s:=by
 have htake:sizeOk (.seq ((items.toList.drop (sIx items.size 0 lo)).take (sIx items.size items.size hi-sIx items.size 0 lo)).toArray):=by
  show((items.toList.drop (sIx items.size 0 lo)).take (sIx items.size items.size hi-sIx items.size 0 lo)).toArray.size≤sizeLine;rw[Mz,Of,PD,NU];omega
 have hj:sIx items.size items.size hi≤items.size:=Eh _ _ (LN _) hi;obtain⟨os,hos,hcs,hds⟩:=id hs;have hTs:s.TypeIs (.ref sl) "slice" := ⟨os,hos,hcs⟩;unfold PN
 try with_reducible refine wpAny_holding ?_
 first|refine LM (L1 ?_)|skip
 refine LM (R8 ht.typeIs (by decide) ?_);refine LM (Np (name:=Og "__getitem__") ht.typeIs M0 (NX M0 ht.typeIs Rr ?_ (RP _ _)))
 show L6 _ _ (tupleItemsOf (.ref t) >>= _) _ _ s;refine LM (tupleItemsOf_ ht ?_);refine LM (QK hTs ?_);rw[if_pos (by decide)];refine LM (gu hs pl pu ?_);have hno:¬((((sIx items.size 0 lo:Nat):Int)==0&&(1:Int)==1&&(sIx items.size items.size hi-sIx items.size 0 lo)==items.size)=true):=by
  intro q;rw[ME,ME] at q;have q1:((sIx items.size 0 lo:Nat):Int)=0:=PX q.1.1;have q2:sIx items.size items.size hi-sIx items.size 0 lo=items.size:=PX q.2;exact hw ⟨by omega,by omega⟩
 show L6 _ _ (if(((sIx items.size 0 lo:Nat):Int)==0&&(1:Int)==1&&(sIx items.size items.size hi-sIx items.size 0 lo)==items.size)=true then _ else _) _ _ s;rw[if_neg hno,zy]
 first
  |exact LM (m:=P2 _) (MQ (L1 ⟨_,rfl,L1 h⟩) htake)
  |exact LM (m:=P2 _) (MQ (LM (L1 (L1 ⟨_,rfl,L1 h⟩))) htake)
  |exact LM (LM (m:=P2 _) (MQ (L1 (L1 ⟨_,rfl,L1 h⟩)) htake))
  |exact LM (LM (m:=P2 _) (MQ (L1 ⟨_,rfl,L1 h⟩) htake))
end
end HT
namespace L2
open PySem PySem.Spec PyProof.Rows
abbrev TO:=St->Hp->(Option Int->Hp->Prop)->Prop
def PO(X:Cx)(e:Option Mu)(t:TO):Prop:=
 ∀(pins:cy) (s:LV) (σ:St) (H:Hp) (Q:Option Int->Hp->Prop),Inv X pins σ H s->t σ H Q→
  L6 (Ma X.prog X.w) X.A (evalPart e X.env) (λu s'=>∃o H',Inv X pins σ H' s'/\QJ u o/\Q o H') X.xe s
def uq:TO:=λ_ H Q=>Q none H
def CW(t:TE):TO:=λσ H Q=>t σ H λx H1=>∃i,x=.int i/\Q (some i) H1
theorem mS:∀{us:List Value},bj (ns.map V.int) us->N8 us ns:=by
 induction ns with
 |nil=>intro us r;rw[map_nil] at r;cases r;exact .nil
 |cons n ns ih=>
  intro us r;rw[M3] at r
  cases r with
  |cons r1 r2=>
   obtain⟨t,e⟩:=r1;subst e;exact .cons n t (ih r2)
section
variable {X:Cx}{e:Mu}{te:TE}{lo hi:Option Mu}{tl th:TO}{pos p2:Oo}
theorem BQ:PO X none uq:=by
 intro pins s σ H Q I h;rw[evalPart_none];exact L1 ⟨none,H,I,.none,h⟩
theorem BP(h:PE X e te):PO X (some e) (CW te):=by
 intro pins s σ H Q I hw;rw[evalPart_some];refine cA (h pins s σ H _ I hw) λu s1 ⟨x,H1,I1,r1,q1⟩=>?_
 obtain⟨i,rfl,q⟩:=q1;obtain⟨t,rfl⟩:=r1;exact⟨some i,H1,I1,.int i t,q⟩
def wV(X:Cx)(r:V->Option Int->Option Int->Hp->VK->Prop):Prop:=
 ∀(pins:cy) (s:LV) (σ:St) (H:Hp) (x:V) (v vl vu:Value) (lo hi:Option Int) (sl:Addr) (Q:VK),Inv X pins σ H s->bv x v->s.heap.IsSliceOf sl vl vu .none->QJ vl lo->QJ vu hi->r x lo hi H Q→
  ∃T id,typeLookup (.type T) "__getitem__"=Nt (some (.builtin id))/\s.TypeIs v T/\L6 (Ma X.prog X.w) X.A (PN v (.ref sl)) (EP X pins σ Q) X.xe s
theorem wV.or(h:wV X r)(h':wV X r'):wV X (λx lo hi H Q=>r x lo hi H Q∨r' x lo hi H Q):=by
 intro pins s σ H x v vl vu lo hi sl Q I rx hs pl pu q;rcases q with q|q
 ·exact h pins s σ H x v vl vu lo hi sl Q I rx hs pl pu q
 ·exact h' pins s σ H x v vl vu lo hi sl Q I rx hs pl pu q
def JM(r:V->Option Int->Option Int->Hp->VK->Prop)(te:TE)(tl th:TO):TE:=λσ H Q=>te σ H λx H1=>tl σ H1 λl H2=>th σ H2 λu H3=>r x l u H3 Q
theorem zM(hr:wV X r)(he:PE X e te)(hl:PO X lo tl)(hu:PO X hi th):PE X (.Subscript e (.Slice lo hi none p2) pos) (JM r te tl th):=by
 intro pins s σ H Q I h;refine Subscript_ (cA (he pins s σ H _ I h) λv s1 ⟨x,H1,I1,r1,q1⟩=>?_);refine wpAny_Slice (cA (hl pins s1 σ H1 _ I1 q1) λvl s2 ⟨l,H2,I2,pl,q2⟩=>cA (hu pins s2 σ H2 _ I2 q2) λvu s3 ⟨u,H3,I3,pu,q3⟩=>?_);rw[evalPart_none];refine L1 ?_;have I4:Inv X pins σ H3 { s3 with heap:=s3.heap.push { cls:=.type "slice",data:=.fields #[vl,vu,.none]} }:=I3.kept (t':=s3.toks) λb ob q=>LU _ q
 obtain⟨T,id,hT,ht,hg⟩:=hr pins { s3 with heap:=s3.heap.push { cls:=.type "slice",data:=.fields #[vl,vu,.none]} } σ H3 x v vl vu l u s3.heap.objs.size Q I4 r1 (MA.IsSliceOf.new ..) pl pu q3;show L6 (Ma X.prog X.w) X.A (subscriptTail e (.Slice lo hi none p2) v (.ref s3.heap.objs.size)) (EP X pins σ Q) X.xe { s3 with heap:=s3.heap.push { cls:=.type "slice",data:=.fields #[vl,vu,.none]} };exact tail_any (ops:=[.ref s3.heap.objs.size,v]) ht hT hg (by with_unfolding_all rfl)
def jP(xs:List V)(lo hi:Option Int):List V:=(xs.drop (HT.sIx xs.length 0 lo)).take (HT.sIx xs.length xs.length hi-HT.sIx xs.length 0 lo)
theorem kJ(xs:List V)(lo hi:Option Int):(jP xs lo hi).length≤xs.length:=by
 unfold jP;rw[Of,PD];omega
def GU(K:Fg):V->Option Int->Option Int->Hp->VK->Prop:=λx lo hi H Q=>∃a xs,x=.ref a/\bH K H a xs∧
 ¬(HT.sIx xs.length 0 lo=0/\HT.sIx xs.length xs.length hi=xs.length)/\∀p,H p=none->Q (.ref p) (upd H p (.tup (jP xs lo hi)))
theorem DH:wV X (GU X.K):=by
 intro pins s σ H x v vl vu lo hi sl Q I rx hs pl pu h;obtain⟨a,xs,rfl,hx,hw,q⟩:=h
 cases rx
 obtain⟨its,r,ht,hz⟩:=I.tuple hx;have hlen:its.toArray.size=xs.length:=by rw[Mz];exact r.length.symm
 refine⟨"tuple",_,M0.lookup,ht.typeIs,?_⟩;refine HT.getItem_tuple_cut ht hs pl pu (by rw[hlen];exact hw) ?_ (by rw[hlen];exact hz);rw[hlen];refine⟨.ref s.heap.objs.size,_,I.laid (t':=s.toks) (o:=.tup (jP xs lo hi)) (λb ob q=>LU _ q) (LN _) ?_,Z,q _ (I.hok.fresh (LN _))⟩;exact⟨MG (kJ xs lo hi) hz,_,(r.drop (HT.sIx xs.length 0 lo)).take (HT.sIx xs.length xs.length hi-HT.sIx xs.length 0 lo),So _ _⟩
def GZ(K:Fg):R2:=λx y H Q=>∃a b ns ms,x=.ref a/\y=.ref b/\bH K H a (ns.map V.int)/\bH K H b (ms.map V.int)/\Q (.bl (HT.lexLt ns ms)) H
theorem ET(hu:X.A.units<cLine):gk X (ML .Lt) (GZ X.K):=by
 intro pins s σ H x y v u Q I rx ry h;obtain⟨a,b,ns,ms,rfl,rfl,ha,hb,q⟩:=h
 cases rx
 cases ry
 obtain⟨its,r1,p1,_⟩:=I.tuple ha;obtain⟨its2,r2,p2,_⟩:=I.tuple hb;have i1:N8 its.toArray.toList ns:=mS r1;have i2:N8 its2.toArray.toList ms:=mS r2;exact HT.lt_tupInts p1 p2 i1 i2 hu ⟨.bl (HT.lexLt ns ms),H,I,Z,q⟩
def J9(K:Fg):R2:=λx y H Q=>∃a b xs ys,x=.ref a/\y=.ref b/\bH K H a xs/\bH K H b ys/\xs≠[]/\xs.length+ys.length≤sizeLine∧
 (ys=[]->Q (.ref a) H)/\(ys≠[]->∀p,H p=none->Q (.ref p) (upd H p (.tup (xs++ys))))
end
end L2
namespace L2
open PySem PySem.Spec PyProof.Rows
def Ao(n:Nat)(i:Int):Option Nat:=if 0≤i then(if i<n then some i.toNat else none) else if -(n:Int)≤i then some (i+n).toNat else none
def qi{α:Type}(xs:List α)(i:Int):Option α:=(Ao xs.length i).bind λj=>xs[j]?
theorem uT(h:Ao n i=some j):TK i n=some j/\j<n/\-(n:Int)≤i/\i<n:=by
 unfold Ao at h;by_cases h0:0≤i
 ·rw[if_pos h0] at h;by_cases h1:i<n
  ·rw[if_pos h1] at h;have e:i.toNat=j:=MB h;exact⟨by rw[SJ h0 h1,e],by omega,by omega,h1⟩
  ·rw[if_neg h1] at h;cases h
 ·rw[if_neg h0] at h;by_cases h1:-(n:Int)≤i
  ·rw[if_pos h1] at h;have e:(i+n).toNat=j:=MB h;exact⟨by rw[R9 (by omega) h1,e],by omega,h1,by omega⟩
  ·rw[if_neg h1] at h;cases h
theorem vf{xs:List α}(h:qi xs i=some v):∃j,TK i xs.length=some j/\xs[j]?=some v/\j<xs.length/\-(xs.length:Int)≤i/\i<xs.length:=by
 unfold qi at h
 cases e:Ao xs.length i with
 |none=>rw[e] at h;cases h
 |some j=>
  rw[e] at h;obtain⟨h1,h2,h3,h4⟩:=uT e;exact⟨j,h1,h,h2,h3,h4⟩
theorem aJ{α:Type}{xs:List α}{j:Nat}{v:α}(h:xs[j]?=some v):qi xs (j:Int)=some v:=by
 have hj:j<xs.length:=(LR.mp h).1;have e:Ao xs.length (j:Int)=some j:=by
  unfold Ao;rw[if_pos (by omega),if_pos (by omega)];simp
 unfold qi;rw[e];exact h
theorem m7(xs:List α)(v:α):qi (xs++[v]) (-1)=some v:=by
 have hl:(xs++[v]).length=xs.length+1:=by simp
 have e:Ao (xs++[v]).length (-1)=some xs.length:=by
  unfold Ao;rw[hl,if_neg (by decide),if_pos (by omega)]
  congr 1
  omega
 unfold qi;rw[e];show(xs++[v])[xs.length]?=some v;simp
def ql(b:Mu):Prop:=∀o i,Q3 b false o i=TR [o,i] (PN o i)
def Gk(X:Cx)(r:R2):Prop:=
 ∀(value slice:Mu) (pins:cy) (s:LV) (σ:St) (H:Hp) (x y:V) (v u:Value) (Q:VK),Inv X pins σ H s->bv x v->bv y u->r x y H Q→
  Q3 slice false v u=TR [v,u] (PN v u)->L6 (Ma X.prog X.w) X.A (subscriptTail value slice v u) (EP X pins σ Q) X.xe s
def IN(X:Cx)(id:String)(r:V->List V->Hp->VK->Prop):Prop:=
 ∀(pins:cy) (s:LV) (σ:St) (H:Hp) (x:V) (xs:List V) (v:Value) (us:List Value) (Q:VK),Inv X pins σ H s->bv x v->bj xs us->r x xs H Q→
  L6 (Ma X.prog X.w) X.A (call (.builtin id) (v::us)) (EP X pins σ Q) X.xe s
section
variable {X:Cx}{a b:Mu}{ta tb:TE}{pos:Oo}
theorem Hc(hr:Gk X r)(ha:PE X a ta)(hb:PE X b tb)(hs:ql b):PE X (.Subscript a b pos) (Bf r ta tb):=by
 intro pins s σ H Q I h;exact Subscript_ (Ga ha hb I h λv u s2 x y H2 I2 rx ry q=>hr a b pins s2 σ H2 x y v u Q I2 rx ry q (hs _ _))
def En(K:Fg):R2:=λx y H Q=>∃p xs i v,x=.ref p/\y=.int i/\aS K H p xs/\qi xs i=some v/\Q v H
def Em(K:Fg):R2:=λx y H Q=>∃p xs i v,x=.ref p/\y=.int i/\bH K H p xs/\qi xs i=some v/\Q v H
def Jd:R2:=λx y H Q=>∃z i c,x=.str z/\y=.int i/\z.length≤sizeLine/\qi z.cps.toList i=some c/\Q (.str ⟨#[c]⟩) H
theorem bt:Gk X (En X.K):=by
 intro value slice pins s σ H x y v u Q I rx ry h hs;obtain⟨p,xs,i,z,rfl,rfl,hq,he,q⟩:=h
 cases rx
 obtain⟨t,rfl⟩:=ry;obtain⟨its,r,pl,hz⟩:=I.list hq;obtain⟨j,h1,h2,h3,h4,h5⟩:=vf he;obtain⟨w,ew,rw'⟩:=r.get h2;have hl:=r.length;have hn:=pZ;have fin:EP X pins σ Q w s:=⟨z,H,I,rw',q⟩;by_cases h0:0≤i
 ·have hj:i.toNat=j:=by
   rw[SJ h0 h5] at h1;exact MB h1
  exact item_listR pl.isList h0 (by omega) (by rw[hj];simpa using ew) fin hs
 ·have hj:(i+(its.toArray.size:Int)).toNat=j:=by
   rw[R9 (by omega) h4] at h1;rw[Mz,←hl];exact MB h1
  exact QL (x:=w) pl.isList.typeIs Sa.lookup
   (wpAny_getItem_list_neg (Q:=λr s'=>r=w/\EP X pins σ Q r s') pl.isList (by omega) (by rw[Mz]<;>omega) (by omega) (by rw[hj];simpa using ew) ⟨Z,fin⟩) hs
theorem az:Gk X (Em X.K):=by
 intro value slice pins s σ H x y v u Q I rx ry h hs;obtain⟨p,xs,i,z,rfl,rfl,hq,he,q⟩:=h
 cases rx
 obtain⟨t,rfl⟩:=ry;obtain⟨its,r,pl,hz⟩:=I.tuple hq;obtain⟨j,h1,h2,h3,h4,h5⟩:=vf he;obtain⟨w,ew,rw'⟩:=r.get h2;have hl:=r.length;have hn:=pZ;have fin:EP X pins σ Q w s:=⟨z,H,I,rw',q⟩;exact QL (x:=w) pl.typeIs slot_tuple_getitem.lookup
  (getItem_tuple (j:=j) (Q:=λr s'=>r=w/\EP X pins σ Q r s') pl (by omega) (by omega) (by rw[Mz,←hl];exact h1) (by simpa using ew) ⟨Z,fin⟩) hs
def LC(K:Fg):R2:=λx y H Q=>En K x y H Q∨Em K x y H Q∨Jd x y H Q
theorem tJ(its:List Value)(n j:Nat)(u:Value):Obj.mapSeq (·.setIfInBounds j u) { cls:=.type "list",data:=.seq its.toArray n}={ cls:=.type "list",data:=.seq (its.set j u).toArray n}:=by
 simp[Obj.mapSeq]
theorem Inv.lst{pins:cy}{σ:St}{H:Hp}{s:LV}{p:Addr}{xs:List V}(I:Inv X pins σ H s)(h:H p=some (.lst xs)) :
  ∃(its:List Value) (n:Nat),bj xs its/\s.heap.get? p=some { cls:=.type "list",data:=.seq its.toArray n}/\xs.length≤sizeLine:=by
 obtain⟨z,its,n,r,e⟩:=I.hok p _ h;exact⟨its,n,r,e,z⟩
theorem Inv.lstUpd{pins:cy}{σ:St}{H:Hp}{s:LV}{p:Addr}{xs ys:List V}{its its':List Value}{n n':Nat}{f:Obj->Obj}(I:Inv X pins σ H s)(h:H p=some (.lst xs))
  (ho:s.heap.get? p=some { cls:=.type "list",data:=.seq its.toArray n}) (hf:f { cls:=.type "list",data:=.seq its.toArray n}={ cls:=.type "list",data:=.seq its'.toArray n'}) (r:bj ys its') (hz:ys.length≤sizeLine) (t:Nat) :
  Inv X pins σ (upd H p (.lst ys)) { s with heap:=s.heap.update p f,toks:=t}:=by
 have e:(s.heap.update p f).get? p=some { cls:=.type "list",data:=.seq its'.toArray n'}:=by
  rw[Os f ho (by rw[hf]<;>rfl),hf]
 refine I.write (x:=p) (e:=p) (by rw[h];trivial) (.inl Z) (λb u hb q=>(MI _ _ (NO hb)).trans q) ⟨_,e⟩ ?_;exact⟨hz,its',n',r,e⟩
def GV:V->V->V->Hp->(Hp->Prop)->Prop:=λo i v H Q=>∃p xs k j,o=.ref p/\i=.int k/\H p=some (.lst xs)/\Ao xs.length k=some j/\Q (upd H p (.lst (xs.set j v)))
theorem eh:Gh X GV:=by
 intro pins s σ H o i v ov iv u Q I ro ri rv h;obtain⟨p,xs,k,j,rfl,rfl,hp,hj,q⟩:=h
 cases ro
 obtain⟨t,rfl⟩:=ri;obtain⟨its,n,r,ho,hz⟩:=I.lst hp;obtain⟨h1,h2,h3,h4⟩:=uT hj;have hl:=r.length;have hn:=pZ;have I':Inv X pins σ (upd H p (.lst (xs.set j v))) { s with heap:=s.heap.update p (Obj.mapSeq (·.setIfInBounds j u))}:=
  I.lstUpd hp ho (tJ its n j u) (r.set rv j) (by rw[OP];exact hz) s.toks
 by_cases h0:0≤k
 ·have hk:k.toNat=j:=by
   rw[SJ h0 h4] at h1;exact MB h1
  exact ki_setAt ho h0 (by omega) (by rw[Mz,←hl];exact h4) (by rw[hk];exact⟨_,I',q⟩)
 ·have hk:(k+(its.toArray.size:Int)).toNat=j:=by
   rw[R9 (by omega) h3] at h1;rw[Mz,←hl];exact MB h1
  exact ki_setBack ho (by omega) (by rw[Mz,←hl];exact h3) (by omega) (by rw[hk];exact⟨_,I',q⟩)
theorem clB(i:Int)(n:Nat):max 0 (min (if i<0 then i+(n:Int) else i) (n:Int))=((if i<0 then (i+(n:Int)).toNat else min i.toNat n:Nat):Int):=by
 by_cases h:i<0
 ·rw[if_pos h,if_pos h,Int.min_eq_left (by omega),Int.toNat_eq_max,Int.max_comm]
 rw[if_neg h,if_neg h];obtain⟨k,rfl⟩:=Int.eq_ofNat_of_zero_le (Int.not_lt.mp h)
 rw[Int.toNat_natCast];rcases Nat.le_total k n with a|a
 ·rw[Nat.min_eq_left a,Int.min_eq_left (Int.ofNat_le.mpr a)];exact Int.max_eq_right (Int.natCast_nonneg _)
 rw[Nat.min_eq_right a,Int.min_eq_right (Int.ofNat_le.mpr a)];exact Int.max_eq_right (Int.natCast_nonneg _)
theorem pH(lo hi:Option Int)(n:Nat):(Pf lo hi none n).1=((HT.sIx n 0 lo:Nat):Int)/\(Pf lo hi none n).2.1=((HT.sIx n n hi:Nat):Int)/\(Pf lo hi none n).2.2=1:=by
 refine⟨?_,?_,Z⟩
 ·cases lo with
  |none=>rfl
  |some i=>exact clB i n
 cases hi with
 |none=>rfl
 |some i=>exact clB i n
theorem nE(its:List Value)(lo hi:Option Int):slicePick its.toArray lo hi none=((its.drop (HT.sIx its.length 0 lo)).take (HT.sIx its.length its.length hi-HT.sIx its.length 0 lo)).toArray:=by
 obtain⟨h1,h2,h3⟩:=pH lo hi its.toArray.size;unfold slicePick;rw[h1,h2,h3];simp only[sliceRange_one,pick_run,Mz]<;>rfl
def Jb(K:Fg):V->Option Int->Option Int->Hp->VK->Prop:=λx lo hi H Q=>∃a xs,x=.ref a/\aS K H a xs/\∀p,H p=none->Q (.ref p) (upd H p (.lst (jP xs lo hi)))
theorem Br:wV X (Jb X.K):=by
 intro pins s σ H x v vl vu lo hi sl Q I rx hs pl pu h;obtain⟨a,xs,rfl,hx,q⟩:=h
 cases rx
 obtain⟨its,r,ht,hz⟩:=I.list hx;have hlen:=r.length;refine⟨"list",_,Sa.lookup,ht.isList.typeIs,?_⟩;refine wpAny_getItem_list_slice ht.isList hs pl pu .none (by simp) ?_ (by rw[Mz]<;>omega);rw[nE,←hlen];refine⟨.ref s.heap.objs.size,_,I.laid (t':=s.toks) (o:=.lst (jP xs lo hi)) (λb ob q=>LU _ q) (LN _) ?_,Z,q _ (I.hok.fresh (LN _))⟩;exact⟨MG (kJ xs lo hi) hz,_,0,(r.drop (HT.sIx xs.length 0 lo)).take (HT.sIx xs.length xs.length hi-HT.sIx xs.length 0 lo),Mm _ Z⟩
def jM:V->Bool
 | .non=>true
 | .bl _=>true
 | .int _=>true
 | .str _=>true
 |_=>false
def Dl:V->V->Bool
 | .non,.non=>true
 | .bl a,.bl b=>a==b
 | .bl a,.int b=>(if a then 1 else 0)==b
 | .int a,.bl b=>a==(if b then 1 else 0)
 | .int a,.int b=>a==b
 | .str a,.str b=>a==b
 |_,_=>false
theorem FV(ry:bv y u)(rx:bv x v)(fy:jM y=true)(fx:jM x=true):RN A s u v (Dl y x):=by
 cases y with
 |non=>
  cases ry
  cases x with
  |non=>cases rx;exact RN.same _
  |bl b=>cases rx;exact none_bool b
  |int b=>obtain⟨t,rfl⟩:=rx;exact none_int b t
  |str b=>obtain⟨t,rfl⟩:=rx;exact none_str b t
  |_=>exact absurd (show false=true from fx) L5
 |bl a=>
  cases ry
  cases x with
  |non=>cases rx;exact bool_none a
  |bl b=>cases rx;exact bool_bool a b
  |int b=>obtain⟨t,rfl⟩:=rx;exact bool_int a b t
  |str b=>obtain⟨t,rfl⟩:=rx;exact bool_str a b t
  |_=>exact absurd (show false=true from fx) L5
 |int a=>
  obtain⟨t',rfl⟩:=ry
  cases x with
  |non=>cases rx;exact int_none a t'
  |bl b=>cases rx;exact int_bool a t' b
  |int b=>obtain⟨t,rfl⟩:=rx;exact int_int a t' b t
  |str b=>obtain⟨t,rfl⟩:=rx;exact int_str a t' b t
  |_=>exact absurd (show false=true from fx) L5
 |str a=>
  obtain⟨t',rfl⟩:=ry
  cases x with
  |non=>cases rx;exact str_none a t'
  |bl b=>cases rx;exact str_bool a t' b
  |int b=>obtain⟨t,rfl⟩:=rx;exact str_int a t' b t
  |str b=>obtain⟨t,rfl⟩:=rx;exact str_str a t' b t
  |_=>exact absurd (show false=true from fx) L5
 |_=>exact absurd (show false=true from fy) L5
def tU(x:V)(u:Value):Bool:=match u with
 | .none=>Dl .non x
 | .bool b=>Dl (.bl b) x
 | .int i _=>Dl (.int i) x
 | .str z _=>Dl (.str z) x
 |_=>false
theorem AD(r:bv y u)(f:jM y=true):tU x u=Dl y x:=by
 cases y with
 |non=>cases r;rfl
 |bl b=>cases r;rfl
 |int i=>obtain⟨t,rfl⟩:=r;rfl
 |str z=>obtain⟨t,rfl⟩:=r;rfl
 |_=>exact absurd (show false=true from f) L5
theorem jS{x:V}:∀{xs:List V} {us:List Value},bj xs us->xs.all jM=true->us.any (tU x)=xs.any λy=>Dl y x
 |_,_,.nil,_=>rfl
 |y::xs,u::us,.cons r t,f=>by
  rw[Td,ME] at f;rw[PF,PF,AD r f.1,jS t f.2]
theorem ie{A:Mq}{s:LV}{x:V}{v:Value}(rx:bv x v)(fx:jM x=true):∀{xs:List V} {us:List Value},bj xs us->xs.all jM=true->∀u∈us,RN A s u v (tU x u)
 |_,_,.nil,_=>λu hu=>by cases hu
 |y::xs,u::us,.cons r t,f=>λu' hu=>by
  rw[Td,ME] at f;rcases LZ.mp hu with rfl|hu
  ·rw[AD r f.1];exact FV r rx f.1 fx
  ·exact ie rx fx t f.2 u' hu
def nh(x:V)(xs:List V):Bool:=xs.any λy=>Dl y x
def IH(K:Fg)(neg:Bool):R2:=λx y H Q=>∃p xs,y=.ref p/\(aS K H p xs∨bH K H p xs)/\jM x=true/\xs.all jM=true/\Q (.bl (if neg then !nh x xs else nh x xs)) H
theorem v4:gk X (ML .In) (IH X.K false):=by
 intro pins s σ H x y v u Q I rx ry h;obtain⟨p,xs,rfl,hq,fx,fs,q⟩:=h
 cases ry
 rcases hq with hq|hq
 ·obtain⟨its,r,pl,hz⟩:=I.list hq;refine SeqAt.in_listAt (tU x) pl.isList (λw hw=>ie rx fx r fs w (by simpa using hw)) ⟨.bl _,H,I,Z,?_⟩;rw[show its.toArray.any (tU x)=its.any (tU x) by simp,jS r fs];exact q
 ·obtain⟨its,r,pl,hz⟩:=I.tuple hq;refine SeqAt.in_tupleAt (tU x) pl (λw hw=>ie rx fx r fs w (by simpa using hw)) ⟨.bl _,H,I,Z,?_⟩;rw[show its.toArray.any (tU x)=its.any (tU x) by simp,jS r fs];exact q
theorem pU:gk X (ML .NotIn) (IH X.K true):=by
 intro pins s σ H x y v u Q I rx ry h;obtain⟨p,xs,rfl,hq,fx,fs,q⟩:=h
 cases ry
 rcases hq with hq|hq
 ·obtain⟨its,r,pl,hz⟩:=I.list hq;refine SeqAt.notIn_listAt (tU x) pl.isList (λw hw=>ie rx fx r fs w (by simpa using hw)) ⟨.bl _,H,I,Z,?_⟩;rw[show its.toArray.any (tU x)=its.any (tU x) by simp,jS r fs];exact q
 ·obtain⟨its,r,pl,hz⟩:=I.tuple hq;refine SeqAt.notIn_tupleAt (tU x) pl (λw hw=>ie rx fx r fs w (by simpa using hw)) ⟨.bl _,H,I,Z,?_⟩;rw[show its.toArray.any (tU x)=its.any (tU x) by simp,jS r fs];exact q
theorem aA:dX X (.builtin "len") (λxs H Q=>∃p ys,xs=[.ref p]/\(aS X.K H p ys∨bH X.K H p ys)/\Q (.int ys.length) H):=by
 intro pins s σ H xs us Q I r h;obtain⟨p,ys,rfl,hq,q⟩:=h;obtain⟨u,rfl,rx⟩:=gm r
 cases rx
 have hn:=pZ;rcases hq with hq|hq
 ·obtain⟨its,r',pl,hz⟩:=I.list hq;have hlen:=r'.length;exact Calls.call_len_list pl.isList (by simp only[Mz]<;>omega) ⟨.int ys.length,H,I.tok _,⟨s.toks+1,by rw[Mz,hlen]⟩,q⟩
 ·obtain⟨its,r',pl,hz⟩:=I.tuple hq;have hlen:=r'.length;exact len_tuple pl (by simp only[Mz]<;>omega) ⟨.int ys.length,H,I.tok _,⟨s.toks+1,by rw[Mz,hlen]⟩,q⟩
theorem br:dX X (.type "tuple") (λxs H Q=>∃p ys,xs=[.ref p]/\((aS X.K H p ys/\∀l,H l=none->Q (.ref l) (upd H l (.tup ys)))∨(bH X.K H p ys/\Q (.ref p) H))):=by
 intro pins s σ H xs us Q I r h;obtain⟨p,ys,rfl,h⟩:=h;obtain⟨u,rfl,rx⟩:=gm r
 cases rx
 rcases h with⟨hq,q⟩ | ⟨hq,q⟩
 ·obtain⟨its,r',pl,hz⟩:=I.list hq;have hlen:=r'.length;refine call_tuple_list pl.isList (λh' kp=>?_) (by simp only[Mz]<;>omega);have I1:Inv X pins σ H { s with heap:=h'}:=I.kept (t':=s.toks) kp;have I2:Inv X pins σ (upd H h'.objs.size (.tup ys)) { s with heap:=h'.push { cls:=.type "tuple",data:=.seq its.toArray} }:=
   I1.laid (t':=s.toks) (λb o e=>LU _ e) (LN _) (show ObjOk X.prog X.w _ _ _ (.tup ys) from⟨hz,its,r',So _ _⟩)
  exact⟨.ref h'.objs.size,_,I2,Z,q _ (I1.hok.fresh (LN _))⟩
 ·obtain⟨its,r',pl,hz⟩:=I.tuple hq;exact call_tuple_same pl ⟨.ref p,H,I,Z,q⟩
def IS(K:Fg)(T:String)(x:V)(H:Hp):Prop:=match x with
 | .str _=>T = "str"
 | .int _=>T = "int"
 | .ref p=>(T = "list"/\∃xs,aS K H p xs)∨(T = "tuple"/\∃o,K.lookup p=some o/\o.cls=.type "tuple"/\o.dict=none)∨
   (T = "dict"/\((∃kvs,H p=some (.dK kvs))∨∃kvs,H p=some (.dT kvs)))∨(T = "set"/\∃S n,H p=some (.set S n))
 |_=>False
theorem w4{pins:cy}{σ:St}{H:Hp}{s:LV}{T:String}{x:V}{v:Value}(I:Inv X pins σ H s)(r:bv x v)(ty:IS X.K T x H) :
  s.TypeIs v T/\∀a,v=.ref a->∃ob,s.heap.get? a=some ob/\ob.dict=none:=by
 cases x with
 |str z=>
  obtain⟨t,rfl⟩:=r
  cases(show T = "str" from ty)
  exact⟨typeIs_str s z t,λ_ e=>nomatch e⟩
 |int i=>
  obtain⟨t,rfl⟩:=r
  cases(show T = "int" from ty)
  exact⟨Te s i t,λ_ e=>nomatch e⟩
 |ref p=>
  cases r
  rcases ty with⟨rfl,xs,hq⟩ | ⟨rfl,o,hk,hc,hd⟩ | ⟨rfl,hk⟩ | ⟨rfl,S,n,hk⟩
  ·obtain⟨its,_,pl,_⟩:=I.list hq;refine⟨pl.isList.typeIs,λa e=>?_⟩
   cases e
   obtain⟨o,n,e,c,hd,_⟩:=pl;exact⟨o,e,hd⟩
  ·refine⟨⟨o,I.kIn p o hk,hc⟩,λa e=>?_⟩
   cases e
   exact⟨o,I.kIn _ o hk,hd⟩
  ·have z:∃o,s.heap.get? p=some o/\o.ExactDict:=by
    rcases hk with⟨kvs,hk⟩ | ⟨kvs,hk⟩
    ·obtain⟨_,_,_,_,o,_,_,e,ex,_⟩:=I.hok p _ hk;exact⟨o,e,ex⟩
    ·obtain⟨_,_,_,_,o,_,_,e,ex,_⟩:=I.hok p _ hk;exact⟨o,e,ex⟩
   obtain⟨o,e,ex⟩:=z;refine⟨⟨o,e,ex.1⟩,λa e2=>?_⟩
   cases e2
   exact⟨o,e,ex.2.1⟩
  ·obtain⟨o,_,_,_,e,ex,_⟩:=I.hok p _ hk;refine⟨⟨o,e,ex.1⟩,λa e2=>?_⟩
   cases e2
   exact⟨o,e,ex.2.1⟩
 |_=>exact MY ty
def GL(K:Fg)(T:String)(r:V->List V->Hp->VK->Prop)(to:TE):TE:=λσ H Q=>to σ H λx H1=>IS K T x H1/\r x [] H1 Q
def JW(K:Fg)(T:String)(r:V->List V->Hp->VK->Prop)(to:TE)(t:TA):TE:=λσ H Q=>to σ H λx H1=>IS K T x H1/\t σ H1 λxs H2=>r x xs H2 Q
variable {o e:Mu}{es:List Mu}{to:TE}{t:TA}{name:Mj}{apos cpos:Oo}{T id:String}{r:V->List V->Hp->VK->Prop}
theorem EN(pa:RQ T)(slot:Slot T name id)(hty:TU (.builtin id)=Nt (.type "method_descriptor"))(hm:IN X id r)(ho:PE X o to)
  (hbase:Nu o name X.env (eval o X.env)=eval o X.env:=by rfl) (hline:(apos.endLine==cpos.line)=true:=by rfl):PE X (.Call (.Attribute o name apos) [] [] cpos) (GL X.K T r to):=by
 intro pins s σ H Q I h;refine wpAny_Call_method0_late hbase hline (cA (ho pins s σ H _ I h) λv s1 ⟨x,H1,I1,r1,ty,q1⟩=>?_);obtain⟨h1,h2⟩:=w4 I1 r1 ty;exact⟨T,id,pa,slot,hty,h1,h2,Calls.callWith_builtin Z (PySem.evalArgs_none (hm pins s1 σ H1 x [] v [] Q I1 r1 .nil q1))⟩
theorem Hd(pa:RQ T)(slot:Slot T name id)(hty:TU (.builtin id)=Nt (.type "method_descriptor"))(hm:IN X id r)(ho:PE X o to)(ha:PA X (e::es) t)
  (hbase:Nu o name X.env (eval o X.env)=eval o X.env:=by rfl)
  (hfew:((Ol cpos (L4 (e::es) X.env)).all (λx=>!x.1)&&(R7 cpos (Qd [] X.env)).all (λx=>x.1.isSome)
  &&decide ((e::es).length+([]:List PP).length+(if([]:List PP).isEmpty then 0 else 1)<30))=true:=by rfl)
  (hline:(apos.endLine==cpos.line)=true:=by rfl) (hs:L4 (e::es) X.env=(false,eval e X.env)::L4 es X.env:=by rfl) (hplain:(Ol cpos (L4 es X.env)).any (·.1)=false:=by rfl) :
  PE X (.Call (.Attribute o name apos) (e::es) [] cpos) (JW X.K T r to t):=by
 intro pins s σ H Q I h;refine wpAny_Call_method_late hbase hfew hline Z (cA (ho pins s σ H _ I h) λv s1 ⟨x,H1,I1,r1,ty,q1⟩=>?_);obtain⟨h1,h2⟩:=w4 I1 r1 ty;refine⟨T,id,pa,slot,hty,h1,h2,?_⟩;have hA:=ha cpos pins s1 σ H1 _ I1 q1;rw[hs] at hA ⊢;refine Calls.callWith_builtin (by show(false||(Ol cpos (L4 es X.env)).any (·.1))=false;rw[hplain]<;>rfl) (Calls.evalArgs_plain ?_);exact cA hA λus s2 ⟨vs,H2,I2,r2,q2⟩=>hm pins s2 σ H2 x vs v us Q I2 r1 r2 q2
end
end L2
namespace L2
open PySem PySem.Spec PyProof.Rows
def Jy(X:Cx)(id:String)(r:V->List V->Hp->VK->Prop):Prop:=
 ∀(pins:cy) (s:LV) (σ:St) (H:Hp) (x:V) (xs:List V) (v:Value) (us:List Value) (Q:VK),Inv X pins σ H s->bv x v->bj xs us->r x xs H Q→
  L6 (Ma X.prog X.w) X.A (call (.builtin id) (v::us)) (EP X pins σ Q) X.xe s
theorem bj.one:∀{x:V} {us:List Value},bj [x] us->∃u,us=[u]/\bv x u
 |_,_,.cons r .nil=>⟨_,Z,r⟩
theorem bj.zero:∀{us:List Value},bj [] us->us=[]
 |_,.nil=>rfl
theorem bj.eraseIdx:∀{xs:List V} {us:List Value} (i:Nat),bj xs us->bj (xs.eraseIdx i) (us.eraseIdx i)
 |_,_,_,.nil=>.nil
 |_,_,0,.cons _ t=>t
 |_,_,i+1,.cons r t=>.cons r (bj.eraseIdx i t)
theorem bj.reverse(h:bj xs us):bj xs.reverse us.reverse:=by
 induction h with
 |nil=>exact .nil
 |cons r t ih=>rw[reverse_cons,reverse_cons];exact bj.append ih (.cons r .nil)
section
variable {X:Cx}{pins:cy}{σ:St}{H:Hp}{s:LV}{l b:Addr}{xs ys zs:List V}
theorem Inv.lset{its its':List Value}(I:Inv X pins σ H s)(hH:H l=some (.lst xs))
  (e:s.heap.get? l=some { cls:=.type "list",data:=.seq its.toArray n}) (hf:f its.toArray=its'.toArray) (hv:bj ys its') (hz:ys.length≤sizeLine):
  Inv X pins σ (upd H l (.lst ys)) { s with heap:=s.heap.update l (Obj.mapSeq f),toks:=t'}:=by
 have q:=PySem.IsL.update e f;rw[hf] at q;refine I.write (x:=l) (e:=l) (by rw[hH];exact trivial) (.inl Z) (λb' u hb hu=>(MI s.heap (Obj.mapSeq f) (NO hb)).trans hu) ⟨_,q⟩ ?_;exact⟨hz,its',_,hv,q⟩
theorem Inv.lnew(I:Inv X pins σ H s)(hv:bj ys its)(hz:ys.length≤sizeLine):
  Inv X pins σ (upd H s.heap.objs.size (.lst ys)) { s with heap:=s.heap.push { cls:=.type "list",data:=.seq its.toArray},toks:=t'}:=
 I.laid (λ_ _ q=>LU _ q) (LN _) ⟨hz,its,0,hv,Mm _ Z⟩
theorem Inv.fresh(I:Inv X pins σ H s):H s.heap.objs.size=none:=I.hok.fresh (LN _)
theorem Inv.lstM(I:Inv X pins σ H s)(hH:H l=some (.lst xs)):xs.length≤sizeLine/\∃(its:List Value) (n:Nat),bj xs its/\xs.length=its.length/\s.heap.get? l=some { cls:=.type "list",data:=.seq its.toArray n}:=by
 obtain⟨z,its,n,r,e⟩:=I.hok l _ hH;exact⟨z,its,n,r,r.length,e⟩
end
section
variable {X:Cx}
def By:V->List V->Hp->VK->Prop:=λx vs H Q=>∃l xs y,x=.ref l/\vs=[y]/\H l=some (.lst xs)/\xs.length<sizeLine/\Q .non (upd H l (.lst (xs++[y])))
theorem bV:Jy X "list.append" By:=by
 intro pins s σ H x vs v us Q I rx rv h;obtain⟨l,xs,y,rfl,rfl,hH,hz,q⟩:=h
 cases rx
 obtain⟨u,rfl,ru⟩:=rv.one;obtain⟨z,its,n,r,hl,e⟩:=I.lstM hH;refine QM F.slot_list_append ⟨_,e,Z⟩ F.entry_list_append (F.args_list_append_2 _ _) (PySem.list_append l its.toArray n u (by rw[Mz];omega)) ⟨e,?_⟩;refine⟨.non,_,I.lset (its':=its++[u]) hH e (by simp) (r.append (.cons ru .nil)) ?_,Z,q⟩;rw[MO,length_singleton];omega
def II:V->List V->Hp->VK->Prop:=λx vs H Q=>∃l b xs zs,x=.ref l/\vs=[.ref b]/\H l=some (.lst xs)/\H b=some (.lst zs)/\xs.length+zs.length≤sizeLine/\Q .non (upd H l (.lst (xs++zs)))
def KP:V->List V->Hp->VK->Prop:=λx vs H Q=>∃l xs y,x=.ref l/\vs=[]/\H l=some (.lst xs)/\xs[xs.length-1]?=some y/\Q y (upd H l (.lst xs.dropLast))
def Jc:V->List V->Hp->VK->Prop:=λx vs H Q=>∃l xs i k y,x=.ref l/\vs=[.int i]/\H l=some (.lst xs)/\-(2^63)≤i/\i<2^63/\TK i xs.length=some k/\xs[k]?=some y/\Q y (upd H l (.lst (xs.eraseIdx k)))
def y8:V->List V->Hp->VK->Prop:=λx vs H Q=>∃l xs,x=.ref l/\vs=[]/\H l=some (.lst xs)/\Q .non (upd H l (.lst xs.reverse))
theorem tG:Jy X "list.reverse" y8:=by
 intro pins s σ H x vs v us Q I rx rv h;obtain⟨l,xs,rfl,rfl,hH,q⟩:=h
 cases rx
 have hus:=rv.zero;subst hus;obtain⟨z,its,n,r,hl,e⟩:=I.lstM hH;refine QM F.slot_list_reverse ⟨_,e,Z⟩ F.entry_list_reverse (F.args_list_reverse_1 _) (AutoSeq1.list_reverse_list_0 l its.toArray n (by rw[Mz];omega)) ⟨e,?_⟩;refine⟨.non,_,I.lset (its':=its.reverse) hH e (by simp) r.reverse ?_,Z,q⟩;rw[length_reverse];omega
def Jf:V->List V->Hp->VK->Prop:=λx vs H Q=>∃l xs,x=.ref l/\vs=[]/\H l=some (.lst xs)/\Q .non (upd H l (.lst []))
def Jg:R2:=λx y H Q=>∃l b xs zs,x=.ref l/\y=.ref b/\H l=some (.lst xs)/\H b=some (.lst zs)/\xs.length+zs.length≤sizeLine/\∀p,H p=none->Q (.ref p) (upd H p (.lst (xs++zs)))
theorem kj:gk X (OA .Add) Jg:=by
 intro pins s σ H x y v u Q I rx ry h;obtain⟨l,b,xs,zs,rfl,rfl,hH,hB,hz,q⟩:=h
 cases rx
 cases ry
 obtain⟨z,its,n,r,hl,e⟩:=I.lstM hH;obtain⟨z2,its2,n2,r2,hl2,e2⟩:=I.lstM hB;refine PySem.P.add_list e e2 ?_ (by rw[Mz,Mz];omega);have ea:its.toArray++its2.toArray=(its++its2).toArray:=by simp
 rw[ea];exact⟨.ref _,_,I.lnew (t':=s.toks) (r.append r2) (by rw[MO];omega),Z,q _ I.fresh⟩
def KO:R2:=λx y H Q=>∃l k xs,x=.ref l/\y=.int k/\H l=some (.lst xs)/\-(2^63)≤k/\k<2^63/\xs.length*k.toNat≤sizeLine∧
 ∀p,H p=none->Q (.ref p) (upd H p (.lst (MC k.toNat xs).flatten))
end
section
variable {prog:Mo}{w:MD}{A:Mq}{E:c5}{s:LV}
end
section
variable {X:Cx}
end
end L2
namespace Att
open PySem PySem.W PySem.Calls PyProof.Rows
theorem kW:∀(ns:List Int) (vs:List Value),WellAll P h vs (ns.map WData.int)->N8 vs ns:=by
 intro ns
 induction ns with
 |nil=>
  intro vs w;rw[map_nil] at w
  cases w
  exact .nil
 |cons n ns ih=>
  intro vs w;rw[M3] at w
  cases w with
  |cons a b=>
   cases a
   exact .cons _ _ (ih _ b)
theorem vO{l:OpenLaw}(hn:l.most=some n){h:MA} 
  (hpre:l.row.toRowW.claim.pre args=true) (hwl:WellAll P h vals args):
  ∃a vs ns,vals=[Ml a]/\args=[WData.list (ns.map WData.int)]/\h.get? a=some { cls:=.type "list",data:=.seq vs.toArray}/\N8 vs ns/\ns.length≤n:=by
 have hsh:WShape.hasAll [] args [.list .int]=true:=(pre_splitW hpre).1;have hc:l.pre.holds [] { args:=args}=true:=(pre_splitW hpre).2;obtain⟨d,r,rfl,h1,h2⟩:=hasAllW_cons hsh;obtain rfl:=hasAllW_nil h2;obtain⟨xs,rfl,h3⟩:=hasW_list h1;obtain⟨ns,rfl⟩:=items_int h3;have hlen:ns.length≤n:=by
  unfold OpenLaw.pre at hc;have h4:(WTm.not (.lt (.lit (.int (n:Int))) (.len (.arg 0)))).holds [] { args:=[.list (ns.map .int)]}=true:=by
   have h4:=(holds_andW hc).1;rw[hn] at h4;exact h4
  have h5:=condW_of h4 (w_not (w_lt w_lit (w_len_list (w_arg Z))));rw[LO] at h5;refine le_of_not_lt λq=>?_
  have q':(n:Int)<((ns.length:Nat):Int):=by omega
  first
   | (rw[decide_eq_true q'] at h5;exact absurd h5 (by decide))
   | (simp at h5;omega)
 cases hwl with
 |cons w1 w2=>
  cases w2
  cases w1 with
  |list ho hall=>exact⟨_,_,ns,Z,Z,ho,kW ns _ hall,hlen⟩
theorem vW(l:OpenLaw)(args:List WData):l.row.toRowW.claim.post args (.bool true) args=true:=
 postW_of (r:=l.row.toRowW) (X:=(true==true))
  (show WShape.has [] (.bool true) .bool=true by first|rfl|decide|simp[WShape.has,WShape.arms,WShape.armsAll])
  (show(WTm.eq .res (.lit (.bool true))).value [] { args:=args,res:=some (.bool true),after:=args}=some (.bool (true==true)) from w_eq_bool (w_res Z) w_lit) Z
theorem attach_call{l:OpenLaw}{d:DefRec}
  (hn:l.most=some n) (hdf:d.params.defaults=[])
  (call:∀(w:MD) (s₀ s₁:LV) (mg mb:Mj->Option Value) (fa:Addr) (o:Obj) (pm cd doc:Value) (a:Addr) (vs:List Value) (ns:List Int),
   Ground q loose [] XP w s₀ mg mb s₁.heap->YP w s₁.heap→
   s₁.heap.get? fa=some o->o.data=.func (docDef d.name d.params d.body d.scope pm cd doc)->s₁.heap.CodeRec cd d.name->mg d.name=some (.ref fa)→
   s₁.heap.get? a=some { cls:=.type "list",data:=.seq vs.toArray}->N8 vs ns->ns.length≤n->s₁.gens=#[]→
   Op (Ma l.prog w) Rn (.call (.ref fa) ⟨[.ref a],[]⟩) (λr s'=>r=.ok (.ret (.bool true))/\OldK s₁.heap s'.heap/\s'.os=s₁.os/\Pz s'.gens) s₁):
  WalkO q loose XP YP l.row.toRowW d [] (λf vs=>PySem.call f vs):=by
 intro w s₀ s₁ mg mb G Y fa o pm cd doc dV kV ho hd hcd hD hmg hg args vals as hpre hlay hrd hwl hlo;obtain rfl:dV=.none:=Dflts.none hD hdf;obtain rfl:kV=.none:=Dflts.noKw hD;obtain⟨a,vs,ns,rfl,rfl,hobj,hints,hlen⟩:=vO hn hpre hwl;refine enter_call (OU (call w s₀ s₁ mg mb fa o pm cd doc a vs ns G Y ho (fd_plain hd) hcd hmg hobj hints hlen hg) λr s' hq=>?_);obtain⟨rfl,h2,h3,h4⟩:=hq;exact⟨.inl ⟨.bool true,.bool true,[],Z,λ_=>Z,.bool true,vW l _,λ_=>⟨Om.nil,λ_ hm=>(nomatch hm)⟩⟩,h2,h3,h4⟩
section
variable {prog:Mo}{w:MD}{A:Mq}{E:c5}{s:LV}{K:Frag}
def noObjs(h:MA):MA:={ h with objs:=#[]}
theorem noObjs_get(h:MA)(b:Addr):(noObjs h).get? b=none:=by
 cases e:(noObjs h).get? b with
 |none=>rfl
 |some o=>exact absurd (Mv e) (NW _)
def Jk(h:MA)(L d:Addr):cy:=(range h.objs.size).filterMap λa=>if a=L∨a=d then none else(h.get? a).map λo=>(a,o)
theorem fr_all(n:h.Ns L m):Fr (noObjs h) L h m:=
 ⟨n,λb o e=>(by rw[noObjs_get] at e;cases e),Mx _⟩
end
end Att
namespace L2
open PySem PySem.Spec PyProof.Rows
theorem nO:∀{vs:List Value} {ns:List Int},N8 vs ns->bj (ns.map V.int) vs
 |_,_,.nil=>.nil
 |_,_,.cons n t h=>.cons ⟨t,Z⟩ (nO h)
def Gi(H:Hp):Prop:=∀b,H b=none∨∃o xs,H b=some (.frz o (.lst xs))
theorem Ak{K:Fg}{s₁:LV}{vs:List Value}{ns:List Int}
  (KX:K.In s₁.heap) (hns:s₁.heap.Ns Mf mg) (hb:s₁.heap.Ns SU mb) (hbb:∀x:Mj,x ≠ "__name__"->mb x=NG x) (hlim:s₁.heap.NoLimit) (hg:s₁.gens=#[])
  (ha:s₁.heap.get? a=some { cls:=.type "list",data:=.seq vs.toArray}) (hi:N8 vs ns) (hl:ns.length≤sizeLine) (hr:cZ k Rn)
  (F:∀base:MA,K.In base->base.Ns Mf mg->bD P w K mg base CX k fa fd [x] sp) (hbind:∀(s:LV) (u:Value),QH s fd ⟨[u],[]⟩ [(x,u)])
  (hsp:∀H:Hp,Gi H->aS K H a (ns.map V.int)->sp [.ref a] H (λv _=>v=.bl true) λ_ _ _=>False)
  (hCX:∀H e s',CX [] H s₁ (λ_ _ _=>False) e s'->False):
  Op (Ma P w) Rn (.call (.ref fa) ⟨[.ref a],[]⟩) (λr s'=>r=.ok (.ret (.bool true))/\OldK s₁.heap s'.heap/\s'.os=s₁.os/\Pz s'.gens) s₁:=by
 have rv:=nO hi;have lenV:=hi.length;have core:∀H:Hp,Gi H->aS K H a (ns.map V.int)->iX P w H s₁.heap->(∀b,H b≠none->b=a)->(H a≠none->K.lookup a=none)→
   Op (Ma P w) Rn (.call (.ref fa) ⟨[.ref a],[]⟩) (λr s'=>r=.ok (.ret (.bool true))/\OldK s₁.heap s'.heap/\s'.os=s₁.os/\Pz s'.gens) s₁:=by
  intro H hO hS hok hA hK;have base_of:∀{b:Addr} {o:Obj},s₁.heap.get? b=some o->H b=none->(p5 s₁.heap H).get? b=some o:=λe n=>Av e n
  have noA:∀{b:Addr} {o:Obj} {es:Array Rm} {ep:Nat},s₁.heap.get? b=some o->o.data=.dict es ep->H b=none:=λ{b o es ep} e d=>by
   cases q:H b with
   |none=>rfl
   |some u=>
    have e':b=a:=hA b (by rw[q];simp);subst e';rw[ha] at e;cases e;have d':S1.seq vs.toArray _=S1.dict es ep:=d
    cases d'
  have nsK:∀{b:Addr} {m:Mj->Option Value},s₁.heap.Ns b m->(p5 s₁.heap H).Ns b m:=λ{b m} ⟨o,es,ep,e,d,r⟩=>⟨o,es,ep,base_of e (noA e d),d,r⟩
  have hKb:K.In (p5 s₁.heap H):=λb o e=>base_of (KX b o e) (by
   cases q:H b with
   |none=>rfl
   |some u=>
    have e':b=a:=hA b (by rw[q];simp);subst e';rw[hK (by rw[q];simp)] at e;cases e)
  have hM:Mod K mg (p5 s₁.heap H):=⟨hKb,nsK hns,⟨mb,nsK hb,hbb⟩,let ⟨mc,h1,h2⟩:=hlim;⟨mc,nsK h1,h2⟩⟩;have e0:ku P w K mg (p5 s₁.heap H) Rn [] s₁ H:=⟨Z,hM,λb o e=>Cc e,NQ (wt _ _),trivial,λb hb=>absurd (show b∈([]:List Addr) from hb) (by simp),hok,.of_eq hg⟩;refine OU ((F _ hKb (nsK hns)).run Rn [] s₁ H ⟨[.ref a],[]⟩ [.ref a] [.ref a] _ _ hr e0 (hbind s₁ (.ref a)) (.cons Z .nil) (hsp H hO hS)) λr s' h=>?_
  cases r with
  |error e=>exact(hCX H e s' h).elim
  |ok fl=>
   cases fl with
   |next=>exact MY h
   |brk=>exact MY h
   |cont=>exact MY h
   |ret u=>
    obtain⟨v,H',os,bare,un,hok',r',q⟩:=h;have q':v=.bl true:=q;subst q';obtain rfl:u=OM true:=r';refine⟨Z,OldK.of_keep λb o e=>?_,os,bare⟩
    cases q:H b with
    |none=>exact un.keep b o e q (by intro z;exact absurd (show b∈([]:List Addr) from z) (by simp)) (by simp)
    |some u=>
     rcases hO b with z | ⟨ob,xs,z⟩
     ·rw[q] at z;cases z
     ·have z2:=un.frzs b ob _ z;obtain⟨e1,_⟩:=hok b _ z;obtain⟨e2,_⟩:=hok' b _ z2;rw[e] at e1;cases e1;exact e2
 cases hk:K.lookup a with
 |some o=>
  have e:=KX a o hk;rw[ha] at e
  cases e
  refine core (λ_=>none) (λ_=>.inl Z) (.inr ⟨_,vs.toArray,_,hk,Z,Z,Z,by rw[Mz,lenV];exact hl,by simpa using rv⟩) (λb u z=>by have z':(none:Option HO)=some u:=z;cases z') (λb z=>absurd Z z) λz=>absurd Z z
 |none=>
  refine core (λb=>if b=a then some (.frz { cls:=.type "list",data:=.seq vs.toArray} (.lst (ns.map V.int))) else none) (λb=>?_) (.inl (.inr ⟨{ cls:=.type "list",data:=.seq vs.toArray},if_pos Z⟩)) (λb u z=>?_) (λb z=>?_) λ_=>hk
  ·by_cases hb:b=a
   ·exact .inr ⟨_,_,if_pos hb⟩
   ·exact .inl (if_neg hb)
  ·by_cases hb:b=a
   ·have z':=(if_pos hb).symm.trans z
    cases z'
    subst hb;exact⟨ha,by rw[LO];exact hl,vs,_,rv,ha⟩
   ·have z':=(if_neg hb).symm.trans z
    cases z'
  ·by_cases hb:b=a
   ·exact hb
   ·exact absurd (if_neg hb) z
end L2
namespace L2
open PySem PySem.Spec PyProof.Rows
abbrev LJ{K:Fg}{h:MA}(_:K.In h):Fg:=K
theorem walk_of{l:PySem.W.OpenLaw}{loose:List Mj}{XP:(Mj->Option Value)->MA->Prop}{YP:MD->MA->Prop}{d:DefRec}{K:Params->Fg}{CX:MD->qm}{sp:MD->Sp} 
  (hn:l.most=some n) (hn2:n≤sizeLine) (hdf:d.params.defaults=[]) (hr:cZ k Rn)
  (hY:∀(w:MD) (h:MA),YP w h->(K w.params).In h)
  (F:∀(w:MD) (mg:Mj->Option Value) (fa:Addr) (h:MA),(K w.params).In h->h.Ns Mf mg->mg d.name=some (.ref fa)→
   ∃fd:LS,(∀(s:LV) (u:Value),QH s fd ⟨[u],[]⟩ [(x,u)])∧
    ∀base:MA,(K w.params).In base->base.Ns Mf mg->bD l.prog w (K w.params) mg base (CX w) k fa fd [x] (sp w))
  (hsp:∀(w:MD) (H:Hp) (a:Addr) (ns:List Int),ns.length≤n->Gi H->aS (K w.params) H a (ns.map V.int)->sp w [.ref a] H (λv _=>v=.bl true) λ_ _ _=>False)
  (hCX:∀(w:MD) (H:Hp) (s:LV) (e:Value) (s':LV),CX w [] H s (λ_ _ _=>False) e s'->False):
  PySem.W.WalkO q loose XP YP l.row.toRowW d [] (λf vs=>PySem.call f vs):=by
 refine Att.attach_call hn hdf λw s₀ s₁ mg mb fa o pm cd doc a vs ns G Y ho hd hcd hmg hobj hints hlen hg=>?_
 have KX:=hY w _ Y;obtain⟨fd,hb,hF⟩:=F w mg fa _ KX G.T.g hmg;exact Ak KX G.T.g G.T.b G.T.builtins G.T.nolimit hg hobj hints (MG hlen hn2) hr hF hb (λH hO hS=>hsp w H a ns hlen hO hS) λH e s'=>hCX w H s₁ e s'
end L2
namespace L2
open PySem PySem.Spec PyProof.Rows
def Cm(s:Stmt)(j:Nat):Stmt:=match s with
 | .ClassDef _ _ _ body _ _ _ _ _ _ _=>body.getD j (.Pass ⟨0,0,0,0⟩)
 |_=>.Pass ⟨0,0,0,0⟩
def fB(s:Stmt):TJ:=match s with
 | .FunctionDef _ a _ _ _ _ _ _ _ _=>a
 |_=>{ posonlyargs:=[],args:=[],vararg:=none,kwonlyargs:=[],kw_defaults:=[],kwarg:=none,defaults:=[]}
def dZ(s:Stmt):List Stmt:=match s with
 | .FunctionDef _ _ b _ _ _ _ _ _ _=>b
 |_=>[]
def av(s:Stmt):OH:=match s with
 | .FunctionDef _ _ _ _ _ _ sc _ _ _=>sc
 |_=>{ kind:=.function,names:=[],isGenerator:=false,isCoroutine:=false}
abbrev dF:qm:=λ_ _ _ _ _ _=>False
abbrev E0:XK:=λ_ _ _=>False
theorem n9:gX dF X E0:=λ_ _ _ _ _ _ _ h=>h.elim
structure Fun(K:Fg)(x qual:Mj)(st:Stmt)(f:Addr)(fd:LS):Prop where
 ex:∃(oc:Value) (od:Option Addr) (kV doc pm:Value) (an:Option Addr) (cdv ct:Value) (osl:Array (Option Value)),
  fd=PySem.W.fnOf x qual (fB st) (dZ st) (av st) .none kV doc pm an cdv ct/\K.lookup f=some ⟨oc,od,.func fd,osl⟩/\PySem.W.codeIn K cdv qual=true
 kp:PySem.W.keepIn K (.ref f)=true
section
variable {P:Mo}{w:MD}{K:Fg}{mg:Mj->Option Value}{base:MA}
theorem Fun.ok{x qual:Mj}{st:Stmt}{f:Addr}{fd:LS}{N ps:List Mj}{k:Nat}{sp:Sp}(F:Fun K x qual st f fd)(S:aK N ps (av st))(len:∀vs H Q E,sp vs H Q E->vs.length=ps.length)
  (hbody:∀(cdv:Value) (A:Mq) (outer:List R0) (s:LV) (H:Hp) (vs:List V) (Q:VK) (E:XK),cZ k (A.deeper (Pu qual (av st) s.heap.objs.size f cdv))->sp vs H Q E→
   ∃t,oP (bL dF P w K mg base N qual (av st) f cdv A outer s H E).nox (dZ st) t/\t { nx:=λ_ H'=>Q .non H',rt:=Q} (fT N vs) H):bD P w K mg base dF (k+1) f fd ps sp:=by
 obtain⟨oc,od,kV,doc,pm,an,cdv,ct,osl,rfl,lk,hcd⟩:=F.ex;refine Dk lk hcd S len λA outer s H vs Q E hr hsp=>?_
 obtain⟨t,h,q⟩:=hbody cdv A outer s H vs Q E hr hsp;exact⟨t,h.nox,q⟩
theorem Fun.binds{x qual:Mj}{st:Stmt}{f:Addr}{fd:LS}{ps:List Mj}(F:Fun K x qual st f fd)
  (h:∀(kV doc pm:Value) (an:Option Addr) (cdv ct:Value) (us:List Value),us.length=ps.length->Ta (PySem.W.fnOf x qual (fB st) (dZ st) (av st) .none kV doc pm an cdv ct) ⟨us,[]⟩=Nt (ps.zip us)):aV K fd ps []:=by
 obtain⟨oc,od,kV,doc,pm,an,cdv,ct,osl,rfl,lk,hcd⟩:=F.ex;exact .all (h kV doc pm an cdv ct)
theorem Ax{x qual:Mj}{st:Stmt}{f:Addr}{oc:Value}{od an:Option Addr}{osl:Array (Option Value)}{kV doc pm cdv ct:Value}(l:K.lookup f=some ⟨oc,od,.func (PySem.W.fnOf x qual (fB st) (dZ st) (av st) .none kV doc pm an cdv ct),osl⟩)
  (c:PySem.W.codeIn K cdv qual=true) (k:PySem.W.keepIn K (.ref f)=true):Fun K x qual st f (PySem.W.fnOf x qual (fB st) (dZ st) (av st) .none kV doc pm an cdv ct):=⟨⟨oc,od,kV,doc,pm,an,cdv,ct,osl,Z,l,c⟩,k⟩
end
theorem Dh(hr:cZ k A):A.units+1<cLine:=Nx (add_le_add_left (by decide:1≤64) _) hr.units
theorem be(h:n≤1000):n<sizeLine:=Nx h (by decide)
section
variable {X:Cx}
theorem pv(i:Nat){x:Mj}{pos:Oo}(hN:X.N[i]?=some x:=by rfl)(hv:HY X.env.scope x:=by first|exact L8 Z|exact L7 (L8 Z)|exact L7 (L7 Z))(hd:(x==("__debug__" : Mj))=false:=by decide)
  (hcd:(x==("__classdict__" : Mj))=false:=by decide):PE X (.Name x pos) (Dz i):=EG hN hv hd hcd
end
theorem cJ{A B:Prop}(h:B):if false=true then A else B:=by
 rw[if_neg L5];exact h
theorem d0{A B:Prop}(h:A):if true=true then A else B:=by
 rw[if_pos Z];exact h
theorem wk{c A B:Prop}[Decidable c](h1:c->A)(h2:¬c->B):if c then A else B:=by
 by_cases h:c
 ·rw[if_pos h];exact h1 h
 ·rw[if_neg h];exact h2 h
theorem iV{c A B:Prop}[Decidable c](hc:c)(h:B):if(!decide c)=true then A else B:=by
 rw[decide_eq_true hc];exact cJ h
def aB(H H':Hp):Prop:=∀b o,H b=some o->H' b=some o
theorem aB.refl(H:Hp):aB H H:=λ_ _ h=>h
theorem aB.trans(a:aB H H1)(b:aB H1 H2):aB H H2:=λc o h=>b c o (a c o h)
theorem aB.seq{K:Fg}{H H':Hp}{a:Addr}{xs:List V}(e:aB H H')(h:aS K H a xs):aS K H' a xs:=by
 rcases h with(h | ⟨o,h⟩)|h
 ·exact .inl (.inl (e _ _ h))
 ·exact .inl (.inr ⟨o,e _ _ h⟩)
 ·exact .inr h
end L2
set_option maxHeartbeats 4000000
namespace B
open PySem L2 PyProof.Rows
theorem Ap{c A B:Prop}[Decidable c](hc:¬c)(h:A):if(!decide c)=true then A else B:=by
 have e:(!decide c)=true:=by rw[decide_eq_false hc];rfl
 rw[if_pos e];exact h
theorem cn{c A B:Prop}[Decidable c](hc:c)(h:A):if decide c=true then A else B:=by
 rw[if_pos (decide_eq_true hc)];exact h
theorem bI{c A B:Prop}[Decidable c](hc:¬c)(h:B):if decide c=true then A else B:=by
 have e:¬decide c=true:=by rw[decide_eq_false hc];intro z;cases z
 rw[if_neg e];exact h
theorem gZ{b:Bool}{A B:Prop}(hb:b=true)(h:A):if b=true then A else B:=by rw[if_pos hb];exact h
theorem dU{b:Bool}{A B:Prop}(hb:b=false)(h:B):if b=true then A else B:=by
 rw[if_neg (by rw[hb];intro z;cases z)];exact h
def d7(A B:String):Option Bool:=if(Oj A==Oj B)=true then some true else if kitMeta B=true then(fastBuiltinMro A).map (·.contains (.type B)) else none
theorem tP{K:Fg}{A B:String}{b:Bool}(h:d7 A B=some b):PySem.W.kitOne K (.type A) (.type B)=some b:=h
inductive Ty(H:Hp):V->String->Prop where
 |non:Ty H .non "NoneType"
 |bl (b:Bool):Ty H (.bl b) "bool"
 |int (i:Int):Ty H (.int i) "int"
 |str (x:Mj):Ty H (.str x) "str"
 |lst {a:Addr} {xs:List V} (e:H a=some (.lst xs)):Ty H (.ref a) "list"
 |tup {a:Addr} {xs:List V} (e:H a=some (.tup xs)):Ty H (.ref a) "tuple"
theorem Ty.of(K:Fg)(h:Ty H v n):kq K H v (.type n):=by
 cases h with
 |non=>exact .non
 |bl b=>exact .bl b
 |int i=>exact .int i
 |str x=>exact .str x
 |lst e=>exact .lst e
 |tup e=>exact .tup e
def Je:List V->Hp->VK->Prop:=λxs H Q=>∃x n m b,xs=[x,.ty n]/\Ty H x m/\d7 m n=some b/\Q (.bl b) H
theorem gD:dX X (.builtin "isinstance") Je:=by
 intro pins s σ H xs us Q I r h;obtain⟨x,n,m,b,rfl,ty,e,q⟩:=h;obtain⟨u,u2,rfl,rx,ry⟩:=ul r;obtain rfl:u2=Oj n:=ry;exact wm I rx (ty.of X.K) (tP e) λtk=>⟨.bl b,H,I.tok tk,Z,q⟩
def IP:V->Bool
 | .int _=>true
 |_=>false
def Kv(n:String):Bool:=n == "tuple"
structure bz(t:Addr)(H H':Hp):Prop where
 keep:∀b o,b≠t->H b=some o->H' b=some o
 tp:∃xs,H t=some (.lst xs)
 tp':∃xs,H' t=some (.lst xs)
theorem bz.trans(a:bz t H H1)(b:bz t H1 H2):bz t H H2:=⟨λc o n e=>b.keep c o n (a.keep c o n e),a.tp,b.tp'⟩
theorem bz.up(h:H t=some (.lst xs)):bz t H (upd H t (.lst ys)):=⟨λc o n e=>by rw[aE n];exact e,⟨_,h⟩,⟨_,ah⟩⟩
theorem aj(h:H p=none)(o:HO):aB H (upd H p o):=λb u q=>by rw[aE (aX q h)];exact q
theorem bz.same(s:aB H H')(h:∃xs,H t=some (.lst xs)):bz t H H':=⟨λc o _ e=>s c o e,h,let ⟨xs,e⟩:=h;⟨xs,s _ _ e⟩⟩
theorem bz.new(h:∃xs,H t=some (.lst xs))(n:H p=none)(o:HO):bz t H (upd H p o):=bz.same (aj n o) h
theorem bz.refl(h:∃xs,H t=some (.lst xs)):bz t H H:=⟨λ_ _ _ e=>e,h,h⟩
def Th(H:Hp)(v:V):Prop:=∃n,Ty H v n/\∀a xs,v=.ref a->H a=some (.tup xs)->∀x∈xs,∃m,Ty H x m
theorem Jh{xs:List V}(h0:0≤r)(h1:r<(xs.length:Int)):∃v,qi xs r=some v/\v∈xs:=by
 have hk:r.toNat<xs.length:=by omega
 have ek:r=((r.toNat:Nat):Int):=by omega
 have q:qi xs ((r.toNat:Nat):Int)=some xs[r.toNat]:=aJ (LL hk);rw[←ek] at q;exact⟨_,q,Nh hk⟩
theorem G8{ns:List Int}(h0:0≤r)(h1:r<(ns.length:Int)):∃z:Int,qi (ns.map V.int) r=some (.int z):=by
 obtain⟨v,h,hv⟩:=Jh (xs:=ns.map V.int) h0 (by rw[LO];exact h1);obtain⟨z,_,rfl⟩:=Mc.mp hv;exact⟨z,h⟩
structure Gf(H:Hp)(t s:Addr):Prop where
 ex:∃(ns:List Int) (p q r:Int),H t=some (.lst [.ref s,.int p,.int q,.int r])/\H s=some (.lst (ns.map V.int))/\s≠t/\ns.length≤63/\0≤p/\0≤q/\0≤r
def Iv(K:Fg):Sp:=λvs H Q _=>∃(a:Addr) (ns:List Int),vs=[.ref a]/\aS K H a (ns.map V.int)/\∀(t s:Addr) (H':Hp),aB H H'->H t=none->H s=none->Gf H' t s->Q (.ref t) H'
def Ix:Sp:=λvs H Q _=>∃(t s:Addr) (m:Int),vs=[.ref t,.int m]/\Gf H t s/\0<m/\m<1073741824/\∀(r:Int) (xs:List V),0≤r->r<m->Gf (upd H t (.lst xs)) t s->Q (.int r) (upd H t (.lst xs))
def Iw(K:Fg):Sp:=λvs H Q _=>∃(a:Addr) (ns:List Int),vs=[.ref a]/\aS K H a (ns.map V.int)/\ns.length≤63/\∀H',Q (.bl true) H'
theorem rJ(ha:0≤a)(hb:0<b):Int.gcd b (a%b)=Int.gcd a b:=by
 obtain⟨n,rfl⟩:=Nb ha;obtain⟨m,rfl⟩:=Nb (Int.le_of_lt hb);rw[←natCast_emod];show Nat.gcd m (n%m)=Nat.gcd n m;rw[Nat.gcd_comm m,←gcd_rec,Nat.gcd_comm]
theorem uc(i:Int):(if i<0 then -i else i)=(i.natAbs:Int):=by split<;>omega
end B
namespace B
open PySem PySem.Spec L2 PyProof.Rows
mutual
inductive bP(K:Fg)(H:Hp):V->PyData->Prop where
 |non:bP K H .non .none
 |bl (b:Bool):bP K H (.bl b) (.bool b)
 |int (i:Int):bP K H (.int i) (.int i)
 |str (x:Mj):bP K H (.str x) (.str x)
 |lst {a:Addr} {xs:List V} {ds:List PyData} (e:aS K H a xs) (h:bu K H xs ds):bP K H (.ref a) (.list ds)
 |tup {a:Addr} {xs:List V} {ds:List PyData} (e:bH K H a xs) (h:bu K H xs ds):bP K H (.ref a) (.tuple ds)
inductive bu(K:Fg)(H:Hp):List V->List PyData->Prop where
 |nil:bu K H [] []
 |cons {x:V} {d:PyData} {xs:List V} {ds:List PyData} (h:bP K H x d) (t:bu K H xs ds):bu K H (x::xs) (d::ds)
end
mutual
theorem bP.reads{X:Cx}{pins:cy}{σ:L2.St}{H:Hp}{s:LV}(I:Inv X pins σ H s):∀{v:V} {d:PyData} {u:Value},bP X.K H v d->bv v u->∃as,Reads s.heap u d as
 |_,_,u,.non,r=>by cases(show u=Nf from r);exact⟨_,.none⟩
 |_,_,u,.bl b,r=>by cases(show u=OM b from r);exact⟨_,.bool b⟩
 |_,_,u,.int i,r=>by obtain⟨t,q⟩:=(show ∃t,u=Oc i t from r);cases q;exact⟨_,.int i t⟩
 |_,_,u,.str x,r=>by obtain⟨t,q⟩:=(show ∃t,u=PV x t from r);cases q;exact⟨_,.str x t⟩
 |_,_,u,.lst (a:=a) e h,r=>by
  cases(show u=Ml a from r)
  obtain⟨its,rv,⟨o,n,ho,hc,_,hd⟩,_⟩:=I.list e;obtain⟨as,q⟩:=bu.reads I h rv;exact⟨_,.list ho hc hd (by simpa using q)⟩
 |_,_,u,.tup (a:=a) e h,r=>by
  cases(show u=Ml a from r)
  obtain⟨its,rv,⟨o,ho,hc,n,hd⟩,_⟩:=I.tuple e;obtain⟨as,q⟩:=bu.reads I h rv;exact⟨_,.tuple ho hc hd (by simpa using q)⟩
theorem bu.reads{X:Cx}{pins:cy}{σ:L2.St}{H:Hp}{s:LV}(I:Inv X pins σ H s):∀{vs:List V} {ds:List PyData} {us:List Value},bu X.K H vs ds->bj vs us->∃as,ReadsAll s.heap us ds as
 |_,_,_,.nil,.nil=>⟨_,.nil⟩
 |_,_,_,.cons h t,.cons r q=>
  let ⟨_,a⟩:=bP.reads I h r;let ⟨_,b⟩:=bu.reads I t q
  ⟨_,.cons a b⟩
end
structure A1(d:PyData):Prop where
 sh:d.showable=true
 nd:d.hasDict=false
 sz:d.shown.length≤sizeLine
 dp:d.depth≤16
def GW(K:Fg):List V->Hp->VK->Prop:=λxs H Q=>∃v d,xs=[v]/\bP K H v d/\A1 d/\Q (.str d.shown) H
theorem oC(hr:cZ k X.A):dX X (.builtin "repr") (GW X.K):=by
 intro pins s σ H xs us Q I r h;obtain⟨v,d,rfl,dp,sh,q⟩:=h;obtain⟨u,rfl,ru⟩:=gm r
 cases dp with
 |non=>cases(show u=Nf from ru);exact PySem.P.repr_of_none ⟨.str "None",H,I.tok _,⟨_,Z⟩,q⟩
 |bl b=>cases(show u=OM b from ru);exact PySem.P.repr_of_bool ⟨.str _,H,I.tok _,⟨_,Z⟩,q⟩
 |int i=>
  obtain⟨t,e⟩:=(show ∃t,u=Oc i t from ru)
  cases e
  exact PySem.P.repr_of_int (of_decide_eq_true sh.sh) ⟨.str _,H,I.tok _,⟨_,Z⟩,q⟩
 |str x=>
  obtain⟨t,e⟩:=(show ∃t,u=PV x t from ru)
  cases e
  exact PySem.P.repr_of_str ⟨.str _,H,I.tok _,⟨_,Z⟩,q⟩ sh.sz
 | @lst a ys ds e h=>
  cases(show u=Ml a from ru)
  obtain⟨as,rd⟩:=bP.reads I (.lst e h) (show bv (.ref a) (.ref a) from Z);exact repr_of_reads' rd sh.sh (λz=>by rw[sh.nd] at z;cases z) hr.gd (by have:=hr.units;have:=sh.dp;omega) (λ_ _ z=>z) (λh' u tk hk=>⟨.str _,H,I.kept hk,⟨_,Z⟩,q⟩) sh.sz
 | @tup a ys ds e h=>
  cases(show u=Ml a from ru)
  obtain⟨as,rd⟩:=bP.reads I (.tup e h) (show bv (.ref a) (.ref a) from Z);exact repr_of_reads' rd sh.sh (λz=>by rw[sh.nd] at z;cases z) hr.gd (by have:=hr.units;have:=sh.dp;omega) (λ_ _ z=>z) (λh' u tk hk=>⟨.str _,H,I.kept hk,⟨_,Z⟩,q⟩) sh.sz
end B
namespace B
open PySem PySem.Spec L2 PyProof.Rows
def kn(X:Cx)(N':List Mj)(scope:OH)(cl:List (Mj×Addr))(C:Addr)(fp:List Addr)(pins:cy)(s:LV)(H:Hp):Cx:=
 { X with N:=N',s₀:=s,H₀:=H,env:=Pm scope cl C X.env,outer:=X.stack,stack:=X.stack,ex:=fp,fn:=λ_=>false,pn:=X.pn++pins,xe:=λ_ _=>False}
def cQ(X:Cx)(scope:OH)(cl:List (Mj×Addr)):List Mj->List (Option Nat)->Prop
 | [],[]=>True
 |_::N,none::r=>cQ X scope cl N r
 |x::N,some j::r=>X.N[j]?=some x/\X.env.kindOf x=some .cell/\(Pm scope cl 0 X.env).kindOf x=some .cell/\cl.lookup x=X.env.cells.lookup x/\cQ X scope cl N r
 |_,_=>False
def cY(src:List (Option Nat))(σ:L2.St):L2.St:=src.map λo=>o.bind λj=>(σ[j]?).getD none
theorem cQ.len{X:Cx}{scope:OH}{cl:List (Mj×Addr)}:∀{N:List Mj} {src:List (Option Nat)},cQ X scope cl N src->N.length=src.length
 | [],[],_=>rfl
 |_::_,none::_,h=>congrArg (·+1) (cQ.len (X:=X) (scope:=scope) (cl:=cl) h)
 |_::_,some _::_,h=>congrArg (·+1) (cQ.len (X:=X) (scope:=scope) (cl:=cl) h.2.2.2.2)
theorem cQ.at{X:Cx}{scope:OH}{cl:List (Mj×Addr)}{σ:L2.St}:∀{N:List Mj} {src:List (Option Nat)} {i:Nat} {x:Mj} {v:V},cQ X scope cl N src->N[i]?=some x->(cY src σ)[i]?=some (some v)→
  ∃j:Nat,X.N[j]?=some x/\σ[j]?=some (some v)/\X.env.kindOf x=some .cell/\(Pm scope cl 0 X.env).kindOf x=some .cell/\cl.lookup x=X.env.cells.lookup x
 |y::N,none::r,0,x,v,h,e,q=>by cases q
 |y::N,none::r,i+1,x,v,h,e,q=>cQ.at (N:=N) (src:=r) (i:=i) h e q
 |y::N,some j::r,0,x,v,h,e,q=>by
  cases e
  refine⟨j,h.1,?_,h.2.1,h.2.2.1,h.2.2.2.1⟩;have q':some ((σ[j]?).getD none)=some (some v):=q;injection q' with q'
  cases z:σ[j]? with
  |none=>rw[z] at q';cases q'
  |some o=>rw[z] at q';exact congrArg some q'
 |y::N,some j::r,i+1,x,v,h,e,q=>cQ.at (N:=N) (src:=r) (i:=i) h.2.2.2.2 e q
def fC(X:Cx)(scope:OH)(cl:List (Mj×Addr)):Prop:=
 (∀x,((Pm scope cl 0 X.env).kindOf x=some .cell∨(Pm scope cl 0 X.env).kindOf x=some .free)->∃c,cl.lookup x=some c)/\∀x c,cl.lookup x=some c->X.env.cells.lookup x=some c
def iH(X:Cx):List (Mj×Addr)->Prop
 | []=>True
 |y::r=>X.env.cells.lookup y.1=some y.2/\iH X r
theorem iH.mem{X:Cx}:∀{cl:List (Mj×Addr)},iH X cl->∀y∈cl,X.env.cells.lookup y.1=some y.2
 | [],_,y,h=>by cases h
 |z::r,k,y,h=>by
  rcases LZ.mp h with e|h
  ·rw[e];exact k.1
  ·exact iH.mem k.2 y h
theorem mem_of_lookup{α:Type}{x:Mj}{v:α}:∀{l:List (Mj×α)},l.lookup x=some v->(x,v)∈l
 | [],h=>by cases h
 | (y,w)::r,h=>by
  rw[Qe] at h
  cases e:x==y with
  |true=>
   rw[e] at h;have e':x=y:=PX e
   cases h
   rw[e'];exact LY
  |false=>
   rw[e] at h;exact L3 _ (mem_of_lookup h)
theorem aQ(h1:((Sb scope X.env).names.all λy=>!(y.2==.cell||y.2==.free)||(cl.lookup y.1).isSome)=true)(h2:iH X cl):fC X scope cl:=by
 refine⟨λx h=>?_,λx c e=>h2.mem _ (mem_of_lookup e)⟩;have h3:=No.mp h1;have key:∀k:O3,(k=.cell∨k=.free)->(Sb scope X.env).names.lookup x=some k->∃c,cl.lookup x=some c:=λk hk e=>by
  have q:=h3 _ (mem_of_lookup e);have z:(k==RB||k==Ts)=true:=by rcases hk with rfl|rfl<;>rfl
  simp only[z,RC,Qm] at q;exact Nm.mp q
 rcases h with h|h
 ·exact key _ (.inl Z) h
 ·exact key _ (.inr Z) h
def eU(σ σ':L2.St):Prop:=σ'.length=σ.length/\∀(i:Nat) (v:V),σ[i]?=some (some v)->σ'[i]?=some (some v)
theorem eU.set(h:σ[i]?=some none):eU σ (σ.set i (some v)):=by
 refine⟨OP,λj u e=>?_⟩;have ne:i≠j:=λz=>by subst z;rw[h] at e;cases e
 rw[NL ne];exact e
theorem eU.set'(e:eU σ τ)(h:σ[i]?=some none):eU σ (τ.set i (some v)):=by
 refine⟨by rw[OP];exact e.1,λj u q=>?_⟩;have ne:i≠j:=λz=>by subst z;rw[h] at q;cases q
 rw[NL ne];exact e.2 j u q
section
variable {X:Cx}{N':List Mj}{scope:OH}{cl:List (Mj×Addr)}{src:List (Option Nat)}{pins:cy}{σ:L2.St}{H:Hp}{s:LV}{fp:List Addr}
theorem Cx.comp_ok{C:Addr}(I:Inv X pins σ H s)(hC:s.heap.objs.size≤C)(hk:scope.kind=.function)(hf:∀b∈fp,fg X pins H b)(hfs:∀b∈fp,b<s.heap.objs.size)(hc:fC X scope cl) :
  (kn X N' scope cl C fp pins s H).Ok where
 mod:=I.ok.mod
 kind:=hk
 glob:=I.ok.glob
 blt:=I.ok.blt
 above:=hC
 inj:=λx y c e1 e2=>I.ok.inj x y c (hc.2 x c e1) (hc.2 y c e2)
 has:=λx h=>hc.1 x h
 cab:=λx c z=>nomatch z
 hd:=I.ok.hd
 frames:=I.ok.frames
 stk:=.inl Z
 exf:=λb hb=>⟨λz=>by have:=hfs b hb;rw[show b=C from z] at this;exact absurd (Mp this hC) (Na _),λx c e=>(hf b hb).2.2.2.2.1 x c (hc.2 x c e)⟩
 bs:=I.bs
 bsz:=MG I.ok.bsz I.sz
 noex:=λb o e hb=>by
  rcases(hf b hb).2.2.2.1 with z|z
  ·exact I.ok.noex b o e z
  ·rw[(I.ok.bs b o e).1] at z;cases z
 exfs:=λb hb z=>by
  rcases LZ.mp (I.stkSub b z) with q|q
  ·exact(hf b hb).2.1 q
  ·exact(hf b hb).2.2.1 q
 funs:=I.stack
 frf:=I.stkFree
theorem Inv.comp{C:Addr}{h₁:MA}{m:Mj->Option Value}{tk:Nat}(I:Inv X pins σ H s)(hC:C=s.heap.objs.size)(hns:h₁.Ns C m)(keep:∀b o,s.heap.get? b=some o->h₁.get? b=some o)
  (hk:scope.kind=.function) (hf:∀b∈fp,fg X pins H b) (hfs:∀b∈fp,b<s.heap.objs.size) (hc:fC X scope cl) (hfree:cQ X scope cl N' src) :
  Inv (kn X N' scope cl C fp pins s H) [] (cY src σ) H { s with heap:=h₁,toks:=tk} where
 ok:=Cx.comp_ok I (NQ hC.symm) hk hf hfs hc
 os:=Z
 bare:=I.bare
 base:=Un.kept keep
 loc:=⟨m,hns,λi x v e1 e2 _=>by
  obtain⟨j,hj,hσ,kc,kc',hl⟩:=hfree.at e1 e2;obtain⟨m0,hn0,hl0⟩:=I.loc;obtain⟨u,r,l⟩:=hl0 j x v hj hσ (L7 (L8 kc));rcases l with⟨k,_⟩ | ⟨k,c,e,o,ho,hd⟩
  ·rw[kc] at k;cases k
  ·exact⟨u,r,.inr ⟨.inl kc',c,hl.trans e,o,keep c o ho,hd⟩⟩⟩
 cell:=λx c e=>let ⟨v,o,ho,hd⟩:=I.cell x c (hc.2 x c e);⟨v,o,keep _ _ ho,hd⟩
 free:=I.hok.fresh (NQ hC.symm)
 freeC:=λx c e=>I.freeC x c (hc.2 x c e)
 pin:=λp hp=>by
  have hp':p∈X.pn++pins:=by
   have z:p∈(X.pn++pins)++[]:=hp;rw[NF] at z;exact z
  obtain⟨e,n,ne,nf,d⟩:=I.pin p hp';refine⟨keep _ _ e,n,λz=>?_,λz=>?_,d⟩
  ·have:=Mv e;rw[show p.1=C from z,hC] at this;exact Na _ this
  ·rcases LZ.mp (I.stkSub _ z) with q|q
   ·exact ne q
   ·exact nf q
 hok:=I.hok.kept keep
 len:=by show(cY src σ).length=N'.length;unfold cY;rw[LO,hfree.len]
end
def Ds(X:Cx)(ifs:List Mu)(t:TT):Prop:=
 ∀(pins:cy) (s:LV) (σ:L2.St) (H:Hp) (Q:Bool->Hp->Prop),Inv X pins σ H s->t σ H Q→
  L6 (Ma X.prog X.w) X.A (forIn ifs true λc r=>if r=true then do let ok ←isTrue c X.env (eval c X.env);Nt (PJ ok) else Nt (PJ r)) (TP X pins σ Q) X.xe s
def GC:TT:=λ_ H Q=>Q true H
theorem BH:Ds X [] GC:=λ_ _ _ H _ I h=>wpAny_tests_nil ⟨H,I,h⟩
theorem BG(h:PT X c t):Ds X [c] t:=λpins s σ H Q I q=>wpAny_tests_one (h pins s σ H Q I q)
section
variable {prog:Mo}{w:MD}{A:Mq}{R:Ss->LV->Prop}{s:LV}
theorem oA(I:Nat->LV->Prop)
  (turn:∀n s,I n s->L6 (Ma prog w) A (TN it) (λr s₁=>match r with
   |none=>R (.ok .next) s₁
   |some v=>L6 (Ma prog w) A (PH target it v) (λ_ s₁'=>L6 (Ma prog w) A (Ps target env v) (λ_ s₂=>
     L6 (Ma prog w) A (forIn ifs true λc r=>if r=true then do let ok ←isTrue c env (eval c env);Nt (PJ ok) else Nt (PJ r)) (λok s₃=>
      if ok=true then L6 (Ma prog w) A (eval elt env) (λx s₄=>
       L6 (Ma prog w) A (call (.builtin "list.append") [acc,x]) (λ_ s₅=>∃m,m<n/\I m s₅) (λ_ _=>False) s₄) (λ_ _=>False) s₃
      else ∃m,m<n/\I m s₃) (λ_ _=>False) s₂) (λ_ _=>False) s₁') (λ_ _=>False) s₁) (λ_ _=>False) s)
  (n:Nat) (h:I n s):Op (Ma prog w) A (.compLoop (.ListComp elt [⟨target,iter,ifs,0⟩] scope pos) 0 it acc env) R s:=by
 refine codeAny_loop Z I (λn s hI=>?_) n h;show L6 _ A ((compTurn (.ListComp elt [⟨target,iter,ifs,0⟩] scope pos) 0 it acc env).onRaise (λx=>do PY x env;theTreesLotGoes x)) _ _ s;refine wpAny_noted ?_;rw[compTurn_list];refine LM (OE (LM (Ng (turn n s hI) (λr s₁ h₁=>?_) λ_ _ h'=>h'.elim)))
 cases r with
 |none=>exact L1 h₁
 |some v=>
  refine LM (Ng h₁ (λ_ s₁' h₁'=>?_) λ_ _ h'=>h'.elim);refine LM (Ng h₁' (λ_ s₂ h₂=>LM (Ng h₂ (λok s₃ h₃=>?_) λ_ _ h'=>h'.elim)) λ_ _ h'=>h'.elim)
  cases ok with
  |false=>exact L1 ⟨Z,h₃⟩
  |true=>
   exact LM (LM (Ng h₃ (λx s₄ h₄=>LM (Ng h₄ (λ_ s₅ h₅=>L1 (L1 ⟨Z,h₅⟩)) λ_ _ h'=>h'.elim)) λ_ _ h'=>h'.elim))
end
structure wO(X:Cx)(pins:cy)(H:Hp)(C:Addr):Prop where
 no:H C=none
 lo:C≠X.env.locals
 fs:C∉X.fs
 old:X.s₀.heap.get? C=none
 ce:∀x c,X.env.cells.lookup x=some c->c≠C
 pn:∀p∈X.pn++pins,p.1≠C
theorem wO.turned{X:Cx}{pins:cy}{σ:L2.St}{H:Hp}{C:Addr}{s:LV}(o:wO X pins H C)(I:Inv X pins σ H s){h':MA}(sb:OT C s.heap h'):Inv X pins σ H { s with heap:=h'}:=
 I.turned (it:=C) (t':=s.toks) (λb u hb e=>sb.extBut b u hb e) o.no o.lo (.inr o.old) o.ce o.pn
def js(wi:TI)(src:List (Option Nat))(g:TG)(tt:TT)(te:TE):TE:=λσ H Q=>wi σ H λJ H1=>∀D,H1 D=none->∃W:Nat->Nat->List V->Hp->Prop,
 (∃m,W 0 m [] (upd H1 D (.lst [])))/\∀i m ys H,W i m ys H->(J.stop i H/\Q (.ref D) H)∨(J.go i H/\∀x H',J.yld i H x H'->g x (cY src σ) H' λσ2 H2=>eU (cY src σ) σ2/\tt σ2 H2 λok H3=>
  if ok=true then te σ2 H3 λy H4=>H4 D=some (.lst ys)/\ys.length<sizeLine/\∃m',m'<m/\W (i+1) m' (ys++[y]) (upd H4 D (.lst (ys++[y]))) else ∃m',m'<m/\W (i+1) m' ys H3)
section
variable {X:Cx}{N':List Mj}{scope:OH}{cl:List (Mj×Addr)}{src:List (Option Nat)}{tg iter elt:Mu}{ifs:List Mu}{wi:TI}{g:TG}{tt:TT}{te:TE}{pos:Oo}
theorem rR(hc:X.calm=true)(hi:PI X tg iter wi)(hg:∀C fp pins s H,PG (kn X N' scope cl C fp pins s H) tg g)(ht:∀C fp pins s H,Ds (kn X N' scope cl C fp pins s H) ifs tt)
  (he:∀C fp pins s H,PE (kn X N' scope cl C fp pins s H) elt te) (hfree:cQ X scope cl N' src) (hcell:∀x∈scope.names,x.2≠.cell) (hkind:scope.kind=.function) (hcl:fC X scope cl)
  {RR:Value->Addr->Ss->LV->Prop} {pins:cy} {s:LV} {σ:L2.St} {H:Hp} {Q:VK} (I:Inv X pins σ H s) (h:js wi src g tt te σ H Q)
  (hRR:∀D C H' s',Q (.ref D) H'->(∃m,s'.heap.Ns C m)->Inv X pins σ H' s'->wO X pins H' C->RR (.ref D) C (.ok .next) s') :
  L6 (Ma X.prog X.w) X.A (eval iter X.env) (λx s₁=>L6 (Ma X.prog X.w) X.A (TQ x) (λitv s₂=>L6 (Ma X.prog X.w) X.A (Sc []) (λacc s₃=>
   L6 (Ma X.prog X.w) X.A (P3 scope X.env.globals cl [] X.env.qual none .none (some X.env)) (λcenv s₄=>
    Op (Ma X.prog X.w) X.A (.compStart (.ListComp elt [⟨tg,iter,ifs,0⟩] scope pos) 0 itv acc { cenv with scope:=Sb scope X.env}) (RR acc cenv.locals) s₄) X.xe s₃) X.xe s₂) X.xe s₁) X.xe s:=by
 refine cA (hi pins s σ H _ I h) λv s1 h1=>cA h1 λitv s2 h2=>?_
 obtain⟨it,fp,tn,J,H2,e,I2,T,st2,f2,h2⟩:=h2;subst e;refine MQ ?_ (by show 0≤sizeLine;exact Mx _);have hD:H2 s2.heap.objs.size=none:=I2.fresh;have I3:Inv X pins σ (upd H2 s2.heap.objs.size (.lst [])) { s2 with heap:=s2.heap.push { cls:=.type "list",data:=.seq ([]:List Value).toArray} }:=I2.lnew (t':=s2.toks) (its:=[]) .nil (Mx _);obtain⟨W,⟨m0,w0⟩,turn⟩:=h2 s2.heap.objs.size hD;generalize hDe:s2.heap.objs.size=D at I3 turn w0 hD ⊢;have st3:tn 0 (s2.heap.push { cls:=.type "list",data:=.seq ([]:List Value).toArray}):=T.keep _ _ _ st2 λb _ o e=>LU _ e
 have f3:∀b∈fp,fg X pins (upd H2 D (.lst [])) b/\b<(s2.heap.push { cls:=.type "list",data:=.seq ([]:List Value).toArray}).objs.size:=λb hb=>by
  obtain⟨o,e,_⟩:=T.obj _ _ st2 b hb;have l:=Mv e;rw[hDe] at l;refine⟨⟨?_,(f2 b hb).2⟩,by rw[N4,hDe];exact Qn l⟩;rw[aE (Nc l)];exact(f2 b hb).1
 generalize (s2.heap.push { cls:=.type "list",data:=.seq ([]:List Value).toArray})=h3 at I3 st3 f3 ⊢;refine wpAny_newFunctionEnv hcell (by intro y hy;simp at hy) (λh₄ hns₄ hsb₄=>?_) hkind;have keep:∀b o,h3.get? b=some o->h₄.get? b=some o:=λb o e=>hsb₄.extBut b o (Nc (Mv e)) (LU _ e)
 have I4:=Inv.comp (C:=h3.objs.size) (fp:=fp) (tk:=s2.toks+([]:List (Mj×Value)).length) I3 Z hns₄ keep hkind (λb hb=>(f3 b hb).1) (λb hb=>(f3 b hb).2) hcl hfree;have st4:tn 0 h₄:=T.keep _ _ _ st3 λb _ o e=>keep b o e
 have fpn:∀b∈fp,(upd H2 D (.lst [])) b=none:=λb hb=>(f3 b hb).1.1
 have hn3:∀b∈fp,b≠h3.objs.size:=λb hb=>Nc (f3 b hb).2
 have stat:∀{H':Hp},(∀b∈fp,H' b=none)->∀b∈fp,fg (kn X N' scope cl h3.objs.size fp pins { s2 with heap:=h3} (upd H2 D (.lst []))) [] H' b:=λhn b hb=>
  ⟨hn b hb,hn3 b hb,I4.ok.exfs b hb,.inl hb,λx c e=>(f3 b hb).1.2.2.2.2.1 x c (hcl.2 x c e),λp hp=>(f3 b hb).1.2.2.2.2.2 p (by
   have z:p∈(X.pn++pins)++[]:=hp;rw[NF] at z;exact z)⟩
 have back:∀{H':Hp} {s':LV},Inv (kn X N' scope cl h3.objs.size fp pins { s2 with heap:=h3} (upd H2 D (.lst []))) [] (cY src σ) H' s'->(∃m,s'.heap.Ns h3.objs.size m)/\Inv X pins σ H' s'/\wO X pins H' h3.objs.size:=λ{H' s'} I'=>by
  have Ib:Inv X pins σ H' s':=I3.call' I'.os I'.base I'.hok I'.bare λb hb=>⟨(f3 b hb).1.2.2.2.1,(f3 b hb).1.2.1,(f3 b hb).1.2.2.2.2.1,(f3 b hb).1.2.2.2.2.2⟩
  refine⟨let ⟨m,hm,_⟩:=I'.loc;⟨m,hm⟩,Ib,⟨I'.free,λz=>?_,I3.nofs (LN _),NK I3.sz,λx c e z=>?_,λp hp z=>?_⟩⟩
  ·have:=I3.lt;rw[←z] at this;exact Na _ this
  ·obtain⟨v,o,ho,_⟩:=I3.cell x c e;have:=Mv ho;rw[z] at this;exact Na _ this
  ·obtain⟨e,_⟩:=I3.pin p hp;have:=Mv e;rw[z] at this;exact Na _ this
 have loop:Op (Ma X.prog X.w) X.A (.compLoop (.ListComp elt [⟨tg,iter,ifs,0⟩] scope pos) 0 (.ref it) (.ref D) (Pm scope cl h3.objs.size X.env)) (RR (.ref D) h3.objs.size) { s2 with heap:=h₄,toks:=s2.toks+([]:List (Mj×Value)).length}:=by
  refine oA (λn s'=>∃i ys H',Inv (kn X N' scope cl h3.objs.size fp pins { s2 with heap:=h3} (upd H2 D (.lst []))) [] (cY src σ) H' s'/\tn i s'.heap/\(∀b∈fp,H' b=none)/\W i n ys H') ?_ m0 ⟨0,[],_,I4,st4,fpn,w0⟩;rintro n s5 ⟨i,ys,H5,I5,st5,fr5,w5⟩;rcases turn i n ys H5 w5 with⟨stop,qn⟩ | ⟨go,step⟩
  ·refine cA (T.done (kn X N' scope cl h3.objs.size fp pins { s2 with heap:=h3} (upd H2 D (.lst []))) rfl rfl rfl hc i [] s5 _ H5 _ I5 (stat fr5) st5 stop) λr s6 ⟨hr,I6⟩=>?_
   subst hr;obtain⟨b1,b2,b3⟩:=back I6;exact hRR D _ H5 s6 qn b1 b2 b3
  ·refine cA (T.item (kn X N' scope cl h3.objs.size fp pins { s2 with heap:=h3} (upd H2 D (.lst []))) rfl rfl rfl hc i [] s5 _ H5 _ I5 (stat fr5) st5 go) λr s6 ⟨u,hr,h6⟩=>?_
   subst hr;refine cA h6 λ_ s7 ⟨x,H7,I7,r7,y7,st7,fr7⟩=>?_
   have I7':=I7.pinned (stat fr7) (T.obj _ _ st7);refine cA (hg _ _ _ _ _ _ s7 _ H7 x u _ I7' r7 (step x H7 y7)) λ_ s8 ⟨σ8,H8,I8,ex8,q8⟩=>?_
   refine cA (ht _ _ _ _ _ _ s8 σ8 H8 _ I8 q8) λok s9 ⟨H9,I9,q9⟩=>?_
   have again:∀{ys':List V} {Ha:Hp} {sa:LV},Inv (kn X N' scope cl h3.objs.size fp pins { s2 with heap:=h3} (upd H2 D (.lst []))) ([]++kh fp s7.heap) σ8 Ha sa->(∃m',m'<n/\W (i+1) m' ys' Ha)→
     ∃m,m<n/\∃i ys H',Inv (kn X N' scope cl h3.objs.size fp pins { s2 with heap:=h3} (upd H2 D (.lst []))) [] (cY src σ) H' sa/\tn i sa.heap/\(∀b∈fp,H' b=none)/\W i m ys H':=λ{ys' Ha sa} Ia ⟨m',hm,wa⟩=>by
    refine⟨m',hm,i+1,ys',Ha,(Ia.unpinned).weak ex8.1.symm ex8.2,T.keep _ _ _ st7 λb hb o e=>(Ia.pin (b,o) (Md _ (Md _ (eR hb e)))).1,λb hb=>?_,wa⟩;obtain⟨o,e,_⟩:=T.obj _ _ st7 b hb;exact(Ia.pin (b,o) (Md _ (Md _ (eR hb e)))).2.1
   cases ok with
   |false=>exact again I9 q9
   |true=>
    refine cA (he _ _ _ _ _ _ s9 σ8 H9 _ I9 q9) λy s10 ⟨yv,H10,I10,r10,q10,hz,wn⟩=>?_
    refine cA (bV _ s10 σ8 H10 (.ref D) [yv] (.ref D) [y] (λ_ Hz=>∃m',m'<n/\W (i+1) m' (ys++[yv]) Hz) I10 Z (.cons r10 .nil) ⟨D,ys,yv,Z,Z,q10,hz,wn⟩) λ_ s11 ⟨_,H11,I11,_,q11⟩=>?_
    exact again I11 q11
 exact QN loop (T.self _ 0 _ _ _ st4 loop)
theorem zN(hc:X.calm=true)(hi:PI X tg iter wi)(hg:∀C fp pins s H,PG (kn X N' scope cl C fp pins s H) tg g)(ht:∀C fp pins s H,Ds (kn X N' scope cl C fp pins s H) ifs tt)
  (he:∀C fp pins s H,PE (kn X N' scope cl C fp pins s H) elt te) (hfree:cQ X scope cl N' src) (hclos:Px scope X.env=Nt cl) (hcell:∀x∈scope.names,x.2≠.cell) (hkind:scope.kind=.function)
  (hnames:∀x∈scope.names,x.2=.local->scope.names.lookup x.1=some .local) (hcl:fC X scope cl) (hs:∀x,Nl iter X.env x=Nt x:=by intro _;rfl) :
  PE X (.ListComp elt [⟨tg,iter,ifs,0⟩] scope pos) (js wi src g tt te):=by
 intro pins s σ H Q I h;rw[eval_ListComp];refine O4 (use:=none) Z hs hclos hkind hnames (rR hc hi hg ht he hfree hcell hkind hcl (RR:=λacc C=>compPost (Ma X.prog X.w) X.A X.xe none (EP X pins σ Q) acc C) I h λD C H' s' q hm hI hb=>?_);obtain⟨m,hm⟩:=hm;exact⟨m,hm,λh' sb=>⟨.ref D,H',hb.turned hI sb,Z,q⟩⟩
theorem BL{i:Nat}{x:Mj}{pos' pos2:Oo}(hN:X.N.Nodup)(hi':X.N[i]?=some x)(hx:wP X.env.scope x)(hc:X.calm=true)(hi:PI X tg iter wi)(hg:∀C fp pins s H,PG (kn X N' scope cl C fp pins s H) tg g)(ht:∀C fp pins s H,Ds (kn X N' scope cl C fp pins s H) ifs tt)
  (he:∀C fp pins s H,PE (kn X N' scope cl C fp pins s H) elt te) (hfree:cQ X scope cl N' src) (hclos:Px scope X.env=Nt cl) (hcell:∀x∈scope.names,x.2≠.cell) (hkind:scope.kind=.function)
  (hnames:∀x∈scope.names,x.2=.local->scope.names.lookup x.1=some .local) (hcl:fC X scope cl) (hs:∀x,Nl iter X.env x=Nt x:=by intro _;rfl)
  (hsw:Od (.ListComp elt [⟨tg,iter,ifs,0⟩] scope pos) (some (.Name x pos')) pos2.line X.env=Nt true:=by rfl) (hf:X.fn x=true∨X.env.scope.names.lookup x=some .local:=by first|exact .inl Z|exact .inr Z|assumption) :
  PS X (.Assign [.Name x pos'] (.ListComp elt [⟨tg,iter,ifs,0⟩] scope pos) pos2) (oZ (js wi src g tt te) (jK i)):=by
 intro pins s σ H D I h;rw[Q0 _ _ _ _ hsw];refine LM (OE ?_);show L6 _ _ ((comprehension (.ListComp elt [⟨tg,iter,ifs,0⟩] scope pos) scope X.env _ (Sc []) false (eval iter X.env) (some (Ps (.Name x pos') X.env)) >>= λ_=>Nt ()) >>= λ_=>Nt Sn) _ _ s;refine LM (LM (Ng (O4 (use:=some (Ps (.Name x pos') X.env)) (Q:=λ_ s''=>SP X pins D .next s'') Z hs hclos hkind hnames (rR hc hi hg ht he hfree hcell hkind hcl (RR:=λacc C=>compPost (Ma X.prog X.w) X.A X.xe (some (Ps (.Name x pos') X.env)) (λ_ s''=>SP X pins D .next s'') acc C) I h λE C H' s' q hm hI hb=>?_)) (λ_ s'' h''=>L1 (L1 h'')) λ_ _ e=>e));obtain⟨m,o,es,ep,ho,hd,r1,r2⟩:=hm;have I':Inv X (pins++[(C,o)]) σ H' s':=hI.pins_of λp hp=>by
  rcases Mh.mp hp with h|h
  ·exact hI.pin p (Md _ h)
  ·rw[LP] at h;rw[h];exact⟨ho,hb.no,hb.lo,hb.fs,λv z=>by rw[hd] at z;cases z⟩
 refine Qa (eV I' hN hi' hx (show bv (.ref E) (.ref E) from Z) (λs'' I''=>?_) hf);have hC:=(I''.pin (C,o) (Md _ (Md _ LY))).1;have I3:Inv X pins (σ.set i (some (.ref E))) H' s'':=I''.pins_of λp hp=>I''.pin p (Md _ (MJ _ hp))
 exact⟨m,⟨o,es,ep,hC,hd,r1,r2⟩,λh' sb=>⟨_,H',hb.turned I3 sb,q⟩⟩
end
def GY(K:Fg):R2:=λx y H Q=>∃d d',bP K H x d/\bP K H y d'/\d.canLay0=true/\d'.canLay0=true/\d.depth≤32/\Q (.bl (!PyData.eqv d d')) H
theorem ic(hr:cZ k X.A):gk X (ML .NotEq) (GY X.K):=by
 intro pins s σ H x y v u Q I rx ry h;obtain⟨d,d',hd,hd',c,c',dp,q⟩:=h;obtain⟨as,ra⟩:=bP.reads I hd rx;obtain⟨bs,rb⟩:=bP.reads I hd' ry;exact SeqAt.compareNe_reads ra rb c c' (by have:=hr.units;omega) ⟨.bl _,H,I,Z,q⟩
noncomputable def Kg (h:MA) (x:Value) (d:PyData) (y:Value):Bool:=
 open Classical in if y=x then true else if z:∃d',d'.canLay0=true/\d'.depth≤32/\∃as,Reads h y d' as then M7 z.choose d else false
def Dt(K:Fg)(H:Hp)(xs:List V):Prop:=∀x∈xs,∃d,bP K H x d/\d.canLay0=true/\d.depth≤32
def IB(K:Fg):R2:=λx y H Q=>∃a p xs,x=.ref a/\y=.ref p/\aS K H p xs/\V.ref a∈xs/\Dt K H xs/\Q (.bl false) H
def IF(K:Fg):V->List V->Hp->VK->Prop:=λx vs H Q=>∃p xs a d,x=.ref p/\vs=[.ref a]/\aS K H p xs/\V.ref a∈xs/\Dt K H xs/\bP K H (.ref a) d/\d.canLay0=true/\d.depth≤32∧
 ∀(j:Nat) (v':V),xs[j]?=some v'->(v'=.ref a∨∀d',bP K H v' d'->d'.canLay0=true->M7 d' d=true)->Q (.int j) H
end B
namespace B
abbrev R:=Int×Int
def eZ(a b:Int):R:=(a/(Int.gcd a b:Int),b/(Int.gcd a b:Int))
structure Wf(n:Nat)(r:R):Prop where
 pos:0<r.2
 top:r.1.natAbs<2^n
 bot:r.2.natAbs<2^n
 cop:Int.gcd r.1 r.2=1
theorem Wf.mono(h:Wf n r)(l:n≤m):Wf m r:=⟨h.pos,Mp h.top (Ot (by decide) l),Mp h.bot (Ot (by decide) l),h.cop⟩
theorem cD(hb:0<b):0<(Int.gcd a b:Int):=by
 have h:Int.gcd a b≠0:=λz=>by
  have:=(Int.gcd_eq_zero_iff.mp z).2;omega
 omega
theorem gi(a:Int)(hg:0<g):(a/g).natAbs≤a.natAbs:=by
 have h1:=ediv_mul_le a (show g≠0 by omega);have h2:=lt_ediv_add_one_mul_self a hg;rcases le_total 0 a with h|h
 ·have h3:=Pg h (show 0≤g by omega);have h4:a/g≤a/g*g:=by
   have:a/g*1≤a/g*g:=OZ (by omega) h3;omega
  omega
 ·have h3:a/g≤0:=by
   have:=ediv_le_ediv hg h;rw[zero_ediv] at this;exact this
  have h5:a≤a/g:=by
   have:a/1≤a/g:=by
    have q:(a/g+1)*g≤(a/g+1)*1∨0<a/g+1:=by
     rcases le_total (a/g+1) 0 with z|z
     ·left;have:=OZ (a:=1) (b:=g) (c:=-(a/g+1)) (by omega) (by omega);have e1:-(a/g+1)*1=-((a/g+1)*1):=neg_mul _ _;have e2:-(a/g+1)*g=-((a/g+1)*g):=neg_mul _ _;omega
     ·rcases lt_or_eq_of_le z with z|z
      ·right;exact z
      ·left;rw[←z];simp
    rw[Tc];rcases q with q|q
    ·omega
    ·omega
   rw[Tc] at this;exact this
  omega
theorem tI(hb:0<b)(h1:a.natAbs<2^n)(h2:b.natAbs<2^n):Wf n (eZ a b):=
 ⟨Oy hb (Int.le_of_lt (cD hb)) (Int.gcd_dvd_right a b),Nx (gi _ (cD hb)) h1,Nx (gi _ (cD hb)) h2,Pr (by have:=cD (a:=a) hb;omega)⟩
def bo(r q:R):R:=eZ (r.1*q.2+q.1*r.2) (r.2*q.2)
def f8(r q:R):R:=eZ (r.1*q.1) (r.2*q.2)
def cX(r q:R):Bool:=decide (r.1*q.2<q.1*r.2)
theorem mG{x y:Int}(h1:x.natAbs<2^n)(h2:y.natAbs<2^m):(x*y).natAbs<2^(n+m):=by
 rw[OQ,pow_add];exact mul_lt_mul'' h1 h2
theorem zt(h:Wf n r)(k:Wf m q):(r.1*q.2+q.1*r.2).natAbs<2^(n+m+1):=by
 have a:=mG h.top k.bot;have b:=mG k.top h.bot;rw[Nat.add_comm m n] at b;have e:2^(n+m+1)=2*2^(n+m):=by rw[pow_succ,Nat.mul_comm]
 have:=natAbs_add_le (r.1*q.2) (q.1*r.2);omega
theorem jB(h:Wf n r)(k:Wf m q):Wf (n+m+1) (bo r q):=
 tI (N9 h.pos k.pos) (zt h k) (Mp (mG h.bot k.bot) (Ot (by decide) (OK _)))
end B
namespace B
open PySem L2 PyProof.Rows
def JJ(i j:Int):Prop:=i.natAbs<2^4000/\j.natAbs<2^4000
def JG(_ j:Int):Prop:=0<j/\j.natAbs<2^4000
theorem ve(h:i.natAbs<2^4000):Rs i≤2^20:=by
 unfold Rs
 split
 ·exact Mx _
 ·rename_i z;have hz : i.natAbs≠0 := λq => z (by have : i=0 := (by omega); rw[this]; rfl)
  have:=(TV hz).mpr h;have e:(2:Nat)^20=1048576:=by decide
  omega
section
variable {X:Cx}
theorem dC:gk X (OA .Mult) (rI JJ λi j=>.int (i*j)):=Gs λ_ _ _ _ _ _ _ hc q=>mul_int q (IntMulOk.of_bits (ve hc.1) (ve hc.2))
theorem eP:gk X (OA .FloorDiv) (rI JG λi j=>.int (i/j)):=Gs λi j _ _ _ _ _ hc q=>by
 have h1:(0:Int)<j:=hc.1;have h2:j.natAbs<2^4000:=hc.2;refine floordiv_int (by omega) (by rw[QB i (by omega)];exact q) (.inl (PyProof.noPylong_of_log2 ?_));exact lt_trans ((TV (show j.natAbs≠0 by omega)).mpr h2) (by decide)
end
def aM(K:Fg)(H H':Hp):Prop:=∀p xs,bH K H p xs->bH K H' p xs
theorem aM.trans{K:Fg}{H H1 H2:Hp}(a:aM K H H1)(b:aM K H1 H2):aM K H H2:=λp xs h=>b p xs (a p xs h)
theorem aM.same{K:Fg}{H H':Hp}(s:aB H H'):aM K H H':=λp xs h=>by
 rcases h with(h | ⟨o,h⟩)|h
 ·exact .inl (.inl (s _ _ h))
 ·exact .inl (.inr ⟨o,s _ _ h⟩)
 ·exact .inr h
theorem aM.step{K:Fg}{t:Addr}{H H':Hp}(S:bz t H H'):aM K H H':=λp xs h=>by
 obtain⟨ys,ht⟩:=S.tp;rcases h with(h | ⟨o,h⟩)|h
 ·exact .inl (.inl (S.keep _ _ (λz=>by subst z;rw[h] at ht;cases ht) h))
 ·exact .inl (.inr ⟨o,S.keep _ _ (λz=>by subst z;rw[h] at ht;cases ht) h⟩)
 ·exact .inr h
theorem aM.up{K:Fg}{H:Hp}{l:Addr}{xs:List V}(h:H l=some (.lst xs))(ys:List V):aM K H (upd H l (.lst ys)):=aM.step (bz.up h)
def RV(K:Fg)(H:Hp)(v:V)(r:R):Prop:=∃p,v=.ref p/\bH K H p [.int r.1,.int r.2]
theorem RV.mono{K:Fg}{H H':Hp}{v:V}{r:R}(h:RV K H v r)(t:aM K H H'):RV K H' v r:=let ⟨p,e,q⟩:=h;⟨p,e,t _ _ q⟩
theorem RV.of{K:Fg}{H:Hp}{p:Addr}{a b:Int}(h:H p=some (.tup [.int a,.int b])):RV K H (.ref p) (a,b):=⟨p,Z,bH.of h⟩
def IL(K:Fg)(H:Hp)(xs:List V)(rs:List R):Prop:=xs.length=rs.length/\∀(i:Nat) (x:V) (r:R),xs[i]?=some x->rs[i]?=some r->RV K H x r
theorem IL.at{K:Fg}{H:Hp}{xs:List V}{rs:List R}{i:Nat}{x:V}(h:IL K H xs rs)(e:xs[i]?=some x):∃r,rs[i]?=some r/\RV K H x r:=by
 have hi:=(LR.mp e).1;have hj:i<rs.length:=by rw[←h.1];exact hi
 exact⟨rs[i],LL hj,h.2 i x _ e (LL hj)⟩
def G7(r:R):Nat->R
 |0=>(1,1)
 |k+1=>f8 (G7 r k) r
theorem io:Wf 1 (0,1):=⟨by decide,by decide,by decide,by decide⟩
def dS(rs:List R):R:=rs.foldl bo (0,1)
def dR(r:R):PyData:=.tuple [.int r.1,.int r.2]
theorem RV.deep{K:Fg}{H:Hp}{v:V}{r:R}(h:RV K H v r):bP K H v (dR r):=by
 obtain⟨p,rfl,q⟩:=h;exact .tup q (.cons (.int _) (.cons (.int _) .nil))
theorem F1(r:R):(dR r).canLay0=true:=Z
theorem jO(r:R):(dR r).depth≤32:=by show max 0 (max 0 0)+1≤32;decide
theorem FE{i:Int}(h:i.natAbs<2^n)(hn:n≤1900):i.natAbs.log2<1920:=by
 by_cases z:i.natAbs=0
 ·rw[z];decide
 ·have:=(TV z).mpr (Mp h (Ot (by decide) hn));omega
theorem FG(h:i.natAbs<2^n)(hn:n≤1900):(Tf i).shown.length≤1921:=by
 have q:=int_text_length_le (a:=i) (k:=1920) (by decide) (FE h hn);have e:(Tf i).shown.length=(toString i).length:=by
  show(Og (toString i)).length=_;exact PySem.ofString_length _
 omega
theorem FU(h:M7 (dR r) (dR q)=true):r=q:=by
 have z:(r.1==q.1&&(r.2==q.2&&true))=true:=h;simp only[RD,ME,beq_iff_eq] at z;exact TZ z.1 z.2
theorem rP(r:R):M7 (dR r) (dR r)=true:=by
 show(r.1==r.1&&(r.2==r.2&&true))=true;simp
end B
namespace B
open PySem L2 PyProof.Rows
def dL(rs:List R):PyData:=.list (rs.map dR)
theorem HQ(rs:List R):M7 (dL rs) (dL rs)=true:=by
 show Tt (rs.map dR) (rs.map dR)=true
 induction rs with
 |nil=>rfl
 |cons r rs ih=>
  show(M7 (dR r) (dR r)&&Tt (rs.map dR) (rs.map dR))=true;rw[rP,ih];rfl
theorem Ck(rs:List R):(dL rs).canLay0=true:=by
 show Sd (rs.map dR)=true
 induction rs with
 |nil=>rfl
 |cons r rs ih=>
  show(PyData.canLay0 (dR r)&&Sd (rs.map dR))=true;rw[F1,ih];rfl
theorem tY(rs:List R):NE (rs.map dR)≤8:=by
 induction rs with
 |nil=>exact Mx _
 |cons r rs ih=>
  have e:PyData.depth (dR r)≤8:=by show max 0 (max 0 0)+1≤8;decide
  show max (PyData.depth (dR r)) (NE (rs.map dR))≤8;omega
def Hy(K:Fg)(tl:TE):TI:=λσ H R=>tl σ H λx H1=>(∃a,x=.ref a/\(∃xs,aS K H1 a xs)/\R (Gm K a) H1)∨(∃a,x=.ref a/\(∃xs,bH K H1 a xs)/\R (A3 K a) H1)
theorem EE(hl:PE X l tl):PI X tg l (Hy X.K tl):=by
 intro pins s σ H R I h;refine cA (hl pins s σ H _ I h) λv s1 ⟨x,H1,I1,r1,q1⟩=>?_
 rcases q1 with⟨a,e,⟨xs,hq⟩,q⟩ | ⟨a,e,⟨xs,hq⟩,q⟩
 ·subst e;cases r1;obtain⟨its,rv,p,hz⟩:=I1.list hq;refine Pk p.isList ?_;refine⟨s1.heap.objs.size,[s1.heap.objs.size],_,_,H1,Z,I1.kept (t':=s1.toks) λb o e=>LU _ e,nP a _,⟨_,Mm _ Z,Z,Z⟩,λb hb=>?_,q⟩;have e:b=s1.heap.objs.size:=by simpa using hb
  subst e;exact I1.fpOk (LN _) (I1.hok.fresh (LN _))
 ·subst e;cases r1;obtain⟨its,rv,p,hz⟩:=I1.tuple hq;refine Ow (show s1.heap.IsTuple a its.toArray from p) ?_;refine⟨s1.heap.objs.size,[s1.heap.objs.size],_,_,H1,Z,I1.kept (t':=s1.toks) λb o e=>LU _ e,lH a _,⟨_,Mm _ Z,Z,Z⟩,λb hb=>?_,q⟩;have e:b=s1.heap.objs.size:=by simpa using hb
  subst e;exact I1.fpOk (LN _) (I1.hok.fresh (LN _))
end B
namespace B
structure kr(r:R):Prop where
 pos:0<r.2
 cop:Int.gcd r.1 r.2=1
theorem jD(hb:0<b):kr (eZ a b):=
 ⟨Oy hb (Int.le_of_lt (cD hb)) (Int.gcd_dvd_right a b),Pr (by have:=cD (a:=a) hb;omega)⟩
theorem fL(hb:0<b)(hy:0<y)(g:Int.gcd x y=1)(e:x*b=a*y):eZ a b=(x,y):=by
 have h1:Int.gcd (a*y) (b*y)=Int.gcd a b*y.natAbs:=gcd_mul_right a y b;have h2:Int.gcd (x*b) (y*b)=Int.gcd x y*b.natAbs:=gcd_mul_right x b y;rw[e,Int.mul_comm y b,h1,g,one_mul] at h2;have h3:(Int.gcd a b:Int)*y=b:=by
  have z:((Int.gcd a b*y.natAbs:Nat):Int)=(b.natAbs:Int):=congrArg _ h2;rw[Q7,Su (by omega),Su (by omega)] at z;exact z
 have gp:=cD (a:=a) hb;have h4:a=x*(Int.gcd a b:Int):=by
  have z:x*(Int.gcd a b:Int)*y=a*y:=by rw[Int.mul_assoc,h3];exact e
  exact(Oz (by omega) z).symm
 unfold eZ;generalize (Int.gcd a b:Int)=G at h3 h4 gp;subst h4;subst h3;rw[mul_ediv_cancel _ (by omega),Mt _ (by omega)]
theorem ik(h:Int.gcd a b=1)(d:c∣a):Int.gcd c b=1:=
 Int.gcd_eq_one_iff.mpr λz h1 h2=>Int.gcd_eq_one_iff.mp h z (Ro h1 d) h2
theorem iF(h:Int.gcd a b=1)(d:c∣b):Int.gcd a c=1:=by
 rw[Int.gcd_comm];exact ik (by rw[Int.gcd_comm];exact h) d
theorem lC(h:Int.gcd a b=1)(k:Int.gcd a c=1):Int.gcd a (b*c)=1:=by
 rw[gcd_mul_right_right_of_gcd_eq_one h];exact k
theorem jQ(h:Int.gcd a c=1)(k:Int.gcd b c=1):Int.gcd (a*b) c=1:=by
 rw[Int.gcd_comm];exact lC (by rw[Int.gcd_comm];exact h) (by rw[Int.gcd_comm];exact k)
theorem fE(hb:0<b):∃g x y:Int,(Int.gcd a b:Int)=g/\0<g/\a=g*x/\b=g*y/\Int.gcd x y=1:=by
 have gp:=cD (a:=a) hb;obtain⟨x,hx⟩:=gcd_dvd_left a b;obtain⟨y,hy⟩:=Int.gcd_dvd_right a b;refine⟨_,x,y,Z,gp,hx,hy,?_⟩;have z:=Pr (i:=a) (j:=b) (by omega);have e1:a/(Int.gcd a b:Int)=x:=by
  conv=>lhs;lhs;rw[hx]
  exact Mt _ (by omega)
 have e2:b/(Int.gcd a b:Int)=y:=by
  conv=>lhs;lhs;rw[hy]
  exact Mt _ (by omega)
 rw[e1,e2] at z;exact z
theorem jb{g y b:Int}(hb:0<b)(hg:0<g)(e:b=g*y):0<y:=by
 rcases lt_or_le 0 y with h|h
 ·exact h
 ·have:=OZ h (Int.le_of_lt hg);rw[mul_zero] at this;omega
def rn(r q:R):R:=
 let d:Int:=(Int.gcd r.2 q.2:Nat);let t:=r.1*(q.2/d)+q.1*(r.2/d);let e:Int:=(Int.gcd t d:Nat)
 (t/e,r.2/d*(q.2/e))
theorem zw(hr:kr r)(hq:kr q):rn r q=bo r q:=by
 obtain⟨d,u,v,e0,dp,e1,e2,cuv⟩:=fE (a:=r.2) hq.pos;have up:=jb hr.pos dp e1;have vp:=jb hq.pos dp e2;obtain⟨e,x,w,f0,ep,f1,f2,cxw⟩:=fE (a:=r.1*v+q.1*u) dp;have wp:=jb dp ep f2;have du:r.2/d=u:=by rw[e1];exact Mt _ (by omega)
 have dv:q.2/d=v:=by rw[e2];exact Mt _ (by omega)
 have te:(r.1*v+q.1*u)/e=x:=by rw[f1];exact Mt _ (by omega)
 have qe:q.2/e=w*v:=by rw[e2,f2,Int.mul_assoc];exact Mt _ (by omega)
 have c1:Int.gcd r.1 u=1:=iF hr.cop ⟨d,by rw[e1,Int.mul_comm]⟩;have c2:Int.gcd q.1 v=1:=iF hq.cop ⟨d,by rw[e2,Int.mul_comm]⟩;have xd:x∣(r.1*v+q.1*u):=⟨e,by rw[f1,Int.mul_comm]⟩;have t1:Int.gcd (r.1*v+q.1*u) u=1:=by
  rw[Int.gcd_comm,Qs,Int.gcd_comm];exact jQ c1 (by rw[Int.gcd_comm];exact cuv)
 have t2:Int.gcd (r.1*v+q.1*u) v=1:=by
  rw[Int.add_comm,Int.gcd_comm,Qs,Int.gcd_comm];exact jQ c2 cuv
 have cx:Int.gcd x (u*(w*v))=1:=lC (ik t1 xd) (lC cxw (ik t2 xd));have z:rn r q=(x,u*(w*v)):=by
  unfold rn;simp only[e0,du,dv,f0,te,qe]
 rw[z];unfold bo;refine(fL (N9 hr.pos hq.pos) (N9 up (N9 wp vp)) cx ?_).symm;have k:r.1*q.2+q.1*r.2=d*(e*x):=by
  rw[e1,e2,←f1,mul_add];rw[Int.mul_left_comm r.1 d v,Int.mul_left_comm q.1 d u]
 rw[k,e1,e2];have k2:d*u*(d*v)=d*u*(e*w*v):=by rw[←f2]
 rw[k2]
 ac_rfl
def lJ(r q:R):R:=
 let l:Int:=(Int.gcd r.1 q.2:Nat);let m:Int:=(Int.gcd q.1 r.2:Nat)
 (r.1/l*(q.1/m),r.2/m*(q.2/l))
theorem vx(hr:kr r)(hq:kr q):lJ r q=f8 r q:=by
 obtain⟨l,a,b,e0,lp,e1,e2,cab⟩:=fE (a:=r.1) hq.pos;obtain⟨m,c,d,f0,mp,f1,f2,ccd⟩:=fE (a:=q.1) hr.pos;have bp:=jb hq.pos lp e2;have dp:=jb hr.pos mp f2;have z:lJ r q=(a*c,d*b):=by
  unfold lJ;simp only[e0,f0];rw[show r.1/l=a by rw[e1];exact Mt _ (by omega),show q.2/l=b by rw[e2];exact Mt _ (by omega),
   show q.1/m=c by rw[f1];exact Mt _ (by omega),show r.2/m=d by rw[f2];exact Mt _ (by omega)]
 have cad:Int.gcd a d=1:=ik (iF hr.cop ⟨m,by rw[f2,Int.mul_comm]⟩) ⟨l,by rw[e1,Int.mul_comm]⟩;have ccb:Int.gcd c b=1:=ik (iF hq.cop ⟨l,by rw[e2,Int.mul_comm]⟩) ⟨m,by rw[f1,Int.mul_comm]⟩;rw[z];unfold f8;refine(fL (N9 hr.pos hq.pos) (N9 dp bp) (lC (jQ cad ccd) (jQ cab ccb)) ?_).symm;rw[e1,e2,f1,f2]
 ac_rfl
theorem zu(hr:kr r)(hq:kr q):kr (bo r q):=jD (N9 hr.pos hq.pos)
end B
namespace B
open PySem L2 PyProof.Rows
def Kn(_ j:Int):Prop:=j≠0/\j.natAbs<2^4000
def K1(a b:Int):R:=if b<0 then eZ (-a) (-b) else eZ a b
def cI(r q:R):R:=eZ (r.1*q.2-q.1*r.2) (r.2*q.2)
def Hg(r q:R):R:=K1 (r.1*q.2) (r.2*q.1)
structure Kl(d:PyData):Prop where
 sh:d.showable=true
 nd:d.hasDict=false
 sz:d.shown.length≤5000
 dp:d.depth≤8
end B
namespace B
theorem ol(hb:0<b):(eZ a b).1*b=a*(eZ a b).2:=by
 obtain⟨g,x,y,_,gp,e1,e2,c⟩:=fE (a:=a) hb;have yp:=jb hb gp e2;have e:x*b=a*y:=by rw[e1,e2];ac_rfl
 rw[fL hb yp c e];exact e
theorem jE(r q:R):bo r (-q.1,q.2)=cI r q:=by
 unfold bo cI;rw[neg_mul,←sub_eq_add_neg]
end B
namespace B
open PySem PySem.Spec L2 PyProof.Rows
section
variable {prog:Mo}{w:MD}{A:Mq}{E:c5}{h:MA}{g:Array GenState}{d:Drawn}{t:Nat}{os:OsState}{K:Fg}
variable {nm q:Mj}{C N:Addr}{bs bm bmB:List Value}{hdct:Bool}{sn:List Mj}{sub:List Value}{ab:Bool}{col:Option Bool}{dd:Option Addr}{k0 k1 k2 k3 k5:Option Value}{bN newId initId:String}
theorem qd(F:ExcBaseFacts bN newId initId bmB)(T:Se h bmB bm){cV:List Value}(X:K.In h)
  (hC:h.get? C=some (Oh nm q C N bs bm hdct sn sub ab col dd k0 k1 k2 k3 k5 newId)) (hi:PySem.W.findIn K (.ref C) "__init__"=some (some (.ref fI))) (hf:PySem.W.typeIn K (.ref fI)=some (.type "function"))
  (hq:∀h' e,Tg h h' e (.ref C) cV->L6 (Ma prog w) A (call (.ref fI) (.ref e:: cV)) (λr s'=>r=.none/\Q (.done (.ret (.ref e))) s') E ⟨h',g,d,t,os⟩) (hz:cV.length≤sizeLine):
  L6 (Ma prog w) A (NJ.«type.__call__» ⟨.ref C:: cV,[]⟩) Q E ⟨h,g,d,t,os⟩:=by
 repeat(first
  |with_reducible refine wpAny_loadPart_at hC ?_
  |with_reducible refine wpAny_madeBy_exc hC ?_
  |wp_step)
 refine codeAny_call_builtin_code (RS _ F.quiet)
  (wpAny_check_new_subT F T hC ?_)
 refine codeAny_exc_new_subT F T hC ?_ hz;show L6 _ _ _ _ _ _;have up:∀b o,h.get? b=some o->((h.push { cls:=.type "tuple",data:=.seq cV.toArray}).push
   { cls:=.ref C,data:=.fields #[.ref h.objs.size,.none,.none,.none,.bool false,.none]}).get? b=some o:=λb o e=>
  LU _ (LU _ e)
 have hC₁:=up _ _ hC;have X₁:=X.keeps up;have hx:((h.push { cls:=.type "tuple",data:=.seq cV.toArray}).push
   { cls:=.ref C,data:=.fields #[.ref h.objs.size,.none,.none,.none,.bool false,.none]}).get? (h.objs.size+1)=
   some { cls:=.ref C,data:=.fields #[.ref h.objs.size,.none,.none,.none,.bool false,.none]}:=by heap_get
 have hcC:(Ml C::bm).contains (.ref C)=true:=by simp
 unfold Ti
 repeat(first
  |with_reducible refine wpAny_loadPart_at hx ?_
  | (with_reducible refine wpAny_isSubtype_exc hC₁ ?_
     rw[hcC])
  |wp_step)
 show L6 _ _ (typeLookup (.ref C) _) _ _ _;refine(QP X₁ hi) _ _ _ _ (λ_ _ e=>e) ?_;refine wpAny_holding (LM ?_);refine(bind_fn X₁ _ hf) _ _ _ _ (λ_ _ e=>e) ?_;refine LM (Ng (hq _ (h.objs.size+1)
  ⟨up,NK (OK _),h.objs.size,hx,NK (LN _),?_⟩) (λr s' hr=>?_) λ_ _ y=>y)
 ·exact LU _ (get?_push_at Z Z)
 ·obtain⟨rfl,hQ⟩:=hr
  wp_walk
  exact hQ
theorem AB(F:ExcBaseFacts bN newId initId bmB)(T:Se h bmB bm){cV:List Value}{fI:Addr}{Q:c5}(X:K.In h)
  (hC:h.get? C=some (Oh nm q C N bs bm hdct sn sub ab col dd k0 k1 k2 k3 k5 newId)) (hi:PySem.W.findIn K (.ref C) "__init__"=some (some (.ref fI))) (hf:PySem.W.typeIn K (.ref fI)=some (.type "function"))
  (hq:∀h' e,Tg h h' e (.ref C) cV->L6 (Ma prog w) (A.under (.builtin "type.__call__" ⟨.ref C::cV,[]⟩)) (call (.ref fI) (.ref e::cV)) (λr s'=>r=.none/\Q (.ref e) s') E ⟨h',g,d,t,os⟩) (hz:cV.length≤sizeLine) :
  L6 (Ma prog w) A (call (.ref C) cV) Q E ⟨h,g,d,t,os⟩:=by
 have f1:=tc_lookup;have f2:=tc_bind (.ref C);have hT:(⟨h,g,d,t,os⟩:LV).TypeIs (.ref C) "type" := ⟨_,hC,Z⟩;refine Pt (codeAny_of_tree ?_);show L6 _ _ (callAny (.ref C) _) _ _ _
 repeat(any_goals(first
  |assumption
  |with_reducible refine wpAny_loadPart_at hC ?_
  |wp_step))
 refine⟨Z,?_⟩;refine codeAny_call_builtin_at (RS _ (by decide +kernel)) entry_typeCall
  (wpAny_check_type_call_sub hC (qd F T X hC hi hf (λh' e hm=>?_) hz))
 exact hq h' e hm
end
def lG:List Value:=[.type "ValueError",.type "Exception",.type "BaseException",.type "object"]
structure jh(K:Fg)(C:Addr)(bm:List Value):Prop where
 ob:∃nm q N bs hdct sn sub ab col dd k0 k1 k2 k3 k5,K.lookup C=some (Oh nm q C N bs bm hdct sn sub ab col dd k0 k1 k2 k3 k5 "ValueError.__new__")
 tl:∀h:MA,K.In h->Se h lG bm
 hd:PySem.W.hasDictIn K C=true
 sa:PySem.W.findIn K (.ref C) "__setattr__"=some (some (.builtin "object.__setattr__"))
theorem Ci(T:Se h lG tl)(self:Value):refuseLoop self "__setattr__" tl=Nt ():=by
 induction T with
 |base=>exact PySem.F.store_ValueError.passes self
 |own _ _ _ _ ih=>rw[refuseLoop_ref];exact ih
theorem mY{K:Fg}{C:Addr}{bm:List Value}(c:jh K C bm):∃cd,clsIn K C=some cd/\cd.mro=.ref C::bm:=by
 obtain⟨nm,q,N,bs,hdct,sn,sub,ab,col,dd,k0,k1,k2,k3,k5,lk⟩:=c.ob;unfold clsIn;rw[lk];exact⟨_,Z,Z⟩
section
variable {prog:Mo}{w:MD}{A:Mq}{s:LV}{K:Fg}{x C:Addr}{R:Ss->LV->Prop}
theorem nU(X:K.In s.heap)(I:PySem.W.InstAt s.heap x ox C od)(c:jh K C bm)(n:gl K C name)
  (h:∀b,L6 (Ma prog w) A.in1 (NJ.ObjectAttr.storeInOwnDict (.ref x) (.ref C) (.str name tk) name v b) (λfin s'=>match fin with
   | .done f=>R (.ok f) s'
   | .again c'=>c'.quiet=true/\Op (Ma prog w) A c' R s') (λe s'=>R (.error e) s') s):
  Op (Ma prog w) A (.call (.builtin "object.__setattr__") ⟨[.ref x,.str name tk,v],[]⟩) R s:=by
 have sf:=store_object;obtain⟨cd,hc,hm⟩:=mY c;have T:=c.tl _ X;have hob:(Ml C::bm).contains (.type "object")=true:=by
  rw[OF,T.hasType (X := "object") (b:=true) (by decide +kernel),NS]
 have isO:PySem.W.Looks (Ma prog w) s.heap (Ti (.ref x) (.type "object")) true:=by
  refine I.type.andThen (looks_mroIn X ?_);unfold mroIn;rw[hc];show(if cd.mro.isEmpty=true then none else some (cd.mro.contains (.type "object")))=some true;rw[hm,hob];rfl
 have ms:PySem.W.Looks (Ma prog w) s.heap (mroOf (.ref C)) (.ref C::bm):=by
  rw[←hm];exact(SK X hc).andThen .now
 refine Q8 sf.slot.plain sf.entry (check_slot (i := "object.__setattr__") (owner := "object") (n := "__setattr__") sf.kind sf.split isO (sf.args _ _ _) ?_);rw[osa_eq,refuse_eq];refine LM (LM (I.type.here (LM (ms.here ?_))));rw[refuseLoop_ref,Ci T];refine L1 (LM (I.type.here (LM ((QP X n).here (LM ?_)))));exact PySem.W.Looks.here (r:=none) .now (h _)
end
def Im(a C:Addr)(dx:Option Addr):MA->Prop:=λh=>∃t:Addr,h.get? a=some { cls:=.ref C,dict:=dx,data:=.fields #[.ref t,.none,.none,.none,.bool false,.none]}
def ji(a C:Addr)(dx:Option Addr):HO:=.ext (Im a C dx)
theorem AC(e:Im a C dx h):ObjOk P w H h a (ji a C dx):=
 ⟨e,let ⟨_,q⟩:=e;⟨_,q⟩,λ_ _ ⟨t,q⟩ k=>⟨t,k _ q⟩⟩
def u4(H:Hp)(a:Addr):Hp:=λb=>if b=a then none else H b
theorem gC:u4 H a a=none:=by unfold u4;rw[if_pos Z]
theorem je(h:b≠a):u4 H a b=H b:=by unfold u4;rw[if_neg h]
section
variable {X:Cx}{pins:cy}{σ:L2.St}{H:Hp}{s:LV}{a C:Addr}{dx:Option Addr}
theorem Inv.forget(I:L2.Inv X pins σ H s)(e:H a=some (.ext φ))(new:X.s₀.heap.get? a=none):L2.Inv X pins σ (u4 H a) s:=by
 have none_of:∀b,H b=none->u4 H a b=none:=λb h=>by
  by_cases z:b=a
  ·rw[z];exact gC
  ·rw[je z];exact h
 refine⟨I.ok,I.os,I.bare,⟨I.base.keep,I.base.slot,λb o q n hx=>none_of b (I.base.free b o q n hx),I.base.there,λb xs q=>?_,λb o u q=>?_,λb ps q=>?_⟩,I.loc,I.cell,none_of _ I.free,λx c q=>none_of _ (I.freeC x c q),λp hp=>?_,λb o q=>?_,I.len⟩
 ·have z:=I.base.tups b xs q;rw[je (λk=>by rw[k,e] at z;cases z)];exact z
 ·have z:=I.base.frzs b o u q;rw[je (λk=>by rw[k,e] at z;cases z)];exact z
 ·obtain⟨m,z⟩:=I.base.tbls b ps q;exact⟨m,by rw[je (λk=>by rw[k,e] at z;cases z)];exact z⟩
 ·obtain⟨p1,p2,p3⟩:=I.pin p hp;exact⟨p1,none_of _ p2,p3⟩
 ·have nb:b≠a:=λz=>by rw[z,gC] at q;cases q
  rw[je nb] at q;refine(I.hok b o q).stay (λc u _ z=>z) (λc z=>?_) (λc xs z=>?_)
  ·rw[je (λk=>by rw[k,e] at z;cases z)];exact z
  ·rw[je (λk=>by rw[k,e] at z;cases z)];exact z
end
theorem ObjOk.get(x:L2.ObjOk P w H h a o):∃u,h.get? a=some u:=by
 cases o with
 |lst xs=>obtain⟨_,_,_,_,e⟩:=x;exact⟨_,e⟩
 |tup xs=>obtain⟨_,_,_,o,e,_⟩:=x;exact⟨_,e⟩
 |dK kvs=>obtain⟨_,_,_,_,o,_,_,e,_⟩:=x;exact⟨_,e⟩
 |dT kvs=>obtain⟨_,_,_,_,o,_,_,e,_⟩:=x;exact⟨_,e⟩
 |set S n=>obtain⟨o,_,_,_,e,_⟩:=x;exact⟨_,e⟩
 |ins C dx fs=>obtain⟨_,_,_,e,_⟩:=x;exact⟨_,e⟩
 |own y=>exact x
 |xd fs=>obtain⟨_,⟨_,_,_,e,_⟩,_⟩:=x;exact⟨_,e⟩
 |rng lo hi=>obtain⟨_,_,_,e⟩:=x;exact⟨_,e⟩
 |frz ob u=>obtain⟨e,_⟩:=x;exact⟨_,e⟩
 |tbl ps=>exact⟨_,show h.get? a=some _ from x⟩
 |met f y=>exact⟨_,show h.get? a=some _ from x⟩
 |ext φ=>exact x.2.1
def Kj(h:MA)(H:Hp)(x C T:Addr)(a0:Value):Prop:=
 ∃oe vs oT ts,h.get? x=some oe/\oe.cls=.ref C/\vs[0]?=some a0/\oe.data=.fields vs/\vs[1]?=some (.ref T)/\H T=none/\T≠x/\h.get? T=some oT/\oT.data=.fields ts/\ts[3]?=some .none
def LK(P:Mo)(w:MD):qm:=λouter H s E e s'=>∃(x C T:Addr) (a0:Value) (H':Hp),e=.ref x/\s'.os=s.os/\Pz s'.gens/\Un (nH outer) [] H H' s.heap s'.heap/\iX P w H' s'.heap/\s.heap.get? x=none/\s.heap.get? T=none/\H' x=none∧
 Kj s'.heap H' x C T a0/\E (.ref C) none H'
structure fe(X:Cx)(pins:cy)(a:Addr):Prop where
 st:X.s₀.heap.get? a=none
 lo:a≠X.env.locals
 ce:∀x c,X.env.cells.lookup x=some c->c≠a
 pi:∀p∈X.pn++pins,p.1≠a
 fr:a∉nH X.stack
section
variable {X:Cx}{pins:cy}{σ:L2.St}{H H':Hp}{s:LV}{a:Addr}
theorem Inv.newAt(I:L2.Inv X pins σ H s)(hex:X.ex=[])(h:s.heap.get? a=none):fe X pins a where
 st:=by
  cases e:X.s₀.heap.get? a with
  |none=>rfl
  |some o=>
   obtain⟨o',q⟩:=I.base.there a o e (by rw[hex];simp);rw[h] at q;cases q
 lo:=λz=>by
  obtain⟨m,⟨o,_,_,q,_⟩,_⟩:=I.loc;rw[←z,h] at q;cases q
 ce:=λx c e z=>by
  obtain⟨v,o,q,_⟩:=I.cell x c e;rw[z,h] at q;cases q
 pi:=λp hp z=>by
  obtain⟨q,_⟩:=I.pin p hp;rw[z,h] at q;cases q
 fr:=λz=>by
  obtain⟨_,o,q,_⟩:=I.stack.mem z;rw[h] at q;cases q
end
section
variable {X:Cx}{pins:cy}{σ:L2.St}{H:Hp}{s:LV}{a:Addr}{o:HO}
theorem Inv.adopt(I:L2.Inv X pins σ H s)(na:fe X pins a)(ha:H a=none)(hex:X.ex=[])(new:L2.ObjOk X.prog X.w (upd H a o) s.heap a o):L2.Inv X pins σ (upd H a o) s:=by
 have keep:∀b u,H b=some u->upd H a o b=some u:=λb u q=>by rw[aE (aX q ha)];exact q
 have nn:∀b,b≠a->H b=none->upd H a o b=none:=λb nb q=>by rw[aE nb];exact q
 refine⟨I.ok,I.os,I.bare,⟨I.base.keep,I.base.slot,λb u q n hx=>nn b (λz=>by rw[z,na.st] at q;cases q) (I.base.free b u q n hx),I.base.there,λb xs q=>keep _ _ (I.base.tups b xs q),λb u v q=>keep _ _ (I.base.frzs b u v q),λb ps q=>?_⟩,I.loc,I.cell,nn _ na.lo.symm I.free,λx c q=>nn _ (na.ce x c q) (I.freeC x c q),λp hp=>?_,λb u q=>?_,I.len⟩
 ·obtain⟨m,z⟩:=I.base.tbls b ps q;exact⟨m,keep _ _ z⟩
 ·obtain⟨p1,p2,p3⟩:=I.pin p hp;exact⟨p1,nn _ (na.pi p hp) p2,p3⟩
 ·by_cases z:b=a
  ·subst z;rw[ah] at q;cases q;exact new
  ·rw[aE z] at q;exact(I.hok b u q).stay (λc v _ w=>w) (λc w=>keep _ _ w) (λc xs w=>keep _ _ w)
theorem Inv.none_of(I:L2.Inv X pins σ H s)(h:s.heap.get? a=none):H a=none:=by
 cases q:H a with
 |none=>rfl
 |some o=>obtain⟨u,z⟩:=ObjOk.get (I.hok a o q);rw[h] at z;cases z
end
structure XC(K:Fg)(C f:Addr)(bm:List Value):Prop where
 ob:∃nm q N bs hdct sn sub ab col dd k0 k1 k2 k3 k5,K.lookup C=some (Oh nm q C N bs bm hdct sn sub ab col dd k0 k1 k2 k3 k5 "ValueError.__new__")
 tl:∀h:MA,K.In h->Se h lG bm
 init:PySem.W.findIn K (.ref C) "__init__"=some (some (.ref f))
 fn:PySem.W.typeIn K (.ref f)=some (.type "function")
 kp:PySem.W.keepIn K (.ref C)=true
 cl:jh K C bm
section
variable {X:Cx}{k:Nat}{f C:Addr}{fd:LS}{ps:List Mj}{sp:Sp}{bm:List Value}
theorem Bv{pins:cy}{σ:L2.St}{H:Hp}{s:LV}{Q:Addr->Hp->Prop}{us:List Value}{vs:List V}{E':c5}(M:XC X.K C f bm)(hex:X.ex=[])(F:bD X.prog X.w X.K X.mg X.base dF k f fd ps sp)(hr:cZ (k+1) X.A)(hb:aV X.K fd ps [])
  (I:L2.Inv X pins σ H s) (r:bj vs us) (hz:us.length≤sizeLine) (h:∀a,H a=none->sp (.ref a::vs) (upd H a (ji a C none)) (λv H2=>v=.non/\Q a H2) E0) :
  L6 (Ma X.prog X.w) X.A (call (.ref C) us) (λv s'=>∃a H',v=.ref a/\fe X pins a/\L2.Inv X pins σ H' s'/\Q a H') E' s:=by
 obtain⟨nm,q,N,bs,hdct,sn,sub,ab,col,dd,k0,k1,k2,k3,k5,lk⟩:=M.ob;obtain⟨hp,g,d,t,os⟩:=s;refine AB excBase_ValueError (M.tl hp I.kIn) I.kIn (I.kIn _ _ lk) M.init M.fn (λh' e hm=>?_) hz;have na:=B.Inv.newAt I hex hm.new;have he:=B.Inv.none_of I hm.new;obtain⟨tt,ho,_⟩:=hm.there;have I1:L2.Inv X pins σ H ⟨h',g,d,t,os⟩:=I.kept (t':=t) hm.keeps;have I2:L2.Inv X pins σ (upd H e (ji e C none)) ⟨h',g,d,t,os⟩:=B.Inv.adopt I1 na he hex (AC ⟨tt,ho⟩);have hq:=h e he;have r2:bj (V.ref e::vs) (Ml e::us):=.cons Z r;have hl:(Ml e::us).length=ps.length:=by
  have z:=r2.length;rw[F.len _ _ _ _ hq] at z;exact z.symm
 have hbd:=hb ⟨h',g,d,t,os⟩ (Ml e::us) I2.kIn (by rw[NF];exact hl);rw[NF] at hbd;refine Pt (OU (F.run _ X.stack _ _ ⟨Ml e::us,[]⟩ (Ml e::us) _ _ E0 (hr.make C us []) (I2.env0.make C us []) hbd r2 hq) λr s' hq'=>?_)
 cases r with
 |error e=>exact MY hq'
 |ok fl=>
  cases fl with
  |ret u=>
   obtain⟨v,H',I3,rv,ev,q3⟩:=I2.after hq';subst ev;exact⟨rv,e,H',Z,na,I3,q3⟩
  |next=>exact MY hq'
  |brk=>exact MY hq'
  |cont=>exact MY hq'
def Kk(X:Cx)(E:XK):Prop:=∀(pins:cy) (σ:L2.St) (H:Hp) (s:LV) (a C:Addr) (oe:Obj) (vs:Array Value) (a0:Value),L2.Inv X pins σ H s->H a=none->fe X pins a->s.heap.get? a=some oe->oe.data=.fields vs→
 vs[0]?=some a0->vs[1]?=some .none->oe.cls=.ref C->E (.ref C) none H->X.xe (.ref a) s
theorem vQ{M:SV}{A:Mq}{E:c5}{env:R0}{nm q:Mj}{N:Addr}{bs:List Value}{hdct:Bool}{sn:List Mj}{sub:List Value}{ab:Bool}{col:Option Bool}{dd:Option Addr}{k0 k1 k2 k3 k5:Option Value}{newId:String}
  {s:LV} {x:Sem Value} {Q:Flow->LV->Prop} (hbase:bm.contains (.type "BaseException")=true) (hh:A.handled=none)
  (h:L6 M A x (λv s₁=>∃e t dx,v=.ref e/\s₁.heap.get? C=some (Oh nm q C N bs bm hdct sn sub ab col dd k0 k1 k2 k3 k5 newId)∧
   s₁.heap.get? e=some { cls:=.ref C,dict:=dx,data:=.fields #[.ref t,.none,.none,.none,.bool false,.none]}/\E (.ref e) s₁) E s) :
  L6 M A (raiseStmt env (some x) none) Q E s:=by
 have hcB:(Ml C::bm).contains (.type "BaseException")=true:=by rw[OF,hbase,NS]
 unfold raiseStmt;refine LM (Ng h (λv s₁ h₁=>?_) λ_ _ y=>y);obtain⟨e,t,dx,rfl,hC,he,hE⟩:=h₁;obtain⟨hp,g,d,tk,os⟩:=s₁
 repeat(first
  |with_reducible refine wpAny_loadPart_at he ?_
  |with_reducible refine wpAny_loadPart_at hC ?_
  | (with_reducible refine wpAny_isSubtype_exc hC ?_
     rw[hcB])
  |wp_step)
 exact wpAny_raiseNew_none hh hE
def IU(C:Addr)(sp:Sp)(E:XK)(t:TA):TS:=λ_ σ H=>t σ H λvs H1=>vs.length≤sizeLine/\∀a,H1 a=none->sp (.ref a::vs) (upd H1 a (ji a C none)) (λv H2=>v=.non/\(∃dx,H2 a=some (ji a C dx))/\E (.ref C) none (u4 H2 a)) E0
end
section
variable {X:Cx}{pins:cy}{σ:L2.St}{H:Hp}{s:LV}{a C T:Addr}{a0:Value}
end
def Di(N:List Mj):L2.St:=MC N.length none
theorem Au{X:Cx}{pins:cy}{σ:L2.St}{H:Hp}{s:LV}(I:L2.Inv X pins σ H s):L2.Inv X pins (Di X.N) H s:=
 I.weak (by rw[I.len];exact Pw) λi v q=>by
  unfold Di at q;rw[O8] at q
  split at q<;>cases q
def Lo(X:Cx)(pins:cy)(R:Addr->Hp->Prop):c5:=λe s=>∃(x C T:Addr) (a0:Value) (H:Hp),e=.ref x/\L2.Inv X pins (Di X.N) H s/\H x=none/\fe X pins x/\fe X pins T/\Kj s.heap H x C T a0/\R C H
def Ke(X:Cx)(pins:cy)(R:Addr->Hp->Prop):Cx:={ X with pn:=X.pn++pins,xe:=Lo X pins R}
def ou(X:Cx)(e:Addr):Cx:={ X with A:=X.A.mark (some (.ref e)),calm:=false,xe:=λ_ _=>False}
section
variable {X:Cx}{pins pins':cy}{σ:L2.St}{H:Hp}{s:LV}{R:Addr->Hp->Prop}{e:Addr}
theorem CU(I:L2.Inv X pins σ H s):L2.Inv (ou X e) pins σ H s:=
 ⟨⟨I.ok.mod,I.ok.kind,I.ok.glob,I.ok.blt,I.ok.above,I.ok.inj,I.ok.has,I.ok.cab,(λz=>nomatch z),I.ok.frames,I.ok.stk,I.ok.exf,I.ok.bs,I.ok.bsz,I.ok.noex,I.ok.exfs,I.ok.funs,I.ok.frf⟩,I.os,I.bare,I.base,I.loc,I.cell,I.free,I.freeC,I.pin,I.hok,I.len⟩
theorem uK(ok:X.Ok)(I:L2.Inv (ou X e) pins σ H s):L2.Inv X pins σ H s:=
 ⟨ok,I.os,I.bare,I.base,I.loc,I.cell,I.free,I.freeC,I.pin,I.hok,I.len⟩
end
def Kx(N:List Mj)(R:Addr->Hp->Prop)(Ok:Addr->Prop)(tb:TS)(th:TS):TS:=λD σ H=>tb D σ H/\∀C H',R C H'->Ok C/\th D (Di N) H'
section
variable {X:Cx}{R:Addr->Hp->Prop}{body:List Stmt}{b₀:Stmt}{suite:List Stmt}{x:Mj}{p hpos pos:Oo}{u:Value}{tb th:TS}
end
section
variable {X:Cx}{o value:Mu}{f:Mj}{ta tv:TE}{pos' pos:Oo}
def J0(K:Fg)(ta tv:TE)(f:Mj):TS:=λD σ H=>tv σ H λ_ H1=>ta σ H1 λx H2=>∃a C bm,x=.ref a/\H2 a=some (ji a C none)/\jh K C bm/\gl K C f/\∀d,D.nx σ (upd H2 a (ji a C (some d)))
end
def Lq(R:Addr->Hp->Prop):XK:=λv _ H=>∃C,v=.ref C/\R C H
theorem wY(a:Addr):(Ml a::lG).contains (.type "BaseException")=true:=by rw[OF,(by decide +kernel:lG.contains (.type "BaseException")=true),NS]
def lL(es:Array Rm):Bool:=es.toList.all λe=>match e.key with
 | .str _ _=>true
 |_=>false
theorem sy(h:lL es=true):StrKeys es:=λe he=>by
 have z:=No.mp h e (Q4.mpr he)
 revert z
 cases e.key<;>intro z<;>first|exact⟨_,_,Z⟩ | (cases z)
theorem GB{K:Fg}{bs bsB:List Value}{sn snB:List Mj}{sub subB:List Value} 
  
  (lc:K.lookup C=some (Oh nm q C N bs (.ref B0:: [.type "ValueError",.type "Exception",.type "BaseException",.type "object"]) hdct sn sub ab col dd k0 k1 k2 k3 k5 "ValueError.__new__"))
  (lb:K.lookup B0=some (Oh nmB qB B0 NB bsB [.type "ValueError",.type "Exception",.type "BaseException",.type "object"] hdctB snB subB abB colB ddB j0 j1 j2 j3 j5 "ValueError.__new__"))
  (ln:K.lookup NB=some ⟨oc,od,.dict es n,sl⟩) (hs:lL es=true) (hn:(nsFind es "__init__").isNone=true)
  (fi:PySem.W.findIn K (.ref C) "__init__"=some (some (.ref f))) (ti:PySem.W.typeIn K (.ref f)=some (.type "function")) (kc:PySem.W.keepIn K (.ref C)=true) (hh:PySem.W.hasDictIn K C=true) (sa:PySem.W.findIn K (.ref C) "__setattr__"=some (some (.builtin "object.__setattr__"))):XC K C f (.ref B0:: lG):=
 have ob:∃nm q N bs hdct sn sub ab col dd k0 k1 k2 k3 k5,K.lookup C=some (Oh nm q C N bs (.ref B0::lG) hdct sn sub ab col dd k0 k1 k2 k3 k5 "ValueError.__new__"):=⟨_,_,_,_,_,_,_,_,_,_,_,_,_,_,_,lc⟩;have tl:∀h:MA,K.In h->Se h lG (.ref B0::lG):=λh X=>.own (X _ _ lb) ⟨_,es,n,X _ _ ln,Z,sy hs,λ_=>Z⟩ (Option.isNone_iff_eq_none.mp hn) .base
 ⟨ob,tl,fi,ti,kc,ob,tl,hh,sa⟩
structure ug(K:Fg)(C:Addr):Prop where
 ga:PySem.W.findIn K (.ref C) "__getattribute__"=some (some (.builtin "BaseException.__getattribute__"))
 gn:PySem.W.findIn K (.ref C) "__getattr__"=some none
 cl:PySem.W.findIn K (.ref C) "__class__"=some (some (.builtin "object.__class__"))
 cg:PySem.W.specialIn K (.builtin "object.__class__") "__get__"=some (some (.builtin "getset_descriptor.__get__"))
 ct:PySem.W.takesIn K (.builtin "object.__class__")=some true
section
variable {prog:Mo}{w:MD}{A:Mq}{E:c5}{s:LV}{K:Fg}{x C:Addr}{ox:Obj}{odo:Option Obj}{bm:List Value}{name:Mj}{tk:TX}{R:Ss->LV->Prop}
theorem rM{fill ex:Bool}{Q:c5}(X:K.In s.heap)(I:PySem.W.InstAt s.heap x ox C odo)(g:ug K C)
  (h:Op (Ma prog w) A (.call (.builtin "BaseException.__getattribute__") ⟨[.ref x,.str name tk],[]⟩) (λr s'=>∃v,r=.ok (.ret v)/\handedIn v=true/\Q v s') s) :
  L6 (Ma prog w) A (getAttrBy (.ref x) (.str name tk) fill ex) Q E s:=by
 have FB:=Rt;unfold getAttrBy;refine wpAny_holding (LM (I.type.here (LM ((QP X g.ga).here ?_))));have e2:(builtin "BaseException.__getattribute__"==builtin "object.__getattribute__")=false:=by decide +kernel
 dsimp only;rw[e2,Nn,if_neg L5];unfold getAttrByItsOwn hookBefore;rw[if_pos (show onTheHeap (Ml C)=true from Z)];refine LM ((QP X g.gn).here (LM (PB (wpAny_holding ?_))));unfold callGetattribute;rw[if_neg (by cases ex<;>decide)];unfold boundAndCalled;rw[FB.ga.bind (.ref x)];refine LM (L1 (Pt (OU h λr s' hq=>?_)));obtain⟨v,rfl,hh,q⟩:=hq;exact handed_on hh q
theorem K2{X:K.In s.heap}(I:PySem.W.InstAt s.heap x ox C odo)(c:jh K C bm)(T:String)(hT:lG.contains (.type T)=true):PySem.W.Looks (Ma prog w) s.heap (Ti (.ref x) (.type T)) true:=by
 obtain⟨cd,hc,hm⟩:=mY c;have hob:(Ml C::bm).contains (.type T)=true:=by
  rw[OF,(c.tl _ X).hasType (X:=T) (b:=true) hT,NS]
 refine I.type.andThen (looks_mroIn X ?_);unfold mroIn;rw[hc];show(if cd.mro.isEmpty=true then none else some (cd.mro.contains (.type T)))=some true;rw[hm,hob];rfl
theorem rN(X:K.In s.heap)(I:PySem.W.InstAt s.heap x ox C odo)(c:jh K C bm)
  (h:L6 (Ma prog w) A.in1 (NJ.«object.__getattribute__» ⟨[.ref x,.str name tk],[]⟩) (λfin s'=>match fin with
   | .done f=>R (.ok f) s'
   | .again c'=>c'.quiet=true/\Op (Ma prog w) A c' R s') (λe s'=>R (.error e) s') s) :
  Op (Ma prog w) A (.call (.builtin "BaseException.__getattribute__") ⟨[.ref x,.str name tk],[]⟩) R s:=by
 have FB:=Rt;exact Q8 FB.ga.plain entry_bexc_ga (check_slot (i := "BaseException.__getattribute__") (owner := "BaseException") (n := "__getattribute__") (by decide +kernel) (by decide +kernel) (K2 (X:=X) I c "BaseException" (by decide +kernel)) (args_bexc_ga _ _) h)
theorem Cp(X:K.In s.heap)(I:PySem.W.InstAt s.heap x ox C odo)(c:jh K C bm)(hf:findObj K C odo name=some (.value v))(h:R (.ok (.ret v)) s):
  Op (Ma prog w) A (.call (.builtin "BaseException.__getattribute__") ⟨[.ref x,.str name tk],[]⟩) R s:=by
 refine rN X I c ?_;unfold NJ.«object.__getattribute__»;have L:=looks_find (M:=Ma prog w) X I hf;refine LM (L1 (LM (L1 (LM (I.type.here (LM (L.here ?_)))))));exact L1 h
theorem wA(X:K.In s.heap)(I:PySem.W.InstAt s.heap x ox C (some od))(c:jh K C bm)(g:ug K C)(h:R (.ok (.ret (.ref C))) s):
  Op (Ma prog w) A (.call (.builtin "BaseException.__getattribute__") ⟨[.ref x,.str "__class__" tk],[]⟩) R s:=by
 refine rN X I c ?_;unfold NJ.«object.__getattribute__»;obtain⟨cd,hc,hm⟩:=mY c;have hf:=findObj_data (K:=K) (C:=C) (od:=od) (name := "__class__") (by rw[hc];rfl) g.cl g.cg g.ct;have L:=looks_find (M:=Ma prog w) X I hf;have mo:mroIn K C (.type "object")=some true:=by
  unfold mroIn;rw[hc];show(if cd.mro.isEmpty=true then none else some (cd.mro.contains (.type "object")))=some true;rw[hm,OF,(c.tl _ X).hasType (X := "object") (b:=true) (by decide +kernel),NS];rfl
 refine LM (L1 (LM (L1 (LM (I.type.here (LM (L.here ?_)))))));show L6 _ _ (holding [builtin "object.__class__"] (call (.builtin "getset_descriptor.__get__") [.builtin "object.__class__",.ref x,.ref C]) >>= ret) _ _ _;exact LM (wpAny_holding (Pt (class_get X I mo (L1 h))))
end
section
variable {K:Fg}{x C:Addr}{ox od:Obj}{bm:List Value}
theorem mQ(c:jh K C bm)(g:ug K C):PySem.W.KitX K (.ref x) (.ref C) (λh=>PySem.W.InstAt h x ox C (some od)) where
 ty:=λ_ _ _ I=>I.type
 it:=λ_ _ X _=>by
  obtain⟨nm,q,N,bs,hdct,sn,sub,ab,col,dd,k0,k1,k2,k3,k5,lk⟩:=c.ob;intro A' Q' E' s' k q;unfold isType loadHead;exact LM (Q9 (k _ _ (X _ _ lk)) (L1 q))
 ne:=λh tp dd its n sl X htp=>by
  obtain⟨nm,q,N,bs,hdct,sn,sub,ab,col,dd',k0,k1,k2,k3,k5,lk⟩:=c.ob;refine Bool.eq_false_iff.mpr λz=>?_
  have e:C=tp:=Ml.inj (beq_iff_eq.mp z);subst e;have z2:=congrArg Obj.cls (MB ((X _ _ lk).symm.trans htp));exact absurd (show Oj "type"=Oj "tuple" from z2) (by decide +kernel)
 ca:=λ{prog w A E Q s} X I k=>by
  unfold getAttr? getAttrBy?;refine LM (wpAny_mkText (LM (PB ?_)));exact rM (s:={ s with toks:=s.toks+1}) X I g (wA (s:={ s with toks:=s.toks+1}) X I c g ⟨_,rfl,rfl,L1 k⟩)
end
structure im(S ch:List Addr)(h h':MA):Prop where
 same:∀b o,b∉S->b∉ch->h.get? b=some o->h'.get? b=some o
 slot:∀b o,b∉ch->h.get? b=some o->∃sl,h'.get? b=some { o with slots:=sl}
theorem im.trans(a:im S c1 h h1)(b:im S c2 h1 h2):im S (c1++c2) h h2 where
 same:=λx o n1 n2 q=>b.same x o n1 (λz=>n2 (Md _ z)) (a.same x o n1 (λz=>n2 (MJ _ z)) q)
 slot:=λx o n2 q=>by
  obtain⟨sl,z⟩:=a.slot x o (λz=>n2 (MJ _ z)) q;obtain⟨sl',z'⟩:=b.slot x _ (λz=>n2 (Md _ z)) z;exact⟨sl',z'⟩
theorem im.upd:im S [T] h (h.update T f) where
 same:=λb o _ n q=>by rw[MI _ _ (λz=>n (by rw[z];exact LP.mpr Z))];exact q
 slot:=λb o n q=>⟨o.slots,by rw[MI _ _ (λz=>n (by rw[z];exact LP.mpr Z))];exact q⟩
def iL(h:MA)(x C T:Addr)(dx:Option Addr)(fl:Value):Prop:=
 ∃oe vs oT ts,h.get? x=some oe/\oe.cls=.ref C/\oe.dict=dx/\oe.data=.fields vs/\vs[1]?=some (.ref T)/\T≠x/\h.get? T=some oT/\oT.data=.fields ts/\ts[3]?=some fl
section
variable {M:SV}{A:Mq}{E:c5}{s:LV}{base:MA}{env:R0}{outer:List R0}{L e C T:Addr}{oe:Obj}{vs:Array Value}{dx:Option Addr}{fl:Value}
theorem wD(f:Array Value->Array Value)(o:Obj):(Obj.mapFields f o).dict=o.dict:=by
 unfold Obj.mapFields;split<;>rfl
theorem AF(hfr:A.frames=some (env:: outer))(hl:s.heap.FunFrames base (env:: outer))(hf:env.frame=some L)
  (he:s.heap.get? e=some oe) (hd:oe.data=.fields vs) (hsz:1<vs.size) (hc:oe.cls=.ref C) (hx:oe.dict=dx)
  (h:∀h' T,im (nH (env:: outer)) [e] s.heap h'->s.heap.get? T=none->iL h' e C T dx (rawInt L)->Q () { s with heap:=h'}):
  L6 M A (do let a ←frameOf env;let pl ←entryPlaceOf L hadNext;let b ←EntryCells.newEntry head a .none (rawInt L) .none pl;setField (.ref e) 1 b) Q E s:=by
 have hene:e∉nH (env::outer):=λhm=>by
  obtain⟨_,o,ho,hnf⟩:=hl.mem hm;rw[he] at ho;cases ho;exact hnf vs hd
 refine LM (wpAny_frameOf_fun hfr hl hf λh1 s1=>LM (wpAny_entryPlaceOf λpl hpl=>?_));unfold EntryCells.newEntry newFields;refine LM (MQ ?_ (hpl.sizeOk5 _ _ _ _ _));have he1:h1.get? e=some oe:=(s1.2.1 e hene).trans he;generalize hob:({ cls:=.type "traceback",dict:=none,data:=.fields ([head,.ref L,.none,rawInt L,.none]++(if pl.isEmpty then MC 6 Nf else pl)).toArray}:Obj)=ob;have he2:=LU (h:=h1) ob he1;refine Pn he2 hd hsz (h _ h1.objs.size ⟨λb o n1 n2 q=>?_,λb o n2 q=>?_⟩ ?_ ?_)
 ·rw[MI _ _ (λz=>n2 (by rw[z];exact LP.mpr Z))];exact LU _ ((s1.2.1 b n1).trans q)
 ·obtain⟨sl,z⟩:=s1.2.2 b o q;refine⟨sl,?_⟩;rw[MI _ _ (λz=>n2 (by rw[z];exact LP.mpr Z))];exact LU _ z
 ·exact NK (NQ s1.1.symm)
 ·have nT:h1.objs.size≠e:=NP (Mv he1);have d3:=Obj.data_mapFields hd (·.setIfInBounds 1 (Ml h1.objs.size));refine⟨_,_,ob,_,Os _ he2 (Obj.isFreed_of_fields d3),(Obj.cls_mapFields _ _).trans hc,(wD _ _).trans hx,d3,by simp[hsz],nT,?_,by rw[←hob],?_⟩
  ·rw[MI _ _ (NO nT)];exact Mm h1 (by rw[←hob];rfl)
  ·first | (simp;done) | (rcases hpl with rfl | ⟨_,_,_,_,_,_,_,rfl⟩<;>simp)
theorem qc(t:iL s.heap e C T dx fl)(h:∀h',im [] [T] s.heap h'->iL h' e C T dx .none->Q () { s with heap:=h'}):L6 M A (Rp (.ref e) none) Q E s:=by
 obtain⟨oe,vs,oT,ts,q1,q2,q3,q4,q5,q6,q7,q8,q9⟩:=t;have z3:3<ts.size:=(N5.mp q9).1;unfold Rp;refine LM (ND q1 q4 q5 ?_);rw[if_pos (by simp)];refine Pn q7 q8 z3 (h _ im.upd ?_);have d3:=Obj.data_mapFields q8 (·.setIfInBounds 3 ((none:Option Addr).elim Nf λf=>rawInt f));exact⟨oe,vs,_,_,(MI _ _ q6).trans q1,q2,q3,q4,q5,q6,Os _ q7 (Obj.isFreed_of_fields d3),d3,by simp[z3]⟩
theorem Ht(hfr:A.frames=some (env:: outer))(hl:s.heap.FunFrames base (env:: outer))(hf:env.frame=some L)(he:s.heap.get? e=some oe)(hd:oe.data=.fields vs)(h1:vs[1]?=some .none)(hc:oe.cls=.ref C)(hx:oe.dict=dx)
  (h:∀h' T,im (nH (env:: outer)) [e] s.heap h'->s.heap.get? T=none->iL h' e C T dx (rawInt L)->Q () { s with heap:=h'}):L6 M A (PY (.ref e) env) Q E s:=by
 unfold PY;simp only[hf];refine LM (ND he hd h1 ?_);rw[if_neg (by decide)];exact AF hfr hl hf he hd (N5.mp h1).1 hc hx h
theorem Hs(hfr:A.frames=some (env:: outer))(hl:s.heap.FunFrames base (env:: outer))(hf:env.frame=some L)(t:iL s.heap e C T dx .none)
  (h:∀h' T',im (nH (env:: outer)) [T,e] s.heap h'->s.heap.get? T'=none->iL h' e C T' dx (rawInt L)->Q () { s with heap:=h'}):L6 M A (PY (.ref e) env) Q E s:=by
 obtain⟨oe,vs,oT,ts,q1,q2,q3,q4,q5,q6,q7,q8,q9⟩:=t;unfold PY;simp only[hf];refine LM (ND q1 q4 q5 ?_);rw[if_pos (by simp)];refine LM (ND q7 q8 q9 ?_);rw[if_neg (by simp[rawInt])];refine LM (Pn q7 q8 (N5.mp q9).1 ?_);have k1:im (nH (env::outer)) [T] s.heap (s.heap.update T (Obj.mapFields (·.setIfInBounds 3 Nf))):=im.upd;have nf:∀b o,s.heap.get? b=some o->(∀us,o.data≠.fields us)->b∉[T]:=λb o hb hn z=>by
  rw[LP.mp z,q7] at hb;cases hb;exact hn ts q8
 refine AF (base:=base) hfr (hl.of_keeps λb o hb hn=>?_) hf ((MI _ _ q6).trans q1) q4 (N5.mp q5).1 q2 q3 λh' T' k nT t'=>h h' T' (k1.trans k) ?_ t'
 ·obtain⟨sl,z⟩:=k1.slot b o (nf b o hb hn) hb;exact⟨_,z,Z⟩
 ·cases q:s.heap.get? T' with
  |none=>rfl
  |some o=>
   exfalso;by_cases z:T'=T
   ·have d3:=Obj.data_mapFields q8 (·.setIfInBounds 3 Nf);rw[z,Os _ q7 (Obj.isFreed_of_fields d3)] at nT;cases nT
   ·rw[MI _ _ (NO z)] at nT;rw[q] at nT;cases nT
end
def Io(d:Addr)(fs:List (Mj×V)):MA->Prop:=λh=>∃mA,h.Ns1 d mA/\∀f,gW (fs.lookup f) (mA f)
def dO(d:Addr)(fs:List (Mj×V)):HO:=.ext (Io d fs)
theorem Dn(e:Io d fs h):ObjOk P w H h d (dO d fs):=
 ⟨e,let ⟨_,⟨_,_,_,q,_⟩,_⟩:=e;⟨_,q⟩,λ_ _ ⟨mA,n,r⟩ k=>⟨mA,n.at k,r⟩⟩
theorem vP(r:gW a b)(h:b≠none):a≠none:=λz=>by
 subst z
 cases b with
 |none=>exact h Z
 |some _=>exact r.elim
theorem n5{fs:List (Mj×V)}{mA:Mj->Option Value}(r:∀g,gW (fs.lookup g) (mA g))(q:bv y u):∀g,gW (((f,y):: fs).lookup g) (if g=f then some u else mA g):=λg=>by
 by_cases z:g=f
 ·subst z;rw[if_pos Z,lookup_cons_self];exact q
 ·rw[if_neg z,Qe,beq_eq_false_iff_ne.mpr z];exact r g
theorem nL{fs:List (Mj×V)}(r:∀g,gW (fs.lookup g) (mA g)):PySem.Within mA (fs.map (·.1)):=λg hg=>by
 have z:=vP (r g) hg
 cases q:fs.lookup g with
 |none=>exact absurd q z
 |some v=>
  obtain⟨l1,l2,e,_⟩:=List.lookup_eq_some_iff.mp q;rw[e];simp
section
variable {X:Cx}{pins:cy}{σ:L2.St}{H:Hp}{s:LV}{a C:Addr}
theorem setX1{A:Mq}{E:c5}{f:Mj}{y:V}{u:Value}{bm:List Value}{Q:Unit->LV->Prop}(hex:X.ex=[])(I:L2.Inv X pins σ H s)(e:H a=some (ji a C none))(c:jh X.K C bm)(n:gl X.K C f)(ry:bv y u)
  (h:∀d s',H d=none->d≠a->L2.Inv X pins σ (upd (upd H a (ji a C (some d))) d (dO d [(f,y)])) s'->Q () s'):L6 (Ma X.prog X.w) A (setAttr (.ref a) f u) Q E s:=by
 obtain⟨t,hx⟩:=(show ObjOk X.prog X.w H s.heap a (ji a C none) from I.hok a _ e).1;have J:PySem.W.InstAt s.heap a _ C none:=⟨hx,Z,Z,trivial⟩;refine set_plain I.kIn J c.sa (nU (s:={ s with toks:=s.toks+1}) I.kIn J c n λb=>?_);obtain⟨cd,hc,hd'⟩:=any_some c.hd;refine LM (L1 (LM (LM (Q9 hx (LM (PySem.W.Looks.here (s:={ s with toks:=s.toks+1}) (SK I.kIn hc) ?_))))));rw[hd'];show L6 _ _ (alloc { cls:=.type "dict",data:=.dict #[]} >>= λd=>update a (λo=>{ o with dict:=some d}) >>= λ_=>dictMade (.ref C) a d) _ _ _;have la:a<s.heap.objs.size:=Mv hx;have nad:s.heap.objs.size≠a:=NP la;have g1:=LU (h:=s.heap) { cls:=.type "dict",data:=.dict #[]} hx;refine LM (wpAny_alloc (LM (wpAny_update g1 ?_)));have g2:=Os (λo=>{ o with dict:=some s.heap.objs.size}) g1 rfl;have e1:((s.heap.push { cls:=.type "dict",data:=.dict #[]}).update a λo=>{ o with dict:=some s.heap.objs.size}).get? s.heap.objs.size=some { cls:=.type "dict",data:=.dict #[]}:=by
  rw[MI _ _ nad.symm];exact Mm s.heap Z
 have e3:((s.heap.push { cls:=.type "dict",data:=.dict #[]}).update a λo=>{ o with dict:=some s.heap.objs.size}).Ns s.heap.objs.size (λ_=>none):=
  ⟨_,#[],_,e1,Z,(λe he=>absurd he (by simp)),λ_=>Z⟩
 have keep:∀b o,b≠a->s.heap.get? b=some o->((s.heap.push { cls:=.type "dict",data:=.dict #[]}).update a λo=>{ o with dict:=some s.heap.objs.size}).get? b=some o:=λb o nb q=>by
  rw[MI _ _ (NO nb)];exact LU _ q
 refine L1 (a:=some s.heap.objs.size) (LM (L1 (LM ?_)));refine wpAny_nsSet1 (MA.Ns1.of_empty e3) λh' hn2 hs2=>?_
 have rel:∀g,gW ([(f,y)].lookup g) (if g=f then some u else none):=n5 (fs:=[]) (mA:=λ_=>none) (λ_=>trivial) ry;obtain⟨oD,esD,epD,hoD,hdD,hcD⟩:=hn2.count (nL rel);refine LM (Sv hoD (by rw[hdD];exact Sw (MG hcD (le_add_left _ _))) ?_);have hno:s.heap.get? s.heap.objs.size=none:=NK (LN _);have hH:H s.heap.objs.size=none:=B.Inv.none_of I hno;refine L1 (h s.heap.objs.size _ hH nad ?_);have ga:h'.get? a=some { cls:=.ref C,dict:=some s.heap.objs.size,data:=.fields #[.ref t,.none,.none,.none,.bool false,.none]}:=(hs2.2 a nad.symm).trans g2;have I2:L2.Inv X pins σ (upd H a (ji a C (some s.heap.objs.size))) { s with heap:=h',toks:=s.toks+1+1}:=I.write (x:=a) (e:=a) (o:=ji a C (some s.heap.objs.size)) (h':=h') (by rw[e];trivial) (.inl rfl) (λb o nb q=>by
  have nb2:b≠s.heap.objs.size:=Nc (Mv q);exact(hs2.2 b nb2).trans (keep b o nb q)) ⟨_,ga⟩ (AC ⟨t,ga⟩)
 exact B.Inv.adopt I2 (B.Inv.newAt I hex hno) (by rw[aE nad];exact hH) hex (Dn ⟨_,hn2,rel⟩)
theorem setX2{A:Mq}{E:c5}{f:Mj}{y:V}{u:Value}{bm:List Value}{d:Addr}{fs:List (Mj×V)}{Q:Unit->LV->Prop}(I:L2.Inv X pins σ H s)(e:H a=some (ji a C (some d)))(ed:H d=some (dO d fs))(hl:fs.length≤100)(c:jh X.K C bm)(n:gl X.K C f)(ry:bv y u)
  (h:∀s',L2.Inv X pins σ (upd H d (dO d ((f,y)::fs))) s'->Q () s'):L6 (Ma X.prog X.w) A (setAttr (.ref a) f u) Q E s:=by
 obtain⟨t,hx⟩:=(show ObjOk X.prog X.w H s.heap a (ji a C (some d)) from I.hok a _ e).1;obtain⟨mA,hn,rel0⟩:=(show ObjOk X.prog X.w H s.heap d (dO d fs) from I.hok d _ ed).1;obtain⟨od,_,_,hod,_⟩:=id hn;have J:PySem.W.InstAt s.heap a _ C (some od):=⟨hx,Z,Z,hod⟩;refine set_plain I.kIn J c.sa (nU (s:={ s with toks:=s.toks+1}) I.kIn J c n λb=>?_);obtain⟨cd,hc,hd'⟩:=any_some c.hd;refine LM (L1 (LM (LM (Q9 hx (LM (PySem.W.Looks.here (s:={ s with toks:=s.toks+1}) (SK I.kIn hc) ?_))))));rw[hd'];refine L1 (a:=some d) (LM (L1 (LM ?_)));refine wpAny_nsSet1 (s:={ s with toks:=s.toks+1}) hn λh' hn2 hs2=>?_
 have rel:=n5 (f:=f) rel0 ry;obtain⟨oD,esD,epD,hoD,hdD,hcD⟩:=hn2.count (nL rel);have hz:esD.size≤101:=by rw[LO,MS] at hcD;omega
 refine LM (Sv hoD (by rw[hdD];exact Sw (MG hz (by decide))) ?_);refine L1 (h _ ?_);exact I.write (x:=d) (e:=d) (o:=dO d ((f,y)::fs)) (h':=h') (by rw[ed];trivial) (.inl Z) (λb o nb q=>(hs2.2 b nb).trans q) ⟨_,hoD⟩ (Dn ⟨_,hn2,rel⟩)
end
section
variable {X:Cx}{o value:Mu}{f:Mj}{ta tv:TE}{pos' pos:Oo}
def C5(K:Fg)(ta tv:TE)(f:Mj):TS:=λD σ H=>tv σ H λy H1=>ta σ H1 λx H2=>∃a C bm,x=.ref a/\jh K C bm/\gl K C f∧
 ((H2 a=some (ji a C none)/\∀d,H2 d=none->d≠a->D.nx σ (upd (upd H2 a (ji a C (some d))) d (dO d [(f,y)])))∨
  ∃d fs,H2 a=some (ji a C (some d))/\H2 d=some (dO d fs)/\fs.length≤100/\D.nx σ (upd H2 d (dO d ((f,y)::fs))))
theorem BM(hex:X.ex=[])(ha:PE X o ta)(hv:PE X value tv)(hs:Od value (some (.Attribute o f pos')) pos.line X.env=Nt false):PS X (.Assign [.Attribute o f pos'] value pos) (C5 X.K ta tv f):=by
 intro pins s σ H D I h;refine plainObj_wpAny_Assign_Attribute (cA (hv pins s σ H _ I h) λu s1 ⟨y,H1,I1,ry,q⟩=>cA (ha pins s1 σ H1 _ I1 q) λov s2 ⟨x,H2,I2,rx,a,C,bm,ex,c,n,q2⟩=>?_) hs;subst ex;obtain rfl:ov=Ml a:=rx;rcases q2 with⟨ea,k⟩ | ⟨d,fs,ea,ed,hl,k⟩
 ·exact B.setX1 hex I2 ea c n ry λd s' hd nd I'=>⟨σ,_,I',k d hd nd⟩
 ·exact B.setX2 I2 ea ed hl c n ry λs' I'=>⟨σ,_,I',k⟩
end
theorem im.any(k:im [] ch h h'):im S ch h h':=⟨λb o _ n q=>k.same b o (λz=>by cases z) n q,k.slot⟩
section
variable {X:Cx}{pins:cy}{σ:L2.St}{H:Hp}{s:LV}{a C T:Addr}{dx:Option Addr}{fl:Value}
theorem Inv.leftK(I:L2.Inv X pins σ H s)(hch:∀b∈ch,H b=none/\fe X pins b)(k:im (nH X.stack) ch s.heap h'):L2.Inv X pins σ H { s with heap:=h',toks:=tk}:=by
 have Dx:∀b o,H b=some o->b∉nH X.stack/\b∉ch:=λb o q=>
  ⟨(λz=>by rw[I.stkFree b z] at q;cases q),(λz=>by rw[(hch b z).1] at q;cases q)⟩
 refine I.call' (s':={ s with heap:=h',toks:=tk}) (ch:=ch) rfl ⟨λb o q _ n1 n2=>k.same b o n1 n2 q,λb o q _ n1 n2=>k.slot b o n2 q,λb o _ n _=>n,λb o q n2=>?_,λb xs q=>q,λb o u q=>q,λb ps q=>⟨#[],by rw[append_empty];exact q⟩⟩ (λb o q=>?_) I.bare
  (λb hb=>⟨.inr (hch b hb).2.st,(hch b hb).2.lo,(hch b hb).2.ce,(hch b hb).2.pi⟩)
 ·obtain⟨sl,z⟩:=k.slot b o n2 q;exact⟨_,z⟩
 ·refine(I.hok b o q).stay (λc u hc z=>?_) (λc z=>z) (λc xs z=>z);rcases hc with rfl|hc
  ·obtain⟨n1,n2⟩:=Dx _ _ q;exact k.same _ _ n1 n2 z
  ·obtain⟨n1,n2⟩:=Dx _ _ hc;exact k.same _ _ n1 n2 z
theorem Fw{A:Mq}{E':c5}{Q:LV->Prop}{oe:Obj}{vs:Array Value}(hA:A.frames=X.A.frames)(I:L2.Inv X pins σ H s)(hex:X.ex=[])(hst:X.stack=X.env::X.outer)(hfr:X.env.frame=some X.env.locals)
  (ha:H a=none) (na:fe X pins a) (hx:s.heap.get? a=some oe) (hd:oe.data=.fields vs) (h1:vs[1]?=some .none) (hc:oe.cls=.ref C) (hdx:oe.dict=dx)
  (h:∀(s':LV) (T:Addr),L2.Inv X pins σ H s'->fe X pins T->H T=none->iL s'.heap a C T dx .none->Q s') :
  L6 (Ma X.prog X.w) A (PY (.ref a) X.env) (λ_ s2=>L6 (Ma X.prog X.w) A (Rp (.ref a) none) (λ_ s3=>Q s3) E' s2) E' s:=by
 have hfrm:A.frames=some (X.env::X.outer):=by rw[hA,I.ok.frames,hst]
 refine Ht (base:=X.base) hfrm (by rw[←hst];exact I.stack) hfr hx hd h1 hc hdx λh1 T k1 nT t1=>?_
 refine qc (s:={ s with heap:=h1}) t1 λh2 k2 t2=>?_
 have nt:=B.Inv.newAt I hex nT;have hT:=B.Inv.none_of I nT;rw[←hst] at k1;refine h { s with heap:=h2} T (B.Inv.leftK (tk:=s.toks) I (λb hb=>?_) (k1.trans k2.any)) nt hT t2;simp only[cons_append,Tj,LZ,Nq,or_false] at hb;rcases hb with rfl|rfl
 ·exact⟨ha,na⟩
 ·exact⟨hT,nt⟩
theorem Ac{A:Mq}{E':c5}{Q:LV->Prop}(hA:A.frames=X.A.frames)(I:L2.Inv X pins σ H s)(hex:X.ex=[])(hst:X.stack=X.env::X.outer)(hfr:X.env.frame=some X.env.locals)
  (ha:H a=none) (na:fe X pins a) (hT:H T=none) (nT:fe X pins T) (t:iL s.heap a C T dx .none)
  (h:∀(s':LV) (T':Addr),L2.Inv X pins σ H s'->fe X pins T'->H T'=none->iL s'.heap a C T' dx .none->Q s') :
  L6 (Ma X.prog X.w) A (PY (.ref a) X.env) (λ_ s2=>L6 (Ma X.prog X.w) A (Rp (.ref a) none) (λ_ s3=>Q s3) E' s2) E' s:=by
 have hfrm:A.frames=some (X.env::X.outer):=by rw[hA,I.ok.frames,hst]
 refine Hs (base:=X.base) hfrm (by rw[←hst];exact I.stack) hfr t λh1 T' k1 nT' t1=>?_
 refine qc (s:={ s with heap:=h1}) t1 λh2 k2 t2=>?_
 have nt:=B.Inv.newAt I hex nT';have hT':=B.Inv.none_of I nT';rw[←hst] at k1;refine h { s with heap:=h2} T' (B.Inv.leftK (tk:=s.toks) I (λb hb=>?_) (k1.trans k2.any)) nt hT' t2;simp only[cons_append,Tj,LZ,Nq,or_false] at hb;rcases hb with rfl|rfl|rfl
 ·exact⟨hT,nT⟩
 ·exact⟨ha,na⟩
 ·exact⟨hT',nt⟩
theorem FR{A:Mq}{E':c5}{Q:LV->Prop}(I:L2.Inv X pins σ H s)(hT:H T=none)(nT:fe X pins T)(t:iL s.heap a C T dx .none)
  (h:∀(s':LV),L2.Inv X pins σ H s'->iL s'.heap a C T dx .none->Q s'):L6 (Ma X.prog X.w) A (Rp (.ref a) none) (λ_ s3=>Q s3) E' s:=by
 refine qc t λh2 k2 t2=>h _ (B.Inv.leftK (tk:=s.toks) I (λb hb=>?_) k2.any) t2
 rw[LP.mp hb];exact⟨hT,nT⟩
end
def Bb(P:Mo)(w:MD):qm:=λouter H s E e s'=>∃(x C T:Addr) (dx:Option Addr) (H':Hp),e=.ref x/\s'.os=s.os/\Pz s'.gens/\Un (nH outer) [] H H' s.heap s'.heap/\iX P w H' s'.heap/\s.heap.get? x=none/\s.heap.get? T=none/\H' x=none/\H' T=none∧
 iL s'.heap x C T dx .none/\E (.ref C) dx H'
section
variable {P:Mo}{w:MD}{K:Fg}{mg:Mj->Option Value}{base:MA}{N:List Mj}{qual:Mj}{scope:OH}{f:Addr}{cd:Value}{A:Mq}{outer:List R0}{s:LV}{H:Hp}{E:XK}
theorem C9:gX (Bb P w) (bL (Bb P w) P w K mg base N qual scope f cd A outer s H E) E:=by
 intro pins σ H1 s1 e s2 I hx;obtain⟨x,C,T,dx,H2,rfl,ho,hb,un,hok,nx,nT,hx2,hT2,tr,hE⟩:=hx;have na:=B.Inv.newAt I Z nx;have nt:=B.Inv.newAt I Z nT;have I2:L2.Inv (bL (Bb P w) P w K mg base N qual scope f cd A outer s H E) pins σ H2 s2:=I.call' ho un hok hb (λb hb=>by cases hb);show L6 (Ma P w) _ (SR _ _) _ _ s2;unfold SR;refine LM (Ac Z I2 Z Z Z hx2 na hT2 nt tr λs3 T' I3 nT' hT' tr'=>?_);exact⟨x,C,T',dx,H2,Z,I3.os,I3.bare,I3.base,I3.hok,na.st,nT'.st,hx2,hT',tr',hE⟩
def ud(X:Cx)(E:XK):Prop:=∀(pins:cy) (σ:L2.St) (H:Hp) (s:LV) (a C:Addr) (dx:Option Addr) (oe:Obj) (vs:Array Value),L2.Inv X pins σ H s->H a=none->fe X pins a->s.heap.get? a=some oe->oe.data=.fields vs→
 vs[1]?=some .none->oe.cls=.ref C->oe.dict=dx->E (.ref C) dx H->X.xe (.ref a) s
theorem xk:ud (bL (Bb P w) P w K mg base N qual scope f cd A outer s H E) E:=by
 intro pins σ H1 s1 a C dx oe vs I ha na hx hd h1 hc hdx hE;show L6 (Ma P w) _ (SR _ _) _ _ s1;unfold SR;refine LM (Fw Z I Z Z Z ha na hx hd h1 hc hdx λs3 T' I3 nT' hT' tr'=>?_);exact⟨a,C,T',dx,H1,Z,I3.os,I3.bare,I3.base,I3.hok,na.st,nT'.st,ha,hT',tr',hE⟩
theorem Fun.okD{x:Mj}{st:Stmt}{fd:LS}{ps:List Mj}{k:Nat}{sp:Sp}(F:Fun K x qual st f fd)(S:aK N ps (av st))(len:∀vs H Q E,sp vs H Q E->vs.length=ps.length)
  (hbody:∀(cdv:Value) (A:Mq) (outer:List R0) (s:LV) (H:Hp) (vs:List V) (Q:VK) (E:XK),cZ k (A.deeper (Pu qual (av st) s.heap.objs.size f cdv))->sp vs H Q E→
   ∃t,oP (bL (Bb P w) P w K mg base N qual (av st) f cdv A outer s H E) (dZ st) t/\t { nx:=λ_ H'=>Q .non H',rt:=Q} (fT N vs) H):bD P w K mg base (Bb P w) (k+1) f fd ps sp:=by
 obtain⟨oc,od,kV,doc,pm,an,cdv,ct,osl,rfl,lk,hcd⟩:=F.ex;exact Dk lk hcd S len λA outer s H vs Q E hr hsp=>hbody cdv A outer s H vs Q E hr hsp
end
section
variable {X:Cx}{k:Nat}{f C:Addr}{fd:LS}{ps:List Mj}{sp:Sp}{bm:List Value}
def uo(C:Addr)(sp:Sp)(E:XK)(t:TA):TS:=λ_ σ H=>t σ H λvs H1=>vs.length≤sizeLine/\∀a,H1 a=none->sp (.ref a::vs) (upd H1 a (ji a C none)) (λv H2=>v=.non/\∃dx,H2 a=some (ji a C dx)/\E (.ref C) dx (u4 H2 a)) E0
theorem vV{x:Mj}{p cpos pos:Oo}{e:Mu}{es:List Mu}{t:TA}{E:XK}(M:XC X.K C f bm)(hbase:bm.contains (.type "BaseException")=true)(hex:X.ex=[])(tk:ud X E)(F:bD X.prog X.w X.K X.mg X.base dF k f fd ps sp)(hr:cZ (k+1) X.A)(hb:aV X.K fd ps [])
  (hg:Gl X x) (hm:X.mg x=some (.ref C)) (ha:PA X (e::es) t) (hdb:(x==("__debug__" : Mj))=false:=by decide) (he:L4 (e::es) X.env=(false,eval e X.env)::L4 es X.env:=by rfl) (hpl:(Ol cpos (L4 es X.env)).any (·.1)=false:=by rfl) :
  PS X (.Raise (some (.Call (.Name x p) (e::es) [] cpos)) none pos) (uo C sp E t):=by
 intro pins s σ H D I h;obtain⟨nm,q,N,bs,hdct,sn,sub,ab,col,dd,k0,k1,k2,k3,k5,lk⟩:=M.ob;rw[arm_exec_Raise];refine LM (OE (vQ (C:=C) (bm:=bm) (nm:=nm) (q:=q) (N:=N) (bs:=bs) (hdct:=hdct) (sn:=sn) (sub:=sub) (ab:=ab) (col:=col) (dd:=dd) (k0:=k0) (k1:=k1) (k2:=k2) (k3:=k3) (k5:=k5) (newId := "ValueError.__new__") hbase hr.hd ?_));refine LM (Ng (Q:=λv s'=>∃a H',v=.ref a/\fe X pins a/\L2.Inv X pins σ H' s'/\∃dx,H' a=some (ji a C dx)/\E (.ref C) dx (u4 H' a)) ?_ (λv s1 h1=>LM (OE (L1 ?_))) λ_ _ y=>y)
 ·refine NZ (iB I hg hm ?_ hdb);refine Tb (h₀:=X.base) I.ok.mod.kin M.kp (cA (ha cpos pins s σ H _ I h) λus s1 ⟨vs,H1,I1,r,hz,q⟩=>⟨I1.kIn,?_⟩) he hpl;exact Bv M hex F hr hb I1 (us:=[]++us) r (by rw[Tj,←r.length];exact hz) q
 ·obtain⟨a,H',rfl,na,I1,dx,hx,hE⟩:=h1;obtain⟨tt,ho⟩:=(show L2.ObjOk X.prog X.w H' s1.heap a (ji a C dx) from I1.hok a _ hx).1;exact⟨a,tt,dx,Z,I1.kIn _ _ lk,ho,tk pins σ (u4 H' a) s1 a C dx _ _ (B.Inv.forget I1 hx na.st) gC na ho Z Z Z Z hE⟩
end
abbrev RX:=Addr->Option Addr->Hp->Prop
def JD(X:Cx)(pins:cy)(R:RX):c5:=λe s=>∃(x C T:Addr) (dx:Option Addr) (H:Hp),e=.ref x/\L2.Inv X pins (Di X.N) H s/\H x=none/\fe X pins x/\H T=none/\fe X pins T/\iL s.heap x C T dx .none/\R C dx H
def jd(X:Cx)(pins:cy)(R:RX):Cx:={ X with pn:=X.pn++pins,xe:=JD X pins R}
section
variable {X:Cx}{pins pins':cy}{σ:L2.St}{H:Hp}{s:LV}{R:RX}{e:Addr}
theorem Dy(I:L2.Inv X pins σ H s):L2.Inv (jd X pins R) [] σ H s:=
 ⟨⟨I.ok.mod,I.ok.kind,I.ok.glob,I.ok.blt,I.ok.above,I.ok.inj,I.ok.has,I.ok.cab,I.ok.hd,I.ok.frames,I.ok.stk,I.ok.exf,I.ok.bs,I.ok.bsz,I.ok.noex,I.ok.exfs,I.ok.funs,I.ok.frf⟩,I.os,I.bare,I.base,I.loc,I.cell,I.free,I.freeC,
  λp hp=>I.pin p (by rw[NF] at hp;exact hp),I.hok,I.len⟩
theorem ofTryD(I:L2.Inv (jd X pins R) pins' σ H s):L2.Inv X pins σ H s:=
 ⟨⟨I.ok.mod,I.ok.kind,I.ok.glob,I.ok.blt,I.ok.above,I.ok.inj,I.ok.has,I.ok.cab,I.ok.hd,I.ok.frames,I.ok.stk,I.ok.exf,I.ok.bs,I.ok.bsz,I.ok.noex,I.ok.exfs,I.ok.funs,I.ok.frf⟩,I.os,I.bare,I.base,I.loc,I.cell,I.free,I.freeC,
  λp hp=>I.pin p (MJ _ hp),I.hok,I.len⟩
def JF(R:RX):XK:=λv dx H=>∃C,v=.ref C/\R C dx H
theorem EQ(hex:X.ex=[]):gX (Bb X.prog X.w) (jd X pins R) (JF R):=by
 intro pins' σ H1 s1 e s2 I hx;obtain⟨x,C,T,dx,H2,rfl,ho,hb,un,hok,nx,nT,hx2,hT2,tr,C',e',hr⟩:=hx
 cases e'
 have na:=B.Inv.newAt I hex nx;have nt:=B.Inv.newAt I hex nT;have I2:L2.Inv (jd X pins R) pins' σ H2 s2:=I.call' ho un hok hb (λb hb=>by cases hb);exact⟨x,C,T,dx,H2,Z,Au (ofTryD I2),hx2,⟨na.st,na.lo,na.ce,λp hp=>na.pi p (MJ _ hp),na.fr⟩,hT2,⟨nt.st,nt.lo,nt.ce,λp hp=>nt.pi p (MJ _ hp),nt.fr⟩,tr,hr⟩
theorem SP.ofTryD(h:SP (jd X pins R) [] D f s):SP X pins D f s:=by
 cases f with
 |next=>obtain⟨σ',H',I,q⟩:=h;exact⟨σ',H',B.ofTryD I,q⟩
 |brk=>obtain⟨σ',H',I,q⟩:=h;exact⟨σ',H',B.ofTryD I,q⟩
 |cont=>obtain⟨σ',H',I,q⟩:=h;exact⟨σ',H',B.ofTryD I,q⟩
 |ret u=>obtain⟨v,σ',H',I,r,q⟩:=h;exact⟨v,σ',H',B.ofTryD I,r,q⟩
end
theorem iA{X:Cx}{pins:cy}{σ:L2.St}{H:Hp}{s:LV}{M:SV}{A:Mq}{E:c5}{i:Nat}{x:Mj}{pos:Oo}{Q:Unit->LV->Prop}(I:L2.Inv X pins σ H s)(hN:X.N.Nodup)(hi:X.N[i]?=some x)(hk:X.env.scope.names.lookup x=some .local)
  (h:∀s',L2.Inv X pins (σ.set i none) H s'->Q () s'):L6 M A (do R4 X.env x .none;unbindBehindTheSuite X.env x pos) Q E s:=by
 obtain⟨m,hn,hl⟩:=id I.loc;have hiσ:i<σ.length:=by rw[I.len];exact(LR.mp hi).1
 have lt:∀b o,X.s₀.heap.get? b=some o->b≠X.env.locals:=λb o e=>Nc (Mp (Mv e) I.ok.above)
 refine wpAny_nameGoes_keeps hk hn (by rw[I.ok.kind];rfl) λh' v hn' hs=>h _ ?_
 refine⟨I.ok,I.os,I.bare,⟨λb o e n hb hx=>(hs.2 b (lt b o e)).trans (I.base.keep b o e n hb hx),λb o e n hb hx=>?_,I.base.free,λb o e hx=>?_,I.base.tups,I.base.frzs,I.base.tbls⟩,⟨_,hn',λj y v' e1 e2 e3=>?_⟩,λy c e=>?_,I.free,I.freeC,λp hp=>?_,λb ob e=>?_,by simpa using I.len⟩
 ·obtain⟨sl,e1⟩:=I.base.slot b o e n hb hx;exact⟨sl,(hs.2 b (lt b o e)).trans e1⟩
 ·obtain⟨o',e1⟩:=I.base.there b o e hx;exact⟨o',(hs.2 b (lt b o e)).trans e1⟩
 ·have hj:j≠i:=λz=>by subst z;rw[OI hiσ] at e2;cases e2
  rw[NL (NO hj)] at e2;obtain⟨u',r',q⟩:=hl j y v' e1 e2 e3;refine⟨u',r',?_⟩;rcases q with⟨k,e⟩ | ⟨k,c,e,z⟩
  ·refine .inl ⟨k,?_⟩;have ny:y≠x:=λe=>hj (mE hN e1 (e▸hi))
   show(if y=x then v else m y)=some u';rw[if_neg ny];exact e
  ·exact .inr ⟨k,c,e,z.sameBut hs (I.cne y c e)⟩
 ·obtain⟨w',z⟩:=I.cell y c e;exact⟨w',z.sameBut hs (I.cne y c e)⟩
 ·obtain⟨e,n,ne,nf,d⟩:=I.pin p hp;exact⟨(hs.2 p.1 ne).trans e,n,ne,nf,d⟩
 ·refine(I.hok b ob e).stay (λc w' hc q=>(hs.2 c ?_).trans q) (λ_ q=>q) λ_ _ q=>q
  rintro rfl;rcases hc with rfl|hc
  ·rw[I.free] at e;cases e
  ·rw[I.free] at hc;cases hc
def JE(a C d:Addr):MA->Prop:=λh=>∃oe,h.get? a=some oe/\oe.cls=.ref C/\oe.dict=some d/\notCls oe=true
def wT(a C d:Addr):HO:=.ext (JE a C d)
theorem FT(e:JE a C d h):ObjOk P w H h a (wT a C d):=
 ⟨e,let ⟨_,q,_⟩:=e;⟨_,q⟩,λ_ _ ⟨o,q,r⟩ k=>⟨o,k _ q,r⟩⟩
theorem iL.er(t:iL h x C T (some d) fl):JE x C d h:=by
 obtain⟨oe,vs,oT,ts,q1,q2,q3,q4,_⟩:=t;exact⟨oe,q1,q2,q3,by unfold notCls;rw[q4]⟩
def HK(i:Nat)(D:iN):iN:={ nx:=λσ H=>D.nx (σ.set i none) H,rt:=D.rt,bk:=λσ H=>D.bk (σ.set i none) H,ct:=λσ H=>D.ct (σ.set i none) H}
def JL(N:List Mj)(R:RX)(Ok:Addr->Prop)(tb th:TS):TS:=λD σ H=>tb D σ H/\∀C dx H',R C dx H'->Ok C/\th D (Di N) H'
def xo(N:List Mj)(i:Nat)(R:RX)(Ok:Addr->Prop)(tb th:TS):TS:=λD σ H=>tb D σ H/\∀C dx H',R C dx H'->Ok C/\∃d,dx=some d/\∀a,H' a=none->th (HK i D) ((Di N).set i (some (.ref a))) (upd H' a (wT a C d))
section
variable {X:Cx}{R:RX}{body:List Stmt}{b₀:Stmt}{suite:List Stmt}{x:Mj}{p hpos pos:Oo}{u:Value}{tb th:TS}
theorem Dw(t:iL h a C T dx fl):PySem.W.Looks M h (TU (.ref a)) (.ref C):=by
 obtain⟨oe,_,_,_,q1,q2,_⟩:=t;rw[←q2];exact(PySem.W.Looks.ld q1).andThen .now
theorem zp{i:Nat}{n:Mj}(hex:X.ex=[])(hst:X.stack=X.env::X.outer)(hfr:X.env.frame=some X.env.locals)(hg:Gl X x)(hm:X.mg x=some u)(hN:X.N.Nodup)(hi:X.N[i]?=some n)(hn:X.env.scope.names.lookup n=some .local)
  (hb:∀pins,oP (jd X pins R) body tb) (hs:∀e,oP (ou X e) (b₀::suite) th) (hd:(x==("__debug__" : Mj))=false:=by decide) :
  PS X (.Try body [.ExceptHandler (some (.Name x p)) (some n) (b₀::suite) hpos] [] [] pos) (xo X.N i R (λC=>PySem.W.exmOne X.K (.ref C) u=some true) tb th):=by
 intro pins s σ H D I ⟨h1,h2⟩;refine wpAny_Try_except (Ng (hb pins [] s σ H D (Dy I) h1) (λf s1 q=>?_) λe s1 q=>?_)
 ·have q':=SP.ofTryD q
  cases f with
  |next=>exact O6 q'
  |brk=>exact q'
  |cont=>exact q'
  |ret u=>exact q'
 ·obtain⟨a,C,T,dx,H1,rfl,I1,ha,na,hT,nT,tr,hR⟩:=q;obtain⟨hk,d,rfl,hth⟩:=h2 C dx H1 hR;refine Ac Z I1 hex hst hfr ha na hT nT tr λs2 T2 I2 nT2 hT2 tr2=>?_
  refine wpAny_handleBy_cons (codeAny_handlers_test ?_) (by intro z;cases z);refine iB (X:=ou X a) (CU I2) hg hm ?_ hd;refine PySem.W.Looks.here (s:=s2) (exm_one (M:=Ma X.prog X.w) I2.kIn (Dw tr2) hk) ?_;refine codeAny_handlers_suite_as ?_;refine FR I2 hT2 nT2 tr2 λs3 I3 tr3=>?_
  have I4:L2.Inv X pins (Di X.N) (upd H1 a (wT a C d)) s3:=B.Inv.adopt I3 na ha hex (FT tr3.er);refine eV (X:=ou X a) (CU I4) hN hi (.inl hn) (v:=.ref a) (u:=.ref a) Z (λs5 I5=>?_) (.inr hn);refine Ng (hs a pins s5 _ _ (HK i D) I5 (hth a ha)) (λf s6 q6=>?_) λ_ _ z=>z.elim
  cases f with
  |next=>obtain⟨σ',H',J,q⟩:=q6;exact iA (uK I.ok J) hN hi hn λs' J'=>⟨_,_,J',q⟩
  |brk=>obtain⟨σ',H',J,q⟩:=q6;exact iA (uK I.ok J) hN hi hn λs' J'=>⟨_,_,J',q⟩
  |cont=>obtain⟨σ',H',J,q⟩:=q6;exact iA (uK I.ok J) hN hi hn λs' J'=>⟨_,_,J',q⟩
  |ret u=>obtain⟨v,σ',H',J,r,q⟩:=q6;exact iA (uK I.ok J) hN hi hn λs' J'=>⟨v,_,_,J',r,q⟩
end
def G2(K:Fg):List V->Hp->VK->Prop:=λxs H Q=>∃(a C d:Addr) (fs:List (Mj×V)) (bm:List Value) (c:V) (b:Bool),xs=[.ref a,c]/\H a=some (wT a C d)/\H d=some (dO d fs)/\jh K C bm/\ug K C∧
 ((∃n,c=.ty n/\PySem.W.kitOne K (.ref C) (.type n)=some b)∨(∃D,c=.ref D/\PySem.W.kitOne K (.ref C) (.ref D)=some b)∨
  ∃(p:Addr) (cs:List Addr),c=.ref p/\H p=some (.tup (cs.map V.ref))/\PySem.W.kitAny K (.ref C) (cs.map Ml)=some b)/\Q (.bl b) H
theorem nM:∀{cs:List Addr} {us:List Value},bj (cs.map V.ref) us->us=cs.map Ml
 | [],_,.nil=>rfl
 |c::cs,_,.cons r q=>by
  rw[M3,nM q,(show _=Ml c from r)]
theorem AQ:dX X (.builtin "isinstance") (G2 X.K):=by
 intro pins s σ H xs us Q I r h;obtain⟨a,C,d,fs,bm,c,b,rfl,ea,ed,cl,gx,k,q⟩:=h;obtain⟨u,u2,rfl,rx,ry⟩:=ul r;obtain rfl:u=Ml a:=rx;obtain⟨oe,h1,h2,h3,h4⟩:=(show ObjOk X.prog X.w H s.heap a (wT a C d) from I.hok a _ ea).1;obtain⟨mA,⟨od,es,ep,h5,_⟩,_⟩:=(show ObjOk X.prog X.w H s.heap d (dO d fs) from I.hok d _ ed).1;have J:PySem.W.InstAt s.heap a oe C (some od):=⟨h1,h2,h4,by rw[h3];exact h5⟩;rcases k with⟨n,rfl,e⟩ | ⟨D,rfl,e⟩ | ⟨p,cs,rfl,hp,e⟩
 ·obtain rfl:u2=Oj n:=ry;exact OJ (mQ cl gx) I.kIn J e (λz=>nomatch z) λtk=>⟨.bl b,H,I.tok tk,Z,q⟩
 ·obtain rfl:u2=Ml D:=ry;exact OJ (mQ cl gx) I.kIn J e (λz=>nomatch z) λtk=>⟨.bl b,H,I.tok tk,Z,q⟩
 ·obtain rfl:u2=Ml p:=ry;obtain⟨_,its,rv,o,ho,hc,n,hd⟩:=(show ObjOk X.prog X.w H s.heap p (.tup (cs.map V.ref)) from I.hok p _ hp);rw[nM rv] at hd;obtain⟨oc,odd,oda,osl⟩:=o;dsimp only at hc hd;subst hc;subst hd;exact kia_tup (mQ cl gx) I.kIn J ho e (λz=>nomatch z) λtk=>⟨.bl b,H,I.tok tk,Z,q⟩
theorem jR{X:Cx}{K:Fg}(h:X.K=K):dX X (.builtin "isinstance") (G2 K):=by
 subst h;exact AQ
def si(H:Hp)(a C d:Addr):Prop:=H a=some (wT a C d)∨H a=some (ji a C (some d))
section
variable {X:Cx}{pins:cy}{σ:L2.St}{H:Hp}{s:LV}{a C d:Addr}{fs:List (Mj×V)}
theorem si.inst(I:L2.Inv X pins σ H s)(h:si H a C d)(ed:H d=some (dO d fs)):∃(oe od:Obj) (mA:Mj->Option Value),PySem.W.InstAt s.heap a oe C (some od)/\(∀name,lookIn name od=some (mA name))/\∀f,gW (fs.lookup f) (mA f):=by
 obtain⟨mA,hn,r⟩:=(show ObjOk X.prog X.w H s.heap d (dO d fs) from I.hok d _ ed).1;obtain⟨od,ho,hl⟩:=om hn;rcases h with h|h
 ·obtain⟨oe,h1,h2,h3,h4⟩:=(show ObjOk X.prog X.w H s.heap a (wT a C d) from I.hok a _ h).1;exact⟨oe,od,mA,⟨h1,h2,h4,by rw[h3];exact ho⟩,hl,r⟩
 ·obtain⟨t,h1⟩:=(show ObjOk X.prog X.w H s.heap a (ji a C (some d)) from I.hok a _ h).1;exact⟨_,od,mA,⟨h1,Z,Z,ho⟩,hl,r⟩
end
def C0(K:Fg)(ta:TE)(f:Mj):TE:=λσ H Q=>ta σ H λx H1=>∃a C d fs bm v,x=.ref a/\si H1 a C d/\H1 d=some (dO d fs)/\jh K C bm/\ug K C/\gl K C f/\fs.lookup f=some v/\Q v H1
theorem B3{X:Cx}{e:Mu}{f:Mj}{pos:Oo}{ta:TE}{K:Fg}(hK:X.K=K)(he:PE X e ta)(hb:Nu e f X.env (eval e X.env)=eval e X.env):PE X (.Attribute e f pos) (C0 K ta f):=by
 subst hK;intro pins s σ H Q I h;refine CC hb (cA (he pins s σ H _ I h) λu s1 ⟨x,H1,I1,rx,a,C,d,fs,bm,v,ex,ea,ed,c,g,n,l,q⟩=>?_);subst ex;obtain rfl:u=Ml a:=rx;obtain⟨oe,od,mA,J,hl,r⟩:=si.inst I1 ea ed;obtain⟨u',hu,ru⟩:=gW.some_of (v:=v) (o:=mA f) (by rw[←l];exact r f);unfold getAttr;refine LM (wpAny_mkText ?_);refine rM (s:={ s1 with toks:=s1.toks+1}) I1.kIn J g ?_;refine Cp (s:={ s1 with toks:=s1.toks+1}) I1.kIn J c (findObj_own c.hd n rfl (by rw[hl,hu])) ?_;exact⟨u',rfl,ww ru,v,H1,I1.tok _,ru,q⟩
def KU(K:Fg):List V->Hp->VK->Prop:=λxs H Q=>∃(a C d:Addr) (fs:List (Mj×V)) (bm:List Value) (c:V) (b:Bool),xs=[.ref a,c]/\si H a C d/\H d=some (dO d fs)/\jh K C bm/\ug K C∧
 ((∃n,c=.ty n/\PySem.W.kitOne K (.ref C) (.type n)=some b)∨(∃D,c=.ref D/\PySem.W.kitOne K (.ref C) (.ref D)=some b)∨
  ∃(p:Addr) (cs:List Addr),c=.ref p/\H p=some (.tup (cs.map V.ref))/\PySem.W.kitAny K (.ref C) (cs.map Ml)=some b)/\Q (.bl b) H
def IV(C:Addr)(sp:Sp)(t:TA):TE:=λσ H Q=>t σ H λvs H1=>vs.length≤sizeLine/\∀a,H1 a=none->sp (.ref a::vs) (upd H1 a (ji a C none)) (λv H2=>v=.non/\Q (.ref a) H2) E0
theorem oX{X:Cx}{pins:cy}{σ:L2.St}{H:Hp}{s:LV}{h':MA}{t':Nat}{fp:List Addr}(I:Inv X pins σ H s)
  (k:∀b o,b∉fp->s.heap.get? b=some o->h'.get? b=some o) (hf:∀b∈fp,fg X pins H b):Inv X pins σ H { s with heap:=h',toks:=t'}:=by
 have off:∀b u,H b=some u->b∉fp:=λb u e z=>by rw[(hf b z).1] at e;cases e
 refine I.step (g':=s.gens) (d':=s.drawn) (ch:=fp) (λb hb=>?_) (λb o _ _ hc e _=>k b o hc e) (λb o _ _ hc e _=>⟨o.slots,k b o hc e⟩) (λ_ _ _ _ n=>n)
  (λb o hc e=>⟨o,k b o hc e⟩) (λ_ _ e=>e) (λ_ _ _ e=>e) (λb ps e=>⟨#[],by rw[e];simp⟩) (λm hm=>?_) (λb u e=>?_) I.bare
 ·obtain⟨_,f1,_,f3,f4,f5⟩:=hf b hb;exact⟨f3,f1,f4,f5⟩
 ·obtain⟨o,es,ep,ho,r⟩:=hm;exact⟨o,es,ep,k _ o (λz=>(hf _ z).2.1 Z) ho,r⟩
 ·refine(I.hok b u e).stay (λc v hc q=>k c v ?_ q) (λ_ q=>q) λ_ _ q=>q
  rcases hc with z|z
  ·rw[z];exact off b u e
  ·exact off c _ z
section
variable {prog:Mo}{w:MD}{A:Mq}{E:c5}{s:LV}
theorem Cd{j t:Addr}{k:Nat}{ys:Array Value}{v:Value}{G:c5}(a:s.heap.IsTupleIter j t k)(b:s.heap.IsTuple t ys)(c:ys[k]?=some v)
  (g:∀h',h'.IsTupleIter j t (k+1)->OT j s.heap h'->G v { s with heap:=h'}):L6 (Ma prog w) A (Ob (.ref j)) G E s:=by
 obtain⟨o,e1,e2,e3⟩:=id a;obtain⟨q,f1,_,n,f2⟩:=b;unfold Ob;refine LM (Np (name:=Og "__next__") a.typeIs F.slot_tuple_iterator_next (NX F.slot_tuple_iterator_next a.typeIs F.entry_tuple_iterator_next ?_ (F.args_tuple_iterator_next_1 _)))
 show L6 (Ma prog w) _ (Ua (.ref j) 0 >>= _) _ _ s;refine LM (ND e1 e3 (x:=.ref t) Z ?_);show L6 (Ma prog w) _ (if(Ml t==Nf)=true then _ else _) _ _ s;rw[if_neg (λz=>noConfusion z:¬((Ml t==Nf)=true))];show L6 (Ma prog w) _ (Ua (.ref j) 1 >>= _) _ _ s;refine LM (ND e1 e3 (x:=.int k 0) Z ?_);show L6 (Ma prog w) _ (seqItems? (.ref t) >>= _) _ _ s;refine LM (wpAny_seqItems f1 f2 ?_);simp only[c,RA];refine LM (Pn e1 e3 (by simp) (L1 ⟨v,Z,L1 (g _ ?_ (Ru ..))⟩));refine⟨_,Os _ e1 (Obj.isFreed_of_fields (Obj.data_mapFields e3 _)),(Obj.cls_mapFields ..).trans e2,?_⟩;rw[Obj.data_mapFields e3];simp[rawInt]
theorem Ab{j t:Addr}{k:Nat}{ys:Array Value}{G:c5}(hh:A.handled=none)(a:s.heap.IsTupleIter j t k)(b:s.heap.IsTuple t ys)(c:ys[k]?=none)
  (g:∀h' e,MA.ExtBut j s.heap h'->(∃o,h'.get? e=some o/\o.cls=.type "StopIteration")->E (.ref e) { s with heap:=h'}):L6 (Ma prog w) A (Ob (.ref j)) G E s:=by
 obtain⟨o,e1,e2,e3⟩:=id a;obtain⟨q,f1,_,n,f2⟩:=b;unfold Ob;refine LM (Np (name:=Og "__next__") a.typeIs F.slot_tuple_iterator_next (NX F.slot_tuple_iterator_next a.typeIs F.entry_tuple_iterator_next ?_ (F.args_tuple_iterator_next_1 _)))
 show L6 (Ma prog w) _ (Ua (.ref j) 0 >>= _) _ _ s;refine LM (ND e1 e3 (x:=.ref t) Z ?_);show L6 (Ma prog w) _ (if(Ml t==Nf)=true then _ else _) _ _ s;rw[if_neg (λz=>noConfusion z:¬((Ml t==Nf)=true))];show L6 (Ma prog w) _ (Ua (.ref j) 1 >>= _) _ _ s;refine LM (ND e1 e3 (x:=.int k 0) Z ?_);show L6 (Ma prog w) _ (seqItems? (.ref t) >>= _) _ _ s;refine LM (wpAny_seqItems f1 f2 ?_);simp only[c,RA];refine LM (RJ (LM (Pn e1 e3 (by simp) ?_)));show L6 (Ma prog w) _ (newExc (.type "StopIteration") [] >>= _) _ _ _;refine LM ?_;simp only[newTuple,newExc];refine LM (MQ ?_ (by size_fits));refine LM (m:=firstArgMember _ _) (wpAny_of_eq (a:=Nf) (by first|rfl | (simp only[firstArgMember]<;>rfl)) ?_);refine MQ ?_ (by size_fits);simp only[raiseNew];refine LM (wpAny_handled ?_)
 first|rw[hh]|rw[show A.in1.handled=none from hh]
 refine LM (L1 (wpAny_throw (g _ _ (((Ru ..).extBut.push _).push _) ⟨_,Mm _ Z,Z⟩)))
structure Lp(z TI TO i1 i2:Addr):Prop where
 a1:TI≠z
 a2:TO≠z
 a3:i1≠z
 a4:i2≠z
 a5:TI≠TO
 a6:TI≠i1
 a7:TI≠i2
 a8:TO≠i1
 a9:TO≠i2
 b1:i1≠i2
end
theorem oW{X:Cx}{pins:cy}{σ:L2.St}{H:Hp}{s:LV}{h':MA}{t':Nat}{fp:List Addr}{p:Addr}{v:HO}(I:Inv X pins σ H s)
  (k:∀b o,b∉fp->s.heap.get? b=some o->h'.get? b=some o) (hf:∀b∈fp,fg X pins H b) (hp:s.heap.objs.size≤p) (new:ObjOk X.prog X.w (upd H p v) h' p v) :
  Inv X pins σ (upd H p v) { s with heap:=h',toks:=t'}:=by
 have off:∀b u,H b=some u->b∉fp:=λb u e z=>by rw[(hf b z).1] at e;cases e
 have hn:H p=none:=I.hok.fresh hp;have old:∀b u,H b=some u->upd H p v b=some u:=λb u e=>by rw[aE (aX e hn)];exact e
 refine I.step (g':=s.gens) (d':=s.drawn) (ch:=fp) (λb hb=>?_) (λb o _ _ hc e _=>k b o hc e) (λb o _ _ hc e _=>⟨o.slots,k b o hc e⟩) (λb o _ e n=>?_)
  (λb o hc e=>⟨o,k b o hc e⟩) (λb xs e=>old b _ e) (λb o u e=>old b _ e) (λb ps e=>⟨#[],by rw[old b _ e];simp⟩) (λm hm=>?_) (λb u e=>?_) I.bare
 ·obtain⟨_,f1,_,f3,f4,f5⟩:=hf b hb;exact⟨f3,f1,f4,f5⟩
 ·rw[aE (Nc (Mp (Mv e) hp))];exact n
 ·obtain⟨o,es,ep,ho,r⟩:=hm;exact⟨o,es,ep,k _ o (λz=>(hf _ z).2.1 Z) ho,r⟩
 ·by_cases hb:b=p
  ·subst hb;rw[ah] at e;cases e;exact new
  ·rw[aE hb] at e;refine(I.hok b u e).stay (λc v hc q=>k c v ?_ q) (λc q=>old c _ q) λc xs q=>old c _ q
   rcases hc with z|z
   ·rw[z];exact off b u e
   ·exact off c _ z
theorem uv{X:Cx}{pins:cy}{σ:L2.St}{H:Hp}{s:LV}{a b:Addr}{xs:List V}(I:Inv X pins σ H s)(h:bH X.K H a xs)(f:fg X pins H b):a≠b:=λz=>by
 subst z;rcases h with(h | ⟨o,h⟩) | ⟨o,its,n,hk,_⟩
 ·rw[f.1] at h;cases h
 ·rw[f.1] at h;cases h
 ·have e:=I.ok.mod.kin a o hk;rcases f.2.2.2.1 with z|z
  ·exact I.ok.noex a o e z
  ·rw[(I.ok.bs a o e).1] at z;cases z
def Lk(K:Fg)(a b:Addr):It:=
 ⟨λi H=>∃xs ys x y,bH K H a xs/\bH K H b ys/\xs[i]?=some x/\ys[i]?=some y,
  λi H v H'=>∃p x y,H p=none/\v=.ref p/\H'=upd H p (.tup [x,y])/\(∀xs,bH K H a xs->xs[i]?=some x)/\∀ys,bH K H b ys->ys[i]?=some y,
  λi H=>∃xs ys,bH K H a xs/\bH K H b ys/\(xs.length≤i∨ys.length≤i)⟩
def LG(z TI TO i1 i2 a b:Addr)(i:Nat)(h:MA):Prop:=IsZip h z TI TO .none/\IsPair h TI (.ref i1) (.ref i2)/\(∃u v,IsPair h TO u v)/\h.IsTupleIter i1 a i/\h.IsTupleIter i2 b i
theorem i3{h h':MA}(x:h.IsTupleIter i a n)(k:∀o,h.get? i=some o->h'.get? i=some o):h'.IsTupleIter i a n:=let ⟨o,e,r⟩:=x;⟨o,k o e,r⟩
theorem xh{h h':MA}(x:h.IsTuple a ys)(k:∀o,h.get? a=some o->h'.get? a=some o):h'.IsTuple a ys:=let ⟨o,e,r⟩:=x;⟨o,k o e,r⟩
abbrev zA(h:MA)(a:Addr):MA:=h.push { cls:=.type "tuple_iterator",data:=.fields #[.ref a,.int 0 0]}
abbrev zB(h:MA)(a b:Addr):MA:=zA (zA h a) b
abbrev zC(h:MA)(a b:Addr):MA:=(zB h a b).push { cls:=.type "tuple",data:=.seq #[.ref h.objs.size,.ref (zA h a).objs.size]}
abbrev zD(h:MA)(a b:Addr):MA:=(zC h a b).push { cls:=.type "tuple",data:=.seq #[.none,.none]}
abbrev zE(h:MA)(a b:Addr):MA:=(zD h a b).push { cls:=.type "zip",data:=.fields #[.none,.bool false,.bool false,.ref (zB h a b).objs.size,.ref (zC h a b).objs.size]}
def K4(K:Fg)(ta:TA):TI:=λσ H R=>ta σ H λvs H1=>∃a b,vs=[.ref a,.ref b]/\(∃xs,bH K H1 a xs)/\(∃ys,bH K H1 b ys)/\R (Lk K a b) H1
theorem wC(hh:A.handled=none)(it a:Addr)(ne:a≠it)(items:Array Value):
  Draws prog w A it [it,a] items.size (λi v=>items[i]?=some v) (λi h=>h.IsTupleIter it a i/\h.IsTuple a items) where
 live:=λ_ _ st=>let ⟨o,ho,_⟩:=st.1;⟨o,ho⟩
 frame:=λ_ _ _ st hk=>⟨i3 st.1 λo e=>hk it (by simp) o e,xh st.2 λo e=>hk a (by simp) o e⟩
 item:=λi s Q E hi st hQ=>by
  have hx:items[i]?=some (items[i]'hi):=Array.getElem?_eq_getElem hi;exact Cd st.1 st.2 hx λh' i' sb=>hQ _ h' s.toks hx ⟨i',xh st.2 λo e=>sb.extBut _ _ ne e⟩ sb
 done:=λs Q E st hE=>Ab hh st.1 st.2 (by simp) hE
theorem wB(a:Addr)(xs:Array Value):Meets (NJ.«enumerate.__new__» ⟨[.type "enumerate",.ref a],[]⟩) (λ_ R s=>s.heap.IsTuple a xs∧
   R (.ok (.ret (.ref (zA s.heap a).objs.size))) { s with heap:=(zA s.heap a).push { cls:=.type "enumerate",data:=.fields #[.none,.bool false,.ref s.heap.objs.size,rawInt 0,.none,.none]} }):=
 .of_wp λprog w A R s h=>by
  obtain⟨hp,g,d,tk,os⟩:=s;obtain⟨hl,h⟩:=h;obtain⟨⟨c,dct,dt,sl⟩,ho,hc,n,hd⟩:=id hl
  replace hc:c=.type "tuple" := hc
  replace hd:dt=.seq xs n:=hd
  subst hc hd;have hsub:=sub_enumerate;have L:MA.IsTuple (LV.heap ⟨hp,g,d,tk,os⟩) a xs:=hl
  wp_walk using On ho
  refine wpAny_stack_any λst=>L1 ?_
  split
  ·rename_i c _ _ _ _ _
   cases(c==Oj "enumerate")
   ·wp_walk using On ho,Ow L
    exact⟨_,Z,h⟩
   ·wp_walk using On ho,Ow L
    exact⟨_,Z,h⟩
  ·wp_walk using On ho,Ow L
   exact⟨_,Z,h⟩
theorem t7{prog:Mo}{w:MD}{A:Mq}{E:c5}{s:LV}{a:Addr}{items:Array Value}{Q:c5}(hL:s.heap.IsTuple a items)
  (h:∀h',IsEnum h' (s.heap.objs.size+1) s.heap.objs.size 0 .none->h'.IsTupleIter s.heap.objs.size a 0->h'.objs.size=s.heap.objs.size+2→ (∀b o,s.heap.get? b=some o->h'.get? b=some o)->Q (.ref (s.heap.objs.size+1)) { s with heap:=h'}) :
  L6 (Ma prog w) A (call (.type "enumerate") [.ref a]) Q E s:=by
 refine callType_new F.called_enumerate (by decide) (F.typeCall_enumerate_1 _) (F.newCall_enumerate_1 _) (λobj=>F.args_object_init_2 obj _) F.entry_enumerate_new
  (wB a items) ⟨hL,?_⟩
 have hz:(zA s.heap a).objs.size=s.heap.objs.size+1:=N4 ..;show _/\_;rw[hz];have he:IsEnum ((zA s.heap a).push { cls:=.type "enumerate",data:=.fields #[.none,.bool false,.ref s.heap.objs.size,rawInt 0,.none,.none]}) (s.heap.objs.size+1) s.heap.objs.size 0 .none:=by
  have:=Mm (zA s.heap a) (o:={ cls:=.type "enumerate",data:=.fields #[.none,.bool false,.ref s.heap.objs.size,rawInt 0,.none,.none]}) Z;rw[hz] at this;exact this
 refine⟨⟨_,he,Z⟩,h _ he ⟨_,LU _ (Mm _ Z),Z,Z⟩ (by rw[N4,hz]) λb o x=>LU _ (LU _ x)⟩
theorem uw{X:Cx}{pins:cy}{σ:L2.St}{H:Hp}{s:LV}{a b:Addr}{xs:List V}(I:Inv X pins σ H s)(h:aS X.K H a xs)(f:fg X pins H b):a≠b:=λz=>by
 subst z;rcases h with(h | ⟨o,h⟩) | ⟨o,its,n,hk,_⟩
 ·rw[f.1] at h;cases h
 ·rw[f.1] at h;cases h
 ·have e:=I.ok.mod.kin a o hk;rcases f.2.2.2.1 with z|z
  ·exact I.ok.noex a o e z
  ·rw[(I.ok.bs a o e).1] at z;cases z
theorem mI{h h':MA}(x:h.IsListIter i a n)(k:∀o,h.get? i=some o->h'.get? i=some o):h'.IsListIter i a n:=x.at k
def wQ(K:Fg)(a:Addr):It:=
 ⟨λi H=>∃xs x,bH K H a xs/\xs[i]?=some x,
  λi H v H'=>∃p x,H p=none/\v=.ref p/\H'=upd H p (.tup [.int i,x])/\∀xs,bH K H a xs->xs[i]?=some x,
  λi H=>∃xs,bH K H a xs/\xs.length≤i⟩
theorem w9{P:Mo}{w:MD}{K:Fg}{elts:List Mu}{x1}{pos:Oo}{e it a:Addr}(hei:e≠it) :
  sg P w K (.Tuple elts x1 pos) (wQ K a) [e,it] e (λi h=>(∃old,IsEnum h e it (i:Nat) old)/\h.IsTupleIter it a i) where
 mem:=by simp
 obj:=λi h st c hc=>by
  obtain⟨⟨old,h1⟩,⟨o2,h2,c2,d2⟩⟩:=st;simp only[LZ,Nq,or_false] at hc;rcases hc with rfl|rfl
  ·exact⟨_,h1,λv q=>by cases(show Qb _=Rj v from q)⟩
  ·exact⟨o2,h2,λv q=>by rw[d2] at q;cases q⟩
 keep:=λi h h' st k=>by
  obtain⟨⟨old,h1⟩,h2⟩:=st;exact⟨⟨old,k e (by simp) _ h1⟩,i3 h2 λo q=>k it (by simp) o q⟩
 item:=by
  intro X hP hw hK hc i pins s σ H E I hf st hg;subst hP hw hK;obtain⟨xs,x,q1,hx⟩:=hg;obtain⟨its,rv,p1,z1⟩:=I.tuple q1;obtain⟨u,hu,ru⟩:=rv.get hx;have off:∀c∈[e,it],a≠c:=λc hc=>uv I q1 (hf c hc)
  obtain⟨⟨old,h1⟩,h2⟩:=st;have hh:X.A.in1.handled=none:=I.ok.hd hc;have na:a≠it:=off it (by simp);have ne:e∉[it,a]:=λq=>by
   simp only[LZ,Nq,or_false] at q;rcases q with q|q
   ·exact hei q
   ·exact off e (by simp) q.symm
  have hi:i<its.toArray.size:=by have:=(LR.mp hu).1;simpa using this
  have el:e<s.heap.objs.size:=Mv h1;have il:it<s.heap.objs.size:=by obtain⟨o2,q2,_⟩:=h2;exact Mv q2
  refine Qt (wC hh it a na its.toArray) h1 ⟨h2,p1⟩ hi hei ne λv h' tk hv eo st' tup hz hk=>⟨_,Z,P4 eo λh'' e2 sb=>?_⟩
  have ev:v=u:=by
   have:its.toArray[i]?=some u:=by simpa using hu
   rw[this] at hv;exact(MB hv).symm
  subst ev;have nt:s.heap.objs.size≠e:=NP el;have ni:s.heap.objs.size≠it:=NP il;have P:ObjOk X.prog X.w (upd H s.heap.objs.size (.tup [.int i,x])) h'' s.heap.objs.size (.tup [.int i,x]):=
   ⟨by show 2≤sizeLine;decide,[.int i tk,v],.cons ⟨_,Z⟩ (.cons ru .nil),⟨_,sb.extBut _ _ nt tup,Z,_,Z⟩⟩
  have I2:Inv X pins σ (upd H s.heap.objs.size (.tup [.int i,x])) { s with heap:=h'',toks:=tk+1}:=oW I (λc o' n q=>by
   have n1:c≠e:=λr=>n (by simp[r])
   have n2:c≠it:=λr=>n (by simp[r])
   exact sb.extBut _ _ n1 (hk c o' n1 n2 q)) hf (LN _) P
  refine⟨.ref s.heap.objs.size,_,I2,Z,⟨_,x,I.fresh,Z,Z,λys hy=>by rw[I.tuple_inj hy q1];exact hx⟩,⟨⟨_,by simpa using e2⟩,i3 st'.1 λo q=>sb.extBut _ _ hei.symm q⟩,λc hc=>?_⟩;have lt:c<s.heap.objs.size:=by
   simp only[LZ,Nq,or_false] at hc;rcases hc with rfl|rfl
   ·exact el
   ·exact il
  rw[aE (Nc lt)];exact(hf c hc).1
 done:=by
  intro X hP hw hK hc i pins s σ H E I hf st hg;subst hP hw hK;obtain⟨xs,q1,hx⟩:=hg;obtain⟨its,rv,p1,z1⟩:=I.tuple q1;have off:∀c∈[e,it],a≠c:=λc hc=>uv I q1 (hf c hc)
  obtain⟨⟨old,h1⟩,h2⟩:=st;have hh:X.A.in1.handled=none:=I.ok.hd hc;have hl:=rv.length;have nn:its.toArray[i]?=none:=by rw[P5];simp;omega
  have hT:s.TypeIs (.ref e) "enumerate" := ⟨_,h1,Z⟩;unfold TN;refine LM (PB (Np (name:=Og "__next__") hT F.slot_enumerate_next (NX F.slot_enumerate_next hT F.entry_enumerate_next ?_ (F.args_enumerate_next_1 _))))
  show L6 _ _ (Ua (.ref e) 2 >>= _) _ _ _;refine LM (ND h1 Z (x:=.ref it) Z ?_);refine LM (Ab hh h2 p1 nn λh' x he' hx'=>?_);obtain⟨o,ho,hcl⟩:=hx';refine LM (Sx (T := "StopIteration") (b:=true) ⟨o,ho,hcl⟩ isSubtype_stop ?_);refine L1 ⟨Z,?_⟩;exact oX (t':=s.toks) I (λc o' n q=>he' c o' (λr=>n (by simp[r])) q) hf
 self:=λA i s Q E st h=>by
  obtain⟨⟨old,h1⟩,_⟩:=st;exact Po h1 h
def HG(K:Fg)(ta:TA):TI:=λσ H R=>ta σ H λvs H1=>∃a,vs=[.ref a]/\(∃xs,bH K H1 a xs)/\R (wQ K a) H1
theorem BW{X:Cx}{elts:List Mu}{x1}{tp p pos:Oo}{a:Mu}{ta:TA}(hg:Gl X "enumerate")(hm:X.mg "enumerate"=none)(ha:PA X [a] ta)(hs:L4 [a] X.env=[(false,eval a X.env)]:=by rfl) :
  PI X (.Tuple elts x1 tp) (.Call (.Name "enumerate" p) [a] [] pos) (HG X.K ta):=by
 intro pins s σ H R I h;refine TY (gj I hg hm (show NG "enumerate"=some (.type "enumerate") by kernel_rfl) (MZ (cA (ha pos pins s σ H _ I h) λus s1 ⟨vs,H1,I1,r1,q1⟩=>?_) hs Z));obtain⟨a,e,⟨xs,hx⟩,q⟩:=q1;subst e;obtain⟨u,rfl,ru⟩:=r1.one
 cases ru
 obtain⟨its,_,p1,_⟩:=I1.tuple hx;refine t7 p1 λh' he hi sz kk=>Po he ?_
 have I2:Inv X pins σ H1 { s1 with heap:=h'}:=I1.kept (t':=s1.toks) kk;refine⟨_,[s1.heap.objs.size+1,s1.heap.objs.size],_,_,H1,rfl,I2,w9 (a:=a) (succ_ne_self _),⟨⟨_,he⟩,hi⟩,λc hc=>?_,q⟩;have le:s1.heap.objs.size≤c:=by
  simp only[LZ,Nq,or_false] at hc;rcases hc with h|h
  ·rw[h];exact OK _
  ·rw[h];exact LN _
 exact I1.fpOk le (I1.hok.fresh le)
theorem Ay{K:Fg}{a:Addr}{xs:List V}{g:TG}{tb:TS}{D:iN}{σ:L2.St}{H:Hp}(Pv:Nat->L2.St->Hp->Prop)(h0:Pv 0 σ H)
  (hl:∀i σ H,i≤xs.length->Pv i σ H->bH K H a xs)
  (hs:∀i x p σ H,xs[i]?=some x->Pv i σ H->H p=none->g (.ref p) σ (upd H p (.tup [.int i,x])) λσ2 H2=>tb { D with nx:=Pv (i+1),ct:=Pv (i+1),bk:=D.nx} σ2 H2) (hd:∀σ H,Pv xs.length σ H->D.nx σ H) :
  ∃W:Nat->Nat->L2.St->Hp->Prop,(∃m,W 0 m σ H)/\∀i m σ H,W i m σ H→
   ((wQ K a).stop i H/\D.nx σ H)∨((wQ K a).go i H/\∃N:L2.St->Hp->Prop,(∀σ' H',N σ' H'->∃m',m'<m/\W (i+1) m' σ' H')/\∀x H',(wQ K a).yld i H x H'->g x σ H' λσ2 H2=>tb { D with nx:=N,ct:=N,bk:=D.nx} σ2 H2):=by
 refine⟨λi m σ H=>m=xs.length-i/\i≤xs.length/\Pv i σ H,⟨_,Z,Mx _,h0⟩,?_⟩;rintro i m σ H ⟨rfl,hi,p⟩;have q:=hl i σ H hi p;by_cases hlt:i<xs.length
 ·refine .inr ⟨⟨xs,_,q,LL hlt⟩,Pv (i+1),λσ' H' p'=>⟨xs.length-(i+1),by omega,Z,hlt,p'⟩,λx H' y=>?_⟩;obtain⟨pp,v,hp,rfl,rfl,hv⟩:=y;exact hs i v pp σ _ (hv xs q) p hp
 ·have e:i=xs.length:=by omega
  subst e;exact .inl ⟨⟨xs,q,LN _⟩,hd σ H p⟩
def wR(K:Fg)(a:Addr):It:=
 ⟨λi H=>∃xs x,aS K H a xs/\xs[i]?=some x,
  λi H v H'=>∃p x,H p=none/\v=.ref p/\H'=upd H p (.tup [.int i,x])/\∀xs,aS K H a xs->xs[i]?=some x,
  λi H=>∃xs,aS K H a xs/\xs.length≤i⟩
theorem xc{P:Mo}{w:MD}{K:Fg}{elts:List Mu}{x1}{pos:Oo}{e it a:Addr}(hei:e≠it) :
  sg P w K (.Tuple elts x1 pos) (wR K a) [e,it] e (λi h=>(∃old,IsEnum h e it (i:Nat) old)/\h.IsListIter it a i) where
 mem:=by simp
 obj:=λi h st c hc=>by
  obtain⟨⟨old,h1⟩,⟨o2,h2,c2,d2⟩⟩:=st;simp only[LZ,Nq,or_false] at hc;rcases hc with rfl|rfl
  ·exact⟨_,h1,λv q=>by cases(show Qb _=Rj v from q)⟩
  ·exact⟨o2,h2,λv q=>by rw[d2] at q;cases q⟩
 keep:=λi h h' st k=>by
  obtain⟨⟨old,h1⟩,h2⟩:=st;exact⟨⟨old,k e (by simp) _ h1⟩,mI h2 λo q=>k it (by simp) o q⟩
 item:=by
  intro X hP hw hK hc i pins s σ H E I hf st hg;subst hP hw hK;obtain⟨xs,x,q1,hx⟩:=hg;obtain⟨its,rv,p1,z1⟩:=I.list q1;obtain⟨u,hu,ru⟩:=rv.get hx;have off:∀c∈[e,it],a≠c:=λc hc=>uw I q1 (hf c hc)
  obtain⟨⟨old,h1⟩,h2⟩:=st;have hh:X.A.in1.handled=none:=I.ok.hd hc;have na:a≠it:=off it (by simp);have ne:e∉[it,a]:=λq=>by
   simp only[LZ,Nq,or_false] at q;rcases q with q|q
   ·exact hei q
   ·exact off e (by simp) q.symm
  have hi:i<its.toArray.size:=by have:=(LR.mp hu).1;simpa using this
  have el:e<s.heap.objs.size:=Mv h1;have il:it<s.heap.objs.size:=by obtain⟨o2,q2,_⟩:=h2;exact Mv q2
  refine Qt (Draws.list hh it a na its.toArray) h1 ⟨h2,p1.isList⟩ hi hei ne λv h' tk hv eo st' tup hz hk=>⟨_,Z,P4 eo λh'' e2 sb=>?_⟩
  have ev:v=u:=by
   have:its.toArray[i]?=some u:=by simpa using hu
   rw[this] at hv;exact(MB hv).symm
  subst ev;have nt:s.heap.objs.size≠e:=NP el;have ni:s.heap.objs.size≠it:=NP il;have P:ObjOk X.prog X.w (upd H s.heap.objs.size (.tup [.int i,x])) h'' s.heap.objs.size (.tup [.int i,x]):=
   ⟨by show 2≤sizeLine;decide,[.int i tk,v],.cons ⟨_,Z⟩ (.cons ru .nil),⟨_,sb.extBut _ _ nt tup,Z,_,Z⟩⟩
  have I2:Inv X pins σ (upd H s.heap.objs.size (.tup [.int i,x])) { s with heap:=h'',toks:=tk+1}:=oW I (λc o' n q=>by
   have n1:c≠e:=λr=>n (by simp[r])
   have n2:c≠it:=λr=>n (by simp[r])
   exact sb.extBut _ _ n1 (hk c o' n1 n2 q)) hf (LN _) P
  refine⟨.ref s.heap.objs.size,_,I2,Z,⟨_,x,I.fresh,Z,Z,λys hy=>by rw[I.list_inj hy q1];exact hx⟩,⟨⟨_,by simpa using e2⟩,mI st'.1 λo q=>sb.extBut _ _ hei.symm q⟩,λc hc=>?_⟩;have lt:c<s.heap.objs.size:=by
   simp only[LZ,Nq,or_false] at hc;rcases hc with rfl|rfl
   ·exact el
   ·exact il
  rw[aE (Nc lt)];exact(hf c hc).1
 done:=by
  intro X hP hw hK hc i pins s σ H E I hf st hg;subst hP hw hK;obtain⟨xs,q1,hx⟩:=hg;obtain⟨its,rv,p1,z1⟩:=I.list q1;have off:∀c∈[e,it],a≠c:=λc hc=>uw I q1 (hf c hc)
  obtain⟨⟨old,h1⟩,h2⟩:=st;have hh:X.A.in1.handled=none:=I.ok.hd hc;have hl:=rv.length;have nn:its.toArray[i]?=none:=by rw[P5];simp;omega
  have hT:s.TypeIs (.ref e) "enumerate" := ⟨_,h1,Z⟩;unfold TN;refine LM (PB (Np (name:=Og "__next__") hT F.slot_enumerate_next (NX F.slot_enumerate_next hT F.entry_enumerate_next ?_ (F.args_enumerate_next_1 _))))
  show L6 _ _ (Ua (.ref e) 2 >>= _) _ _ _;refine LM (ND h1 Z (x:=.ref it) Z ?_);refine LM (wpAny_nextOf_list_end hh h2 p1.isList nn λh' x he' hx'=>?_);obtain⟨o,ho,hcl⟩:=hx';refine LM (Sx (T := "StopIteration") (b:=true) ⟨o,ho,hcl⟩ isSubtype_stop ?_);refine L1 ⟨Z,?_⟩;exact oX (t':=s.toks) I (λc o' n q=>he' c o' (λr=>n (by simp[r])) q) hf
 self:=λA i s Q E st h=>by
  obtain⟨⟨old,h1⟩,_⟩:=st;exact Po h1 h
def HJ(K:Fg)(ta:TA):TI:=λσ H R=>ta σ H λvs H1=>∃a,vs=[.ref a]/\(∃xs,aS K H1 a xs)/\R (wR K a) H1
theorem zH{X:Cx}{elts:List Mu}{x1}{tp p pos:Oo}{a:Mu}{ta:TA}(hg:Gl X "enumerate")(hm:X.mg "enumerate"=none)(ha:PA X [a] ta)(hs:L4 [a] X.env=[(false,eval a X.env)]:=by rfl) :
  PI X (.Tuple elts x1 tp) (.Call (.Name "enumerate" p) [a] [] pos) (HJ X.K ta):=by
 intro pins s σ H R I h;refine TY (gj I hg hm (show NG "enumerate"=some (.type "enumerate") by kernel_rfl) (MZ (cA (ha pos pins s σ H _ I h) λus s1 ⟨vs,H1,I1,r1,q1⟩=>?_) hs Z));obtain⟨a,e,⟨xs,hx⟩,q⟩:=q1;subst e;obtain⟨u,rfl,ru⟩:=r1.one
 cases ru
 obtain⟨its,_,p1,_⟩:=I1.list hx;refine call_enumerate_list p1.isList λh' he hi sz kk=>Po he ?_
 have I2:Inv X pins σ H1 { s1 with heap:=h'}:=I1.kept (t':=s1.toks) kk;refine⟨_,[s1.heap.objs.size+1,s1.heap.objs.size],_,_,H1,rfl,I2,xc (a:=a) (succ_ne_self _),⟨⟨_,he⟩,hi⟩,λc hc=>?_,q⟩;have le:s1.heap.objs.size≤c:=by
  simp only[LZ,Nq,or_false] at hc;rcases hc with h|h
  ·rw[h];exact OK _
  ·rw[h];exact LN _
 exact I1.fpOk le (I1.hok.fresh le)
theorem wz{K:Fg}{a:Addr}{xs:List V}{g:TG}{tb:TS}{D:iN}{σ:L2.St}{H:Hp}(Pv:Nat->L2.St->Hp->Prop)(h0:Pv 0 σ H)
  (hl:∀i σ H,i≤xs.length->Pv i σ H->aS K H a xs)
  (hs:∀i x p σ H,xs[i]?=some x->Pv i σ H->H p=none->g (.ref p) σ (upd H p (.tup [.int i,x])) λσ2 H2=>tb { D with nx:=Pv (i+1),ct:=Pv (i+1),bk:=D.nx} σ2 H2) (hd:∀σ H,Pv xs.length σ H->D.nx σ H) :
  ∃W:Nat->Nat->L2.St->Hp->Prop,(∃m,W 0 m σ H)/\∀i m σ H,W i m σ H→
   ((wR K a).stop i H/\D.nx σ H)∨((wR K a).go i H/\∃N:L2.St->Hp->Prop,(∀σ' H',N σ' H'->∃m',m'<m/\W (i+1) m' σ' H')/\∀x H',(wR K a).yld i H x H'->g x σ H' λσ2 H2=>tb { D with nx:=N,ct:=N,bk:=D.nx} σ2 H2):=by
 refine⟨λi m σ H=>m=xs.length-i/\i≤xs.length/\Pv i σ H,⟨_,Z,Mx _,h0⟩,?_⟩;rintro i m σ H ⟨rfl,hi,p⟩;have q:=hl i σ H hi p;by_cases hlt:i<xs.length
 ·refine .inr ⟨⟨xs,_,q,LL hlt⟩,Pv (i+1),λσ' H' p'=>⟨xs.length-(i+1),by omega,Z,hlt,p'⟩,λx H' y=>?_⟩;obtain⟨pp,v,hp,rfl,rfl,hv⟩:=y;exact hs i v pp σ _ (hv xs q) p hp
 ·have e:i=xs.length:=by omega
  subst e;exact .inl ⟨⟨xs,q,LN _⟩,hd σ H p⟩
section
variable {prog:Mo}{w:MD}{A:Mq}{E:c5}
end
def K5(K:Fg)(n:Nat)(t:wN):TG:=λv σ H Q=>∃a xs,v=.ref a/\aS K H a xs/\xs.length=n/\t xs σ H Q
section
variable {prog:Mo}{w:MD}{A:Mq}{E:c5}{s:LV}
open HT in
theorem qC{t sl:Addr}{items:Array Value}{vl vu:Value}{lo hi:Option Int}{Q:c5}(ht:R1 s.heap t items)(hs:s.heap.IsSliceOf sl vl vu .none)(pl:QJ vl lo)(pu:QJ vu hi)
  (h1:sIx items.size 0 lo=0) (h2:sIx items.size items.size hi=items.size) (h:Q (.ref t) s):L6 (Ma prog w) A (PN (.ref t) (.ref sl)) Q E s:=by
 obtain⟨os,hos,hcs,hds⟩:=id hs;have hTs:s.TypeIs (.ref sl) "slice" := ⟨os,hos,hcs⟩;unfold PN
 try with_reducible refine wpAny_holding ?_
 first|refine LM (L1 ?_)|skip
 refine LM (R8 ht.typeIs (by decide) ?_);refine LM (Np (name:=Og "__getitem__") ht.typeIs M0 (NX M0 ht.typeIs Rr ?_ (RP _ _)))
 show L6 _ _ (tupleItemsOf (.ref t) >>= _) _ _ s;refine LM (tupleItemsOf_ ht ?_);refine LM (QK hTs ?_);rw[if_pos (by decide)];refine LM (gu hs pl pu ?_);have hyes:((((sIx items.size 0 lo:Nat):Int)==0&&(1:Int)==1&&(sIx items.size items.size hi-sIx items.size 0 lo)==items.size)=true):=by
  rw[h1,h2];simp
 show L6 _ _ (if(((sIx items.size 0 lo:Nat):Int)==0&&(1:Int)==1&&(sIx items.size items.size hi-sIx items.size 0 lo)==items.size)=true then _ else _) _ _ s;rw[if_pos hyes];refine LM ?_;unfold tupleIsExact;refine LM (QK ht.typeIs ?_);refine L1 ?_;rw[if_pos (by decide)];exact LM (RJ (L1 ⟨_,Z,L1 h⟩))
end
def GT(K:Fg):V->Option Int->Option Int->Hp->VK->Prop:=λx lo hi H Q=>∃a xs,x=.ref a/\bH K H a xs/\HT.sIx xs.length 0 lo=0/\HT.sIx xs.length xs.length hi=xs.length/\Q (.ref a) H
theorem Bo:wV X (GT X.K):=by
 intro pins s σ H x v vl vu lo hi sl Q I rx hs pl pu h;obtain⟨a,xs,rfl,hx,h1,h2,q⟩:=h
 cases rx
 obtain⟨its,r,ht,hz⟩:=I.tuple hx;have hlen:its.toArray.size=xs.length:=by rw[Mz];exact r.length.symm
 refine⟨"tuple",_,M0.lookup,ht.typeIs,?_⟩;exact qC ht hs pl pu (by rw[hlen];exact h1) (by rw[hlen];exact h2) ⟨.ref a,H,I,Z,q⟩
theorem Bp:wV X (λx lo hi H Q=>GT X.K x lo hi H Q∨GU X.K x lo hi H Q):=wV.or Bo DH
end B
namespace B
theorem FC(hb:0<b)(hd:0<d)(e:a*d=c*b):eZ a b=eZ c d:=by
 have hr:=jD (a:=c) hd;have hc:=ol (a:=c) hd;generalize eZ c d=m at hr hc ⊢;refine fL hb hr.pos hr.cop ?_;refine Oz (show d≠0 by omega) ?_;have e1:m.1*b*d=m.1*d*b:=by ac_rfl
 have e2:a*m.2*d=a*d*m.2:=by ac_rfl
 rw[e1,hc,e2,e]
 ac_rfl
structure Bq(D N:Nat)(r:R):Prop where
 pos:0<r.2
 cop:Int.gcd r.1 r.2=1
 dvd:r.2∣(D:Int)
 le:r.1.natAbs≤N*r.2.natAbs
theorem Bq.red(h:Bq D N r):kr r:=⟨h.pos,h.cop⟩
theorem Do{D N:Nat}{a b:Int}(hb:0<b)(hd:b∣(D:Int))(hl:a.natAbs≤N*b.natAbs):Bq D N (eZ a b):=by
 obtain⟨g,x,y,e0,gp,e1,e2,c⟩:=fE (a:=a) hb;have yp:=jb hb gp e2;have e:eZ a b=(x,y):=by
  unfold eZ;rw[e0,show a/g=x by rw[e1];exact Mt _ (by omega),show b/g=y by rw[e2];exact Mt _ (by omega)]
 rw[e];refine⟨yp,c,Ro ⟨g,by rw[e2,Int.mul_comm]⟩ hd,?_⟩;rw[e1,e2,OQ,OQ] at hl;have gn:0<g.natAbs:=by omega
 refine le_of_mul_le_mul_left (c:=g.natAbs) ?_ gn;show g.natAbs*x.natAbs≤g.natAbs*(N*y.natAbs);rw[Nat.mul_left_comm];exact hl
theorem Bq.mono(h:Bq D N r)(hd:D∣D')(hn:N≤N'):Bq D' N' r:=
 ⟨h.pos,h.cop,Ro h.dvd (Int.ofNat_dvd.mpr hd),MG h.le (Py _ hn)⟩
theorem Bq.plus(hD:0<D)(h:Bq D N r)(k:Bq D M q):Bq D (N+M) (bo r q):=by
 obtain⟨y,ey⟩:=h.dvd;obtain⟨v,ev⟩:=k.dvd;have dp:(0:Int)<(D:Int):=by omega
 have e:bo r q=eZ (r.1*y+q.1*v) (D:Int):=by
  unfold bo;refine FC (N9 h.pos k.pos) dp ?_;rw[Int.add_mul,Int.add_mul];have a1:r.1*q.2*(D:Int)=r.1*y*(r.2*q.2):=by rw[ey];ac_rfl
  have a2:q.1*r.2*(D:Int)=q.1*v*(r.2*q.2):=by rw[ev];ac_rfl
  rw[a1,a2]
 rw[e];refine Do dp (Int.dvd_refl _) ?_;have b1:(r.1*y).natAbs≤N*D:=by
  have:(D:Int).natAbs=r.2.natAbs*y.natAbs:=by rw[ey,OQ]
  rw[OQ];have z:=Py y.natAbs h.le;rw[Tu,←this] at z
  simpa using z
 have b2:(q.1*v).natAbs≤M*D:=by
  have:(D:Int).natAbs=q.2.natAbs*v.natAbs:=by rw[ev,OQ]
  rw[OQ];have z:=Py v.natAbs k.le;rw[Tu,←this] at z
  simpa using z
 have b3:=natAbs_add_le (r.1*y) (q.1*v);have b4:(D:Int).natAbs=D:=P6 D;rw[b4,SL];omega
theorem Bq.neg(h:Bq D N r):Bq D N (-r.1,r.2):=⟨h.pos,by show Int.gcd (-r.1) r.2=1;rw[neg_gcd];exact h.cop,h.dvd,by show(-r.1).natAbs≤_;rw[Tk];exact h.le⟩
theorem Bq.minus(hD:0<D)(h:Bq D N r)(k:Bq D M q):Bq D (N+M) (cI r q):=by
 rw[←jE];exact h.plus hD k.neg
theorem Bq.times(h:Bq D N r)(k:Bq E M q):Bq (D*E) (N*M) (f8 r q):=by
 refine Do (N9 h.pos k.pos) ?_ ?_
 ·rw[Q7];exact mul_dvd_mul h.dvd k.dvd
 ·rw[OQ,OQ];have z:=Nat.mul_le_mul h.le k.le
  calc r.1.natAbs*q.1.natAbs≤N*r.2.natAbs*(M*q.2.natAbs):=z
   _=N*M*(r.2.natAbs*q.2.natAbs):=by ac_rfl
theorem Bq.bot(hD:0<D)(h:Bq D N r):r.2.natAbs≤D:=by
 have:=Int.natAbs_dvd_natAbs.mpr h.dvd;rw[P6] at this;exact RE hD this
theorem Bq.wf(h:Bq D N r)(hD:0<D)(h1:D<2^n)(h2:N*D<2^n):Wf n r:=
 ⟨h.pos,Nx (MG h.le (OB _ (h.bot hD))) h2,Nx (h.bot hD) h1,h.cop⟩
theorem rG:cX r q=true↔r.1*q.2<q.1*r.2:=by unfold cX;exact decide_eq_true_iff
theorem mL:cX r q=false↔q.1*r.2≤r.1*q.2:=by unfold cX;rw[decide_eq_false_iff_not,not_lt]
theorem wc(h:cX a b=true):cX b a=false:=by
 rw[rG] at h;rw[mL];omega
theorem Ag(ha:0≤a):0≤(eZ a b).1:=Pg ha (by omega)
theorem BR(hr:kr r)(hq:kr q)(h1:0≤r.1)(h2:0≤q.1):0≤(bo r q).1:=
 Ag (add_nonneg (Tl h1 (Int.le_of_lt hq.pos)) (Tl h2 (Int.le_of_lt hr.pos)))
end B
namespace B
open PySem PySem.Spec L2 PyProof.Rows
inductive Rl where
 |pow (k:Int)
 |tab (rows:List (R×R))
def sY:R×R:=((0,1),(0,1))
def DG(lo hi:R×R):R:=Hg (cI hi.2 lo.2) (cI hi.1 lo.1)
def Iy(rows:List (R×R))(k:Nat):R:=DG (rows.getD k sY) (rows.getD (k+1) sY)
def Hf(rows:List (R×R))(s:R):Nat:=rows.countP λr=>cX r.1 s
def G3(rows:List (R×R))(s:R):Nat:=rows.countP λr=>!cX s r.1
def Hw(rows:List (R×R))(s:R):R:=if Hf rows s=0 then(0,1) else Iy rows (Hf rows s-1)
def Ek(rows:List (R×R))(s:R):Option R:=if G3 rows s<rows.length then some (Iy rows (G3 rows s-1)) else none
def G6(k:Int)(s:R):R:=f8 (k,1) (G7 s (k-1).toNat)
def Iz:Rl->R->R×Option R
 | .pow k,s=>(G6 k s,some (G6 k s))
 | .tab rows,s=>(Hw rows s,Ek rows s)
def Ll(rows:List (R×R)):Prop:=rows.Pairwise λa b=>cX a.1 b.1=true
def Lu(rows:List (R×R)):Prop:=∀r∈rows,0<r.1.2
abbrev D0:Nat:=5822723907000000000
abbrev N0:Nat:=1000000007
abbrev N1:Nat:=17179869184
abbrev NR:Nat:=11000000077
abbrev N2:Nat:=1180591620717411303424
structure Gg(rows:List (R×R)):Prop where
 n2:2≤rows.length
 n12:rows.length≤12
 inc:Ll rows
 zero:∃y,rows[0]?=some ((0,1),y)
 sp:∀r∈rows,Bq D0 NR r.1
 pw:∀r∈rows,Bq (D0*D0) N2 r.2
def Le:Rl->Prop
 | .pow k=>2≤k/\k≤4
 | .tab rows=>Gg rows
structure Lb(s:R):Prop where
 bq:Bq (D0*2) N1 s
 nn:0≤s.1
def Kq:Rl->R->Prop
 | .pow _,_=>True
 | .tab rows,s=>∃r,rows[rows.length-1]?=some r/\cX r.1 s=false
def LE(rows:List (R×R))(s:R)(i:Nat):R:=if 0<Hf rows s/\Hf rows s-1<i then Iy rows (Hf rows s-1) else(0,1)
def LD(rows:List (R×R))(s:R)(i:Nat):Option R:=if 0<G3 rows s/\G3 rows s-1<i then some (Iy rows (G3 rows s-1)) else none
def Ka(k:Int)(s:R)(j:Nat):R:=eZ (k*s.1^j) (s.2^j)
def Ki(l:R)(r:Option R)(g:R):Bool:=!cX g l&&(match r with|none=>true|some x=>!cX x g)
end B
namespace B
def val(r:R):Rat:=(r.1:Rat)/(r.2:Rat)
theorem dD{b:Int}(h:0<b):(b:Rat)≠0:=λz=>by
 have:b=0:=QU.mp (by rw[z];rfl);omega
theorem Dv{r:R}{a b:Int}(hr:0<r.2)(hb:(b:Rat)≠0)(h:r.1*b=a*r.2):val r=(a:Rat)/(b:Rat):=by
 have h2:(r.1:Rat)*(b:Rat)=(a:Rat)*(r.2:Rat):=by rw[←MF,←MF,h]
 have h1:=dD hr;unfold val;generalize (r.1:Rat)=x at *;generalize (r.2:Rat)=y at *;generalize (a:Rat)=u at *;generalize (b:Rat)=v at *;grind
theorem lF(hb:0<b):val (eZ a b)=(a:Rat)/(b:Rat):=Dv (jD hb).pos (dD hb) (ol hb)
theorem jo(hr:0<r.2)(hq:0<q.2):val (bo r q)=val r+val q:=by
 unfold bo;rw[lF (N9 hr hq)];have h1:=dD hr;have h2:=dD hq;unfold val;rw[QV,MF,MF,MF];generalize (r.1:Rat)=x at *;generalize (r.2:Rat)=y at *;generalize (q.1:Rat)=u at *;generalize (q.2:Rat)=v at *;grind
theorem gq(hr:0<r.2)(hq:0<q.2):val (cI r q)=val r-val q:=by
 unfold cI;rw[lF (N9 hr hq)];have h1:=dD hr;have h2:=dD hq;unfold val;rw[Rat.intCast_sub,MF,MF,MF];generalize (r.1:Rat)=x at *;generalize (r.2:Rat)=y at *;generalize (q.1:Rat)=u at *;generalize (q.2:Rat)=v at *;grind
theorem vt(hr:0<r.2)(hq:0<q.2):val (f8 r q)=val r*val q:=by
 unfold f8;rw[lF (N9 hr hq)];have h1:=dD hr;have h2:=dD hq;unfold val;rw[MF,MF];generalize (r.1:Rat)=x at *;generalize (r.2:Rat)=y at *;generalize (q.1:Rat)=u at *;generalize (q.2:Rat)=v at *;grind
theorem iu(hr:kr r)(hq:kr q)(h:val r=val q):r=q:=by
 have h1:=dD hr.pos;have h2:=dD hq.pos;have e:r.1*q.2=q.1*r.2:=by
  refine QU.mp ?_;rw[MF,MF];unfold val at h;generalize (r.1:Rat)=x at *;generalize (r.2:Rat)=y at *;generalize (q.1:Rat)=u at *;generalize (q.2:Rat)=v at *;grind
 have e1:eZ r.1 r.2=(r.1,r.2):=fL hr.pos hr.pos hr.cop Z;have e2:eZ r.1 r.2=(q.1,q.2):=fL hr.pos hq.pos hq.cop e.symm;exact e1.symm.trans e2
theorem lE(hr:0<r.2):val r=0↔r.1=0:=by
 have h1:=dD hr;unfold val;constructor
 ·intro h;refine QU.mp ?_;show(r.1:Rat)=((0:Int):Rat);rw[show((0:Int):Rat)=0 from Z];generalize (r.1:Rat)=x at *;generalize (r.2:Rat)=y at *;grind
 ·intro h;rw[h];show((0:Int):Rat)/_=0;rw[show((0:Int):Rat)=0 from Z];generalize (r.2:Rat)=y at *;grind
end B
namespace B
def LA(rows:List (R×R))(i:Nat):Rat:=(val (rows.getD (i+1) sY).2-val (rows.getD i sY).2)/(val (rows.getD (i+1) sY).1-val (rows.getD i sY).1)
section
variable {s p:Nat->Rat}{n:Nat}
def sl(s p:Nat->Rat)(i:Nat):Rat:=(p (i+1)-p i)/(s (i+1)-s i)
end
end B
namespace B
open PySem PySem.Spec L2 PyProof.Rows
structure QE(X:Cx)(e:Mu)(t:TE):Prop where
 p:PE X e t
structure QT(X:Cx)(e:Mu)(t:TT):Prop where
 p:PT X e t
structure QW(X:Cx)(e:Mu)(t:TT):Prop where
 p:PW X e t
structure QA(X:Cx)(es:List Mu)(t:TA):Prop where
 p:PA X es t
structure QS(X:Cx)(st:Stmt)(t:TS):Prop where
 p:PS X st t
structure dI(X:Cx)(st:List Stmt)(t:TS):Prop where
 p:oP X st t
structure QI(X:Cx)(tg iter:Mu)(wi:TI):Prop where
 p:PI X tg iter wi
structure QG(X:Cx)(target:Mu)(t:TG):Prop where
 p:PG X target t
structure Ig(X:Cx)(ts:List Mu)(t:wN):Prop where
 p:Gy X ts t
theorem dI.ok(h:dI X b t)(r:t D σ H):∃t:TS,oP X b t/\t D σ H:=⟨t,h.p,r⟩
structure QO(X:Cx)(o:Option Mu)(t:L2.TO):Prop where
 p:PO X o t
section
set_option autoImplicit true
set_option relaxedAutoImplicit true
theorem qv(i:Nat){x:Mj}{pos:Oo}(hN:X.N[i]?=some x:=by rfl)(hv:HY X.env.scope x:=by first|exact L8 Z|exact L7 (L8 Z)|exact L7 (L7 Z))(hd:(x==("__debug__" : Mj))=false:=by decide)(hcd:(x==("__classdict__" : Mj))=false:=by decide):QE X (.Name x pos) (Dz i):=⟨pv i hN hv hd hcd⟩
theorem ai{i j pos}:QE X (.Constant (.int i) j pos) (tC (.int i)):=⟨EM ⟩
theorem dM{b j pos}:QE X (.Constant (.bool b) j pos) (tC (.bl b)):=⟨He ⟩
theorem gf{j pos}:QE X (.Constant .none j pos) (tC .non):=⟨EK ⟩
theorem cU{x:Mj}{v:V}{u:Value}{pos:Oo}(hg:Gl X x)(hm:X.mg x=some u)(r:bv v u)(hd:(x==("__debug__" : Mj))=false:=by decide):QE X (.Name x pos) (tC v):=⟨B2 hg hm r hd⟩
theorem bE{x:Mj}{v:V}{u:Value}{pos:Oo}(hg:Gl X x)(hm:X.mg x=none)(hv:NG x=some u)(r:bv v u)(hn:x ≠ "__name__" := by decide)(hd:(x==("__debug__" : Mj))=false:=by decide):QE X (.Name x pos) (tC v):=⟨B6 hg hm hv r hn hd⟩
theorem iQ(ho:IJ X (unaryOp op) r)(ha:QE X a ta):QE X (.UnaryOp op a pos) (JK r ta):=⟨G9 ho ha.p⟩
theorem zg(ha:QE X a ta):QE X (.UnaryOp .Not a pos) (CY ta):=⟨EJ ha.p⟩
theorem aN(ho:gk X (OA op) r)(ha:QE X a ta)(hb:QE X b tb):QE X (.BinOp a op b pos) (Bf r ta tb):=⟨Hb ho ha.p hb.p⟩
theorem kf{op}(h:QE X a t):QE X (.BoolOp op [a] pos) t:=⟨EI h.p⟩
theorem ib{cV:List Mu}(ha:QE X a ta)(hb:QE X (.BoolOp .And (b::cV) pos) tb):QE X (.BoolOp .And (a::b::cV) pos) (C4 ta tb):=⟨EO ha.p hb.p⟩
theorem eB(ho:gk X (ML op) r)(ha:QE X a ta)(hb:QE X b tb)(hm:O2 op b=false):QE X (.Compare a [op] [b] pos) (Bf r ta tb):=⟨B4 ho ha.p hb.p hm⟩
theorem rh{op op':SX}{r r':R2}(ho:gk X (ML op) r)(ho':gk X (ML op') r')(ha:QE X a ta)(hb:QE X b tb)(hc:QE X c tc)(hm:Sr [op,op'] [b,c]=false:=by with_unfolding_all rfl):QE X (.Compare a [op,op'] [b,c] pos) (oY r r' ta tb tc):=⟨zR ho ho' ha.p hb.p hc.p hm⟩
theorem mj(hc:QT X c tA)(ha:QE X a ta)(hb:QE X b tb):QE X (.IfExp c a b pos) (JT tA ta tb):=⟨zO hc.p ha.p hb.p⟩
theorem bM(h:QA X es t):QE X (.List es pos) (GI t):=⟨EL h.p⟩
theorem bB{x1}(h:QA X es t):QE X (.Tuple es x1 pos) (GD t):=⟨EH h.p⟩
theorem mh{lo hi:Option Mu}{r:V->Option Int->Option Int->Hp->VK->Prop}(hr:wV X r)(he:QE X e te)(hl:QO X lo tl)(hu:QO X hi th):QE X (.Subscript e (.Slice lo hi none p2) pos) (JM r te tl th):=⟨zM hr he.p hl.p hu.p⟩
theorem BC   : QO X none uq:=⟨BQ ⟩
theorem jz(h:QE X e te):QO X (some e) (CW te):=⟨BP h.p⟩
theorem aZ(hr:Gk X r)(ha:QE X a ta)(hb:QE X b tb)(hs:ql b):QE X (.Subscript a b pos) (Bf r ta tb):=⟨Hc hr ha.p hb.p hs⟩
theorem fU(F:bD X.prog X.w X.K X.mg X.base CX k f fd ps sp)(hr:cZ k X.A)(hg:Gl X x)(hm:X.mg x=some (.ref f))(hk:PySem.W.keepIn X.K (.ref f)=true)(hb:aV X.K fd ps ds)(hd:bj dvs ds)(hx:gX CX X E)(ha:QA X (e::es) t)(hdb:(x==("__debug__" : Mj))=false:=by decide)(he:L4 (e::es) X.env=(false,eval e X.env)::L4 es X.env:=by rfl)(hpl:(Ol pos (L4 es X.env)).any (·.1)=false:=by rfl):QE X (.Call (.Name x p) (e::es) [] pos) (qD sp dvs E t):=⟨B5 F hr hg hm hk hb hd hx ha.p hdb he hpl⟩
theorem ap{id:String}(hc:dX X (.builtin id) r)(hg:Gl X x)(hm:X.mg x=none)(hv:NG x=some (.builtin id))(ha:QA X (e::es) t)(hn:x ≠ "__name__" := by decide)(hdb:(x==("__debug__" : Mj))=false:=by decide)(he:L4 (e::es) X.env=(false,eval e X.env)::L4 es X.env:=by rfl)(hpl:(Ol pos (L4 es X.env)).any (·.1)=false:=by rfl):QE X (.Call (.Name x p) (e::es) [] pos) (Ir r t):=⟨zT hc hg hm hv ha.p hn hdb he hpl⟩
theorem bJ(hc:dX X (.type T) r)(hg:Gl X x)(hm:X.mg x=none)(hv:NG x=some (.type T))(ha:QA X (e::es) t)(hn:x ≠ "__name__" := by decide)(hdb:(x==("__debug__" : Mj))=false:=by decide)(he:L4 (e::es) X.env=(false,eval e X.env)::L4 es X.env:=by rfl)(hpl:(Ol pos (L4 es X.env)).any (·.1)=false:=by rfl):QE X (.Call (.Name x p) (e::es) [] pos) (Ir r t):=⟨v3 hc hg hm hv ha.p hn hdb he hpl⟩
theorem fw{id:String}(pa:RQ T)(slot:Slot T name id)(hty:TU (.builtin id)=Nt (.type "method_descriptor"))(hm:IN X id r)(ho:QE X o to)(ha:QA X (e::es) t)(hbase:Nu o name X.env (eval o X.env)=eval o X.env:=by rfl) (hfew:((Ol cpos (L4 (e::es) X.env)).all (λx=>!x.1)&&(R7 cpos (Qd [] X.env)).all (λx=>x.1.isSome)
  &&decide ((e::es).length+([]:List PP).length+(if([]:List PP).isEmpty then 0 else 1)<30))=true:=by rfl) (hline:(apos.endLine==cpos.line)=true:=by rfl) (hs:L4 (e::es) X.env=(false,eval e X.env)::L4 es X.env:=by rfl) (hplain:(Ol cpos (L4 es X.env)).any (·.1)=false:=by rfl):QE X (.Call (.Attribute o name apos) (e::es) [] cpos) (JW X.K T r to t):=⟨Hd pa slot hty hm ho.p ha.p hbase hfew hline hs hplain⟩
theorem Es{id:String}(pa:RQ T)(slot:Slot T name id)(hty:TU (.builtin id)=Nt (.type "method_descriptor"))(hm:IN X id r)(ho:QE X o to)(hbase:Nu o name X.env (eval o X.env)=eval o X.env:=by rfl)(hline:(apos.endLine==cpos.line)=true:=by rfl):QE X (.Call (.Attribute o name apos) [] [] cpos) (GL X.K T r to):=⟨EN pa slot hty hm ho.p hbase hline⟩
theorem ag   : QA X [] GH:=⟨ER ⟩
theorem ad(ha:QE X e te)(hr:QA X es t)(hs:L4 (e::es) X.env=(false,eval e X.env)::L4 es X.env:=by rfl):QA X (e::es) (C3 te t):=⟨B7 ha.p hr.p hs⟩
theorem aD(ho:gk X (ML op) r)(ha:QE X a ta)(hb:QE X b tb)(hm:O2 op b=false):QT X (.Compare a [op] [b] pos) (um (Bf r ta tb)):=⟨BI ho ha.p hb.p hm⟩
theorem qZ{op op':SX}{r r':R2}(ho:gk X (ML op) r)(ho':gk X (ML op') r')(ha:QE X a ta)(hb:QE X b tb)(hc:QE X c tc)(hm:Sr [op,op'] [b,c]=false:=by with_unfolding_all rfl):QT X (.Compare a [op,op'] [b,c] pos) (um (oY r r' ta tb tc)):=⟨zm ho ho' ha.p hb.p hc.p hm⟩
theorem cu{e:Mu}{t:TE}(h:QE X e t)(he:∀whole,isTrue e X.env whole=(do let v ←whole;TL e.pos;holding [v] (truthy v)):=by intro _;rfl):QT X e (tB t):=⟨Ew h.p he⟩
theorem hX(ha:QT X a tA):QT X (.UnaryOp .Not a pos) (GG tA):=⟨Ex ha.p⟩
theorem gO{cV:List Mu}(ha:QT X a tA)(hb:QW X (.BoolOp .And (b::cV) pos) tB'):QW X (.BoolOp .And (a::b::cV) pos) (GO tA tB'):=⟨Eu ha.p hb.p⟩
theorem gN(ha:QT X a tA):QW X (.BoolOp .And [a] pos) tA:=⟨BF ha.p⟩
theorem iP{cV:List Mu}(ha:QT X a tA)(hb:QW X (.BoolOp .Or (b::cV) pos) tB'):QW X (.BoolOp .Or (a::b::cV) pos) (JP tA tB'):=⟨G4 ha.p hb.p⟩
theorem gc(ha:QT X a tA):QW X (.BoolOp .Or [a] pos) tA:=⟨Et ha.p⟩
theorem eY(h:QW X e t):QT X e t:=⟨PW.pt h.p⟩
theorem Eo{i:Nat}{x:Mj}{e:Mu}{te:TE}{pos':Oo}(hN:X.N.Nodup)(hi:X.N[i]?=some x)(hx:wP X.env.scope x)(he:QE X e te)(hs:Od e (some (.Name x pos')) pos.line X.env=Nt false:=by rfl)(hf:X.fn x=true∨X.env.scope.names.lookup x=some .local:=by first|exact .inl Z|exact .inr Z|assumption):QS X (.Assign [.Name x pos'] e pos) (oZ te (jK i)):=⟨Ey hN hi hx he.p hs hf⟩
theorem tf{i j:Nat}{x y:Mj}{a b:Mu}{ta:TA}{px py pt:Oo}{kt k2 pt2}(hc:X.calm=true)(hN:X.N.Nodup)(hi:X.N[i]?=some x)(hj:X.N[j]?=some y)(hij:i≠j)(hx:X.env.scope.names.lookup x=some .local)(hy:X.env.scope.names.lookup y=some .local)(ha:QA X [a,b] ta)(hw:Ql [.Tuple [.Name x px,.Name y py] kt pt] (.Tuple [a,b] k2 pt2) X.env=Nt (some [x,y]))(hs:Qj [.Tuple [.Name x px,.Name y py] kt pt] (.Tuple [a,b] k2 pt2) pos.line X.env=Nt false:=by rfl):QS X (.Assign [.Tuple [.Name x px,.Name y py] kt pt] (.Tuple [a,b] k2 pt2) pos) (GF i j ta):=⟨EA hc hN hi hj hij hx hy ha.p hw hs⟩
theorem em{tg e:Mu}{te:TE}{g:TG}(he:QE X e te)(hg:QG X tg g)(hs:Qj [tg] e pos.line X.env=Nt false:=by rfl)(hw:Ql [tg] e X.env=Nt none:=by rfl)(h1:(Nw [tg] X.env).map (·.2)=[Ps tg X.env]:=by rfl):QS X (.Assign [tg] e pos) (oZ te g):=⟨ED he.p hg.p hs hw h1⟩
theorem Ep{i:Nat}{x:Mj}{e:Mu}{te:TE}{op:SY}{ti:Gw}{pos':Oo}(hN:X.N.Nodup)(hi:X.N[i]?=some x)(hx:wP X.env.scope x)(he:QE X e te)(ho:Jx X op ti)(hf:X.fn x=true∨X.env.scope.names.lookup x=some .local:=by first|exact .inl Z|exact .inr Z|assumption):QS X (.AugAssign (.Name x pos') op e pos) (GN i te ti):=⟨EC hN hi hx he.p ho hf⟩
theorem bA(hc:QT X c tc)(ha:dI X a t)(hb:dI X b u):QS X (.If c a b pos) (GJ tc t u):=⟨G5 hc.p ha.p hb.p⟩
theorem fK(hp:Mr (Ma X.prog X.w) X.A X.env X.xe)(hc:QT X c tc)(hb:dI X body tb):QS X (.While c body [] pos) (xm tc tb):=⟨zo hp hc.p hb.p⟩
theorem bS{iter:Mu}{body:List Stmt}{wi:TI}{g:TG}{tb:TS}{pos:Oo}(hp:Mr (Ma X.prog X.w) X.A X.env X.xe)(hc:X.calm=true)(hi:QI X tg iter wi)(hg:QG X tg g)(hb:dI X body tb)(hs:∀x,Nl iter X.env x=Nt x:=by intro _;rfl):QS X (.For tg iter body [] pos) (GK wi g tb):=⟨EB hp hc hi.p hg.p hb.p hs⟩
theorem aG(he:QE X e te):QS X (.Return (some e) pos) (GE te):=⟨Ez he.p⟩
theorem cK(he:QE X e te)(hs:Od e none pos.line X.env=Nt false:=by rfl):QS X (.Expr e pos) (C1 te):=⟨BN he.p hs⟩
theorem re   : QS X (.Continue pos) C2:=⟨rj ⟩
theorem hZ{st:Stmt}  : QS X st xq:=⟨zr ⟩
theorem aP   : dI X [] CZ:=⟨BK ⟩
theorem ao{st:Stmt}(h1:QS X st t):dI X [st] t:=⟨BJ h1.p⟩
theorem y9{st:Stmt}{cV:List Stmt}(h1:QS X st t)(h2:dI X cV u):dI X (st::cV) (DA t u):=⟨zn h1.p h2.p⟩
theorem bU{a:Mu}{ta:TA}{p pos:Oo}(hg:Gl X "range")(hm:X.mg "range"=none)(ha:QA X [a] ta)(hs:L4 [a] X.env=[(false,eval a X.env)]:=by rfl):QI X tg (.Call (.Name "range" p) [a] [] pos) (Dg ta):=⟨vZ hg hm ha.p hs⟩
theorem vS{a b:Mu}{ta:TA}{p pos:Oo}(hg:Gl X "range")(hm:X.mg "range"=none)(ha:QA X [a,b] ta)(hs:L4 [a,b] X.env=[(false,eval a X.env),(false,eval b X.env)]:=by rfl)(hs2:L4 [b] X.env=[(false,eval b X.env)]:=by rfl):QI X tg (.Call (.Name "range" p) [a,b] [] pos) (Df ta):=⟨vY hg hm ha.p hs hs2⟩
theorem bQ(hl:QE X l tl):QI X tg l (Ar X.K tl):=⟨BV hl.p⟩
theorem cW(hl:QE X l tl):QI X tg l (Cn X.K tl):=⟨zF hl.p⟩
theorem au{i:Nat}{x:Mj}(hN:X.N.Nodup)(hi:X.N[i]?=some x)(hx:wP X.env.scope x)(hf:X.fn x=true∨X.env.scope.names.lookup x=some .local:=by first|exact .inl Z|exact .inr Z|assumption):QG X (.Name x pos) (jK i):=⟨BZ hN hi hx hf⟩
theorem ia{es:List Mu}{k:Nat}{t:wN}{n:Nat}(hc:X.calm=true)(h:Ig X es t)(hn:(Nw es X.env).length=n:=by rfl)(hst:(Nw es X.env).findIdx? (·.1)=none:=by rfl):QG X (.Tuple es k pos) (Co X.K n t):=⟨zJ hc h.p hn hst⟩
theorem gQ{o i:Mu}{to ti:TE}{t:A0}(ho:QE X o to)(hi:QE X i ti)(hs:Gh X t) (ha:∀v,Ps (.Subscript o i pos) X.env v=(do
   let ov ←holding [v] (eval o X.env);let iv ←holding [v,ov] (eval i X.env)
   TL pos
   holding [v,ov,iv] (TM ov iv v)
   release [v,ov,iv] []):=by intro _;rfl):QG X (.Subscript o i pos) (HL to ti t):=⟨EF ho.p hi.p hs ha⟩
theorem c6   : Ig X [] HM:=⟨BX ⟩
theorem bi{e:Mu}{es:List Mu}{t:TG}{u:wN}(h1:QG X e t)(h2:Ig X es u)(hs:(Nw (e::es) X.env).map (·.2)=Ps e X.env::(Nw es X.env).map (·.2):=by rfl):Ig X (e::es) (Dj t u):=⟨zI h1.p h2.p hs⟩
end
structure Gx(X:Cx)(ifs:List Mu)(t:TT):Prop where
 p:Ds X ifs t
section
set_option autoImplicit true
set_option relaxedAutoImplicit true
theorem bZ:Gx X [] GC:=⟨BH ⟩
theorem cE(h:QT X c t):Gx X [c] t:=⟨BG h.p⟩
theorem bn(hc:X.calm=true)(hi:QI X tg iter wi)(hg:∀C fp pins s H,QG (kn X N' scope cl C fp pins s H) tg g)(ht:∀C fp pins s H,Gx (kn X N' scope cl C fp pins s H) ifs tt)(he:∀C fp pins s H,QE (kn X N' scope cl C fp pins s H) elt te)(hfree:cQ X scope cl N' src)(hclos:Px scope X.env=Nt cl)(hcell:∀x∈scope.names,x.2≠.cell)(hkind:scope.kind=.function)(hnames:∀x∈scope.names,x.2=.local->scope.names.lookup x.1=some .local)(hcl:fC X scope cl)(hs:∀x,Nl iter X.env x=Nt x:=by intro _;rfl):QE X (.ListComp elt [⟨tg,iter,ifs,0⟩] scope pos) (js wi src g tt te):=⟨zN hc hi.p (λz0 z1 z2 z3 z4=>(hg z0 z1 z2 z3 z4).p) (λz0 z1 z2 z3 z4=>(ht z0 z1 z2 z3 z4).p) (λz0 z1 z2 z3 z4=>(he z0 z1 z2 z3 z4).p) hfree hclos hcell hkind hnames hcl hs⟩
theorem dY{i:Nat}{x:Mj}{pos' pos2:Oo}(hN:X.N.Nodup)(hi':X.N[i]?=some x)(hx:wP X.env.scope x)(hc:X.calm=true)(hi:QI X tg iter wi)(hg:∀C fp pins s H,QG (kn X N' scope cl C fp pins s H) tg g)(ht:∀C fp pins s H,Gx (kn X N' scope cl C fp pins s H) ifs tt)(he:∀C fp pins s H,QE (kn X N' scope cl C fp pins s H) elt te)(hfree:cQ X scope cl N' src)(hclos:Px scope X.env=Nt cl)(hcell:∀x∈scope.names,x.2≠.cell)(hkind:scope.kind=.function)(hnames:∀x∈scope.names,x.2=.local->scope.names.lookup x.1=some .local)(hcl:fC X scope cl)(hs:∀x,Nl iter X.env x=Nt x:=by intro _;rfl)(hsw:Od (.ListComp elt [⟨tg,iter,ifs,0⟩] scope pos) (some (.Name x pos')) pos2.line X.env=Nt true:=by rfl)(hf:X.fn x=true∨X.env.scope.names.lookup x=some .local:=by first|exact .inl Z|exact .inr Z|assumption):QS X (.Assign [.Name x pos'] (.ListComp elt [⟨tg,iter,ifs,0⟩] scope pos) pos2) (oZ (js wi src g tt te) (jK i)):=⟨BL hN hi' hx hc hi.p (λz0 z1 z2 z3 z4=>(hg z0 z1 z2 z3 z4).p) (λz0 z1 z2 z3 z4=>(ht z0 z1 z2 z3 z4).p) (λz0 z1 z2 z3 z4=>(he z0 z1 z2 z3 z4).p) hfree hclos hcell hkind hnames hcl hs hsw hf⟩
end
section
variable {X:Cx}{K:Fg}
theorem BY{es:List Mu}{k:Nat}{t:wN}{n:Nat}{pos:Oo}(hK:X.K=K)(hc:X.calm=true)(h:Gy X es t)
  (hn:(Nw es X.env).length=n:=by rfl) (hst:(Nw es X.env).findIdx? (·.1)=none:=by rfl):PG X (.Tuple es k pos) (Co K n t):=hK▸zJ hc h hn hst
theorem BU(hK:X.K=K)(hl:PE X l tl):PI X tg l (Cn K tl):=hK▸zF hl
theorem aU(hK:X.K=K):Gk X (Em K):=hK▸az
theorem cf(hK:X.K=K):Gk X (En K):=hK▸bt
def KS(K:Fg):List V->Hp->VK->Prop:=λxs H Q=>∃p ys,xs=[.ref p]/\(aS K H p ys∨bH K H p ys)/\Q (.int ys.length) H
end
theorem bx:L4 (.BinOp a op b pos:: es) env=(false,eval (.BinOp a op b pos) env):: L4 es env:=Z
end B
namespace B
open PySem
section
variable {es:List Mu}{env:R0}
theorem cC{a b c}:L4 (.Tuple a b c::es) env=(false,eval (.Tuple a b c) env)::L4 es env:=Z
theorem lN{a b}:L4 (.List a b::es) env=(false,eval (.List a b) env)::L4 es env:=Z
theorem aI{a b c}:L4 (.Subscript a b c::es) env=(false,eval (.Subscript a b c) env)::L4 es env:=Z
theorem aF{a b c d}:L4 (.Call a b c d::es) env=(false,eval (.Call a b c d) env)::L4 es env:=Z
theorem ae{a b}:L4 (.Name a b::es) env=(false,eval (.Name a b) env)::L4 es env:=Z
theorem aH{a b c}:L4 (.Constant a b c::es) env=(false,eval (.Constant a b c) env)::L4 es env:=Z
theorem k4{a b c}:L4 (.UnaryOp a b c::es) env=(false,eval (.UnaryOp a b c) env)::L4 es env:=Z
theorem xF{a b c}:L4 (.Attribute a b c::es) env=(false,eval (.Attribute a b c) env)::L4 es env:=Z
theorem dq{a b c d}:L4 (.ListComp a b c d::es) env=(false,eval (.ListComp a b c d) env)::L4 es env:=Z
theorem Bh{a b c d}:L4 (.IfExp a b c d::es) env=(false,eval (.IfExp a b c d) env)::L4 es env:=Z
end
end B
namespace B
open PySem L2 PyProof.Rows
inductive cO{α:Type}(P:V->α->Prop):List V->List α->Prop where
 |nil:cO P [] []
 |cons {x:V} {d:α} {xs:List V} {ds:List α} (h:P x d) (t:cO P xs ds):cO P (x::xs) (d::ds)
theorem cO.len{α:Type}{P:V->α->Prop}:∀{xs:List V} {ds:List α},cO P xs ds->xs.length=ds.length
 |_,_,.nil=>rfl
 |_,_,.cons _ t=>congrArg (·+1) t.len
theorem cO.mono{α:Type}{P P':V->α->Prop}(m:∀v d,P v d->P' v d):∀{xs:List V} {ds:List α},cO P xs ds->cO P' xs ds
 |_,_,.nil=>.nil
 |_,_,.cons h t=>.cons (m _ _ h) (t.mono m)
theorem cO.snoc{α:Type}{P:V->α->Prop}{x:V}{d:α}(k:P x d):∀{xs:List V} {ds:List α},cO P xs ds->cO P (xs++[x]) (ds++[d])
 |_,_,.nil=>.cons k .nil
 |_,_,.cons h t=>.cons h (t.snoc k)
theorem cO.at{α:Type}{P:V->α->Prop}:∀{xs:List V} {ds:List α},cO P xs ds->∀{i:Nat} {x:V},xs[i]?=some x->∃d,ds[i]?=some d/\P x d
 |_,_,.cons h _,0,x,e=>by
  rw[N6] at e
  cases e
  exact⟨_,Z,h⟩
 |_,_,.cons _ t,i+1,x,e=>t.at (i:=i) (by rw[N7] at e;exact e)
 |_,_,.nil,_,_,e=>by cases e
theorem cO.deep{α:Type}{K:Fg}{H:Hp}{P:V->α->Prop}{f:α->PyData}(m:∀v d,P v d->bP K H v (f d)):∀{xs:List V} {ds:List α},cO P xs ds->bu K H xs (ds.map f)
 |_,_,.nil=>.nil
 |_,_,.cons h t=>.cons (m _ _ h) (t.deep m)
end B
namespace B
open PySem PySem.Spec L2 PyProof.Rows
theorem cO.last{ds:List α}(h:cO P xs ds)(hn:ds.length=n+1):∃x d,qi xs (-1)=some x/\ds[n]?=some d/\P x d/\xs[n]?=some x:=by
 have hl:=h.len;have hx:xs[n]?=some (xs[n]'(by omega)):=LL _;obtain⟨d,hd,p⟩:=h.at hx;refine⟨_,d,?_,hd,p,hx⟩;have e:xs=xs.take n++[xs[n]'(by omega)]:=by
  have:=take_append_drop n xs;rw[Ra (by omega)] at this;rw[drop_eq_nil_of_le (by omega)] at this;exact this.symm
 have:=m7 (xs.take n) (xs[n]'(by omega));rw[←e] at this;exact this
section
set_option autoImplicit true
set_option relaxedAutoImplicit true
theorem Er(hl:QE X l tl):QI X tg l (Hy X.K tl):=⟨EE hl.p⟩
theorem gP{K:Fg}{es:List Mu}{k:Nat}{t:wN}{n:Nat}{pos:Oo}(hK:X.K=K)(hc:X.calm=true)(h:Ig X es t)(hn:(Nw es X.env).length=n:=by rfl)(hst:(Nw es X.env).findIdx? (·.1)=none:=by rfl):QG X (.Tuple es k pos) (Co K n t):=⟨BY hK hc h.p hn hst⟩
theorem BD{K:Fg}{l tg:Mu}{tl:TE}(hK:X.K=K)(hl:QE X l tl):QI X tg l (Cn K tl):=⟨BU hK hl.p⟩
end
def KY(K:Fg):R2:=λx y H Q=>∃d d',bP K H x d/\bP K H y d'/\d.canLay0=true/\d'.canLay0=true/\d.depth≤32/\Q (.bl (M7 d d')) H
theorem lh:M7 (dR r) (dR q)=decide (r=q):=by
 by_cases h:r=q
 ·rw[decide_eq_true h,h];exact rP q
 ·rw[decide_eq_false h]
  cases c:M7 (dR r) (dR q) with
  |false=>rfl
  |true=>exact absurd (FU c) h
def G0(K:Fg):List V->Hp->VK->Prop:=λxs H Q=>∃a ys n b,xs=[.ref a,.ty n]/\bH K H a ys/\d7 "tuple" n=some b/\Q (.bl b) H
theorem wK:dX X (.builtin "isinstance") (G0 X.K):=by
 intro pins s σ H xs us Q I r h;obtain⟨a,ys,n,b,rfl,hS,e,q⟩:=h;obtain⟨u,u2,rfl,rx,ry⟩:=ul r;obtain rfl:u2=Oj n:=ry
 cases(show u=Ml a from rx)
 obtain⟨its,_,⟨o,h1,h2,_⟩,_⟩:=I.tuple hS;exact OJ kitx_tuple I.kIn ⟨o,h1,h2⟩ (tP e) (λz=>nomatch z) λtk=>⟨.bl b,H,I.tok tk,Z,q⟩
section
set_option autoImplicit true
set_option relaxedAutoImplicit true
theorem BE{X:Cx}{e:Mu}{f:Mj}{pos:Oo}{ta:TE}{K:Fg}(hK:X.K=K)(he:QE X e ta)(hb:Nu e f X.env (eval e X.env)=eval e X.env):QE X (.Attribute e f pos) (C0 K ta f):=⟨B3 hK he.p hb⟩
theorem Bz(hex:X.ex=[])(ha:QE X o ta)(hv:QE X value tv)(hs:Od value (some (.Attribute o f pos')) pos.line X.env=Nt false):QS X (.Assign [.Attribute o f pos'] value pos) (C5 X.K ta tv f):=⟨BM hex ha.p hv.p hs⟩
theorem n8{x:Mj}{p cpos pos:Oo}{e:Mu}{es:List Mu}{t:TA}{E:XK}(M:XC X.K C f bm)(hbase:bm.contains (.type "BaseException")=true)(hex:X.ex=[])(tk:ud X E)(F:bD X.prog X.w X.K X.mg X.base dF k f fd ps sp)(hr:cZ (k+1) X.A)(hb:aV X.K fd ps [])(hg:Gl X x)(hm:X.mg x=some (.ref C))(ha:QA X (e::es) t)(hdb:(x==("__debug__" : Mj))=false:=by decide)(he:L4 (e::es) X.env=(false,eval e X.env)::L4 es X.env:=by rfl)(hpl:(Ol cpos (L4 es X.env)).any (·.1)=false:=by rfl):QS X (.Raise (some (.Call (.Name x p) (e::es) [] cpos)) none pos) (uo C sp E t):=⟨vV M hbase hex tk F hr hb hg hm ha.p hdb he hpl⟩
theorem za{R:RX}{suite:List Stmt}{i:Nat}{n:Mj}(hex:X.ex=[])(hst:X.stack=X.env::X.outer)(hfr:X.env.frame=some X.env.locals)(hg:Gl X x)(hm:X.mg x=some u)(hN:X.N.Nodup)(hi:X.N[i]?=some n)(hn:X.env.scope.names.lookup n=some .local)(hb:∀pins,dI (jd X pins R) body tb)(hs:∀e,dI (ou X e) (b₀::suite) th)(hd:(x==("__debug__" : Mj))=false:=by decide):QS X (.Try body [.ExceptHandler (some (.Name x p)) (some n) (b₀::suite) hpos] [] [] pos) (xo X.N i R (λC=>PySem.W.exmOne X.K (.ref C) u=some true) tb th):=⟨zp hex hst hfr hg hm hN hi hn (λz0=>(hb z0).p) (λz0=>(hs z0).p) hd⟩
end
end B
namespace L2
open PySem PySem.Spec PyProof.Rows
section
variable {κ:Type} [DecidableEq κ]
def jY(kvs:List (κ×V))(k:κ):Option V:=(kvs.find? λkv=>decide (kv.1=k)).map (·.2)
def gR(kvs:List (κ×V))(k:κ)(v:V):List (κ×V):=
 if(kvs.any λkv=>decide (kv.1=k))=true then kvs.map (λkv=>if kv.1=k then(kv.1,v) else kv) else kvs++[(k,v)]
def Kh(kvs:List (κ×V))(k:κ):List (κ×V):=kvs.filter λkv=>decide (kv.1≠k)
theorem jq{p:κ×V}{r:List (κ×V)}{k:κ}(e:p.1=k):jY (p::r) k=some p.2:=by simp[jY,O9,e]
theorem jr{p:κ×V}{r:List (κ×V)}{k:κ}(e:¬p.1=k):jY (p::r) k=jY r k:=by simp[jY,O9,e]
theorem qw(k:κ):∀kvs:List (κ×V),(kvs.any λkv=>decide (kv.1=k))=(jY kvs k).isSome
 | []=>rfl
 |p::r=>by
  rw[PF];by_cases e:p.1=k
  ·simp only[jq e,decide_eq_true e,Bool.true_or,Rb]
  ·rw[jr e,decide_eq_false e,Qm];exact qw k r
theorem kC(kvs:List (κ×V))(k:κ)(v:V):(gR kvs k v).length≤kvs.length+1:=by
 unfold gR
 split
 ·rw[LO];omega
 ·rw[MO,MS,RO];omega
theorem gW.isSome_eq(r:gW o u):o.isSome=u.isSome:=by
 cases o with
 |none=>cases u with
  |none=>rfl
  |some _=>exact(show False from r).elim
 |some _=>cases u with
  |none=>exact(show False from r).elim
  |some _=>rfl
theorem gW.getD(r:gW o u)(rd:bv d d'):bv (o.getD d) (u.getD d'):=by
 cases o with
 |none=>cases u with
  |none=>exact rd
  |some _=>exact(show False from r).elim
 |some _=>cases u with
  |none=>exact(show False from r).elim
  |some _=>exact r
theorem KV.val{kvs:List (κ×V)}{vs:List (κ×Value)}(r:KV kvs vs)(k:κ):gW (jY kvs k) (Sf vs k):=by
 unfold KV at r
 induction r with
 |nil=>exact Ox
 | @cons p q ps qs h t ih=>
  obtain⟨h1,h2⟩:=h;by_cases e:p.1=k
  ·have e':q.1=k:=h1.symm.trans e;have b:Sf (q::qs) k=some q.2:=by simp[Sf,O9,e']
   rw[jq e,b];exact h2
  ·have e':¬q.1=k:=λz=>e (h1.trans z)
   have b:Sf (q::qs) k=Sf qs k:=by simp[Sf,O9,e']
   rw[jr e,b];exact ih
theorem KV.any{kvs:List (κ×V)}{vs:List (κ×Value)}(r:KV kvs vs)(k:κ):(kvs.any λkv=>decide (kv.1=k))=vs.any λkv=>decide (kv.1=k):=by
 unfold KV at r
 induction r with
 |nil=>rfl
 |cons h t ih=>rw[PF,PF,ih,h.1]
theorem KV.repl{kvs:List (κ×V)}{vs:List (κ×Value)}(r:KV kvs vs)(k:κ){y:V}{u:Value}(ry:bv y u) :
  KV (kvs.map λkv=>if kv.1=k then(kv.1,y) else kv) (vs.map λkv=>if kv.1=k then(kv.1,u) else kv):=by
 unfold KV at r ⊢
 induction r with
 |nil=>exact .nil
 | @cons p q ps qs h t ih=>
  rw[M3,M3];refine .cons ?_ ih;obtain⟨h1,h2⟩:=h;by_cases e:p.1=k
  ·rw[if_pos e,if_pos (h1.symm.trans e)];exact⟨h1,ry⟩
  ·rw[if_neg e,if_neg (λz=>e (h1.trans z))];exact⟨h1,h2⟩
theorem KV.put{kvs:List (κ×V)}{vs:List (κ×Value)}(r:KV kvs vs)(k:κ){y:V}{u:Value}(ry:bv y u):KV (gR kvs k y) (stored vs k u):=by
 unfold gR stored;rw[r.any k];by_cases e:(vs.any λkv=>decide (kv.1=k))=true
 ·rw[if_pos e,if_pos e];exact r.repl k ry
 ·rw[if_neg e,if_neg e];exact Paired.snoc r ⟨Z,ry⟩
theorem KV.length{kvs:List (κ×V)}{vs:List (κ×Value)}(r:KV kvs vs):kvs.length=vs.length:=Paired.length r
end
theorem An(r:bv (kV k) u):(cF P w).is k u=true:=by
 cases k with
 |inl i=>obtain⟨t,e⟩:=(show ∃t,u=Oc i t from r);subst e;exact rA P w i t
 |inr x=>obtain⟨t,e⟩:=(show ∃t,u=PV x t from r);subst e;exact rq P w x t
theorem oq{P:Mo}{w:MD}:∀{ks:List dQ} {us:List Value},bj (ks.map kV) us->ItemsAre (cF P w) ks us
 | [],_,r=>by rw[map_nil] at r;cases r;exact .nil
 |k::ks,_,r=>by
  rw[M3] at r
  cases r with
  |cons h t=>exact .cons (An h) (oq t)
abbrev KT(H:Hp):List (List dQ×V)->List (List dQ×Addr×Value)->Prop:=Paired λp q=>p.1=q.1/\H q.2.1=some (.tup (p.1.map kV))/\bv p.2 q.2.2
theorem KT.val(r:KT H kvs xs)(k:List dQ):gW (jY kvs k) ((Tn xs k).map (·.2)):=by
 induction r with
 |nil=>exact Ox
 | @cons p q ps qs h t ih=>
  obtain⟨h1,_,h2⟩:=h;by_cases e:p.1=k
  ·have e':q.1=k:=h1.symm.trans e;have b:Tn (q::qs) k=some q.2:=by simp[Tn,O9,e']
   rw[jq e,b];exact h2
  ·have e':¬q.1=k:=λz=>e (h1.trans z)
   have b:Tn (q::qs) k=Tn qs k:=by simp[Tn,O9,e']
   rw[jr e,b];exact ih
theorem KT.repl(r:KT H kvs xs)(k:List dQ)(ry:bv y u):
  KT H (kvs.map λkv=>if kv.1=k then(kv.1,y) else kv) (xs.map (putAt k u)):=by
 induction r with
 |nil=>exact .nil
 | @cons p q ps qs h t ih=>
  rw[M3,M3];refine .cons ?_ ih;obtain⟨h1,h2,h3⟩:=h;unfold putAt;by_cases e:p.1=k
  ·rw[if_pos e,if_pos (h1.symm.trans e)];exact⟨h1,h2,ry⟩
  ·rw[if_neg e,if_neg (λz=>e (h1.trans z))];exact⟨h1,h2,h3⟩
theorem KT.put(r:KT H kvs xs)(k:List dQ)(hb:H b=some (.tup (k.map kV)))(ry:bv y u):
  KT H (gR kvs k y) (storedH xs k b u):=by
 have e:(kvs.any λkv=>decide (kv.1=k))=(Tn xs k).isSome:=by
  rw[qw,(r.val k).isSome_eq,isSome_map]
 unfold gR storedH;rw[e];by_cases q:(Tn xs k).isSome=true
 ·rw[if_pos q,if_pos q];exact r.repl k ry
 ·rw[if_neg q,if_neg q];exact Paired.snoc r ⟨Z,hb,ry⟩
theorem KT.keeps(r:KT H kvs xs)(ht:∀b ys,H b=some (.tup ys)->H' b=some (.tup ys)):KT H' kvs xs:=
 Paired.mapP r λ_ _ z=>⟨z.1,ht _ _ z.2.1,z.2.2⟩
section
variable {P:Mo}{w:MD}{H:Hp}{h:MA}{a:Addr}
theorem C7(ok:iX P w H h)(e:Rd H a u):ObjOk P w H h a u:=e.ok ok
theorem AJ(ok:iX P w H h)(e:Rd H a (.dK kvs)):kvs.length≤sizeLine/\(a==Ov)=false/\∃vs,KV kvs vs/\h.DictOf (cF P w) a vs:=
 show ObjOk P w H h a (.dK kvs) from C7 ok e
theorem Dm(ok:iX P w H h)(e:H a=some (.dK kvs)):kvs.length≤sizeLine/\(a==Ov)=false/\∃vs,KV kvs vs/\h.DictOf (cF P w) a vs:=AJ ok (.inl e)
theorem tQ(ok:iX P w H h)(e:H a=some (.tup (ks.map kV))):(Qr (cF P w)).is h ks a:=by
 obtain⟨_,its,r,o,h1,h2,n,h3⟩:=(show ObjOk P w H h a (.tup (ks.map kV)) from ok a _ e);exact⟨o,its.toArray,n,h1,h2,h3,by simpa using oq r⟩
theorem AI(ok:iX P w H h)(e:Rd H a (.dT kvs)):kvs.length≤sizeLine/\(a==Ov)=false∧
  ∃xs,KT H kvs xs/\h.DictOfH (Qr (cF P w)) a xs:=by
 obtain⟨z,y,xs,r,o,es,ep,h1,h2,h3,h4,h5⟩:=(show ObjOk P w H h a (.dT kvs) from C7 ok e);refine⟨z,y,xs,r,o,es,ep,h1,h2,h3,h4,λx hx=>?_,h5⟩;have all:∀{l:List (List dQ×V)} {m:List (List dQ×Addr×Value)},KT H l m->∀x∈m,(Qr (cF P w)).is h x.1 x.2.1:=by
  intro l m q
  induction q with
  |nil=>intro x hx;exact nomatch hx
  | @cons p q ps qs hq t ih=>
   intro x hx;rcases LZ.mp hx with e|hx
   ·subst e;exact tQ ok (by rw[←hq.1];exact hq.2.1)
   ·exact ih x hx
 exact all r x hx
theorem HR(ok:iX P w H h)(e:H a=some (.dT kvs)):kvs.length≤sizeLine/\(a==Ov)=false∧
  ∃xs,KT H kvs xs/\h.DictOfH (Qr (cF P w)) a xs:=AI ok (.inl e)
end
def nc(H:Hp)(a:Addr)(y:V)(r:Option V):Prop:=
 (∃kvs k,Rd H a (.dK kvs)/\y=kV k/\r=jY kvs k)∨∃kvs k b,Rd H a (.dT kvs)/\y=.ref b/\H b=some (.tup (k.map kV))/\r=jY kvs k
def uh(H:Hp)(a:Addr)(y v:V)(H':Hp):Prop:=
 (∃kvs k,H a=some (.dK kvs)/\y=kV k/\kvs.length<sizeLine/\H'=upd H a (.dK (gR kvs k v)))∨
 ∃kvs k b,H a=some (.dT kvs)/\y=.ref b/\H b=some (.tup (k.map kV))/\kvs.length<sizeLine/\H'=upd H a (.dT (gR kvs k v))
theorem nc.k{H:Hp}{a:Addr}{kvs:List (dQ×V)}{k:dQ}(e:H a=some (.dK kvs)):nc H a (kV k) (jY kvs k):=.inl ⟨kvs,k,.inl e,Z,Z⟩
theorem uh.k{H:Hp}{a:Addr}{kvs:List (dQ×V)}{k:dQ}{v:V}(e:H a=some (.dK kvs))(hl:kvs.length<sizeLine):uh H a (kV k) v (upd H a (.dK (gR kvs k v))):=.inl ⟨kvs,k,e,Z,hl,Z⟩
section
variable {X:Cx}{pins:cy}{σ:St}{H:Hp}{s:LV}{a:Addr}{y v:V}{u r:Value}{o:Option V}{A:Mq}{E:c5}
theorem Inv.big(I:Inv X pins σ H s):Ov<s.heap.objs.size:=by
 have h:Mf<s.heap.objs.size:=(I.mod.glob.keeps I.bk).lt;exact lt_trans (by decide) h
theorem qg(I:Inv X pins σ H s)(mu:Ii (H a))(hs:OT a s.heap h')(he:∃q,h'.get? a=some q)(new:ObjOk X.prog X.w (upd H a ob) h' a ob):
  Inv X pins σ (upd H a ob) { s with heap:=h',toks:=t'}:=
 I.write (x:=a) (e:=a) mu (.inl Z) (λb q hb z=>(hs.2 b hb).trans z) he new
theorem FX(z:kvs.length≤sizeLine)(hd:(a==Ov)=false)(rel:KV kvs vs)(dd:h'.DictOf (cF P w) a vs):
  ObjOk P w H' h' a (.dK kvs):=⟨z,hd,vs,rel,dd⟩
theorem wE(hu:A.units+1<cLine)(I:Inv X pins σ H s)(g:uh H a y v H')(ry:bv y u)(rv:bv v r)(h:∀s',Inv X pins σ H' s'->Q () s'):
  L6 (Ma X.prog X.w) A (TM (.ref a) u r) Q E s:=by
 rcases g with⟨kvs,k,e,ey,l,eH⟩ | ⟨kvs,k,b,e,ey,eb,l,eH⟩
 ·subst ey eH;obtain⟨z,hd,vs,rel,dd⟩:=Dm I.hok e;have hz:vs.length≤sizeLine:=by rw[←rel.length];exact z
  have hl:(gR kvs k v).length≤sizeLine:=by have:=kC kvs k v;omega
  refine wpAny_setItem_pairs (hsz:=hz) (An ry) dd λh' dd' hs=>h _ ?_
  have he:∃q,h'.get? a=some q:=let ⟨q,_,_,hq,_⟩:=dd';⟨q,hq⟩;exact qg I (by rw[e];exact Ox) hs he (FX hl hd (rel.put k rv) dd')
 ·subst ey eH
  cases(show u=Ml b from ry)
  obtain⟨z,hd,xs,rel,dd⟩:=HR I.hok e;have hz:xs.length≤sizeLine:=by rw[←Paired.length rel];exact z
  have hl:(gR kvs k v).length≤sizeLine:=by have:=kC kvs k v;omega
  refine wpAny_setItem_heap (hsz:=hz) (RT hu) (tQ I.hok eb) dd λh' dd' hs=>h _ ?_
  obtain⟨q,es,ep,hq,h2,h3,h4,_,h5⟩:=dd';refine qg I (by rw[e];exact Ox) hs ⟨q,hq⟩ ⟨hl,hd,_,(rel.put k eb rv).keeps λc ys ec=>?_,q,es,ep,hq,h2,h3,h4,h5⟩;rw[aE (Hu ec e (λz=>nomatch z))];exact ec
end
section
variable {X:Cx}{pins:cy}{σ:St}{H:Hp}{s:LV}{a:Addr}{kvs:List (dQ×V)}{k:dQ}{u:Value}{A:Mq}{E:c5}
end
def Lh(i:Mu):Prop:=∀ov iv,Q3 i false ov iv=TR [ov,iv] (PN ov iv)
def JV(td ty:TE):TE:=λσ H Q=>td σ H λx H1=>ty σ H1 λy H2=>∃a v,x=.ref a/\nc H2 a y (some v)/\Q v H2
def KH(ty td:TE):TE:=λσ H Q=>ty σ H λy H1=>td σ H1 λx H2=>∃a o,x=.ref a/\nc H2 a y o/\Q (.bl o.isSome) H2
def Ip(ty td:TE):TE:=λσ H Q=>ty σ H λy H1=>td σ H1 λx H2=>∃a o,x=.ref a/\nc H2 a y o/\Q (.bl (!o.isSome)) H2
def C6(td ty tv:TE):TS:=λD σ H=>tv σ H λv H1=>td σ H1 λx H2=>ty σ H2 λy H3=>∃a H4,x=.ref a/\uh H3 a y v H4/\D.nx σ H4
def J1(td ty tv:TE)(rd:V->V->Hp->VK->Prop):TS:=λD σ H=>td σ H λx H1=>ty σ H1 λy H2=>∃a v,x=.ref a/\nc H2 a y (some v)∧
 tv σ H2 λy2 H3=>rd v y2 H3 λz H4=>∃H5,uh H4 a y z H5/\D.nx σ H5
section
variable {X:Cx}{o i e value:Mu}{pos pos' tpos:Oo}{td ty tv:TE}
theorem BO(hu:X.A.units+1<cLine)(ho:PE X o td)(hi:PE X i ty)(hv:PE X value tv)(hs:Od value (some (.Subscript o i pos')) pos.line X.env=Nt false) :
  PS X (.Assign [.Subscript o i pos'] value pos) (C6 td ty tv):=by
 intro pins s σ H D I h;refine wpAny_Assign_Subscript (cA (hv pins s σ H _ I h) λr s1 ⟨v,H1,I1,rv,q1⟩=>cA (ho pins s1 σ H1 _ I1 q1) λu s2 ⟨x,H2,I2,rx,q2⟩=>cA (hi pins s2 σ H2 _ I2 q2) λiv s3 ⟨y,H3,I3,ry,a,H4,ex,g,q3⟩=>?_) hs;subst ex;obtain rfl:u=Ml a:=rx;exact wE hu I3 g ry rv λs4 I4=>⟨σ,H4,I4,q3⟩
end
theorem AK(h:MA)(hb:Ov<h.objs.size):ObjOk P w H (h.push { cls:=.type "dict",data:=.dict #[]}) h.objs.size (.dK []):=
 ⟨Mx _,beq_eq_false_iff_ne.mpr (NO (Nc hb)),[],.nil,MA.DictOf.new h⟩
def xr:TE:=λ_ H Q=>∀p,H p=none->Q (.ref p) (upd H p (.dK []))
section
variable {X:Cx}{pos:Oo}
theorem zP:PE X (.Dict [] [] pos) xr:=λpins s σ H Q I h=>
 wpAny_Dict_empty ⟨.ref s.heap.objs.size,_,I.laid (a:=s.heap.objs.size) (o:=.dK []) (t':=s.toks) (λ_ _ q=>LU _ q) (LN _) (AK s.heap I.big),Z,h _ (I.hok.fresh (LN _))⟩
end
def sx:List (TE×TE)->St->Hp->(List (V×V)->Hp->Prop)->Prop
 | [],_,H,Q=>Q [] H
 | (tk,tv)::r,σ,H,Q=>tk σ H λx H1=>tv σ H1 λy H2=>sx r σ H2 λps H3=>Q ((x,y)::ps) H3
abbrev VV:List (V×V)->List (Value×Value)->Prop:=Paired λp q=>bv p.1 q.1/\bv p.2 q.2
def LI(X:Cx)(pos:Oo)(keys:List (Option Mu))(values:List Mu)(trs:List (TE×TE)):Prop:=
 ∀(pins:cy) (s:LV) (σ:St) (H:Hp) (Q:List (V×V)->Hp->Prop),Inv X pins σ H s->sx trs σ H Q→
  L6 (Ma X.prog X.w) X.A (evalPairs (pairTrees keys values X.env pos)) (λvs s'=>∃ps H',Inv X pins σ H' s'/\VV ps vs/\Q ps H') X.xe s
def FD(kvs more:List (dQ×V)):List (dQ×V):=more.foldl (λacc kv=>gR acc kv.1 kv.2) kvs
def JU(trs:List (TE×TE)):TE:=λσ H Q=>∀p,H p=none->sx trs σ (upd H p (.dK [])) λps H2=>H2 p=some (.dK [])/\∃kvs:List (dQ×V),ps=kvs.map (λkv=>(kV kv.1,kv.2))/\kvs.length≤15/\Q (.ref p) (upd H2 p (.dK (FD [] kvs)))
structure M1(X:Cx)(o:Mu)(m:Mj)(apos:Oo)(e:Mu)(cpos:Oo):Prop where
 base:Nu o m X.env (eval o X.env)=eval o X.env
 few:((Ol cpos (L4 [e] X.env)).all (λx=>!x.1)&&(R7 cpos (Qd [] X.env)).all (λx=>x.1.isSome)
 &&decide (([e]:List Mu).length+([]:List PP).length+(if([]:List PP).isEmpty then 0 else 1)<30))=true
 line:(apos.endLine==cpos.line)=true
 trees:Ol cpos (L4 [e] X.env)=[(false,eval e X.env)]
structure M2(X:Cx)(o:Mu)(m:Mj)(apos:Oo)(e f:Mu)(cpos:Oo):Prop where
 base:Nu o m X.env (eval o X.env)=eval o X.env
 few:((Ol cpos (L4 [e,f] X.env)).all (λx=>!x.1)&&(R7 cpos (Qd [] X.env)).all (λx=>x.1.isSome)
 &&decide (([e,f]:List Mu).length+([]:List PP).length+(if([]:List PP).isEmpty then 0 else 1)<30))=true
 line:(apos.endLine==cpos.line)=true
 trees:Ol cpos (L4 [e,f] X.env)=[(false,eval e X.env),(false,eval f X.env)]
def JC(H:Hp)(a:Addr):Prop:=(∃kvs,Rd H a (.dK kvs))∨∃kvs,Rd H a (.dT kvs)
theorem Aq{X:Cx}{pins:cy}{σ:St}{H:Hp}{s:LV}{a:Addr}(I:Inv X pins σ H s)(d:JC H a) :
  s.TypeIs (.ref a) "dict"/\(∀b,Ml a=.ref b->∃ob,s.heap.get? b=some ob/\ob.dict=none)/\(a==Ov)=false:=by
 rcases d with⟨kvs,e⟩ | ⟨kvs,e⟩
 ·obtain⟨_,hd,vs,_,dd⟩:=AJ I.hok e;refine⟨dd.typeIs,λb q=>?_,hd⟩
  cases q
  obtain⟨ob,_,_,h1,h2,_⟩:=dd;exact⟨ob,h1,h2.2.1⟩
 ·obtain⟨_,hd,xs,_,dd⟩:=AI I.hok e;refine⟨dd.typeIs,λb q=>?_,hd⟩
  cases q
  obtain⟨ob,_,_,h1,h2,_⟩:=dd;exact⟨ob,h1,h2.2.1⟩
section
variable {X:Cx}{pins:cy}{σ:St}{H:Hp}{s:LV}{a:Addr}{y d:V}{u r:Value}{o:Option V}{A:Mq}{E:c5}
theorem FZ{Q:c5}(hu:A.units+1<cLine)(I:Inv X pins σ H s)(g:nc H a y o)(ry:bv y u)(rd:bv d r)(h:∀w' s',Inv X pins σ H s'->bv (o.getD d) w'->Q w' s') :
  L6 (Ma X.prog X.w) A (call (.builtin "dict.get") [.ref a,u,r]) Q E s:=by
 rcases g with⟨kvs,k,e,ey,l⟩ | ⟨kvs,k,b,e,ey,eb,l⟩
 ·subst ey;obtain⟨z,hd,vs,rel,dd⟩:=AJ I.hok e;refine call_meetsIn RF dd.typeIs entry_dict_get (args_dict_get_3 _ _ _) (meets_dict_get_default (cF X.prog X.w) a (An ry) hd r) ⟨_,dd.mapOf,h _ _ (I.tok _) ?_⟩;rw[l];exact(rel.val k).getD rd
 ·subst ey
  cases(show u=Ml b from ry)
  obtain⟨z,hd,xs,rel,dd⟩:=AI I.hok e;refine call_meetsIn RF dd.typeIs entry_dict_get (args_dict_get_3 _ _ _) (meetsH_dict_get_default (Qr (cF X.prog X.w)) a b hd r) ⟨RT hu,k,xs,tQ I.hok eb,dd,h _ _ (I.tok _) ?_⟩;rw[l];exact(rel.val k).getD rd
end
def IW(td ty:TE):TE:=λσ H Q=>td σ H λx H1=>∃a,x=.ref a/\JC H1 a/\ty σ H1 λy H2=>∃o,nc H2 a y o/\Q (o.getD .non) H2
def xt(td ty tx:TE):TE:=λσ H Q=>td σ H λx H1=>∃a,x=.ref a/\JC H1 a/\ty σ H1 λy H2=>tx σ H2 λz H3=>∃o,nc H3 a y o/\Q (o.getD z) H3
section
variable {X:Cx}{o e f:Mu}{apos cpos:Oo}{td ty tx:TE}
theorem zQ(hu:X.A.units+1<cLine)(ho:PE X o td)(he:PE X e ty)(hf:PE X f tx)(m:M2 X o "get" apos e f cpos):PE X (.Call (.Attribute o "get" apos) [e,f] [] cpos) (xt td ty tx):=by
 intro pins s σ H Q I h;refine Sg m.base m.few m.line plainAttrs_dict RF type_dict_get (cA (ho pins s σ H _ I h) λu s1 ⟨x,H1,I1,rx,a,ex,d,q1⟩=>?_);subst ex;obtain rfl:u=Ml a:=rx;obtain⟨t1,t2,_⟩:=Aq I1 d;refine⟨t1,t2,?_⟩;rw[m.trees];refine Calls.callWith_builtin Z (Calls.evalArgs_plain (Calls.spliced_cons (cA (he pins s1 σ H1 _ I1 q1) λiv s2 ⟨y,H2,I2,ry,q2⟩=>
  Calls.spliced_cons (cA (hf pins s2 σ H2 _ I2 q2) λfv s3 ⟨z,H3,I3,rz,ov,g,q3⟩=>Calls.spliced_nil ?_))))
 exact FZ hu I3 g ry rz λw' s4 I4 rw'=>⟨_,H3,I4,rw',q3⟩
end
end L2
namespace B
open PySem PySem.Spec L2 PyProof.Rows
theorem dk{α β:Type}{K:Fg}{H:Hp}{D a:Addr}{xs:List V}{ds:List α}{P:Hp->V->β->Prop}{f:α->β}{src:List (Option Nat)}{σ:L2.St}{g:TG}{tt:TT}{te:TE}{Q:Hp->Prop}
  (mono:∀H H' v d,aM K H H'->P H v d->P H' v d) (hD:H D=none) (hS:bH K H a xs) (hl:xs.length=ds.length) (hn:ds.length≤1000)
  (turn:∀(i:Nat) (x:V) (d:α) (H':Hp),xs[i]?=some x->ds[i]?=some d->aB H H'->∀(R:VK) (E:Hp->Prop),(∀v H'',aB H' H''->P H'' v (f d)->R v H'')→
   g x (cY src σ) H' λσ2 H2=>eU (cY src σ) σ2/\tt σ2 H2 λok H3=>if ok=true then te σ2 H3 R else E H3)
  (fin:∀H' ys,aB H H'->H' D=some (.lst ys)->cO (P H') ys (ds.map f)->Q H') :
  ∃W:Nat->Nat->List V->Hp->Prop,(∃m,W 0 m [] (upd H D (.lst [])))/\∀i m ys H,W i m ys H->((A3 K a).stop i H/\Q H)∨((A3 K a).go i H/\∀x H',(A3 K a).yld i H x H'→
   g x (cY src σ) H' λσ2 H2=>eU (cY src σ) σ2/\tt σ2 H2 λok H3=>
    if ok=true then te σ2 H3 λy H4=>H4 D=some (.lst ys)/\ys.length<sizeLine/\∃m',m'<m/\W (i+1) m' (ys++[y]) (upd H4 D (.lst (ys++[y]))) else ∃m',m'<m/\W (i+1) m' ys H3):=by
 refine⟨λi m ys H'=>i≤ds.length/\m=ds.length-i/\H' D=some (.lst ys)/\aB H H'/\cO (P H') ys ((ds.take i).map f),⟨_,Mx _,Z,ah,aj hD _,.nil⟩,?_⟩;rintro i m ys H1 ⟨hi,rfl,d1,s1,al1⟩;have hS1:bH K H1 a xs:=aM.same s1 _ _ hS;by_cases hix:i<ds.length
 ·have hx0:xs[i]?=some (xs[i]'(by omega)):=LL _;refine .inr ⟨⟨xs,_,hS1,hx0⟩,?_⟩;rintro x H2 ⟨rfl,hy⟩;have hx:=hy xs hS1;obtain⟨d,hd⟩:∃d,ds[i]?=some d:=⟨_,LL hix⟩;refine turn i x d _ hx hd s1 _ _ λv H3 s3 p3=>?_
  have d3:H3 D=some (.lst ys):=s3 _ _ d1;have tm:aM K H2 (upd H3 D (.lst (ys++[v]))):=(aM.same s3).trans (aM.up d3 _);refine⟨d3,be (by rw[al1.len,LO,Of];omega),ds.length-(i+1),by omega,hix,Z,ah,λb o q=>?_,?_⟩
  ·rw[aE (aX q hD)];exact s3 _ _ (s1 _ _ q)
  ·rw[MN,hd,Ni];exact(al1.mono λv d p=>mono _ _ _ _ tm p).snoc (mono _ _ _ _ (aM.up d3 _) p3)
 ·have e:i=ds.length:=by omega
  subst e;rw[M4] at al1;exact .inl ⟨⟨xs,hS1,by omega⟩,fin H1 ys s1 d1 al1⟩
def Ku:PyData->String
 | .none => "NoneType"
 | .bool _ => "bool"
 | .int _ => "int"
 | .str _ => "str"
 | .list _ => "list"
 | .tuple _ => "tuple"
 | .dict _ => "dict"
def G1(K:Fg):List V->Hp->VK->Prop:=λxs H Q=>∃v d n b,xs=[v,.ty n]/\bP K H v d/\d7 (Ku d) n=some b/\Q (.bl b) H
theorem bh:dX X (.builtin "isinstance") (G1 X.K):=by
 intro pins s σ H xs us Q I r h;obtain⟨v,d,n,b,rfl,hD,e,q⟩:=h
 cases hD with
 |non=>exact gD pins s σ H _ us Q I r ⟨_,n,_,b,Z,.non,e,q⟩
 |bl c=>exact gD pins s σ H _ us Q I r ⟨_,n,_,b,Z,.bl c,e,q⟩
 |int i=>exact gD pins s σ H _ us Q I r ⟨_,n,_,b,Z,.int i,e,q⟩
 |str x=>exact gD pins s σ H _ us Q I r ⟨_,n,_,b,Z,.str x,e,q⟩
 | @tup a ys ds hS hA=>exact wK pins s σ H _ us Q I r ⟨a,ys,n,b,Z,hS,e,q⟩
 | @lst a ys ds hS hA=>
  obtain⟨u,u2,rfl,rx,ry⟩:=ul r;obtain rfl:u2=Oj n:=ry
  cases(show u=Ml a from rx)
  obtain⟨its,_,⟨o,k,h1,h2,_⟩,_⟩:=I.list hS;exact OJ TH I.kIn ⟨o,h1,h2⟩ (tP e) (λz=>nomatch z) λtk=>⟨.bl b,H,I.tok tk,Z,q⟩
def IQ:PyData->Bool
 | .int _=>true
 |_=>false
def Kw(n:Nat):PyData->Bool
 | .tuple xs=>decide (xs.length=n)
 |_=>false
def GS:PyData->Bool
 | .tuple [.int a,.int b]=>decide (1≤b)&&decide (Int.gcd a b=1)
 |_=>false
def Kc:PyData->Bool
 | .tuple [x,y]=>GS x&&GS y
 |_=>false
structure Sh(k n:Nat)(d:PyData):Prop where
 sh:d.showable=true
 nd:d.hasDict=false
 dp:d.depth≤k
 sz:d.shown.length≤n
theorem Sh.mono(h:Sh k n d)(hk:k≤k')(hn:n≤n'):Sh k' n' d:=⟨h.sh,h.nd,MG h.dp hk,MG h.sz hn⟩
theorem Sh.all{k n:Nat}:∀{ds:List PyData},(∀d∈ds,Sh k n d)->RU ds=true/\Si ds=false/\NE ds≤k/\((OC ds).map (·.length)).sum≤n*ds.length/\(OC ds).length=ds.length
 | [],_=>⟨Z,Z,Mx _,Mx _,Z⟩
 |d::ds,h=>by
  obtain⟨a,b,c,e,f⟩:=Sh.all (ds:=ds) λx hx=>h x (L3 _ hx)
  have z:=h d LY;refine⟨?_,?_,?_,?_,?_⟩
  ·show(d.showable&&RU ds)=true;rw[z.sh,a];rfl
  ·show(d.hasDict||Si ds)=false;rw[z.nd,b];rfl
  ·show max d.depth (NE ds)≤k;exact Nat.max_le.mpr ⟨z.dp,c⟩
  ·show d.shown.length+((OC ds).map (·.length)).sum≤n*(ds.length+1);have:=z.sz;rw[Qu];omega
  ·show(OC ds).length+1=ds.length+1;rw[f]
theorem Sh.tup(h:∀d∈ds,Sh k n d)(hm:ds.length≤m)(hN:(n+3)*m+8≤N):Sh (k+1) N (.tuple ds):=by
 obtain⟨a,b,c,e,f⟩:=Sh.all h;refine⟨a,b,PQ c,?_⟩;show(tupleText (OC ds)).length≤N;have q:=tupleText_len_le (OC ds);have l:n*ds.length+3*ds.length≤(n+3)*m:=by
  rw[←SL];exact OB _ hm
 omega
theorem Sh.shows(h:Sh k n d)(hk:k≤16)(hn:n≤16777216):A1 d:=⟨h.sh,h.nd,MG h.sz (MG hn (by decide)),MG h.dp hk⟩
mutual
theorem bP.same{K:Fg}{H H':Hp}(s:aB H H'):∀{v:V} {d:PyData},bP K H v d->bP K H' v d
 |_,_,.non=>.non
 |_,_,.bl b=>.bl b
 |_,_,.int i=>.int i
 |_,_,.str x=>.str x
 |_,_,.lst e t=>.lst (s.seq e) (bu.same s t)
 |_,_,.tup e t=>.tup (aM.same s _ _ e) (bu.same s t)
theorem bu.same{K:Fg}{H H':Hp}(s:aB H H'):∀{vs:List V} {ds:List PyData},bu K H vs ds->bu K H' vs ds
 |_,_,.nil=>.nil
 |_,_,.cons h t=>.cons (bP.same s h) (bu.same s t)
end
end B
namespace B
open PySem PySem.Spec L2 PyProof.Rows
def J8(K:Fg):R2:=λx y H Q=>∃a b xs ys,x=.ref a/\y=.ref b/\bH K H a xs/\bH K H b ys/\xs.length+ys.length≤sizeLine/\∀p H',aB H H'->bH K H' p (xs++ys)->Q (.ref p) H'
def Ja(K:Fg):V->Option Int->Option Int->Hp->VK->Prop:=λx lo hi H Q=>∃a xs,x=.ref a/\bH K H a xs/\∀p H',aB H H'->bH K H' p (jP xs lo hi)->Q (.ref p) H'
theorem uB:wV X (Ja X.K):=by
 intro pins s σ H x v vl vu lo hi sl Q I rx hs pl pu h;obtain⟨a,xs,rfl,hx,q⟩:=h;refine Bp pins s σ H _ v vl vu lo hi sl Q I rx hs pl pu ?_;by_cases c:HT.sIx xs.length 0 lo=0/\HT.sIx xs.length xs.length hi=xs.length
 ·refine .inl ⟨a,xs,Z,hx,c.1,c.2,q a H (aB.refl H) ?_⟩;have e:jP xs lo hi=xs:=by
   unfold jP;rw[c.1,c.2,drop_zero,sub_zero,M4]
  rw[e];exact hx
 ·exact .inr ⟨a,xs,Z,hx,c,λp hp=>q p _ (aj hp _) (bH.of ah)⟩
theorem F8{xs:List V}(h:n≤xs.length):jP xs none (some (n:Int))=xs.take n:=by
 unfold jP;rw[HT.sIx_nat,HT.sIx_none,SN h,sub_zero,drop_zero]
def HZ(K:Fg)(s:Addr):Prop:=∃ns:List Int,ns.length≤63/\∀H:Hp,aS K H s (ns.map V.int)
structure cN(K:Fg)(H:Hp)(t s:Addr):Prop where
 ex:∃(ns:List Int) (p q:Int),H t=some (.lst [.ref s,.int p,.int q])/\((Rd H s (.lst (ns.map V.int))/\s≠t)∨∀H',aS K H' s (ns.map V.int))/\ns.length≤63/\0≤p/\0≤q
theorem Bw(h:Rd H a u)(z:aB H H'):Rd H' a u:=by
 rcases h with h | ⟨o,h⟩
 ·exact .inl (z _ _ h)
 ·exact .inr ⟨o,z _ _ h⟩
theorem pP(h:Rd H a u)(n:l≠a):Rd (upd H l o) a u:=by
 unfold Rd;rw[aE n.symm];exact h
theorem yX(h:Rd H a u)(n:H l=none):l≠a:=λe=>by
 subst e;rcases h with h | ⟨o,h⟩
 ·rw[n] at h;cases h
 ·rw[n] at h;cases h
theorem cN.lst{K:Fg}{H:Hp}{t s:Addr}(h:cN K H t s):∃xs,H t=some (.lst xs):=let ⟨_,_,_,e,_⟩:=h.ex;⟨_,e⟩
theorem cN.same{K:Fg}{H H':Hp}{t s:Addr}(h:cN K H t s)(z:aB H H'):cN K H' t s:=by
 obtain⟨ns,p,q,h1,h2,h3⟩:=h.ex;refine⟨ns,p,q,z _ _ h1,?_,h3⟩;rcases h2 with⟨a,b⟩|a
 ·exact .inl ⟨Bw a z,b⟩
 ·exact .inr a
theorem cN.new{K:Fg}{H:Hp}{t s p:Addr}(h:cN K H t s)(n:H p=none)(o:HO):cN K (upd H p o) t s:=h.same (aj n o)
theorem cN.off{K:Fg}{H:Hp}{t s D:Addr}(h:cN K H t s)(n:H D=none):D≠s∨HZ K s:=by
 obtain⟨ns,p,q,_,h2,h3,_⟩:=h.ex;rcases h2 with⟨a,_⟩|a
 ·exact .inl (yX a n)
 ·exact .inr ⟨ns,h3,a⟩
theorem cN.upl{K:Fg}{H:Hp}{t s l:Addr}(h:cN K H t s)(a:l≠t)(b:l≠s∨HZ K s)(o:HO):cN K (upd H l o) t s:=by
 obtain⟨ns,p,q,h1,h2,h3⟩:=h.ex;rcases b with b | ⟨ms,m3,m⟩
 ·refine⟨ns,p,q,by rw[aE a.symm];exact h1,?_,h3⟩;rcases h2 with⟨c,d⟩|c
  ·exact .inl ⟨pP c b,d⟩
  ·exact .inr c
 ·exact⟨ms,p,q,by rw[aE a.symm];exact h1,.inr m,m3,h3.2⟩
def xI(K:Fg):Sp:=λvs H Q _=>∃(a:Addr) (ns:List Int),vs=[.ref a]/\aS K H a (ns.map V.int)/\ns.length≤63/\∀(t:Addr) (H':Hp),aB H H'->H t=none->cN K H' t a->Q (.ref t) H'
def xK(K:Fg):Sp:=λvs H Q _=>∃(t s:Addr) (m:Int),vs=[.ref t,.int m]/\cN K H t s/\0<m/\m<1073741824/\∀(r:Int) (xs:List V),0≤r->r<m->cN K (upd H t (.lst xs)) t s->Q (.int r) (upd H t (.lst xs))
theorem cN.mk3{K:Fg}{H:Hp}{t a:Addr}{ns:List Int}(hS:aS K H a (ns.map V.int))(hl:ns.length≤63)(ht:H t=none):cN K (upd H t (.lst [.ref a,.int 0,.int 0])) t a:=by
 refine⟨ns,0,0,ah,?_,hl,Int.le_refl _,Int.le_refl _⟩;rcases hS with h|h
 ·exact .inl ⟨pP h (yX h ht),(yX h ht).symm⟩
 ·exact .inr λ_=>.inr h
section
set_option autoImplicit true
set_option relaxedAutoImplicit true
theorem k8{X:Cx}{elts:List Mu}{x1}{tp p pos:Oo}{a:Mu}{ta:TA}(hg:Gl X "enumerate")(hm:X.mg "enumerate"=none)(ha:QA X [a] ta)(hs:L4 [a] X.env=[(false,eval a X.env)]:=by rfl):QI X (.Tuple elts x1 tp) (.Call (.Name "enumerate" p) [a] [] pos) (HG X.K ta):=⟨BW hg hm ha.p hs⟩
theorem rg{X:Cx}{elts:List Mu}{x1}{tp p pos:Oo}{a:Mu}{ta:TA}(hg:Gl X "enumerate")(hm:X.mg "enumerate"=none)(ha:QA X [a] ta)(hs:L4 [a] X.env=[(false,eval a X.env)]:=by rfl):QI X (.Tuple elts x1 tp) (.Call (.Name "enumerate" p) [a] [] pos) (HJ X.K ta):=⟨zH hg hm ha.p hs⟩
end
theorem lg:∀{ns:List Int} {us:List Value},bj (ns.map V.int) us->N8 us ns
 | [],_,.nil=>.nil
 |n::ns,_,.cons r t=>by
  obtain⟨tk,rfl⟩:=(show ∃t,_=Oc n t from r);exact .cons _ _ (lg t)
theorem oB(hc:X.calm=true):dX X (.builtin "sum") (λxs H Q=>∃(p:Addr) (ns:List Int),xs=[.ref p]/\aS X.K H p (ns.map V.int)/\Q (.int ns.sum) H):=by
 intro pins s σ H xs us Q I r h;obtain⟨p,ns,rfl,hq,q⟩:=h;obtain⟨u,rfl,rx⟩:=gm r
 cases rx
 obtain⟨its,rv,pl,hz⟩:=I.list hq;have hi:=lg rv;obtain⟨zs,ez⟩:=hi.allInts.items;have hl:=pl.isList;rw[ez] at hl;have en:numsOf its=ns:=hi.numsOf;rw[show its=its.toArray.toList from Z,ez,RG] at en;refine sum_intListG (I.ok.hd hc) hl λh' tk t' hk=>?_
 rw[preSum_eq,Qf (by simp),en];exact⟨.int ns.sum,H,I.kept (t':=tk) hk,⟨_,Z⟩,q⟩
theorem rX:∀{bs:List Bool} {us:List Value},bj (bs.map V.bl) us->∀{i:Nat} {v:Value},us[i]?=some v->v=.bool (bs.getD i true)
 | [],_,.nil,i,v,e=>by cases e
 |b::bs,_,.cons r t,0,v,e=>by
  rw[N6] at e
  cases e
  exact(show _=OM b from r)
 |b::bs,_,.cons r t,i+1,v,e=>by
  rw[N7] at e;exact rX t e
theorem oO:∀(bs:List Bool),(range bs.length).all (λi=>bs.getD i true)=bs.all id
 | []=>rfl
 |b::bs=>by
  rw[MS,Qg,Td,all_map,Td];have:=oO bs;show(b&&(range bs.length).all (λi=>bs.getD i true))=(id b&&bs.all id);rw[this];rfl
theorem oF(hc:X.calm=true):dX X (.builtin "all") (λxs H Q=>∃(p:Addr) (bs:List Bool),xs=[.ref p]/\aS X.K H p (bs.map V.bl)/\Q (.bl (bs.all id)) H):=by
 intro pins s σ H xs us Q I r h;obtain⟨p,bs,rfl,hq,q⟩:=h;obtain⟨u,rfl,rx⟩:=gm r
 cases rx
 obtain⟨its,rv,pl,hz⟩:=I.list hq;have ne:p≠s.heap.objs.size:=by
  obtain⟨o,ho,_⟩:=pl.isList;exact Nc (Mv ho)
 have hlen:its.toArray.size=bs.length:=by rw[Mz,←rv.length,LO]
 refine call_all_walk (Pk pl.isList ?_);refine⟨_,_,_,_,_,_,λi=>bs.getD i true,Z,Walks.list (A:=X.A.in1) (I.ok.hd hc) _ p ne its.toArray,⟨⟨_,Mm _ Z,Z,Z⟩,pl.isList.push _⟩,λi v s' Q' E' hv hQ=>?_,λh' tk hk=>?_⟩
 ·have e:=rX rv (i:=i) (v:=v) (by simpa using hv);subst e;exact Nk hQ
 ·rw[hlen,oO];refine⟨.bl _,H,I.kept (t':=tk) λb o e=>hk b o (λz=>?_) (LU _ e),Z,q⟩;rw[LP.mp z] at e;exact absurd (Mv e) (Na _)
section
variable {prog:Mo}{w:MD}{A:Mq}{E:c5}{s:LV}
theorem nJ{a b c:Int}{n:Nat}(hh:A.handled=none)(hr:Qc s.heap r a b c t u v)(hsmall:Ub a b c=true)
  (hn:Pd a b c=n) (hlen:n≤2^24)
  (hQ:∀h' tk acc,(∀b o,s.heap.get? b=some o->h'.get? b=some o)->SS (λi v=>∃t,v=.int (a+i*c) t) acc n->Q acc.toList { s with heap:=h',toks:=tk}):
  L6 (Ma prog w) A (TW (.ref r)) Q E s:=by
 unfold TW;refine LM (wpAny_runValue (PL F.entry_proto_collect ?_));rw[OR F.plain_proto_collect _];show L6 _ A.in1 (Sc [] >>= λl=>again (.builtin "list.__iadd__" ⟨[l,.ref r],[]⟩)) _ _ s;refine LM (MQ ?_);refine L1 ⟨plainId_quiet F.plain_list_iadd _,PL F.entry_list_iadd ?_⟩;rw[OR F.plain_list_iadd _];show L6 _ A.in1 (PR (.ref s.heap.objs.size) (.ref r) (.ref s.heap.objs.size)) _ _ { s with heap:=s.heap.push { cls:=.type "list",data:=.seq ([]:List Value).toArray} };refine RW (R:=wants (λv s'=>L6 (Ma prog w) A (match v with | .ref a=>(do match (←load a).data with | .seq xs _=>Nt xs.toList|_=>Rc "internal:collect")|_=>Rc "internal:collect") Q E s') E) (s:={ s with heap:=s.heap.push { cls:=.type "list",data:=.seq ([]:List Value).toArray} }) hh (LU _ hr) hsmall hn hlen s.heap.objs.size _ _ (Mm _ rfl) λh' tk acc' c' hk hS hI=>?_
 show L6 _ A (load s.heap.objs.size >>= _) _ _ _;refine LM (SZ hS ?_);exact L1 (hQ h' tk acc' (λb o e=>hk b o (Nc (Mv e)) (LU _ e)) hI)
theorem jF{a b c:Int}{n:Nat}(hsmall:Ub a b c=true)(hn:Pd a b c=n)(hlen:n≤2^24):
  Meets (NJ.«tuple.__new__» ⟨[.type "tuple",.ref r],[]⟩)
   (λA R s=>A.handled=none/\Qc s.heap r a b c t u v/\∀(h':MA) (tk:Nat) (acc:Array Value),(∀b o,s.heap.get? b=some o->h'.get? b=some o)->SS (λi v=>∃t,v=.int (a+i*c) t) acc n→
    R (.ok (.ret (.ref h'.objs.size))) { s with heap:=h'.push { cls:=.type "tuple",data:=.seq acc},toks:=tk}):=
 .of_wp λprog w A R s h=>by
  obtain⟨hh,hr,h⟩:=h;have hsub:=sub_tuple_self;have hinit:=init_tuple_lookup;have hmh:=madeHere_tuple;have hT:s.TypeIs (.ref r) "range" := ⟨_,hr,Z⟩;have hh1:A.in1.handled=none:=hh
  wp_walk using QK hT,nJ hh1 hr hsmall hn hlen
  intro h' tk acc hk hacc;show L6 _ _ (P2 acc.toList.toArray >>= λv=>ret v) _ _ _;unfold P2;refine LM (MQ ?_ (show acc.toList.toArray.size≤sizeLine by simp only[toArray_toList];rw[hacc.1,NV];exact hlen));refine L1 ⟨_,Z,?_⟩;have e:acc.toList.toArray=acc:=by simp
  rw[e];exact h h' tk acc hk hacc
theorem ko{Q:c5}{r:Addr}{a b c:Int}{t u v:TX}{n:Nat}(hh:A.handled=none)(hr:Qc s.heap r a b c t u v)(hsmall:Ub a b c=true)
  (hn:Pd a b c=n) (hlen:n≤2^24)
  (hQ:∀(h':MA) (tk:Nat) (acc:Array Value),(∀b o,s.heap.get? b=some o->h'.get? b=some o)->SS (λi v=>∃t,v=.int (a+i*c) t) acc n->Q (.ref h'.objs.size) { s with heap:=h'.push { cls:=.type "tuple",data:=.seq acc},toks:=tk}) :
  L6 (Ma prog w) A (call (.type "tuple") [.ref r]) Q E s:=by
 refine callType_new F.called_tuple (by decide) (F.typeCall_tuple_1 _) (F.newCall_tuple_1 _) (λobj=>F.args_object_init_2 obj _) F.entry_tuple_new
  (jF hsmall hn hlen) ⟨hh,hr,λh' tk acc hk hacc=>⟨⟨_,Mm _ Z,Z⟩,hQ h' tk acc hk hacc⟩⟩
end
def upTo(n:Nat):List Int:=(range n).map λi:Nat=>(i:Int)
theorem lD(h:SS (λi v=>∃t,v=.int ((0:Int)+i*1) t) acc n):bj ((upTo n).map V.int) acc.toList:=by
 obtain⟨hl,ha⟩:=h;have key:∀m,m≤n->bj ((upTo m).map V.int) (acc.toList.take m):=by
  intro m
  induction m with
  |zero=>intro _;rw[Sy];exact .nil
  |succ m ih=>
   intro hm;have hlt:m<acc.size:=by omega
   have e1:acc.toList.take (m+1)=acc.toList.take m++[acc[m]]:=by
    rw[MN];simp[hlt]
   have e2:(upTo (m+1)).map V.int=(upTo m).map V.int++[V.int m]:=by
    unfold upTo;rw[Nj];simp
   rw[e1,e2];refine(ih (by omega)).append (.cons ?_ .nil);obtain⟨t,e⟩:=ha m acc[m] (by simp[hlt]);exact⟨t,by rw[e];simp⟩
 have:=key n (LN _)
 rwa [Qf (by simp[hl])] at this
def CV(ta:TA):TE:=λσ H Q=>ta σ H λvs H1=>∃j:Int,vs=[.int j]/\∀p,H1 p=none->Q (.ref p) (upd H1 p (.rng 0 j))
theorem B1{X:Cx}{a:Mu}{ta:TA}{p pos:Oo}(hg:Gl X "range")(hm:X.mg "range"=none)(ha:PA X [a] ta)(hs:L4 [a] X.env=[(false,eval a X.env)]:=by rfl) :
  PE X (.Call (.Name "range" p) [a] [] pos) (CV ta):=by
 intro pins s σ H Q I h;refine TY (gj I hg hm RL (MZ (cA (ha pos pins s σ H _ I h) λus s1 ⟨vs,H1,I1,r1,q1⟩=>?_) hs Z));obtain⟨j,e,q⟩:=q1;subst e;obtain⟨u,rfl,t,rfl⟩:=gm r1;refine call_range_1 ?_;exact⟨.ref s1.heap.objs.size,_,I1.laid (o:=.rng 0 j) (λb o e=>LU _ e) (LN _) ⟨_,t,_,Mm _ Z⟩,Z,q _ (I1.hok.fresh (LN _))⟩
theorem uC(n:Nat):Pd 0 n 1=n:=by rw[Rz];split<;>omega
theorem rW(hc:X.calm=true):dX X (.type "tuple") (λxs H Q=>∃p,∃n:Nat,xs=[.ref p]/\H p=some (.rng 0 n)/\n≤1000/\∀l,H l=none->Q (.ref l) (upd H l (.tup ((upTo n).map V.int)))):=by
 intro pins s σ H xs us Q I r h;obtain⟨p,n,rfl,hp,hn,q⟩:=h;obtain⟨u,rfl,rx⟩:=gm r
 cases rx
 obtain⟨t,u,w,e⟩:=(show ObjOk X.prog X.w H s.heap p (.rng 0 n) from I.hok p _ hp);refine ko (I.ok.hd hc) (show Qc s.heap p 0 n 1 t u w from e) (Sq (by omega) (by omega) (by omega) (by omega)) (uC n) (by omega) λh' tk acc hk hi=>?_
 have rv:=lD hi;have I1:Inv X pins σ H { s with heap:=h',toks:=tk}:=I.kept (t':=tk) hk;have hl:(upTo n).length=n:=by unfold upTo;simp
 have I2:Inv X pins σ (upd H h'.objs.size (.tup ((upTo n).map V.int))) { s with heap:=h'.push { cls:=.type "tuple",data:=.seq acc},toks:=tk}:=
  I1.laid (t':=tk) (λb o e=>LU _ e) (LN _) (show ObjOk X.prog X.w _ _ _ (.tup ((upTo n).map V.int)) from⟨by rw[LO,hl,NV];omega,acc.toList,rv,by have:=So h' acc;simpa using this⟩)
 exact⟨.ref h'.objs.size,_,I2,Z,q _ (I1.hok.fresh (LN _))⟩
def Ik(hi:Int)(n:Nat):It:=⟨λi _=>i<n,λi H x H'=>H'=H/\x=.int (hi-i),λi _=>n≤i⟩
theorem vw{P:Mo}{w:MD}{K:Fg}{tg:Mu}(it:Addr)(lo:Int)(n:Nat):sg P w K tg (Ik lo n) [it] it (λi h=>Q2 h it (lo+(i:Nat)*(-1)) ((n:Int)-(i:Nat)) (-1)) where
 mem:=by simp
 obj:=λi h st b hb=>by
  have e:b=it:=by simpa using hb
  subst e;exact⟨_,st,λv z=>by
   have z':Qb _=Rj v:=z
   cases z'⟩
 keep:=λi h h' st k=>k it (by simp) _ st
 item:=by
  intro X hP hw hK hc i pins s σ H E I hf st hg;subst hP hw hK;obtain⟨f0,f1,f2,f3,f4,f5⟩:=hf it (by simp);have W:=Walks.range (prog:=X.prog) (w:=X.w) (I.ok.hd hc) it lo (-1) n;refine W.item i s _ _ hg st λv h' tk hv st' kk=>?_
  obtain⟨t,rfl⟩:=hv;have I1:Inv X pins σ H { s with heap:=h',toks:=tk}:=I.turned (λb o hb e=>kk b o (by simpa using hb) e) f0 f1 f3 f4 f5;refine⟨_,rfl,uW (s:={ s with heap:=h',toks:=tk}) (n := "range_iterator") st' rfl rfl (by decide) ⟨.int (lo-i),H,I1,⟨t,?_⟩,⟨rfl,rfl⟩,st',λb hb=>(hf b hb).1⟩⟩;rw[show lo+(i:Int)*(-1)=lo-i by omega]
 done:=by
  intro X hP hw hK hc i pins s σ H E I hf st hg;subst hP hw hK;obtain⟨f0,f1,f2,f3,f4,f5⟩:=hf it (by simp);exact Qy (I.ok.hd hc) st (by have:n≤i:=hg;omega) λh' eb=>⟨Z,I.turned (t':=s.toks) (λb o hb e=>eb b o hb e) f0 f1 f3 f4 f5⟩
 self:=λ_ _ _ _ _ st h=>Qz st h
theorem nV(a b:Int):Pd a b (-1)=((a-b).toNat:Nat):=by
 unfold Pd;rw[if_neg (by decide)]
 split
 ·rw[show(-(-1):Int)=1 by decide,Tc];omega
 ·omega
theorem sN(ha:-1000≤a)(ha':a≤1000)(hb:-1000≤b)(hb':b≤1000):Ub a b (-1)=true:=by
 unfold Ub;rw[nV];simp only[rangeFitsLong,ME,QQ,decide_eq_true_eq,beq_iff_eq,show ¬(-1:Int)>0 by decide,if_false];omega
def De(ta:TA):TI:=λσ H R=>ta σ H λvs H1=>∃i j:Int,vs=[.int i,.int j,.int (-1)]/\(-1000≤i/\i≤1000/\-1000≤j/\j≤1000)/\R (Ik i (i-j).toNat) H1
theorem vX{X:Cx}{tg:Mu}{a b c:Mu}{ta:TA}{p pos:Oo}(hg:Gl X "range")(hm:X.mg "range"=none)(ha:PA X [a,b,c] ta)(hs:L4 [a,b,c] X.env=[(false,eval a X.env),(false,eval b X.env),(false,eval c X.env)]:=by rfl)(hs2:L4 [b,c] X.env=[(false,eval b X.env),(false,eval c X.env)]:=by rfl) :
  PI X tg (.Call (.Name "range" p) [a,b,c] [] pos) (De ta):=by
 intro pins s σ H R I h;refine TY (gj I hg hm RL (MZ (cA (ha pos pins s σ H _ I h) λus s1 ⟨vs,H1,I1,r1,q1⟩=>?_) (by rw[hs,hs2]) (by rw[hs2];rfl)));obtain⟨i,j,e,⟨q1,q2,q3,q4⟩,q⟩:=q1;subst e
 cases r1 with
 |cons r rr=>
  cases rr with
  |cons r' rr=>
   cases rr with
   |cons r'' rr=>
    cases rr
    obtain⟨t,rfl⟩:=r;obtain⟨t',rfl⟩:=r';obtain⟨t'',rfl⟩:=r'';refine call_range_3 (by decide) ?_ (.inl (QC (by decide)));refine RK (Qc.new ..) (sN q1 q2 q3 q4) ?_;have I2:Inv X pins σ H1 { s1 with heap:=s1.heap.push { cls:=.type "range",data:=.fields #[.int i t,.int j t',.int (-1) t'']},toks:=s1.toks}:=I1.kept λb o e=>LU _ e
    refine⟨(s1.heap.push { cls:=.type "range",data:=.fields #[.int i t,.int j t',.int (-1) t'']}).objs.size,[(s1.heap.push { cls:=.type "range",data:=.fields #[.int i t,.int j t',.int (-1) t'']}).objs.size],_,_,H1,Z,
     I2.kept (t':=s1.toks) λb o e=>LU _ e,vw _ i (i-j).toNat,?_,λb hb=>?_,q⟩
    ·have e1:i+((0:Nat):Int)*(-1)=i:=by simp
     have e2:(((i-j).toNat:Nat):Int)-((0:Nat):Int)=Pd i j (-1):=by rw[nV];omega
     show Q2 _ _ (i+((0:Nat):Int)*(-1)) ((((i-j).toNat:Nat):Int)-((0:Nat):Int)) (-1);rw[e1,e2];exact Mm _ Z
    ·have e:b=(s1.heap.push { cls:=.type "range",data:=.fields #[.int i t,.int j t',.int (-1) t'']}).objs.size:=by simpa using hb
     subst e;exact I2.fpOk (LN _) (I2.hok.fresh (LN _))
theorem Az{hi:Int}{n:Nat}{g:TG}{tb:TS}{D:iN}{σ:L2.St}{H:Hp}(Pv:Nat->L2.St->Hp->Prop)(h0:Pv 0 σ H)
  (hs:∀i σ H,i<n->Pv i σ H->g (.int (hi-i)) σ H λσ2 H2=>tb { D with nx:=Pv (i+1),ct:=Pv (i+1),bk:=D.nx} σ2 H2) (hd:∀σ H,Pv n σ H->D.nx σ H) :
  ∃W:Nat->Nat->L2.St->Hp->Prop,(∃m,W 0 m σ H)/\∀i m σ H,W i m σ H→
   ((Ik hi n).stop i H/\D.nx σ H)∨((Ik hi n).go i H/\∃N:L2.St->Hp->Prop,(∀σ' H',N σ' H'->∃m',m'<m/\W (i+1) m' σ' H')/\∀x H',(Ik hi n).yld i H x H'->g x σ H' λσ2 H2=>tb { D with nx:=N,ct:=N,bk:=D.nx} σ2 H2):=by
 refine⟨λi m σ H=>m=n-i/\i≤n/\Pv i σ H,⟨_,Z,Mx _,h0⟩,?_⟩;rintro i m σ H ⟨rfl,hi',p⟩;by_cases hlt:i<n
 ·refine .inr ⟨hlt,Pv (i+1),λσ' H' p'=>⟨n-(i+1),by omega,Z,hlt,p'⟩,λx H' y=>?_⟩;obtain⟨rfl,rfl⟩:=y;exact hs i σ _ hlt p
 ·have e:i=n:=by omega
  subst e;exact .inl ⟨LN _,hd σ H p⟩
section
set_option autoImplicit true
set_option relaxedAutoImplicit true
theorem jA{X:Cx}{a:Mu}{ta:TA}{p pos:Oo}(hg:Gl X "range")(hm:X.mg "range"=none)(ha:QA X [a] ta)(hs:L4 [a] X.env=[(false,eval a X.env)]:=by rfl):QE X (.Call (.Name "range" p) [a] [] pos) (CV ta):=⟨B1 hg hm ha.p hs⟩
theorem vR{X:Cx}{tg:Mu}{a b c:Mu}{ta:TA}{p pos:Oo}(hg:Gl X "range")(hm:X.mg "range"=none)(ha:QA X [a,b,c] ta)(hs:L4 [a,b,c] X.env=[(false,eval a X.env),(false,eval b X.env),(false,eval c X.env)]:=by rfl)(hs2:L4 [b,c] X.env=[(false,eval b X.env),(false,eval c X.env)]:=by rfl):QI X tg (.Call (.Name "range" p) [a,b,c] [] pos) (De ta):=⟨vX hg hm ha.p hs hs2⟩
end
structure Gv(J:It)(H:Hp)(n:Nat)(P:Nat->V->Hp->Prop):Prop where
 go:∀i H',i<n->aB H H'->J.go i H'
 stop:∀H',aB H H'->J.stop n H'
 yld:∀i H' x H'',i<n->aB H H'->J.yld i H' x H''->aB H' H''/\P i x H''
theorem cT{K:Fg}{H:Hp}{a:Addr}{xs:List V}(h:aS K H a xs):Gv (Gm K a) H xs.length (λi x _=>xs[i]?=some x) where
 go:=λi H' hi s=>⟨xs,_,s.seq h,LL hi⟩
 stop:=λH' s=>⟨xs,s.seq h,LN _⟩
 yld:=λi H' x H'' hi s y=>by obtain⟨rfl,hy⟩:=y;exact⟨aB.refl _,hy xs (s.seq h)⟩
theorem jj{K:Fg}{H:Hp}{a:Addr}{xs:List V}(h:bH K H a xs):Gv (A3 K a) H xs.length (λi x _=>xs[i]?=some x) where
 go:=λi H' hi s=>⟨xs,_,aM.same s _ _ h,LL hi⟩
 stop:=λH' s=>⟨xs,aM.same s _ _ h,LN _⟩
 yld:=λi H' x H'' hi s y=>by obtain⟨rfl,hy⟩:=y;exact⟨aB.refl _,hy xs (aM.same s _ _ h)⟩
theorem jk{lo:Int}{n:Nat}:Gv (CO lo n) H n (λi x _=>x=.int (lo+i)) where
 go:=λi H' hi s=>hi
 stop:=λH' s=>LN _
 yld:=λi H' x H'' hi s y=>by obtain⟨rfl,rfl⟩:=y;exact⟨aB.refl _,Z⟩
theorem oU{K:Fg}{H:Hp}{a:Addr}{xs:List V}(h:bH K H a xs):Gv (wQ K a) H xs.length (λi v H'=>∃p x,v=.ref p/\xs[i]?=some x/\H' p=some (.tup [.int i,x])) where
 go:=λi H' hi s=>⟨xs,_,aM.same s _ _ h,LL hi⟩
 stop:=λH' s=>⟨xs,aM.same s _ _ h,LN _⟩
 yld:=λi H' x H'' hi s y=>by obtain⟨p,v,hp,rfl,rfl,hy⟩:=y;exact⟨aj hp _,p,v,Z,hy xs (aM.same s _ _ h),ah⟩
theorem Bc{K:Fg}{H:Hp}{a:Addr}{xs:List V}(h:aS K H a xs):Gv (wR K a) H xs.length (λi v H'=>∃p x,v=.ref p/\xs[i]?=some x/\H' p=some (.tup [.int i,x])) where
 go:=λi H' hi s=>⟨xs,_,s.seq h,LL hi⟩
 stop:=λH' s=>⟨xs,s.seq h,LN _⟩
 yld:=λi H' x H'' hi s y=>by obtain⟨p,v,hp,rfl,rfl,hy⟩:=y;exact⟨aj hp _,p,v,Z,hy xs (s.seq h),ah⟩
theorem bC{J:It}{H:Hp}{D:Addr}{n:Nat}{P:Nat->V->Hp->Prop}(w:Gv J H n P)(c:Nat->Bool)(f:Nat->V){src:List (Option Nat)}{σ:L2.St}{g:TG}{tt:TT}{te:TE}{Q:Hp->Prop}(hD:H D=none)(hn:n≤1000)
  (turn:∀(i:Nat) (x:V) (H':Hp),i<n->aB H H'->P i x H'->∀(R:VK) (E:Hp->Prop),(c i=true->∀H'',aB H' H''->R (f i) H'')->(c i=false->∀H'',aB H' H''->E H'')→
   g x (cY src σ) H' λσ2 H2=>eU (cY src σ) σ2/\tt σ2 H2 λok H3=>if ok=true then te σ2 H3 R else E H3)
  (fin:∀H',aB H H'->H' D=some (.lst (((range n).filter c).map f))->Q H') :
  ∃W:Nat->Nat->List V->Hp->Prop,(∃m,W 0 m [] (upd H D (.lst [])))/\∀i m ys H,W i m ys H->(J.stop i H/\Q H)∨(J.go i H/\∀x H',J.yld i H x H'→
   g x (cY src σ) H' λσ2 H2=>eU (cY src σ) σ2/\tt σ2 H2 λok H3=>
    if ok=true then te σ2 H3 λy H4=>H4 D=some (.lst ys)/\ys.length<sizeLine/\∃m',m'<m/\W (i+1) m' (ys++[y]) (upd H4 D (.lst (ys++[y]))) else ∃m',m'<m/\W (i+1) m' ys H3):=by
 refine⟨λi m ys H'=>i≤n/\m=n-i/\ys=((range i).filter c).map f/\aB H H'/\H' D=some (.lst ys),⟨_,Mx _,Z,Z,aj hD _,ah⟩,?_⟩;rintro i m ys H1 ⟨hi,rfl,rfl,s1,d1⟩;by_cases hix:i<n
 ·refine .inr ⟨w.go i H1 hix s1,λx H2 y=>?_⟩;obtain⟨s2,p⟩:=w.yld i H1 x H2 hix s1 y;have d2:=s2 _ _ d1;have len:(((range i).filter c).map f).length≤i:=by
   rw[LO];exact MG (MP _ _) (by rw[Mw];exact LN _)
  refine turn i x H2 hix (s1.trans s2) p _ _ (λhc H3 s3=>?_) λhc H3 s3=>?_
  ·have d3:=s3 _ _ d2;refine⟨d3,be (by omega),n-(i+1),by omega,hix,Z,?_,λb o q=>?_,ah⟩
   ·rw[Nj,Qo,Ni];simp[hc]
   ·rw[aE (aX q hD)];exact s3 _ _ (s2 _ _ (s1 _ _ q))
  ·refine⟨n-(i+1),by omega,hix,Z,?_,(s1.trans s2).trans s3,s3 _ _ d2⟩;rw[Nj,Qo,Ni];simp[hc]
 ·have e:i=n:=by omega
  subst e;exact .inl ⟨w.stop H1 s1,fin H1 s1 d1⟩
theorem dj{α β:Type}(d:α)(p:α->Bool)(f:α->β):∀l:List α,((range l.length).filter λi=>p (l.getD i d)).map (λi=>f (l.getD i d))=(l.filter p).map f
 | []=>rfl
 |x::l=>by
  have ih:=dj d p f l;rw[MS,Qg,Re,Re];have e:(((range l.length).map Nat.succ).filter λi=>p ((x::l).getD i d)).map (λi=>f ((x::l).getD i d))=(l.filter p).map f:=by
   rw[filter_map,Oa];exact ih
  show(if p x=true then _ else _:List Nat).map _=_
  cases hp:p x with
  |true=>
   simp only[if_true,M3];rw[e];rfl
  |false=>
   simp only[O5,if_false];exact e
theorem cr{α β:Type}(d:α)(f:α->β)(l:List α):((range l.length).filter λ_=>true).map (λi=>f (l.getD i d))=l.map f:=by
 have:=dj d (λ_=>true) f l;rw[this,NC.mpr (by intros;rfl)]
theorem ax{α:Type}{l:List α}{i:Nat}{x:α}(d:α)(h:l[i]?=some x):l.getD i d=x:=by rw[Mi,h];rfl
section
variable {prog:Mo}{w:MD}{A:Mq}{E:c5}{s:LV}
theorem yW{l:Addr}{items:Array Value}{k:Nat}{x:Int}{u:TX}{Q:c5}(hl:s.heap.get? l=some { cls:=.type "list",dict:=none,data:=.seq items k,slots:=#[]})
  (hlo:-(2^63:Int)≤x) (hhi:x<2^63) (hsz:items.size*x.toNat≤2^24)
  (h:Q (.ref s.heap.objs.size) { s with heap:=s.heap.push { cls:=.type "list",data:=.seq (foldl (λx1 x2=>x1++x2) #[] (MC (if items.isEmpty=true then 0 else x.toNat) items))} }) :
  L6 (Ma prog w) A (OA .Mult (.ref l) (.int x u)) Q E s:=
 wpAny_binaryOp_repeat_ref (T := "list") (U := "int") (by decide) ⟨_,hl,Z⟩ (λs'=>Te s' x u) noFill_list_mul F.fills_int_mul F.slot_int_rmul repeat_list F.slot_int_index.lookup
  (QM F.slot_int_rmul (Te s x u) F.entry_int_rmul (F.args_int_rmul_2 _ _) (int___rmul___int_list x u l items k)
   ⟨hl,Z,⟨_,hl,Z⟩,QM F.slot_list_mul ⟨_,hl,Z⟩ F.entry_list_mul (F.args_list_mul_2 _ _)
    (AutoListH.list___mul___list_int_3 l items k x u (by simp[NJ.List.listFitsIndex];omega) (by omega) (by simp[NJ.List.listTooLong,sizeLine];omega))
    ⟨hl,h⟩⟩)
end
theorem rL(u:Value):∀(n:Nat) (acc:Array Value),(foldl (λx1 x2=>x1++x2) acc (MC n #[u])).toList=acc.toList++MC n u
 |0,acc=>by simp
 |n+1,acc=>by
  rw[replicate_succ,NM,rL u n,replicate_succ];simp
theorem qt{v:V}{u:Value}(r:bv v u):∀n:Nat,bj (MC n v) (MC n u)
 |0=>.nil
 |n+1=>.cons r (qt r n)
theorem pT:gk X (OA .Mult) (λx y H Q=>∃(p:Addr) (v:V) (n:Nat),x=.ref p/\y=.int n/\H p=some (.lst [v])/\n≤1000/\∀l,H l=none->Q (.ref l) (upd H l (.lst (MC n v)))):=by
 intro pins s σ H x y xv yv Q I rx ry h;obtain⟨p,v,n,rfl,rfl,hp,hn,q⟩:=h
 cases(show xv=Ml p from rx)
 obtain⟨t,rfl⟩:=(show ∃t,yv=Oc n t from ry);obtain⟨_,its,c,rv,e⟩:=(show ObjOk X.prog X.w H s.heap p (.lst [v]) from I.hok p _ hp)
 cases rv with
 | @cons _ u _ _ r0 rr=>
 cases rr
 refine yW e (by omega) (by omega) (by simp;omega) ?_;have el:(foldl (λx1 x2=>x1++x2) #[] (MC (if([u]:List Value).toArray.isEmpty=true then 0 else(n:Int).toNat) [u].toArray))=(MC n u).toArray:=by
  apply ext';have:=rL u n #[]
  simpa using this
 rw[el];have I2:Inv X pins σ (upd H s.heap.objs.size (.lst (MC n v))) { s with heap:=s.heap.push { cls:=.type "list",data:=.seq (MC n u).toArray} }:=
  I.laid (t':=s.toks) (λb o e=>LU _ e) (LN _) (show ObjOk X.prog X.w _ _ _ (.lst (MC n v)) from⟨by rw[Pw,NV];omega,MC n u,_,qt r0 n,Mm _ Z⟩)
 exact⟨.ref s.heap.objs.size,_,I2,Z,q _ (I.hok.fresh (LN _))⟩
theorem jg(hc:X.calm=true):dX X (.type "list") (λxs H Q=>∃p,∃n:Nat,xs=[.ref p]/\H p=some (.rng 0 n)/\n≤1000/\∀l,H l=none->Q (.ref l) (upd H l (.lst ((upTo n).map V.int)))):=by
 intro pins s σ H xs us Q I r h;obtain⟨p,n,rfl,hp,hn,q⟩:=h;obtain⟨u,rfl,rx⟩:=gm r
 cases rx
 obtain⟨t,u,w,e⟩:=(show ObjOk X.prog X.w H s.heap p (.rng 0 n) from I.hok p _ hp);refine call_list_range (I.ok.hd hc) (show Qc s.heap p 0 n 1 t u w from e) (Sq (by omega) (by omega) (by omega) (by omega)) (uC n) (by omega) λh' tk acc c' hk hS hi=>?_
 have rv:=lD hi;have hl:(upTo n).length=n:=by unfold upTo;simp
 have I2:Inv X pins σ (upd H s.heap.objs.size (.lst ((upTo n).map V.int))) { s with heap:=h',toks:=tk}:=
  I.laid (t':=tk) hk (LN _) (show ObjOk X.prog X.w _ _ _ (.lst ((upTo n).map V.int)) from⟨by rw[LO,hl,NV];omega,acc.toList,c',rv,by simpa using hS⟩)
 exact⟨.ref s.heap.objs.size,_,I2,Z,q _ (I.hok.fresh (LN _))⟩
theorem eT{X:Cx}{K:Fg}(hK:X.K=K):gk X (ML .NotIn) (IH K true):=hK▸pU
theorem mB{X:Cx}{K:Fg}(hK:X.K=K):gk X (ML .In) (IH K false):=hK▸v4
theorem iD(t:Nat)(ls:List Nat):nh (.int t) (ls.map λn:Nat=>V.int n)=ls.contains t:=by
 unfold nh;rw[any_map]
 induction ls with
 |nil=>rfl
 |cons a r ih=>
  rw[PF,OF,ih]
  congr 1
  show decide (((a:Nat):Int)=(t:Nat))=(t==a);by_cases h:t=a
  ·subst h;simp
  ·rw[beq_eq_false_iff_ne.mpr h];exact decide_eq_false (by omega)
theorem gA(ls:List Nat):(ls.map λn:Nat=>V.int n).all jM=true:=by
 rw[all_map,No];intro x _;rfl
def CN(ds:List PyData):Prop:=∀e∈ds,e.canLay0=true/\e.depth≤32
def KW(K:Fg):R2:=λx y H Q=>∃p xs ds d,y=.ref p/\aS K H p xs/\bu K H xs ds/\CN ds/\bP K H x d/\d.canLay0=true/\M7 d d=true/\Q (.bl (ds.any λe=>M7 e d)) H
def ID(K:Fg):R2:=λx y H Q=>∃p xs ds d,y=.ref p/\aS K H p xs/\bu K H xs ds/\CN ds/\bP K H x d/\d.canLay0=true/\M7 d d=true/\Q (.bl (!ds.any λe=>M7 e d)) H
def J6(K:Fg):R2:=λx y H Q=>∃p xs ds d,y=.ref p/\bH K H p xs/\bu K H xs ds/\CN ds/\bP K H x d/\d.canLay0=true/\M7 d d=true/\Q (.bl (ds.any λe=>M7 e d)) H
def IG(K:Fg):V->List V->Hp->VK->Prop:=λx vs H Q=>∃p xs ds w d,x=.ref p/\vs=[w]/\aS K H p xs/\bu K H xs ds/\CN ds/\bP K H w d/\d.canLay0=true/\M7 d d=true/\(∃e∈ds,M7 e d=true)∧
 ∀(j:Nat) (e:PyData),ds[j]?=some e->M7 e d=true->(∀m f,m<j->ds[m]?=some f->M7 f d=false)->Q (.int j) H
def IE:V->List V->Hp->VK->Prop:=λx vs H Q=>∃(l:Addr) (xs:List V) (j:Nat) (y:V),x=.ref l/\vs=[.int j,y]/\H l=some (.lst xs)/\j≤xs.length/\xs.length<sizeLine/\Q .non (upd H l (.lst (xs.take j++y::xs.drop j)))
mutual
def Kf:PyData->Bool
 | .int i=>decide (i.natAbs<2^230)
 | .tuple ds=>tT ds
 | .list ds=>tT ds
 | .dict _=>false
 |_=>true
def tT:List PyData->Bool
 | []=>true
 |d::ds=>Kf d&&tT ds
end
structure Gd(k n:Nat)(d:PyData):Prop where
 sh:Sh k n d
 lay:d.canLay0=true
 bd:Kf d=true
def HU:PyData->R
 | .tuple [.int a,.int b]=>(a,b)
 |_=>(0,1)
def Jo:PyData->R×R
 | .tuple [x,y]=>(HU x,HU y)
 |_=>sY
end B
namespace B
open PySem PySem.Spec L2 PyProof.Rows
theorem oE(hc:X.calm=true):dX X (.builtin "max") (λxs H Q=>∃(p:Addr) (ns:List Int),xs=[.ref p]/\aS X.K H p (ns.map V.int)/\0<ns.length/\∀M,M∈ns->(∀a∈ns,a≤M)->Q (.int M) H):=by
 intro pins s σ H xs us Q I r h;obtain⟨p,ns,rfl,hq,hne,q⟩:=h;obtain⟨u,rfl,rx⟩:=gm r
 cases rx
 obtain⟨its,rv,pl,hz⟩:=I.list hq;have hi:=lg rv;obtain⟨zs,ez⟩:=hi.allInts.items;have hl:=pl.isList;rw[ez] at hl;have en:numsOf its=ns:=hi.numsOf;rw[show its=its.toArray.toList from Z,ez,RG] at en;have hlen:zs.size=ns.length:=by rw[←en,LO,NU]
 refine max_intList (I.ok.hd hc) hl (by omega) λv h' tk hv hk=>?_
 obtain⟨t,rfl⟩:=intItems_at hv;obtain⟨h1,h2⟩:=argBest_gt (numAt zs) (zs.size-1);refine⟨.int _,H,I.kept (t':=tk) hk,⟨_,Z⟩,q _ ?_ λa ha=>?_⟩
 ·rw[To,en];exact getD_mem (by omega)
 ·rw[←en] at ha;obtain⟨j,hj,rfl⟩:=mem_getD ha;rw[LO,NU] at hj;rw[←To];exact h2 j (by omega)
theorem iG(hc:X.calm=true):dX X (.builtin "min") (λxs H Q=>∃(p:Addr) (ns:List Int),xs=[.ref p]/\aS X.K H p (ns.map V.int)/\0<ns.length/\∀M,M∈ns->(∀a∈ns,M≤a)->Q (.int M) H):=by
 intro pins s σ H xs us Q I r h;obtain⟨p,ns,rfl,hq,hne,q⟩:=h;obtain⟨u,rfl,rx⟩:=gm r
 cases rx
 obtain⟨its,rv,pl,hz⟩:=I.list hq;have hi:=lg rv;obtain⟨zs,ez⟩:=hi.allInts.items;have hl:=pl.isList;rw[ez] at hl;have en:numsOf its=ns:=hi.numsOf;rw[show its=its.toArray.toList from Z,ez,RG] at en;have hlen:zs.size=ns.length:=by rw[←en,LO,NU]
 refine min_intList (I.ok.hd hc) hl (by omega) λv h' tk hv hk=>?_
 obtain⟨t,rfl⟩:=intItems_at hv;obtain⟨h1,h2⟩:=argBest_lt (numAt zs) (zs.size-1);refine⟨.int _,H,I.kept (t':=tk) hk,⟨_,Z⟩,q _ ?_ λa ha=>?_⟩
 ·rw[To,en];exact getD_mem (by omega)
 ·rw[←en] at ha;obtain⟨j,hj,rfl⟩:=mem_getD ha;rw[LO,NU] at hj;rw[←To];exact h2 j (by omega)
theorem rS{J:It}{H:Hp}{D:Addr}{n:Nat}(Pv:Nat->List V->Hp->Prop){src:List (Option Nat)}{σ:L2.St}{g:TG}{tt:TT}{te:TE}{Q:Hp->Prop}(h0:Pv 0 [] (upd H D (.lst [])))
  (go:∀i ys H',i<n->Pv i ys H'->J.go i H') (stop:∀ys H',Pv n ys H'->J.stop n H'/\Q H')
  (turn:∀i ys H' x H'',i<n->Pv i ys H'->J.yld i H' x H''->∀(R:VK) (E:Hp->Prop),(∀y H4,H4 D=some (.lst ys)->ys.length<sizeLine->Pv (i+1) (ys++[y]) (upd H4 D (.lst (ys++[y])))->R y H4)->(∀H3,Pv (i+1) ys H3->E H3)→
   g x (cY src σ) H'' λσ2 H2=>eU (cY src σ) σ2/\tt σ2 H2 λok H3=>if ok=true then te σ2 H3 R else E H3) :
  ∃W:Nat->Nat->List V->Hp->Prop,(∃m,W 0 m [] (upd H D (.lst [])))/\∀i m ys H,W i m ys H->(J.stop i H/\Q H)∨(J.go i H/\∀x H',J.yld i H x H'→
   g x (cY src σ) H' λσ2 H2=>eU (cY src σ) σ2/\tt σ2 H2 λok H3=>
    if ok=true then te σ2 H3 λy H4=>H4 D=some (.lst ys)/\ys.length<sizeLine/\∃m',m'<m/\W (i+1) m' (ys++[y]) (upd H4 D (.lst (ys++[y]))) else ∃m',m'<m/\W (i+1) m' ys H3):=by
 refine⟨λi m ys H'=>i≤n/\m=n-i/\Pv i ys H',⟨_,Mx _,Z,h0⟩,?_⟩;rintro i m ys H1 ⟨hi,rfl,p⟩;by_cases hix:i<n
 ·refine .inr ⟨go i ys H1 hix p,λx H2 y=>?_⟩;refine turn i ys H1 x H2 hix p y _ _ (λy H4 a b c=>⟨a,b,n-(i+1),by omega,hix,Z,c⟩) λH3 c=>⟨n-(i+1),by omega,hix,Z,c⟩
 ·have e:i=n:=by omega
  subst e;exact .inl (stop ys H1 p)
def IX(t:TS):TS:=λD σ H=>∃M:L2.St->Hp->Prop,t { D with nx:=M} σ H/\∀σ' H',M σ' H'->D.nx σ' H'
theorem h9{X:Cx}{st:Stmt}{t:TS}(h:QS X st t):QS X st (IX t):=⟨by
 intro pins s σ H D I q;obtain⟨M,q,k⟩:=q;refine cA (h.p pins s σ H _ I q) λf s' z=>?_
 cases f with
 |next=>obtain⟨σ',H',I',m⟩:=z;exact⟨σ',H',I',k _ _ m⟩
 |brk=>exact z
 |cont=>exact z
 |ret u=>exact z⟩
end B
namespace B
abbrev Ln:=Nat×Nat
inductive fS(es:List Ln):Nat->Nat->Prop where
 |one {a b:Nat} (h:(a,b)∈es):fS es a b
 |step {a b c:Nat} (h:(a,b)∈es) (t:fS es b c):fS es a c
theorem fS.trans(x:fS es a b)(y:fS es b c):fS es a c:=by
 induction x with
 |one h=>exact .step h y
 |step h _ ih=>exact .step h (ih y)
theorem fS.mono(s:∀e∈es,e∈fs)(x:fS es a b):fS fs a b:=by
 induction x with
 |one h=>exact .one (s _ h)
 |step h _ ih=>exact .step (s _ h) ih
def kX(n:Nat)(es:List Ln):Prop:=∀e∈es,e.1<n/\e.2<n
theorem fS.lt(ok:kX n es)(x:fS es a b):a<n/\b<n:=by
 induction x with
 |one h=>exact ok _ h
 |step h _ ih=>exact⟨(ok _ h).1,ih.2⟩
def GA(n:Nat)(es:List Ln)(L:Nat->Nat->Bool):Prop:=∀i j,i<n->j<n->(L i j=true↔fS es j i)
def qk(L:Nat->Nat->Bool)(a b:Nat):Nat->Nat->Bool:=λi j=>L i j||((decide (i=b)||L i b)&&(decide (j=a)||L a j))
theorem Cy(n:Nat):GA n [] (λ_ _=>false):=λi j _ _=>by
 constructor
 ·intro h;cases h
 ·intro h
  cases h with
  |one m=>cases m
  |step m _=>cases m
theorem Cz(ok:kX n es)(h:GA n es L)(ha:a<n)(hb:b<n):GA n (es++[(a,b)]) (qk L a b):=by
 have ok':kX n (es++[(a,b)]):=λe he=>by
  rcases Mh.mp he with z|z
  ·exact ok e z
  ·rw[LP.mp z];exact⟨ha,hb⟩
 have sub:∀e∈es,e∈es++[(a,b)]:=λe he=>MJ _ he
 have new:(a,b)∈es++[(a,b)]:=Md _ LY;have D:∀i j,qk L a b i j=true↔L i j=true∨((i=b∨L i b=true)/\(j=a∨L a j=true)):=λi j=>by
  unfold qk;rw[QQ,ME,QQ,QQ,decide_eq_true_iff,decide_eq_true_iff]
 have tr:∀i j k,i<n->j<n->k<n->qk L a b i j=true->qk L a b j k=true->qk L a b i k=true:=by
  intro i j k hi hj hk x y;have T:∀u v w,u<n->v<n->w<n->L u v=true->L v w=true->L u w=true:=λu v w hu hv hw p q=>(h u w hu hw).mpr (((h v w hv hw).mp q).trans ((h u v hu hv).mp p))
  rw[D] at x y ⊢;rcases x with x | ⟨x1,x2⟩
  ·rcases y with y | ⟨y1,y2⟩
   ·exact .inl (T i j k hi hj hk x y)
   ·refine .inr ⟨.inr ?_,y2⟩;rcases y1 with y1|y1
    ·subst y1;exact x
    ·exact T i j b hi hj hb x y1
  ·rcases y with y | ⟨_,y2⟩
   ·refine .inr ⟨x1,.inr ?_⟩;rcases x2 with x2|x2
    ·subst x2;exact y
    ·exact T a j k ha hj hk x2 y
   ·exact .inr ⟨x1,y2⟩
 intro i j hi hj;constructor
 ·intro x;rw[D] at x;rcases x with x | ⟨x1,x2⟩
  ·exact((h i j hi hj).mp x).mono sub
  ·have s1:fS (es++[(a,b)]) j b:=by
    rcases x2 with x2|x2
    ·subst x2;exact .one new
    ·exact(((h a j ha hj).mp x2).mono sub).trans (.one new)
   rcases x1 with x1|x1
   ·subst x1;exact s1
   ·exact s1.trans (((h i b hi hb).mp x1).mono sub)
 ·intro x;have E:∀u v,(u,v)∈es++[(a,b)]->qk L a b v u=true:=λu v m=>by
   rw[D];rcases Mh.mp m with z|z
   ·have:=ok _ z;exact .inl ((h v u this.2 this.1).mpr (.one z))
   ·cases LP.mp z
    exact .inr ⟨.inl Z,.inl Z⟩
  clear hi hj
  induction x with
  |one m=>exact E _ _ m
  | @step u v w m t ih=>
   have l1:=ok' _ m;have l2:=t.lt ok';exact tr w v u l2.2 l1.2 l1.1 ih (E _ _ m)
structure Rx(n:Nat)(es:List Ln)(v:Nat->Int)(ps:Nat->Nat)(r k:Nat)(F:Nat->Int):Prop where
 bas:∀i,i<n->v i≤F i
 att:∀i,i<n->∃j,j<n/\(j=i∨fS es j i)/\F i=v j
 don:∀i,i<n->ps i<r->∀j,j<n->(j=i∨fS es j i)->v j≤F i
 cur:∀m a b,m<k->es[m]?=some (a,b)->ps b≤r->∀j,j<n->(j=a∨fS es j a)->v j≤F b
def KM(F:Nat->Int)(a b:Nat):Nat->Int:=λi=>if i=b then max (F b) (F a) else F i
structure CL(n:Nat)(es:List Ln)(v:Nat->Int)(F:Nat->Int):Prop where
 up:∀i j,i<n->j<n->(j=i∨fS es j i)->v j≤F i
 att:∀i,i<n->∃j,j<n/\(j=i∨fS es j i)/\F i=v j
theorem CL.uniq(a:CL n es v F)(b:CL n es v G)(hi:i<n):F i=G i:=by
 obtain⟨j,hj,z,e⟩:=a.att i hi;obtain⟨k,hk,y,f⟩:=b.att i hi;have:=a.up i k hi hk y;have:=b.up i j hi hj z;omega
def A6(es:List Ln):List Ln:=es.map λe=>(e.2,e.1)
theorem ur:(a,b)∈A6 es↔(b,a)∈es:=by
 unfold A6;rw[mem_map];constructor
 ·rintro⟨⟨x,y⟩,m,e⟩
  cases e
  exact m
 ·exact λm=>⟨_,m,Z⟩
theorem jt:fS (A6 es) a b↔fS es b a:=by
 have f:∀{fs:List Ln} {a b:Nat},fS fs a b->fS (A6 fs) b a:=λ{fs a b} h=>by
  induction h with
  |one m=>exact .one (ur.mpr m)
  |step m _ ih=>exact ih.trans (.one (ur.mpr m))
 have ss:A6 (A6 es)=es:=by unfold A6;rw[Oa];exact map_id' _
 exact⟨λh=>by have:=f h;rw[ss] at this;exact this,f⟩
end B
namespace B
open PySem PySem.Spec L2 PyProof.Rows
def Iq(r r' r'':R2)(ta tb tc td:TE):TE:=λσ H Q=>ta σ H λx H1=>tb σ H1 λy H2=>r x y H2 λz H3=>∃k,z=.bl k∧
 (if k=true then tc σ H3 λw' H4=>r' y w' H4 λz' H5=>∃k',z'=.bl k'/\(if k'=true then td σ H5 λu' H6=>r'' w' u' H6 Q else Q (.bl false) H5) else Q (.bl false) H3)
section
variable {prog:Mo}{w:MD}{A:Mq}{E:c5}{s:LV}
end
def Kz(K:Fg)(te:TE):TE:=λσ H Q=>te σ H λx H1=>∃a xs,x=.ref a/\bH K H1 a xs/\∀p,H1 p=none->Q (.ref p) (upd H1 p (.tup xs.reverse))
end B
namespace B
theorem rV{b:Int}(h:0<b):(0:Rat)<(b:Rat):=by
 have:=Ny.mpr h;exact this
theorem jp(hr:0<r.2)(hq:0<q.2):cX r q=true↔val r<val q:=by
 rw[rG,←Ny,MF,MF];have h1:=rV hr;have h2:=rV hq;have e1:(r.1:Rat)=val r*(r.2:Rat):=by
  have:=dD hr;unfold val;generalize (r.1:Rat)=x at *;generalize (r.2:Rat)=y at *;grind
 have e2:(q.1:Rat)=val q*(q.2:Rat):=by
  have:=dD hq;unfold val;generalize (q.1:Rat)=x at *;generalize (q.2:Rat)=y at *;grind
 rw[e1,e2];generalize val r=x at *;generalize val q=y at *;generalize (r.2:Rat)=u at *;generalize (q.2:Rat)=v at *;have c:0<u*v:=Rat.mul_pos h1 h2;constructor
 ·intro h;have h':x*(u*v)<y*(u*v):=by grind
  by_cases w:x<y
  ·exact w
  ·have z:y≤x:=Rat.not_lt.mp w;have:=Ou z (OV c);grind
 ·intro h;have:=OL h c;grind
theorem ir(hr:0<r.2)(hq:0<q.2):cX r q=false↔val q≤val r:=by
 have a:=jp hr hq
 cases c:cX r q with
 |true=>
  have:=a.mp c;constructor
  ·intro z;cases z
  ·intro z;grind
 |false=>
  constructor
  ·intro _;by_cases w:val r<val q
   ·rw[a.mpr w] at c;cases c
   ·exact Rat.not_lt.mp w
  ·intro _;rfl
end B
namespace B
open PySem PySem.Spec L2 PyProof.Rows
def LH(zs:List R):Prop:=zs.Pairwise λa b=>cX a b=true
end B
namespace L2
open PySem PySem.Spec PyProof.Rows
structure g3(k:Nat)(A:Mq):Prop where
 dp:A.depth+3*k+5<recursionLimit
 un:A.units+16*k+200<cLine
 gd:A.guards=some []
theorem g3.depth(r:g3 k A):A.depth<recursionLimit:=by have:=r.dp;omega
theorem g3.deeper(r:g3 (k+1) A)(env:R0):g3 k (A.deeper env):=
 ⟨by have:=r.dp;show A.depth+1+3*k+5<_;omega,by have:=r.un;show A.units+3+16*k+200<_;omega,r.gd⟩
theorem cZ.inM(r:cZ k A)(h:j≤k):g3 j (A.mark v):=
 ⟨by have:=r.dp;show A.depth+3*j+5<_;omega,by have:=r.un;show A.units+16*j+200<_;omega,r.gd⟩
structure oR(P:Mo)(w:MD)(K:Fg)(mg:Mj->Option Value)(base:MA)(CX:qm)(k:Nat)(f:Addr)(fd:LS)(ps:List Mj)(sp:Sp):Prop where
 len:∀vs H Q E,sp vs H Q E->vs.length=ps.length
 run:∀(A:Mq) (outer:List R0) (s:LV) (H:Hp) (args:Args) (us:List Value) (vs:List V) (Q:VK) (E:XK),g3 k A->ku P w K mg base A outer s H->QH s fd args (ps.zip us)->bj vs us->sp vs H Q E→
  Op (Ma P w) A (.call (.ref f) args) (CR CX outer P w H s Q E) s
def HX(CX:qm)(P:Mo)(w:MD)(K:Fg)(mg:Mj->Option Value)(base:MA)(N:List Mj)(qual:Mj)(scope:OH)(f:Addr)(cd:Value)(A:Mq)(outer:List R0)(s:LV)(H:Hp)(E:XK):Cx:={ bL CX P w K mg base N qual scope f cd A outer s H E with calm:=false}
theorem tR{CX:qm}{P:Mo}{w:MD}{K:Fg}{mg:Mj->Option Value}{base:MA}{N ps:List Mj}{qual:Mj}{scope:OH}{f:Addr}{cd:Value}{A:Mq}{outer:List R0}{s s1:LV}{H:Hp}{E:XK}{us:List Value}{vs:List V}
  (S:aK N ps scope) (e0:ku P w K mg base A outer s H) (hl:vs.length=ps.length) (r:bj vs us)
  (x:InCallC s s.heap.objs.size (SG (Pu qual scope s.heap.objs.size f cd).kindOf (ps.zip us) λ_=>none) (Pe (s.heap.objs.size+1) scope.names []) (SH (Pu qual scope s.heap.objs.size f cd).kindOf (ps.zip us) λ_=>none) s1) :
  Inv (HX CX P w K mg base N qual scope f cd A outer s H E) [] (fT N vs) H s1:=by
 have e1:ku P w K mg base { A with handled:=none} outer s H:=⟨e0.frames,e0.mod,e0.bs,e0.bsz,e0.funs,e0.frf,e0.hok,e0.bare⟩;have I:=ot (CX:=CX) (E:=E) S Z e1 hl r x;exact⟨⟨I.ok.mod,I.ok.kind,I.ok.glob,I.ok.blt,I.ok.above,I.ok.inj,I.ok.has,I.ok.cab,(λz=>nomatch z),I.ok.frames,I.ok.stk,I.ok.exf,I.ok.bs,I.ok.bsz,I.ok.noex,I.ok.exfs,I.ok.funs,I.ok.frf⟩,I.os,I.bare,I.base,I.loc,I.cell,I.free,I.freeC,I.pin,I.hok,I.len⟩
theorem FQ{CX:qm}{P:Mo}{w:MD}{K:Fg}{mg:Mj->Option Value}{base:MA}{k:Nat}{f:Addr}{name qual:Mj}{params:TJ}{body:List Stmt}{scope:OH}{dV kV doc pm cdv ct oc:Value}{an od:Option Addr}
  {osl:Array (Option Value)} {N ps:List Mj} {sp:Sp} (lk:K.lookup f=some ⟨oc,od,.func (PySem.W.fnOf name qual params body scope dV kV doc pm an cdv ct),osl⟩) (hcd:PySem.W.codeIn K cdv qual=true) (S:aK N ps scope)
  (len:∀vs H Q E,sp vs H Q E->vs.length=ps.length)
  (hbody:∀(A:Mq) (outer:List R0) (s:LV) (H:Hp) (vs:List V) (Q:VK) (E:XK),g3 k (A.deeper (Pu qual scope s.heap.objs.size f cdv))->sp vs H Q E→
   ∃t,oP (HX CX P w K mg base N qual scope f cdv A outer s H E) body t/\t { nx:=λ_ H'=>Q .non H',rt:=Q} (fT N vs) H) :
  oR P w K mg base CX (k+1) f (PySem.W.fnOf name qual params body scope dV kV doc pm an cdv ct) ps sp:=by
 refine⟨len,λA outer s H args us vs Q E hr e0 hb r hsp=>?_⟩;have hl:=len _ _ _ _ hsp;have KX:K.In s.heap:=e0.mod.kin.keeps λb o e=>(e0.bs b o e).1
 have lim:s.heap.NoLimit:=e0.mod.nolimit.keeps λb o e=>(e0.bs b o e).1
 have hkind:∀y∈ps.zip us,scope.names.lookup y.1=some .local∨(scope.names.lookup y.1=some .cell/\((Pe (s.heap.objs.size+1) scope.names []).lookup y.1).isSome=true):=λ⟨n,v⟩ hy=>by
  rcases S.par n (RM hy).1 with q|q
  ·exact .inl q
  ·exact .inr ⟨q,Q5 _ _ _ (.inl q)⟩
 refine QZ hr.depth (KX _ _ lk) Z S.co S.gen Z (codeRec_of KX hcd) (hb _ _ _ _ ?_);refine P1 S.kind hkind λenv he s1 x=>?_
 subst he;refine⟨lim.keeps x.toInCall.keep,codeAny_func ?_⟩;obtain⟨t,ht,hq⟩:=hbody A outer s H vs Q E (hr.deeper _) hsp;have I:Inv (HX CX P w K mg base N qual scope f cdv A outer s H E) [] (fT N vs) H s1:=tR S e0 hl r x;refine Ng (ht [] s1 (fT N vs) H _ I hq) (λfl s' hs=>?_) λe s' hs=>hs
 have fin:∀{σ':St} {H':Hp} {v:V} {u:Value},Inv (HX CX P w K mg base N qual scope f cdv A outer s H E) [] σ' H' s'->bv v u->Q v H'->CE outer P w H s Q u s':=
  λ{σ' H' v u} J rv q=>⟨v,H',J.os,J.bare,J.base,J.hok,rv,q⟩
 cases fl with
 |ret u=>
  obtain⟨v,σ',H',J,rv,q⟩:=hs;exact fin J rv q
 |next=>
  obtain⟨σ',H',J,q⟩:=hs;exact fin (v:=V.non) (u:=Nf) J Z q
 |brk=>
  obtain⟨_,_,_,q⟩:=hs;exact MY q
 |cont=>
  obtain⟨_,_,_,q⟩:=hs;exact MY q
section
variable {X:Cx}{CX:qm}{k:Nat}{f C:Addr}{fd:LS}{ps:List Mj}{sp:Sp}{dvs:List V}{ds:List Value}{E:XK}{x m:Mj}{p pos apos:Oo}{e o:Mu}{es:List Mu}{ta:TE}{t:TA}
theorem Bu{pins:cy}{σ:St}{H:Hp}{s:LV}{Q:VK}{us:List Value}{vs:List V}(F:oR X.prog X.w X.K X.mg X.base CX k f fd ps sp)(hr:g3 k X.A)(hb:aV X.K fd ps ds)(hd:bj dvs ds)(hx:gX CX X E)
  (I:Inv X pins σ H s) (r:bj vs us) (h:sp (vs++dvs) H Q E):L6 (Ma X.prog X.w) X.A (call (.ref f) us) (EP X pins σ Q) X.xe s:=by
 have r2:bj (vs++dvs) (us++ds):=r.append hd;have hl:(us++ds).length=ps.length:=by rw[←r2.length];exact F.len _ _ _ _ h
 refine Pt (OU (F.run X.A X.stack s H ⟨us,[]⟩ (us++ds) (vs++dvs) Q E hr I.env0 (hb s us I.kIn hl) r2 h) λr s' hq=>?_)
 cases r with
 |error e=>exact hx pins σ H s e s' I hq
 |ok fl=>
  cases fl with
  |ret u=>exact I.after hq
  |next=>exact MY hq
  |brk=>exact MY hq
  |cont=>exact MY hq
theorem zS(F:oR X.prog X.w X.K X.mg X.base CX k f fd ps sp)(hr:g3 k X.A)(hg:Gl X x)(hm:X.mg x=some (.ref f))(hk:PySem.W.keepIn X.K (.ref f)=true)(hb:aV X.K fd ps ds)(hd:bj dvs ds)(hx:gX CX X E)
  (ha:PA X (e::es) t) (hdb:(x==("__debug__" : Mj))=false:=by decide) (he:L4 (e::es) X.env=(false,eval e X.env)::L4 es X.env:=by rfl) (hpl:(Ol pos (L4 es X.env)).any (·.1)=false:=by rfl) :
  PE X (.Call (.Name x p) (e::es) [] pos) (qD sp dvs E t):=by
 intro pins s σ H Q I h;refine NZ (iB I hg hm ?_ hdb);refine Tb (h₀:=X.base) I.ok.mod.kin hk (cA (ha pos pins s σ H _ I h) λus s1 ⟨vs,H1,I1,r,q⟩=>⟨I1.kIn,?_⟩) he hpl;exact Bu F hr hb hd hx I1 r q
end
section
variable {P:Mo}{w:MD}{K:Fg}{mg:Mj->Option Value}{base:MA}
theorem Fun.okM{x qual:Mj}{st:Stmt}{f:Addr}{fd:LS}{N ps:List Mj}{k:Nat}{sp:Sp}(F:Fun K x qual st f fd)(S:aK N ps (av st))(len:∀vs H Q E,sp vs H Q E->vs.length=ps.length)
  (hbody:∀(cdv:Value) (A:Mq) (outer:List R0) (s:LV) (H:Hp) (vs:List V) (Q:VK) (E:XK),g3 k (A.deeper (Pu qual (av st) s.heap.objs.size f cdv))->sp vs H Q E→
   ∃t,oP (HX dF P w K mg base N qual (av st) f cdv A outer s H E).nox (dZ st) t/\t { nx:=λ_ H'=>Q .non H',rt:=Q} (fT N vs) H):oR P w K mg base dF (k+1) f fd ps sp:=by
 obtain⟨oc,od,kV,doc,pm,an,cdv,ct,osl,rfl,lk,hcd⟩:=F.ex;refine FQ lk hcd S len λA outer s H vs Q E hr hsp=>?_
 obtain⟨t,h,q⟩:=hbody cdv A outer s H vs Q E hr hsp;exact⟨t,h.nox,q⟩
end
end L2
namespace B
open PySem PySem.Spec L2 PyProof.Rows
section
set_option autoImplicit true
set_option relaxedAutoImplicit true
theorem zj{X:Cx}{CX:qm}{k:Nat}{f:Addr}{fd:LS}{ps:List Mj}{sp:Sp}{dvs:List V}{ds:List Value}{E:XK}{x:Mj}{p pos:Oo}{e:Mu}{es:List Mu}{t:TA}(F:oR X.prog X.w X.K X.mg X.base CX k f fd ps sp)(hr:g3 k X.A)(hg:Gl X x)(hm:X.mg x=some (.ref f))(hk:PySem.W.keepIn X.K (.ref f)=true)(hb:aV X.K fd ps ds)(hd:bj dvs ds)(hx:gX CX X E)(ha:QA X (e::es) t)(hdb:(x==("__debug__" : Mj))=false:=by decide)(he:L4 (e::es) X.env=(false,eval e X.env)::L4 es X.env:=by rfl)(hpl:(Ol pos (L4 es X.env)).any (·.1)=false:=by rfl):QE X (.Call (.Name x p) (e::es) [] pos) (qD sp dvs E t):=⟨zS F hr hg hm hk hb hd hx ha.p hdb he hpl⟩
end
def Ij(d:Addr)(ob:Obj)(kvs:List (dQ×V)):It:=
 ⟨λi H=>H d=some (.frz ob (.dK kvs))/\i<kvs.length,
  λi H x H'=>∃p k v,H p=none/\x=.ref p/\kvs[i]?=some (k,v)/\H'=upd H p (.tup [kV k,v]),
  λi H=>H d=some (.frz ob (.dK kvs))/\kvs.length≤i⟩
theorem KV.get:∀{kvs:List (dQ×V)} {vs:List (dQ×Value)},KV kvs vs->∀{i:Nat} {k:dQ} {v:V},kvs[i]?=some (k,v)->∃u,vs[i]?=some (k,u)/\bv v u
 |_,_,.nil,i,k,v,h=>by simp at h
 | (a,b)::r,(c,d)::t,.cons h z,0,k,v,e=>by
  have e':(a,b)=(k,v):=by simpa using e
  cases e'
  obtain⟨h1,h2⟩:=h;have h1':a=c:=h1;subst h1';exact⟨d,Z,h2⟩
 |_::r,_::t,.cons h z,i+1,k,v,e=>by
  obtain⟨u,q,w⟩:=KV.get z (i:=i) (by simpa using e);exact⟨u,by simpa using q,w⟩
theorem Hx(h:mR k u=true):bv (kV k) u:=by
 rcases cG h with⟨i,t,rfl,rfl⟩ | ⟨x,t,rfl,rfl⟩
 ·exact⟨t,Z⟩
 ·exact⟨t,Z⟩
theorem FW:entryFor table "dict_itemiterator.__iter__"=some NJ.«dict_keyiterator.__iter__»:=
 entryFor_alias (by kernel_rfl) (by first|rfl|decide +kernel | (unfold String.splitOn;simp +decide [String.splitOnAux])) (by decide +kernel) (by kernel_rfl) (id' := "dict_keyiterator.__iter__")
theorem su{P:Mo}{w:MD}{K:Fg}{elts:List Mu}{x1}{pos:Oo}{it d:Addr}{ob:Obj}{kvs:List (dQ×V)}{es:Array Rm}{ep:Nat}(hob:ob.data=.dict es ep) :
  sg P w K (.Tuple elts x1 pos) (Ij d ob kvs) [it] it (λi h=>∃ok ov,IsItemIter h it d i kvs.length ep ok ov) where
 mem:=by simp
 obj:=λi h st c hc=>by
  obtain⟨ok,ov,e⟩:=st;rw[LP] at hc;subst hc;exact⟨_,e,λv q=>by cases(show Qb _=Rj v from q)⟩
 keep:=λi h h' ⟨ok,ov,e⟩ k=>⟨ok,ov,k it (by simp) _ e⟩
 item:=by
  intro X hP hw hK hc i pins s σ H E I hf st hg;subst hP hw hK;obtain⟨hd,hi⟩:=hg;obtain⟨ok,ov,e⟩:=st;obtain⟨q0,z,hds,vs,rel,o,es',ep',d1,d2,d3,d4⟩:=(show ObjOk X.prog X.w H s.heap d (.frz ob (.dK kvs)) from I.hok d _ hd);have eo:o=ob:=MB (d1.symm.trans q0);subst eo;rw[hob] at d3
  cases d3
  have dat:s.heap.DictAt (cF X.prog X.w) d vs ep:=⟨o,es,d1,d2,hob,d4⟩;obtain⟨k,v,hkv'⟩:∃k v,kvs[i]?=some (k,v):=⟨(kvs[i]'hi).1,(kvs[i]'hi).2,LL hi⟩;obtain⟨u,hu,ru⟩:=KV.get rel hkv';have ndi:it≠d:=λq=>by rw[q] at hf;have:=(hf d (by simp)).1;rw[hd] at this;cases this
  have itl:it<s.heap.objs.size:=Mv e;rw[rel.length] at e;refine wpAny_pyNext_items_item e dat hu λkey h1 hkey eo tup hz hk=>⟨_,Z,wpAny_letOwnedTupleGo_items eo λh2 e2 sb=>?_⟩
  have nt:s.heap.objs.size≠it:=NP itl;have P:ObjOk X.prog X.w (upd H s.heap.objs.size (.tup [kV k,v])) h2 s.heap.objs.size (.tup [kV k,v]):=
   ⟨by show 2≤sizeLine;decide,[key,u],.cons (Hx hkey) (.cons ru .nil),⟨_,sb.extBut _ _ nt tup,Z,_,Z⟩⟩
  have I2:Inv X pins σ (upd H s.heap.objs.size (.tup [kV k,v])) { s with heap:=h2,toks:=s.toks}:=oW I (λc o' n q=>by
   have n':c≠it:=λr=>n (by simp[r])
   exact sb.extBut _ _ n' (hk c o' n' q)) hf (LN _) P
  refine⟨.ref s.heap.objs.size,_,I2,Z,⟨_,k,v,I.fresh,Z,hkv',Z⟩,⟨key,u,by rw[rel.length];exact e2⟩,λc hc=>?_⟩;have hc':c=it:=by simpa using hc
  rw[hc',aE (NO nt)];exact(hf it (by simp)).1
 done:=by
  intro X hP hw hK hc i pins s σ H E I hf st hg;subst hP hw hK;obtain⟨hd,hi⟩:=hg;obtain⟨ok,ov,e⟩:=st;obtain⟨q0,z,hds,vs,rel,o,es',ep',d1,d2,d3,d4⟩:=(show ObjOk X.prog X.w H s.heap d (.frz ob (.dK kvs)) from I.hok d _ hd);have eo:o=ob:=MB (d1.symm.trans q0);subst eo;rw[hob] at d3
  cases d3
  have dat:s.heap.DictAt (cF X.prog X.w) d vs ep:=⟨o,es,d1,d2,hob,d4⟩;have hh:X.A.in1.handled=none:=I.ok.hd hc;rw[rel.length] at e hi;refine wpAny_pyNext_items_end hh e dat (MV hi) λh1 ex=>⟨Z,?_⟩
  exact oX (t':=s.toks) I (λc o' n q=>ex c o' (λr=>n (by simp[r])) q) hf
 self:=λA i s Q E st h=>by
  obtain⟨ok,ov,e⟩:=st;have hT:s.TypeIs (.ref it) "dict_itemiterator" := ⟨_,e,Z⟩;refine wpAny_pyIter_slot hT PU (NX PU hT FW ?_ (args_dict_itemiterator_iter_1 _));show L6 _ _ (ret (.ref it)) _ _ s;exact L1 ⟨_,Z,"dict_itemiterator",_,hT,PySem.F.slot_dict_itemiterator_next.lookup,h⟩
def As(td:TE):TI:=λσ H R=>td σ H λx H1=>∃d kvs,x=.ref d/\H1 d=some (.dK kvs)/\∀ob,R (Ij d ob kvs) (upd H1 d (.frz ob (.dK kvs)))
theorem zG{X:Cx}{elts:List Mu}{x1}{tp apos pos:Oo}{o:Mu}{td:TE}(ho:PE X o td)(hb:Nu o "items" X.env (eval o X.env)=eval o X.env:=by rfl)(hl:(apos.endLine==pos.line)=true:=by rfl) :
  PI X (.Tuple elts x1 tp) (.Call (.Attribute o "items" apos) [] [] pos) (As td):=by
 intro pins s σ H R I h;refine Sg (T := "dict") (id := "dict.items") hb Z hl plainAttrs_dict slot_dict_items type_dict_items (cA (ho pins s σ H _ I h) λu s1 ⟨x,H1,I1,rx,d,kvs,ex,e,q⟩=>?_);subst ex;obtain rfl:u=Ml d:=rx;obtain⟨z,hds,vs,rel,dd⟩:=Dm I1.hok e;obtain⟨t1,t2,_⟩:=Aq I1 (.inl ⟨kvs,.inl e⟩);refine⟨t1,t2,?_⟩;show L6 _ _ (callWith pos (.builtin "dict.items") [.ref d] [] []) _ _ _;refine method_meetsIn slot_dict_items entry_dict_items Z (PySem.evalArgs_none ⟨Z,t1,args_dict_items_1 _,_,meets_dict_items (cF X.prog X.w) d hds,⟨vs,dd⟩,?_⟩);obtain⟨o',es,ep,d1,d2,d3,d4⟩:=id dd;have dat:s1.heap.DictAt (cF X.prog X.w) d vs ep:=⟨o',es,d1,d2,d3,d4⟩;refine wpAny_pyIter_items (d:=d) (kvs:=vs) (ep:=ep) ⟨_,Mm _ Z,Z,Z⟩ (dat.push _) ?_;have sz:(s1.heap.push { cls:=.type "dict_items",data:=.fields #[.ref d]}).objs.size=s1.heap.objs.size+1:=N4 ..;have I2:=I1.kept (t':=s1.toks) (h':=(s1.heap.push { cls:=.type "dict_items",data:=.fields #[.ref d]}).push { cls:=.type "dict_itemiterator",data:=.fields #[.none,.bool false,.ref d,.int 0 0,.int vs.length 0,.int ep 0,.none,.none]}) λb o q=>LU _ (LU _ q)
 have hit:=Mm (s1.heap.push { cls:=.type "dict_items",data:=.fields #[.ref d]}) (o:={ cls:=.type "dict_itemiterator",data:=.fields #[.none,.bool false,.ref d,.int 0 0,.int vs.length 0,.int ep 0,.none,.none]}) Z;have dl:d<s1.heap.objs.size:=Mv d1;have k2:∀b o,s1.heap.get? b=some o->((s1.heap.push { cls:=.type "dict_items",data:=.fields #[.ref d]}).push { cls:=.type "dict_itemiterator",data:=.fields #[.none,.bool false,.ref d,.int 0 0,.int vs.length 0,.int ep 0,.none,.none]}).get? b=some o:=λb o q=>LU _ (LU _ q)
 generalize (s1.heap.push { cls:=.type "dict_items",data:=.fields #[.ref d]}).push { cls:=.type "dict_itemiterator",data:=.fields #[.none,.bool false,.ref d,.int 0 0,.int vs.length 0,.int ep 0,.none,.none]}=hE at I2 hit k2 ⊢;rw[sz] at hit ⊢;have I3:=qg (h':=hE) (t':=s1.toks) (ob:=.frz o' (.dK kvs)) I2 (by rw[e];exact Ox) ⟨Z,λ_ _=>Z⟩ ⟨_,k2 _ _ d1⟩ ⟨k2 _ _ d1,z,hds,vs,rel,o',es,ep,k2 _ _ d1,d2,d3,d4⟩;have nd:s1.heap.objs.size+1≠d:=NP (Qn dl);refine⟨_,[s1.heap.objs.size+1],_,_,_,Z,I3,su d3,⟨.none,.none,by rw[rel.length];exact hit⟩,λc hc=>?_,q o'⟩;have hc':c=s1.heap.objs.size+1:=by simpa using hc
 subst hc';exact I1.fpOk (OK _) (by rw[aE nd];exact I1.hok.fresh (OK _))
theorem oy{d:Addr}{ob:Obj}{kvs:List (dQ×V)}{g:TG}{tb:TS}{D:iN}{σ:L2.St}{H:Hp}(Pv:Nat->L2.St->Hp->Prop)(h0:Pv 0 σ H)
  (hl:∀i σ H,Pv i σ H->H d=some (.frz ob (.dK kvs)))
  (hs:∀i k v p σ H,kvs[i]?=some (k,v)->Pv i σ H->H p=none->g (.ref p) σ (upd H p (.tup [kV k,v])) λσ2 H2=>tb { D with nx:=Pv (i+1),ct:=Pv (i+1),bk:=D.nx} σ2 H2) (hd:∀σ H,Pv kvs.length σ H->D.nx σ H) :
  ∃W:Nat->Nat->L2.St->Hp->Prop,(∃m,W 0 m σ H)/\∀i m σ H,W i m σ H→
   ((Ij d ob kvs).stop i H/\D.nx σ H)∨((Ij d ob kvs).go i H/\∃N:L2.St->Hp->Prop,(∀σ' H',N σ' H'->∃m',m'<m/\W (i+1) m' σ' H')/\∀x H',(Ij d ob kvs).yld i H x H'->g x σ H' λσ2 H2=>tb { D with nx:=N,ct:=N,bk:=D.nx} σ2 H2):=by
 refine⟨λi m σ H=>m=kvs.length-i/\i≤kvs.length/\Pv i σ H,⟨_,Z,Mx _,h0⟩,?_⟩;rintro i m σ H ⟨rfl,hi,p⟩;have q:=hl i σ H p;by_cases hlt:i<kvs.length
 ·refine .inr ⟨⟨q,hlt⟩,Pv (i+1),λσ' H' p'=>⟨kvs.length-(i+1),by omega,Z,hlt,p'⟩,λx H' y=>?_⟩;obtain⟨pp,k,v,hp,rfl,hkv,rfl⟩:=y;exact hs i k v pp σ _ hkv p hp
 ·have e:i=kvs.length:=by omega
  subst e;exact .inl ⟨⟨q,LN _⟩,hd σ H p⟩
def nI(ps:List (Int×Int)):List (dQ×V):=ps.map λp=>(Nv p.1,V.int p.2)
def sw:List (Int×Int)->Int->Int
 | [],_=>0
 | (c,u)::r,b=>if c=b then u else sw r b
def gF:List (Int×Int)->Int->Int->List (Int×Int)
 | [],b,t=>[(b,0+t)]
 | (c,u)::r,b,t=>if c=b then(c,u+t)::r else(c,u)::gF r b t
theorem zk{p:dQ×V}(e:p.1=k)(n:∀q∈r,q.1≠k):gR (p:: r) k v=(k,v):: r:=by
 unfold gR;rw[if_pos (by simp[e]),M3,if_pos e,e]
 congr 1
 exact(P7 (g:=id) (λq hq=>by rw[if_neg (n q hq)];rfl)).trans (map_id r)
theorem vU{p:dQ×V}(e:¬p.1=k):gR (p:: r) k v=p:: gR r k v:=by
 unfold gR;rw[PF,decide_eq_false e,Qm]
 split
 ·rw[M3,if_neg e]
 ·rfl
theorem p6:∀(ps:List (Int×Int)) (b:Int),(jY (nI ps) (Nv b)).getD (V.int 0)=V.int (sw ps b)
 | [],b=>rfl
 | (c,u)::r,b=>by
  show(jY ((Nv c,V.int u)::nI r) (Nv b)).getD (V.int 0)=V.int (if c=b then u else sw r b);by_cases e:c=b
  ·rw[if_pos e,jq (by rw[e])];rfl
  ·rw[if_neg e,jr (λz=>e (by injection z)),p6 r b]
theorem pQ:∀(ps:List (Int×Int)) (b t:Int),(ps.map (·.1)).Nodup->gR (nI ps) (Nv b) (V.int (sw ps b+t))=nI (gF ps b t)
 | [],b,t,_=>rfl
 | (c,u)::r,b,t,nd=>by
  have nd':=MU.mp nd;show gR ((Nv c,V.int u)::nI r) (Nv b) (V.int ((if c=b then u else sw r b)+t))=nI (if c=b then(c,u+t)::r else(c,u)::gF r b t);by_cases e:c=b
  ·rw[if_pos e,if_pos e,zk (by rw[e]) (λq hq z=>?_)]
   ·show _=(Nv c,V.int (u+t))::nI r;rw[e]
   ·obtain⟨p,hp,rfl⟩:=Mc.mp hq;have z':p.1=b:=by injection z
    exact nd'.1 (Mc.mpr ⟨p,hp,z'.trans e.symm⟩)
  ·rw[if_neg e,if_neg e,vU (λz=>e (by injection z)),pQ r b t nd'.2];rfl
def i4:List (Int×Int)->Rat
 | []=>0
 |p::r=>(p.2:Rat)/(p.1:Rat)+i4 r
theorem CK{a b c:Rat}:(a+b)/c=a/c+b/c:=by rw[SO,SO,SO,Rat.add_mul]
theorem lK:∀(ps:List (Int×Int)) (b t:Int),i4 (gF ps b t)=i4 ps+(t:Rat)/(b:Rat)
 | [],b,t=>by
  show((0+t:Int):Rat)/(b:Rat)+0=0+(t:Rat)/(b:Rat);rw[Int.zero_add];grind
 | (c,u)::r,b,t=>by
  show i4 (if c=b then(c,u+t)::r else(c,u)::gF r b t)=(u:Rat)/(c:Rat)+i4 r+(t:Rat)/(b:Rat);by_cases e:c=b
  ·rw[if_pos e];show((u+t:Int):Rat)/(c:Rat)+i4 r=_;rw[QV,CK,e];grind
  ·rw[if_neg e];show(u:Rat)/(c:Rat)+i4 (gF r b t)=_;rw[lK r b t];grind
theorem jZ:∀(ps:List (Int×Int)) (p:Int×Int),i4 (ps++[p])=i4 ps+(p.2:Rat)/(p.1:Rat)
 | [],p=>by show(p.2:Rat)/(p.1:Rat)+0=0+_;grind
 |q::r,p=>by
  show(q.2:Rat)/(q.1:Rat)+i4 (r++[p])=(q.2:Rat)/(q.1:Rat)+i4 r+_;rw[jZ r p];grind
structure m9(n i:Nat)(ps:List (Int×Int)):Prop where
 nd:(ps.map (·.1)).Nodup
 len:ps.length≤i
 bot:∀p∈ps,0<p.1/\p.1.natAbs<2^n
 top:∀p∈ps,p.2.natAbs≤i*2^n
theorem m8:∀(ps:List (Int×Int)) (b t:Int) (c:Int),c∈(gF ps b t).map (·.1)↔c∈ps.map (·.1)∨c=b
 | [],b,t,c=>by simp[gF]
 | (d,u)::r,b,t,c=>by
  show c∈(if d=b then(d,u+t)::r else(d,u)::gF r b t).map (·.1)↔_;by_cases e:d=b
  ·rw[if_pos e];constructor
   ·intro h;exact .inl h
   ·rintro (h|h)
    ·exact h
    ·exact LZ.mpr (.inl (h.trans e.symm))
  ·rw[if_neg e,M3,M3,LZ,LZ,m8 r b t c];exact or_assoc.symm
theorem AX:∀(ps:List (Int×Int)) (b t:Int),(ps.map (·.1)).Nodup->((gF ps b t).map (·.1)).Nodup
 | [],b,t,_=>by simp[gF]
 | (d,u)::r,b,t,nd=>by
  have nd':=MU.mp nd;show((if d=b then(d,u+t)::r else(d,u)::gF r b t).map (·.1)).Nodup;by_cases e:d=b
  ·rw[if_pos e];exact nd
  ·rw[if_neg e,M3,nodup_cons];refine⟨λz=>?_,AX r b t nd'.2⟩;rcases(m8 r b t d).mp z with h|h
   ·exact nd'.1 h
   ·exact e h
theorem vh:∀(ps:List (Int×Int)) (b t:Int),(gF ps b t).length≤ps.length+1
 | [],b,t=>LN 1
 | (d,u)::r,b,t=>by
  show(if d=b then(d,u+t)::r else(d,u)::gF r b t).length≤_
  split
  ·exact OK _
  ·exact PQ (vh r b t)
theorem vg:∀(ps:List (Int×Int)) (b t:Int) (M N:Nat),(∀p∈ps,p.2.natAbs≤M)->t.natAbs≤N->∀p∈gF ps b t,p.2.natAbs≤M+N
 | [],b,t,M,N,_,ht,p,hp=>by
  have e:p=(b,0+t):=by simpa [gF] using hp
  rw[e];show(0+t).natAbs≤M+N;omega
 | (d,u)::r,b,t,M,N,h,ht,p,hp=>by
  have hu:u.natAbs≤M:=h (d,u) LY;have hr:∀q∈r,q.2.natAbs≤M:=λq hq=>h q (L3 _ hq)
  have hp':p∈(if d=b then(d,u+t)::r else(d,u)::gF r b t):=hp
  split at hp'
  ·rcases LZ.mp hp' with e|e
   ·rw[e];show(u+t).natAbs≤M+N;omega
   ·have:=hr p e;omega
  ·rcases LZ.mp hp' with e|e
   ·rw[e];show u.natAbs≤M+N;omega
   ·exact vg r b t M N hr ht p e
theorem m9.add(h:m9 n i ps)(w:Wf n r):m9 n (i+1) (gF ps r.2 r.1) where
 nd:=AX ps r.2 r.1 h.nd
 len:=MG (vh ps r.2 r.1) (PQ h.len)
 bot:=λp hp=>by
  rcases(m8 ps r.2 r.1 p.1).mp (Mc.mpr ⟨p,hp,Z⟩) with z|z
  ·obtain⟨q,hq,e⟩:=Mc.mp z;rw[←e];exact h.bot q hq
  ·rw[z];exact⟨w.pos,w.bot⟩
 top:=λp hp=>by
  have:=vg ps r.2 r.1 (i*2^n) (2^n) h.top (NH w.top) p hp;rw[SL,one_mul];exact this
theorem m9.nil(n:Nat):m9 n 0 []:=⟨PZ,LN _,(λ_ h=>nomatch h),(λ_ h=>nomatch h)⟩
theorem m9.wf(h:m9 n i ps)(hi:i≤255)(hp:p∈ps):Wf (n+8) (eZ p.2 p.1):=by
 refine tI (h.bot p hp).1 ?_ (Mp (h.bot p hp).2 (Ot (by decide) (by omega)));have a:=h.top p hp;have b:i*2^n≤255*2^n:=Py _ hi;have c:0<2^n:=pow_pos (by decide);rw[pow_add];omega
def iZ:List R->Rat
 | []=>0
 |r::t=>val r+iZ t
theorem jW:∀(rs:List R) (r:R),iZ (rs++[r])=iZ rs+val r
 | [],r=>by show val r+0=0+val r;grind
 |q::t,r=>by show val q+iZ (t++[r])=val q+iZ t+val r;rw[jW t r];grind
theorem qu:∀(rs:List R) (acc:R),kr acc->(∀r∈rs,kr r)->kr (rs.foldl bo acc)/\val (rs.foldl bo acc)=val acc+iZ rs
 | [],acc,ha,_=>⟨ha,by show val acc=val acc+0;grind⟩
 |r::t,acc,ha,h=>by
  have hr:=h r LY;obtain⟨a,b⟩:=qu t (bo acc r) (zu ha hr) λq hq=>h q (L3 _ hq)
  refine⟨a,?_⟩;rw[NM,b,jo ha.pos hr.pos];show val acc+val r+iZ t=val acc+(val r+iZ t);grind
theorem gJ:val (0,1)=0:=by decide +kernel
theorem sZ:kr (0,1):=⟨by decide,by decide⟩
theorem kY(h:∀r∈rs,kr r):kr (dS rs)/\val (dS rs)=iZ rs:=by
 obtain⟨a,b⟩:=qu rs (0,1) sZ h;refine⟨a,b.trans ?_⟩;rw[gJ];grind
theorem xz(h:∀r∈rs,kr r)(hx:kr x)(e:val x=iZ rs):x=dS rs:=
 iu hx (kY h).1 (e.trans (kY h).2.symm)
theorem Wf.red(h:Wf n r):kr r:=⟨h.pos,h.cop⟩
theorem uu(n:Nat):∀(rs:List R) (m:Nat) (acc:R),Wf m acc->(∀r∈rs,Wf n r)->Wf (m+(n+1)*rs.length) (rs.foldl bo acc)
 | [],m,acc,ha,_=>ha
 |r::t,m,acc,ha,h=>by
  refine(uu n t (m+n+1) (bo acc r) (jB ha (h r LY)) λq hq=>h q (L3 _ hq)).mono ?_;rw[MS,Qu];omega
theorem ut(h:∀r∈rs,Wf n r):Wf (1+(n+1)*rs.length) (dS rs):=uu n rs 1 (0,1) io h
section
set_option autoImplicit true
set_option relaxedAutoImplicit true
theorem zh   : QE X (.Dict [] [] pos) xr:=⟨zP ⟩
theorem zi(hu:X.A.units+1<cLine)(ho:QE X o td)(he:QE X e ty)(hf:QE X f tx)(m:M2 X o "get" apos e f cpos):QE X (.Call (.Attribute o "get" apos) [e,f] [] cpos) (xt td ty tx):=⟨zQ hu ho.p he.p hf.p m⟩
theorem BB(hu:X.A.units+1<cLine)(ho:QE X o td)(hi:QE X i ty)(hv:QE X value tv)(hs:Od value (some (.Subscript o i pos')) pos.line X.env=Nt false):QS X (.Assign [.Subscript o i pos'] value pos) (C6 td ty tv):=⟨BO hu ho.p hi.p hv.p hs⟩
theorem ze{X:Cx}{elts:List Mu}{x1}{tp apos pos:Oo}{o:Mu}{td:TE}(ho:QE X o td)(hb:Nu o "items" X.env (eval o X.env)=eval o X.env:=by rfl)(hl:(apos.endLine==pos.line)=true:=by rfl):QI X (.Tuple elts x1 tp) (.Call (.Attribute o "items" apos) [] [] pos) (As td):=⟨zG ho.p hb hl⟩
end
end B
namespace B
abbrev Pl:=Nat×Nat
def bK(p:Pl):Int:=(p.2:Int)-p.1+1
def ky(p q:Pl):Prop:=p.1<q.1∨(p.1=q.1/\q.2≤p.2)
structure kK(S:Pl->Prop)(L:Pl->Int)(p:Pl):Prop where
 inn:S p
 all:∀q,S q->L q*bK p<L p*bK q∨(L q*bK p=L p*bK q/\ky p q)
def gH(n:Nat)(p:Pl):Prop:=p.1≤p.2/\p.2<n
theorem gH.pos(h:gH n p):0<bK p:=by unfold bK;have:=h.1;omega
theorem kK.uniq(a:kK S L p)(b:kK S L q):p=q:=by
 have h1:=a.all q b.inn;have h2:=b.all p a.inn;rcases h1 with h1 | ⟨h1,o1⟩
 ·rcases h2 with h2 | ⟨h2,_⟩<;>omega
 ·rcases h2 with h2 | ⟨_,o2⟩
  ·omega
  ·unfold ky at o1 o2;apply TZ<;>omega
theorem kK.scale(ha:0<a)(hb:0<b)(e:∀q,M q*a=L q*b)(h:kK S L p):kK S M p:=by
 refine⟨h.inn,λq hq=>?_⟩;have k1:(M q*bK p)*a=(L q*bK p)*b:=by rw[M9,e,M9]
 have k2:(M p*bK q)*a=(L p*bK q)*b:=by rw[M9,e,M9]
 rcases h.all q hq with z | ⟨z,o⟩
 ·refine .inl (Pp (a:=a) ?_ (Int.le_of_lt ha));rw[k1,k2];exact Ph z hb
 ·refine .inr ⟨Oz (Int.ne_of_gt ha) ?_,o⟩;rw[k1,k2,z]
theorem Cr{l p q lr lp lq:Int}(hr:0<lr)(hp:0<lp)(hq:0<lq)(h1:l*lp≤p*lr)(h2:p*lq<q*lp):l*lq<q*lr:=by
 refine Pp (a:=lp) ?_ (Int.le_of_lt hp);have a1:l*lq*lp=l*lp*lq:=M9 _ _ _;have a2:q*lr*lp=q*lp*lr:=M9 _ _ _;have b1:l*lp*lq≤p*lr*lq:=P8 h1 (Int.le_of_lt hq);have b2:p*lr*lq=p*lq*lr:=M9 _ _ _;have b3:p*lq*lr<q*lp*lr:=Ph h2 hr;omega
theorem Cs{l p q lr lp lq:Int}(hr:0<lr)(hp:0<lp)(hq:0<lq)(h1:l*lp<p*lr)(h2:p*lq≤q*lp):l*lq<q*lr:=by
 refine Pp (a:=lp) ?_ (Int.le_of_lt hp);have a1:l*lq*lp=l*lp*lq:=M9 _ _ _;have a2:q*lr*lp=q*lp*lr:=M9 _ _ _;have b1:l*lp*lq<p*lr*lq:=Ph h1 hq;have b2:p*lr*lq=p*lq*lr:=M9 _ _ _;have b3:p*lq*lr≤q*lp*lr:=P8 h2 (Int.le_of_lt hr);omega
theorem Ct{l p q lr lp lq:Int}(hp:0<lp)(h1:l*lp=p*lr)(h2:p*lq=q*lp):l*lq=q*lr:=by
 refine Oz (a:=lp) (Int.ne_of_gt hp) ?_;have a1:l*lq*lp=l*lp*lq:=M9 _ _ _;have a2:q*lr*lp=q*lp*lr:=M9 _ _ _;have b2:p*lr*lq=p*lq*lr:=M9 _ _ _;rw[a1,a2,h1,b2,h2]
theorem kK.more(h:kK S L p)(st:∀r,S' r->gH n r)(e:∀r,S' r↔S r∨r=q)(gt:L p*bK q<L q*bK p):kK S' L q:=by
 have iq:S' q:=(e q).mpr (.inr Z);have ip:S' p:=(e p).mpr (.inl h.inn);refine⟨iq,λr hr=>?_⟩;rcases(e r).mp hr with z|z
 ·refine .inl (Cr (st r hr).pos (st p ip).pos (st q iq).pos ?_ gt);rcases h.all r z with z | ⟨z,_⟩
  ·exact Int.le_of_lt z
  ·exact Int.le_of_eq z
 ·subst z;exact .inr ⟨Z,.inr ⟨Z,LN _⟩⟩
theorem kK.stay(h:kK S L p)(e:∀r,S' r↔S r∨r=q)(le:L q*bK p≤L p*bK q)(o:ky p q∨L q*bK p≠L p*bK q):kK S' L p:=by
 refine⟨(e p).mpr (.inl h.inn),λr hr=>?_⟩;rcases(e r).mp hr with z|z
 ·exact h.all r z
 ·subst z;by_cases c:L r*bK p=L p*bK r
  ·rcases o with o|o
   ·exact .inr ⟨c,o⟩
   ·exact absurd c o
  ·exact .inl (by omega)
theorem kK.longer(h:kK S L p)(st:∀r,S' r->gH n r)(e:∀r,S' r↔S r∨r=q)(eq:L q*bK p=L p*bK q)(b:q.1=p.1)(l:p.2≤q.2):kK S' L q:=by
 have iq:S' q:=(e q).mpr (.inr Z);have ip:S' p:=(e p).mpr (.inl h.inn);refine⟨iq,λr hr=>?_⟩;rcases(e r).mp hr with z|z
 ·rcases h.all r z with z | ⟨z,o⟩
  ·exact .inl (Cs (st r hr).pos (st p ip).pos (st q iq).pos z (Int.le_of_eq eq.symm))
  ·refine .inr ⟨Ct (st p ip).pos z eq.symm,?_⟩;unfold ky at o ⊢;omega
 ·subst z;exact .inr ⟨Z,.inr ⟨Z,LN _⟩⟩
theorem kK.congr(h:kK S L p)(e:∀r,S' r↔S r):kK S' L p:=⟨(e p).mpr h.inn,λq hq=>h.all q ((e q).mp hq)⟩
def gG(n b e:Nat)(p:Pl):Prop:=gH n p/\(p.1<b∨(p.1=b/\e≤p.2))
def fP(n b e:Nat)(p:Pl):Prop:=gH n p/\(p.1<b∨(p.1=b/\p.2<e))
theorem sR(h1:b≤e)(h2:e<n)(r:Pl):gG n b e r↔gG n b (e+1) r∨r=(b,e):=by
 obtain⟨x,y⟩:=r;unfold gG gH;rw[Tv];show(x≤y/\y<n)/\_↔((x≤y/\y<n)/\_)∨_;simp only;omega
theorem sO(h1:b≤e)(h2:e<n)(r:Pl):fP n b (e+1) r↔fP n b e r∨r=(b,e):=by
 obtain⟨x,y⟩:=r;unfold fP gH;rw[Tv];simp only;omega
theorem sS(r:Pl):gG n (b+1) n r↔gG n b b r:=by
 obtain⟨x,y⟩:=r;unfold gG gH;simp only;omega
theorem sP(r:Pl):fP n (b+1) (b+1) r↔fP n b n r:=by
 obtain⟨x,y⟩:=r;unfold fP gH;simp only;omega
theorem vN(r:Pl):gH n r↔gG n n n r:=by
 obtain⟨x,y⟩:=r;unfold gG gH;simp only;omega
theorem nW(r:Pl):gH n r↔fP n n n r:=by
 obtain⟨x,y⟩:=r;unfold fP gH;simp only;omega
abbrev Wn:=Option (Nat×Nat)
def fc(b e:Nat):Wn->Bool
 |none=>false
 |some (x,y)=>decide (b≤x)&&decide (y≤e)
def bR(ws:List Wn)(p:Pl):List Nat:=(range ws.length).filter λi=>fc p.1 p.2 (ws.getD i none)
def dE(ws:List Wn)(A:Nat->Int)(p:Pl):Int:=((bR ws p).map A).sum
theorem i5{A:Nat->Int}(h:∀i,0≤A i):∀l:List Nat,0≤(l.map A).sum
 | []=>Int.le_refl _
 |x::l=>by
  rw[M3,Rf];have:=h x;have:=i5 h l;omega
theorem nS{A C:Nat->Int}{a b:Int}:∀l:List Nat,(∀i∈l,C i*a=A i*b)->(l.map C).sum*a=(l.map A).sum*b
 | [],_=>by simp
 |x::l,h=>by
  rw[M3,Rf,M3,Rf,Int.add_mul,Int.add_mul,h x LY,nS l λi hi=>h i (L3 _ hi)]
end B
namespace B
open PySem PySem.Spec L2 PyProof.Rows
def pW(ns:List Int):List Int:=ns.foldl step_dedup []
def J4(K:Fg):List V->Hp->VK->Prop:=λxs H Q=>∃p ns,xs=[.ref p]/\aS K H p (ns.map V.int)/\ns.length≤1000/\∀l,H l=none->Q (.ref l) (upd H l (.set (λk=>(pW ns).any (·==k)) (pW ns).length))
def J5:List V->Hp->VK->Prop:=λxs H Q=>∃p S n,xs=[.ref p]/\H p=some (.set S n)/\Q (.int n) H
def Jw(xs:Array Nat):Prop:=∀i j (_:i<j) (hj:j<xs.size),xs[i]'(by omega)<xs[j]
def Jv(t:SetTable):Prop:=t.plain=true->t.dummies=#[]/\Jw t.place
section
variable {prog:Mo}{w:MD}{A:Mq}{E:c5}{s:LV}
def IR:Value->Int
 | .int n _=>n
 |_=>0
def Gn(w:MD)(h:MA)(a:Addr)(ks:List Int):Prop:=∃o es ep t,h.get? a=some o/\o.ExactSet/\o.data=.set es ep t/\(∀e∈es.toList,∃n u,e=(hashInt n,Oc n u))∧
 (es.toList.map λe=>IR e.2).Perm ks/\t.fits es.size=true/\Jv t/\t.led=!w.params.followText "set-order"
end
section
variable {prog:Mo}{w:MD}{A:Mq}{E:c5}{s:LV}
def Gu(w:MD):Obj:={ cls:=.type "set",dict:=none,data:=.set #[] 0 (.fresh 0 0 (!w.params.followText "set-order"))}
variable {R:Ss->LV->Prop}{I:Addr}{fp wr:List Addr}{G:Array GenState->Array GenState->Prop}{n:Nat}{P:Nat->Value->Prop}{St:Nat->LV->Prop}
end
section
variable {prog:Mo}{w:MD}{A:Mq}{E:c5}{s:LV}
end
namespace FS
end FS
section
variable {prog:Mo}{w:MD}{A:Mq}{E:c5}{s:LV}
def KK(first:Value)(i:Nat)(a:Addr)(n ep:Nat):Obj:={ cls:=.type "set_iterator",data:=.fields #[first,.int i 0,.ref a,.int n 0,.int ep 0]}
end
end B
namespace B
open PySem PySem.Spec L2 PyProof.Rows
section
variable {prog:Mo}{w:MD}{A:Mq}{E:c5}{s:LV}
end
section
variable {prog:Mo}{w:MD}{A:Mq}{E:c5}{s:LV}
def Ju(prog:Mo)(w:MD)(a:Addr)(ks:List Int)(s:LV)(It:Addr)(s1:LV):Prop:=
 ∃(fp:List Addr) (items:Array Value) (St:Nat->LV->Prop),(∀A':Mq,A'.handled=none->WalksS prog w A' It fp [It] (λa b=>b=a) items.size (λi v=>items[i]?=some v) St)/\St 0 s1/\It∈fp/\(∀b∈fp,b<s1.heap.objs.size/\(b=a∨s.heap.objs.size≤b))∧
  s.heap.objs.size≤It/\∃ms,N8 items.toList ms/\ms.Perm ks
def JZ(t:SetTable):Nat->Nat
 |0=>0
 |k+1=>t.place.getD k 0+1
end
def J7(K:Fg):V->List V->Hp->VK->Prop:=λx vs H Q=>∃l b xs zs,x=.ref l/\vs=[.ref b]/\H l=some (.lst xs)/\bH K H b zs/\xs.length+zs.length≤1000/\Q .non (upd H l (.lst (xs++zs)))
def J2(K:Fg):List V->Hp->VK->Prop:=λxs H Q=>∃p ns,xs=[.ref p]/\(aS K H p (ns.map V.int)∨bH K H p (ns.map V.int))/\ns.length<64/\∀(l:Addr) (ms:List Int),ms.Perm ns->ms.Pairwise (·≤·)->H l=none->Q (.ref l) (upd H l (.lst (ms.map V.int)))
section
variable {prog:Mo}{w:MD}{A:Mq}{E:c5}{s:LV}
end
def GP(w:MD)(a:Addr)(ks:List Int):HO:=.ext λh=>Gn w h a ks
def J3(w:MD)(K:Fg):List V->Hp->VK->Prop:=λxs H Q=>∃p ns,xs=[.ref p]/\(aS K H p (ns.map V.int)∨bH K H p (ns.map V.int))/\ns.length≤1000/\∀l,H l=none->Q (.ref l) (upd H l (GP w l (pW ns)))
def I0(w:MD):List V->Hp->VK->Prop:=λxs H Q=>∃p ks,xs=[.ref p]/\H p=some (GP w p ks)/\ks.length<64/\∀(l:Addr) (ms:List Int),ms.Perm ks->ms.Pairwise (·≤·)->H l=none->Q (.ref l) (upd H l (.lst (ms.map V.int)))
def JN(ta:TA):TE:=λσ H Q=>ta σ H λvs H1=>∃i j:Int,vs=[.int i,.int j]/\∀p,H1 p=none->Q (.ref p) (upd H1 p (.rng i j))
def IC:R2:=λx y H Q=>∃(i:Int) (p:Addr) (lo hi:Int),x=.int i/\y=.ref p/\H p=some (.rng lo hi)/\Q (.bl (!(decide (lo≤i)&&decide (i<hi)))) H
section
set_option autoImplicit true
set_option relaxedAutoImplicit true
end
def HP(lo n:Nat):List Nat:=(range n).map λi=>lo+i
def KR:List V->Hp->VK->Prop:=λxs H Q=>∃p,∃lo n:Nat,xs=[.ref p]/\H p=some (.rng (lo:Int) ((lo+n:Nat):Int))/\lo+n≤1000/\∀l,H l=none->Q (.ref l) (upd H l (.lst ((HP lo n).map λi:Nat=>V.int i)))
theorem oG:∀{bs:List Bool} {us:List Value},bj (bs.map V.bl) us->∀{i:Nat} {v:Value},us[i]?=some v->v=.bool (bs.getD i false)
 | [],_,.nil,i,v,e=>by cases e
 |b::bs,_,.cons r t,0,v,e=>by
  rw[N6] at e
  cases e
  exact(show _=OM b from r)
 |b::bs,_,.cons r t,i+1,v,e=>by
  rw[N7] at e;exact oG t e
theorem oM:∀(bs:List Bool),(range bs.length).any (λi=>bs.getD i false)=bs.any id
 | []=>rfl
 |b::bs=>by
  rw[MS,Qg,PF,any_map,PF];have:=oM bs;show(b||(range bs.length).any (λi=>bs.getD i false))=(id b||bs.any id);rw[this];rfl
theorem wL(hc:X.calm=true):dX X (.builtin "any") (λxs H Q=>∃(p:Addr) (bs:List Bool),xs=[.ref p]/\aS X.K H p (bs.map V.bl)/\Q (.bl (bs.any id)) H):=by
 intro pins s σ H xs us Q I r h;obtain⟨p,bs,rfl,hq,q⟩:=h;obtain⟨u,rfl,rx⟩:=gm r
 cases rx
 obtain⟨its,rv,pl,hz⟩:=I.list hq;have ne:p≠s.heap.objs.size:=by
  obtain⟨o,ho,_⟩:=pl.isList;exact Nc (Mv ho)
 have hlen:its.toArray.size=bs.length:=by rw[Mz,←rv.length,LO]
 refine call_any_walk (Pk pl.isList ?_);refine⟨_,_,_,_,_,_,λi=>bs.getD i false,Z,Walks.list (A:=X.A.in1) (I.ok.hd hc) _ p ne its.toArray,⟨⟨_,Mm _ Z,Z,Z⟩,pl.isList.push _⟩,λi v s' Q' E' hv hQ=>?_,λh' tk hk=>?_⟩
 ·have e:=oG rv (i:=i) (v:=v) (by simpa using hv);subst e;exact Nk hQ
 ·rw[hlen,oM];refine⟨.bl _,H,I.kept (t':=tk) λb o e=>hk b o (λz=>?_) (LU _ e),Z,q⟩;rw[LP.mp z] at e;exact absurd (Mv e) (Na _)
def JY(te:TE)(i:Nat):TS:=λD σ H=>te σ H λx H1=>∃σ',σ.set i (some x)=σ'/\D.nx σ' H1
theorem Fv{h:MA}(x:h.Ns a m)(y:h.Ns a m'):m=m':=by
 obtain⟨o,es,ep,e1,e2,_,e3⟩:=x;obtain⟨o',es',ep',f1,f2,_,f3⟩:=y;rw[e1] at f1;cases f1;rw[e2] at f2;cases f2
 funext n
 rw[←e3,←f3]
theorem F9{X:Cx}{pins:cy}{σ:L2.St}{H:Hp}{s:LV}{h':MA}{t':Nat}{ch:List Addr}(I:Inv X pins σ H s)(hch:∀b∈ch,fg X pins H b)
  (k:∀b o,b≠X.env.locals->b∉ch->s.heap.get? b=some o->h'.get? b=some o) (ns:∃m,s.heap.Ns X.env.locals m/\h'.Ns X.env.locals m):Inv X pins σ H { s with heap:=h',toks:=t'}:=by
 have nch:∀b u,H b=some u->b∉ch:=λb u e z=>by rw[(hch b z).1] at e;cases e
 have nl:∀b u,H b=some u->b≠X.env.locals:=λb u e z=>by rw[z,I.free] at e;cases e
 refine I.step (g':=s.gens) (d':=s.drawn) (ch:=ch) (λb hb=>?_) (λb o hL _ hc e _=>k b o hL hc e) (λb o hL _ hc e _=>⟨o.slots,k b o hL hc e⟩) (λ_ _ _ _ n=>n) (λb o hc e=>?_) (λ_ _ e=>e) (λ_ _ _ e=>e) (λb ps e=>⟨#[],by rw[e];simp⟩) (λm hm=>?_) (λb u e=>?_) I.bare
 ·obtain⟨_,f2,_,f4,f5,f6⟩:=hch b hb;exact⟨f4,f2,f5,f6⟩
 ·by_cases z:b=X.env.locals
  ·obtain⟨m,_,o',es,ep,ho,_⟩:=ns;exact⟨o',by rw[z];exact ho⟩
  ·exact⟨o,k b o z hc e⟩
 ·obtain⟨m0,n1,n2⟩:=ns;rw[Fv hm n1];exact n2
 ·refine(I.hok b u e).stay (λc v hc q=>?_) (λ_ q=>q) λ_ _ q=>q
  rcases hc with z|z
  ·exact k c v (by rw[z];exact nl b u e) (by rw[z];exact nch b u e) q
  ·exact k c v (nl c _ z) (nch c _ z) q
section
variable {prog:Mo}{w:MD}{A:Mq}{E:c5}{s:LV}
theorem p8{a b c:Int}{n:Nat}(hh:A.handled=none)(hr:Qc s.heap r a b c t u v)(hs:Ub a b c=true)(hn:Pd a b c=n)(hl:n≤2^24)
  (hQ:∀h' tk acc,(∀b o,s.heap.get? b=some o->h'.get? b=some o)->SS (λi v=>∃t,v=.int (a+i*c) t) acc n->Q acc.toList { s with heap:=h',toks:=tk}):
  L6 (Ma prog w) A (TW (.ref r)) Q E s:=by
 unfold TW;refine LM (wpAny_runValue (PL F.entry_proto_collect ?_));rw[OR F.plain_proto_collect _];show L6 (Ma prog w) A.in1 (Sc [] >>= λl=>again (.builtin "list.__iadd__" ⟨[l,.ref r],[]⟩)) _ _ s;refine LM (MQ (L1 ⟨plainId_quiet F.plain_list_iadd _,PL F.entry_list_iadd ?_⟩));rw[OR F.plain_list_iadd _];show L6 (Ma prog w) A.in1 (PR (.ref s.heap.objs.size) (.ref r) (.ref s.heap.objs.size)) _ _ _;have hS:(s.heap.push { cls:=.type "list",data:=.seq ([]:List Value).toArray}).get? s.heap.objs.size=some { cls:=.type "list",data:=.seq #[]}:=Mm _ Z;refine RW (R:=λr s'=>match r with | .ok (.ret v)=>L6 (Ma prog w) A (match v with | .ref a=>(do let o ←load a;match o.data with | .seq xs _=>Nt xs.toList|_=>Rc "internal:collect")|_=>Rc "internal:collect") Q E s' | .ok _=>False | .error e=>E e s') (s:={ s with heap:=s.heap.push { cls:=.type "list",data:=.seq ([]:List Value).toArray} }) hh (LU _ hr) hs hn hl s.heap.objs.size (.ref s.heap.objs.size) _ hS λh' tk acc' c' hk hS' hacc=>?_
 show L6 (Ma prog w) A (load s.heap.objs.size >>= _) _ _ _;refine LM (SZ hS' (L1 (hQ h' tk acc' (λb o e=>hk b o (Nc (Mv e)) (LU _ e)) hacc)))
end
section
variable {X:Cx}{pins:cy}{σ:L2.St}{H:Hp}{A:Mq}{E:c5}{a kS:Addr}{vs:List Value}{kz:List Int}{f:Value}{e1:Nat}
theorem BT(I:Inv X pins σ H s)(fa:fg X pins H a)(fk:fg X pins H kS)(ha:s.heap.get? a=some oa)(hk:s.heap.get? kS=some ok)(ca:∀v,oa.data≠.cell v)(ck:∀v,ok.data≠.cell v):Inv X ((a,oa):: (kS,ok):: pins) σ H s:=by
 refine I.pins_of λp hp=>?_
 rcases LZ.mp hp with rfl|hp
 ·exact⟨ha,fa.1,fa.2.1,fa.2.2.1,ca⟩
 rcases LZ.mp hp with rfl|hp
 ·exact⟨hk,fk.1,fk.2.1,fk.2.2.1,ck⟩
 ·exact I.pin p (Md _ hp)
theorem vv(I:Inv X ((a,oa):: (kS,ok):: pins) σ H s):Inv X pins σ H s/\s.heap.get? a=some oa/\s.heap.get? kS=some ok:=by
 refine⟨I.pins_of λp hp=>I.pin p (Md _ (L3 _ (L3 _ hp))),(I.pin (a,oa) ?_).1,(I.pin (kS,ok) ?_).1⟩
 ·exact Md _ LY
 ·exact Md _ (L3 _ LY)
def vk(X:Cx)(σ:L2.St)(H:Hp)(A:Mq)(f:Value)(vs:List Value)(kz:List Int):Prop:=
 ∀(i:Nat) (v:Value) (k:Int),vs[i]?=some v->kz[i]?=some k->∀(pins:cy) (s:LV),Inv X pins σ H s→
  L6 (Ma X.prog X.w) A (call f [v]) (λu s2=>(∃t,u=.int k t)/\Inv X pins σ H s2) (λ_ _=>False) s
theorem Am(I:Inv X pins σ H s)(fa:fg X pins H a)(fk:fg X pins H kS)(hka:kS≠a)(ha:s.heap.get? a=some (O0 "list" #[] e1))(hk:s.heap.get? kS=some (O0 "list" #[] 0))
  (hlen:kz.length=vs.length) (h64:vs.length<64) (turn:vk X σ H A f vs kz)
  (h:∀s' out c,Inv X pins σ H s'->s'.heap.get? a=some (O0 "list" out c)->KskOut false kz vs out.toList->P (.done (.ret .none)) s'):
  L6 (Ma X.prog X.w) A (ksk_rest a f false vs.toArray e1 (.ref kS)) P E s:=by
 unfold ksk_rest;refine LM (RJ ?_);rw[forIn_toArray];refine LM (ksk_fold (λi s'=>∃kA e,Inv X pins σ H s'/\s'.heap.get? kS=some (O0 "list" kA e)/\s'.heap.get? a=some (O0 "list" #[] e1)/\N8 kA.toList (kz.take i)) vs 0 s ⟨#[],0,I,hk,ha,by simpa using N8.nil⟩ ?_ ?_)
 ·rintro j x s' hx ⟨kA,e,I',k',a',hi⟩;simp only[OW] at hi ⊢;have hj:j<vs.length:=(LR.mp hx).1;obtain⟨k,hkj⟩:∃k,kz[j]?=some k:=⟨_,LL (by omega)⟩;have hz:kA.size≤vs.length:=by
   have:=hi.length;rw[NU,Of] at this;omega
  refine LM (PB (Ng (turn j x k hx hkj _ s' (BT I' fa fk a' k' (λv q=>nomatch q) λv q=>nomatch q)) (λu s2 he=>?_) λ_ _ hF=>hF.elim));obtain⟨⟨t2,rfl⟩,I2⟩:=he;obtain⟨I3,a3,k3⟩:=vv I2;obtain⟨c2,hc2⟩:∃c2,(s2.heap.update kS (Obj.mapSeq (·.push (.int k t2)))).get? kS=some (O0 "list" (kA.push (.int k t2)) c2):=⟨_,get?_update_seq k3 (·.push (.int k t2))⟩;have ek:kz.take (j+1)=kz.take j++[k]:=by rw[MN,hkj];rfl
  have ea:(kA.push (Oc k t2)).toList=kA.toList++[.int k t2]:=by simp
  refine LM (listUpdate_at k3 Z (L1 ⟨Z,kA.push (.int k t2),c2,?_,hc2,?_,by rw[ek,ea];exact ksk_snoc hi⟩) (by rw[NV];omega) (MG (NQ (Array.size_push ..)) (by rw[NV];omega)))
  ·exact I3.turned (t':=s2.toks) (it:=kS) (λb o n q=>(MI _ _ (NO n)).trans q) fk.1 fk.2.1 fk.2.2.2.1 fk.2.2.2.2.1 fk.2.2.2.2.2
  ·exact(MI _ _ hka).trans a3
 ·rintro s' ⟨kA,e,I',k',a',hi⟩;have hi':N8 kA.toList kz:=by
   have e3:kz.take (0+vs.length)=kz:=Qf (by omega);rw[e3] at hi;exact hi
  refine LM (listItems_at k' Z ?_);obtain⟨m,hm,_⟩:=id I'.loc;have hmem:∀p,p∈(jT (Att.noObjs s'.heap) s'.heap X.env.locals).filter (λp=>decide (p.1≠kS/\p.1≠a))↔p.1≠X.env.locals/\s'.heap.get? p.1=some p.2/\p.1≠kS/\p.1≠a:=λp=>by
   rw[Mb];constructor
   ·rintro⟨x,y⟩;obtain⟨z1,_,z3⟩:=mD x;exact⟨z1,z3,of_decide_eq_true y⟩
   ·rintro⟨x,y,z⟩;exact⟨rE x (Att.noObjs_get _ _) y,decide_eq_true z⟩
  refine ksk_end_ (h₀:=Att.noObjs s'.heap) (L:=X.env.locals) (m:=m) (e:=e) (news:=(jT (Att.noObjs s'.heap) s'.heap X.env.locals).filter (λp=>decide (p.1≠kS/\p.1≠a))) (Att.fr_all hm) (λp hp=>?_) hka (λp hp=>((hmem p).mp hp).2.2.1) (λp hp=>((hmem p).mp hp).2.2.2) hi' hlen h64 λh3 tk3 out c F3 N3 k3=>?_
  ·rcases Mh.mp hp with hp|hp
   ·obtain⟨z1,z2,_⟩:=(hmem p).mp hp;exact⟨z2,z1,Att.noObjs_get _ _⟩
   rcases LZ.mp hp with rfl|hp
   ·exact⟨k',fk.2.1,Att.noObjs_get _ _⟩
   ·rw[LP.mp hp];exact⟨a',fa.2.1,Att.noObjs_get _ _⟩
  ·refine h _ out c (F9 (ch:=[kS,a]) I' (λb hb=>?_) (λb o hL hb e=>?_) ⟨m,hm,F3.ns⟩) (N3.get LY) k3
   ·rcases LZ.mp hb with z|z
    ·rw[z];exact fk
    ·rw[LP.mp z];exact fa
   ·refine N3.get (L3 _ ((hmem (b,o)).mpr ⟨hL,e,λz=>hb (by simp[show b=kS from z]),λz=>hb (by simp[show b=a from z])⟩))
theorem Al(I:Inv X pins σ H s)(fa:fg X pins H a)(ho:s.heap.get? a=some (O0 "list" vs.toArray n))(hlen:kz.length=vs.length)(h64:vs.length<64)(turn:vk X σ H A f vs kz)
  (h:∀s' out c,Inv X pins σ H s'->s'.heap.get? a=some (O0 "list" out c)->KskOut false kz vs out.toList->P (.done (.ret .none)) s'):
  L6 (Ma X.prog X.w) A (ksk_tree a f false) P E s:=by
 obtain⟨e1,ho1⟩:∃e1,(s.heap.update a (Obj.mapSeq λ_=>(#[]:Array Value))).get? a=some (O0 "list" #[] e1):=⟨_,get?_update_seq ho λ_=>#[]⟩;have I1:Inv X pins σ H { s with heap:=s.heap.update a (Obj.mapSeq λ_=>(#[]:Array Value)),toks:=s.toks}:=I.turned (it:=a) (λb o n q=>(MI _ _ (NO n)).trans q) fa.1 fa.2.1 fa.2.2.2.1 fa.2.2.2.2.1 fa.2.2.2.2.2;unfold ksk_tree;refine LM (listItems_at ho rfl (LM (listUpdate_at ho rfl ?_ (by rw[Mz,NV];omega) (Mx _))));refine LM (seqEpoch_at ho1 rfl (LM (wpAny_newTuple (LM (wpAny_newList (wpAny_holding ?_) (Mx _))) (by show vs.length≤sizeLine;rw[NV];omega))));generalize s.heap.update a (Obj.mapSeq λ_=>(#[]:Array Value))=h1 at ho1 I1 ⊢;have la:a<h1.objs.size:=Mv ho1;have I2:=I1.kept (t':=s.toks) (h':=(h1.push (O0 "tuple" vs.toArray 0)).push (O0 "list" #[] 0)) λb o e=>LU _ (LU _ e)
 have sz:(h1.push (O0 "tuple" vs.toArray 0)).objs.size=h1.objs.size+1:=N4 ..;exact Am (kS:=(h1.push (O0 "tuple" vs.toArray 0)).objs.size) I2 fa (I1.fpOk (by rw[sz];exact OK _) (I1.hok.fresh (by rw[sz];exact OK _))) (by rw[sz];exact NP (Qn la)) (LU _ (LU _ ho1)) (Mm _ Z) hlen h64 turn h
end
theorem Ge{X:Cx}{pins:cy}{σ:L2.St}{H:Hp}{s:LV}{p:Addr}{v:HO}(I:Inv X pins σ H s)(f:fg X pins H p)(new:ObjOk X.prog X.w (upd H p v) s.heap p v):Inv X pins σ (upd H p v) s:=by
 have old:∀b u,H b=some u->upd H p v b=some u:=λb u e=>by rw[aE (aX e f.1)];exact e
 refine I.step (h':=s.heap) (t':=s.toks) (g':=s.gens) (d':=s.drawn) (ch:=[p]) (λb hb=>?_) (λb o _ _ hc e _=>e) (λb o _ _ hc e _=>⟨o.slots,e⟩) (λb o hc e n=>?_)
  (λb o hc e=>⟨o,e⟩) (λb xs e=>old b _ e) (λb o u e=>old b _ e) (λb ps e=>⟨#[],by rw[old b _ e];simp⟩) (λm hm=>hm) (λb u e=>?_) I.bare
 ·rw[LP] at hb;subst hb;obtain⟨_,f1,_,f3,f4,f5⟩:=f;exact⟨f3,f1,f4,f5⟩
 ·rw[aE (λz=>hc (by simp[z]))];exact n
 ·by_cases hb:b=p
  ·subst hb;rw[ah] at e;cases e;exact new
  ·rw[aE hb] at e;exact(I.hok b u e).stay (λc v hc q=>q) (λc q=>old c _ q) λc xs q=>old c _ q
theorem zK{α β:Type}{g:α->β}:∀{ps l2:List β},ps.Perm l2->∀l:List α,l2=l.map g->∃ms:List α,ms.Perm l/\ps=ms.map g:=by
 intro ps l2 h
 induction h with
 |nil=>
  intro l e
  cases l with
  |nil=>exact⟨[],.nil,Z⟩
  |cons a l=>simp at e
 |cons x p ih=>
  intro l e
  cases l with
  |nil=>simp at e
  |cons a l=>
   rw[M3] at e;injection e with e1 e2;obtain⟨ms,h1,h2⟩:=ih l e2;exact⟨a::ms,h1.cons a,by rw[M3,←e1,h2]⟩
 |swap x y t=>
  intro l e
  match l,e with
  |a::b::l,e=>
   rw[M3,M3] at e;injection e with e1 e2;injection e2 with e2 e3;exact⟨b::a::l,.swap a b l,by rw[M3,M3,←e1,←e2,←e3]⟩
 |trans p1 p2 ih1 ih2=>
  intro l e;obtain⟨m2,h1,h2⟩:=ih2 l e;obtain⟨ms,h3,h4⟩:=ih1 m2 h2;exact⟨ms,h3.trans h1,h4⟩
def yZ(sp:Sp)(key:Nat->Int):List V->Hp->VK->Prop:=λxs H Q=>∃(p:Addr) (n:Nat),xs=[.ref p]/\H p=some (.rng 0 n)/\n<64/\(∀i<n,∀(Qk:VK),Qk (.int (key i)) H->sp [.int (i:Nat)] H Qk λ_ _ _=>False)∧
 ∀(l:Addr) (ms:List Nat),ms.Perm (range n)->ms.Pairwise (λa b=>key a≤key b)->H l=none->Q (.ref l) (upd H l (.lst (ms.map λi:Nat=>V.int i)))
theorem tZ{X:Cx}{k:Nat}{f:Addr}{fd:LS}{x:Mj}{sp:Sp}{key:Nat->Int}{pins:cy}{s:LV}{σ:L2.St}{H:Hp}{xs:List V}{us:List Value}{Q:VK}(F:bD X.prog X.w X.K X.mg X.base dF k f fd [x] sp)(hr:cZ (k+2) X.A)(hb:aV X.K fd [x] [])(hc:X.calm=true)
  (I:Inv X pins σ H s) (r:bj xs us) (h:yZ sp key xs H Q):L6 (Ma X.prog X.w) X.A (call (.builtin "sorted") us [(Og "key",.ref f)]) (EP X pins σ Q) X.xe s:=by
 obtain⟨p,n,rfl,hp,h64,hsp,q⟩:=h;obtain⟨u,rfl,rx⟩:=gm r
 cases rx
 obtain⟨t,u,w,e⟩:=(show ObjOk X.prog X.w H s.heap p (.rng 0 n) from I.hok p _ hp);have hh:X.A.in1.handled=none:=I.ok.hd hc;refine call_function_entry_kw kind_sorted plain_sorted entry_sorted (ksk_s1 _ _) ?_;unfold NJ.«sorted»;refine LM (m:=checkCount "sorted" 1 1 _) (L1 (LM (p8 (n:=n) hh (show Qc s.heap p 0 (n:Int) 1 t u w from e) (Sq (by omega) (by omega) (by omega) (by omega)) (by rw[Rz];split<;>omega) (by omega) λh1 tk acc kp hi=>?_)));obtain⟨hl,ha⟩:=hi;have ll:acc.toList.length=n:=by rw[NU,hl]
 have ha':∀(i:Nat) (v:Value),acc.toList[i]?=some v->∃t,v=.int (0+(i:Int)) t:=λi v e=>by
  obtain⟨t,q⟩:=ha i v (by rw[←getElem?_toList];exact e);exact⟨t,by rw[q,mul_one]⟩
 refine LM (wpAny_newList ?_ (by rw[ll,NV];omega));have I1:L2.Inv X pins σ H { s with heap:=h1,toks:=tk}:=I.kept kp;have I2:L2.Inv X pins σ H { s with heap:=h1.push (O0 "list" acc.toList.toArray 0),toks:=tk}:=I1.kept (t':=tk) λb o e=>LU _ e
 have hoL:(h1.push (O0 "list" acc.toList.toArray 0)).get? h1.objs.size=some (O0 "list" acc.toList.toArray 0):=Mm _ Z;have fp:fg X pins H h1.objs.size:=I1.fpOk (LN _) I1.fresh;show L6 _ _ _ _ _ { s with heap:=h1.push (O0 "list" acc.toList.toArray 0),toks:=tk};refine LM (wpAny_holding (wpAny_call_entry_kw slot_list_sort ⟨_,hoL,rfl⟩ entry_list_sort ?_ (ksk_l1 _ _)));show L6 _ X.A.in1.in1 (NJ.«list.sort» ⟨[.ref h1.objs.size],[(Og "key",.ref f)]⟩) _ _ _;rw[ksk_t1];refine Al (kz:=(range n).map key) I2 fp hoL (by rw[LO,Mw,ll]) (by rw[ll];exact h64) (λi v kk hv hk pins' s' I'=>?_) λs' out c I' ho hout=>⟨_,rfl,L1 ⟨_,rfl,?_⟩⟩
 ·have hi:i<n:=by rw[←ll];exact(LR.mp hv).1
  obtain⟨t',rfl⟩:=ha' i v hv;rw[LX,Nz hi] at hk;have ek:key i=kk:=MB hk;have rv:bj [V.int (i:Nat)] [Oc (0+(i:Int)) t']:=.cons ⟨t',by rw[Int.zero_add]⟩ .nil;have hl':([Oc (0+(i:Int)) t']++[]).length=[x].length:=Z;refine Pt (OU (F.run X.A.in1.in1 X.stack s' H ⟨[.int (0+(i:Int)) t'],[]⟩ _ [V.int (i:Nat)] (λv H'=>v=.int (key i)/\H'=H) (λ_ _ _=>False) hr.in1.in1 I'.env0.in1.in1 (hb s' _ I'.kIn hl') rv (hsp i hi _ ⟨Z,Z⟩)) λr s2 hq=>?_)
  cases r with
  |error e=>exact hq.elim
  |ok fl=>
   cases fl with
   |ret u=>
    obtain⟨v2,H2,I3,rv2,rfl,rfl⟩:=I'.after hq;obtain⟨t3,rfl⟩:=rv2;exact⟨⟨t3,by rw[ek]⟩,I3⟩
   |next=>exact MY hq
   |brk=>exact MY hq
   |cont=>exact MY hq
 ·obtain⟨ps,hperm,eout,hsort⟩:=hout;have zl:((range n).map key).zip acc.toList=(range n).map λi=>(key i,acc.toList.getD i .none):=by
   refine ext_getElem (by rw[length_zip,LO,LO,Mw,ll,min_self]) λi h1 h2=>?_
   rw[LO,Mw] at h2;rw[getElem_zip,Rg,Rg,getElem_range];rw[Mi,LL (by omega)];rfl
  rw[zl] at hperm;obtain⟨ms,hms,eps⟩:∃ms:List Nat,ms.Perm (range n)/\ps=ms.map λi=>(key i,acc.toList.getD i .none):=by
   exact zK hperm _ Z
  have inr:∀i∈ms,i<n:=λi hi=>LW.mp (hms.mem_iff.mp hi)
  have hv:bj (ms.map λi:Nat=>V.int i) out.toList:=by
   rw[eout,eps,Oa];have go:∀l:List Nat,(∀i∈l,i<n)->bj (l.map λi:Nat=>V.int i) (l.map (Prod.snd∘λi=>(key i,acc.toList.getD i Nf))):=by
    intro l
    induction l with
    |nil=>intro _;exact .nil
    |cons i l ih=>
     intro hl;have hi:=hl i LY;have e:acc.toList[i]?=some (acc.toList[i]'(by omega)):=LL _;obtain⟨t,q⟩:=ha' i _ e;refine .cons ⟨t,?_⟩ (ih λj hj=>hl j (L3 _ hj));show acc.toList.getD i Nf=_;rw[Mi,e,getD_some,q,Int.zero_add]
   exact go ms inr
  have hso:ms.Pairwise (λa b=>key a≤key b):=by
   rw[eps,pairwise_map] at hsort;exact hsort.imp λ{a b} h=>h
  have hsz:(ms.map λi:Nat=>V.int i).length≤sizeLine:=by rw[LO,hms.length_eq,Mw,NV];omega
  have hf:H h1.objs.size=none:=fp.1;have I4:L2.Inv X pins σ (upd H h1.objs.size (.lst (ms.map λi:Nat=>V.int i))) s':=Ge I' fp ⟨hsz,out.toList,c,hv,by simpa using ho⟩;exact⟨.ref h1.objs.size,_,I4,Z,q _ ms hms hso hf⟩
def xp(sp:Sp)(key:Nat->Int)(t:TA):TE:=λσ H Q=>t σ H λvs H1=>yZ sp key vs H1 Q
theorem zL{X:Cx}{k:Nat}{f:Addr}{fd:LS}{x fn:Mj}{sp:Sp}{key:Nat->Int}{p p2 kp pos:Oo}{e:Mu}{t:TA}(F:bD X.prog X.w X.K X.mg X.base dF k f fd [x] sp)(hr:cZ (k+2) X.A)(hb:aV X.K fd [x] [])(hc:X.calm=true)(hgf:Gl X fn)(hmf:X.mg fn=some (.ref f))
  (hg:Gl X "sorted") (hm:X.mg "sorted"=none) (ha:PA X [e] t) (hdf:(fn==("__debug__" : Mj))=false:=by decide) (hs:L4 [e] X.env=[(false,eval e X.env)]:=by rfl) :
  PE X (.Call (.Name "sorted" p) [e] [⟨some "key",.Name fn p2,kp⟩] pos) (xp sp key t):=by
 intro pins s σ H Q I h;refine NZ (gj I hg hm PyProof.Rows.boot_sorted ?_);refine callWith_kw (cA (ha pos pins s σ H _ I h) λus s1 ⟨vs,H1,I1,r1,q1⟩=>?_) (by rw[hs];rfl) (by rw[hs];rfl);refine kws_cons (iB I1 hgf hmf (kws_nil ?_) hdf);exact tZ F hr hb hc I1 r1 q1
theorem zf{X:Cx}{k:Nat}{f:Addr}{fd:LS}{x fn:Mj}{sp:Sp}{key:Nat->Int}{p p2 kp pos:Oo}{e:Mu}{t:TA}(F:bD X.prog X.w X.K X.mg X.base dF k f fd [x] sp)(hr:cZ (k+2) X.A)(hb:aV X.K fd [x] [])(hc:X.calm=true)(hgf:Gl X fn)(hmf:X.mg fn=some (.ref f))
  (hg:Gl X "sorted") (hm:X.mg "sorted"=none) (ha:QA X [e] t) (hdf:(fn==("__debug__" : Mj))=false:=by decide) (hs:L4 [e] X.env=[(false,eval e X.env)]:=by rfl) :
  QE X (.Call (.Name "sorted" p) [e] [⟨some "key",.Name fn p2,kp⟩] pos) (xp sp key t):=⟨zL F hr hb hc hgf hmf hg hm ha.p hdf hs⟩
def GX:V->List V->Hp->VK->Prop:=λx vs H Q=>∃(l:Addr) (ns:List Nat) (j k:Nat),x=.ref l/\vs=[.int (k:Int)]/\H l=some (.lst (ns.map λi:Nat=>V.int i))/\ns[j]?=some k/\(∀m,m<j->ns[m]?≠some k)/\Q .non (upd H l (.lst ((ns.eraseIdx j).map λi:Nat=>V.int i)))
def Jm(k:Int):Value->Bool
 | .int i _=>i==k
 |_=>false
theorem Cg:Jy X "list.remove" GX:=by
 intro pins s σ H x vs v us Q I rx rv h;obtain⟨l,ns,j,k,rfl,rfl,hH,hj,hno,q⟩:=h
 cases rx
 obtain⟨u,rfl,ru⟩:=rv.one;obtain⟨t,rfl⟩:=ru;obtain⟨z,its,n,r,hl,e⟩:=I.lstM hH;rw[LO] at z hl;have at_:∀(m:Nat) (w:Value),its[m]?=some w->∃i t',ns[m]?=some i/\w=.int (i:Int) t':=λm w hw=>by
  have hm:m<its.length:=(LR.mp hw).1;obtain⟨i,hi⟩:∃i,ns[m]?=some i:=⟨_,LL (by omega)⟩;obtain⟨w',hw',t',e'⟩:=r.get (show(ns.map λi:Nat=>V.int i)[m]?=some (V.int i) by rw[LX,hi];rfl);rw[hw] at hw'
  cases hw'
  exact⟨i,t',hi,e'⟩
 have jl:j<ns.length:=(LR.mp hj).1;have mem:∀y,y∈its.toArray->Sz y (.int (k:Int) t) (Jm k y):=λy hy=>by
  obtain⟨m,hm⟩:=getElem?_of_mem (by simpa using hy);obtain⟨i,t',_,rfl⟩:=at_ m y hm;exact Sz.int _ _ _ _
 have val:∀m (hm:m<its.toArray.size) (i:Nat),ns[m]?=some i->Jm k its.toArray[m]=((i:Int)==(k:Int)):=λm hm i hi=>by
  have e1:its[m]?=some (its.toArray[m]):=by simp only[getElem_toArray];exact LL (by simpa using hm)
  obtain⟨i',t',h1,h2⟩:=at_ m _ e1;rw[hi] at h1
  cases h1
  rw[h2];rfl
 refine QM F.slot_list_remove ⟨_,e,Z⟩ F.entry_list_remove (F.args_list_remove_2 _ _)
  (MeetsSeq.list_remove l its.toArray n _ (Jm k) mem j (by simpa [←hl] using jl) (by rw[val j _ k hj];simp) (λm hm lt=>?_) (by rw[Mz];omega)) ⟨e,?_⟩
 ·obtain⟨i,hi⟩:∃i,ns[m]?=some i:=⟨_,LL (by omega)⟩;rw[val m hm i hi];refine beq_eq_false_iff_ne.mpr λz=>hno m lt ?_
  rw[hi];exact congrArg some (by omega)
 refine⟨.non,_,I.lset (its':=its.eraseIdx j) hH e ?_ ?_ ?_,Z,q⟩
 ·show its.toArray.eraseIdxIfInBounds j=(its.eraseIdx j).toArray;rw[eraseIdxIfInBounds_toArray]
 ·have:=r.eraseIdx j;have e2:∀(l:List Nat) (j:Nat),(l.map λi:Nat=>V.int i).eraseIdx j=(l.eraseIdx j).map λi:Nat=>V.int i:=by
   intro l
   induction l with
   |nil=>intro j;rfl
   |cons a l ih=>
    intro j
    cases j with
    |zero=>rfl
    |succ j=>simp only[M3,RY,ih]
  rw[e2] at this;exact this
 ·rw[LO];have:=length_eraseIdx_le ns j;omega
def qo(X:Cx)(N':List Mj)(scope:OH)(y:Mj)(cl:List (Mj×Addr))(C:Addr)(fp:List Addr)(pins:cy)(s:LV)(H:Hp):Cx:=
 { X with N:=N',s₀:=s,H₀:=H,env:=Pm scope ((y,C+1)::cl) C X.env,outer:=X.stack,stack:=X.stack,ex:=fp,fn:=λz=>z==y,pn:=X.pn++pins,xe:=λ_ _=>False}
structure kx(X:Cx)(scope:OH)(y:Mj)(cl:List (Mj×Addr)):Prop where
 has:∀x,((Pm scope cl 0 X.env).kindOf x=some .cell∨(Pm scope cl 0 X.env).kindOf x=some .free)->x=y∨∃c,cl.lookup x=some c
 up:∀x c,cl.lookup x=some c->X.env.cells.lookup x=some c
 no:cl.lookup y=none
theorem wJ(h1:((Sb scope X.env).names.all λz=>!(z.2==.cell||z.2==.free)||(z.1==y)||(cl.lookup z.1).isSome)=true)(h2:iH X cl)(h3:cl.lookup y=none):kx X scope y cl:=by
 refine⟨λx h=>?_,λx c e=>h2.mem _ (mem_of_lookup e),h3⟩;have h4:=No.mp h1;have key:∀k:O3,(k=.cell∨k=.free)->(Sb scope X.env).names.lookup x=some k->x=y∨∃c,cl.lookup x=some c:=λk hk e=>by
  have q:=h4 _ (mem_of_lookup e);have z:(k==RB||k==Ts)=true:=by rcases hk with rfl|rfl<;>rfl
  simp only[z,RC,Qm,QQ] at q;rcases q with q|q
  ·exact .inl (PX q)
  ·exact .inr (Nm.mp q)
 rcases h with h|h
 ·exact key _ (.inl Z) h
 ·exact key _ (.inr Z) h
theorem fb{cl:List (Mj×Addr)}(h:((y,a):: cl).lookup x=some c):(x=y/\c=a)∨(x≠y/\cl.lookup x=some c):=by
 rw[Qe] at h
 cases e:x==y with
 |true=>
  rw[e] at h;injection h with h;exact .inl ⟨PX e,h.symm⟩
 |false=>
  rw[e] at h;refine .inr ⟨λz=>?_,h⟩;rw[z,beq_self_eq_true] at e
  cases e
theorem uO{cl:List (Mj×Addr)}(n:cl.lookup y=none)(h:cl.lookup x=some c):((y,a):: cl).lookup x=some c:=by
 have ne:(x==y)=false:=by
  cases e:x==y with
  |true=>rw[PX e,n] at h;cases h
  |false=>rfl
 rw[Qe,ne];exact h
section
variable {M:SV}{A:Mq}{E:c5}{s:LV}
theorem Ce(hs:∀n:Nat,Pe n scope.names cl=(y,n):: cl)(hp:∀h:MA,SD h scope.names=h.push { cls:=.type "cell",data:=.cell none})
  (hQ:Q { scope,locals:=s.heap.objs.size,globals,cells:=(y,s.heap.objs.size+1):: cl,qual,func:=none,code:=outer.code,frame:=outer.frame,builtins:=outer.builtins} { s with heap:=(s.heap.push { cls:=.type "dict",data:=.dict #[]}).push { cls:=.type "cell",data:=.cell none} }):
  L6 M A (P3 scope globals cl [] qual none .none (some outer)) Q E s:=by
 simp only[P3,Rb,if_true];refine LM (wpAny_alloc (LM (wpAny_layCells _ (λname kind cells=>by cases hkc:kind==RB<;>simp[hkc]) _ _ _ _ ?_)));rw[hs,hp];refine LM (L1 (L1 ?_));rw[show({ s with heap:=s.heap.push { cls:=.type "dict",data:=.dict #[]} }:LV).heap.objs.size=s.heap.objs.size+1 from N4 ..];exact hQ
end
section
variable {X:Cx}{N':List Mj}{scope:OH}{y:Mj}{cl:List (Mj×Addr)}{src:List (Option Nat)}{pins:cy}{σ:L2.St}{H:Hp}{s:LV}{fp:List Addr}
theorem Cx.compD_ok{C:Addr}(I:Inv X pins σ H s)(hC:s.heap.objs.size≤C)(hk:scope.kind=.function)(hf:∀b∈fp,fg X pins H b)(hfs:∀b∈fp,b<s.heap.objs.size)(hc:kx X scope y cl) :
  (qo X N' scope y cl C fp pins s H).Ok where
 mod:=I.ok.mod
 kind:=hk
 glob:=I.ok.glob
 blt:=I.ok.blt
 above:=hC
 inj:=λa b c e1 e2=>by
  have old:∀z,cl.lookup z=some (C+1)->False:=λz e=>by
   obtain⟨v,o,ho,_⟩:=I.cell z _ (hc.up z _ e);have q:=Mv ho;exact Na _ (Mp (Nx (OK C) q) hC)
  rcases fb e1 with⟨h1,h2⟩ | ⟨_,h2⟩
  ·rcases fb e2 with⟨h3,_⟩ | ⟨_,h4⟩
   ·rw[h1,h3]
   ·rw[h2] at h4;exact(old b h4).elim
  ·rcases fb e2 with⟨_,h4⟩ | ⟨_,h4⟩
   ·rw[h4] at h2;exact(old a h2).elim
   ·exact I.ok.inj a b c (hc.up a c h2) (hc.up b c h4)
 has:=λx h=>by
  rcases hc.has x h with z | ⟨c,z⟩
  ·exact⟨C+1,by show((y,C+1)::cl).lookup x=_;rw[z,Qe,beq_self_eq_true]⟩
  ·exact⟨c,uO hc.no z⟩
 cab:=λx c z e=>by
  have zx:x=y:=PX z;rcases fb e with⟨_,h2⟩ | ⟨h1,_⟩
  ·rw[h2];exact MG hC (OK C)
  ·exact absurd zx h1
 hd:=I.ok.hd
 frames:=I.ok.frames
 stk:=.inl Z
 exf:=λb hb=>⟨λz=>by have:=hfs b hb;rw[show b=C from z] at this;exact absurd (Mp this hC) (Na _),λx c e=>by
  rcases fb e with⟨_,h2⟩ | ⟨_,h2⟩
  ·have q:=hfs b hb;intro z;rw[show b=C+1 from z.symm.trans h2] at q;exact Na _ (Mp (Nx (OK C) q) hC)
  ·exact(hf b hb).2.2.2.2.1 x c (hc.up x c h2)⟩
 bs:=I.bs
 bsz:=MG I.ok.bsz I.sz
 noex:=λb o e hb=>by
  rcases(hf b hb).2.2.2.1 with z|z
  ·exact I.ok.noex b o e z
  ·rw[(I.ok.bs b o e).1] at z;cases z
 exfs:=λb hb z=>by
  rcases LZ.mp (I.stkSub b z) with q|q
  ·exact(hf b hb).2.1 q
  ·exact(hf b hb).2.2.1 q
 funs:=I.stack
 frf:=I.stkFree
theorem Inv.compD{C:Addr}{h₁:MA}{m:Mj->Option Value}{tk:Nat}(I:Inv X pins σ H s)(hC:C=s.heap.objs.size)(hns:h₁.Ns C m)(hcl1:h₁.IsCell (C+1) none)(keep:∀b o,s.heap.get? b=some o->h₁.get? b=some o)
  (hk:scope.kind=.function) (hf:∀b∈fp,fg X pins H b) (hfs:∀b∈fp,b<s.heap.objs.size) (hc:kx X scope y cl) (hfree:cQ X scope cl N' src) :
  Inv (qo X N' scope y cl C fp pins s H) [] (cY src σ) H { s with heap:=h₁,toks:=tk} where
 ok:=Cx.compD_ok I (NQ hC.symm) hk hf hfs hc
 os:=Z
 bare:=I.bare
 base:=Un.kept keep
 loc:=⟨m,hns,λi x v e1 e2 _=>by
  obtain⟨j,hj,hσ,kc,kc',hl⟩:=hfree.at e1 e2;obtain⟨m0,hn0,hl0⟩:=I.loc;obtain⟨u,r,l⟩:=hl0 j x v hj hσ (L7 (L8 kc));rcases l with⟨k,_⟩ | ⟨k,c,e,o,ho,hd⟩
  ·rw[kc] at k;cases k
  ·exact⟨u,r,.inr ⟨.inl kc',c,uO hc.no (hl.trans e),o,keep c o ho,hd⟩⟩⟩
 cell:=λx c e=>by
  rcases fb e with⟨_,h2⟩ | ⟨_,h2⟩
  ·rw[h2];exact⟨none,hcl1⟩
  ·obtain⟨v,o,ho,hd⟩:=I.cell x c (hc.up x c h2);exact⟨v,o,keep _ _ ho,hd⟩
 free:=I.hok.fresh (NQ hC.symm)
 freeC:=λx c e=>by
  rcases fb e with⟨_,h2⟩ | ⟨_,h2⟩
  ·rw[h2];exact I.hok.fresh (by rw[hC];exact OK _)
  ·exact I.freeC x c (hc.up x c h2)
 pin:=λp hp=>by
  have hp':p∈X.pn++pins:=by
   have z:p∈(X.pn++pins)++[]:=hp;rw[NF] at z;exact z
  obtain⟨e,n,ne,nf,d⟩:=I.pin p hp';refine⟨keep _ _ e,n,λz=>?_,λz=>?_,d⟩
  ·have:=Mv e;rw[show p.1=C from z,hC] at this;exact Na _ this
  ·rcases LZ.mp (I.stkSub _ z) with q|q
   ·exact ne q
   ·exact nf q
 hok:=I.hok.kept keep
 len:=by show(cY src σ).length=N'.length;unfold cY;rw[LO,hfree.len]
end
section
variable {X:Cx}{N':List Mj}{scope:OH}{y:Mj}{cl:List (Mj×Addr)}{src:List (Option Nat)}{tg iter elt:Mu}{ifs:List Mu}{wi:TI}{g:TG}{tt:TT}{te:TE}{pos:Oo}
theorem wH(hc:X.calm=true)(hi:PI X tg iter wi)(hg:∀C fp pins s H,PG (qo X N' scope y cl C fp pins s H) tg g)(ht:∀C fp pins s H,Ds (qo X N' scope y cl C fp pins s H) ifs tt)
  (he:∀C fp pins s H,PE (qo X N' scope y cl C fp pins s H) elt te) (hfree:cQ X scope cl N' src) (hcf:∀n:Nat,Pe n scope.names cl=(y,n)::cl) (hcp:∀h:MA,SD h scope.names=h.push { cls:=.type "cell",data:=.cell none}) (hkind:scope.kind=.function) (hcl:kx X scope y cl)
  {RR:Value->Addr->Ss->LV->Prop} {pins:cy} {s:LV} {σ:L2.St} {H:Hp} {Q:VK} (I:Inv X pins σ H s) (h:js wi src g tt te σ H Q)
  (hRR:∀D C H' s',Q (.ref D) H'->(∃m,s'.heap.Ns C m)->Inv X pins σ H' s'->wO X pins H' C->RR (.ref D) C (.ok .next) s') :
  L6 (Ma X.prog X.w) X.A (eval iter X.env) (λx s₁=>L6 (Ma X.prog X.w) X.A (TQ x) (λitv s₂=>L6 (Ma X.prog X.w) X.A (Sc []) (λacc s₃=>
   L6 (Ma X.prog X.w) X.A (P3 scope X.env.globals cl [] X.env.qual none .none (some X.env)) (λcenv s₄=>
    Op (Ma X.prog X.w) X.A (.compStart (.ListComp elt [⟨tg,iter,ifs,0⟩] scope pos) 0 itv acc { cenv with scope:=Sb scope X.env}) (RR acc cenv.locals) s₄) X.xe s₃) X.xe s₂) X.xe s₁) X.xe s:=by
 refine cA (hi pins s σ H _ I h) λv s1 h1=>cA h1 λitv s2 h2=>?_
 obtain⟨it,fp,tn,J,H2,e,I2,T,st2,f2,h2⟩:=h2;subst e;refine MQ ?_ (by show 0≤sizeLine;exact Mx _);have hD:H2 s2.heap.objs.size=none:=I2.fresh;have I3:Inv X pins σ (upd H2 s2.heap.objs.size (.lst [])) { s2 with heap:=s2.heap.push { cls:=.type "list",data:=.seq ([]:List Value).toArray} }:=I2.lnew (t':=s2.toks) (its:=[]) .nil (Mx _);obtain⟨W,⟨m0,w0⟩,turn⟩:=h2 s2.heap.objs.size hD;generalize hDe:s2.heap.objs.size=D at I3 turn w0 hD ⊢;have st3:tn 0 (s2.heap.push { cls:=.type "list",data:=.seq ([]:List Value).toArray}):=T.keep _ _ _ st2 λb _ o e=>LU _ e
 have f3:∀b∈fp,fg X pins (upd H2 D (.lst [])) b/\b<(s2.heap.push { cls:=.type "list",data:=.seq ([]:List Value).toArray}).objs.size:=λb hb=>by
  obtain⟨o,e,_⟩:=T.obj _ _ st2 b hb;have l:=Mv e;rw[hDe] at l;refine⟨⟨?_,(f2 b hb).2⟩,by rw[N4,hDe];exact Qn l⟩;rw[aE (Nc l)];exact(f2 b hb).1
 generalize (s2.heap.push { cls:=.type "list",data:=.seq ([]:List Value).toArray})=h3 at I3 st3 f3 ⊢;refine Ce hcf hcp ?_;have sz:(h3.push { cls:=.type "dict",data:=.dict #[]}).objs.size=h3.objs.size+1:=N4 ..;have hns₄:=(MA.Ns.new h3 (.type "dict")).keeps λb o e=>LU { cls:=.type "cell",data:=.cell none} e
 have hce₄:((h3.push { cls:=.type "dict",data:=.dict #[]}).push { cls:=.type "cell",data:=.cell none}).IsCell (h3.objs.size+1) none:=⟨_,by rw[←sz];exact Mm _ Z,Z⟩;have keep:∀b o,h3.get? b=some o->((h3.push { cls:=.type "dict",data:=.dict #[]}).push { cls:=.type "cell",data:=.cell none}).get? b=some o:=λb o e=>LU _ (LU _ e)
 generalize (h3.push { cls:=.type "dict",data:=.dict #[]}).push { cls:=.type "cell",data:=.cell none}=h₄ at hns₄ hce₄ keep ⊢;have I4:=Inv.compD (C:=h3.objs.size) (fp:=fp) (tk:=s2.toks) I3 Z hns₄ hce₄ keep hkind (λb hb=>(f3 b hb).1) (λb hb=>(f3 b hb).2) hcl hfree;have st4:tn 0 h₄:=T.keep _ _ _ st3 λb _ o e=>keep b o e
 have fpn:∀b∈fp,(upd H2 D (.lst [])) b=none:=λb hb=>(f3 b hb).1.1
 have hn3:∀b∈fp,b≠h3.objs.size:=λb hb=>Nc (f3 b hb).2
 have stat:∀{H':Hp},(∀b∈fp,H' b=none)->∀b∈fp,fg (qo X N' scope y cl h3.objs.size fp pins { s2 with heap:=h3} (upd H2 D (.lst []))) [] H' b:=λhn b hb=>
  ⟨hn b hb,hn3 b hb,I4.ok.exfs b hb,.inl hb,λx c e=>(by
   rcases fb e with⟨_,h2⟩ | ⟨_,h2⟩
   ·intro z;have q:=(f3 b hb).2;rw[show b=h3.objs.size+1 from z.symm.trans h2] at q;exact Na _ (Nx (OK _) q)
   ·exact(f3 b hb).1.2.2.2.2.1 x c (hcl.up x c h2)),λp hp=>(f3 b hb).1.2.2.2.2.2 p (by
   have z:p∈(X.pn++pins)++[]:=hp;rw[NF] at z;exact z)⟩
 have back:∀{H':Hp} {s':LV},Inv (qo X N' scope y cl h3.objs.size fp pins { s2 with heap:=h3} (upd H2 D (.lst []))) [] (cY src σ) H' s'->(∃m,s'.heap.Ns h3.objs.size m)/\Inv X pins σ H' s'/\wO X pins H' h3.objs.size:=λ{H' s'} I'=>by
  have Ib:Inv X pins σ H' s':=I3.call' I'.os I'.base I'.hok I'.bare λb hb=>⟨(f3 b hb).1.2.2.2.1,(f3 b hb).1.2.1,(f3 b hb).1.2.2.2.2.1,(f3 b hb).1.2.2.2.2.2⟩
  refine⟨let ⟨m,hm,_⟩:=I'.loc;⟨m,hm⟩,Ib,⟨I'.free,λz=>?_,I3.nofs (LN _),NK I3.sz,λx c e z=>?_,λp hp z=>?_⟩⟩
  ·have:=I3.lt;rw[←z] at this;exact Na _ this
  ·obtain⟨v,o,ho,_⟩:=I3.cell x c e;have:=Mv ho;rw[z] at this;exact Na _ this
  ·obtain⟨e,_⟩:=I3.pin p hp;have:=Mv e;rw[z] at this;exact Na _ this
 have loop:Op (Ma X.prog X.w) X.A (.compLoop (.ListComp elt [⟨tg,iter,ifs,0⟩] scope pos) 0 (.ref it) (.ref D) (Pm scope ((y,h3.objs.size+1)::cl) h3.objs.size X.env)) (RR (.ref D) h3.objs.size) { s2 with heap:=h₄,toks:=s2.toks}:=by
  refine oA (λn s'=>∃i ys H',Inv (qo X N' scope y cl h3.objs.size fp pins { s2 with heap:=h3} (upd H2 D (.lst []))) [] (cY src σ) H' s'/\tn i s'.heap/\(∀b∈fp,H' b=none)/\W i n ys H') ?_ m0 ⟨0,[],_,I4,st4,fpn,w0⟩;rintro n s5 ⟨i,ys,H5,I5,st5,fr5,w5⟩;rcases turn i n ys H5 w5 with⟨stop,qn⟩ | ⟨go,step⟩
  ·refine cA (T.done (qo X N' scope y cl h3.objs.size fp pins { s2 with heap:=h3} (upd H2 D (.lst []))) rfl rfl rfl hc i [] s5 _ H5 _ I5 (stat fr5) st5 stop) λr s6 ⟨hr,I6⟩=>?_
   subst hr;obtain⟨b1,b2,b3⟩:=back I6;exact hRR D _ H5 s6 qn b1 b2 b3
  ·refine cA (T.item (qo X N' scope y cl h3.objs.size fp pins { s2 with heap:=h3} (upd H2 D (.lst []))) rfl rfl rfl hc i [] s5 _ H5 _ I5 (stat fr5) st5 go) λr s6 ⟨u,hr,h6⟩=>?_
   subst hr;refine cA h6 λ_ s7 ⟨x,H7,I7,r7,y7,st7,fr7⟩=>?_
   have I7':=I7.pinned (stat fr7) (T.obj _ _ st7);refine cA (hg _ _ _ _ _ _ s7 _ H7 x u _ I7' r7 (step x H7 y7)) λ_ s8 ⟨σ8,H8,I8,ex8,q8⟩=>?_
   refine cA (ht _ _ _ _ _ _ s8 σ8 H8 _ I8 q8) λok s9 ⟨H9,I9,q9⟩=>?_
   have again:∀{ys':List V} {Ha:Hp} {sa:LV},Inv (qo X N' scope y cl h3.objs.size fp pins { s2 with heap:=h3} (upd H2 D (.lst []))) ([]++kh fp s7.heap) σ8 Ha sa->(∃m',m'<n/\W (i+1) m' ys' Ha)→
     ∃m,m<n/\∃i ys H',Inv (qo X N' scope y cl h3.objs.size fp pins { s2 with heap:=h3} (upd H2 D (.lst []))) [] (cY src σ) H' sa/\tn i sa.heap/\(∀b∈fp,H' b=none)/\W i m ys H':=λ{ys' Ha sa} Ia ⟨m',hm,wa⟩=>by
    refine⟨m',hm,i+1,ys',Ha,(Ia.unpinned).weak ex8.1.symm ex8.2,T.keep _ _ _ st7 λb hb o e=>(Ia.pin (b,o) (Md _ (Md _ (eR hb e)))).1,λb hb=>?_,wa⟩;obtain⟨o,e,_⟩:=T.obj _ _ st7 b hb;exact(Ia.pin (b,o) (Md _ (Md _ (eR hb e)))).2.1
   cases ok with
   |false=>exact again I9 q9
   |true=>
    refine cA (he _ _ _ _ _ _ s9 σ8 H9 _ I9 q9) λy s10 ⟨yv,H10,I10,r10,q10,hz,wn⟩=>?_
    refine cA (bV _ s10 σ8 H10 (.ref D) [yv] (.ref D) [y] (λ_ Hz=>∃m',m'<n/\W (i+1) m' (ys++[yv]) Hz) I10 Z (.cons r10 .nil) ⟨D,ys,yv,Z,Z,q10,hz,wn⟩) λ_ s11 ⟨_,H11,I11,_,q11⟩=>?_
    exact again I11 q11
 exact QN loop (T.self _ 0 _ _ _ st4 loop)
theorem zq{i:Nat}{x:Mj}{pos' pos2:Oo}(hN:X.N.Nodup)(hi':X.N[i]?=some x)(hx:wP X.env.scope x)(hc:X.calm=true)(hi:PI X tg iter wi)(hg:∀C fp pins s H,PG (qo X N' scope y cl C fp pins s H) tg g)(ht:∀C fp pins s H,Ds (qo X N' scope y cl C fp pins s H) ifs tt)
  (he:∀C fp pins s H,PE (qo X N' scope y cl C fp pins s H) elt te) (hfree:cQ X scope cl N' src) (hclos:Px scope X.env=Nt cl) (hcf:∀n:Nat,Pe n scope.names cl=(y,n)::cl) (hcp:∀h:MA,SD h scope.names=h.push { cls:=.type "cell",data:=.cell none}) (hkind:scope.kind=.function)
  (hnames:∀x∈scope.names,x.2=.local->scope.names.lookup x.1=some .local) (hcl:kx X scope y cl) (hs:∀x,Nl iter X.env x=Nt x:=by intro _;rfl)
  (hsw:Od (.ListComp elt [⟨tg,iter,ifs,0⟩] scope pos) (some (.Name x pos')) pos2.line X.env=Nt true:=by rfl) (hf:X.fn x=true∨X.env.scope.names.lookup x=some .local:=by first|exact .inl Z|exact .inr Z|assumption) :
  PS X (.Assign [.Name x pos'] (.ListComp elt [⟨tg,iter,ifs,0⟩] scope pos) pos2) (oZ (js wi src g tt te) (jK i)):=by
 intro pins s σ H D I h;rw[Q0 _ _ _ _ hsw];refine LM (OE ?_);show L6 _ _ ((comprehension (.ListComp elt [⟨tg,iter,ifs,0⟩] scope pos) scope X.env _ (Sc []) false (eval iter X.env) (some (Ps (.Name x pos') X.env)) >>= λ_=>Nt ()) >>= λ_=>Nt Sn) _ _ s;refine LM (LM (Ng (O4 (use:=some (Ps (.Name x pos') X.env)) (Q:=λ_ s''=>SP X pins D .next s'') Z hs hclos hkind hnames (wH hc hi hg ht he hfree hcf hcp hkind hcl (RR:=λacc C=>compPost (Ma X.prog X.w) X.A X.xe (some (Ps (.Name x pos') X.env)) (λ_ s''=>SP X pins D .next s'') acc C) I h λE C H' s' q hm hI hb=>?_)) (λ_ s'' h''=>L1 (L1 h'')) λ_ _ e=>e));obtain⟨m,o,es,ep,ho,hd,r1,r2⟩:=hm;have I':Inv X (pins++[(C,o)]) σ H' s':=hI.pins_of λp hp=>by
  rcases Mh.mp hp with h|h
  ·exact hI.pin p (Md _ h)
  ·rw[LP] at h;rw[h];exact⟨ho,hb.no,hb.lo,hb.fs,λv z=>by rw[hd] at z;cases z⟩
 refine Qa (eV I' hN hi' hx (show bv (.ref E) (.ref E) from Z) (λs'' I''=>?_) hf);have hC:=(I''.pin (C,o) (Md _ (Md _ LY))).1;have I3:Inv X pins (σ.set i (some (.ref E))) H' s'':=I''.pins_of λp hp=>I''.pin p (Md _ (MJ _ hp))
 exact⟨m,⟨o,es,ep,hC,hd,r1,r2⟩,λh' sb=>⟨_,H',hb.turned I3 sb,q⟩⟩
end
section
variable {X:Cx}{N':List Mj}{scope:OH}{y:Mj}{cl:List (Mj×Addr)}{src:List (Option Nat)}{tg iter elt:Mu}{ifs:List Mu}{wi:TI}{g:TG}{tt:TT}{te:TE}{pos:Oo}
theorem zb{i:Nat}{x:Mj}{pos' pos2:Oo}(hN:X.N.Nodup)(hi':X.N[i]?=some x)(hx:wP X.env.scope x)(hc:X.calm=true)(hi:QI X tg iter wi)(hg:∀C fp pins s H,QG (qo X N' scope y cl C fp pins s H) tg g)(ht:∀C fp pins s H,Gx (qo X N' scope y cl C fp pins s H) ifs tt)(he:∀C fp pins s H,QE (qo X N' scope y cl C fp pins s H) elt te)(hfree:cQ X scope cl N' src)(hclos:Px scope X.env=Nt cl)(hcf:∀n:Nat,Pe n scope.names cl=(y,n)::cl)(hcp:∀h:MA,SD h scope.names=h.push { cls:=.type "cell",data:=.cell none})(hkind:scope.kind=.function)(hnames:∀x∈scope.names,x.2=.local->scope.names.lookup x.1=some .local)(hcl:kx X scope y cl)(hs:∀x,Nl iter X.env x=Nt x:=by intro _;rfl)(hsw:Od (.ListComp elt [⟨tg,iter,ifs,0⟩] scope pos) (some (.Name x pos')) pos2.line X.env=Nt true:=by rfl)(hf:X.fn x=true∨X.env.scope.names.lookup x=some .local:=by first|exact .inl Z|exact .inr Z|assumption):QS X (.Assign [.Name x pos'] (.ListComp elt [⟨tg,iter,ifs,0⟩] scope pos) pos2) (oZ (js wi src g tt te) (jK i)):=⟨zq hN hi' hx hc hi.p (λz0 z1 z2 z3 z4=>(hg z0 z1 z2 z3 z4).p) (λz0 z1 z2 z3 z4=>(ht z0 z1 z2 z3 z4).p) (λz0 z1 z2 z3 z4=>(he z0 z1 z2 z3 z4).p) hfree hclos hcf hcp hkind hnames hcl hs hsw hf⟩
theorem vT(hclos:Px scope X.env=Nt cl)(hc:X.calm=true)(hi:QI X tg iter wi)(hg:∀C fp pins s H,QG (kn X N' scope cl C fp pins s H) tg g)(ht:∀C fp pins s H,Gx (kn X N' scope cl C fp pins s H) ifs tt)(he:∀C fp pins s H,QE (kn X N' scope cl C fp pins s H) elt te)(hfree:cQ X scope cl N' src)(hcell:∀x∈scope.names,x.2≠.cell)(hkind:scope.kind=.function)(hnames:∀x∈scope.names,x.2=.local->scope.names.lookup x.1=some .local)(hcl:fC X scope cl)(hs:∀x,Nl iter X.env x=Nt x:=by intro _;rfl):QE X (.ListComp elt [⟨tg,iter,ifs,0⟩] scope pos) (js wi src g tt te):=bn hc hi hg ht he hfree hclos hcell hkind hnames hcl hs
theorem zd{K:Fg}{l tg:Mu}{tl:TE}(hK:X.K=K)(hl:QE X l tl):QI X tg l (Ar K tl):=by subst hK;exact bQ hl
theorem B9{K:Fg}{k:Nat}(hK:X.K=K)(hr:cZ k X.A):gk X (ML .NotEq) (GY K):=hK▸ic hr
theorem ua{X:Cx}{K:Fg}(hK:X.K=K)(hc:X.calm=true):dX X (.builtin "any") (λxs H Q=>∃p bs,xs=[V.ref p]/\aS K H p (map V.bl bs)/\Q (V.bl (bs.any id)) H):=by subst hK;exact wL hc
end
structure ee(K:Fg)(n:Mj)(st:Stmt)(f:Addr)(d:LS):Prop where
 p:PySem.W.nsIn K Mf n=some (some (.ref f))
 F:Fun K n n st f d
section
variable {K:Fg}{n:Mj}{st:Stmt}{f:Addr}{d:LS}
theorem isF{oc:Value}{od an:Option Addr}{sl:Array (Option Value)}{kV dc pm cd ct:Value}(p:PySem.W.nsIn K Mf n=some (some (.ref f)))
  (l:K.lookup f=some ⟨oc,od,.func (PySem.W.fnOf n n (fB st) (dZ st) (av st) .none kV dc pm an cd ct),sl⟩) (c:PySem.W.codeIn K cd n=true) (k:PySem.W.keepIn K (.ref f)=true) :
  ee K n st f (PySem.W.fnOf n n (fB st) (dZ st) (av st) .none kV dc pm an cd ct):=⟨p,Ax l c k⟩
abbrev BA(n:Mj)(st:Stmt)(us:List Value)(ps:List Mj):Prop:=∀(kV dc pm:Value) (an:Option Addr) (cd ct:Value),Ta (PySem.W.fnOf n n (fB st) (dZ st) (av st) .none kV dc pm an cd ct) ⟨us,[]⟩=Nt (ps.zip us)
theorem ee.b1{x:Mj}(I:ee K n st f d)(h:∀u,BA n st [u] [x]:=by exact λ_ _ _ _ _ _ _=>Z):aV K d [x] []:=I.F.binds λa b c e g i us hl=>match us,hl with | [u],_=>h u a b c e g i
theorem ee.b2{x y:Mj}(I:ee K n st f d)(h:∀u v,BA n st [u,v] [x,y]:=by exact λ_ _ _ _ _ _ _ _=>Z):aV K d [x,y] []:=I.F.binds λa b c e g i us hl=>match us,hl with | [u,v],_=>h u v a b c e g i
theorem ee.b3{x y z:Mj}(I:ee K n st f d)(h:∀u v w,BA n st [u,v,w] [x,y,z]:=by exact λ_ _ _ _ _ _ _ _ _=>Z):aV K d [x,y,z] []:=I.F.binds λa b c e g i us hl=>match us,hl with | [u,v,w],_=>h u v w a b c e g i
theorem ee.b5{x y z t s:Mj}(I:ee K n st f d)(h:∀u v w r q,BA n st [u,v,w,r,q] [x,y,z,t,s]:=by exact λ_ _ _ _ _ _ _ _ _ _ _=>Z):aV K d [x,y,z,t,s] []:=I.F.binds λa b c e g i us hl=>match us,hl with | [u,v,w,r,q],_=>h u v w r q a b c e g i
end
theorem af{X:Cx}{st:Stmt}{cV:List Stmt}{t u:TS}(h1:QS X st t)(h2:dI X cV u):dI X (st::cV) (let Uq:=u;DA t Uq):=y9 h1 h2
end B
local macro_rules
 | `(tactic| nofun)=>`(tactic| (extract_lets +lift;try dsimp -zeta -zetaDelta only[L2.Cx.nox,L2.Cx.wish,L2.bL]))
namespace My
open PySem L2 B PyProof.Rows
theorem b8{X:Cx}{pos:Oo}(i:Nat){x:Mj}{e:Mu}{te:TE}{pos':Oo}(hN:X.N.Nodup)(he:QE X e te)(hi:X.N[i]?=some x:=by rfl)(hx:wP X.env.scope x:=by first|exact L8 Z|exact L7 Z)(hs:Od e (some (.Name x pos')) pos.line X.env=Nt false:=by rfl)(hf:X.fn x=true∨X.env.scope.names.lookup x=some .local:=by first|exact .inl Z|exact .inr Z|assumption):QS X (.Assign [.Name x pos'] e pos) (oZ te (jK i)):=Eo hN hi hx he hs hf
theorem eX{N P:List Mj}{sc:OH}(a:sc.kind=.function:=by rfl)(b:sc.isCoroutine=false:=by rfl)(c:sc.isGenerator=false:=by rfl)(d:N.Nodup:=by decide +kernel)(e:N.take P.length=P:=by rfl)(f:∀x∈P,sc.names.lookup x=some .local∨sc.names.lookup x=some .cell:=by decide +kernel)(g:∀y∈sc.names,y.2≠.free:=by decide +kernel):aK N P sc:=⟨a,b,c,d,e,f,g⟩
theorem df{X:Cx}{k j:Nat}{f:Addr}{fd:LS}{ps:List Mj}{sp:Sp}{x:Mj}{p pos:Oo}{e:Mu}{es:List Mu}{t:TA}(F:bD X.prog X.w X.K X.mg X.base dF k f fd ps sp)(hr:cZ j X.A)(hm:X.mg x=some (.ref f))(hk:PySem.W.keepIn X.K (.ref f)=true)(hb:aV X.K fd ps [])(ha:QA X (e::es) t)(hl:k≤j:=by decide)(hg:Gl X x:=by rfl)(hdb:(x==("__debug__" : Mj))=false:=by decide)(he:L4 (e::es) X.env=(false,eval e X.env)::L4 es X.env:=by rfl)(hpl:(Ol pos (L4 es X.env)).any (·.1)=false:=by rfl):QE X (.Call (.Name x p) (e::es) [] pos) (qD sp [] E0 t):=fU F (hr.mono hl) hg hm hk hb .nil n9 ha hdb he hpl
theorem bW{X:Cx}{a b:Mu}{ta tb:TE}{pos:Oo}{r:R2}(hr:Gk X r)(ha:QE X a ta)(hb:QE X b tb)(hs:ql b:=by exact λ_ _=>Z):QE X (.Subscript a b pos) (Bf r ta tb):=aZ hr ha hb hs
theorem K6{K:Fg}{x qual:Mj}{st:Stmt}{f:Addr}{fd:LS}{ps:List Mj}(F:Fun K x qual st f fd) (h:∀(kV doc pm:Value) (an:Option Addr) (cdv ct:Value) (us:List Value),us.length=ps.length->Ta (PySem.W.fnOf x qual (fB st) (dZ st) (av st) .none kV doc pm an cdv ct) ⟨us,[]⟩=Nt (ps.zip us):=by
 intro _ _ _ _ _ _ us hl
 match us,hl with
 | [],h2=>first|rfl | (simp at h2)
 | [_],h2=>first|rfl | (simp at h2)
 | [_,_],h2=>first|rfl | (simp at h2)
 | [_,_,_],h2=>first|rfl | (simp at h2)
 | [_,_,_,_],h2=>first|rfl | (simp at h2)
 |_::_::_::_::_::_,h2=>simp at h2):aV K fd ps []:=F.binds h
def top(i:Nat):Stmt:=PySem.Challenge.pw_paceplan_k34_least_plans.main.body.getD i (.Pass ⟨0,0,0,0⟩)
abbrev yj:Stmt:=top 1
abbrev Ee:Stmt:=top 15
abbrev yg:Stmt:=top 16
abbrev xY:Stmt:=top 17
abbrev yf:Stmt:=top 18
abbrev ye:Stmt:=top 19
abbrev xX:Stmt:=top 20
abbrev yo:Stmt:=top 21
abbrev yi:Stmt:=top 22
abbrev yc:Stmt:=top 23
abbrev yU:Stmt:=top 24
abbrev yP:Stmt:=top 27
abbrev yT:Stmt:=top 28
abbrev yD:Stmt:=top 29
abbrev Ea:Stmt:=top 30
abbrev yC:Stmt:=top 31
abbrev D9:Stmt:=top 33
abbrev xW:Stmt:=top 34
abbrev Ed:Stmt:=top 35
abbrev yB:Stmt:=top 36
abbrev yh:Stmt:=top 37
abbrev Ec:Stmt:=top 38
abbrev D8:Stmt:=top 39
abbrev Eb:Stmt:=top 41
abbrev yz:Stmt:=top 42
abbrev yO:Stmt:=top 43
abbrev xZ:Stmt:=top 44
abbrev yS:Stmt:=top 45
abbrev yy:Stmt:=top 47
abbrev yx:Stmt:=top 48
abbrev yN:Stmt:=top 49
abbrev yw:Stmt:=top 50
abbrev yn:Stmt:=top 51
abbrev ym:Stmt:=top 52
abbrev yu:Stmt:=top 53
abbrev yl:Stmt:=top 54
abbrev yM:Stmt:=top 55
abbrev yL:Stmt:=top 56
abbrev D7:Stmt:=top 57
abbrev yR:Stmt:=top 58
abbrev yt:Stmt:=top 59
abbrev yQ:Stmt:=top 60
abbrev yK:Stmt:=top 61
abbrev yJ:Stmt:=top 62
abbrev yk:Stmt:=top 63
abbrev yr:Stmt:=top 64
abbrev yH:Stmt:=top 65
abbrev D6:Stmt:=top 66
abbrev DZ:Stmt:=top 67
abbrev yG:Stmt:=top 68
abbrev yE:Stmt:=top 69
abbrev xV:Stmt:=top 70
abbrev nY:Stmt:=Cm (top 5) 0
set_option genInjectivity false in
structure Ad where
 a_Q47:Addr
 d_Q47:LS
 a_Q0:Addr
 d_Q0:LS
 a_Q53:Addr
 d_Q53:LS
 a_Q58:Addr
 d_Q58:LS
 a_Q54:Addr
 d_Q54:LS
 a_Q55:Addr
 d_Q55:LS
 a_Q59:Addr
 d_Q59:LS
 a_Q37:Addr
 d_Q37:LS
 a_Q48:Addr
 d_Q48:LS
 a_Q56:Addr
 d_Q56:LS
 a_Q10:Addr
 d_Q10:LS
 a_Q15:Addr
 d_Q15:LS
 a_Q11:Addr
 d_Q11:LS
 a_Q27:Addr
 d_Q27:LS
 a_Q4:Addr
 d_Q4:LS
 a_Q28:Addr
 d_Q28:LS
 a_Q5:Addr
 d_Q5:LS
 a_Q60:Addr
 d_Q60:LS
 a_Q1:Addr
 d_Q1:LS
 a_Q29:Addr
 d_Q29:LS
 a_Q49:Addr
 d_Q49:LS
 a_Q2:Addr
 d_Q2:LS
 a_Q6:Addr
 d_Q6:LS
 a_Q3:Addr
 d_Q3:LS
 a_Q30:Addr
 d_Q30:LS
 a_Q16:Addr
 d_Q16:LS
 a_Q57:Addr
 d_Q57:LS
 a_Q12:Addr
 d_Q12:LS
 a_Q31:Addr
 d_Q31:LS
 a_Q32:Addr
 d_Q32:LS
 a_Q17:Addr
 d_Q17:LS
 a_Q33:Addr
 d_Q33:LS
 a_Q38:Addr
 d_Q38:LS
 a_Q39:Addr
 d_Q39:LS
 a_Q34:Addr
 d_Q34:LS
 a_Q40:Addr
 d_Q40:LS
 a_Q18:Addr
 d_Q18:LS
 a_Q19:Addr
 d_Q19:LS
 a_Q7:Addr
 d_Q7:LS
 a_Q13:Addr
 d_Q13:LS
 a_Q35:Addr
 d_Q35:LS
 a_Q14:Addr
 d_Q14:LS
 a_Q20:Addr
 d_Q20:LS
 a_Q21:Addr
 d_Q21:LS
 a_Q41:Addr
 d_Q41:LS
 a_Q36:Addr
 d_Q36:LS
 a_Q22:Addr
 d_Q22:LS
 a_Q8:Addr
 d_Q8:LS
 a_Q9:Addr
 d_Q9:LS
 a_Q23:Addr
 d_Q23:LS
 a_Q24:Addr
 d_Q24:LS
 a_Q61:Addr
 d_Q61:LS
 c_NOUGHT:Addr
 k_TURNS:TX
 c_base:Addr
 c_Q50:Addr
 a_Q50:Addr
 d_Q50:LS
 c_Q25:Addr
 c_Q42:Addr
 c_Q51:Addr
 c_Q43:Addr
 c_Q52:Addr
 c_Q44:Addr
 c_Q45:Addr
 c_Q26:Addr
 c_Q46:Addr
structure eg(K:Fg)(mg:Mj->Option Value)(t:Ad):Prop where
 F_Q47:Fun K "copied" "copied" yj t.a_Q47 t.d_Q47
 b_Q47:aV K t.d_Q47 ["thing"] []
 m_Q47:mg "copied"=some (.ref t.a_Q47)
 F_Q0:Fun K "greatest_divisor" "greatest_divisor" Ee t.a_Q0 t.d_Q0
 b_Q0:aV K t.d_Q0 ["one","other"] []
 m_Q0:mg "greatest_divisor"=some (.ref t.a_Q0)
 F_Q53:Fun K "ratio" "ratio" yg t.a_Q53 t.d_Q53
 b_Q53:aV K t.d_Q53 ["top","bottom"] []
 m_Q53:mg "ratio"=some (.ref t.a_Q53)
 F_Q58:Fun K "plus" "plus" xY t.a_Q58 t.d_Q58
 b_Q58:aV K t.d_Q58 ["one","other"] []
 m_Q58:mg "plus"=some (.ref t.a_Q58)
 F_Q54:Fun K "minus" "minus" yf t.a_Q54 t.d_Q54
 b_Q54:aV K t.d_Q54 ["one","other"] []
 m_Q54:mg "minus"=some (.ref t.a_Q54)
 F_Q55:Fun K "times" "times" ye t.a_Q55 t.d_Q55
 b_Q55:aV K t.d_Q55 ["one","other"] []
 m_Q55:mg "times"=some (.ref t.a_Q55)
 F_Q59:Fun K "over" "over" xX t.a_Q59 t.d_Q59
 b_Q59:aV K t.d_Q59 ["one","other"] []
 m_Q59:mg "over"=some (.ref t.a_Q59)
 F_Q37:Fun K "is_less" "is_less" yo t.a_Q37 t.d_Q37
 b_Q37:aV K t.d_Q37 ["one","other"] []
 m_Q37:mg "is_less"=some (.ref t.a_Q37)
 F_Q48:Fun K "lesser" "lesser" yi t.a_Q48 t.d_Q48
 b_Q48:aV K t.d_Q48 ["one","other"] []
 m_Q48:mg "lesser"=some (.ref t.a_Q48)
 F_Q56:Fun K "total" "total" yc t.a_Q56 t.d_Q56
 b_Q56:aV K t.d_Q56 ["some"] []
 m_Q56:mg "total"=some (.ref t.a_Q56)
 F_Q10:Fun K "whole_parts" "whole_parts" yU t.a_Q10 t.d_Q10
 b_Q10:aV K t.d_Q10 ["some"] []
 m_Q10:mg "whole_parts"=some (.ref t.a_Q10)
 F_Q15:Fun K "in_window" "in_window" yP t.a_Q15 t.d_Q15
 b_Q15:aV K t.d_Q15 ["work","turn"] []
 m_Q15:mg "in_window"=some (.ref t.a_Q15)
 F_Q11:Fun K "no_leanings" "no_leanings" yT t.a_Q11 t.d_Q11
 b_Q11:aV K t.d_Q11 ["count"] []
 m_Q11:mg "no_leanings"=some (.ref t.a_Q11)
 F_Q27:Fun K "add_lean" "add_lean" yD t.a_Q27 t.d_Q27
 b_Q27:aV K t.d_Q27 ["leanings","lean"] []
 m_Q27:mg "add_lean"=some (.ref t.a_Q27)
 F_Q4:Fun K "all_leanings" "all_leanings" Ea t.a_Q4 t.d_Q4
 b_Q4:aV K t.d_Q4 ["count","leans"] []
 m_Q4:mg "all_leanings"=some (.ref t.a_Q4)
 F_Q28:Fun K "drawn_in" "drawn_in" yC t.a_Q28 t.d_Q28
 b_Q28:aV K t.d_Q28 ["sheet"] []
 m_Q28:mg "drawn_in"=some (.ref t.a_Q28)
 F_Q5:Fun K "kept_windows" "kept_windows" D9 t.a_Q5 t.d_Q5
 b_Q5:aV K t.d_Q5 ["works","left"] []
 m_Q5:mg "kept_windows"=some (.ref t.a_Q5)
 F_Q60:Fun K "held" "held" xW t.a_Q60 t.d_Q60
 b_Q60:aV K t.d_Q60 ["windows","begin","end"] []
 m_Q60:mg "held"=some (.ref t.a_Q60)
 F_Q1:Fun K "tightest_places" "tightest_places" Ed t.a_Q1 t.d_Q1
 b_Q1:aV K t.d_Q1 ["windows","amounts","count"] []
 m_Q1:mg "tightest_places"=some (.ref t.a_Q1)
 F_Q29:Fun K "tightest" "tightest" yB t.a_Q29 t.d_Q29
 b_Q29:aV K t.d_Q29 ["works","left"] []
 m_Q29:mg "tightest"=some (.ref t.a_Q29)
 F_Q49:Fun K "layers" "layers" yh t.a_Q49 t.d_Q49
 b_Q49:aV K t.d_Q49 ["works"] []
 m_Q49:mg "layers"=some (.ref t.a_Q49)
 F_Q2:Fun K "layer_density" "layer_density" Ec t.a_Q2 t.d_Q2
 b_Q2:aV K t.d_Q2 ["works","layer"] []
 m_Q2:mg "layer_density"=some (.ref t.a_Q2)
 F_Q6:Fun K "layer_speeds" "layer_speeds" D8 t.a_Q6 t.d_Q6
 b_Q6:aV K t.d_Q6 ["works"] []
 m_Q6:mg "layer_speeds"=some (.ref t.a_Q6)
 F_Q3:Fun K "first_to_come" "first_to_come" Eb t.a_Q3 t.d_Q3
 b_Q3:aV K t.d_Q3 ["works","leanings","waiting"] []
 m_Q3:mg "first_to_come"=some (.ref t.a_Q3)
 F_Q30:Fun K "order_of" "order_of" yz t.a_Q30 t.d_Q30
 b_Q30:aV K t.d_Q30 ["works","leans"] []
 m_Q30:mg "order_of"=some (.ref t.a_Q30)
 F_Q16:Fun K "deal_turn" "deal_turn" yO t.a_Q16 t.d_Q16
 b_Q16:aV K t.d_Q16 ["works","order","left","turn","speed"] []
 m_Q16:mg "deal_turn"=some (.ref t.a_Q16)
 F_Q57:Fun K "dealt" "dealt" xZ t.a_Q57 t.d_Q57
 b_Q57:aV K t.d_Q57 ["works","leans","speeds"] []
 m_Q57:mg "dealt"=some (.ref t.a_Q57)
 F_Q12:Fun K "least_plan" "least_plan" yS t.a_Q12 t.d_Q12
 b_Q12:aV K t.d_Q12 ["sheet"] []
 m_Q12:mg "least_plan"=some (.ref t.a_Q12)
 F_Q31:Fun K "_law_tape" "_law_tape" yy t.a_Q31 t.d_Q31
 b_Q31:aV K t.d_Q31 ["_law_script"] []
 m_Q31:mg "_law_tape"=some (.ref t.a_Q31)
 F_Q32:Fun K "_law_draw" "_law_draw" yx t.a_Q32 t.d_Q32
 b_Q32:aV K t.d_Q32 ["_law_tape_here","_law_many"] []
 m_Q32:mg "_law_draw"=some (.ref t.a_Q32)
 F_Q17:Fun K "_law_alike" "_law_alike" yN t.a_Q17 t.d_Q17
 b_Q17:aV K t.d_Q17 ["_law_due","_law_found"] []
 m_Q17:mg "_law_alike"=some (.ref t.a_Q17)
 F_Q33:Fun K "_law_frac" "_law_frac" yw t.a_Q33 t.d_Q33
 b_Q33:aV K t.d_Q33 ["_law_top","_law_bottom"] []
 m_Q33:mg "_law_frac"=some (.ref t.a_Q33)
 F_Q38:Fun K "_law_add" "_law_add" yn t.a_Q38 t.d_Q38
 b_Q38:aV K t.d_Q38 ["_law_one","_law_other"] []
 m_Q38:mg "_law_add"=some (.ref t.a_Q38)
 F_Q39:Fun K "_law_mul" "_law_mul" ym t.a_Q39 t.d_Q39
 b_Q39:aV K t.d_Q39 ["_law_one","_law_other"] []
 m_Q39:mg "_law_mul"=some (.ref t.a_Q39)
 F_Q34:Fun K "_law_less" "_law_less" yu t.a_Q34 t.d_Q34
 b_Q34:aV K t.d_Q34 ["_law_one","_law_other"] []
 m_Q34:mg "_law_less"=some (.ref t.a_Q34)
 F_Q40:Fun K "_law_sum" "_law_sum" yl t.a_Q40 t.d_Q40
 b_Q40:aV K t.d_Q40 ["_law_some"] []
 m_Q40:mg "_law_sum"=some (.ref t.a_Q40)
 F_Q18:Fun K "_law_works" "_law_works" yM t.a_Q18 t.d_Q18
 b_Q18:aV K t.d_Q18 ["_law_tape_here","_law_many"] []
 m_Q18:mg "_law_works"=some (.ref t.a_Q18)
 F_Q19:Fun K "_law_units" "_law_units" yL t.a_Q19 t.d_Q19
 b_Q19:aV K t.d_Q19 ["_law_works_here"] []
 m_Q19:mg "_law_units"=some (.ref t.a_Q19)
 F_Q7:Fun K "_law_tightest" "_law_tightest" D7 t.a_Q7 t.d_Q7
 b_Q7:aV K t.d_Q7 ["_law_works_here","_law_left"] []
 m_Q7:mg "_law_tightest"=some (.ref t.a_Q7)
 F_Q13:Fun K "_law_layers" "_law_layers" yR t.a_Q13 t.d_Q13
 b_Q13:aV K t.d_Q13 ["_law_works_here"] []
 m_Q13:mg "_law_layers"=some (.ref t.a_Q13)
 F_Q35:Fun K "_law_pace" "_law_pace" yt t.a_Q35 t.d_Q35
 b_Q35:aV K t.d_Q35 ["_law_works_here","_law_layer"] []
 m_Q35:mg "_law_pace"=some (.ref t.a_Q35)
 F_Q14:Fun K "_law_speeds" "_law_speeds" yQ t.a_Q14 t.d_Q14
 b_Q14:aV K t.d_Q14 ["_law_works_here"] []
 m_Q14:mg "_law_speeds"=some (.ref t.a_Q14)
 F_Q20:Fun K "_law_above" "_law_above" yK t.a_Q20 t.d_Q20
 b_Q20:aV K t.d_Q20 ["_law_leans_here","_law_work"] []
 m_Q20:mg "_law_above"=some (.ref t.a_Q20)
 F_Q21:Fun K "_law_leans" "_law_leans" yJ t.a_Q21 t.d_Q21
 b_Q21:aV K t.d_Q21 ["_law_tape_here","_law_many"] []
 m_Q21:mg "_law_leans"=some (.ref t.a_Q21)
 F_Q41:Fun K "_law_key" "_law_key" yk t.a_Q41 t.d_Q41
 b_Q41:aV K t.d_Q41 ["_law_number"] []
 m_Q41:mg "_law_key"=some (.ref t.a_Q41)
 F_Q36:Fun K "_law_next" "_law_next" yr t.a_Q36 t.d_Q36
 b_Q36:aV K t.d_Q36 ["_law_works_here","_law_leans_here","_law_come"] []
 m_Q36:mg "_law_next"=some (.ref t.a_Q36)
 F_Q22:Fun K "_law_dealt" "_law_dealt" yH t.a_Q22 t.d_Q22
 b_Q22:aV K t.d_Q22 ["_law_works_here","_law_leans_here","_law_speeds_here"] []
 m_Q22:mg "_law_dealt"=some (.ref t.a_Q22)
 F_Q8:Fun K "_law_drawn_in" "_law_drawn_in" D6 t.a_Q8 t.d_Q8
 b_Q8:aV K t.d_Q8 ["_law_sheet"] []
 m_Q8:mg "_law_drawn_in"=some (.ref t.a_Q8)
 F_Q9:Fun K "_law_is_right" "_law_is_right" DZ t.a_Q9 t.d_Q9
 b_Q9:aV K t.d_Q9 ["_law_sheet","_law_plan"] []
 m_Q9:mg "_law_is_right"=some (.ref t.a_Q9)
 F_Q23:Fun K "_law_marks" "_law_marks" yG t.a_Q23 t.d_Q23
 b_Q23:aV K t.d_Q23 ["_law_e"] []
 m_Q23:mg "_law_marks"=some (.ref t.a_Q23)
 F_Q24:Fun K "_law_tried" "_law_tried" yE t.a_Q24 t.d_Q24
 b_Q24:aV K t.d_Q24 ["_law_sheet"] []
 m_Q24:mg "_law_tried"=some (.ref t.a_Q24)
 F_Q61:Fun K "law" "law" xV t.a_Q61 t.d_Q61
 b_Q61:aV K t.d_Q61 ["_law_script"] []
 m_Q61:mg "law"=some (.ref t.a_Q61)
 m_NOUGHT:mg "NOUGHT"=some (.ref t.c_NOUGHT)
 q_NOUGHT:∀H,bH K H t.c_NOUGHT [.int (0),.int (1)]
 m_TURNS:mg "TURNS"=some (.int (24) t.k_TURNS)
 X_Q50:XC K t.c_Q50 t.a_Q50 (.ref t.c_base::lG)
 F_Q50:Fun K "__init__" "NoRoom.__init__" nY t.a_Q50 t.d_Q50
 b_Q50:aV K t.d_Q50 ["self","work"] []
 m_Q50:mg "NoRoom"=some (.ref t.c_Q50)
 n_Q50_work:gl K t.c_Q50 "work"
 g_Q50:ug K t.c_Q50
 m_Q25:mg "PaceError"=some (.ref t.c_Q25)
 m_Q42:mg "NoLeast"=some (.ref t.c_Q42)
 m_Q51:mg "NoPlan"=some (.ref t.c_Q51)
 m_Q43:mg "NoPrice"=some (.ref t.c_Q43)
 m_Q52:mg "NoMuch"=some (.ref t.c_Q52)
 m_Q44:mg "NoSheet"=some (.ref t.c_Q44)
 m_Q45:mg "NoSpeed"=some (.ref t.c_Q45)
 m_Q26:mg "NoStretch"=some (.ref t.c_Q26)
 m_Q46:mg "NoRatio"=some (.ref t.c_Q46)
 x_catch:PySem.W.exmOne K (.ref t.c_Q50) (.ref t.c_Q25)=some true
 y_self:PySem.W.kitOne K (.ref t.c_Q50) (.ref t.c_Q50)=some true
 y_base:PySem.W.kitOne K (.ref t.c_Q50) (.ref t.c_Q25)=some true
 y_val:PySem.W.kitOne K (.ref t.c_Q50) (.type "ValueError")=some true
 y_not:PySem.W.kitAny K (.ref t.c_Q50) [.ref t.c_Q42,.ref t.c_Q52,.ref t.c_Q51,.ref t.c_Q43,.ref t.c_Q44,.ref t.c_Q45,.ref t.c_Q26]=some false
 z_ValueError:mg "ValueError"=none
 z_abs:mg "abs"=none
 z_all:mg "all"=none
 z_any:mg "any"=none
 z_bool:mg "bool"=none
 z_enumerate:mg "enumerate"=none
 z_int:mg "int"=none
 z_isinstance:mg "isinstance"=none
 z_len:mg "len"=none
 z_list:mg "list"=none
 z_max:mg "max"=none
 z_min:mg "min"=none
 z_range:mg "range"=none
 z_repr:mg "repr"=none
 z_sorted:mg "sorted"=none
 z_str:mg "str"=none
 z_sum:mg "sum"=none
 z_tuple:mg "tuple"=none
abbrev qJ:=xI
abbrev qP:=xK
def iI(_:Fg):Sp:=λvs H Q _=>∃a b:Int,vs=[.int a,.int b]/\Q (.int (Int.gcd a b:Nat)) H
theorem Aj(hB:0<B)(hb:0<b)(h1:B∣84)(h2:b∣84):0<B*(b/(Int.gcd B b:Int))/\B*(b/(Int.gcd B b:Int))∣84/\B∣B*(b/(Int.gcd B b:Int))/\b∣B*(b/(Int.gcd B b:Int)):=by
 obtain⟨m,rfl⟩:=Nb (Int.le_of_lt hB);obtain⟨n,rfl⟩:=Nb (Int.le_of_lt hb);have e:(m:Int)*((n:Int)/(Int.gcd m n:Int))=((lcm m n:Nat):Int):=by
  show(m:Int)*((n:Int)/((Nat.gcd m n:Nat):Int))=_;rw[←natCast_ediv,←Q7];unfold lcm;rw[mul_div_assoc _ (Nat.gcd_dvd_right m n)]
 rw[e];have p:=lcm_pos (show 0<m by omega) (show 0<n by omega);refine⟨by omega,?_,Int.natCast_dvd_natCast.mpr (dvd_lcm_left m n),Int.natCast_dvd_natCast.mpr (dvd_lcm_right m n)⟩;have a1:m∣84:=Int.natCast_dvd_natCast.mp h1;have a2:n∣84:=Int.natCast_dvd_natCast.mp h2;exact Int.natCast_dvd_natCast.mpr (lcm_dvd a1 a2)
def Ae(H:Hp)(Q:VK)(r:R):Prop:=∀p,H p=none->Q (.ref p) (upd H p (.tup [.int r.1,.int r.2]))
def IT(K:Fg)(H:Hp)(Q:VK)(r:R):Prop:=∀(v:V) (H':Hp),aB H H'->RV K H' v r->Q v H'
def qH(_:Fg):Sp:=λvs H Q _=>∃a b:Int,vs=[.int a,.int b]/\0<b/\b.natAbs<2^4000/\Ae H Q (eZ a b)
def ux(K:Fg):Sp:=λvs H Q _=>∃(v w:V) (r q:R) (n m:Nat),vs=[v,w]/\RV K H v r/\RV K H w q/\Wf n r/\Wf m q/\n+m+1≤3000/\Ae H Q (bo r q)
def qF(K:Fg):Sp:=λvs H Q _=>∃(v w:V) (r q:R) (n m:Nat),vs=[v,w]/\RV K H v r/\RV K H w q/\Wf n r/\Wf m q/\n+m+1≤3000/\Ae H Q (f8 r q)
def Lc(K:Fg)(H:Hp)(a:Addr)(xs:List V):Prop:=aS K H a xs∨bH K H a xs
def xH(K:Fg):Sp:=λvs H Q _=>∃(a:Addr) (xs:List V) (rs:List R) (n:Nat),vs=[.ref a]/\Lc K H a xs/\IL K H xs rs/\(∀r∈rs,Wf n r)/\rs.length≤255/\(n+9)*(rs.length+1)≤2990/\∀(v':V) (H':Hp),aB H H'->RV K H' v' (dS rs)->Q v' H'
theorem ig{a g:Int}(hg:0<g)(h:a.natAbs<2^4000):(a/g).natAbs<2^4000:=Nx (gi a hg) h
theorem mU(hb:0<b)(h:b.natAbs<2^4000):((Int.gcd a b:Nat):Int).natAbs<2^4000:=by
 have z:Int.gcd a b≤b.natAbs:=RE (by omega) (by have:=Int.gcd_dvd_right a b;exact Int.natAbs_dvd_natAbs.mpr this);have e:((Int.gcd a b:Nat):Int).natAbs=Int.gcd a b:=P6 _;omega
theorem bX{i:Int}(h:i.natAbs<2^n)(hn:n≤4000):i.natAbs<2^4000:=Mp h (Ot (by decide) hn)
abbrev qO:=qH
abbrev sL:=ux
abbrev sJ:=qF
def Bj(K:Fg):Sp:=λvs H Q _=>∃(v w:V) (r:R) (n m:Nat),vs=[v,w]/\RV K H v r/\RV K H w ((m:Int),1)/\Wf n r/\0<m/\m≤24/\n≤2000/\IT K H Q (f8 r (1,(m:Int)))
def sI(K:Fg):Sp:=λvs H Q _=>∃(a:Addr) (xs:List V) (rs:List R),vs=[.ref a]/\aS K H a xs/\cO (RV K H) xs rs/\(∀r∈rs,Wf 4 r)/\rs.length≤64/\∀(v':V) (H':Hp),aB H H'->RV K H' v' (dS rs)->Q v' H'
theorem FA{m:Nat}(h:0<m):eZ 1 (m:Int)=(1,(m:Int)):=fL (by omega) (by omega) (by simp) (by omega)
theorem zW{m:Nat}(h:0<m)(h':m≤24):Wf 5 ((1,(m:Int)):R):=⟨by show(0:Int)<m;omega,by show(1:Int).natAbs<2^5;decide,by show((m:Int)).natAbs<32;omega,by simp⟩
theorem CI{K:Fg}{H:Hp}{xs:List V}{rs:List R}(h:cO (RV K H) xs rs):IL K H xs rs:=⟨h.len,λi x r hx hr=>by obtain⟨d,hd,p⟩:=h.at hx;rw[hr] at hd;cases hd;exact p⟩
theorem cO.setI{α:Type}{P:V->α->Prop}{v:V}{d:α}(k:P v d):∀{xs:List V} {ds:List α} (i:Nat),cO P xs ds->cO P (xs.set i v) (ds.set i d)
 |_,_,_,.nil=>.nil
 |_,_,0,.cons _ t=>.cons k t
 |_,_,i+1,.cons h t=>.cons h (cO.setI k i t)
theorem cO.rep{α:Type}{P:V->α->Prop}{v:V}{d:α}(k:P v d):∀n:Nat,cO P (MC n v) (MC n d)
 |0=>.nil
 |n+1=>.cons k (cO.rep k n)
theorem iC(h:t<n):Ao n (t:Int)=some t:=by
 unfold Ao;simp;omega
abbrev Wk:=Nat×Nat×R
def A9(K:Fg)(H:Hp)(v:V)(w:Wk):Prop:=∃p x,v=.ref p/\bH K H p [.int w.1,.int w.2.1,x]/\RV K H x w.2.2
theorem A9.mono{K:Fg}{H H':Hp}{v:V}{w:Wk}(h:A9 K H v w)(t:aM K H H'):A9 K H' v w:=let ⟨p,x,e,s,r⟩:=h;⟨p,x,e,t _ _ s,r.mono t⟩
structure CT(r:R):Prop where
 top:1≤r.1
 top':r.1≤12
 bot:1≤r.2
 bot':r.2≤7
 dvd:r.2∣84
 wf:Wf 4 r
structure bT(w:Wk):Prop where
 le:w.1≤w.2.1
 lt:w.2.1<24
 am:CT w.2.2
def fO(K:Fg)(H:Hp)(v:V)(ws:List Wk):Prop:=∃p xs,v=.ref p/\bH K H p xs/\cO (A9 K H) xs ws
theorem fO.mono{K:Fg}{H H':Hp}{v:V}{ws:List Wk}(h:fO K H v ws)(t:aM K H H'):fO K H' v ws:=let ⟨p,xs,e,s,a⟩:=h;⟨p,xs,e,t _ _ s,a.mono λ_ _ q=>q.mono t⟩
def aC(ls:List Nat):List V:=ls.map λn:Nat=>V.int n
theorem CH(h1:1≤a)(h2:a≤12)(h3:1≤b)(h4:b≤7)(h5:b∣84):CT (eZ a b):=by
 have g0:0<(Int.gcd a b:Int):=cD (by omega);have da:(Int.gcd a b:Int)∣a:=gcd_dvd_left a b;have db:(Int.gcd a b:Int)∣b:=Int.gcd_dvd_right a b;have p1:0<a/(Int.gcd a b:Int):=Oy (by omega) (Int.le_of_lt g0) da;have p2:0<b/(Int.gcd a b:Int):=Oy (by omega) (Int.le_of_lt g0) db;have q1:a/(Int.gcd a b:Int)≤a:=QR _ (by omega);have q2:b/(Int.gcd a b:Int)≤b:=QR _ (by omega);refine⟨p1,by show a/(Int.gcd a b:Int)≤12;omega,p2,by show b/(Int.gcd a b:Int)≤7;omega,Ro ?_ h5,tI (by omega) (by show a.natAbs<16;omega) (by show b.natAbs<16;omega)⟩;exact⟨(Int.gcd a b:Int),(ediv_mul_cancel db).symm⟩
def o5(K:Fg):Sp:=λvs H Q _=>∃(t s:Addr) (m:Nat),vs=[.ref t,.int m]/\cN K H t s/\m≤64/\∀(v:V) (ws:List Wk) (H':Hp),bz t H H'->cN K H' t s->fO K H' v ws->ws.length=m->(∀w∈ws,bT w)->Q v H'
def bF(ws:List Wk):List Int:=ws.map λw=>w.2.2.1*84/w.2.2.2
def fm(B:Int)(ws:List Wk):List Int:=ws.map λw=>w.2.2.1*(B/w.2.2.2)
def o6(K:Fg):Sp:=λvs H Q _=>∃(v:V) (ws:List Wk),vs=[v]/\fO K H v ws/\ws.length≤64/\(∀w∈ws,bT w)/\∀(l:Addr) (H':Hp),aB H H'->H l=none->H' l=some (.lst ((bF ws).map V.int))->Q (.ref l) H'
def lO(K:Fg):Sp:=λvs H Q _=>∃(a:Addr) (xs:List V) (ws:List Wk),vs=[.ref a]/\aS K H a xs/\cO (RV K H) xs (ws.map λw=>w.2.2)/\ws.length≤64/\(∀w∈ws,bT w)/\∀(l:Addr) (B:Int) (H':Hp),aB H H'->H l=none->0<B->B∣84->(∀w∈ws,w.2.2.2∣B)->H' l=some (.lst ((fm B ws).map V.int))->Q (.ref l) H'
def fu(w:Wk)(t:Nat):Bool:=decide (w.1≤t)&&decide (t≤w.2.1)
def pF(K:Fg):Sp:=λvs H Q _=>∃(v:V) (w:Wk) (t:Nat),vs=[v,.int t]/\A9 K H v w/\Q (.bl (fu w t)) H
def gg(ls:List Nat)(w:Wk):List Nat:=(range ls.length).filter λi=>fu w (ls.getD i 0)
def bw(ls:List Nat)(w:Wk):Wn:=match gg ls w with
 | []=>none
 |x::r=>some (x,(x::r).getLast (by simp))
def uf(K:Fg)(H:Hp)(v:V):Wn->Prop
 |none=>v=.non
 |some q=>∃p,v=.ref p/\bH K H p [.int q.1,.int q.2]
theorem uf.mono{K:Fg}{H H':Hp}{v:V}{o:Wn}(h:uf K H v o)(t:aM K H H'):uf K H' v o:=by
 cases o with
 |none=>exact h
 |some q=>obtain⟨p,e,s⟩:=h;exact⟨p,e,t _ _ s⟩
def kQ(K:Fg):Sp:=λvs H Q _=>∃(v:V) (q:Addr) (ws:List Wk) (ls:List Nat),vs=[v,.ref q]/\fO K H v ws/\ws.length≤64/\bH K H q (aC ls)/\ls.length≤24/\∀(l:Addr) (xs:List V) (H':Hp),aB H H'->H l=none->H' l=some (.lst xs)->cO (uf K H') xs (ws.map (bw ls))->Q (.ref l) H'
def Bk(K:Fg):Sp:=λvs H Q _=>∃(l:Addr) (xs:List V) (os:List Wn) (p:Pl),vs=[.ref l,.int p.1,.int p.2]/\aS K H l xs/\cO (uf K H) xs os/\os.length≤64/\∀(D:Addr) (H':Hp),aB H H'->H D=none->H' D=some (.lst (aC (bR os p)))->Q (.ref D) H'
def gI(as:List Int)(i:Nat):Int:=as.getD i 0
theorem uQ{os:List Wn}(hb:∀x∈as,0≤x/\x≤1008)(hn:os.length≤64)(q:Pl):0≤dE os (gI as) q/\dE os (gI as) q≤64512:=by
 have h0:∀i,0≤gI as i/\gI as i≤1008:=λi=>by
  unfold gI;rw[Mi]
  cases e:as[i]? with
  |none=>exact⟨by decide,by decide⟩
  |some x=>exact hb x (LQ e)
 have key:∀l:List Nat,0≤(l.map (gI as)).sum/\(l.map (gI as)).sum≤1008*(l.length:Int):=by
  intro l
  induction l with
  |nil=>exact⟨by simp,by simp⟩
  |cons x l ih=>
   rw[M3,Rf,MS];have:=h0 x;omega
 have k:=key (bR os q);have l:(bR os q).length≤os.length:=by
  unfold bR;exact MG (MP _ _) (by rw[Mw];exact LN _)
 unfold dE;omega
def ng(K:Fg)(H:Hp)(S:Pl->Prop)(L:Pl->Int)(vb:Addr)(ld ln:Int):Prop:=(ld=-1/\ln=1/\∀r,¬S r)∨∃q:Pl,bH K H vb [.int q.1,.int q.2]/\ld=L q/\ln=bK q/\kK S L q
theorem ng.mono{K:Fg}{H H':Hp}{S S':Pl->Prop}{L:Pl->Int}{vb:Addr}{ld ln:Int}(h:ng K H S L vb ld ln)(t:aM K H H')(e:∀r,S' r↔S r):ng K H' S' L vb ld ln:=by
 rcases h with⟨a,b,c⟩ | ⟨q,hq,a,b,c⟩
 ·exact .inl ⟨a,b,λr hr=>c r ((e r).mp hr)⟩
 ·exact .inr ⟨q,t _ _ hq,a,b,c.congr e⟩
theorem wM(e:∀r,S r↔r=q):kK S L q:=⟨(e q).mpr Z,λr hr=>by rw[(e r).mp hr];exact .inr ⟨Z,.inr ⟨Z,LN _⟩⟩⟩
def i6(K:Fg):Sp:=λvs H Q _=>∃(l a:Addr) (xs:List V) (os:List Wn) (as:List Int) (n:Nat),vs=[.ref l,.ref a,.int n]/\aS K H l xs/\cO (uf K H) xs os/\os.length≤64/\aS K H a (as.map V.int)/\as.length=os.length/\(∀x∈as,0≤x/\x≤1008)/\1≤n/\n≤24/\∀(p:Addr) (q:Pl) (H':Hp),aB H H'->bH K H' p [.int q.1,.int q.2]->kK (gH n) (dE os (gI as)) q->Q (.ref p) H'
def Cf(ls:List Nat):PyData:=.tuple (ls.map λn:Nat=>Tf n)
def Jr(ls:List Nat)(os:List Wn)(q:Pl):PyData:=.tuple [Cf ((ls.drop q.1).take (q.2+1-q.1)),Cf (bR os q)]
theorem zU(ok:∀w∈ws,bT w)(b0:0<B)(bd:B∣84):∀x∈fm B ws,0≤x/\x≤1008:=by
 intro x hx;obtain⟨w,hw,rfl⟩:=Mc.mp hx;have o:=(ok w hw).am;have B84:=Int.le_of_dvd (by decide) bd;have q0:0≤B/w.2.2.2:=Pg (by omega) (by have:=o.bot;omega);have q1:B/w.2.2.2≤B:=QR _ (by omega);have t1:=o.top;have t2:=o.top';refine⟨Tl (by omega) q0,?_⟩;have:w.2.2.1*(B/w.2.2.2)≤12*84:=Int.mul_le_mul t2 (by omega) q0 (by decide);omega
theorem qz(ok:∀w∈ws,bT w):∀x∈bF ws,0≤x/\x≤1008:=by
 intro x hx;obtain⟨w,hw,rfl⟩:=Mc.mp hx;have o:=(ok w hw).am;have t1:=o.top;have t2:=o.top';refine⟨Pg (by omega) (by have:=o.bot;omega),?_⟩;have:=QR (a:=w.2.2.1*84) w.2.2.2 (by omega);omega
theorem qx(ok:∀w∈ws,bT w)(dv:∀w∈ws,w.2.2.2∣B)(i:Nat):gI (bF ws) i*B=gI (fm B ws) i*84:=by
 unfold gI bF fm;rw[Mi,Mi,LX,LX]
 cases e:ws[i]? with
 |none=>simp
 |some w=>
  have hw:=LQ e;have o:=(ok w hw).am;obtain⟨m,hm⟩:=dv w hw;obtain⟨n,hn⟩:=o.dvd;have nz:w.2.2.2≠0:=by have:=o.bot;omega
  show w.2.2.1*84/w.2.2.2*B=w.2.2.1*(B/w.2.2.2)*84;have e1:w.2.2.1*84/w.2.2.2=w.2.2.1*n:=by
   rw[hn,Int.mul_left_comm];exact Mt _ nz
  have e2:B/w.2.2.2=m:=by
   rw[hm];exact Mt _ nz
  rw[e1,e2,hm,hn]
  ac_rfl
theorem u9{ls:List Nat}(h1:a≤b)(h2:b≤ls.length):jP (aC ls) (some (a:Int)) (some (b:Int))=aC ((ls.drop a).take (b-a)):=by
 unfold jP aC;rw[HT.sIx_nat,HT.sIx_nat,LO,show min b ls.length=b from SN h2,show min a ls.length=a from SN (by omega),map_take,map_drop]
def qp(K:Fg)(H:Hp)(v:V)(y:List Nat×List Nat):Prop:=∃p a b,v=.ref p/\bH K H p [.ref a,.ref b]/\bH K H a (aC y.1)/\bH K H b (aC y.2)
theorem qp.mono{K:Fg}{H H':Hp}{v:V}{y:List Nat×List Nat}(h:qp K H v y)(t:aM K H H'):qp K H' v y:=let ⟨p,a,b,e,h1,h2,h3⟩:=h;⟨p,a,b,e,t _ _ h1,t _ _ h2,t _ _ h3⟩
def di(ls:List Nat)(q:Pl):List Nat:=(ls.drop q.1).take (q.2+1-q.1)
def cR(ls:List Nat)(q:Pl):List Nat:=ls.filter λt=>!(di ls q).contains t
def jU(ws:List Wk)(ls:List Nat):Nat:=ws.countP λw=>(bw ls w).isSome
theorem fz:i∈gg ls w↔i<ls.length/\fu w (ls.getD i 0)=true:=by
 unfold gg;rw[Mb,LW]
theorem uj(h:gg ls w=[]):bw ls w=none:=by unfold bw;rw[h]
theorem qr(h:gg ls w=x:: r):bw ls w=some (x,(x:: r).getLast (by simp)):=by unfold bw;rw[h]
theorem g9:(bw ls w).isSome=true↔∃t∈ls,fu w t=true:=by
 cases c:gg ls w with
 |nil=>
  rw[uj c];refine⟨λh=>(by cases h),λ⟨t,ht,e⟩=>?_⟩;obtain⟨i,hi,rfl⟩:=MM.mp ht;have m:i∈gg ls w:=fz.mpr ⟨hi,by rw[ax 0 (LL hi)];exact e⟩;rw[c] at m
  cases m
 |cons x r=>
  rw[qr c];refine⟨λ_=>?_,λ_=>Z⟩;have m:x∈gg ls w:=by rw[c];exact LY
  obtain⟨hi,e⟩:=fz.mp m;rw[ax 0 (LL hi)] at e;exact⟨_,Nh hi,e⟩
theorem tj(ls:List Nat)(w:Wk):(gg ls w).Pairwise (· < ·):=Nr _ Sj
theorem jm(h:bw ls w=some (a,b)):a∈gg ls w/\b∈gg ls w/\∀i∈gg ls w,a≤i/\i≤b:=by
 cases c:gg ls w with
 |nil=>rw[uj c] at h;cases h
 |cons x r=>
  rw[qr c] at h;have srt:=tj ls w;rw[c] at srt;injection h with h;injection h with h1 h2;subst h1 h2;refine⟨LY,getLast_mem _,λi hi=>⟨?_,?_⟩⟩
  ·rcases LZ.mp hi with z|z
   ·omega
   ·have:=(List.pairwise_cons.mp srt).1 i z;omega
  ·have e:=Pi (show(x::r)≠[] by simp);rw[←e] at srt hi;rcases Mh.mp hi with z|z
   ·have:=(Rh.mp srt).2.2 i z _ (LP.mpr Z);omega
   ·have:=LP.mp z;omega
theorem Fx{ls:List Nat}(nd:ls.Nodup){i j:Nat}{hi:i<ls.length}{hj:j<ls.length}(e:ls[i]=ls[j]):i=j:=by
 have h:=MT.mp nd;rcases Qp i j with z|z|z
 ·exact absurd e (h i j hi hj z)
 ·exact z
 ·exact absurd e.symm (h j i hj hi z)
theorem pY(nd:ls.Nodup)(hp:gH ls.length p)(hi:i<ls.length):ls[i]∈di ls p↔p.1≤i/\i≤p.2:=by
 have h1:=hp.1;have h2:=hp.2;unfold di;constructor
 ·intro h;obtain⟨j,hj,e⟩:=MM.mp h;rw[Of,PD] at hj;rw[getElem_take,getElem_drop] at e;have:=Fx nd e;omega
 ·rintro⟨a,b⟩;refine MM.mpr ⟨i-p.1,by rw[Of,PD];omega,?_⟩;rw[getElem_take,getElem_drop]
  congr 1
  omega
theorem nZ(nd:ls.Nodup)(hp:gH ls.length p):(bw (cR ls p) w).isSome=((bw ls w).isSome&&!fc p.1 p.2 (bw ls w)):=by
 have key:(bw (cR ls p) w).isSome=true↔∃i,∃hi:i<ls.length,fu w ls[i]=true/\¬(p.1≤i/\i≤p.2):=by
  rw[g9];constructor
  ·rintro⟨t,ht,e⟩;unfold cR at ht;obtain⟨m,c⟩:=Mb.mp ht;obtain⟨i,hi,rfl⟩:=MM.mp m;refine⟨i,hi,e,λz=>?_⟩;rw[M5.mpr ((pY nd hp hi).mpr z)] at c
   cases c
  ·rintro⟨i,hi,e,n⟩;refine⟨ls[i],Mb.mpr ⟨Nh hi,?_⟩,e⟩
   cases c:(di ls p).contains ls[i] with
   |false=>rfl
   |true=>exact absurd ((pY nd hp hi).mp (M5.mp c)) n
 have pm:∀i,i∈gg ls w↔∃hi:i<ls.length,fu w ls[i]=true:=λi=>by
  rw[fz];constructor
  ·rintro⟨hi,e⟩;rw[ax 0 (LL hi)] at e;exact⟨hi,e⟩
  ·rintro⟨hi,e⟩;exact⟨hi,by rw[ax 0 (LL hi)];exact e⟩
 cases c:bw ls w with
 |none=>
  have n:¬(bw (cR ls p) w).isSome=true:=λh=>by
   obtain⟨i,hi,e,_⟩:=key.mp h;have:=g9.mpr ⟨ls[i],Nh hi,e⟩;rw[c] at this
   cases this
  simpa using n
 |some q=>
  obtain⟨a,b⟩:=q;obtain⟨m1,m2,bd⟩:=jm c;show(bw (cR ls p) w).isSome=(true&&!(decide (p.1≤a)&&decide (b≤p.2)));by_cases h:p.1≤a/\b≤p.2
  ·rw[decide_eq_true h.1,decide_eq_true h.2];have n:¬(bw (cR ls p) w).isSome=true:=λh'=>by
    obtain⟨i,hi,e,n⟩:=key.mp h';have:=bd i ((pm i).mpr ⟨hi,e⟩);exact n (by omega)
   simpa using n
  ·have y:(bw (cR ls p) w).isSome=true:=key.mpr (by
    by_cases z:p.1≤a
    ·obtain⟨hi,e⟩:=(pm b).mp m2;exact⟨b,hi,e,by omega⟩
    ·obtain⟨hi,e⟩:=(pm a).mp m1;exact⟨a,hi,e,by omega⟩)
   rw[y];by_cases z:p.1≤a
   ·rw[decide_eq_false (show ¬b≤p.2 from λq=>h ⟨z,q⟩),Nn];rfl
   ·rw[decide_eq_false z];rfl
theorem mT(os:List Wn)(p:Pl):(bR os p).length=os.countP (fc p.1 p.2):=by
 have:=congrArg length (dj (none:Wn) (fc p.1 p.2) id os);rw[LO,LO] at this;rw[countP_eq_length_filter];exact this
theorem uL(nd:ls.Nodup)(hp:gH ls.length p):jU ws (cR ls p)+(bR (ws.map (bw ls)) p).length=jU ws ls:=by
 rw[mT,countP_map];unfold jU
 induction ws with
 |nil=>rfl
 |cons w ws ih=>
  rw[SQ,SQ,SQ,nZ nd hp,show(fc p.1 p.2∘bw ls) w=fc p.1 p.2 (bw ls w) from Z]
  cases c:bw ls w with
  |none=>
   have:fc p.1 p.2 none=false:=Z;rw[this];simp only[isSome_none,NY,O5,if_false,add_zero];exact ih
  |some q=>
   cases fc p.1 p.2 (some q) with
   |true=>
    simp only[Rb,RC,Nn,O5,if_false,if_true,add_zero];omega
   |false=>
    simp only[Rb,Bool.not_false,RD,O5,if_false,if_true,add_zero];omega
theorem uH(nd:ls.Nodup)(p:Pl):(cR ls p).Nodup:=Nr _ nd
theorem uM(h:jU ws ls=0)(r:Pl):dE (ws.map (bw ls)) A r=0:=by
 have e:bR (ws.map (bw ls)) r=[]:=by
  refine eq_nil_of_length_eq_zero ?_;rw[mT];have h':∀w∈ws,¬(bw ls w).isSome=true:=NN.mp h;refine NN.mpr λo ho=>?_
  obtain⟨w,hw,rfl⟩:=Mc.mp ho;have n:=h' w hw
  cases c:bw ls w with
  |none=>intro z;cases z
  |some q=>rw[c] at n;exact absurd Z n
 unfold dE;rw[e];rfl
theorem Ah{A:Nat->Int}(h:∀i,0≤A i):∀{l:List Nat} {i:Nat},i∈l->A i≤(l.map A).sum
 |x::l,i,hi=>by
  rw[M3,Rf];rcases LZ.mp hi with z|z
  ·subst z;have:=i5 h l;omega
  ·have:=Ah h z;have:=h x;omega
theorem qy(ok:∀w∈ws,bT w)(i:Nat):0≤gI (bF ws) i:=by
 unfold gI;rw[Mi]
 cases e:(bF ws)[i]? with
 |none=>decide
 |some x=>exact(qz ok x (LQ e)).1
theorem uP(ok:∀w∈ws,bT w)(h:∀r,gH ls.length r->dE (ws.map (bw ls)) (gI (bF ws)) r=0):jU ws ls=0:=by
 refine NN.mpr λw hw n=>?_
 obtain⟨q,hq⟩:=Nm.mp n;obtain⟨a,b⟩:=q;obtain⟨m1,m2,bd⟩:=jm hq;have sec:gH ls.length (a,b):=⟨(bd b m2).1,(fz.mp m2).1⟩;obtain⟨i,hi,rfl⟩:=MM.mp hw;have mi:i∈bR (ws.map (bw ls)) (a,b):=by
  unfold bR;refine Mb.mpr ⟨LW.mpr (by rw[LO];exact hi),?_⟩;rw[ax none (show(ws.map (bw ls))[i]?=some (some (a,b)) by rw[LX,LL hi];exact congrArg some hq)];show(decide (a≤a)&&decide (b≤b))=true;simp
 have l:=Ah (qy ok) mi;have z:=h _ sec;unfold dE at z;rw[z] at l;have o:=(ok _ hw).am;have eu:gI (bF ws) i=ws[i].2.2.1*84/ws[i].2.2.2:=ax 0 (by unfold bF;rw[LX,LL hi];rfl);rw[eu] at l;have t1:=o.top;have b1:=o.bot;have b2:=o.bot';have:1≤ws[i].2.2.1*84/ws[i].2.2.2:=(le_ediv_iff_mul_le (by omega)).mpr (by omega);omega
def so(ws:List Wk)(ls:List Nat)(p:Pl):Prop:=kK (gH ls.length) (dE (ws.map (bw ls)) (gI (bF ws))) p/\0<dE (ws.map (bw ls)) (gI (bF ws)) p
theorem FL(ok:∀w∈ws,bT w)(b:kK (gH ls.length) (dE (ws.map (bw ls)) (gI (bF ws))) p)(h:jU ws ls≠0):so ws ls p:=by
 refine⟨b,?_⟩;have nn:∀r,0≤dE (ws.map (bw ls)) (gI (bF ws)) r:=λr=>i5 (qy ok) _
 by_cases c:0<dE (ws.map (bw ls)) (gI (bF ws)) p
 ·exact c
 ·refine absurd (uP ok λr hr=>?_) h;have z:dE (ws.map (bw ls)) (gI (bF ws)) p=0:=by have:=nn p;omega
  have q:=b.all r hr;have pp:=(show gH ls.length p from b.inn).pos;rw[z,zero_mul] at q;by_cases e:dE (ws.map (bw ls)) (gI (bF ws)) r=0
  ·exact e
  ·have:=N9 (show 0<dE (ws.map (bw ls)) (gI (bF ws)) r by have:=nn r;omega) pp;omega
theorem so.held(h:so ws ls p):0<(bR (ws.map (bw ls)) p).length:=by
 have:=h.2;unfold dE at this
 cases c:bR (ws.map (bw ls)) p with
 |nil=>rw[c] at this;exact absurd this (by simp)
 |cons x r=>exact succ_pos _
abbrev Ly:=List Nat×List Nat
def fX(ws:List Wk)(ls:List Nat)(p:Pl):Ly:=(di ls p,bR (ws.map (bw ls)) p)
inductive g7(ws:List Wk):List Nat->List Ly->Prop where
 |nil {ls:List Nat} (h:jU ws ls=0):g7 ws ls []
 |cons {ls:List Nat} {p:Pl} {r:List Ly} (h:so ws ls p) (t:g7 ws (cR ls p) r):g7 ws ls (fX ws ls p::r)
theorem g7.uniq(h:g7 ws ls a):∀{b:List Ly},g7 ws ls b->a=b:=by
 induction h with
 |nil z=>
  intro b hb
  cases hb with
  |nil _=>rfl
  |cons h t=>have:=h.2;rw[uM z] at this;exact absurd this (by decide)
 |cons h t ih=>
  intro b hb
  cases hb with
  |nil z=>have:=h.2;rw[uM z] at this;exact absurd this (by decide)
  |cons h' t'=>
   have e:=h.1.uniq h'.1;subst e;rw[ih t']
structure iM(n:Nat)(y:Ly):Prop where
 pos:0<y.1.length
 few:y.1.length≤24
 lt:∀t∈y.1,t<24
 num:∀i∈y.2,i<n
 len:y.2.length≤n
theorem tN(hp:gH ls.length p)(hl:ls.length≤24)(hb:∀t∈ls,t<24):iM ws.length (fX ws ls p):=by
 have h1:=hp.1;have h2:=hp.2;have e:(di ls p).length=min (p.2+1-p.1) (ls.length-p.1):=by unfold di;rw[Of,PD]
 refine⟨by show 0<(di ls p).length;omega,by show(di ls p).length≤24;omega,λt ht=>hb t (QX (PM ht)),λi hi=>?_,?_⟩
 ·have:i∈bR (ws.map (bw ls)) p:=hi;unfold bR at this;have:=LW.mp (Mb.mp this).1;rw[LO] at this;exact this
 ·show(bR (ws.map (bw ls)) p).length≤ws.length;rw[mT];exact MG countP_le_length (by rw[LO];exact LN _)
def qG(K:Fg):Sp:=λvs H Q _=>∃(v:V) (q:Addr) (ws:List Wk) (ls:List Nat),vs=[v,.ref q]/\fO K H v ws/\ws.length≤64/\(∀w∈ws,bT w)/\bH K H q (aC ls)/\1≤ls.length/\ls.length≤24/\∀(x:V) (B:Int) (p:Pl) (H':Hp),aB H H'->0<B->B∣84->(∀w∈ws,w.2.2.2∣B)->kK (gH ls.length) (dE (ws.map (bw ls)) (gI (fm B ws))) p->qp K H' x (fX ws ls p)->Q x H'
theorem CA{S S':Pl->Prop}{L:Pl->Int}(st:∀r,S' r↔S r∨r=(i,e))(sec:∀r,S' r->gH n r)(z:∀r,S r->L r=0)(c:0<L (i,e)):kK S' L (i,e):=by
 refine⟨(st _).mpr (.inr Z),λr hr=>?_⟩;rcases(st r).mp hr with h|h
 ·rw[z r h,zero_mul];exact .inl (N9 c (sec r hr).pos)
 ·rw[h];exact .inr ⟨Z,.inr ⟨Z,LN _⟩⟩
theorem AR{L:Int}{ln mn len:Int}(h0:0≤L)(hm:0<mn)(hl:0<len)(c:mn*len≤L*ln):0<L:=by
 have:=N9 hm hl;by_cases e:L=0
 ·rw[e,zero_mul] at c;omega
 ·omega
def IK(K:Fg)(H:Hp)(v:V)(s:Nat×Nat×Nat):Prop:=∃p,v=.ref p/\bH K H p [.int s.1,.int s.2.1,.int s.2.2]
theorem IK.mono{K:Fg}{H H':Hp}{v:V}{s:Nat×Nat×Nat}(h:IK K H v s)(t:aM K H H'):IK K H' v s:=let ⟨p,e,q⟩:=h;⟨p,e,t _ _ q⟩
def wS(os:List Wn)(i:Nat):List (Nat×Nat×Nat):=(range i).filterMap λj=>(os.getD j none).map λq=>(q.1,q.2,j)
theorem uz(os:List Wn)(i:Nat):(wS os i).length≤i:=by
 have:=length_filterMap_le (λj=>(os.getD j none).map λq=>(q.1,q.2,j)) (range i);rw[Mw] at this;exact this
theorem xO{os:List Wn}(h:os.getD i none=none):wS os (i+1)=wS os i:=by
 unfold wS;rw[Nj,SE,ON,h];simp
theorem xN{os:List Wn}{q:Nat×Nat}(h:os.getD i none=some q):wS os (i+1)=wS os i++[(q.1,q.2,i)]:=by
 unfold wS;rw[Nj,SE,ON,h];simp
def rH(p:Pl)(s:Nat×Nat×Nat):Bool:=decide (p.1≤s.1)&&decide (s.2.1≤p.2)
theorem sM(os:List Wn)(p:Pl):((wS os os.length).filter (rH p)).map (λs=>s.2.2)=bR os p:=by
 unfold wS bR;generalize range os.length=l
 induction l with
 |nil=>rfl
 |cons j l ih=>
  rw[ON,Re]
  cases e:os.getD j none with
  |none=>
   simp only[map_none,fc,O5,if_false];exact ih
  |some q=>
   simp only[map_some,Re];show(if rH p (q.1,q.2,j)=true then _ else _:List (Nat×Nat×Nat)).map _=if fc p.1 p.2 (some q)=true then _ else _
   have hb:rH p (q.1,q.2,j)=fc p.1 p.2 (some q):=Z;rw[hb]
   cases fc p.1 p.2 (some q) with
   |true=>simp only[if_true,M3];rw[ih]
   |false=>simp only[O5,if_false];exact ih
def oS(K:Fg)(H:Hp)(os:List Wn)(S:Pl->Prop)(L:Pl->Int)(pb:Addr):Prop:=∃(mn ln bg:Int) (lb:Addr),bH K H pb [.int mn,.int ln,.int bg,.ref lb]/\((mn=0/\ln=1/\bg=0/\∀r,S r->L r=0)∨∃q:Pl,0<L q/\mn=L q/\ln=bK q/\bg=(q.1:Int)/\aS K H lb (aC (bR os q))/\kK S L q)
theorem oS.mono{K:Fg}{H H':Hp}{os:List Wn}{S S':Pl->Prop}{L:Pl->Int}{pb:Addr}(h:oS K H os S L pb)(s:aB H H')(e:∀r,S' r↔S r):oS K H' os S' L pb:=by
 obtain⟨mn,ln,bg,lb,hp,h⟩:=h;refine⟨mn,ln,bg,lb,aM.same s _ _ hp,?_⟩;rcases h with⟨a,b,c,d⟩ | ⟨q,a,b,c,d,f,g⟩
 ·exact .inl ⟨a,b,c,λr hr=>d r ((e r).mp hr)⟩
 ·exact .inr ⟨q,a,b,c,d,s.seq f,g.congr e⟩
def kM(K:Fg):Sp:=λvs H Q _=>∃(v:V) (q:Addr) (ws:List Wk) (ls:List Nat),vs=[v,.ref q]/\fO K H v ws/\ws.length≤64/\(∀w∈ws,bT w)/\aS K H q (aC ls)/\ls.length≤24/\(∀H',aB H H'->jU ws ls=0->Q .non H')/\∀(x:V) (p:Pl) (H':Hp),x≠.non->aB H H'->so ws ls p->qp K H' x (fX ws ls p)->Q x H'
mutual
def vM:PyData->Bool
 | .int _=>true
 | .str _=>true
 | .bool _=>true
 | .none=>true
 | .tuple ds=>decide (ds.length≤1000)&&jv ds
 |_=>false
def jv:List PyData->Bool
 | []=>true
 |d::ds=>vM d&&jv ds
end
theorem qT:∀{ds:List PyData} {i:Nat} {d:PyData},jv ds=true->ds[i]?=some d->vM d=true
 |e::ds,0,d,h,q=>by
  rw[N6] at q
  cases q
  have h':(vM e&&jv ds)=true:=h;rw[ME] at h';exact h'.1
 |e::ds,i+1,d,h,q=>by
  rw[N7] at q;have h':(vM e&&jv ds)=true:=h;rw[ME] at h';exact qT h'.2 q
theorem qS:∀{ds:List PyData},(∀d∈ds,vM d=true)->jv ds=true
 | [],_=>rfl
 |d::ds,h=>by
  show(vM d&&jv ds)=true;rw[h d LY,qS λe he=>h e (L3 _ he)];rfl
theorem kI:∀{ds:List PyData} {i:Nat} {d:PyData},ds[i]?=some d->d.depth≤NE ds
 |e::ds,0,d,q=>by
  rw[N6] at q
  cases q
  exact le_max_left _ _
 |e::ds,i+1,d,q=>by
  rw[N7] at q;exact MG (kI q) (le_max_right _ _)
theorem kH{k:Nat}:∀{ds:List PyData},(∀d∈ds,d.depth≤k)->NE ds≤k
 | [],_=>Mx _
 |d::ds,h=>Nat.max_le.mpr ⟨h d LY,kH λe he=>h e (L3 _ he)⟩
theorem jf{K:Fg}{H:Hp}:∀{xs:List V} {ds:List PyData},bu K H xs ds->∀{i:Nat} {d:PyData},ds[i]?=some d->∃x,xs[i]?=some x/\bP K H x d
 |_,_,.cons h _,0,d,e=>by
  rw[N6] at e
  cases e
  exact⟨_,Z,h⟩
 |_,_,.cons _ t,i+1,d,e=>jf t (i:=i) (by rw[N7] at e;exact e)
 |_,_,.nil,_,_,e=>by cases e
theorem ii{K:Fg}{H:Hp}:∀{xs:List V} {ds:List PyData},bu K H xs ds->xs.length=ds.length
 |_,_,.nil=>rfl
 |_,_,.cons _ t=>congrArg (·+1) (ii t)
theorem fZ:d7 "NoneType" "tuple"=some false:=by decide +kernel
theorem gy:d7 "NoneType" "list"=some false:=by decide +kernel
theorem iU:d7 "bool" "tuple"=some false:=by decide +kernel
theorem jJ:d7 "bool" "list"=some false:=by decide +kernel
theorem kG:d7 "bool" "str"=some false:=by decide +kernel
theorem fA:d7 "bool" "bool"=some true:=by decide +kernel
theorem jI:d7 "int" "tuple"=some false:=by decide +kernel
theorem kF:d7 "int" "list"=some false:=by decide +kernel
theorem mO:d7 "int" "str"=some false:=by decide +kernel
theorem fY:d7 "int" "bool"=some false:=by decide +kernel
theorem mP:d7 "int" "int"=some true:=by decide +kernel
theorem jH:d7 "str" "tuple"=some false:=by decide +kernel
theorem kD:d7 "str" "list"=some false:=by decide +kernel
theorem gT:d7 "str" "str"=some true:=by decide +kernel
theorem fN:d7 "tuple" "tuple"=some true:=by decide +kernel
theorem iT:d7 "tuple" "list"=some false:=by decide +kernel
def lR(k:Nat)(K:Fg):Sp:=λvs H Q _=>∃(v w:V) (d:PyData),vs=[v,w]/\bP K H v d/\bP K H w d/\d.depth≤k/\vM d=true/\∀H',aB H H'->Q (.bl true) H'
abbrev vI:=lR 0
abbrev vH:=lR 1
abbrev vG:=lR 2
abbrev vE:=lR 3
abbrev pC:=lR 4
theorem j7(h:i.natAbs<2^100):Sh 0 2000 (.int i):=by
 refine⟨?_,Z,LN _,MG (FG h (by decide)) (by decide)⟩;show decide (i.natAbs.log2<1920)=true;refine decide_eq_true ?_;by_cases z:i.natAbs=0
 ·rw[z];decide
 ·exact Mp ((TV z).mpr h) (by decide)
def Jp(w:Wk):PyData:=.tuple [.int w.1,.int w.2.1,dR w.2.2]
def F0(ws:List Wk):PyData:=.tuple (ws.map Jp)
theorem A9.deep{K:Fg}{H:Hp}{v:V}{w:Wk}(h:A9 K H v w):bP K H v (Jp w):=by
 obtain⟨p,x,rfl,hS,rx⟩:=h;exact .tup hS (.cons (.int _) (.cons (.int _) (.cons rx.deep .nil)))
theorem fO.deep{K:Fg}{H:Hp}{v:V}{ws:List Wk}(h:fO K H v ws):bP K H v (F0 ws):=by
 obtain⟨p,xs,rfl,hS,al⟩:=h;exact .tup hS (al.deep λ_ _ q=>q.deep)
theorem iy{n:Nat}(h:n<24):((n:Int)).natAbs<2^100:=by
 have:(2:Nat)^100=1267650600228229401496703205376:=by decide
 omega
theorem DI(h:bT w):Sh 2 20000 (Jp w):=by
 have o:=h.am;have big:(2:Nat)^100=1267650600228229401496703205376:=by decide
 have l1:=h.le;have l2:=h.lt;have t1:=o.top;have t2:=o.top';have b1:=o.bot;have b2:=o.bot';refine Sh.tup (k:=1) (n:=6100) (m:=3) (λd hd=>?_) (LN _) (by decide);simp only[LZ,Nq,or_false] at hd;rcases hd with rfl|rfl|rfl
 ·exact(j7 (iy (by omega))).mono (by decide) (by decide)
 ·exact(j7 (iy (by omega))).mono (by decide) (by decide)
 ·refine Sh.tup (k:=0) (n:=2000) (m:=2) (λd hd=>?_) (LN _) (by decide);simp only[LZ,Nq,or_false] at hd;rcases hd with rfl|rfl
  ·exact j7 (by omega)
  ·exact j7 (by omega)
def LF(y:List Nat×List Nat):PyData:=.tuple [Cf y.1,Cf y.2]
theorem nR{k:Nat}{α:Type}{f:α->PyData}{l:List α}(h:∀x∈l,(f x).depth≤k):(PyData.tuple (l.map f)).depth≤k+1:=by
 show NE (l.map f)+1≤k+1;refine PQ (kH λd hd=>?_);obtain⟨x,hx,rfl⟩:=Mc.mp hd;exact h x hx
theorem xg{α:Type}{f:α->PyData}{l:List α}(hl:l.length≤1000)(h:∀x∈l,vM (f x)=true):vM (.tuple (l.map f))=true:=by
 show(decide ((l.map f).length≤1000)&&jv (l.map f))=true;rw[LO,decide_eq_true hl,qS λd hd=>?_]
 ·rfl
 ·obtain⟨x,hx,rfl⟩:=Mc.mp hd;exact h x hx
def bG:Wk:=(0,0,(0,1))
def gE(ws:List Wk)(y:List Nat×List Nat):List R:=y.2.map λi=>(ws.getD i bG).2.2
def d9(ws:List Wk)(y:List Nat×List Nat):R:=f8 (dS (gE ws y)) (1,(y.1.length:Int))
def gL(r:R)(ss:List R)(ts:List Nat):List R:=ts.foldl (λs t=>s.set t r) ss
def aR(ws:List Wk)(lys:List (List Nat×List Nat)):List R:=lys.foldl (λss y=>gL (d9 ws y) ss y.1) (MC 24 (0,1))
theorem lW(r:R):∀(ts:List Nat) (ss:List R),(gL r ss ts).length=ss.length
 | [],_=>rfl
 |t::ts,ss=>by
  show(gL r (ss.set t r) ts).length=_;rw[lW r ts,OP]
theorem gK(ws:List Wk):∀(lys:List (List Nat×List Nat)) (ss:List R),(lys.foldl (λss y=>gL (d9 ws y) ss y.1) ss).length=ss.length
 | [],_=>rfl
 |y::r,ss=>by rw[NM,gK ws r,lW]
theorem AT{ws:List Wk}{n:Nat}{y:List Nat×List Nat}(ok:∀w∈ws,bT w)(h:iM ws.length y):∀r∈gE ws y,Wf 4 r:=by
 intro r hr;obtain⟨i,hi,rfl⟩:=Mc.mp hr;have hl:=h.num i hi;rw[ax bG (LL hl)];exact(ok _ (Nh hl)).am.wf
theorem uN(ok:∀w∈ws,bT w):jU ws (range 24)=ws.length:=by
 refine List.countP_eq_length.mpr λw hw=>g9.mpr ⟨w.1,LW.mpr ?_,?_⟩
 ·have:=(ok w hw).le;have:=(ok w hw).lt;omega
 ·unfold fu;rw[decide_eq_true (LN _),decide_eq_true (ok w hw).le];rfl
theorem Fu(ws:List Wk):jU ws []=0:=NN.mpr λw _ h=>by
 obtain⟨t,ht,_⟩:=g9.mp h
 cases ht
theorem uU(h:so ws ls p):gH ls.length p:=h.1.inn
def Jz(K:Fg)(H:Hp)(v:V)(lys:List (List Nat×List Nat)):Prop:=∃p xs,v=.ref p/\bH K H p xs/\cO (qp K H) xs lys
def vC(K:Fg):Sp:=λvs H Q _=>∃(v:V) (ws:List Wk),vs=[v]/\fO K H v ws/\ws.length≤64/\(∀w∈ws,bT w)/\∀(x:V) (lys:List (List Nat×List Nat)) (H':Hp),aB H H'->Jz K H' x lys->g7 ws (range 24) lys->(∀y∈lys,iM ws.length y)->lys.length≤64->Q x H'
def nA(K:Fg):Sp:=λvs H Q _=>∃(v:V) (ws:List Wk),vs=[v]/\fO K H v ws/\ws.length≤64/\(∀w∈ws,bT w)/\∀(l:Addr) (xs:List V) (lys:List (List Nat×List Nat)) (H':Hp),aB H H'->H l=none->H' l=some (.lst xs)->cO (qp K H') xs lys->g7 ws (range 24) lys->(∀y∈lys,iM ws.length y)->lys.length≤64->Q (.ref l) H'
def gs(K:Fg):Sp:=λvs H Q _=>∃(v x:V) (ws:List Wk) (y:List Nat×List Nat),vs=[v,x]/\fO K H v ws/\ws.length≤64/\(∀w∈ws,bT w)/\qp K H x y/\iM ws.length y/\IT K H Q (d9 ws y)
abbrev qL:=gs
def kL(K:Fg):Sp:=λvs H Q _=>∃(v:V) (ws:List Wk),vs=[v]/\fO K H v ws/\ws.length≤64/\(∀w∈ws,bT w)/\∀(p:Addr) (xs:List V) (lys:List (List Nat×List Nat)) (H':Hp),aB H H'->bH K H' p xs->cO (RV K H') xs (aR ws lys)->g7 ws (range 24) lys->Q (.ref p) H'
def nw(K:Fg):Sp:=λvs H Q _=>∃(v:V) (ws:List Wk),vs=[v]/\fO K H v ws/\ws.length≤64/\(∀w∈ws,bT w)/\∀(l:Addr) (xs:List V) (lys:List (List Nat×List Nat)) (H':Hp),aB H H'->H' l=some (.lst xs)->cO (RV K H') xs (aR ws lys)->g7 ws (range 24) lys->Q (.ref l) H'
def Gz(K:Fg)(H:Hp)(v:V)(e:Ln):Prop:=∃p,v=.ref p/\bH K H p [.int (e.1:Nat),.int (e.2:Nat)]
theorem Gz.mono{K:Fg}{H H':Hp}{v:V}{e:Ln}(h:Gz K H v e)(t:aM K H H'):Gz K H' v e:=let ⟨p,q,s⟩:=h;⟨p,q,t _ _ s⟩
def nK(K:Fg)(H:Hp)(v:V)(es:List Ln):Prop:=∃p xs,v=.ref p/\bH K H p xs/\cO (Gz K H) xs es
theorem nK.mono{K:Fg}{H H':Hp}{v:V}{es:List Ln}(h:nK K H v es)(t:aM K H H'):nK K H' v es:=let ⟨p,xs,e,s,a⟩:=h;⟨p,xs,e,t _ _ s,a.mono λ_ _ q=>q.mono t⟩
def mf(n:Nat)(f:Nat->Bool):List V:=(range n).map λj=>V.bl (f j)
theorem jy(n:Nat)(f:Nat->Bool):(mf n f).length=n:=by unfold mf;rw[LO,Mw]
theorem gM(h:j<n):(mf n f)[j]?=some (.bl (f j)):=by
 unfold mf;rw[LX,Nz h];rfl
theorem yV(h:j<n):(mf n f).set j (.bl true)=mf n λi=>f i||decide (i=j):=by
 apply Pq;intro i;by_cases hi:i<n
 ·rw[gM hi];by_cases c:i=j
  ·subst c;rw[OI (by rw[jy];exact h),decide_eq_true Z,NS]
  ·rw[NL (λz=>c z.symm),gM hi,decide_eq_false c,Tw]
 ·rw[MV (by rw[OP,jy];omega),MV (by rw[jy];omega)]
structure oQ(H:Hp)(l:Addr)(rows:List Addr)(n:Nat)(L:Nat->Nat->Bool):Prop where
 top:H l=some (.lst (rows.map V.ref))
 len:rows.length=n
 nd:rows.Nodup
 ne:l∉rows
 row:∀i r,rows[i]?=some r->H r=some (.lst (mf n (L i)))
theorem oQ.same(h:oQ H l rows n L)(s:aB H H'):oQ H' l rows n L:=⟨s _ _ h.top,h.len,h.nd,h.ne,λi r e=>s _ _ (h.row i r e)⟩
theorem oQ.congr(h:oQ H l rows n L)(e:∀i j,i<n->j<n->L i j=L' i j):oQ H l rows n L':=⟨h.top,h.len,h.nd,h.ne,λi r q=>by
 rw[h.row i r q];have hi:i<n:=by rw[←h.len];exact(LR.mp q).1
 congr 2
 exact P7 λj hj=>by rw[e i j hi (LW.mp hj)]⟩
theorem oQ.set(h:oQ H l rows n L)(e:rows[u]?=some r)(hv:v<n):oQ (upd H r (.lst ((mf n (L u)).set v (.bl true)))) l rows n (λi j=>L i j||(decide (i=u)&&decide (j=v))):=by
 have mr:=LQ e;refine⟨by rw[aE (show l≠r from λz=>h.ne (by rw[z];exact mr))];exact h.top,h.len,h.nd,h.ne,λi r' e'=>?_⟩;by_cases c:i=u
 ·subst c;rw[e] at e'
  cases e'
  rw[ah,yV hv]
  congr 3
  funext j
  rw[decide_eq_true Z,RH]
 ·have n1:r'≠r:=λz=>by
   subst z;obtain⟨h1,q1⟩:=LR.mp e;obtain⟨h2,q2⟩:=LR.mp e';have:=MT.mp h.nd;rcases Qp i u with z|z|z
   ·exact this i u h2 h1 z (by rw[q1,q2])
   ·exact c z
   ·exact this u i h1 h2 z (by rw[q1,q2])
  rw[aE n1,h.row i r' e']
  congr 3
  funext j
  rw[decide_eq_false c,NY,Tw]
structure Kp(rows:List Addr)(H H':Hp):Prop where
 keep:∀b o,b∉rows->H b=some o->H' b=some o
 ls:∀r∈rows,∃xs,H r=some (.lst xs)
 ls':∀r∈rows,∃xs,H' r=some (.lst xs)
theorem Kp.trans(a:Kp rows H H1)(b:Kp rows H1 H2):Kp rows H H2:=⟨λc o n e=>b.keep c o n (a.keep c o n e),a.ls,b.ls'⟩
theorem Kp.same(s:aB H H')(h:∀r∈rows,∃xs,H r=some (.lst xs)):Kp rows H H':=⟨λc o _ e=>s _ _ e,h,λr m=>let ⟨xs,e⟩:=h r m;⟨xs,s _ _ e⟩⟩
theorem Kp.up(m:r∈rows)(h:∀r∈rows,∃xs,H r=some (.lst xs))(ys:List V):Kp rows H (upd H r (.lst ys)):=⟨λc o n e=>by rw[aE (show c≠r from λz=>n (by rw[z];exact m))];exact e,h,λq mq=>by
 by_cases c:q=r
 ·subst c;exact⟨_,ah⟩
 ·rw[aE c];exact h q mq⟩
theorem oQ.ls(h:oQ H l rows n L):∀r∈rows,∃xs,H r=some (.lst xs):=λr m=>by
 obtain⟨i,hi,e⟩:=MM.mp m;exact⟨_,h.row i r (by rw[LL hi,e])⟩
theorem aM.kp{K:Fg}{rows:List Addr}{H H':Hp}(k:Kp rows H H'):aM K H H':=λp xs h=>by
 rcases h with h|h
 ·have n:p∉rows:=λm=>by
   obtain⟨ys,e⟩:=k.ls p m;rcases h with h | ⟨o,h⟩<;>rw[e] at h<;>cases h
  rcases h with h | ⟨o,h⟩
  ·exact .inl (.inl (k.keep _ _ n h))
  ·exact .inl (.inr ⟨o,k.keep _ _ n h⟩)
 ·exact .inr h
def lP(_:Fg):Sp:=λvs H Q _=>∃n:Nat,vs=[.int n]/\n≤64/\∀(l:Addr) (rows:List Addr) (H':Hp),aB H H'->H l=none->(∀r∈rows,H r=none)->oQ H' l rows n (λ_ _=>false)->Q (.ref l) H'
def qR(K:Fg):Sp:=λvs H Q _=>∃(l:Addr) (v:V) (rows:List Addr) (n:Nat) (L:Nat->Nat->Bool) (a b:Nat),vs=[.ref l,v]/\oQ H l rows n L/\Gz K H v (a,b)/\a<n/\b<n/\n≤64/\∀H',Kp rows H H'->oQ H' l rows n (qk L a b)->Q .non H'
def kT(K:Fg):Sp:=λvs H Q _=>∃(n:Nat) (v:V) (es:List Ln),vs=[.int n,v]/\nK K H v es/\kX n es/\n≤64/\∀(l:Addr) (rows:List Addr) (L:Nat->Nat->Bool) (H':Hp),aB H H'->oQ H' l rows n L->GA n es L->Q (.ref l) H'
structure K7(w:Wk):Prop where
 l1:w.1<24
 l2:w.2.1<24
 am:Wf 98 w.2.2
def vF(ws:List Wk)(j:Nat):Int:=((ws.getD j bG).1:Nat)
def vL(ws:List Wk)(j:Nat):Int:=-((ws.getD j bG).2.1:Nat)
structure g6(ws:List Wk)(es:List Ln)(f l:Nat->Int):Prop where
 a:CL ws.length es (vF ws) f
 b:CL ws.length (A6 es) (vL ws) (λi=>- l i)
theorem xi{n:Nat}{v:Nat->Int}{P:Nat->Prop}:∀k,k≤n->(∀j,j<k->¬P j)∨∃M,(∀j,j<k->P j->v j≤M)/\∃j,j<k/\P j/\M=v j
 |0,_=>.inl λj hj=>absurd hj (NW _)
 |k+1,hk=>by
  rcases xi (n:=n) (v:=v) (P:=P) k (by omega) with h | ⟨M,h1,j,h2,h3,h4⟩
  ·by_cases c:P k
   ·refine .inr ⟨v k,λj hj pj=>?_,k,by omega,c,Z⟩;by_cases z:j=k
    ·subst z;exact Int.le_refl _
    ·exact absurd pj (h j (by omega))
   ·refine .inl λj hj pj=>?_
    by_cases z:j=k
    ·subst z;exact c pj
    ·exact h j (by omega) pj
  ·by_cases c:P k/\M<v k
   ·refine .inr ⟨v k,λi hi pi=>?_,k,by omega,c.1,Z⟩;by_cases z:i=k
    ·subst z;exact Int.le_refl _
    ·have:=h1 i (by omega) pi;have:=c.2;omega
   ·refine .inr ⟨M,λi hi pi=>?_,j,by omega,h3,h4⟩;by_cases z:i=k
    ·subst z;by_cases y:v i≤M
     ·exact y
     ·exact absurd ⟨pi,by omega⟩ c
    ·exact h1 i (by omega) pi
theorem CL.ex(n:Nat)(es:List Ln)(v:Nat->Int):∃F,CL n es v F:=by
 have h:∀i,∃M:Int,i<n->(∀j,j<n->(j=i∨fS es j i)->v j≤M)/\∃j,j<n/\(j=i∨fS es j i)/\M=v j:=λi=>by
  rcases xi (n:=n) (v:=v) (P:=λj=>j=i∨fS es j i) n (LN _) with h | ⟨M,h1,h2⟩
  ·exact⟨0,λhi=>absurd (.inl Z) (h i hi)⟩
  ·exact⟨M,λ_=>⟨h1,h2⟩⟩
 exact⟨λi=>Qv (h i),⟨λi j hi hj z=>(OG (h i) hi).1 j hj z,λi hi=>(OG (h i) hi).2⟩⟩
theorem g6.ex(ws:List Wk)(es:List Ln):∃f l,g6 ws es f l:=by
 obtain⟨f,hf⟩:=CL.ex ws.length es (vF ws);obtain⟨g,hg⟩:=CL.ex ws.length (A6 es) (vL ws);refine⟨f,λi=>- g i,hf,?_⟩;have:(λi=>- - g i)=g:=funext λi=>neg_neg _
 rw[this];exact hg
def qh(ws:List Wk)(f l:Nat->Int)(i:Nat):PyData:=.tuple [.int (f i),.int (l i),dR (ws.getD i bG).2.2]
def fR(n:Nat)(f l:Nat->Int):Option Nat:=(range n).find? λi=>decide (l i<f i)
def qX(ws:List Wk)(f l:Nat->Int):PyData:=match fR ws.length f l with
 |some i=>.int i
 |none=>.tuple ((range ws.length).map (qh ws f l))
theorem rY(hi:i<n)(h:l i<f i)(b:∀j,j<i->f j≤l j):fR n f l=some i:=by
 unfold fR;rw[Rv];refine⟨decide_eq_true h,LW.mpr hi,λj hj=>?_⟩;have:=b j hj;rw[decide_eq_false (by omega)];rfl
theorem rZ(b:∀j,j<n->f j≤l j):fR n f l=none:=by
 unfold fR;rw[RI];intro j hj;have:=b j (LW.mp hj);rw[decide_eq_false (by omega)];simp
theorem qW(h:g6 ws es f l)(h':g6 ws es f' l'):qX ws f l=qX ws f' l':=by
 have e1:∀i,i<ws.length->f i=f' i:=λi hi=>h.a.uniq h'.a hi
 have e2:∀i,i<ws.length->l i=l' i:=λi hi=>by have:- l i=- l' i:=h.b.uniq h'.b hi;omega
 have e3:fR ws.length f l=fR ws.length f' l':=by
  unfold fR;have:∀(zs:List Nat),(∀z∈zs,z<ws.length)->zs.find? (λi=>decide (l i<f i))=zs.find? (λi=>decide (l' i<f' i)):=λzs=>by
   induction zs with
   |nil=>intro _;rfl
   |cons z zs ih=>
    intro hz;have a:=hz z LY;rw[O9,O9,e1 z a,e2 z a,ih λy hy=>hz y (L3 _ hy)]
  exact this _ λz hz=>LW.mp hz
 unfold qX;rw[e3];have e4:(range ws.length).map (qh ws f l)=(range ws.length).map (qh ws f' l'):=P7 λi hi=>by
  unfold qh;rw[e1 i (LW.mp hi),e2 i (LW.mp hi)]
 rw[e4]
theorem AN{K:Fg}{H H':Hp}(t:aM K H H'){ws:List Wk}{f l:Nat->Int}{i:Nat}{v:V}(h:bP K H v (qh ws f l i)):bP K H' v (qh ws f l i):=by
 unfold qh at h ⊢
 cases h with
 |tup e h=>
  cases h with
  |cons h1 h=>
   cases h with
   |cons h2 h=>
    cases h with
    |cons h3 h=>
     cases h
     cases h1
     cases h2
     refine .tup (t _ _ e) (.cons (.int _) (.cons (.int _) (.cons ?_ .nil)))
     cases h3 with
     |tup e3 h3=>
      cases h3 with
      |cons a h3=>
       cases h3 with
       |cons b h3=>cases h3;cases a;cases b;exact .tup (t _ _ e3) (.cons (.int _) (.cons (.int _) .nil))
theorem lI{K:Fg}{H H':Hp}(t:aM K H H'){ws:List Wk}{f l:Nat->Int}:∀{zs:List Nat} {vs:List V},bu K H vs (zs.map (qh ws f l))->bu K H' vs (zs.map (qh ws f l))
 | [],_,.nil=>.nil
 |_::_,_,.cons h r=>.cons (AN t h) (lI t r)
theorem ij{K:Fg}{H:Hp}:∀{xs ys:List V} {ds es:List PyData},bu K H xs ds->bu K H ys es->bu K H (xs++ys) (ds++es)
 |_,_,_,_,.nil,h=>h
 |_,_,_,_,.cons a t,h=>.cons a (ij t h)
theorem gC(hx:H x=none)(kp:∀b o,b≠x->upd H x o0 b=some o->H' b=some o):aB H (u4 H' x):=λb o e=>by
 have nb:b≠x:=aX e hx;unfold u4;rw[if_neg nb];exact kp b o nb (by rw[aE nb];exact e)
theorem AL(n:d≠x):u4 H x d=H d:=by unfold u4;rw[if_neg n]
def Dr(K:Fg)(H:Hp)(v:V)(ws:List Wk)(es:List Ln):Prop:=∃p a b,v=.ref p/\bH K H p [a,b]/\fO K H a ws/\nK K H b es
theorem Dr.mono{K:Fg}{H H':Hp}{v:V}{ws:List Wk}{es:List Ln}(h:Dr K H v ws es)(t:aM K H H'):Dr K H' v ws es:=let ⟨p,a,b,e,s,w,n⟩:=h;⟨p,a,b,e,t _ _ s,w.mono t,n.mono t⟩
def vD(_:Fg):Sp:=λvs H Q _=>∃i:Int,vs=[.int i]/\Q (.int i) H
def vJ(_:Fg)(C:Addr):Sp:=λvs H Q _=>∃(a:Addr) (n:Int),vs=[.ref a,.int n]/\H a=some (ji a C none)/\∀d,H d=none->d≠a->Q .non (upd (upd H a (ji a C (some d))) d (dO d [("work",.int n)]))
structure Ic(ws:List Wk)(es:List Ln):Prop where
 few:ws.length≤20
 ok:∀w∈ws,K7 w
 es:kX ws.length es
def nk(n:Nat)(es:List Ln):Prop:=∃ps:Nat->Nat,(∀i,i<n->ps i<n)/\∀a b,(a,b)∈es->ps a<ps b
theorem Ej{os:List Nat}(nd:os.Nodup)(hl:os.length=n)(all:∀x,x∈os↔x<n):∃ps:Nat->Nat,(∀i,i<n->ps i<n)/\∀j x,os[j]?=some x->ps x=j:=by
 have h:∀x,∃j:Nat,x∈os->os[j]?=some x:=λx=>by
  by_cases m:x∈os
  ·obtain⟨j,hj,e⟩:=MM.mp m;exact⟨j,λ_=>by rw[LL hj,e]⟩
  ·exact⟨0,λz=>absurd z m⟩
 refine⟨λx=>Qv (h x),λi hi=>?_,λj x e=>?_⟩
 ·have:=OG (h i) ((all i).mpr hi);rw[←hl];exact(LR.mp this).1
 ·have q:=OG (h x) (LQ e);obtain⟨h1,e1⟩:=LR.mp q;obtain⟨h2,e2⟩:=LR.mp e;have pw:=MT.mp nd;rcases Qp (Qv (h x)) j with z|z|z
  ·exact absurd (e1.trans e2.symm) (pw _ _ h1 h2 z)
  ·exact z
  ·exact absurd (e2.trans e1.symm) (pw _ _ h2 h1 z)
def F6(es:List Ln):PyData:=.tuple (es.map λe=>.tuple [.int (e.1:Nat),.int (e.2:Nat)])
theorem nK.deep{K:Fg}{H:Hp}{v:V}{es:List Ln}(h:nK K H v es):bP K H v (F6 es):=by
 obtain⟨p,xs,rfl,hS,al⟩:=h;exact .tup hS (al.deep λ_ _ q=>by obtain⟨p,rfl,s⟩:=q;exact .tup s (.cons (.int _) (.cons (.int _) .nil)))
theorem Dr.deep{K:Fg}{H:Hp}{v:V}{ws:List Wk}{es:List Ln}(h:Dr K H v ws es):bP K H v (.tuple [F0 ws,F6 es]):=by
 obtain⟨p,a,b,rfl,hS,wv,lv⟩:=h;exact .tup hS (.cons wv.deep (.cons lv.deep .nil))
theorem kl:∀(n:Nat) (l:List Nat),l.Nodup->(∀x∈l,x<n)->l.length≤n
 |0,l,_,h=>by
  cases l with
  |nil=>exact LN _
  |cons x r=>exact absurd (h x LY) (NW _)
 |n+1,l,nd,h=>by
  have ih:=kl n (l.erase n) (nd.erase n) λx hx=>by
   have:=(nd.mem_erase_iff.mp hx);have:=h x this.2;omega
  have:=length_erase (a:=n) (l:=l)
  split at this<;>omega
theorem AV(h:CT r):Bq 84 12 r:=by
 have a:=h.top;have b:=h.top';have c:=h.bot;refine⟨by omega,h.wf.cop,h.dvd,?_⟩;have:12*1≤12*r.2.natAbs:=OB _ (by omega);omega
theorem xB{D N:Nat}(hD:0<D):∀{rs:List R},(∀r∈rs,Bq D N r)->∀{a:R} {M:Nat},Bq D M a->Bq D (M+N*rs.length) (rs.foldl bo a)
 | [],_,a,M,h=>by simpa using h
 |r::rs,hr,a,M,h=>by
  have:=xB hD (λq hq=>hr q (L3 _ hq)) (h.plus hD (hr r LY));rw[NM,MS,Qu];refine this.mono (NT _) (by omega)
theorem CB:Bq D 0 ((0,1):R):=⟨by decide,by decide,⟨(D:Int),by show(D:Int)=1*D;omega⟩,by show 0≤_;exact Mx _⟩
theorem Bg(hD:0<D)(h:∀r∈rs,Bq D N r):Bq D (N*rs.length) (dS rs):=by
 have:=xB hD h (CB (D:=D));rw[OW] at this;exact this
theorem Bx(ok:∀w∈ws,bT w)(hw:ws.length≤9)(lok:iM ws.length y):Bq (84*y.1.length) 108 (d9 ws y):=by
 have am:∀r∈gE ws y,Bq 84 12 r:=λr hr=>by
  obtain⟨i,hi,rfl⟩:=Mc.mp hr;have hl:=lok.num i hi;rw[ax bG (LL hl)];exact AV (ok _ (Nh hl)).am
 have la:(gE ws y).length=y.2.length:=LO _;have len:=lok.len;have pos:=lok.pos;have s:=(Bg (by decide) am).mono (NT _) (show 12*(gE ws y).length≤108 by omega);have o:Bq y.1.length 1 ((1,(y.1.length:Int)):R):=⟨by show(0:Int)<_;omega,by simp,Int.dvd_refl _,by show(1:Int).natAbs≤1*((y.1.length:Int)).natAbs;omega⟩;exact s.times o
def xJ(K:Fg):Sp:=λvs H Q _=>∃(v w:V) (r q:R) (n m:Nat),vs=[v,w]/\RV K H v r/\RV K H w q/\Wf n r/\Wf m q/\n+m+1≤3000/\IT K H Q (cI r q)
def lQ(K:Fg):Sp:=λvs H Q _=>∃(v w:V) (r q:R) (n m:Nat),vs=[v,w]/\RV K H v r/\RV K H w q/\Wf n r/\Wf m q/\n+m+1≤3000/\Q (.bl (cX r q)) H
abbrev qN:=lQ
theorem rQ(h:Int.gcd a b=1):Int.gcd (-a) b=1:=by rw[neg_gcd];exact h
theorem F7:∀m,m<25->0<m->84*m∣449755225920:=by decide
def ba(ws:List Wk)(i:Nat):Nat:=(ws.getD i bG).2.1
def dG(ws:List Wk)(l:List Nat):List Nat:=l.filter λi=>l.all λj=>decide (ba ws i≤ba ws j)
open Classical in
noncomputable def dh (es:List Ln) (i j:Nat):Bool:=decide (fS es j i)
open Classical in
theorem eS:dh es i j=true↔fS es j i:=by unfold dh;exact decide_eq_true_iff
noncomputable def iW (ws:List Wk) (es:List Ln) (l:List Nat):List Nat:=(dG ws l).filter λi=>!(dG ws l).any (dh es i)
noncomputable def gw (ws:List Wk) (es:List Ln) (l:List Nat):Nat:=(iW ws es l).getD 0 0
def cj(n:Nat)(come:List Nat):List Nat:=(range n).filter λi=>!come.contains i
noncomputable def aO (ws:List Wk) (es:List Ln):Nat->List Nat
 |0=>[]
 |k+1=>aO ws es k++[gw ws es (cj ws.length (aO ws es k))]
theorem iz{i:Nat}(h:(aC ls)[i]?=some x):∃n,ls[i]?=some n/\x=.int (n:Nat):=by
 unfold aC at h;rw[LX] at h;obtain⟨n,hn,rfl⟩:=Mn.mp h;exact⟨n,hn,Z⟩
theorem mN(f:Nat->Nat):∀(l:List Nat),l≠[]->∃i∈l,∀j∈l,f i≤f j
 | [],h=>absurd Z h
 | [a],_=>⟨a,LY,λj hj=>by rw[LP] at hj;rw[hj];exact LN _⟩
 |a::b::l,_=>by
  obtain⟨i,hi,m⟩:=mN f (b::l) (by simp);by_cases c:f a≤f i
  ·refine⟨a,LY,λj hj=>?_⟩;rcases LZ.mp hj with z|z
   ·rw[z];exact LN _
   ·exact MG c (m j z)
  ·refine⟨i,L3 _ hi,λj hj=>?_⟩;rcases LZ.mp hj with z|z
   ·rw[z];omega
   ·exact m j z
theorem fM:i∈dG ws l↔i∈l/\∀j∈l,ba ws i≤ba ws j:=by
 unfold dG;rw[Mb,No];exact and_congr_right λ_=>forall_congr' λj=>forall_congr' λ_=>decide_eq_true_iff
theorem fS.rank{es:List Ln}{ps:Nat->Nat}(h:∀a b,(a,b)∈es->ps a<ps b)(r:fS es a b):ps a<ps b:=by
 induction r with
 |one m=>exact h _ _ m
 |step m _ ih=>exact lt_trans (h _ _ m) ih
theorem uY(rk:nk n es)(h:l≠[]):iW ws es l≠[]:=by
 obtain⟨ps,_,hp⟩:=rk;obtain⟨i,hi,m⟩:=mN (ba ws) l h;have hl:dG ws l≠[]:=λz=>by
  have:=fM.mpr ⟨hi,m⟩;rw[z] at this;cases this
 obtain⟨j,hj,q⟩:=mN ps _ hl;intro z;have:j∈iW ws es l:=by
  unfold iW;rw[Mb];refine⟨hj,?_⟩;rw[OX,QD];intro b hb c;have:=fS.rank hp (eS.mp c);have:=q b hb;omega
 rw[z] at this;cases this
theorem k9(rk:nk n es)(h:l≠[]):(iW ws es l)[0]?=some (gw ws es l):=by
 have:=uY (ws:=ws) rk h;unfold gw
 cases e:iW ws es l with
 |nil=>exact absurd e this
 |cons a r=>rfl
theorem mF(rk:nk n es)(h:l≠[]):gw ws es l∈l:=by
 have a:=LQ (k9 (ws:=ws) rk h);exact(fM.mp (Mb.mp a).1).1
theorem jN{q:Nat->Bool}:∀{l:List Nat} {i x:Nat},l[i]?=some x->q x=true->(∀j y,j<i->l[j]?=some y->q y=false)->(l.filter q).getD 0 0=x
 | [],i,x,h,_,_=>by simp at h
 |a::l,0,x,h,hx,_=>by
  have e:a=x:=by simpa using h
  subst e;rw[Pa hx];rfl
 |a::l,i+1,x,h,hx,b=>by
  have e:q a=false:=b 0 a (succ_pos _) Z;rw[Pb (by rw[e];exact L5)];exact jN (by simpa using h) hx λj y hj hy=>b (j+1) y (succ_lt_succ hj) (by simpa using hy)
theorem uk(n:Nat)(c:List Nat):(cj n c).Nodup:=Nr _ OS
theorem eE:i∈cj n c↔i<n/\i∉c:=by
 unfold cj;rw[Mb,LW,OX,OD,decide_eq_false_iff_not]
theorem vq(n:Nat)(c:List Nat)(x:Nat):cj n (c++[x])=(cj n c).filter λi=>decide (i≠x):=by
 unfold cj;rw[filter_filter];refine filter_congr λi _=>?_
 rw[M6,ME,OX,OX,OD,OD,decide_eq_false_iff_not,decide_eq_false_iff_not,decide_eq_true_iff,mem_append,LP];exact⟨λh=>⟨λz=>h (.inr z),λz=>h (.inl z)⟩,λh z=>z.elim h.2 h.1⟩
theorem rO:∀{l:List Nat} {j x:Nat},l.Nodup->l[j]?=some x->l.eraseIdx j=l.filter (λi=>decide (i≠x))/\(l.eraseIdx j).length+1=l.length
 | [],j,x,_,h=>by simp at h
 |a::l,0,x,nd,h=>by
  have e:a=x:=by simpa using h
  subst e;obtain⟨n1,n2⟩:=MU.mp nd;refine⟨?_,Z⟩;have e1:(a::l).filter (λi=>decide (i≠a))=l.filter (λi=>decide (i≠a)):=Pb (by simp);have e2:l.filter (λi=>decide (i≠a))=l:=NC.mpr λi hi=>decide_eq_true λz=>n1 (by rw[←z];exact hi)
  rw[e1,e2];rfl
 |a::l,j+1,x,nd,h=>by
  obtain⟨n1,n2⟩:=MU.mp nd;have h':l[j]?=some x:=by simpa using h
  obtain⟨e1,e2⟩:=rO n2 h';have ne:a≠x:=λz=>n1 (by rw[z];exact LQ h')
  have e3:(a::l).filter (λi=>decide (i≠x))=a::l.filter (λi=>decide (i≠x)):=Pa (decide_eq_true ne);rw[RY,e3,←e1];refine⟨Z,?_⟩;rw[MS,MS,e2]
theorem AA{l:List Nat}{j x:Nat}(nd:l.Nodup)(h:l[j]?=some x):∀m,m<j->l[m]?≠some x:=λm hm e=>by
 obtain⟨h1,e1⟩:=LR.mp e;obtain⟨h2,e2⟩:=LR.mp h;exact MT.mp nd m j h1 h2 hm (e1.trans e2.symm)
structure ue(ws:List Wk)(es:List Ln)(k:Nat):Prop where
 len:(aO ws es k).length=k
 lt:∀i∈aO ws es k,i<ws.length
 wl:(cj ws.length (aO ws es k)).length+k=ws.length
theorem zV(ws:List Wk)(es:List Ln):ue ws es 0:=by
 refine⟨Z,λi hi=>absurd (show i∈([]:List Nat) from hi) (by simp),?_⟩;show(cj ws.length []).length+0=_;unfold cj;have e:(range ws.length).filter (λi=>!([]:List Nat).contains i)=range ws.length:=NC.mpr λi _=>Z
 rw[e,Mw];rfl
theorem ue.ne(h:ue ws es k)(hk:k<ws.length):cj ws.length (aO ws es k)≠[]:=λz=>by
 have:=h.wl;rw[z] at this;have e:0+k=ws.length:=this;omega
theorem ue.step(h:ue ws es k)(rk:nk ws.length es)(hk:k<ws.length):ue ws es (k+1)/\∃j:Nat,(cj ws.length (aO ws es k))[j]?=some (gw ws es (cj ws.length (aO ws es k)))/\(cj ws.length (aO ws es k)).eraseIdx j=cj ws.length (aO ws es (k+1)):=by
 have m:=mF (ws:=ws) rk (h.ne hk);obtain⟨j,hj⟩:=getElem?_of_mem m;obtain⟨e1,e2⟩:=rO (uk _ _) hj;have e3:(cj ws.length (aO ws es k)).eraseIdx j=cj ws.length (aO ws es (k+1)):=by
  rw[e1];exact(vq _ _ _).symm
 refine⟨⟨?_,λi hi=>?_,?_⟩,j,hj,e3⟩
 ·show(aO ws es k++[_]).length=k+1;rw[MO,h.len];rfl
 ·rcases Mh.mp (show i∈aO ws es k++[_] from hi) with z|z
  ·exact h.lt i z
  ·rw[LP.mp z];exact(eE.mp m).1
 ·rw[←e3];have:=h.wl;omega
theorem dz{ws:List Wk}{es:List Ln}(rk:nk ws.length es):∀k,k≤ws.length->ue ws es k
 |0,_=>zV ws es
 |k+1,h=>((dz rk k (le_of_succ_le h)).step rk h).1
def Dp(es:List Ln)(w:Nat)(fd:List Nat)(i:Nat):Bool:=decide ((es.getD i (0,0)).2=w)&&!fd.contains (es.getD i (0,0)).1
def vi(es:List Ln)(w:Nat)(fd:List Nat):List Nat:=(range es.length).filter (Dp es w fd)
def fQ(es:List Ln)(is:List Nat):List Nat:=is.map λi=>(es.getD i (0,0)).1
theorem jc:i∈vi es w fd↔i<es.length/\(es.getD i (0,0)).2=w/\(es.getD i (0,0)).1∉fd:=by
 unfold vi Dp;rw[Mb,LW,ME,decide_eq_true_iff,OX,OD,decide_eq_false_iff_not]
theorem mH:x∈fQ es is↔∃i∈is,(es.getD i (0,0)).1=x:=mem_map
theorem uX{es:List Ln}(h:i<es.length):es.getD i (0,0)∈es:=by
 rw[ax (0,0) (LL h)];exact Nh h
structure ui(es:List Ln)(w n:Nat)(is:List Nat):Prop where
 nd:is.Nodup
 lt:∀i∈is,i<es.length
 sound:∀x∈fQ es is,fS es x w
 base:∀a,(a,w)∈es->a∈fQ es is
 done:∀j x,j<n->(fQ es is)[j]?=some x->∀a,(a,x)∈es->a∈fQ es is
theorem AY(es:List Ln)(w:Nat):ui es w 0 (vi es w []):=by
 refine⟨Nr _ OS,λi hi=>(jc.mp hi).1,λx hx=>?_,λa ha=>?_,λj x hj=>absurd hj (NW _)⟩
 ·obtain⟨i,hi,rfl⟩:=mH.mp hx;obtain⟨h1,h2,_⟩:=jc.mp hi;refine .one ?_;rw[←h2];exact uX h1
 ·obtain⟨i,hi,e⟩:=MM.mp ha;have g:es.getD i (0,0)=(a,w):=by rw[ax (0,0) (LL hi),e]
  exact mH.mpr ⟨i,jc.mpr ⟨hi,by rw[g],by simp⟩,by rw[g]⟩
theorem p9(es:List Ln)(a b:List Nat):fQ es (a++b)=fQ es a++fQ es b:=Ni
theorem ui.step(h:ui es w n is)(hx:(fQ es is)[n]?=some x):ui es w (n+1) (is++vi es x (fQ es is)):=by
 have lfs:(fQ es is).length=is.length:=LO _;have hn:=(LR.mp hx).1;refine⟨?_,λi hi=>?_,λy hy=>?_,λa ha=>?_,λj y hj hy a ha=>?_⟩
 ·rw[Nd];refine⟨h.nd,Nr _ OS,λa ha b hb z=>?_⟩;subst z;exact(jc.mp hb).2.2 (mH.mpr ⟨a,ha,Z⟩)
 ·rcases Mh.mp hi with z|z
  ·exact h.lt i z
  ·exact(jc.mp z).1
 ·rw[p9] at hy;rcases Mh.mp hy with z|z
  ·exact h.sound y z
  ·obtain⟨i,hi,rfl⟩:=mH.mp z;obtain⟨h1,h2,_⟩:=jc.mp hi;refine .step (b:=x) ?_ (h.sound x (LQ hx));rw[←h2];exact uX h1
 ·rw[p9];exact MJ _ (h.base a ha)
 ·rw[p9] at hy ⊢;by_cases c:j<n
  ·rw[OO (by omega)] at hy;exact MJ _ (h.done j y c hy a ha)
  ·have e:j=n:=by omega
   subst e;rw[OO hn,hx] at hy
   cases hy
   by_cases m:a∈fQ es is
   ·exact MJ _ m
   ·refine Md _ ?_;obtain⟨i,hi,e⟩:=MM.mp ha;have g:es.getD i (0,0)=(a,x):=by rw[ax (0,0) (LL hi),e]
    exact mH.mpr ⟨i,jc.mpr ⟨hi,by rw[g],by rw[g];exact m⟩,by rw[g]⟩
theorem ui.fin(h:ui es w n is)(hn:is.length≤n)(x:Nat):x∈fQ es is↔fS es x w:=by
 refine⟨h.sound x,λr=>?_⟩;have lfs:(fQ es is).length=is.length:=LO _;have go:∀y,fS es y w->y∈fQ es is:=λy r=>by
  generalize hw:w=w' at r
  induction r with
  |one m=>rw[←hw] at m;exact h.base _ m
  |step m _ ih=>
   obtain⟨j,hj,e⟩:=MM.mp (ih hw);exact h.done j _ (by omega) (by rw[LL hj,e]) _ m
 exact go x r
structure fD(r:R):Prop where
 bq:Bq 449755225920 128 r
 nn:0≤r.1
theorem fD.wf(h:fD r):Wf 50 r:=h.bq.wf (by decide) (by decide) (by decide)
theorem fD.red(h:fD r):kr r:=h.bq.red
theorem CF:fD (0,1):=⟨CB.mono (NT _) (by decide),Int.le_refl _⟩
theorem jX(h:0<r.2):0≤val r↔0≤r.1:=by
 have zz:val ((0,1):R)=0:=(lE (r:=(0,1)) (by decide)).mpr Z;rw[←zz,←ir (r:=r) (q:=(0,1)) h (by decide),mL];show 0*r.2≤r.1*1↔_;omega
theorem Ai{r:R}(hp:0<r.2)(hn:0≤r.1):r.1.natAbs≤N*r.2.natAbs↔val r≤(N:Rat):=by
 have e:val (((N:Nat):Int),1)=(N:Rat):=by
  show(((N:Nat):Int):Rat)/((1:Int):Rat)=_;rw[show((1:Int):Rat)=1 from Z];have:(((N:Nat):Int):Rat)=(N:Rat):=Z;rw[this];grind
 rw[←e,←ir (r:=(((N:Nat):Int),1)) (q:=r) (by show(0:Int)<1;decide) hp,mL];show _↔r.1*1≤(N:Int)*r.2;have h1:((r.1.natAbs:Nat):Int)=r.1:=by omega
 have h2:((r.2.natAbs:Nat):Int)=r.2:=by omega
 rw[←ofNat_le,Q7,h1,h2,mul_one]
def eJ(a b:R):R:=if cX b a=true then b else a
theorem mM(ha:fD a)(hb:fD b):fD (eJ a b):=by
 unfold eJ
 split
 ·exact hb
 ·exact ha
theorem FF(ha:fD a)(hb:fD b):val (eJ a b)≤val a/\val (eJ a b)≤val b:=by
 unfold eJ
 cases c:cX b a with
 |true=>
  rw[if_pos Z];have:=(jp hb.bq.pos ha.bq.pos).mp c;exact⟨OV this,M8⟩
 |false=>
  rw[if_neg L5];exact⟨M8,(ir hb.bq.pos ha.bq.pos).mp c⟩
theorem Cj(ha:fD a)(hb:fD b):(if cX a b=true then a else b)=eJ a b:=by
 unfold eJ
 cases c:cX a b with
 |true=>rw[if_pos Z,wc c,if_neg L5]
 |false=>
  rw[if_neg L5]
  cases d:cX b a with
  |true=>rw[if_pos Z]
  |false=>
   rw[if_neg L5];refine iu hb.red ha.red ?_;have h1:=(ir ha.bq.pos hb.bq.pos).mp c;have h2:=(ir hb.bq.pos ha.bq.pos).mp d;exact Rat.le_antisymm h1 h2
theorem xC(hx:fD x)(ha:fD a)(h:val a≤val x):fD (cI x a):=by
 have b:=Bq.minus (by decide) hx.bq ha.bq;have ev:val (cI x a)=val x-val a:=gq hx.bq.pos ha.bq.pos;have na:=(jX ha.bq.pos).mpr ha.nn;have nn:0≤(cI x a).1:=(jX b.pos).mp (by rw[ev];grind);refine⟨⟨b.pos,b.cop,b.dvd,(Ai b.pos nn).mpr ?_⟩,nn⟩;have:=(Ai hx.bq.pos hx.nn).mp hx.bq.le;rw[ev];grind
abbrev Pc:=Nat×R
abbrev vo:=List R×R×List Pc
def bY(ws:List Wk)(t:Nat)(st:vo)(i:Nat):vo:=
 if fu (ws.getD i bG) t=true/\eJ (st.1.getD i (0,1)) st.2.1≠(0,1) then(st.1.set i (cI (st.1.getD i (0,1)) (eJ (st.1.getD i (0,1)) st.2.1)),cI st.2.1 (eJ (st.1.getD i (0,1)) st.2.1),st.2.2++[(i,eJ (st.1.getD i (0,1)) st.2.1)]) else st
def dJ(ws:List Wk)(ord:List Nat)(t:Nat)(lf:List R)(sp:R):vo:=ord.foldl (bY ws t) (lf,sp,[])
def aT(ws:List Wk)(ord:List Nat)(ss:List R):Nat->List R×List (List Pc)
 |0=>(ws.map λw=>w.2.2,[])
 |t+1=>((dJ ws ord t (aT ws ord ss t).1 (ss.getD t (0,1))).1,(aT ws ord ss t).2++[(dJ ws ord t (aT ws ord ss t).1 (ss.getD t (0,1))).2.2])
structure sq(n:Nat)(st:vo):Prop where
 len:st.1.length=n
 lf:∀r∈st.1,fD r
 rm:fD st.2.1
 pc:∀p∈st.2.2,p.1<n/\fD p.2
theorem de{n:Nat}{l:List R}(h:∀r∈l,fD r)(i:Nat):fD (l.getD i (0,1)):=by
 rw[Mi]
 cases e:l[i]? with
 |none=>exact CF
 |some r=>exact h r (LQ e)
theorem sq.step{st:vo}(h:sq n st)(hi:i<n):sq n (bY ws t st i)/\(bY ws t st i).2.2.length≤st.2.2.length+1:=by
 unfold bY
 split
 ·have a:=de (n:=n) h.lf i;have le:=FF a h.rm;have la:=mM a h.rm;refine⟨⟨by rw[OP];exact h.len,λr hr=>?_,xC h.rm la le.2,λp hp=>?_⟩,by rw[MO];exact LN _⟩
  ·rcases Ri hr with z|z
   ·exact h.lf r z
   ·rw[z];exact xC a la le.1
  ·rcases Mh.mp hp with z|z
   ·exact h.pc p z
   ·rw[LP.mp z];exact⟨hi,la⟩
 ·exact⟨h,OK _⟩
theorem sq.fold{ws:List Wk}{n t:Nat}:∀{ord:List Nat} {st:vo},sq n st->(∀i∈ord,i<n)->sq n (ord.foldl (bY ws t) st)/\(ord.foldl (bY ws t) st).2.2.length≤st.2.2.length+ord.length
 | [],st,h,_=>⟨h,LN _⟩
 |i::ord,st,h,hl=>by
  obtain⟨h1,l1⟩:=h.step (ws:=ws) (t:=t) (hl i LY);obtain⟨h2,l2⟩:=h1.fold (ws:=ws) (t:=t) (ord:=ord) λj hj=>hl j (L3 _ hj)
  refine⟨h2,?_⟩;rw[NM,MS];omega
structure Lf(n m:Nat)(p:List R×List (List Pc)):Prop where
 len:p.1.length=n
 lf:∀r∈p.1,fD r
 pc:∀q∈p.2,q.length≤m/\∀x∈q,x.1<n/\fD x.2
theorem eD{ws:List Wk}{ord:List Nat}{ss:List R}(okw:∀w∈ws,bT w)(ho:∀i∈ord,i<ws.length)(hs:∀r∈ss,fD r):∀t,Lf ws.length ord.length (aT ws ord ss t)/\(aT ws ord ss t).2.length=t
 |0=>by
  refine⟨⟨LO _,λr hr=>?_,λq hq=>by cases hq⟩,Z⟩;obtain⟨w,hw,rfl⟩:=Mc.mp hr;have a:=(okw w hw).am;exact⟨(AV a).mono ⟨5354228880,by decide⟩ (by decide),by have:=a.top;omega⟩
 |t+1=>by
  obtain⟨h,hl⟩:=eD okw ho hs t;obtain⟨d,dl⟩:=sq.fold (ws:=ws) (t:=t) (ord:=ord) (st:=((aT ws ord ss t).1,ss.getD t (0,1),[])) ⟨h.len,h.lf,de (n:=0) hs t,λp hp=>by cases hp⟩ ho;refine⟨⟨d.len,d.lf,λq hq=>?_⟩,?_⟩
  ·rcases Mh.mp (show q∈(aT ws ord ss t).2++[_] from hq) with z|z
   ·exact h.pc q z
   ·rw[LP.mp z];refine⟨?_,d.pc⟩;have:(dJ ws ord t (aT ws ord ss t).1 (ss.getD t (0,1))).2.2.length≤0+ord.length:=dl;omega
  ·show((aT ws ord ss t).2++[_]).length=t+1;rw[MO,hl];rfl
def iS(lf:List R):Option Nat:=(range lf.length).find? λi=>decide (lf.getD i (0,1)≠(0,1))
theorem we(hi:i<lf.length)(h:lf.getD i (0,1)≠(0,1))(b:∀j,j<i->lf.getD j (0,1)=(0,1)):iS lf=some i:=by
 unfold iS;rw[Rv];exact⟨decide_eq_true h,LW.mpr hi,λj hj=>by rw[decide_eq_false (λz=>z (b j hj))];rfl⟩
theorem oo(b:∀j,j<lf.length->lf.getD j (0,1)=(0,1)):iS lf=none:=by
 unfold iS;rw[RI];intro j hj z;exact(of_decide_eq_true z) (b j (LW.mp hj))
noncomputable def dH (ws:List Wk) (es:List Ln) (ss:List R):List R×List (List Pc):=aT ws (aO ws es ws.length) ss 24
def A2(K:Fg)(H:Hp)(v:V)(c:Pc):Prop:=∃p x,v=.ref p/\bH K H p [.int (c.1:Nat),x]/\RV K H x c.2
theorem A2.mono{K:Fg}{H H':Hp}{v:V}{c:Pc}(h:A2 K H v c)(t:aM K H H'):A2 K H' v c:=let ⟨p,x,e,s,r⟩:=h;⟨p,x,e,t _ _ s,r.mono t⟩
def AZ(K:Fg)(H:Hp)(v:V)(q:List Pc):Prop:=∃p xs,v=.ref p/\bH K H p xs/\cO (A2 K H) xs q
theorem AZ.mono{K:Fg}{H H':Hp}{v:V}{q:List Pc}(h:AZ K H v q)(t:aM K H H'):AZ K H' v q:=let ⟨p,x,e,s,r⟩:=h;⟨p,x,e,t _ _ s,r.mono λ_ _ z=>z.mono t⟩
def HV(c:Pc):PyData:=.tuple [.int (c.1:Nat),dR c.2]
def Jq(q:List Pc):PyData:=.tuple (q.map HV)
def F4(ps:List (List Pc)):PyData:=.tuple (ps.map Jq)
theorem A2.deep{K:Fg}{H:Hp}{v:V}{c:Pc}(h:A2 K H v c):bP K H v (HV c):=by
 obtain⟨p,x,rfl,hS,hx⟩:=h;exact .tup hS (.cons (.int _) (.cons hx.deep .nil))
theorem AZ.deep{K:Fg}{H:Hp}{v:V}{q:List Pc}(h:AZ K H v q):bP K H v (Jq q):=by
 obtain⟨p,xs,rfl,hS,al⟩:=h;exact .tup hS (al.deep λ_ _ z=>z.deep)
noncomputable def El (ws:List Wk) (es:List Ln) (ss:List R):PyData:=match iS (dH ws es ss).1 with
 |some i=>.int (i:Nat)
 |none=>F4 (dH ws es ss).2
theorem wG(c:Pc):(HV c).depth≤2:=by show max 0 (max (max 0 (max 0 0)+1) 0)+1≤2;decide
theorem F5(c:Pc):vM (HV c)=true:=by
 show(decide (2≤1000)&&(vM (.int (c.1:Nat))&&(vM (dR c.2)&&true)))=true;rfl
def Ld(K:Fg)(H:Hp)(v:V)(rs:List R):Prop:=∃p xs,v=.ref p/\bH K H p xs/\cO (RV K H) xs rs
structure Gq(N:Nat)(r:R):Prop where
 bq:Bq 449755225920 N r
 nn:0≤r.1
theorem Gq.am(h:Gq N r)(hN:N≤128):fD r:=⟨h.bq.mono (NT _) hN,h.nn⟩
theorem DB(ok:∀w∈ws,bT w)(hw:ws.length≤9)(lok:iM ws.length y):Gq 108 (d9 ws y):=by
 have b:=Bx ok hw lok;refine⟨b.mono (F7 _ (by have:=lok.few;omega) lok.pos) (LN _),?_⟩;have nn:0≤(dS (gE ws y)).1:=by
  have go:∀(l:List R) (a:R),kr a->0≤a.1->(∀r∈l,CT r)->0≤(l.foldl bo a).1:=by
   intro l
   induction l with
   |nil=>intro a _ na _;exact na
   |cons r l ih=>
    intro a ra na hl;have h:=hl r LY;have hr:kr r:=⟨by have:=h.bot;omega,h.wf.cop⟩;exact ih (bo a r) (jD (N9 ra.pos hr.pos)) (BR ra hr na (by have:=h.top;omega)) λq hq=>hl q (L3 _ hq)
  refine go _ (0,1) ⟨by decide,by decide⟩ (by decide) λr hr=>?_
  obtain⟨i,hi,rfl⟩:=Mc.mp hr;have hl:=lok.num i hi;rw[ax bG (LL hl)];exact(ok _ (Nh hl)).am
 show 0≤(eZ ((dS (gE ws y)).1*1) _).1;exact Ag (by omega)
theorem xG{ws:List Wk}(ok:∀w∈ws,bT w)(hw:ws.length≤9):∀{lys:List Ly} {ss:List R},(∀y∈lys,iM ws.length y)->(∀r∈ss,Gq 108 r)->∀r∈lys.foldl (λss y=>gL (d9 ws y) ss y.1) ss,Gq 108 r
 | [],ss,_,h=>h
 |y::lys,ss,hl,h=>by
  refine xG (lys:=lys) ok hw (λz hz=>hl z (L3 _ hz)) ?_;have sp:=DB ok hw (hl y LY);have go:∀(ts:List Nat) (ss:List R),(∀r∈ss,Gq 108 r)->∀r∈gL (d9 ws y) ss ts,Gq 108 r:=by
   intro ts
   induction ts with
   |nil=>intro ss h;exact h
   |cons t ts ih=>
    intro ss h;refine ih (ss.set t (d9 ws y)) λr hr=>?_
    rcases Ri hr with z|z
    ·exact h r z
    ·rw[z];exact sp
  exact go y.1 ss h
theorem wF(ps:List (List Pc)):(F4 ps).depth≤4:=nR λq _=>nR λc _=>wG c
theorem F2(h:ps.length≤24)(h8:∀q∈ps,q.length≤8):vM (F4 ps)=true:=xg (by omega) λq hq=>xg (by have:=h8 q hq;omega) λc _=>F5 c
def vB(K:Fg):Sp:=λvs H Q _=>∃(v w:V) (r q:R),vs=[v,w]/\RV K H v r/\RV K H w q/\fD r/\fD q/\∀u,RV K H u (eJ r q)->Q u H
structure CS(K:Fg)(H:Hp)(v u:V)(ws:List Wk)(es:List Ln):Prop where
 wv:fO K H v ws
 w8:ws.length≤8
 ok:∀w∈ws,bT w
 lv:nK K H u es
 eok:kX ws.length es
 rk:nk ws.length es
 e8:es.length≤8
theorem CS.mono{K:Fg}{H H':Hp}{v u:V}{ws:List Wk}{es:List Ln}(h:CS K H v u ws es)(t:aM K H H'):CS K H' v u ws es:=⟨h.wv.mono t,h.w8,h.ok,h.lv.mono t,h.eok,h.rk,h.e8⟩
def j4(K:Fg):Sp:=λvs H Q _=>∃(v:V) (l wl:Addr) (ws:List Wk) (es:List Ln) (rows:List Addr) (L:Nat->Nat->Bool) (ls:List Nat),vs=[v,.ref l,.ref wl]/\fO K H v ws/\ws.length≤8/\oQ H l rows ws.length L/\GA ws.length es L/\aS K H wl (aC ls)/\(∀i∈ls,i<ws.length)/\ls≠[]/\ls.length≤8/\nk ws.length es/\∀H',aB H H'->Q (.int (gw ws es ls:Nat)) H'
def qI(K:Fg):Sp:=λvs H Q _=>∃(v u:V) (ws:List Wk) (es:List Ln),vs=[v,u]/\CS K H v u ws es/\∀(l:Addr) (H':Hp),aB H H'->H l=none->H' l=some (.lst (aC (aO ws es ws.length)))->Q (.ref l) H'
def pG(K:Fg):Sp:=λvs H Q _=>∃(v u:V) (o lf:Addr) (ws:List Wk) (ord:List Nat) (xs:List V) (rs:List R) (t:Nat) (sp:R),vs=[v,.ref o,.ref lf,.int (t:Nat),u]/\fO K H v ws/\H o=some (.lst (aC ord))/\H lf=some (.lst xs)/\o≠lf/\cO (RV K H) xs rs/\rs.length=ws.length/\(∀r∈rs,fD r)/\RV K H u sp/\fD sp/\(∀i∈ord,i<ws.length)/\ord.length≤8∧
 ∀(w:V) (ys:List V) (H':Hp),bz lf H H'->H' lf=some (.lst ys)->cO (RV K H') ys (dJ ws ord t rs sp).1->AZ K H' w (dJ ws ord t rs sp).2.2->Q w H'
def xL(K:Fg)(C:Addr):Sp:=λvs H Q E=>∃(v u s:V) (ws:List Wk) (es:List Ln) (ss:List R),vs=[v,u,s]/\CS K H v u ws es/\Ld K H s ss/\ss.length=24/\(∀r∈ss,fD r)/\(iS (dH ws es ss).1=none->∀(w:V) (H':Hp),aB H H'->bP K H' w (F4 (dH ws es ss).2)->Q w H')∧
 (∀i,iS (dH ws es ss).1=some i->∀(dd:Addr) (H':Hp),aB H H'->H' dd=some (dO dd [("work",.int (i:Nat))])->E (.ref C) (some dd) H')
def pD(K:Fg):Sp:=λvs H Q _=>∃(v:V) (es:List Ln) (w:Nat),vs=[v,.int (w:Nat)]/\nK K H v es/\es.length≤64/\∀(l:Addr) (as:List Nat) (H':Hp),aB H H'->H' l=some (.lst (aC as))->(∀x,x∈as↔fS es x w)->as.length≤64->Q (.ref l) H'
def sK(_:Fg):Sp:=λvs H Q _=>∃i:Int,vs=[.int i]/\0≤i/\i≤1000/\Q (.int (i*7%11)) H
def ph(K:Fg):Sp:=λvs H Q _=>∃(t s:Addr) (n:Nat),vs=[.ref t,.int n]/\cN K H t s/\n≤8/\∀(v:V) (es:List Ln) (H':Hp),bz t H H'->cN K H' t s->nK K H' v es->kX n es->nk n es->es.length≤6->Q v H'
def qM(K:Fg):Sp:=λvs H Q _=>∃(v u:V) (a:Addr) (ws:List Wk) (es:List Ln) (come:List Nat),vs=[v,u,.ref a]/\CS K H v u ws es/\aS K H a (aC come)/\cj ws.length come≠[]/\∀H',aB H H'->Q (.int (gw ws es (cj ws.length come):Nat)) H'
def pA(K:Fg):Sp:=λvs H Q _=>∃(v u:V) (q:Addr) (qs:List V) (ws:List Wk) (es:List Ln) (ss:List R),vs=[v,u,.ref q]/\CS K H v u ws es/\H q=some (.lst qs)/\cO (RV K H) qs ss/\ss.length=24/\(∀r∈ss,fD r)/\∀(w:V) (H':Hp),aB H H'->bP K H' w (El ws es ss)->Q w H'
def o9(K:Fg)(C:Addr):Sp:=λvs H Q _=>∃(x dd:Addr) (fs:List (Mj×V)),vs=[.ref x]/\H x=some (wT x C dd)/\H dd=some (dO dd fs)/\∀(l:Addr) (H':Hp),aB H H'->H' l=some (.lst [.bl true,.bl true,.bl true,.bl false])->Q (.ref l) H'
def cL(b:Bool)(x:Rat):Rat:=if b=true then x else 0
theorem dN(x:Rat):cL true x=x:=Z
theorem cM(x:Rat):cL false x=0:=Z
def sQ{α:Type}(f:α->Rat):List α->Rat
 | []=>0
 |x::l=>f x+sQ f l
theorem iO{α:Type}{f g:α->Rat}:∀{l:List α},(∀x∈l,f x≤g x)->sQ f l≤sQ g l
 | [],_=>M8
 |x::l,h=>by
  have a:=h x LY;have b:=iO (l:=l) λy hy=>h y (L3 _ hy)
  show f x+sQ f l≤g x+sQ g l;grind
theorem aY{α:Type}{f g:α->Rat}:∀{l:List α},(∀x∈l,f x=g x)->sQ f l=sQ g l
 | [],_=>rfl
 |x::l,h=>by
  show f x+sQ f l=g x+sQ g l;rw[h x LY,aY λy hy=>h y (L3 _ hy)]
theorem fj{α:Type}{f g:α->Rat}:∀l:List α,sQ (λx=>f x+g x) l=sQ f l+sQ g l
 | []=>by show(0:Rat)=0+0;grind
 |x::l=>by
  show f x+g x+sQ (λx=>f x+g x) l=(f x+sQ f l)+(g x+sQ g l);rw[fj l];grind
theorem eO{α:Type}(c:Rat){f:α->Rat}:∀l:List α,sQ (λx=>c*f x) l=c*sQ f l
 | []=>by show(0:Rat)=c*0;grind
 |x::l=>by
  show c*f x+sQ (λx=>c*f x) l=c*(f x+sQ f l);rw[eO c l];grind
theorem fJ{α:Type}{f:α->Rat}:∀a b:List α,sQ f (a++b)=sQ f a+sQ f b
 | [],b=>by show sQ f b=0+sQ f b;grind
 |x::a,b=>by
  show f x+sQ f (a++b)=(f x+sQ f a)+sQ f b;rw[fJ a b];grind
theorem ix{α:Type}{f:α->Rat}(c:α->Bool):∀l:List α,sQ f (l.filter c)=sQ (λx=>cL (c x) (f x)) l
 | []=>rfl
 |x::l=>by
  have ih:=ix (f:=f) c l
  cases e:c x with
  |true=>
   rw[Pa e];show f x+sQ f (l.filter c)=cL (c x) (f x)+sQ _ l;rw[ih,e];rfl
  |false=>
   rw[Pb (by rw[e];simp)];show sQ f (l.filter c)=cL (c x) (f x)+sQ _ l;rw[ih,e,cM];grind
theorem ma{α β:Type}{f:β->Rat}(m:α->β):∀l:List α,sQ f (l.map m)=sQ (λx=>f (m x)) l
 | []=>rfl
 |x::l=>by
  show f (m x)+sQ f (l.map m)=f (m x)+sQ _ l;rw[ma m l]
theorem uG{f:α->Rat}{l:List α}(h:∀x∈l,0≤f x):0≤sQ f l:=by
 have:=iO (f:=λ_:α=>(0:Rat)) (g:=f) (l:=l) h;have z:∀l:List α,sQ (λ_:α=>(0:Rat)) l=0:=λl=>by
  induction l with
  |nil=>rfl
  |cons x l ih=>show(0:Rat)+_=0;rw[ih];grind
 rw[z] at this;exact this
theorem k7(d:α)(l:List α):sQ f l=sQ (λi=>f (l.getD i d)) (range l.length):=by
 have e:=cr (β:=α) d id l;have e':(range l.length).filter (λ_=>true)=range l.length:=by simp
 rw[e',map_id] at e;have:=ma (f:=f) (λi=>id (l.getD i d)) (range l.length);rw[e] at this;exact this
def A8(P:Nat->Bool):Rat:=sQ (λt=>cL (P t) 1) (range 24)
theorem gU(b:Bool)(h:0≤x):0≤cL b x:=by cases b with|true=>exact h|false=>exact M8
theorem wI(h:∀t,t<24->P t=Q t):A8 P=A8 Q:=aY λt ht=>by rw[h t (LW.mp ht)]
theorem sX{P:Nat->Bool}{x:Nat}:∀d,(∀i,x≤i->i<x+d->P i=true)->sQ (λt=>cL (P t) 1) (range (x+d))=sQ (λt=>cL (P t) 1) (range x)+(d:Rat)
 |0,_=>by show sQ _ (range x)=sQ _ (range x)+((0:Nat):Rat);rw[show((0:Nat):Rat)=0 from Z];grind
 |d+1,h=>by
  have ih:=sX (P:=P) (x:=x) d λi a b=>h i a (by omega)
  rw[←add_assoc,Nj,fJ,ih];show _+(cL (P (x+d)) 1+0)=_;rw[h (x+d) (by omega) (by omega),dN,show((d+1:Nat):Rat)=(d:Rat)+1 from Rat.natCast_add d 1];grind
theorem pN{P:Nat->Bool}{x:Nat}:∀d,(∀i,x≤i->i<x+d->P i=false)->sQ (λt=>cL (P t) 1) (range (x+d))=sQ (λt=>cL (P t) 1) (range x)
 |0,_=>rfl
 |d+1,h=>by
  have ih:=pN (P:=P) (x:=x) d λi a b=>h i a (by omega)
  rw[←add_assoc,Nj,fJ,ih];show _+(cL (P (x+d)) 1+0)=_;rw[h (x+d) (by omega) (by omega),cM];grind
theorem me(P:Nat->Bool):∀k,∃x,x≤k/\(∀i,x≤i->i<k->P i=true)/\(x=0∨P (x-1)=false)
 |0=>⟨0,LN _,λi a b=>by omega,.inl Z⟩
 |k+1=>by
  cases c:P k with
  |false=>exact⟨k+1,LN _,λi a b=>by omega,.inr c⟩
  |true=>
   obtain⟨x,h1,h2,h3⟩:=me P k;refine⟨x,by omega,λi a b=>?_,h3⟩;by_cases z:i=k
   ·rw[z];exact c
   ·exact h2 i a (by omega)
def g8(A:Nat->Bool)(w:Wk):Bool:=(range 24).all λt=>!fu w t||A t
theorem eG:g8 A w=true↔∀t,t<24->fu w t=true->A t=true:=by
 unfold g8;rw[No];constructor
 ·intro h t ht e;have:=h t (LW.mpr ht);rw[e] at this
  simpa using this
 ·intro h t ht
  cases e:fu w t with
  |false=>rfl
  |true=>rw[h t (LW.mp ht) e];rfl
theorem gz(h:∀t,t<24->A t=true->A' t=true)(q:g8 A w=true):g8 A' w=true:=eG.mpr λt ht e=>h t ht (eG.mp q t ht e)
def qj(w:Wk):Rat:=val w.2.2
def FM(ws:List Wk)(A:Nat->Bool):Rat:=sQ (λw=>cL (g8 A w) (qj w)) ws
theorem AU(h:bT w):0<qj w:=by
 have a:=h.am;show 0<val w.2.2;unfold val;have h1:(0:Rat)<(w.2.2.1:Rat):=Ny.mpr (show(0:Int)<w.2.2.1 by have:=a.top;omega);have h2:(0:Rat)<(w.2.2.2:Rat):=Ny.mpr (show(0:Int)<w.2.2.2 by have:=a.bot;omega);generalize (w.2.2.1:Rat)=x at *;generalize (w.2.2.2:Rat)=y at *;exact(Rat.lt_div_iff h2).mpr (by grind)
theorem se{ws:List Wk}(ok:∀w∈ws,bT w):∀w∈ws,0≤qj w:=λw hw=>OV (AU (ok w hw))
theorem tS(hx:0≤x)(h:b=true->c=true):cL b x≤cL c x:=by
 cases b with
 |false=>exact gU c hx
 |true=>rw[h Z];exact M8
theorem CP(nn:∀w∈ws,0≤qj w)(h:∀t,t<24->A t=true->A' t=true):FM ws A≤FM ws A':=iO λw hw=>tS (nn w hw) (gz h)
theorem A4(nn:∀w∈ws,0≤qj w)(A B:Nat->Bool):FM ws A+FM ws B≤FM ws (λt=>A t||B t)+FM ws (λt=>A t&&B t):=by
 unfold FM;rw[←fj,←fj];refine iO λw hw=>?_
 have x:=nn w hw;have o1:g8 A w=true->g8 (λt=>A t||B t) w=true:=gz λt _ e=>by rw[e];rfl
 have o2:g8 B w=true->g8 (λt=>A t||B t) w=true:=gz λt _ e=>by rw[e,NS]
 have o3:g8 A w=true->g8 B w=true->g8 (λt=>A t&&B t) w=true:=λa b=>eG.mpr λt ht e=>by rw[eG.mp a t ht e,eG.mp b t ht e];rfl
 have n3:=gU (g8 (λt=>A t&&B t) w) x
 cases a:g8 A w with
 |true=>
  cases b:g8 B w with
  |true=>rw[o1 a,o3 a b];exact M8
  |false=>rw[o1 a,dN,cM];grind
 |false=>
  cases b:g8 B w with
  |true=>rw[o2 b,dN,cM];grind
  |false=>
   have n4:=gU (g8 (λt=>A t||B t) w) x;rw[cM];grind
theorem jV:(bw ((range 24).filter q) w).isSome=!g8 (λt=>!q t) w:=by
 rw[M6,g9];constructor
 ·rintro⟨t,ht,e⟩;obtain⟨h1,h2⟩:=Mb.mp ht
  cases c:g8 (λt=>!q t) w with
  |false=>rfl
  |true=>
   have:=eG.mp c t (LW.mp h1) e;rw[h2] at this
   cases this
 ·intro h;apply P9;intro n;have:g8 (λt=>!q t) w=true:=eG.mpr λt ht e=>by
   cases c:q t with
   |false=>rfl
   |true=>exact absurd ⟨t,Mb.mpr ⟨LW.mpr ht,c⟩,e⟩ n
  rw[this] at h
  cases h
def d8(ls:List Nat)(p:Pl)(w:Wk):Bool:=fc p.1 p.2 (bw ls w)
def SM(ws:List Wk)(ls:List Nat)(p:Pl):Rat:=sQ (λw=>cL (d8 ls p w) (qj w)) ws
theorem uV(ws:List Wk)(ls:List Nat)(p:Pl):bR (ws.map (bw ls)) p=(range ws.length).filter λi=>d8 ls p (ws.getD i bG):=by
 unfold bR d8;rw[LO];refine filter_congr λi hi=>?_
 have hl:=LW.mp hi;have h:=LL hl;rw[ax bG h,ax none (show(ws.map (bw ls))[i]?=some (bw ls ws[i]) by rw[LX,h];rfl)]
theorem AS(ws:List Wk)(ls:List Nat)(p:Pl):gE ws (fX ws ls p)=(ws.filter (d8 ls p)).map λw=>w.2.2:=by
 unfold gE fX;rw[uV];exact dj bG (d8 ls p) (λw:Wk=>w.2.2) ws
theorem oV:∀rs:List R,iZ rs=sQ val rs
 | []=>rfl
 |r::rs=>by
  show val r+iZ rs=val r+sQ val rs;rw[oV rs]
theorem Bd(ws:List Wk)(ls:List Nat)(p:Pl):iZ (gE ws (fX ws ls p))=SM ws ls p:=by
 rw[AS,oV,ma];exact ix _ ws
theorem wZ(h:bT w):((w.2.2.1*84/w.2.2.2:Int):Rat)=84*qj w:=by
 obtain⟨n,hn⟩:=h.am.dvd;have b:=h.am.bot;have e:w.2.2.1*84/w.2.2.2=w.2.2.1*n:=by
  rw[hn,Int.mul_left_comm];exact Mt _ (by omega)
 have e2:(84:Rat)=(w.2.2.2:Rat)*(n:Rat):=by
  rw[←MF,←hn];rfl
 have nz:(w.2.2.2:Rat)≠0:=dD (by omega);rw[e,MF,e2];show _=_*val w.2.2;unfold val;generalize (w.2.2.1:Rat)=x at *;generalize (w.2.2.2:Rat)=y at *;generalize (n:Rat)=z at *;grind
theorem qE:∀l:List Int,((l.sum:Int):Rat)=sQ (λx:Int=>(x:Rat)) l
 | []=>rfl
 |x::l=>by
  rw[Rf,QV,qE l];rfl
theorem uR(ok:∀w∈ws,bT w)(ls:List Nat)(p:Pl):((dE (ws.map (bw ls)) (gI (bF ws)) p:Int):Rat)=84*SM ws ls p:=by
 unfold dE;have e:(bR (ws.map (bw ls)) p).map (gI (bF ws))=(ws.filter (d8 ls p)).map λw=>w.2.2.1*84/w.2.2.2:=by
  rw[uV,←dj bG (d8 ls p) (λw:Wk=>w.2.2.1*84/w.2.2.2) ws];refine P7 λi hi=>?_
  have h:=LL (LW.mp (Mb.mp hi).1);rw[ax bG h];exact ax 0 (by unfold bF;rw[LX,h];rfl)
 rw[e,qE,ma,ix];unfold SM;rw[←eO];refine aY λw hw=>?_
 rw[wZ (ok w hw)]
 cases d8 ls p w with
 |true=>rfl
 |false=>show(0:Rat)=84*0;grind
theorem jG(h:gH n p):(0:Rat)<(bK p:Rat):=Ny.mpr h.pos
theorem xj(ok:∀w∈ws,bT w)(h:so ws ls p)(hr:gH ls.length r):SM ws ls r*(bK p:Rat)≤SM ws ls p*(bK r:Rat):=by
 have a:dE (ws.map (bw ls)) (gI (bF ws)) r*bK p≤dE (ws.map (bw ls)) (gI (bF ws)) p*bK r:=by
  rcases h.1.all r hr with z | ⟨z,_⟩<;>omega
 have b:=Rat.intCast_le_intCast.mpr a;rw[MF,MF,uR ok,uR ok] at b;generalize SM ws ls r=x at *;generalize SM ws ls p=y at *;generalize (bK p:Rat)=u at *;generalize (bK r:Rat)=v at *;grind
theorem wo(h:d8 ls p w=true):(bw ls w).isSome=true:=by
 unfold d8 at h
 cases c:bw ls w with
 |none=>rw[c] at h;cases h
 |some x=>rfl
theorem At(e:bw ls w=some (a,b)):d8 ls p w=(decide (p.1≤a)&&decide (b≤p.2)):=by
 unfold d8;rw[e];rfl
def nx(q:Nat->Bool)(p:Pl):Nat->Bool:=λt=>!(di ((range 24).filter q) p).contains t&&q t
theorem pO(q:Nat->Bool)(p:Pl):cR ((range 24).filter q) p=(range 24).filter (nx q p):=by
 unfold cR nx;rw[filter_filter]
theorem Dd(q:Nat->Bool):((range 24).filter q).Nodup:=Nr _ OS
theorem Ji(hp:gH ((range 24).filter q).length p):FM ws (λt=>!nx q p t)=FM ws (λt=>!q t)+SM ws ((range 24).filter q) p:=by
 unfold FM SM;rw[←fj];refine aY λw _=>?_
 have e:=nZ (w:=w) (Dd q) hp;rw[pO,jV,jV] at e;have hs:=wo (ls:=(range 24).filter q) (p:=p) (w:=w);rw[jV] at hs;show cL (g8 _ w) _=cL (g8 _ w) _+cL (d8 _ p w) _;have e':g8 (λt=>!nx q p t) w=(g8 (λt=>!q t) w||d8 ((range 24).filter q) p w):=by
  have:fc p.1 p.2 (bw ((range 24).filter q) w)=d8 ((range 24).filter q) p w:=Z;rw[this] at e
  cases a:g8 (λt=>!nx q p t) w<;>cases b:g8 (λt=>!q t) w<;>cases c:d8 ((range 24).filter q) p w<;>rw[a,b,c] at e<;>first|rfl|cases e
 rw[e']
 cases b:g8 (λt=>!q t) w with
 |true=>
  cases c:d8 ((range 24).filter q) p w with
  |true=>rw[b] at hs;cases hs c
  |false=>show qj w=qj w+0;grind
 |false=>
  cases c:d8 ((range 24).filter q) p w with
  |true=>show qj w=0+qj w;grind
  |false=>show(0:Rat)=0+0;grind
theorem AO(q P:Nat->Bool):A8 (λt=>q t&&P t)=sQ (λi=>cL (P (((range 24).filter q).getD i 0)) 1) (range ((range 24).filter q).length):=by
 rw[←k7 (f:=λt=>cL (P t) 1) 0 ((range 24).filter q),ix];refine aY λt _=>?_
 show cL (q t&&P t) 1=cL (q t) (cL (P t) 1)
 cases q t<;>rfl
theorem Ft(hp:gH ((range 24).filter q).length p):A8 (λt=>q t&&!nx q p t)=(bK p:Rat):=by
 have e1:A8 (λt=>q t&&!nx q p t)=A8 (λt=>q t&&(di ((range 24).filter q) p).contains t):=wI λt _=>by
  unfold nx
  cases q t<;>cases(di ((range 24).filter q) p).contains t<;>rfl
 rw[e1,AO];have h1:=hp.1;have h2:=hp.2;have e2:sQ (λi=>cL ((di ((range 24).filter q) p).contains (((range 24).filter q).getD i 0)) 1) (range ((range 24).filter q).length)=sQ (λi=>cL (decide (p.1≤i)&&decide (i≤p.2)) 1) (range ((range 24).filter q).length):=aY λi hi=>by
  have hi':=LW.mp hi;have m:=pY (Dd q) hp hi';rw[ax 0 (LL hi')]
  congr 1
  rw[M6,M5,m,ME,decide_eq_true_iff,decide_eq_true_iff]
 rw[e2];generalize ((range 24).filter q).length=n at *;obtain⟨d,rfl⟩:∃d,n=(p.2+1)+d:=⟨n-(p.2+1),by omega⟩;rw[pN (x:=p.2+1) d λi a b=>by rw[decide_eq_false (show ¬i≤p.2 by omega),Nn]];obtain⟨e,he⟩:∃e,p.2+1=p.1+e:=⟨p.2+1-p.1,by omega⟩;rw[he,sX (x:=p.1) e λi a b=>by rw[decide_eq_true a,decide_eq_true (show i≤p.2 by omega)];rfl];have z:=pN (P:=λi=>decide (p.1≤i)&&decide (i≤p.2)) (x:=0) p.1 λi a b=>by
  show(decide (p.1≤i)&&_)=false;rw[decide_eq_false (show ¬p.1≤i by omega)];rfl
 rw[OW] at z;rw[z];show(0:Rat)+(e:Rat)=_;have:bK p=(e:Int):=by unfold bK;omega
 rw[this,Oq];grind
theorem vK(q:Nat->Bool):((range 24).filter q).Pairwise (· < ·):=Nr _ Sj
theorem BS(e:bw ((range 24).filter q) w=some (a,b))(h1:a≤i)(h2:i≤b):i∈gg ((range 24).filter q) w:=by
 obtain⟨m1,m2,_⟩:=jm e;have srt:=MT.mp (vK q);generalize (range 24).filter q=ls at *;obtain⟨la,wa⟩:=fz.mp m1;obtain⟨lb,wb⟩:=fz.mp m2;have li:i<ls.length:=by omega
 rw[ax 0 (LL la)] at wa;rw[ax 0 (LL lb)] at wb;refine fz.mpr ⟨li,?_⟩;rw[ax 0 (LL li)];unfold fu at wa wb ⊢;rw[ME,decide_eq_true_iff,decide_eq_true_iff] at wa wb ⊢;have u1:ls[a]≤ls[i]:=by
  by_cases z:a=i
  ·subst z;exact LN _
  ·exact NH (srt a i la li (by omega))
 have u2:ls[i]≤ls[b]:=by
  by_cases z:i=b
  ·subst z;exact LN _
  ·exact NH (srt i b li lb (by omega))
 omega
def gB(ls:List Nat)(P:Nat->Bool)(k:Nat)(w:Wk):Bool:=(bw ls w).isSome&&(gg ls w).all λi=>decide (i<k)&&P i
theorem km:gB ls P k w=true↔(bw ls w).isSome=true/\∀i∈gg ls w,i<k/\P i=true:=by
 unfold gB;rw[ME,No];constructor
 ·rintro⟨a,b⟩;refine⟨a,λi hi=>?_⟩;have:=b i hi;rw[ME,decide_eq_true_iff] at this;exact this
 ·rintro⟨a,b⟩;refine⟨a,λi hi=>?_⟩;rw[ME,decide_eq_true_iff];exact b i hi
def GM(ws:List Wk)(ls:List Nat)(P:Nat->Bool)(k:Nat):Rat:=sQ (λw=>cL (gB ls P k w) (qj w)) ws
theorem Il(ok:∀w∈ws,bT w)(h:so ws ((range 24).filter q) p)(P:Nat->Bool):∀n k,k≤n->k≤((range 24).filter q).length->GM ws ((range 24).filter q) P k*(bK p:Rat)≤SM ws ((range 24).filter q) p*sQ (λi=>cL (P i) 1) (range k):=by
 have nn:=se ok;have lp:=jG h.1.inn;intro n
 induction n with
 |zero=>
  intro k hk _;obtain rfl:k=0:=by omega
  have z:GM ws ((range 24).filter q) P 0=0:=by
   have le:GM ws ((range 24).filter q) P 0≤sQ (λ_:Wk=>cL false 0) ws:=iO λw _=>by
    cases c:gB ((range 24).filter q) P 0 w with
    |false=>exact M8
    |true=>
     obtain⟨a,b⟩:=km.mp c;obtain⟨⟨x,y⟩,e⟩:=Nm.mp a;have:=(b x (jm e).1).1;omega
   have z0:∀l:List Wk,sQ (λ_:Wk=>cL false 0) l=0:=λl=>by
    induction l with
    |nil=>rfl
    |cons x l ih=>show cL false 0+_=0;rw[ih,cM];grind
   rw[z0] at le;have ge:0≤GM ws ((range 24).filter q) P 0:=uG λw hw=>gU _ (nn w hw)
   grind
  rw[z];show(0:Rat)*_≤_*0;grind
 |succ n ih=>
  intro k hk hl;by_cases k0:k≤n
  ·exact ih k k0 hl
  obtain rfl:k=n+1:=by omega
  cases c:P n with
  |false=>
   have e:GM ws ((range 24).filter q) P (n+1)≤GM ws ((range 24).filter q) P n:=iO λw hw=>tS (nn w hw) λg=>by
    obtain⟨a,b⟩:=km.mp g;refine km.mpr ⟨a,λi hi=>?_⟩;obtain⟨x,y⟩:=b i hi;refine⟨?_,y⟩;by_cases z:i=n
    ·rw[z,c] at y;cases y
    ·omega
   have e2:=Ou e (OV lp);have i1:=ih n (LN _) (by omega);rw[Nj (n:=n),fJ];show _≤_*(_+(cL (P n) 1+0));rw[c,cM];grind
  |true=>
   obtain⟨x,x1,x2,x3⟩:=me P (n+1);have xn:x≤n:=by
    by_cases z:x=n+1
    ·subst z;rcases x3 with y|y
     ·omega
     ·rw[show n+1-1=n by omega,c] at y;cases y
    ·omega
   have e:GM ws ((range 24).filter q) P (n+1)≤GM ws ((range 24).filter q) P x+SM ws ((range 24).filter q) (x,n):=by
    unfold GM SM;rw[←fj];refine iO λw hw=>?_
    have w0:=nn w hw;have n1:=gU (gB ((range 24).filter q) P x w) w0;have n2:=gU (d8 ((range 24).filter q) (x,n) w) w0
    cases g:gB ((range 24).filter q) P (n+1) w with
    |false=>rw[cM];grind
    |true=>
     obtain⟨a,b⟩:=km.mp g;obtain⟨⟨u,v⟩,eu⟩:=Nm.mp a;obtain⟨m1,m2,bd⟩:=jm eu;by_cases z:v<x
     ·have:gB ((range 24).filter q) P x w=true:=km.mpr ⟨a,λi hi=>⟨by have:=bd i hi;omega,(b i hi).2⟩⟩;rw[this,dN];grind
     ·have xu:x≤u:=by
       apply P9;intro nu;have m:=BS eu (i:=x-1) (by omega) (by omega);have y:=(b _ m).2;rcases x3 with y'|y'
       ·omega
       ·rw[y'] at y;cases y
      have vn:=(b v m2).1;have:d8 ((range 24).filter q) (x,n) w=true:=by
       rw[At eu,ME,decide_eq_true_iff,decide_eq_true_iff];exact⟨xu,by show v≤n;omega⟩
      rw[this,dN];grind
   have i1:=ih x xn (by omega);have t1:=xj ok h (r:=(x,n)) ⟨xn,by show n<_;omega⟩;obtain⟨d,hd⟩:∃d,n+1=x+d:=⟨n+1-x,by omega⟩;have r:=sX (P:=P) (x:=x) d λi a b=>x2 i a (by omega)
   rw[←hd] at r;rw[r];have ld:(bK (x,n):Rat)=(d:Rat):=by
    have:bK (x,n)=(d:Int):=by show(n:Int)-(x:Int)+1=_;omega
    rw[this,Oq]
   rw[ld] at t1;have e2:=Ou e (OV lp);generalize GM ws ((range 24).filter q) P (n+1)=g1 at *;generalize GM ws ((range 24).filter q) P x=g0 at *;generalize SM ws ((range 24).filter q) (x,n)=s1 at *;generalize SM ws ((range 24).filter q) p=sp at *;generalize (bK p:Rat)=l at *;generalize sQ (λt=>cL (P t) 1) (range x)=c0 at *;generalize (d:Rat)=dd at *;grind
theorem FP(ok:∀w∈ws,bT w)(h:so ws ((range 24).filter q) p)(hA:∀t,t<24->q t=false->A t=true):(FM ws A-FM ws (λt=>!q t))*(bK p:Rat)≤SM ws ((range 24).filter q) p*A8 (λt=>q t&&A t):=by
 have g:=Il ok h (λi=>A (((range 24).filter q).getD i 0)) _ _ (LN _) (LN ((range 24).filter q).length);rw[AO];have e:FM ws A=FM ws (λt=>!q t)+GM ws ((range 24).filter q) (λi=>A (((range 24).filter q).getD i 0)) ((range 24).filter q).length:=by
  unfold FM GM;rw[←fj];refine aY λw _=>?_
  have wi:=jV (q:=q) (w:=w)
  cases c:g8 (λt=>!q t) w with
  |true=>
   have g0:gB ((range 24).filter q) (λi=>A (((range 24).filter q).getD i 0)) ((range 24).filter q).length w=false:=by
    unfold gB;rw[wi,c];rfl
   have a1:g8 A w=true:=gz (λt ht e=>hA t ht (by simpa using e)) c;rw[g0,a1,dN,cM];grind
  |false=>
   rw[c] at wi;have eq:g8 A w=gB ((range 24).filter q) (λi=>A (((range 24).filter q).getD i 0)) ((range 24).filter q).length w:=by
    rw[M6,km,eG];constructor
    ·intro z;refine⟨wi,λi hi=>?_⟩;obtain⟨li,wl⟩:=fz.mp hi;refine⟨li,?_⟩;have m:=Nh li;rw[ax 0 (LL li)] at wl ⊢;exact z _ (LW.mp (Mb.mp m).1) wl
    ·rintro⟨_,z⟩ t ht e
     cases cq:q t with
     |false=>exact hA t ht cq
     |true=>
      obtain⟨i,li,ei⟩:=MM.mp (Mb.mpr ⟨LW.mpr ht,cq⟩);have gd:((range 24).filter q).getD i 0=t:=by rw[ax 0 (LL li)];exact ei
      have y:=(z i (fz.mpr ⟨li,by rw[gd];exact e⟩)).2;rw[gd] at y;exact y
   rw[eq,cM];grind
 rw[e];grind
def A7(ws:List Wk):List Ly->Nat->Option R
 | [],_=>none
 |y::r,t=>if y.1.contains t then some (d9 ws y) else A7 ws r t
theorem lU(ws:List Wk)(y:Ly)(r:List Ly)(t:Nat):A7 ws (y::r) t=if y.1.contains t then some (d9 ws y) else A7 ws r t:=by rw[A7]
def lT(ws:List Wk)(lys:List Ly)(t:Nat):Rat:=match A7 ws lys t with
 |none=>0
 |some r=>val r
theorem uy(ws:List Wk)(t:Nat):lT ws [] t=0:=Z
theorem lS(ws:List Wk)(y:Ly)(r:List Ly)(t:Nat):lT ws (y::r) t=if y.1.contains t then val (d9 ws y) else lT ws r t:=by
 unfold lT;rw[lU]
 cases y.1.contains t<;>rfl
theorem xM(h:g7 ws ls lys):(A7 ws lys t).isSome=true->t∈ls:=by
 induction h with
 |nil z=>intro e;cases e
 | @cons ls p r h tl ih=>
  intro e;rw[lU] at e
  cases c:(fX ws ls p).1.contains t with
  |true=>exact QX (PM (show t∈(ls.drop p.1).take (p.2+1-p.1) from M5.mp c))
  |false=>
   rw[c] at e;exact(Mb.mp (ih e)).1
theorem qU(r:R)(d:R):∀(ts:List Nat) (ss:List R) (t:Nat),t<ss.length->(gL r ss ts).getD t d=if ts.contains t then r else ss.getD t d
 | [],ss,t,_=>rfl
 |u::ts,ss,t,h=>by
  show(gL r (ss.set u r) ts).getD t d=_;rw[qU r d ts (ss.set u r) t (by rw[OP];exact h),OF]
  cases c:ts.contains t with
  |true=>simp
  |false=>
   by_cases z:t=u
   ·subst z;simp[Mi,h]
   ·have z':¬u=t:=λq=>z q.symm
    simp[Mi,z,z',NL]
theorem Bi(h:g7 ws ls lys):∀(ss:List R) (t:Nat) (d:R),t<ss.length->(lys.foldl (λss y=>gL (d9 ws y) ss y.1) ss).getD t d=(A7 ws lys t).getD (ss.getD t d):=by
 induction h with
 |nil z=>intro ss t d _;rfl
 | @cons ls p r h tl ih=>
  intro ss t d ht;rw[NM,ih _ t d (by rw[lW];exact ht),qU _ _ _ _ _ ht,lU]
  cases c:(fX ws ls p).1.contains t with
  |false=>rfl
  |true=>
   have:A7 ws r t=none:=by
    cases e:A7 ws r t with
    |none=>rfl
    |some x=>
     have m:=xM tl (t:=t) (by rw[e];rfl);have:=(Mb.mp m).2;rw[show(di ls p).contains t=true from c] at this
     cases this
   rw[this];rfl
theorem ju(h:g7 ws (range 24) lys)(ht:t<24)(d:R):val ((aR ws lys).getD t d)=lT ws lys t:=by
 unfold aR;rw[Bi h _ t d (by rw[Pw];exact ht)];unfold lT
 cases A7 ws lys t with
 |some r=>rfl
 |none=>
  show val ((MC 24 ((0,1):R)).getD t d)=0;rw[ax d (show(MC 24 ((0,1):R))[t]?=some (0,1) by rw[O8,if_pos ht])];exact gJ
theorem CD(ok:∀w∈ws,bT w)(ls:List Nat)(p:Pl):∀r∈gE ws (fX ws ls p),kr r:=by
 intro r hr;rw[AS] at hr;obtain⟨w,hw,rfl⟩:=Mc.mp hr;exact(ok w (Mb.mp hw).1).am.wf.red
theorem Cw(hp:gH ls.length p):(((di ls p).length:Nat):Rat)=(bK p:Rat):=by
 have h1:=hp.1;have h2:=hp.2;have e:(di ls p).length=p.2+1-p.1:=by unfold di;rw[Of,PD];omega
 have:bK p=(((di ls p).length:Nat):Int):=by rw[e];unfold bK;omega
 rw[this,Oq]
theorem o4(ok:∀w∈ws,bT w)(hp:gH ls.length p):val (d9 ws (fX ws ls p))*(bK p:Rat)=SM ws ls p:=by
 obtain⟨rd,e⟩:=kY (CD ok ls p);have lp:=jG hp;have cl:=Cw hp;have pos:(0:Int)<(((fX ws ls p).1.length:Nat):Int):=by
  refine Ny.mp ?_;rw[Oq];show((0:Int):Rat)<(((di ls p).length:Nat):Rat);rw[cl];exact lp
 unfold d9;rw[vt rd.pos pos,e,Bd];have v1:val ((1,(((fX ws ls p).1.length:Nat):Int)):R)=1/(bK p:Rat):=by
  unfold val;show((1:Int):Rat)/((((di ls p).length:Nat):Int):Rat)=_;rw[Oq,cl];rfl
 rw[v1];generalize SM ws ls p=s at *;generalize (bK p:Rat)=l at *;have:l≠0:=λz=>by rw[z] at lp;exact absurd lp (by decide +kernel)
 grind
theorem Ie(ok:∀w∈ws,bT w)(ls:List Nat)(p:Pl):0≤SM ws ls p:=uG λw hw=>gU _ (se ok w hw)
theorem DC(ok:∀w∈ws,bT w)(hp:gH ls.length p):0≤val (d9 ws (fX ws ls p)):=by
 have e:=o4 ok hp;have s:=Ie ok ls p;have lp:=jG hp;rw[←e] at s;generalize val (d9 ws (fX ws ls p))=d at *;generalize (bK p:Rat)=l at *;by_cases z:0≤d
 ·exact z
 ·have z':d<0:=RZ.mp z;have:=OL z' lp;grind
theorem DE(ok:∀w∈ws,bT w)(h:g7 ws ls lys)(t:Nat):0≤lT ws lys t:=by
 induction h with
 |nil z=>exact M8
 | @cons ls p r h tl ih=>
  rw[lS]
  cases c:(fX ws ls p).1.contains t with
  |true=>exact DC ok h.1.inn
  |false=>exact ih
theorem Aw(ok:∀w∈ws,bT w)(h:so ws ((range 24).filter q) p)(hA:∀t,t<24->q t=false->A t=true):FM ws A-FM ws (λt=>!q t)≤val (d9 ws (fX ws ((range 24).filter q) p))*A8 (λt=>q t&&A t):=by
 have g:=FP ok h hA;have e:=o4 ok h.1.inn;have lp:=jG h.1.inn;rw[←e] at g;generalize FM ws A-FM ws (λt=>!q t)=x at *;generalize val (d9 ws (fX ws ((range 24).filter q) p))=d at *;generalize A8 (λt=>q t&&A t)=c at *;generalize (bK p:Rat)=l at *;by_cases z:x≤d*c
 ·exact z
 ·have z':d*c<x:=RZ.mp z;have:=OL z' lp;grind
theorem uS:(di ((range 24).filter q) p).contains t=true->q t=true:=λh=>by
 have:=QX (PM (show t∈(((range 24).filter q).drop p.1).take (p.2+1-p.1) from M5.mp h));exact(Mb.mp this).2
theorem vm(ok:∀w∈ws,bT w):FM ws (λ_=>false)=0:=by
 have e:FM ws (λ_=>false)=sQ (λ_:Wk=>0*(0:Rat)) ws:=aY λw hw=>by
  have:g8 (λ_=>false) w=false:=by
   cases c:g8 (λ_=>false) w with
   |false=>rfl
   |true=>
    have o:=ok w hw;have l1:=o.le;have l2:=o.lt;have:=eG.mp c w.1 (by omega) (by unfold fu;rw[decide_eq_true (LN _),decide_eq_true l1];rfl)
    cases this
  rw[this,cM];grind
 rw[e,eO];grind
theorem DD(ok:∀w∈ws,bT w)(h:g7 ws ls lys):∀(q:Nat->Bool),ls=(range 24).filter q->sQ (λt=>cL (q t) (lT ws lys t)) (range 24)=FM ws (λ_=>true)-FM ws (λt=>!q t):=by
 induction h with
 | @nil ls z=>
  intro q e;subst e;have e:FM ws (λ_=>true)=FM ws (λu=>!q u):=aY λw hw=>by
   have n:=NN.mp z w hw;rw[jV] at n;have i0:g8 (λt=>!q t) w=true:=by simpa using n
   rw[i0,gz (λ_ _ _=>Z) i0]
  rw[e];have e2:sQ (λt=>cL (q t) (lT ws [] t)) (range 24)=sQ (λ_:Nat=>0*(0:Rat)) (range 24):=aY λt _=>by
   rw[uy]
   cases q t with
   |true=>rw[dN];grind
   |false=>rw[cM];grind
  rw[e2,eO];grind
 | @cons ls p r h tl ih=>
  intro q e;subst e;have hp:gH ((range 24).filter q).length p:=h.1.inn;have i1:=ih (nx q p) (pO q p);have nF:=Ji (ws:=ws) hp;have nC:=Ft hp;have sv:=o4 ok hp;have e2:sQ (λt=>cL (q t) (lT ws (fX ws ((range 24).filter q) p::r) t)) (range 24)=sQ (λt=>cL (nx q p t) (lT ws r t)+val (d9 ws (fX ws ((range 24).filter q) p))*cL (q t&&!nx q p t) 1) (range 24):=aY λt ht=>by
   rw[lS];have n:nx q p t=(!(di ((range 24).filter q) p).contains t&&q t):=Z;have lf:=uS (q:=q) (p:=p) (t:=t);rw[show(fX ws ((range 24).filter q) p).1.contains t=(di ((range 24).filter q) p).contains t from Z]
   cases a:(di ((range 24).filter q) p).contains t with
   |true=>
    rw[a] at n lf;rw[lf Z,n];show val _=0+val _*1;grind
   |false=>
    rw[a] at n;rw[n]
    cases q t with
    |true=>show lT ws r t=lT ws r t+_*0;grind
    |false=>show(0:Rat)=0+_*0;grind
  rw[e2,fj,i1,eO];have:sQ (λt=>cL (q t&&!nx q p t) 1) (range 24)=(bK p:Rat):=nC;rw[this,sv,nF];grind
theorem CQ(ws:List Wk):FM ws (λ_=>true)=sQ qj ws:=aY λw _=>by
 have:g8 (λ_=>true) w=true:=eG.mpr λ_ _ _=>Z
 rw[this];rfl
theorem cap(ok:∀w∈ws,bT w)(h:g7 ws ls lys):∀(q A:Nat->Bool),ls=(range 24).filter q->(∀t,t<24->q t=false->A t=true)->FM ws A-FM ws (λt=>!q t)≤sQ (λt=>cL (q t&&A t) (lT ws lys t)) (range 24):=by
 induction h with
 | @nil ls z=>
  intro q A e hA;subst e;have e:FM ws (λ_=>true)=FM ws (λu=>!q u):=aY λw hw=>by
   have n:=NN.mp z w hw;rw[jV] at n;have i0:g8 (λt=>!q t) w=true:=by simpa using n
   rw[i0,gz (λ_ _ _=>Z) i0]
  have m:=CP (se ok) (A:=A) (A':=λ_=>true) (λ_ _ _=>Z);have nn:0≤sQ (λt=>cL (q t&&A t) (lT ws [] t)) (range 24):=uG λt _=>gU _ (by rw[uy];exact M8)
  rw[e] at m;grind
 | @cons ls p r h tl ih=>
  intro q A e hA;subst e;have i1:=ih (nx q p) (λt=>A t||!nx q p t) (pO q p) (λt _ hn=>by
   show(A t||!nx q p t)=true;rw[hn];exact NS _)
  have g:=Aw ok h (A:=λt=>A t&&!nx q p t) (λt ht hq=>by
   show(A t&&!nx q p t)=true;rw[hA t ht hq];unfold nx;rw[hq,Nn];rfl)
  have sup:=A4 (se ok) A (λt=>!nx q p t);have e2:sQ (λt=>cL (q t&&A t) (lT ws (fX ws ((range 24).filter q) p::r) t)) (range 24)=sQ (λt=>cL (nx q p t&&(A t||!nx q p t)) (lT ws r t)+val (d9 ws (fX ws ((range 24).filter q) p))*cL (q t&&(A t&&!nx q p t)) 1) (range 24):=aY λt ht=>by
   rw[lS];have n:nx q p t=(!(di ((range 24).filter q) p).contains t&&q t):=Z;have lf:=uS (q:=q) (p:=p) (t:=t);rw[show(fX ws ((range 24).filter q) p).1.contains t=(di ((range 24).filter q) p).contains t from Z]
   cases a:(di ((range 24).filter q) p).contains t with
   |true=>
    rw[a] at n lf;rw[lf Z,n]
    cases A t with
    |true=>show val _=0+val _*1;grind
    |false=>show(0:Rat)=0+val _*0;grind
   |false=>
    rw[a] at n;rw[n]
    cases q t with
    |true=>
     cases A t with
     |true=>show lT ws r t=lT ws r t+_*0;grind
     |false=>show(0:Rat)=0+_*0;grind
    |false=>show(0:Rat)=0+_*0;grind
  rw[e2,fj,eO];have c:sQ (λt=>cL (q t&&(A t&&!nx q p t)) 1) (range 24)=A8 (λt=>q t&&(A t&&!nx q p t)):=Z;rw[c];grind
abbrev Ls:=Nat->Rat
def gr(L:Ls)(i:Nat)(x:Rat):Ls:=λj=>if j=i then x else L j
def mn(a b:Rat):Rat:=if a≤b then a else b
def cH(W:Nat->Bool)(st:Ls×Rat)(i:Nat):Ls×Rat:=if W i=true then(gr st.1 i (st.1 i-mn (st.1 i) st.2),st.2-mn (st.1 i) st.2) else st
def eK(W:Nat->Bool)(ord:List Nat)(L:Ls)(s:Rat):Ls×Rat:=ord.foldl (cH W) (L,s)
theorem Fz(a b:Rat):mn a b≤a:=by
 unfold mn
 split
 ·exact M8
 ·rename_i h;exact OV (RZ.mp h)
theorem Af(a b:Rat):mn a b≤b:=by
 unfold mn
 split
 ·assumption
 ·exact M8
theorem Hv(ha:0≤a)(hb:0≤b):0≤mn a b:=by
 unfold mn
 split
 ·exact ha
 ·exact hb
theorem Dc(a b:Rat):mn a b=a∨mn a b=b:=by
 unfold mn
 split
 ·exact .inl Z
 ·exact .inr Z
structure wU(L:Ls)(s:Rat)(st:Ls×Rat):Prop where
 nn:∀i,0≤L i->0≤st.1 i
 le:∀i,st.1 i≤L i
 rm:0≤st.2
theorem wU.step{W:Nat->Bool}{L:Ls}{s:Rat}{st:Ls×Rat}(hL:∀i,0≤L i)(h:wU L s st)(i:Nat):wU L s (cH W st i):=by
 unfold cH
 split
 ·have a1:=Fz (st.1 i) st.2;have a2:=Af (st.1 i) st.2;have a3:=Hv (h.nn i (hL i)) h.rm;refine⟨λj _=>?_,λj=>?_,?_⟩
  ·show 0≤gr st.1 i _ j;unfold gr
   split
   ·grind
   ·exact h.nn j (hL j)
  ·show gr st.1 i _ j≤L j;unfold gr;have:=h.le j
   split
   ·rename_i e;subst e;grind
   ·exact this
  ·show 0≤st.2-mn (st.1 i) st.2;grind
 ·exact h
theorem wU.fold{W:Nat->Bool}{L:Ls}{s:Rat}(hL:∀i,0≤L i):∀{ord:List Nat} {st:Ls×Rat},wU L s st->wU L s (ord.foldl (cH W) st)
 | [],_,h=>h
 |i::ord,st,h=>wU.fold hL (ord:=ord) (h.step hL i)
theorem lM{st:Ls×Rat}(h:j≠i):(cH W st i).1 j=st.1 j:=by
 unfold cH
 split
 ·show gr st.1 i _ j=_;unfold gr;rw[if_neg h]
 ·rfl
theorem mV{W:Nat->Bool}{j:Nat}:∀{ord:List Nat} {st:Ls×Rat},j∉ord->(ord.foldl (cH W) st).1 j=st.1 j
 | [],_,_=>rfl
 |i::ord,st,h=>by
  rw[NM,mV (λz=>h (L3 _ z)),lM (λz=>h (by rw[z];exact LY))]
theorem xE{st:Ls×Rat}(hi:i<n):sQ (cH W st i).1 (range n)-(cH W st i).2=sQ st.1 (range n)-st.2:=by
 unfold cH
 split
 ·show sQ (gr st.1 i (st.1 i-mn (st.1 i) st.2)) (range n)-(st.2-mn (st.1 i) st.2)=_;have key:∀(m:Nat) (x:Rat),sQ (gr st.1 i x) (range m)=sQ st.1 (range m)+(if i<m then x-st.1 i else 0):=by
   intro m x
   induction m with
   |zero=>show(0:Rat)=0+(if i<0 then _ else 0);rw[if_neg (NW _)];grind
   |succ m ih=>
    rw[Nj,fJ,fJ,ih];show sQ st.1 (range m)+_+(gr st.1 i x m+0)=sQ st.1 (range m)+(st.1 m+0)+_;unfold gr;by_cases c:i<m
    ·rw[if_pos c,if_neg (by omega),if_pos (by omega)];grind
    ·rw[if_neg c];by_cases e:m=i
     ·subst e;rw[if_pos Z,if_pos (by omega)];grind
     ·rw[if_neg e,if_neg (by omega)];grind
  rw[key,if_pos hi];grind
 ·rfl
theorem rK{W:Nat->Bool}{n:Nat}:∀{ord:List Nat} {st:Ls×Rat},(∀i∈ord,i<n)->sQ (ord.foldl (cH W) st).1 (range n)-(ord.foldl (cH W) st).2=sQ st.1 (range n)-st.2
 | [],_,_=>rfl
 |i::ord,st,h=>by
  rw[NM,rK (λj hj=>h j (L3 _ hj)),xE (h i LY)]
theorem vA{st:Ls×Rat}(h0:0≤st.1 i)(hr:st.2=0):(cH W st i).1=st.1/\(cH W st i).2=0:=by
 unfold cH
 split
 ·have e:mn (st.1 i) st.2=0:=by
   rw[hr];rcases Dc (st.1 i) 0 with z|z
   ·have:=Af (st.1 i) 0;rw[z] at this ⊢;grind
   ·exact z
  rw[e];refine⟨?_,?_⟩
  ·show gr st.1 i (st.1 i-0)=st.1
   funext j
   unfold gr
   split
   ·rename_i z;subst z;grind
   ·rfl
  ·show st.2-0=0;grind
 ·exact⟨Z,hr⟩
theorem oz{W:Nat->Bool}:∀{ord:List Nat} {st:Ls×Rat},(∀i,0≤st.1 i)->st.2=0->(ord.foldl (cH W) st).1=st.1/\(ord.foldl (cH W) st).2=0
 | [],_,_,hr=>⟨Z,hr⟩
 |i::ord,st,h0,hr=>by
  obtain⟨e1,e2⟩:=vA (W:=W) (h0 i) hr;rw[NM];have:=oz (W:=W) (ord:=ord) (st:=cH W st i) (by rw[e1];exact h0) e2;rw[e1] at this;exact this
theorem nQ(hL:∀j,0≤L j)(hs:0≤s)(nd:(l1++i:: l2).Nodup)(hW:W i=true)(hl:0<(eK W (l1++i:: l2) L s).1 i):
  (eK W (l1++i:: l2) L s).2=0/\∀j,j∉l1->j≠i->(eK W (l1++i:: l2) L s).1 j=L j:=by
 have e:eK W (l1++i::l2) L s=l2.foldl (cH W) (cH W (l1.foldl (cH W) (L,s)) i):=by
  unfold eK;rw[Oi,NM]
 have i0:wU L s (L,s):=⟨λ_ h=>h,λ_=>M8,hs⟩;have i1:=i0.fold (W:=W) hL (ord:=l1);have i2:=i1.step (W:=W) hL i;obtain⟨n1,n2,n3⟩:=Nd.mp nd;have il2:i∉l2:=(MU.mp n2).1;rw[e] at hl ⊢;rw[mV il2] at hl;have offA:∀j,j∉l1->(l1.foldl (cH W) (L,s)).1 j=L j:=λj hj=>mV hj
 generalize l1.foldl (cH W) (L,s)=A at *;have room:(cH W A i).2=0:=by
  unfold cH at hl ⊢;rw[if_pos hW] at hl ⊢;show A.2-mn (A.1 i) A.2=0;have hl':0<A.1 i-mn (A.1 i) A.2:=by
   have:0<gr A.1 i (A.1 i-mn (A.1 i) A.2) i:=hl;unfold gr at this;rw[if_pos Z] at this;exact this
  rcases Dc (A.1 i) A.2 with z|z
  ·rw[z] at hl';grind
  ·rw[z];grind
 obtain⟨e1,e2⟩:=oz (W:=W) (ord:=l2) (st:=cH W A i) (λj=>i2.nn j (hL j)) room;refine⟨e2,λj hj hji=>?_⟩;rw[e1,lM hji];exact offA j hj
theorem qA{W:Nat->Bool}{i:Nat}(h:W i=false):∀{ord:List Nat} {st:Ls×Rat},(ord.foldl (cH W) st).1 i=st.1 i
 | [],_=>rfl
 |j::ord,st=>by
  rw[NM,qA h (ord:=ord)];by_cases c:i=j
  ·subst c;unfold cH;rw[if_neg (by rw[h];exact L5)]
  ·exact lM c
theorem pM{α β:Type}(f:α->β->Rat)(m:List β):∀l:List α,sQ (λx=>sQ (λy=>f x y) m) l=sQ (λy=>sQ (λx=>f x y) l) m
 | []=>by
  show(0:Rat)=sQ (λ_=>(0:Rat)) m;have e:sQ (λ_:β=>(0:Rat)) m=sQ (λy:β=>0*((λ_=>(0:Rat)) y)) m:=aY λ_ _=>by grind
  rw[e,eO];grind
 |x::l=>by
  show sQ (λy=>f x y) m+sQ (λx=>sQ (λy=>f x y) m) l=sQ (λy=>f x y+sQ (λx=>f x y) l) m;rw[pM f m l,fj]
theorem Eg(hi:i<n)(c:Rat):sQ (λj=>if j=i then c else 0) (range n)=c:=by
 have key:∀m:Nat,sQ (λj=>if j=i then c else 0) (range m)=if i<m then c else 0:=by
  intro m
  induction m with
  |zero=>show(0:Rat)=_;rw[if_neg (NW _)]
  |succ m ih=>
   rw[Nj,fJ,ih];show _+((if m=i then c else 0)+0)=_;by_cases e:m=i
   ·subst e;rw[if_neg (Na _),if_pos Z,if_pos (lt_succ_self _)];grind
   ·by_cases l:i<m
    ·rw[if_pos l,if_neg e,if_pos (by omega)];grind
    ·rw[if_neg l,if_neg e,if_neg (by omega)];grind
 rw[key,if_pos hi]
theorem uF(g:Nat->Rat)(b:Nat):∀N,b≤N->sQ (λt=>cL (decide (b≤t)) (g t-g (t+1))) (range N)=g b-g N:=by
 intro N
 induction N with
 |zero=>intro h;rw[show b=0 by omega];show(0:Rat)=_;grind
 |succ N ih=>
  intro h;rw[Nj,fJ];show _+(cL (decide (b≤N)) (g N-g (N+1))+0)=_;by_cases c:b≤N
  ·rw[ih c,decide_eq_true c,dN];grind
  ·have e:b=N+1:=by omega
   have z:sQ (λt=>cL (decide (b≤t)) (g t-g (t+1))) (range N)=sQ (λ_:Nat=>0*(0:Rat)) (range N):=aY λt ht=>by
    have:=LW.mp ht;rw[decide_eq_false (by omega),cM];grind
   rw[z,eO,decide_eq_false c,cM,e];grind
theorem Bs(g:Nat->Rat)(d:Nat):∀k,sQ (λt=>cL (decide (t≤d)) (g t)) (range (d+1+k))=sQ g (range (d+1)):=by
 intro k
 induction k with
 |zero=>exact aY λt ht=>by have:=LW.mp ht;rw[decide_eq_true (by omega),dN]
 |succ k ih=>
  rw[show d+1+(k+1)=(d+1+k)+1 by omega,Nj,fJ,ih];show _+(cL (decide (d+1+k≤d)) _+0)=_;rw[decide_eq_false (by omega),cM];grind
def Wt(f l:Nat->Nat)(t i:Nat):Bool:=decide (f i≤t)&&decide (t≤l i)
def cS(ord:List Nat)(f l:Nat->Nat)(a:Ls)(s:Nat->Rat):Nat->Ls
 |0=>a
 |t+1=>(eK (Wt f l t) ord (cS ord f l a s t) (s t)).1
structure eN(n:Nat)(ord:List Nat)(f l:Nat->Nat)(a:Ls)(s:Nat->Rat):Prop where
 nd:ord.Nodup
 mem:∀i,i∈ord↔i<n
 srt:ord.Pairwise (λi j=>l i≤l j)
 win:∀i,i<n->f i≤l i/\l i<24
 an:∀i,0≤a i
 sn:∀t,0≤s t
 cap:∀b d,b≤d->d<24->sQ (λj=>cL (decide (b≤f j)&&decide (l j≤d)) (a j)) (range n)≤sQ (λt=>cL (decide (t≤d)) (cL (decide (b≤t)) (s t))) (range 24)
section
variable {n:Nat}{ord:List Nat}{f l:Nat->Nat}{a:Ls}{s:Nat->Rat}
theorem eN.sti(h:eN n ord f l a s)(hL:∀i,0≤L i)(t:Nat):wU L (s t) (eK (Wt f l t) ord L (s t)):=wU.fold hL ⟨λ_ h=>h,λ_=>M8,h.sn t⟩
theorem eN.nn(h:eN n ord f l a s):∀t i,0≤cS ord f l a s t i
 |0,i=>h.an i
 |t+1,i=>(h.sti (h.nn t) t).nn i (h.nn t i)
theorem eN.dn(h:eN n ord f l a s)(t i:Nat):cS ord f l a s (t+1) i≤cS ord f l a s t i:=(h.sti (h.nn t) t).le i
theorem eN.dn'(h:eN n ord f l a s)(t i:Nat):∀k,cS ord f l a s (t+k) i≤cS ord f l a s t i
 |0=>M8
 |k+1=>Rat.le_trans (h.dn (t+k) i) (h.dn' t i k)
theorem eN.out(h:eN n ord f l a s)(hw:Wt f l t i=false):cS ord f l a s (t+1) i=cS ord f l a s t i:=qA hw
theorem eN.sum(h:eN n ord f l a s)(t:Nat):sQ (λj=>cS ord f l a s t j-cS ord f l a s (t+1) j) (range n)=s t-(eK (Wt f l t) ord (cS ord f l a s t) (s t)).2:=by
 have q:=rK (W:=Wt f l t) (n:=n) (ord:=ord) (st:=(cS ord f l a s t,s t)) λi hi=>(h.mem i).mp hi
 have e:sQ (λj=>cS ord f l a s t j-cS ord f l a s (t+1) j) (range n)=sQ (cS ord f l a s t) (range n)-sQ (cS ord f l a s (t+1)) (range n):=by
  have e1:=fj (f:=λj=>cS ord f l a s t j-cS ord f l a s (t+1) j) (g:=cS ord f l a s (t+1)) (range n);have e2:sQ (λx=>cS ord f l a s t x-cS ord f l a s (t+1) x+cS ord f l a s (t+1) x) (range n)=sQ (cS ord f l a s t) (range n):=aY λx _=>by grind
  grind
 rw[e];have q':sQ (cS ord f l a s (t+1)) (range n)-(eK (Wt f l t) ord (cS ord f l a s t) (s t)).2=sQ (cS ord f l a s t) (range n)-s t:=q;grind
theorem eN.all_le(h:eN n ord f l a s)(t:Nat):sQ (λj=>cS ord f l a s t j-cS ord f l a s (t+1) j) (range n)≤s t:=by
 rw[h.sum];have:=(h.sti (h.nn t) t).rm;grind
theorem eN.full(h:eN n ord f l a s)(hi:i<n)(hw:Wt f l t i=true)(hl:0<cS ord f l a s (t+1) i):sQ (λj=>cL (decide (l j≤l i)) (cS ord f l a s t j-cS ord f l a s (t+1) j)) (range n)=s t:=by
 obtain⟨l1,l2,e⟩:=Qq ((h.mem i).mpr hi);have nd:=h.nd;have srt:=h.srt;rw[e] at nd srt;have hl':0<(eK (Wt f l t) (l1++i::l2) (cS ord f l a s t) (s t)).1 i:=by rw[←e];exact hl
 obtain⟨r0,keep⟩:=nQ (h.nn t) (h.sn t) nd hw hl';rw[←e] at r0 keep;have sm:=h.sum t;rw[r0] at sm;have e2:sQ (λj=>cL (decide (l j≤l i)) (cS ord f l a s t j-cS ord f l a s (t+1) j)) (range n)=sQ (λj=>cS ord f l a s t j-cS ord f l a s (t+1) j) (range n):=aY λj _=>by
  by_cases c:l j≤l i
  ·rw[decide_eq_true c,dN]
  ·rw[decide_eq_false c,cM];have j1:j∉l1:=λz=>c ((Rh.mp srt).2.2 j z i LY)
   have j2:j≠i:=λz=>c (by rw[z];exact LN _)
   have k:cS ord f l a s (t+1) j=cS ord f l a s t j:=keep j j1 j2;rw[k];grind
 rw[e2,sm];grind
theorem Jn(h:eN n ord f l a s)(hi:i<n):cS ord f l a s 24 i=0:=by
 by_cases z:cS ord f l a s 24 i=0
 ·exact z
 exfalso;have pos:0<cS ord f l a s 24 i:=by
  have:=h.nn 24 i;grind
 obtain⟨w1,w2⟩:=h.win i hi;have later:∀t,t≤24->0<cS ord f l a s t i:=λt ht=>by
  have:=h.dn' t i (24-t);rw[show t+(24-t)=24 by omega] at this;grind
 let P:Nat->Bool:=λt=>decide (sQ (λj=>cL (decide (l j≤l i)) (cS ord f l a s t j-cS ord f l a s (t+1) j)) (range n)=s t)
 have Pin:∀t,f i≤t->t≤l i->P t=true:=λt h1 h2=>decide_eq_true (h.full hi (by unfold Wt;rw[decide_eq_true h1,decide_eq_true h2];rfl) (later (t+1) (by omega)))
 obtain⟨b,hb,hrun,hend⟩:=me P (l i+1);have bf:b≤f i:=by
  by_cases c:b≤f i
  ·exact c
  ·rcases hend with e|e
   ·omega
   ·rw[Pin (b-1) (by omega) (by omega)] at e;cases e
 have early:∀j,j<n->l j≤l i->f j<b->cS ord f l a s b j-cS ord f l a s (l i+1) j=0:=λj hj h1 h2=>by
  have e:P (b-1)=false:=by
   rcases hend with e|e
   ·omega
   ·exact e
  by_cases c:b-1≤l j
  ·have z0:cS ord f l a s b j=0:=by
    by_cases zz:cS ord f l a s b j=0
    ·exact zz
    exfalso;have nb:=h.nn b j;have fl:=h.full (t:=b-1) hj (by unfold Wt;rw[decide_eq_true (show f j≤b-1 by omega),decide_eq_true c];rfl) (by rw[show b-1+1=b by omega];grind);have m:sQ (λk=>cL (decide (l k≤l j)) (cS ord f l a s (b-1) k-cS ord f l a s (b-1+1) k)) (range n)≤sQ (λk=>cL (decide (l k≤l i)) (cS ord f l a s (b-1) k-cS ord f l a s (b-1+1) k)) (range n):=iO λk _=>tS (by have:=h.dn (b-1) k;grind) λq=>decide_eq_true (by have:=of_decide_eq_true q;omega)
    have m2:sQ (λk=>cL (decide (l k≤l i)) (cS ord f l a s (b-1) k-cS ord f l a s (b-1+1) k)) (range n)≤sQ (λk=>cS ord f l a s (b-1) k-cS ord f l a s (b-1+1) k) (range n):=iO λk _=>by
     have:=h.dn (b-1) k
     cases decide (l k≤l i) with
     |true=>exact M8
     |false=>rw[cM];grind
    have m3:=h.all_le (b-1);have:P (b-1)=true:=decide_eq_true (by grind);rw[this] at e
    cases e
   have d1:=h.dn' b j (l i+1-b);rw[show b+(l i+1-b)=l i+1 by omega] at d1;have d2:=h.nn (l i+1) j;grind
  ·have st:∀k,cS ord f l a s (b+k) j=cS ord f l a s b j:=λk=>by
    induction k with
    |zero=>rfl
    |succ k ih=>
     rw[←ih];exact h.out (t:=b+k) (by unfold Wt;rw[decide_eq_false (show ¬b+k≤l j by omega),Nn])
   have:=st (l i+1-b);rw[show b+(l i+1-b)=l i+1 by omega] at this;rw[this];grind
 have tot:sQ (λt=>cL (decide (b≤t)) (s t)) (range (l i+1))=sQ (λj=>cL (decide (l j≤l i)) (cS ord f l a s b j-cS ord f l a s (l i+1) j)) (range n):=by
  have e1:sQ (λt=>cL (decide (b≤t)) (s t)) (range (l i+1))=sQ (λt=>sQ (λj=>cL (decide (l j≤l i)) (cL (decide (b≤t)) (cS ord f l a s t j-cS ord f l a s (t+1) j))) (range n)) (range (l i+1)):=aY λt ht=>by
   have tl:=LW.mp ht;by_cases c:b≤t
   ·rw[decide_eq_true c,dN,←of_decide_eq_true (hrun t c tl)];exact aY λj _=>by rw[dN]
   ·rw[decide_eq_false c,cM];have e:sQ (λj=>cL (decide (l j≤l i)) (cL false (cS ord f l a s t j-cS ord f l a s (t+1) j))) (range n)=sQ (λ_:Nat=>0*(0:Rat)) (range n):=aY λj _=>by
     rw[cM]
     cases decide (l j≤l i) with
     |true=>rw[dN];grind
     |false=>rw[cM];grind
    rw[e,eO];grind
  rw[e1,pM];exact aY λj _=>by
   cases decide (l j≤l i) with
   |true=>
    have:=uF (λt=>cS ord f l a s t j) b (l i+1) hb;rw[dN,←this];exact aY λt _=>by rw[dN]
   |false=>
    rw[cM];have e:sQ (λt=>cL false (cL (decide (b≤t)) (cS ord f l a s t j-cS ord f l a s (t+1) j))) (range (l i+1))=sQ (λ_:Nat=>0*(0:Rat)) (range (l i+1)):=aY λt _=>by rw[cM];grind
    rw[e,eO];grind
 have le:sQ (λj=>cL (decide (l j≤l i)) (cS ord f l a s b j-cS ord f l a s (l i+1) j)+(if j=i then cS ord f l a s (l i+1) i else 0)) (range n)≤sQ (λj=>cL (decide (b≤f j)&&decide (l j≤l i)) (a j)) (range n):=iO λj hj=>by
  have jn:=LW.mp hj;by_cases c1:l j≤l i
  ·rw[decide_eq_true c1,dN,RD];by_cases c2:b≤f j
   ·rw[decide_eq_true c2,dN];have d1:=h.dn' 0 j b;rw[OW] at d1;have d1':cS ord f l a s b j≤a j:=d1;have d2:=h.nn (l i+1) j;by_cases e:j=i
    ·subst e;rw[if_pos Z];grind
    ·rw[if_neg e];grind
   ·rw[decide_eq_false c2,cM,early j jn c1 (by omega),if_neg (λe=>c2 (by rw[e];exact bf))];grind
  ·rw[decide_eq_false c1,cM,Nn,cM,if_neg (λe=>c1 (by rw[e];exact LN _))];grind
 rw[fj,Eg hi,←tot] at le;have cp:=h.cap b (l i) (by omega) w2;have up:=Bs (λt=>cL (decide (b≤t)) (s t)) (l i) (24-(l i+1));rw[show l i+1+(24-(l i+1))=24 by omega] at up;rw[up] at cp;have:=later (l i+1) (by omega);grind
end
def dm(l:List R):Ls:=λj=>val (l.getD j (0,1))
theorem kB:val ((0,1):R)=0:=(lE (r:=(0,1)) (by decide)).mpr Z
theorem Fy(ha:fD a)(hb:fD b):mn (val a) (val b)=val (eJ a b):=by
 unfold eJ mn
 cases c:cX b a with
 |true=>
  rw[if_pos Z,if_neg];have:=(jp hb.bq.pos ha.bq.pos).mp c;exact RZ.mpr this
 |false=>
  rw[if_neg L5,if_pos];exact(ir hb.bq.pos ha.bq.pos).mp c
theorem Be(hi:i<l.length)(x:R):dm (l.set i x)=gr (dm l) i (val x):=by
 funext j
 unfold dm gr;rw[Mi,getElem?_set];by_cases c:j=i
 ·subst c;rw[if_pos Z,if_pos Z,if_pos hi];rfl
 ·rw[if_neg (λz=>c z.symm),if_neg c,←Mi]
theorem xD{ws:List Wk}{st:vo}(h:sq n st)(hi:i<n):(dm (bY ws t st i).1,val (bY ws t st i).2.1)=cH (λj=>fu (ws.getD j bG) t) (dm st.1,val st.2.1) i:=by
 have al:=de (n:=n) h.lf i;have e:=Fy al h.rm;have eL:dm st.1 i=val (st.1.getD i (0,1)):=Z;unfold bY cH;dsimp only;by_cases c:fu (ws.getD i bG) t=true
 ·rw[if_pos c];show _=(gr (dm st.1) i (dm st.1 i-mn (dm st.1 i) (val st.2.1)),val st.2.1-mn (dm st.1 i) (val st.2.1));rw[eL,e];by_cases z:eJ (st.1.getD i (0,1)) st.2.1=(0,1)
  ·rw[if_neg (λq=>q.2 z),z,kB];have e1:gr (dm st.1) i (val (st.1.getD i (0,1))-0)=dm st.1:=by
    funext j
    unfold gr
    split
    ·rename_i q;subst q;show _-0=val _;grind
    ·rfl
   rw[e1];have e2:val st.2.1-0=val st.2.1:=by grind
   rw[e2]
  ·rw[if_pos ⟨c,z⟩];have la:=mM al h.rm;show(dm (st.1.set i _),val (cI st.2.1 _))=_;rw[Be (by rw[h.len];exact hi),gq al.bq.pos la.bq.pos,gq h.rm.bq.pos la.bq.pos]
 ·rw[if_neg (λz=>c z.1),if_neg c]
theorem jL{ws:List Wk}{n t:Nat}:∀{ord:List Nat} {st:vo},sq n st->(∀i∈ord,i<n)->(dm (ord.foldl (bY ws t) st).1,val (ord.foldl (bY ws t) st).2.1)=ord.foldl (cH (λj=>fu (ws.getD j bG) t)) (dm st.1,val st.2.1)
 | [],_,_,_=>rfl
 |i::ord,st,h,hl=>by
  rw[NM,NM,←xD h (hl i LY)];exact jL (h.step (ws:=ws) (t:=t) (hl i LY)).1 λj hj=>hl j (L3 _ hj)
abbrev fW(ws:List Wk)(i:Nat):Nat:=(ws.getD i bG).1
abbrev aW(ws:List Wk):Ls:=dm (ws.map λw=>w.2.2)
theorem jC{ws:List Wk}{ord:List Nat}{ss:List R}(okw:∀w∈ws,bT w)(ho:∀i∈ord,i<ws.length)(hs:∀r∈ss,fD r):∀t,dm (aT ws ord ss t).1=cS ord (fW ws) (ba ws) (aW ws) (dm ss) t
 |0=>rfl
 |t+1=>by
  obtain⟨h,hl⟩:=eD okw ho hs t;have d:sq ws.length ((aT ws ord ss t).1,ss.getD t (0,1),[]):=⟨h.len,h.lf,de (n:=0) hs t,λp hp=>by cases hp⟩;have q:=jL (ws:=ws) (t:=t) d ho;have e:=congrArg Prod.fst q;show dm (ord.foldl (bY ws t) ((aT ws ord ss t).1,ss.getD t (0,1),[])).1=(eK (Wt (fW ws) (ba ws) t) ord (cS ord (fW ws) (ba ws) (aW ws) (dm ss) t) (dm ss t)).1;rw[←jC okw ho hs t];exact e
theorem ki{ws:List Wk}{es:List Ln}(rk:nk ws.length es):∀k,k≤ws.length->(aO ws es k).Nodup
 |0,_=>PZ
 |k+1,h=>by
  have oi:=dz (es:=es) rk k (by omega);show(aO ws es k++[_]).Nodup;rw[Nd];refine⟨ki rk k (by omega),MU.mpr ⟨by simp,PZ⟩,λa ha b hb z=>?_⟩;have m:=mF (ws:=ws) rk (oi.ne (by omega));rw[LP.mp hb] at z;subst z;exact(eE.mp m).2 ha
theorem pS(rk:nk ws.length es)(i:Nat):i∈aO ws es ws.length↔i<ws.length:=by
 have oi:=dz (es:=es) rk ws.length (LN _);refine⟨oi.lt i,λh=>?_⟩;by_cases c:i∈aO ws es ws.length
 ·exact c
 ·have:i∈cj ws.length (aO ws es ws.length):=eE.mpr ⟨h,c⟩;have l:=oi.wl;have e:(cj ws.length (aO ws es ws.length)).length=0:=by omega
  rw[Pj.mp e] at this
  cases this
theorem uI{ws:List Wk}{es:List Ln}(rk:nk ws.length es):∀k,k≤ws.length->(aO ws es k).Pairwise (λi j=>ba ws i≤ba ws j)/\∀i∈aO ws es k,∀j,j<ws.length->j∉aO ws es k->ba ws i≤ba ws j
 |0,_=>⟨.nil,λi hi=>absurd (show i∈([]:List Nat) from hi) (by simp)⟩
 |k+1,h=>by
  obtain⟨p,q⟩:=uI (es:=es) rk k (by omega);have oi:=dz (es:=es) rk k (by omega);have ne:=oi.ne (by omega);have m:=mF (ws:=ws) rk ne;have ml:∀j,j<ws.length->j∉aO ws es k->ba ws (gw ws es (cj ws.length (aO ws es k)))≤ba ws j:=λj h1 h2=>by
   have a:=LQ (k9 (ws:=ws) rk ne);exact(fM.mp (Mb.mp a).1).2 j (eE.mpr ⟨h1,h2⟩)
  refine⟨?_,λi hi j hj nj=>?_⟩
  ·show(aO ws es k++[_]).Pairwise _;rw[pairwise_append];exact⟨p,pairwise_singleton _ _,λa ha b hb=>by rw[LP.mp hb];exact q a ha _ (eE.mp m).1 (eE.mp m).2⟩
  ·have nj':j∉aO ws es k:=λz=>nj (MJ _ z)
   rcases Mh.mp (show i∈aO ws es k++[_] from hi) with z|z
   ·exact q i z j hj nj'
   ·rw[LP.mp z];exact ml j hj nj'
theorem FO(h:bT w)(b d:Nat)(hd:d<24):g8 (λt=>decide (b≤t)&&decide (t≤d)) w=(decide (b≤w.1)&&decide (w.2.1≤d)):=by
 have h1:=h.le;have h2:=h.lt;rw[M6,eG,ME,decide_eq_true_iff,decide_eq_true_iff];constructor
 ·intro q;have a:=q w.1 (by omega) (by unfold fu;rw[decide_eq_true (LN _),decide_eq_true h1];rfl);have c:=q w.2.1 h2 (by unfold fu;rw[decide_eq_true h1,decide_eq_true (LN _)];rfl);rw[ME,decide_eq_true_iff,decide_eq_true_iff] at a c;exact⟨a.1,c.2⟩
 ·rintro⟨q1,q2⟩ t ht it;unfold fu at it;rw[ME,decide_eq_true_iff,decide_eq_true_iff] at it;rw[ME,decide_eq_true_iff,decide_eq_true_iff];omega
theorem vj(h:i<ws.length):aW ws i=qj (ws.getD i bG):=by
 unfold aW dm qj;rw[ax (0,1) (show(ws.map λw=>w.2.2)[i]?=some ws[i].2.2 by rw[LX,LL h];rfl),ax bG (LL h)]
theorem tV(ok:∀w∈ws,bT w)(rk:nk ws.length es)(h:g7 ws (range 24) lys):eN ws.length (aO ws es ws.length) (fW ws) (ba ws) (aW ws) (dm (aR ws lys)) where
 nd:=ki rk _ (LN _)
 mem:=pS rk
 srt:=(uI rk _ (LN _)).1
 win:=λi hi=>by
  have o:=ok _ (Nh hi);unfold fW ba;rw[ax bG (LL hi)];exact⟨o.le,o.lt⟩
 an:=λi=>by
  by_cases c:i<ws.length
  ·rw[vj c];refine se ok _ ?_;rw[ax bG (LL c)];exact Nh c
  ·unfold aW dm;rw[Mi,MV (by rw[LO];omega)];show 0≤val ((0,1):R);rw[kB];exact M8
 sn:=λt=>by
  by_cases c:t<24
  ·show 0≤val ((aR ws lys).getD t (0,1));rw[ju h c];exact DE ok h t
  ·have e24:(aR ws lys).length=24:=by
    unfold aR;rw[gK];rfl
   unfold dm;rw[Mi,MV (by omega)];show 0≤val ((0,1):R);rw[kB];exact M8
 cap:=λb d hb hd=>by
  have c:=cap ok h (λ_=>true) (λt=>decide (b≤t)&&decide (t≤d)) (NC.mpr λ_ _=>Z).symm (λt _ z=>by cases z);have e0:FM ws (λt=>!(λ_=>true) t)=0:=vm ok;rw[e0] at c;have e1:FM ws (λt=>decide (b≤t)&&decide (t≤d))=sQ (λj=>cL (decide (b≤fW ws j)&&decide (ba ws j≤d)) (aW ws j)) (range ws.length):=by
   unfold FM;rw[k7 bG];exact aY λj hj=>by
    have jl:=LW.mp hj;rw[FO (by rw[ax bG (LL jl)];exact ok _ (Nh jl)) b d hd,vj jl];rfl
  have e2:sQ (λt=>cL (true&&(decide (b≤t)&&decide (t≤d))) (lT ws lys t)) (range 24)=sQ (λt=>cL (decide (t≤d)) (cL (decide (b≤t)) (dm (aR ws lys) t))) (range 24):=aY λt ht=>by
   have tl:=LW.mp ht;have ev:dm (aR ws lys) t=lT ws lys t:=ju h tl _;rw[ev]
   cases decide (b≤t)<;>cases decide (t≤d)<;>rfl
  rw[←e1,←e2];grind
theorem oh(ok:∀w∈ws,bT w)(rk:nk ws.length es)(h:g7 ws (range 24) lys)(hs:∀r∈aR ws lys,fD r):iS (dH ws es (aR ws lys)).1=none:=by
 have oi:=dz (es:=es) rk ws.length (LN _);obtain⟨po,_⟩:=eD (ord:=aO ws es ws.length) (ss:=aR ws lys) ok oi.lt hs 24;refine oo λj hj=>?_
 have jn:j<ws.length:=by rw[←po.len];exact hj
 have e:=Jn (tV (es:=es) ok rk h) jn;rw[←jC ok oi.lt hs 24] at e;have a:=de (n:=0) po.lf j;have e':val ((dH ws es (aR ws lys)).1.getD j (0,1))=0:=e;have z:=(lE a.bq.pos).mp e';have r:=a.red;refine iu r ⟨by decide,by decide⟩ ?_;rw[kB];exact e'
structure CM(ws:List Wk)(n t:Nat)(L0:List R)(s:R)(seen:List Nat)(st:vo):Prop where
 ok:sq n st
 sub:(st.2.2.map (·.1)).Sublist seen
 pc:∀i r,(i,r)∈st.2.2->fu (ws.getD i bG) t=true/\fD r/\0<val r/\val r=dm L0 i-dm st.1 i
 un:∀i,i∉st.2.2.map (·.1)->st.1.getD i (0,1)=L0.getD i (0,1)
 sum:sQ (λp:Pc=>val p.2) st.2.2+val st.2.1=val s
theorem CG(h:fD r)(hz:r≠(0,1)):0<val r:=by
 have n:=(jX h.bq.pos).mpr h.nn;by_cases z:val r=0
 ·exfalso;refine hz (iu h.red ⟨by decide,by decide⟩ ?_);rw[kB];exact z
 ·grind
theorem CM.step{ws:List Wk}{n t i:Nat}{L0:List R}{s:R}{seen:List Nat}{st:vo}(h:CM ws n t L0 s seen st)(hi:i<n)(ni:i∉seen):CM ws n t L0 s (seen++[i]) (bY ws t st i):=by
 have d1:=(h.ok.step (ws:=ws) (t:=t) hi).1;have nf:i∉st.2.2.map (·.1):=λz=>ni (h.sub.subset z)
 have al:=de (n:=n) h.ok.lf i;have la:=mM al h.ok.rm;by_cases c:fu (ws.getD i bG) t=true/\eJ (st.1.getD i (0,1)) st.2.1≠(0,1)
 ·have e:bY ws t st i=(st.1.set i (cI (st.1.getD i (0,1)) (eJ (st.1.getD i (0,1)) st.2.1)),cI st.2.1 (eJ (st.1.getD i (0,1)) st.2.1),st.2.2++[(i,eJ (st.1.getD i (0,1)) st.2.1)]):=by
   unfold bY;rw[if_pos c]
  have u0:=h.un i nf;rw[e] at d1 ⊢;have il:i<st.1.length:=by rw[h.ok.len];exact hi
  have off:∀j x,j≠i->(st.1.set i x).getD j (0,1)=st.1.getD j (0,1):=λj x hj=>by
   rw[Mi,NL (λz=>hj z.symm),←Mi]
  have on:∀x,(st.1.set i x).getD i (0,1)=x:=λx=>by
   rw[Mi,OI il];rfl
  refine⟨d1,?_,λj r hj=>?_,λj hj=>?_,?_⟩
  ·show((st.2.2++[(i,eJ (st.1.getD i (0,1)) st.2.1)]).map (λp:Pc=>p.1)).Sublist _;rw[Ni];exact Sk.append h.sub (Sl _)
  ·rcases Mh.mp hj with z|z
   ·obtain⟨a1,a2,a3,a4⟩:=h.pc j r z;have jn:j≠i:=λq=>nf (by rw[←q];exact Mc.mpr ⟨_,z,Z⟩)
    refine⟨a1,a2,a3,?_⟩;show val r=dm L0 j-val ((st.1.set i _).getD j (0,1));rw[off j _ jn];exact a4
   ·cases LP.mp z
    refine⟨c.1,la,CG la c.2,?_⟩;show val (eJ (st.1.getD i (0,1)) st.2.1)=val (L0.getD i (0,1))-val ((st.1.set i _).getD i (0,1));rw[on,gq al.bq.pos la.bq.pos,u0];grind
  ·have hj':j∉(st.2.2++[(i,eJ (st.1.getD i (0,1)) st.2.1)]).map (·.1):=hj;rw[Ni] at hj';have jn:j≠i:=λq=>hj' (Md _ (by rw[q];exact LY))
   show(st.1.set i _).getD j (0,1)=_;rw[off j _ jn];exact h.un j λz=>hj' (MJ _ z)
  ·show sQ (λp:Pc=>val p.2) (st.2.2++[_])+val (cI st.2.1 _)=val s;rw[fJ,gq h.ok.rm.bq.pos la.bq.pos];have:=h.sum;show _+(val (eJ (st.1.getD i (0,1)) st.2.1)+0)+_=_;grind
 ·have e:bY ws t st i=st:=by
   unfold bY;rw[if_neg c]
  rw[e];exact⟨h.ok,h.sub.trans (sublist_append_left _ _),h.pc,h.un,h.sum⟩
theorem CM.fold{ws:List Wk}{n t:Nat}{L0:List R}{s:R}:∀{ord seen:List Nat} {st:vo},CM ws n t L0 s seen st->(∀i∈ord,i<n)->(seen++ord).Nodup->CM ws n t L0 s (seen++ord) (ord.foldl (bY ws t) st)
 | [],seen,st,h,_,_=>by rw[NF];exact h
 |i::ord,seen,st,h,hl,nd=>by
  have e:seen++i::ord=(seen++[i])++ord:=by simp
  rw[e] at nd ⊢;have ni:i∉seen:=λz=>(Nd.mp (Nd.mp nd).1).2.2 i z i LY Z
  exact CM.fold (h.step (hl i LY) ni) (λj hj=>hl j (L3 _ hj)) nd
theorem pR(okw:∀w∈ws,bT w)(ho:∀i∈ord,i<ws.length)(nd:ord.Nodup)(hs:∀r∈ss,fD r)(t:Nat):CM ws ws.length t (aT ws ord ss t).1 (ss.getD t (0,1)) ord (dJ ws ord t (aT ws ord ss t).1 (ss.getD t (0,1))):=by
 obtain⟨h,hl⟩:=eD okw ho hs t;have d:sq ws.length ((aT ws ord ss t).1,ss.getD t (0,1),[]):=⟨h.len,h.lf,de (n:=0) hs t,λp hp=>by cases hp⟩;have q:CM ws ws.length t (aT ws ord ss t).1 (ss.getD t (0,1)) [] ((aT ws ord ss t).1,ss.getD t (0,1),[]):=⟨d,Sl _,(λi r hr=>by cases hr),(λi _=>Z),by show(0:Rat)+_=_;grind⟩;exact q.fold ho nd
theorem hV{α:Type}{f:α->Rat}:∀{l:List α},(∀x∈l,0≤f x)->sQ f l=0->∀x∈l,f x=0
 | [],_,_,x,hx=>by cases hx
 |y::l,h,e,x,hx=>by
  have h1:=h y LY;have h2:=uG (f:=f) (l:=l) λz hz=>h z (L3 _ hz)
  have e':f y+sQ f l=0:=e;rcases LZ.mp hx with z|z
  ·rw[z];grind
  ·exact hV (λz hz=>h z (L3 _ hz)) (by grind) x z
theorem Ef(l:List α):sQ (λx=>f x-g x) l=sQ f l-sQ g l:=by
 have e1:=fj (f:=λx=>f x-g x) (g:=g) l;have e2:sQ (λx=>f x-g x+g x) l=sQ f l:=aY λx _=>by grind
 grind
theorem AW(ok:∀w∈ws,bT w)(rk:nk ws.length es)(h:g7 ws (range 24) lys)(ht:t<24):(eK (Wt (fW ws) (ba ws) t) (aO ws es ws.length) (cS (aO ws es ws.length) (fW ws) (ba ws) (aW ws) (dm (aR ws lys)) t) (dm (aR ws lys) t)).2=0:=by
 have E:=tV (es:=es) ok rk h;have tot:sQ (λt=>(eK (Wt (fW ws) (ba ws) t) (aO ws es ws.length) (cS (aO ws es ws.length) (fW ws) (ba ws) (aW ws) (dm (aR ws lys)) t) (dm (aR ws lys) t)).2) (range 24)=0:=by
  have e1:sQ (λt=>(eK (Wt (fW ws) (ba ws) t) (aO ws es ws.length) (cS (aO ws es ws.length) (fW ws) (ba ws) (aW ws) (dm (aR ws lys)) t) (dm (aR ws lys) t)).2) (range 24)=sQ (λt=>dm (aR ws lys) t-sQ (λj=>cS (aO ws es ws.length) (fW ws) (ba ws) (aW ws) (dm (aR ws lys)) t j-cS (aO ws es ws.length) (fW ws) (ba ws) (aW ws) (dm (aR ws lys)) (t+1) j) (range ws.length)) (range 24):=aY λt _=>by
   have:=E.sum t;grind
  rw[e1,Ef,pM];have e2:sQ (λj=>sQ (λt=>cS (aO ws es ws.length) (fW ws) (ba ws) (aW ws) (dm (aR ws lys)) t j-cS (aO ws es ws.length) (fW ws) (ba ws) (aW ws) (dm (aR ws lys)) (t+1) j) (range 24)) (range ws.length)=sQ (aW ws) (range ws.length):=aY λj hj=>by
   have te:=uF (λt=>cS (aO ws es ws.length) (fW ws) (ba ws) (aW ws) (dm (aR ws lys)) t j) 0 24 (by decide);have z:=Jn E (LW.mp hj);have e:sQ (λt=>cS (aO ws es ws.length) (fW ws) (ba ws) (aW ws) (dm (aR ws lys)) t j-cS (aO ws es ws.length) (fW ws) (ba ws) (aW ws) (dm (aR ws lys)) (t+1) j) (range 24)=sQ (λt=>cL (decide (0≤t)) (cS (aO ws es ws.length) (fW ws) (ba ws) (aW ws) (dm (aR ws lys)) t j-cS (aO ws es ws.length) (fW ws) (ba ws) (aW ws) (dm (aR ws lys)) (t+1) j)) (range 24):=aY λt _=>by rw[decide_eq_true (Mx _),dN]
   rw[e,te];rw[z];show aW ws j-0=aW ws j;grind
  have e3:sQ (dm (aR ws lys)) (range 24)=sQ (aW ws) (range ws.length):=by
   have sa:=DD ok h (λ_=>true) (NC.mpr λ_ _=>Z).symm;have e0:FM ws (λt=>!(λ_=>true) t)=0:=vm ok;rw[e0,CQ,k7 bG] at sa;have e4:sQ (dm (aR ws lys)) (range 24)=sQ (λt=>cL true (lT ws lys t)) (range 24):=aY λt ht=>by
    rw[dN];exact ju h (LW.mp ht) _
   have e5:sQ (λi=>qj (ws.getD i bG)) (range ws.length)=sQ (aW ws) (range ws.length):=aY λj hj=>(vj (LW.mp hj)).symm
   rw[e4,sa,e5];grind
  rw[e2];have e3':sQ (λt=>dm (aR ws lys) t) (range 24)=sQ (aW ws) (range ws.length):=e3;rw[e3'];grind
 exact hV (λt _=>(E.sti (E.nn t) t).rm) tot t (LW.mpr ht)
theorem w6(ok:∀w∈ws,bT w)(rk:nk ws.length es)(h:g7 ws (range 24) lys)(hs:∀r∈aR ws lys,fD r)(ht:t<24):sQ (λp:Pc=>val p.2) (dJ ws (aO ws es ws.length) t (aT ws (aO ws es ws.length) (aR ws lys) t).1 ((aR ws lys).getD t (0,1))).2.2=lT ws lys t:=by
 have oi:=dz (es:=es) rk ws.length (LN _);have nd:=ki (es:=es) rk ws.length (LN _);have p:=(pR (ord:=aO ws es ws.length) ok oi.lt nd hs t);have u:=AW (es:=es) ok rk h ht;have q:=jL (ws:=ws) (t:=t) (n:=ws.length) (ord:=aO ws es ws.length) (st:=((aT ws (aO ws es ws.length) (aR ws lys) t).1,(aR ws lys).getD t (0,1),[])) (by
  obtain⟨hh,_⟩:=eD (ord:=aO ws es ws.length) (ss:=aR ws lys) ok oi.lt hs t;exact⟨hh.len,hh.lf,de (n:=0) hs t,λp hp=>by cases hp⟩) oi.lt
 have e:=congrArg Prod.snd q;have e':val (dJ ws (aO ws es ws.length) t (aT ws (aO ws es ws.length) (aR ws lys) t).1 ((aR ws lys).getD t (0,1))).2.1=(eK (Wt (fW ws) (ba ws) t) (aO ws es ws.length) (dm (aT ws (aO ws es ws.length) (aR ws lys) t).1) (dm (aR ws lys) t)).2:=e;rw[jC ok oi.lt hs t,u] at e';have sm:=p.sum;rw[e'] at sm;have sv:=ju h ht (0,1);rw[←sv];grind
theorem mw{ws:List Wk}{es:List Ln}(rk:nk ws.length es){a b:Nat}(ha:a<ws.length)(r:fS es a b)(le:ba ws a≤ba ws b):∀k,k≤ws.length->∀l1 l2,aO ws es k=l1++b::l2->a∈l1
 |0,_,l1,l2,e=>by
  have e':([]:List Nat)=l1++b::l2:=e
  cases l1<;>cases e'
 |k+1,h,l1,l2,e=>by
  have oi:=dz (es:=es) rk k (by omega);have ne:=oi.ne (by omega);have e':aO ws es k++[gw ws es (cj ws.length (aO ws es k))]=l1++b::l2:=e;rcases eq_nil_or_concat l2 with z | ⟨l3,x,z⟩
  ·subst z;have e2:=append_inj' e' Z;have eb:gw ws es (cj ws.length (aO ws es k))=b:=(List.cons.inj e2.2).1;rw[←e2.1];by_cases c:a∈aO ws es k
   ·exact c
   ·exfalso;have aw:a∈cj ws.length (aO ws es k):=eE.mpr ⟨ha,c⟩;have m:=LQ (k9 (ws:=ws) rk ne);obtain⟨m1,m2⟩:=Mb.mp m;rw[eb] at m1 m2;have mb:=fM.mp m1;have al:a∈dG ws (cj ws.length (aO ws es k)):=fM.mpr ⟨aw,λj hj=>MG le (mb.2 j hj)⟩;rw[OX,QD] at m2;exact m2 a al (eS.mpr r)
  ·subst z;have e3:aO ws es k++[gw ws es (cj ws.length (aO ws es k))]=(l1++b::l3)++[x]:=by rw[e'];simp
   have e2:=append_inj' e3 Z;exact mw rk ha r le k (by omega) l1 l3 e2.1
theorem wd(ok:∀w∈ws,bT w)(rk:nk ws.length es)(hs:∀r∈ss,fD r)(ha:a<ws.length)(hb:b<ws.length)(r:fS es a b)(le:ba ws a≤ba ws b)(hw:fu (ws.getD a bG) t=true)
  (hp:b∈(dJ ws (aO ws es ws.length) t (aT ws (aO ws es ws.length) ss t).1 (ss.getD t (0,1))).2.2.map (·.1)):dm (aT ws (aO ws es ws.length) ss (t+1)).1 a=0:=by
 have oi:=dz (es:=es) rk ws.length (LN _);have nd:=ki (es:=es) rk ws.length (LN _);obtain⟨l1,l2,e⟩:=Qq ((pS (es:=es) rk a).mpr ha);have bl:b∈l2:=by
  have hbm:=(pS (es:=es) rk b).mpr hb;rw[e] at hbm;rcases Mh.mp hbm with z|z
  ·obtain⟨m1,m2,e2⟩:=Qq z;have e3:aO ws es ws.length=m1++b::(m2++a::l2):=by rw[e,e2];simp
   have am:=mw rk ha r le ws.length (LN _) _ _ e3;rw[e] at nd;exact absurd Z ((Nd.mp nd).2.2 a (by rw[e2];exact MJ _ am) a LY)
  ·rcases LZ.mp z with z|z
   ·subst z;obtain⟨ps,_,hps⟩:=rk;exact absurd (fS.rank hps r) (Na _)
   ·exact z
 by_cases z:dm (aT ws (aO ws es ws.length) ss (t+1)).1 a=0
 ·exact z
 exfalso;have p:=pR (ord:=aO ws es ws.length) ok oi.lt nd hs t;obtain⟨hh,_⟩:=eD (ord:=aO ws es ws.length) (ss:=ss) ok oi.lt hs t;have d:sq ws.length ((aT ws (aO ws es ws.length) ss t).1,ss.getD t (0,1),[]):=⟨hh.len,hh.lf,de (n:=0) hs t,λp hp=>by cases hp⟩;have q:=congrArg Prod.fst (jL (ws:=ws) (t:=t) d oi.lt);have q':dm (aT ws (aO ws es ws.length) ss (t+1)).1=(eK (λj=>fu (ws.getD j bG) t) (aO ws es ws.length) (dm (aT ws (aO ws es ws.length) ss t).1) (dm ss t)).1:=q;have nnL:∀j,0≤dm (aT ws (aO ws es ws.length) ss t).1 j:=λj=>(jX (de (n:=0) hh.lf j).bq.pos).mpr (de (n:=0) hh.lf j).nn
 have nnS:0≤dm ss t:=(jX (de (n:=0) hs t).bq.pos).mpr (de (n:=0) hs t).nn;have sti:wU (dm (aT ws (aO ws es ws.length) ss t).1) (dm ss t) (eK (λj=>fu (ws.getD j bG) t) (aO ws es ws.length) (dm (aT ws (aO ws es ws.length) ss t).1) (dm ss t)):=wU.fold nnL ⟨λ_ h=>h,λ_=>M8,nnS⟩;have pos:0<(eK (λj=>fu (ws.getD j bG) t) (l1++a::l2) (dm (aT ws (aO ws es ws.length) ss t).1) (dm ss t)).1 a:=by
  rw[←e];have:=sti.nn a (nnL a);rw[←q'] at this ⊢;grind
 have nd':=nd;rw[e] at nd';obtain⟨_,keep⟩:=nQ nnL nnS nd' hw pos;have b1:b∉l1:=λz=>(Nd.mp nd').2.2 b z b (L3 _ bl) Z
 have b2:b≠a:=λz=>(MU.mp (Nd.mp nd').2.1).1 (by rw[←z];exact bl)
 have kb:=keep b b1 b2;rw[←e,←q'] at kb;obtain⟨⟨b',rr⟩,hm,hb'⟩:=Mc.mp hp;have hb'':b'=b:=hb';subst hb'';obtain⟨_,_,v0,v1⟩:=p.pc _ _ hm;have kb':dm (dJ ws (aO ws es ws.length) t (aT ws (aO ws es ws.length) ss t).1 (ss.getD t (0,1))).1 b'=dm (aT ws (aO ws es ws.length) ss t).1 b':=kb;grind
def cw(pl:List (List Pc))(t k:Nat):Pc:=(pl.getD t []).getD k (0,(0,1))
def kU(pl:List (List Pc))(t k i:Nat):List (Nat×Nat):=((range k).filter λj=>decide ((cw pl t j).1=i)).map λj=>(t,j)
def j6(pl:List (List Pc)):Nat->Nat->List (Nat×Nat)
 |0,_=>[]
 |t+1,i=>j6 pl t i++kU pl t (pl.getD t []).length i
def iK(pl:List (List Pc))(t i:Nat)(r:R):Nat->R
 |0=>r
 |k+1=>if(cw pl t k).1=i then bo (iK pl t i r k) (cw pl t k).2 else iK pl t i r k
def iJ(pl:List (List Pc))(i:Nat):Nat->R
 |0=>(0,1)
 |t+1=>iK pl t i (iJ pl i t) (pl.getD t []).length
theorem DF(h:(cw pl t k).1=i):kU pl t (k+1) i=kU pl t k i++[(t,k)]:=by
 unfold kU;rw[Nj,Qo,Ni]
 congr 1
 have e:filter (λj=>decide ((cw pl t j).1=i)) [k]=[k]:=Pa (p:=λj=>decide ((cw pl t j).1=i)) (decide_eq_true h);rw[e];rfl
theorem Bm(h:(cw pl t k).1≠i):kU pl t (k+1) i=kU pl t k i:=by
 unfold kU;rw[Nj,Qo,Ni];show _++(filter _ [k]).map _=_;rw[Pb (by rw[decide_eq_false h];exact L5)];show _++[]=_;rw[NF]
theorem uA(h:x∈kU pl t k i):x.1=t/\x.2<k/\(cw pl t x.2).1=i:=by
 obtain⟨j,hj,rfl⟩:=Mc.mp h;obtain⟨h1,h2⟩:=Mb.mp hj;exact⟨Z,LW.mp h1,of_decide_eq_true h2⟩
theorem k6{pl:List (List Pc)}{i:Nat}:∀{t:Nat} {x:Nat×Nat},x∈j6 pl t i->x.1<t/\x.2<(pl.getD x.1 []).length/\(cw pl x.1 x.2).1=i
 |0,x,h=>by cases h
 |t+1,x,h=>by
  rcases Mh.mp (show x∈j6 pl t i++kU pl t (pl.getD t []).length i from h) with z|z
  ·obtain⟨a,b,c⟩:=k6 z;exact⟨by omega,b,c⟩
  ·obtain⟨a,b,c⟩:=uA z;rw[a];exact⟨by omega,b,c⟩
structure IM(ws:List Wk)(es:List Ln)(pl:List (List Pc)):Prop where
 len:pl.length=24
 few:∀t,(pl.getD t []).length≤8
 pc:∀t k,t<24->k<(pl.getD t []).length->(cw pl t k).1<ws.length/\fD (cw pl t k).2/\0<val (cw pl t k).2/\fu (ws.getD (cw pl t k).1 bG) t=true
 nd:∀t j k,t<24->j<k->k<(pl.getD t []).length->(cw pl t j).1≠(cw pl t k).1
 fin:∀i,i<ws.length->iJ pl i 24=(ws.getD i bG).2.2
 ne:∀i,i<ws.length->j6 pl 24 i≠[]
 lean:∀a b,(a,b)∈es->∀x∈j6 pl 24 a,∀y∈j6 pl 24 b,x.1<y.1∨(x.1=y.1/\x.2<y.2)
theorem xP(h:∀j,j<k->(cw pl t j).1≠i):kU pl t k i=[]:=by
 cases e:kU pl t k i with
 |nil=>rfl
 |cons x r=>
  have m:x∈kU pl t k i:=by rw[e];exact LY
  obtain⟨_,b,c⟩:=uA m;exact absurd c (h _ b)
theorem tX{pl:List (List Pc)}{t i:Nat}{r:R}{N:Nat}(h:Bq 449755225920 N r):∀k,k≤(pl.getD t []).length->(∀j,j<(pl.getD t []).length->fD (cw pl t j).2)->Bq 449755225920 (N+128*k) (iK pl t i r k)
 |0,_,_=>h
 |k+1,hk,ha=>by
  have ih:=tX (i:=i) h k (by omega) ha;show Bq _ _ (if(cw pl t k).1=i then bo (iK pl t i r k) (cw pl t k).2 else iK pl t i r k)
  split
  ·exact(Bq.plus (by decide) ih (ha k (by omega)).bq).mono (NT _) (by omega)
  ·exact ih.mono (NT _) (by omega)
theorem tW{ws:List Wk}{pl:List (List Pc)}(few:∀t,(pl.getD t []).length≤8)(pc:∀t k,t<24->k<(pl.getD t []).length->fD (cw pl t k).2)(i:Nat):∀t,t≤24->Bq 449755225920 (1024*t) (iJ pl i t)
 |0,_=>(CB.mono (NT _) (LN _))
 |t+1,h=>by
  have f:=few t;exact(tX (tW (ws:=ws) few pc i t (by omega)) _ (LN _) λj hj=>pc t j (by omega) hj).mono (NT _) (by omega)
theorem qf{pl:List (List Pc)}{t i:Nat}{r:R}(hr:0<r.2):∀k,(∀j,j<k->0<(cw pl t j).2.2)->0<(iK pl t i r k).2/\val (iK pl t i r k)=val r+sQ (λj=>cL (decide ((cw pl t j).1=i)) (val (cw pl t j).2)) (range k)
 |0,_=>⟨hr,by show val r=val r+0;grind⟩
 |k+1,h=>by
  obtain⟨p,e⟩:=qf (i:=i) hr k λj hj=>h j (by omega)
  have hk:=h k (by omega);rw[Nj,fJ];show 0<(if(cw pl t k).1=i then bo (iK pl t i r k) (cw pl t k).2 else iK pl t i r k).2/\val (if(cw pl t k).1=i then bo (iK pl t i r k) (cw pl t k).2 else iK pl t i r k)=val r+(_+(cL (decide ((cw pl t k).1=i)) (val (cw pl t k).2)+0));by_cases c:(cw pl t k).1=i
  ·rw[if_pos c,decide_eq_true c,dN];refine⟨(jD (N9 p hk)).pos,?_⟩;rw[jo p hk,e];grind
  ·rw[if_neg c,decide_eq_false c,cM,e];exact⟨p,by grind⟩
theorem kg{ws:List Wk}{ord:List Nat}{ss:List R}:∀{N t:Nat},t<N->(aT ws ord ss N).2.length=N->(aT ws ord ss N).2.getD t []=(dJ ws ord t (aT ws ord ss t).1 (ss.getD t (0,1))).2.2
 |0,t,h,_=>absurd h (NW _)
 |N+1,t,h,hl=>by
  have e:(aT ws ord ss (N+1)).2=(aT ws ord ss N).2++[(dJ ws ord N (aT ws ord ss N).1 (ss.getD N (0,1))).2.2]:=Z;have l:(aT ws ord ss N).2.length=N:=by
   rw[e,MO] at hl;have:[(dJ ws ord N (aT ws ord ss N).1 (ss.getD N (0,1))).2.2].length=1:=Z;omega
  rw[e,Mi];by_cases c:t<N
  ·rw[OO (by omega),←Mi];exact kg c l
  ·have:t=N:=by omega
   subst this;rw[QY (by omega),l,sub_self];rfl
theorem Bt{q:List Pc}{f:Pc->Rat}(nd:(q.map (·.1)).Nodup):sQ (λp:Pc=>cL (decide (p.1=i)) (f p)) q=0∨∃p∈q,p.1=i/\sQ (λp:Pc=>cL (decide (p.1=i)) (f p)) q=f p:=by
 induction q with
 |nil=>exact .inl Z
 |cons p q ih=>
  have nd':(p.1::q.map (·.1)).Nodup:=nd;obtain⟨n1,n2⟩:=MU.mp nd';by_cases c:p.1=i
  ·refine .inr ⟨p,LY,c,?_⟩;have z:sQ (λp:Pc=>cL (decide (p.1=i)) (f p)) q=sQ (λ_:Pc=>0*(0:Rat)) q:=aY λx hx=>by
    rw[decide_eq_false (λe=>n1 (by rw[c,←e];exact Mc.mpr ⟨x,hx,Z⟩)),cM];grind
   show cL (decide (p.1=i)) (f p)+sQ _ q=f p;rw[z,eO,decide_eq_true c,dN];grind
  ·have e:sQ (λp:Pc=>cL (decide (p.1=i)) (f p)) (p::q)=sQ (λp:Pc=>cL (decide (p.1=i)) (f p)) q:=by
    show cL (decide (p.1=i)) (f p)+sQ _ q=_;rw[decide_eq_false c,cM];grind
   rw[e];rcases ih n2 with z | ⟨x,hx,e1,e2⟩
   ·exact .inl z
   ·exact .inr ⟨x,L3 _ hx,e1,e2⟩
theorem tq(len0:ws.length=ws0.length)(amt:∀i,i<ws.length->(ws.getD i bG).2.2=(ws0.getD i bG).2.2)(wid:∀i,i<ws.length->(ws0.getD i bG).1≤(ws.getD i bG).1/\(ws.getD i bG).2.1≤(ws0.getD i bG).2.1)
  (lns:∀a b,(a,b)∈es->a<ws.length/\b<ws.length/\(ws.getD a bG).1≤(ws.getD b bG).1/\(ws.getD a bG).2.1≤(ws.getD b bG).2.1) (ok:∀w∈ws,bT w) (w8:ws.length≤8) (rk:nk ws.length es) (h:g7 ws (range 24) lys) (hs:∀r∈aR ws lys,fD r):IM ws0 es (dH ws es (aR ws lys)).2:=by
 have oi:=dz (es:=es) rk ws.length (LN _);have nd:=ki (es:=es) rk ws.length (LN _);have E:=tV (es:=es) ok rk h;obtain⟨po,pl24⟩:=eD (ord:=aO ws es ws.length) (ss:=aR ws lys) ok oi.lt hs 24;have PC:=λt=>pR (ord:=aO ws es ws.length) ok oi.lt nd hs t
 have at_:∀t,t<24->(dH ws es (aR ws lys)).2.getD t []=(dJ ws (aO ws es ws.length) t (aT ws (aO ws es ws.length) (aR ws lys) t).1 ((aR ws lys).getD t (0,1))).2.2:=λt ht=>kg ht pl24
 have pv:=λt=>jC (ord:=aO ws es ws.length) (ss:=aR ws lys) ok oi.lt hs t
 generalize hpl:(dH ws es (aR ws lys)).2=pl at at_;have plen:pl.length=24:=by rw[←hpl];exact pl24
 have few:∀t,(pl.getD t []).length≤8:=λt=>by
  rw[Mi]
  cases e:pl[t]? with
  |none=>exact Mx _
  |some q=>
   have m:q∈(aT ws (aO ws es ws.length) (aR ws lys) 24).2:=by
    have:=LQ e;rw[←hpl] at this;exact this
   have:=(po.pc q m).1;have l:=oi.len;show q.length≤8;omega
 have mem:∀t k,t<24->k<(pl.getD t []).length->((cw pl t k).1,(cw pl t k).2)∈(dJ ws (aO ws es ws.length) t (aT ws (aO ws es ws.length) (aR ws lys) t).1 ((aR ws lys).getD t (0,1))).2.2:=λt k ht hk=>by
  rw[←at_ t ht];unfold cw;rw[ax (0,(0,1)) (LL hk)];exact Nh hk
 have pc:∀t k,t<24->k<(pl.getD t []).length->(cw pl t k).1<ws.length/\fu (ws.getD (cw pl t k).1 bG) t=true/\fD (cw pl t k).2/\0<val (cw pl t k).2:=λt k ht hk=>by
  have m:=mem t k ht hk;obtain⟨a,b,c,_⟩:=(PC t).pc _ _ m;exact⟨((PC t).ok.pc _ m).1,a,b,c⟩
 have ndt:∀t,t<24->((pl.getD t []).map (·.1)).Nodup:=λt ht=>by
  rw[at_ t ht];exact(PC t).sub.nodup nd
 have ndj:∀t j k,t<24->j<k->k<(pl.getD t []).length->(cw pl t j).1≠(cw pl t k).1:=λt j k ht hj hk=>by
  have p:=MT.mp (ndt t ht) j k (by rw[LO];omega) (by rw[LO];exact hk) hj;unfold cw;rw[ax (0,(0,1)) (LL (show j<(pl.getD t []).length by omega)),ax (0,(0,1)) (LL hk)];rw[Rg,Rg] at p;exact p
 have turnv:∀t i,t<24->sQ (λj=>cL (decide ((cw pl t j).1=i)) (val (cw pl t j).2)) (range (pl.getD t []).length)=dm (aT ws (aO ws es ws.length) (aR ws lys) t).1 i-dm (aT ws (aO ws es ws.length) (aR ws lys) (t+1)).1 i:=λt i ht=>by
  have e:sQ (λj=>cL (decide ((cw pl t j).1=i)) (val (cw pl t j).2)) (range (pl.getD t []).length)=sQ (λp:Pc=>cL (decide (p.1=i)) (val p.2)) (pl.getD t []):=(k7 (f:=λp:Pc=>cL (decide (p.1=i)) (val p.2)) (0,(0,1)) (pl.getD t [])).symm;rw[e];by_cases c:i∈(pl.getD t []).map (·.1)
  ·obtain⟨⟨i',r⟩,hm,e1⟩:=Mc.mp c;have e1':i'=i:=e1;subst e1';rcases Bt (i:=i') (f:=λp:Pc=>val p.2) (ndt t ht) with z | ⟨p,hp,e2,e3⟩
   ·exfalso;have hm':=hm;rw[at_ t ht] at hm';obtain⟨_,_,v0,_⟩:=(PC t).pc _ _ hm';have:=hV (f:=λp:Pc=>cL (decide (p.1=i')) (val p.2)) (l:=pl.getD t []) (λx hx=>gU _ (by
     have hx':=hx;rw[at_ t ht] at hx';obtain⟨_,_,w0,_⟩:=(PC t).pc x.1 x.2 hx';exact OV w0)) z _ hm
    rw[decide_eq_true Z,dN] at this;have this':val r=0:=this;grind
   ·rw[e3];have hp':=hp;rw[at_ t ht] at hp';obtain⟨_,_,_,v1⟩:=(PC t).pc p.1 p.2 hp';rw[e2] at v1;exact v1
  ·have z:sQ (λp:Pc=>cL (decide (p.1=i)) (val p.2)) (pl.getD t [])=sQ (λ_:Pc=>0*(0:Rat)) (pl.getD t []):=aY λx hx=>by
    rw[decide_eq_false (λe=>c (by rw[←e];exact Mc.mpr ⟨x,hx,Z⟩)),cM];grind
   rw[at_ t ht] at c;have u:=(PC t).un i c;have u':dm (aT ws (aO ws es ws.length) (aR ws lys) (t+1)).1 i=dm (aT ws (aO ws es ws.length) (aR ws lys) t).1 i:=congrArg val u;rw[z,eO,u'];grind
 have dnv:∀i t,t≤24->0<(iJ pl i t).2/\val (iJ pl i t)=dm (aT ws (aO ws es ws.length) (aR ws lys) 0).1 i-dm (aT ws (aO ws es ws.length) (aR ws lys) t).1 i:=λi t=>by
  induction t with
  |zero=>intro _;exact⟨by show(0:Int)<1;decide,by show val ((0,1):R)=_;rw[kB];grind⟩
  |succ t ih=>
   intro ht;obtain⟨p,e⟩:=ih (by omega);obtain⟨p2,e2⟩:=qf (pl:=pl) (t:=t) (i:=i) p (pl.getD t []).length λj hj=>(pc t j (by omega) hj).2.2.1.bq.pos
   refine⟨p2,?_⟩;show val (iK pl t i (iJ pl i t) (pl.getD t []).length)=_;rw[e2,e,turnv t i (by omega)];grind
 have a0:∀i,i<ws.length->val (iJ pl i 24)=qj (ws.getD i bG):=λi hi=>by
  have e:=(dnv i 24 (LN _)).2;rw[pv 24,Jn E hi] at e;have z:dm (aT ws (aO ws es ws.length) (aR ws lys) 0).1 i=qj (ws.getD i bG):=by
   rw[pv 0];exact vj hi
  rw[z] at e;rw[e];grind
 have pos0:∀i,i<ws.length->0<qj (ws.getD i bG):=λi hi=>by
  rw[ax bG (LL hi)];exact AU (ok _ (Nh hi))
 refine⟨plen,few,λt k ht hk=>?_,ndj,λi hi=>?_,λi hi=>?_,λa b hab x hx y hy=>?_⟩
 ·obtain⟨p1,p2,p3,p4⟩:=pc t k ht hk;refine⟨by rw[←len0];exact p1,p3,p4,?_⟩;obtain⟨w1,w2⟩:=wid _ p1;unfold fu at p2 ⊢;rw[ME,decide_eq_true_iff,decide_eq_true_iff] at p2 ⊢;omega
 ·have il:i<ws.length:=by rw[len0];exact hi
  rw[←amt i il];have o:=(ok _ (Nh il)).am;have bq:=tW (ws:=ws) few (λt k ht hk=>(pc t k ht hk).2.2.1) i 24 (LN _);refine iu bq.red ?_ (a0 i il);rw[ax bG (LL il)];exact(AV o).red
 ·intro e;have il:i<ws.length:=by rw[len0];exact hi
  have z:∀t,t≤24->j6 pl t i=[]->val (iJ pl i t)=0:=λt=>by
   induction t with
   |zero=>intro _ _;exact kB
   |succ t ih=>
    intro ht he;have he':j6 pl t i++kU pl t (pl.getD t []).length i=[]:=he;obtain⟨h1,h2⟩:=List.append_eq_nil_iff.mp he';have v:=qf (pl:=pl) (t:=t) (i:=i) (dnv i t (by omega)).1 (pl.getD t []).length λj hj=>(pc t j (by omega) hj).2.2.1.bq.pos
    show val (iK pl t i (iJ pl i t) (pl.getD t []).length)=0;rw[v.2,ih (by omega) h1];have q:sQ (λj=>cL (decide ((cw pl t j).1=i)) (val (cw pl t j).2)) (range (pl.getD t []).length)=sQ (λ_:Nat=>0*(0:Rat)) (range (pl.getD t []).length):=aY λj hj=>by
     rw[decide_eq_false (λc=>by
      have m:(t,j)∈kU pl t (pl.getD t []).length i:=Mc.mpr ⟨j,Mb.mpr ⟨hj,decide_eq_true c⟩,Z⟩;rw[h2] at m
      cases m),cM]
     grind
    rw[q,eO];grind
  have v:=z 24 (LN _) e;rw[a0 i il] at v;have:=pos0 i il;grind
 ·obtain⟨x1,x2,x3⟩:=k6 hx;obtain⟨y1,y2,y3⟩:=k6 hy;obtain⟨al,bl,fab,lab⟩:=lns a b hab;have px:=pc x.1 x.2 x1 x2;have py:=pc y.1 y.2 y1 y2;rw[x3] at px;rw[y3] at py;have wx:=px.2.1;have wy:=py.2.1;unfold fu at wx wy;rw[ME,decide_eq_true_iff,decide_eq_true_iff] at wx wy;by_cases c:x.1<y.1
  ·exact .inl c
  by_cases c2:x.1=y.1
  ·refine .inr ⟨c2,?_⟩;by_cases c3:x.2<y.2
   ·exact c3
   exfalso;obtain⟨ps,_,hps⟩:=id rk;have irr:a≠b:=λe=>by
    have:=fS.rank hps (fS.one hab);rw[e] at this;exact Na _ this
   have ne:x.2≠y.2:=λe=>by
    rw[c2,e,y3] at x3;exact irr x3.symm
   have lt:y.2<x.2:=by omega
   rw[c2] at x2 x3;have sub:=(PC y.1).sub;rw[←at_ y.1 y1] at sub;have ex:((pl.getD y.1 []).map (·.1))[x.2]?=some a:=by
    rw[LX,LL x2];have e:=ax (0,(0,1)) (LL x2);unfold cw at x3;rw[e] at x3;exact congrArg some x3
   have ey:((pl.getD y.1 []).map (·.1))[y.2]?=some b:=by
    rw[LX,LL y2];have e:=ax (0,(0,1)) (LL y2);unfold cw at y3;rw[e] at y3;exact congrArg some y3
   generalize (pl.getD y.1 []).map (·.1)=zs at sub ex ey;obtain⟨hy',ey'⟩:=LR.mp ey;have d:zs.drop y.2=b::zs.drop (y.2+1):=by rw[Ra hy',ey']
   have am:a∈zs.drop (y.2+1):=by
    refine LQ (i:=x.2-(y.2+1)) ?_;rw[getElem?_drop,show y.2+1+(x.2-(y.2+1))=x.2 by omega];exact ex
   have sb:(b::zs.drop (y.2+1)).Sublist (aO ws es ws.length):=by
    rw[←d];exact(drop_sublist _ _).trans sub
   obtain⟨r1,r2,e,hb1,hs2⟩:=List.cons_sublist_iff.mp sb;obtain⟨m1,m2,e2⟩:=Qq hb1;have e3:aO ws es ws.length=m1++b::(m2++r2):=by rw[e,e2];simp
   have ain:=mw rk al (.one hab) lab ws.length (LN _) _ _ e3;rw[e] at nd;exact(Nd.mp nd).2.2 a (by rw[e2];exact MJ _ ain) a (hs2.subset am) Z
  ·exfalso;have hw:fu (ws.getD a bG) y.1=true:=by
    unfold fu;rw[ME,decide_eq_true_iff,decide_eq_true_iff];omega
   have hb:b∈(dJ ws (aO ws es ws.length) y.1 (aT ws (aO ws es ws.length) (aR ws lys) y.1).1 ((aR ws lys).getD y.1 (0,1))).2.2.map (·.1):=by
    have m:=mem y.1 y.2 y1 y2;rw[y3] at m;exact Mc.mpr ⟨_,m,Z⟩
   have d:=wd ok rk hs al bl (.one hab) lab hw hb;have mx:=mem x.1 x.2 x1 x2;rw[x3] at mx;obtain⟨_,_,v0,v1⟩:=(PC x.1).pc _ _ mx;have zl:dm (aT ws (aO ws es ws.length) (aR ws lys) x.1).1 a=0:=by
    rw[pv] at d ⊢;have q:=E.dn' (y.1+1) a (x.1-(y.1+1));rw[show y.1+1+(x.1-(y.1+1))=x.1 by omega] at q;have n0:=E.nn x.1 a;grind
   have n1:0≤dm (dJ ws (aO ws es ws.length) x.1 (aT ws (aO ws es ws.length) (aR ws lys) x.1).1 ((aR ws lys).getD x.1 (0,1))).1 a:=by
    have g:=de (n:=0) (PC x.1).ok.lf a;exact(jX g.bq.pos).mpr g.nn
   grind
structure Ba(K:Fg)(H:Hp)(v:V)(ws:List Wk)(es:List Ln):Prop where
 sv:Dr K H v ws es
 w8:ws.length≤8
 ok:∀w∈ws,bT w
 eok:kX ws.length es
 rk:nk ws.length es
 e8:es.length≤8
theorem Ba.mono{K:Fg}{H H':Hp}{v:V}{ws:List Wk}{es:List Ln}(h:Ba K H v ws es)(t:aM K H H'):Ba K H' v ws es:=⟨h.sv.mono t,h.w8,h.ok,h.eok,h.rk,h.e8⟩
theorem Ba.sh{K:Fg}{H:Hp}{v:V}{ws:List Wk}{es:List Ln}(h:Ba K H v ws es):Ic ws es:=⟨by have:=h.w8;omega,λw hw=>⟨by have:=(h.ok w hw).le;have:=(h.ok w hw).lt;omega,(h.ok w hw).lt,(h.ok w hw).am.wf.mono (by decide)⟩,h.eok⟩
def fF(ws:List Wk)(f l:Nat->Int):List Wk:=(range ws.length).map λi=>((f i).toNat,(l i).toNat,(ws.getD i bG).2.2)
theorem mW(ws:List Wk)(f l:Nat->Int):(fF ws f l).length=ws.length:=by unfold fF;rw[LO,Mw]
theorem u3(h:i<ws.length):(fF ws f l).getD i bG=((f i).toNat,(l i).toNat,(ws.getD i bG).2.2):=by
 refine ax bG ?_;unfold fF;rw[LX,Nz h];rfl
theorem Gb(h:fR n f l=none)(hi:i<n):f i≤l i:=by
 unfold fR at h;rw[RI] at h;have:=h i (LW.mpr hi);by_cases c:l i<f i
 ·exact absurd (decide_eq_true c) this
 ·omega
theorem wW{ws:List Wk}(ok:∀w∈ws,bT w)(h:i<ws.length):bT (ws.getD i bG):=by
 rw[ax bG (LL h)];exact ok _ (Nh h)
theorem wX(ok:∀w∈ws,bT w)(h:g6 ws es f l)(hi:i<ws.length):0≤f i/\f i<24/\0≤l i/\l i<24/\((ws.getD i bG).1:Int)≤f i/\l i≤((ws.getD i bG).2.1:Int):=by
 obtain⟨j,hj,_,e1⟩:=h.a.att i hi;obtain⟨k,hk,_,e2⟩:=h.b.att i hi;have oj:=wW ok hj;have okk:=wW ok hk;have a:=oj.le;have b:=oj.lt;have c:=okk.lt;have u1:=h.a.up i i hi hi (.inl Z);have u2:=h.b.up i i hi hi (.inl Z);unfold vF at e1 u1;unfold vL at e2 u2;omega
theorem AH(ok:∀w∈ws,bT w)(h:g6 ws es f l)(nb:fR ws.length f l=none):∀w∈fF ws f l,bT w:=λw hw=>by
 obtain⟨i,hi,rfl⟩:=Mc.mp hw;have il:=LW.mp hi;have q:=Gb nb il;have b:=wX ok h il;have o:=wW ok il;exact⟨by show(f i).toNat≤(l i).toNat;omega,by show(l i).toNat<24;omega,o.am⟩
theorem uZ{K:Fg}{H:Hp}{u:V}{ws:List Wk}{es:List Ln}{f l:Nat->Int}(ok:∀w∈ws,bT w)(h:g6 ws es f l)(d:bP K H u (.tuple ((range ws.length).map (qh ws f l)))):fO K H u (fF ws f l):=by
 cases d with
 | @tup p xs ds hS hA=>
  refine⟨p,xs,Z,hS,?_⟩;have key:∀(zs:List Nat) (xs:List V),(∀i∈zs,i<ws.length)->bu K H xs (zs.map (qh ws f l))->cO (A9 K H) xs (zs.map λi=>((f i).toNat,(l i).toNat,(ws.getD i bG).2.2)):=by
   intro zs
   induction zs with
   |nil=>intro xs _ d;cases d;exact .nil
   |cons i zs ih=>
    intro xs hz d
    cases d with
    | @cons x _ xs _ dx dt=>
     refine .cons ?_ (ih _ (λj hj=>hz j (L3 _ hj)) dt);have b:=wX ok h (hz i LY)
     cases dx with
     | @tup p ys _ hS hA=>
      cases hA with
      |cons d1 d2=>
       cases d2 with
       |cons d3 d4=>
        cases d4 with
        |cons d5 d6=>
         cases d1
         cases d3
         cases d6
         cases d5 with
         | @tup q zs _ hS2 hA2=>
          cases hA2 with
          |cons e1 e2=>
           cases e2 with
           |cons e3 e4=>
            cases e1
            cases e3
            cases e4
            refine⟨p,.ref q,Z,?_,⟨q,Z,hS2⟩⟩;show bH K H p [.int ((f i).toNat:Nat),.int ((l i).toNat:Nat),.ref q];rw[show(((f i).toNat:Nat):Int)=f i by omega,show(((l i).toNat:Nat):Int)=l i by omega];exact hS
  exact key _ _ (λi hi=>LW.mp hi) hA
def qQ(K:Fg)(C:Addr):Sp:=λvs H Q E=>∃(v:V) (ws:List Wk) (es:List Ln),vs=[v]/\Dr K H v ws es/\Ic ws es∧
 (∀(f l:Nat->Int) (u:V) (H':Hp),aB H H'->g6 ws es f l->fR ws.length f l=none->bP K H' u (.tuple ((range ws.length).map (qh ws f l)))->Q u H')∧
 (∀(f l:Nat->Int) (i:Nat) (d:Addr) (H':Hp),aB H H'->g6 ws es f l->fR ws.length f l=some i->H' d=some (dO d [("work",.int i)])->E (.ref C) (some d) H')
noncomputable def Kb (ws:List Wk) (es:List Ln) (f l:Nat->Int) (lys:List Ly):PyData:=F4 (dH (fF ws f l) es (aR (fF ws f l) lys)).2
def nv(K:Fg)(C:Addr):Sp:=λvs H Q E=>∃(v:V) (ws:List Wk) (es:List Ln),vs=[v]/\Ba K H v ws es∧
 (∀(f l:Nat->Int) (lys:List Ly) (w:V) (H':Hp),aB H H'->g6 ws es f l->fR ws.length f l=none->g7 (fF ws f l) (range 24) lys->bP K H' w (Kb ws es f l lys)->Q w H')∧
 (∀(f l:Nat->Int) (i:Nat) (d:Addr) (H':Hp),aB H H'->g6 ws es f l->fR ws.length f l=some i->H' d=some (dO d [("work",.int i)])->E (.ref C) (some d) H')
theorem tM(h:g7 ws ls lys):ls.length≤24->(∀t∈ls,t<24)->∀y∈lys,iM ws.length y:=by
 induction h with
 |nil _=>intro _ _ y hy;cases hy
 |cons h tl ih=>
  intro h1 h2 y hy;rcases LZ.mp hy with z|z
  ·rw[z];exact tN h.1.inn h1 h2
  ·exact ih (MG (MP _ _) h1) (λt ht=>h2 t (Mb.mp ht).1) y z
theorem sG{ws:List Wk}{lys:List Ly}(ok:∀w∈ws,bT w)(hw:ws.length≤9)(lok:∀y∈lys,iM ws.length y):∀r∈aR ws lys,fD r:=λr hr=>(xG (ss:=MC 24 (0,1)) ok hw lok (λr hr=>by rw[Rw hr];exact⟨CB.mono (NT _) (by decide),Int.le_refl _⟩) r hr).am (by decide)
def kP(K:Fg):Sp:=λvs H Q _=>∃(v:V) (ws:List Wk) (es:List Ln),vs=[v]/\Ba K H v ws es/\∀(f l:Nat->Int) (u:V) (H':Hp),aB H H'->g6 ws es f l->bP K H' u (qX ws f l)->Q u H'
def La(K:Fg)(C:Addr)(H:Hp)(u:V)(pd:PyData):Option Nat->Prop
 |none=>∃p x l,u=.ref p/\bH K H p [x,.ref l]/\bP K H x pd/\H l=some (.lst [])
 |some i=>∃p l x dd,u=.ref p/\bH K H p [.ref x,.ref l]/\H x=some (wT x C dd)/\H dd=some (dO dd [("work",.int (i:Nat))])/\H l=some (.lst [.bl true,.bl true,.bl true,.bl false])
def o7(K:Fg)(C:Addr):Sp:=λvs H Q _=>∃(v:V) (ws:List Wk) (es:List Ln),vs=[v]/\Ba K H v ws es/\∀(f l:Nat->Int) (lys:List Ly) (w:V) (H':Hp),aB H H'->g6 ws es f l->(fR ws.length f l=none->g7 (fF ws f l) (range 24) lys)->La K C H' w (Kb ws es f l lys) (fR ws.length f l)->Q w H'
theorem FY{K:Fg}{H:Hp}{v:V}{r:R}(d:bP K H v (dR r)):RV K H v r:=by
 cases d with
 | @tup q zs _ hS2 hA2=>
  cases hA2 with
  |cons e1 e2=>
   cases e2 with
   |cons e3 e4=>
    cases e1
    cases e3
    cases e4
    exact⟨q,Z,hS2⟩
theorem Cv{K:Fg}{H:Hp}{v:V}{c:Pc}(d:bP K H v (HV c)):A2 K H v c:=by
 cases d with
 | @tup q zs _ hS2 hA2=>
  cases hA2 with
  |cons e1 e2=>
   cases e2 with
   |cons e3 e4=>
    cases e1
    cases e4
    exact⟨q,_,Z,hS2,FY e3⟩
theorem mX{α:Type}{K:Fg}{H:Hp}{f:α->PyData}{P:V->α->Prop}(h:∀v x,bP K H v (f x)->P v x):∀{l:List α} {xs:List V},bu K H xs (l.map f)->cO P xs l
 | [],_,d=>by cases d;exact .nil
 |x::l,_,d=>by
  cases d with
  |cons d1 d2=>exact .cons (h _ _ d1) (mX h d2)
theorem Cu{K:Fg}{H:Hp}{v:V}{q:List Pc}(d:bP K H v (Jq q)):AZ K H v q:=by
 cases d with
 | @tup p xs _ hS hA=>exact⟨p,xs,Z,hS,mX (P:=A2 K H) (λ_ _ z=>Cv z) hA⟩
theorem u5{K:Fg}{H:Hp}{u:V}{pl:List (List Pc)}(d:bP K H u (F4 pl)):∃p xs,u=.ref p/\bH K H p xs/\cO (AZ K H) xs pl:=by
 cases d with
 | @tup p xs _ hS hA=>exact⟨p,xs,Z,hS,mX (P:=AZ K H) (λ_ _ z=>Cu z) hA⟩
def Dq(K:Fg)(H:Hp)(v:V)(x:Nat×Nat):Prop:=∃p,v=.ref p/\bH K H p [.int (x.1:Nat),.int (x.2:Nat)]
theorem Dq.mono'{K:Fg}{H H':Hp}{v:V}{x:Nat×Nat}(h:Dq K H v x)(t:aM K H H'):Dq K H' v x:=let ⟨p,e,s⟩:=h;⟨p,e,t _ _ s⟩
structure sj(K:Fg)(H:Hp)(D:Addr)(rows:List Addr)(n:Nat)(S:Nat->List (Nat×Nat)):Prop where
 top:H D=some (.lst (rows.map V.ref))
 len:rows.length=n
 nd:rows.Nodup
 ne:D∉rows
 row:∀i r,rows[i]?=some r->∃ys,H r=some (.lst ys)/\cO (Dq K H) ys (S i)
theorem sj.same{K:Fg}{H H':Hp}{D:Addr}{rows:List Addr}{n:Nat}{S:Nat->List (Nat×Nat)}(h:sj K H D rows n S)(s:aB H H'):sj K H' D rows n S:=⟨s _ _ h.top,h.len,h.nd,h.ne,λi r e=>let ⟨ys,a,b⟩:=h.row i r e;⟨ys,s _ _ a,b.mono λ_ _ z=>z.mono' (aM.same s)⟩⟩
theorem sj.push{K:Fg}{H:Hp}{D:Addr}{rows:List Addr}{n:Nat}{S S':Nat->List (Nat×Nat)}(h:sj K H D rows n S){j:Nat}{rr:Addr}{ys:List V}{v:V}{x:Nat×Nat}(e:rows[j]?=some rr)(hy:H rr=some (.lst ys))(al:cO (Dq K H) ys (S j))(hv:Dq K H v x)(h1:S' j=S j++[x])(h2:∀i,i≠j->S' i=S i):sj K (upd H rr (.lst (ys++[v]))) D rows n S':=by
 have tu:=aM.up (K:=K) hy (ys++[v]);refine⟨by rw[aE (λz=>h.ne (by rw[z];exact LQ e))];exact h.top,h.len,h.nd,h.ne,λi r er=>?_⟩;by_cases c:i=j
 ·subst c;rw[e] at er
  cases er
  exact⟨_,ah,by rw[h1];exact cO.snoc (hv.mono' tu) (al.mono λ_ _ z=>z.mono' tu)⟩
 ·obtain⟨zs,a,b⟩:=h.row i r er;have nr:r≠rr:=λz=>by
   subst z;obtain⟨p1,p2⟩:=LR.mp e;obtain⟨q1,q2⟩:=LR.mp er;rcases Qp i j with l|l|l
   ·exact MT.mp h.nd i j q1 p1 l (q2.trans p2.symm)
   ·exact c l
   ·exact MT.mp h.nd j i p1 q1 l (p2.trans q2.symm)
  exact⟨zs,by rw[aE nr];exact a,by rw[h2 i c];exact b.mono λ_ _ z=>z.mono' tu⟩
theorem sj.beside{K:Fg}{H:Hp}{D dn:Addr}{rows:List Addr}{n:Nat}{S:Nat->List (Nat×Nat)}{ds es:List V}(h:sj K H D rows n S)(hd:H dn=some (.lst ds))(n1:dn≠D)(n2:dn∉rows):sj K (upd H dn (.lst es)) D rows n S:=by
 have tu:=aM.up (K:=K) hd es;refine⟨by rw[aE n1.symm];exact h.top,h.len,h.nd,h.ne,λi r er=>?_⟩;obtain⟨zs,a,b⟩:=h.row i r er;exact⟨zs,by rw[aE (λz=>n2 (by rw[←z];exact LQ er))];exact a,b.mono λ_ _ z=>z.mono' tu⟩
theorem sj.congr{K:Fg}{H:Hp}{D:Addr}{rows:List Addr}{n:Nat}{S S':Nat->List (Nat×Nat)}(h:sj K H D rows n S)(e:∀i,S' i=S i):sj K H D rows n S':=⟨h.top,h.len,h.nd,h.ne,λi r er=>by rw[e i];exact h.row i r er⟩
theorem Ch{F F':Nat->R}(h:∀i,i≠j->F' i=F i):((range n).map F).set j (F' j)=(range n).map F':=by
 refine Pq λi=>?_
 rw[getElem?_set,LX,LX,LO,Mw];by_cases c:j=i
 ·subst c;rw[if_pos Z];by_cases l:j<n
  ·rw[if_pos l,Nz l];rfl
  ·rw[if_neg l,MV (by rw[Mw];omega)];rfl
 ·rw[if_neg c]
  cases e:(range n)[i]? with
  |none=>rfl
  |some x=>
   have:x=i:=by
    obtain⟨p1,p2⟩:=LR.mp e;rw[getElem_range] at p2;exact p2.symm
   subst this;show some (F x)=some (F' x);rw[h x (λz=>c z.symm)]
def qK(K:Fg):Sp:=λvs H Q _=>∃(a:Addr) (xs:List V) (rs:List R),vs=[.ref a]/\aS K H a xs/\cO (RV K H) xs rs/\(∀r∈rs,Wf 50 r)/\rs.length≤8/\∀(v':V) (H':Hp),aB H H'->RV K H' v' (dS rs)->Q v' H'
theorem xQ(hw:∀w∈ws,bT w)(lw:ws.length≤9)(ok:kX ws.length es)(le:es.length≤8):A1 (.tuple [F0 ws,F6 es]):=by
 refine Sh.shows (k:=4) (n:=600017) (Sh.tup (k:=3) (n:=190000) (m:=2) (λe he=>?_) (LN _) (by decide)) (by decide) (by decide);simp only[LZ,Nq,or_false] at he;rcases he with rfl|rfl
 ·refine(Sh.tup (k:=2) (n:=20000) (m:=9) (N:=190000) (λd hd=>?_) (by rw[LO];exact lw) (by decide)).mono (by decide) (by decide);obtain⟨w,hw',rfl⟩:=Mc.mp hd;exact DI (hw w hw')
 ·refine(Sh.tup (k:=1) (n:=6000) (m:=8) (N:=190000) (λd hd=>?_) (by rw[LO];exact le) (by decide)).mono (by decide) (by decide);obtain⟨e,he,rfl⟩:=Mc.mp hd;have o:=ok e he;refine Sh.tup (k:=0) (n:=2000) (m:=2) (λd hd=>?_) (LN _) (by decide);simp only[LZ,Nq,or_false] at hd;rcases hd with rfl|rfl
  ·exact j7 (iy (by omega))
  ·exact j7 (iy (by omega))
theorem Cq(ok:∀w∈ws,bT w)(eok:kX ws.length es)(h:g6 ws es f l)(a b:Nat)(hab:(a,b)∈es):a<(fF ws f l).length/\b<(fF ws f l).length/\((fF ws f l).getD a bG).1≤((fF ws f l).getD b bG).1/\((fF ws f l).getD a bG).2.1≤((fF ws f l).getD b bG).2.1:=by
 obtain⟨ha,hb⟩:=eok _ hab;have ha':a<ws.length:=ha;have hb':b<ws.length:=hb;rw[mW,u3 ha',u3 hb'];refine⟨ha',hb',?_,?_⟩
 ·obtain⟨j,hj,z,e⟩:=h.a.att a ha';have r:fS es a b:=.one hab;have u:=h.a.up b j hb' hj (.inr (z.elim (λz=>by rw[z];exact r) λz=>z.trans r));show(f a).toNat≤(f b).toNat;omega
 ·obtain⟨j,hj,z,e⟩:=h.b.att b hb';have r:fS (A6 es) b a:=jt.mpr (.one hab);have u:=h.b.up a j ha' hj (.inr (z.elim (λz=>by rw[z];exact r) λz=>z.trans r));have e':- l b=vL ws j:=e;have u':vL ws j≤- l a:=u;show(l a).toNat≤(l b).toNat;omega
theorem AG(ok:∀w∈ws,bT w)(w8:ws.length≤8)(eok:kX ws.length es)(rk:nk ws.length es)(h:g6 ws es f l)(nb:fR ws.length f l=none)(ly:g7 (fF ws f l) (range 24) lys):IM ws es (dH (fF ws f l) es (aR (fF ws f l) lys)).2:=by
 have ok':=AH ok h nb;have len:=mW ws f l;refine tq len (λi hi=>?_) (λi hi=>?_) (Cq ok eok h) ok' (by omega) (by rw[len];exact rk) ly (sG ok' (by omega) (tM ly (by decide) λt ht=>LW.mp ht))
 ·rw[u3 (by omega)]
 ·have il:i<ws.length:=by omega
  rw[u3 il];have b:=wX ok h il;show _≤(f i).toNat/\(l i).toNat≤_;omega
theorem xy(ok:∀w∈ws,bT w)(rk:nk ws.length es)(h:g7 ws (range 24) lys)(hs:∀r∈aR ws lys,fD r):(dH ws es (aR ws lys)).2.map (λq=>dS (q.map (·.2)))=aR ws lys:=by
 have oi:=dz (es:=es) rk ws.length (LN _);obtain⟨po,pl24⟩:=eD (ord:=aO ws es ws.length) (ss:=aR ws lys) ok oi.lt hs 24;have l24:(aR ws lys).length=24:=by unfold aR;rw[gK];rfl
 refine Pq λt=>?_
 rw[LX];by_cases c:t<24
 ·have e1:(dH ws es (aR ws lys)).2[t]?=some ((dH ws es (aR ws lys)).2.getD t []):=by
   have hl:t<(dH ws es (aR ws lys)).2.length:=by show t<(aT ws (aO ws es ws.length) (aR ws lys) 24).2.length;omega
   rw[LL hl,ax [] (LL hl)]
  have e2:(aR ws lys)[t]?=some ((aR ws lys).getD t (0,1)):=by
   rw[LL (by omega),ax (0,1) (LL (by omega))]
  rw[e1,e2];have et:(dH ws es (aR ws lys)).2.getD t []=_:=kg c pl24;rw[et];show some (dS _)=some _;have p:=pR (ord:=aO ws es ws.length) ok oi.lt (ki (es:=es) rk ws.length (LN _)) hs t;have ts:=w6 (es:=es) ok rk h hs c;have rd:∀r∈(dJ ws (aO ws es ws.length) t (aT ws (aO ws es ws.length) (aR ws lys) t).1 ((aR ws lys).getD t (0,1))).2.2.map (λp:Pc=>p.2),kr r:=λr hr=>by
   obtain⟨q,hq,rfl⟩:=Mc.mp hr;exact(p.pc q.1 q.2 hq).2.1.red
  have vs:=kY rd;refine congrArg some (iu vs.1 (de (n:=0) hs t).red ?_);rw[vs.2,oV,ma,ts,ju h c]
 ·rw[MV (by show(aT ws (aO ws es ws.length) (aR ws lys) 24).2.length≤t;omega),MV (by omega)];rfl
theorem Gc(n:Nat):((range n).filter λ_=>true).map (λ_=>V.bl true)=(MC n true).map V.bl:=by
 rw[map_replicate];have e:(range n).filter (λ_=>true)=range n:=NC.mpr λ_ _=>Z
 rw[e];exact List.eq_replicate_iff.mpr ⟨by rw[LO,Mw],λb hb=>by obtain⟨_,_,rfl⟩:=Mc.mp hb;rfl⟩
theorem CJ(n:Nat):(MC n true).all id=true:=No.mpr λb hb=>by rw[Rw hb];rfl
theorem Jj{a b:Nat×Nat}(h:a.1<b.1∨(a.1=b.1/\a.2<b.2)):HT.lexLt [(a.1:Int),(a.2:Int)] [(b.1:Int),(b.2:Int)]=true:=by
 show(if(a.1:Int)=(b.1:Int) then(if(a.2:Int)=(b.2:Int) then false else decide ((a.2:Int)<(b.2:Int))) else decide ((a.1:Int)<(b.1:Int)))=true;rcases h with h | ⟨h1,h2⟩
 ·rw[if_neg (by omega)];exact decide_eq_true (by omega)
 ·rw[if_pos (by omega),if_neg (by omega)];exact decide_eq_true (by omega)
theorem HS(rs:List R):(PyData.list (rs.map dR)).depth≤32:=by
 have:=tY rs;show NE (rs.map dR)+1≤32;omega
theorem Ca{X:Cx}{K:Fg}{k:Nat}(hK:X.K=K)(hr:cZ k X.A):gk X (ML .Lt) (GZ K):=by subst hK;exact ET hr.units0
theorem Bn:(kU pl t k i).length≤k:=by
 unfold kU;rw[LO];exact MG (MP _ _) (by rw[Mw];exact LN _)
theorem Bl(pr:IM ws es pl)(i t:Nat)(h:t≤24):(j6 pl t i).length≤200:=by
 have key:∀t,(j6 pl t i).length≤8*t:=λt=>by
  induction t with
  |zero=>exact LN _
  |succ t ih=>
   show(j6 pl t i++kU pl t (pl.getD t []).length i).length≤_;rw[MO];have:=Bn (pl:=pl) (t:=t) (k:=(pl.getD t []).length) (i:=i);have:=pr.few t;omega
 have:=key t;omega
def kO(K:Fg):Sp:=λvs H Q _=>∃(v u:V) (ws:List Wk) (es:List Ln) (pl:List (List Pc)),vs=[v,u]/\Ba K H v ws es/\bP K H u (F4 pl)/\IM ws es pl/\∀H',aB H H'->Q (.bl true) H'
def pE(K:Fg):Sp:=λvs H Q _=>∃(a:Addr) (ns:List Int),vs=[.ref a]/\aS K H a (ns.map V.int)/\ns.length≤63/\∀H',Q (.bl true) H'
def Jt(K:Fg)(t s lw:Addr)(m:Int)(en i:Nat)(r:Int)(H1:Hp):L2.St->Hp->Prop:=λσ H'=>∃a b:Nat,σ=[some (.ref t),some (.int m),some (.int en),some (.ref lw),some (.int (i:Nat)),some (.int (a:Nat)),some (.int (b:Nat)),some (.int r)]/\a≤b/\b<24/\bz t H1 H'/\cN K H' t s
theorem DO:aK ["thing"] ["thing"] (av yj):=eX
theorem nX:aK ["one","other","high","low","rest"] ["one","other"] (av Ee):=eX
theorem sU:aK ["top","bottom","shared"] ["top","bottom"] (av yg):=eX
theorem pI:aK ["one","other","shared","top","rest"] ["one","other"] (av xY):=eX
theorem DL:aK ["one","other"] ["one","other"] (av yf):=eX
theorem sT:aK ["one","other","left","right"] ["one","other"] (av ye):=eX
theorem DK:aK ["one","other"] ["one","other"] (av xX):=eX
theorem DS:aK ["one","other"] ["one","other"] (av yo):=eX
theorem DN:aK ["one","other"] ["one","other"] (av yi):=eX
theorem i9:aK ["some","tops","one","so_far","bottom","top"] ["some"] (av yc):=eX
theorem pK:aK ["some","bottom","one"] ["some"] (av yU):=eX
theorem DX:aK ["work","turn"] ["work","turn"] (av yP):=eX
theorem DY:aK ["count"] ["count"] (av yT):=eX
theorem hJ:aK ["leanings","lean","ahead","behind","numbers","bases","leaners","leaner","base"] ["leanings","lean"] (av yD):=eX
theorem xR:aK ["count","leans","leanings","lean"] ["count","leans"] (av Ea):=eX
theorem f9:aK ["sheet","works","leanings","drawn","number","work","firsts","lasts","first","last"] ["sheet"] (av yC):=eX
theorem uD:aK ["works","left","windows","work","places"] ["works","left"] (av D9):=eX
theorem DJ:aK ["windows","begin","end"] ["windows","begin","end"] (av xW):=eX
theorem hU:aK ["windows","amounts","count","best","best_load","best_length","begin","end","load","length"] ["windows","amounts","count"] (av Ed):=eX
theorem sW:aK ["works","left","windows","places"] ["works","left"] (av yB):=eX
theorem ja:aK ["works","told","left","waiting","layer"] ["works"] (av yh):=eX
theorem GR:aK ["works","layer"] ["works","layer"] (av Ec):=eX
theorem qV:aK ["works","speeds","layer","speed","turn"] ["works"] (av D8):=eX
theorem uE:aK ["works","leanings","waiting","earliest","like","free"] ["works","leanings","waiting"] (av Eb):=eX
theorem lY:aK ["works","leans","leanings","waiting","order","number"] ["works","leans"] (av yz):=eX
theorem ka:aK ["works","order","left","turn","speed","pieces","room","number","amount"] ["works","order","left","turn","speed"] (av yO):=eX
theorem i7:aK ["works","leans","speeds","order","left","plan","turn","number","amount"] ["works","leans","speeds"] (av xZ):=eX
theorem xU:aK ["sheet","works"] ["sheet"] (av yS):=eX
theorem DV:aK ["_law_script"] ["_law_script"] (av yy):=eX
theorem j8:aK ["_law_tape_here","_law_many","_law_spot","_law_cell","_law_mixed","_law_found"] ["_law_tape_here","_law_many"] (av yx):=eX
theorem xT:aK ["_law_due","_law_found"] ["_law_due","_law_found"] (av yN):=eX
theorem sV:aK ["_law_top","_law_bottom","_law_one","_law_other"] ["_law_top","_law_bottom"] (av yw):=eX
theorem DR:aK ["_law_one","_law_other"] ["_law_one","_law_other"] (av yn):=eX
theorem DQ:aK ["_law_one","_law_other"] ["_law_one","_law_other"] (av ym):=eX
theorem DU:aK ["_law_one","_law_other"] ["_law_one","_law_other"] (av yu):=eX
theorem hG:aK ["_law_some","_law_found","_law_one"] ["_law_some"] (av yl):=eX
theorem fH:aK ["_law_tape_here","_law_many","_law_end","_law_works_here","_law_k","_law_first","_law_last","_law_way"] ["_law_tape_here","_law_many"] (av yM):=eX
theorem DW:aK ["_law_works_here"] ["_law_works_here"] (av yL):=eX
theorem gv:aK ["_law_works_here","_law_left","_law_units_here","_law_spans","_law_number","_law_places","_law_best","_law_begin","_law_end","_law_some","_law_many","_law_long","_law_more"] ["_law_works_here","_law_left"] (av D7):=eX
theorem kd:aK ["_law_works_here","_law_left","_law_found","_law_layer"] ["_law_works_here"] (av yR):=eX
theorem DT:aK ["_law_works_here","_law_layer"] ["_law_works_here","_law_layer"] (av yt):=eX
theorem pJ:aK ["_law_works_here","_law_speeds_here","_law_layer","_law_turn"] ["_law_works_here"] (av yQ):=eX
theorem l9:aK ["_law_leans_here","_law_work","_law_found","_law_at"] ["_law_leans_here","_law_work"] (av yK):=eX
theorem j9:aK ["_law_tape_here","_law_many","_law_order","_law_pairs","_law_k","_law_one","_law_other"] ["_law_tape_here","_law_many"] (av yJ):=eX
theorem DP:aK ["_law_number"] ["_law_number"] (av yk):=eX
theorem lX:aK ["_law_works_here","_law_leans_here","_law_come","_law_left","_law_last","_law_number"] ["_law_works_here","_law_leans_here","_law_come"] (av yr):=eX
theorem fh:aK ["_law_works_here","_law_leans_here","_law_speeds_here","_law_order","_law_rest","_law_plan","_law_turn","_law_room","_law_pieces","_law_number","_law_here","_law_part","_law_late"] ["_law_works_here","_law_leans_here","_law_speeds_here"] (av yH):=eX
theorem jx:aK ["_law_sheet","_law_works_here","_law_leans_here","_law_found","_law_number","_law_above_here","_law_below","_law_first","_law_last"] ["_law_sheet"] (av D6):=eX
theorem jw:aK ["_law_sheet","_law_plan","_law_works_here","_law_leans_here","_law_spots","_law_done","_law_turn","_law_place","_law_number","_law_part"] ["_law_sheet","_law_plan"] (av DZ):=eX
theorem xS:aK ["_law_e","_law_marks_here"] ["_law_e"] (av yG):=eX
theorem lZ:aK ["_law_sheet","_law_told","_law_e"] ["_law_sheet"] (av yE):=eX
theorem fG:aK ["_law_script","_law_tape_here","_law_k","_law_works_here","_law_sheet","_law_ahead","_law_found","_law_marks_here","_law_near","_law_speeds_here"] ["_law_script"] (av xV):=eX
theorem DM:aK ["self","work"] ["self","work"] (av nY):=eX
end My
namespace My
open PySem L2 B PyProof.Rows
section
variable {P:Mo}{w:MD}{K:Fg}{mg:Mj->Option Value}{base:MA}{t:Ad}
theorem pX(T:eg K mg t)(n:Nat)(ih:bD P w K mg base dF (n+1) t.a_Q17 t.d_Q17 ["_law_due","_law_found"] (lR n K)):bD P w K mg base dF (n+2) t.a_Q17 t.d_Q17 ["_law_due","_law_found"] (lR (n+1) K):=by
 refine T.F_Q17.ok xT (λvs H Q E h=>?_) (λcdv A outer s H vs Q E hr h=>?_)
 ·obtain⟨_,_,_,rfl,_⟩:=h;rfl
 obtain⟨v,w,d,rfl,hv,hw,dp,sm,k⟩:=h;refine dI.ok (af (bA (eY (iP (cu (ap bh (by rfl) T.z_isinstance Me (ad (qv 0) (ad (bE (v:=V.ty "tuple") Z T.z_tuple MR Z) ag ae) ae))) (gc (cu (ap bh (by rfl) T.z_isinstance Me (ad (qv 0) (ad (bE (v:=V.ty "list") Z T.z_list OY Z) ag ae) ae)))))) (af (bA (aD iR (ap bh (by rfl) T.z_isinstance Me (ad (qv 0) (ad (bE (v:=V.ty "tuple") Z T.z_tuple MR Z) ag ae) ae)) (ap bh (by rfl) T.z_isinstance Me (ad (qv 1) (ad (bE (v:=V.ty "tuple") Z T.z_tuple MR Z) ag ae) ae)) (aL _)) (ao (aG dM)) aP) (af (bA (aD iR (ap bh (by rfl) T.z_isinstance Me (ad (qv 0) (ad (bE (v:=V.ty "list") Z T.z_list OY Z) ag ae) ae)) (ap bh (by rfl) T.z_isinstance Me (ad (qv 1) (ad (bE (v:=V.ty "list") Z T.z_list OY Z) ag ae) ae)) (aL _)) (ao (aG dM)) aP) (af (bA (aD iR (ap aA (by rfl) T.z_len MH (ad (qv 0) ag ae)) (ap aA (by rfl) T.z_len MH (ad (qv 1) ag ae)) (aL _)) (ao (aG dM)) aP) (ao (aG (ap (oF Z) (by rfl) T.z_all boot_all (ad (bn (N':=["_law_k","_law_due","_law_found"]) (src:=[none,some 0,some 1]) Z (by exact(bU Z T.z_range (ad (ap aA (by rfl) T.z_len MH (ad (qv 0) ag ae)) ag aF))) (λ_ _ _ _ _=>(by exact(by exact au (i:=0) (by show Mg (["_law_k","_law_due","_law_found"]:List Mj);decide +kernel) (by exact Z) (by first|exact L8 Z|exact L7 Z)))) (λ_ _ _ _ _=>bZ) (λ_ _ _ _ _=>(by exact(by exact(fU ih (by exact hr.mono (by omega)) (by exact Z) T.m_Q17 T.F_Q17.kp T.b_Q17 (by exact .nil) (by exact n9) (ad (by exact(aZ (aU (K:=K) (by exact Z)) (by exact(qv 1)) (by exact(qv 0)) (by exact λ_ _=>Z))) (ad (by exact(aZ (aU (K:=K) (by exact Z)) (by exact(qv 2)) (by exact(qv 0)) (by exact λ_ _=>Z))) ag aI) aI))))) (by exact⟨Z,Z,Z,Z,⟨Z,Z,Z,Z,trivial⟩⟩) Z (by decide +kernel) Z (by decide +kernel) (by exact aQ Z ⟨Z,⟨Z,trivial⟩⟩)) ag dq))))))) aP) (af (bA (aD pV (qv 0) gf (aL _)) (ao (aG (eB pV (qv 1) gf (aL _)))) aP) (af (bA (cu (ap bh (by rfl) T.z_isinstance Me (ad (qv 0) (ad (bE (v:=V.ty "str") Z T.z_str Tp Z) ag ae) ae))) (ao (aG (ib (ap bh (by rfl) T.z_isinstance Me (ad (qv 1) (ad (bE (v:=V.ty "str") Z T.z_str Tp Z) ag ae) ae)) (kf (eB dg (qv 1) (qv 0) (aL _)))))) aP) (af (bA (cu (ap bh (by rfl) T.z_isinstance Me (ad (qv 0) (ad (bE (v:=V.ty "bool") Z T.z_bool Qw Z) ag ae) ae))) (ao (aG (ib (ap bh (by rfl) T.z_isinstance Me (ad (qv 1) (ad (bE (v:=V.ty "bool") Z T.z_bool Qw Z) ag ae) ae)) (kf (eB dg (qv 1) (qv 0) (aL _)))))) aP) (ao (aG (ib (ap bh (by rfl) T.z_isinstance Me (ad (qv 1) (ad (bE (v:=V.ty "int") Z T.z_int boot_int Z) ag ae) ae)) (ib (zg (ap bh (by rfl) T.z_isinstance Me (ad (qv 1) (ad (bE (v:=V.ty "bool") Z T.z_bool Qw Z) ag ae) ae))) (kf (eB dg (qv 1) (qv 0) (aL _))))))))))) ?_
 nofun
 cases hv with
 |non=>
  cases hw
  refine⟨_,Z,_,_,_,_,Z,.non,fZ,_,Z,cJ ?_⟩;refine⟨_,Z,_,_,_,_,Z,.non,gy,_,Z,cJ ?_⟩;refine⟨_,Z,Z,_,Z,d0 ?_⟩;exact⟨_,Z,Z,k H (aB.refl H)⟩
 |bl b=>
  cases hw
  refine⟨_,Z,_,_,_,_,Z,.bl b,iU,_,Z,cJ ?_⟩;refine⟨_,Z,_,_,_,_,Z,.bl b,jJ,_,Z,cJ ?_⟩;refine⟨_,Z,Z,_,Z,bI (by intro z;cases z) ?_⟩;refine⟨_,Z,_,_,_,_,Z,.bl b,kG,_,Z,cJ ?_⟩;refine⟨_,Z,_,_,_,_,Z,.bl b,fA,_,Z,d0 ?_⟩;refine⟨_,Z,_,_,_,_,Z,.bl b,fA,_,Z,d0 ?_⟩;have:=k H (aB.refl H);exact⟨_,Z,_,Z,Z,by rw[decide_eq_true Z];exact this⟩
 |int i=>
  cases hw
  refine⟨_,Z,_,_,_,_,Z,.int i,jI,_,Z,cJ ?_⟩;refine⟨_,Z,_,_,_,_,Z,.int i,kF,_,Z,cJ ?_⟩;refine⟨_,Z,Z,_,Z,bI (by intro z;cases z) ?_⟩;refine⟨_,Z,_,_,_,_,Z,.int i,mO,_,Z,cJ ?_⟩;refine⟨_,Z,_,_,_,_,Z,.int i,fY,_,Z,cJ ?_⟩;refine⟨_,Z,_,_,_,_,Z,.int i,mP,_,Z,d0 ?_⟩;refine⟨_,Z,_,_,_,_,Z,.int i,fY,_,Z,_,Z,d0 ?_⟩;have:=k H (aB.refl H);exact⟨_,Z,_,Z,Z,by rw[decide_eq_true Z];exact this⟩
 |str x=>
  cases hw
  refine⟨_,Z,_,_,_,_,Z,.str x,jH,_,Z,cJ ?_⟩;refine⟨_,Z,_,_,_,_,Z,.str x,kD,_,Z,cJ ?_⟩;refine⟨_,Z,Z,_,Z,bI (by intro z;cases z) ?_⟩;refine⟨_,Z,_,_,_,_,Z,.str x,gT,_,Z,d0 ?_⟩;refine⟨_,Z,_,_,_,_,Z,.str x,gT,_,Z,d0 ?_⟩;have:=k H (aB.refl H);exact⟨_,Z,_,Z,Z,by rw[decide_eq_true Z];exact this⟩
 |lst e h=>cases sm
 | @tup a xs ds e h=>
  cases hw with
  | @tup a' xs' _ e' h'=>
  have lx:=ii h;have lx':=ii h';have sm':(decide (ds.length≤1000)&&jv ds)=true:=sm;rw[ME] at sm';obtain⟨sm1,sm2⟩:=sm';have ln:ds.length≤1000:=of_decide_eq_true sm1;have dv:bP K H (.ref a) (.tuple ds):=.tup e h;have dw:bP K H (.ref a') (.tuple ds):=.tup e' h';refine⟨_,Z,_,_,_,_,Z,dv,fN,_,Z,d0 ?_⟩;refine⟨_,Z,_,_,_,_,Z,dv,fN,_,Z,_,_,_,_,Z,dw,fN,Z,_,Z,iV Z ?_⟩;refine⟨_,Z,_,_,_,_,Z,dv,iT,_,Z,_,_,_,_,Z,dw,iT,Z,_,Z,iV Z ?_⟩;refine⟨_,Z,a,_,Z,.inr e,_,Z,a',_,Z,.inr e',Z,_,Z,iV (congrArg (λn:Nat=>V.int n) (lx.trans lx'.symm)) ?_⟩;refine⟨_,Z,a,_,Z,.inr e,_,Z,by omega,by omega,λD hD=>bC jk (λ_=>true) (λ_=>V.bl true) hD (by omega) (λi x H' hi s' hx R E kR kE=>?_) λH4 s4 h4=>?_⟩
  ·subst hx;rw[Int.zero_add];obtain⟨d,hd⟩:∃d,ds[i]?=some d:=⟨_,LL (by omega)⟩;obtain⟨x,hx,dx⟩:=jf h hd;obtain⟨y,hy,dy⟩:=jf h' hd;have t':=aM.same (K:=K) s';refine⟨eU.set Z,_,Z,_,Z,a,_,_,_,Z,Z,t' _ _ e,aJ hx,_,Z,_,Z,a',_,_,_,Z,Z,t' _ _ e',aJ hy,x,y,d,Z,dx.same s',dy.same s',?_,qT sm2 hd,λH'' s''=>kR Z H'' s''⟩;have:NE ds+1≤n+1:=dp;exact MG (kI hd) (le_of_succ_le_succ this)
  ·have e4:(((range (xs.length:Int).toNat).filter λ_=>true).map λ_=>V.bl true)=(((range (xs.length:Int).toNat).filter λ_=>true).map λ_=>true).map V.bl:=by rw[Oa];rfl
   rw[e4] at h4;have q:=k H4 s4;refine⟨D,_,Z,aS.of h4,?_⟩;rw[show((((range (xs.length:Int).toNat).filter λ_=>true).map λ_=>true).all id)=true by simp];exact q
theorem v8(T:eg K mg t):bD P w K mg base dF 1 t.a_Q17 t.d_Q17 ["_law_due","_law_found"] (vI K):=by
 refine T.F_Q17.ok xT (λvs H Q E h=>?_) (λcdv A outer s H vs Q E hr h=>?_)
 ·obtain⟨_,_,_,rfl,_⟩:=h;rfl
 obtain⟨v,w,d,rfl,hv,hw,dp,sm,k⟩:=h;refine dI.ok (af (bA (eY (iP (cu (ap bh (by rfl) T.z_isinstance Me (ad (qv 0) (ad (bE (v:=V.ty "tuple") Z T.z_tuple MR Z) ag ae) ae))) (gc (cu (ap bh (by rfl) T.z_isinstance Me (ad (qv 0) (ad (bE (v:=V.ty "list") Z T.z_list OY Z) ag ae) ae)))))) (af (bA (aD iR (ap bh (by rfl) T.z_isinstance Me (ad (qv 0) (ad (bE (v:=V.ty "tuple") Z T.z_tuple MR Z) ag ae) ae)) (ap bh (by rfl) T.z_isinstance Me (ad (qv 1) (ad (bE (v:=V.ty "tuple") Z T.z_tuple MR Z) ag ae) ae)) (aL _)) (ao (aG dM)) aP) (af (bA (aD iR (ap bh (by rfl) T.z_isinstance Me (ad (qv 0) (ad (bE (v:=V.ty "list") Z T.z_list OY Z) ag ae) ae)) (ap bh (by rfl) T.z_isinstance Me (ad (qv 1) (ad (bE (v:=V.ty "list") Z T.z_list OY Z) ag ae) ae)) (aL _)) (ao (aG dM)) aP) (af (bA (aD iR (ap aA (by rfl) T.z_len MH (ad (qv 0) ag ae)) (ap aA (by rfl) T.z_len MH (ad (qv 1) ag ae)) (aL _)) (ao (aG dM)) aP) (ao hZ)))) aP) (af (bA (aD pV (qv 0) gf (aL _)) (ao (aG (eB pV (qv 1) gf (aL _)))) aP) (af (bA (cu (ap bh (by rfl) T.z_isinstance Me (ad (qv 0) (ad (bE (v:=V.ty "str") Z T.z_str Tp Z) ag ae) ae))) (ao (aG (ib (ap bh (by rfl) T.z_isinstance Me (ad (qv 1) (ad (bE (v:=V.ty "str") Z T.z_str Tp Z) ag ae) ae)) (kf (eB dg (qv 1) (qv 0) (aL _)))))) aP) (af (bA (cu (ap bh (by rfl) T.z_isinstance Me (ad (qv 0) (ad (bE (v:=V.ty "bool") Z T.z_bool Qw Z) ag ae) ae))) (ao (aG (ib (ap bh (by rfl) T.z_isinstance Me (ad (qv 1) (ad (bE (v:=V.ty "bool") Z T.z_bool Qw Z) ag ae) ae)) (kf (eB dg (qv 1) (qv 0) (aL _)))))) aP) (ao (aG (ib (ap bh (by rfl) T.z_isinstance Me (ad (qv 1) (ad (bE (v:=V.ty "int") Z T.z_int boot_int Z) ag ae) ae)) (ib (zg (ap bh (by rfl) T.z_isinstance Me (ad (qv 1) (ad (bE (v:=V.ty "bool") Z T.z_bool Qw Z) ag ae) ae))) (kf (eB dg (qv 1) (qv 0) (aL _))))))))))) ?_
 nofun
 cases hv with
 |non=>
  cases hw
  refine⟨_,Z,_,_,_,_,Z,.non,fZ,_,Z,cJ ?_⟩;refine⟨_,Z,_,_,_,_,Z,.non,gy,_,Z,cJ ?_⟩;refine⟨_,Z,Z,_,Z,d0 ?_⟩;exact⟨_,Z,Z,k H (aB.refl H)⟩
 |bl b=>
  cases hw
  refine⟨_,Z,_,_,_,_,Z,.bl b,iU,_,Z,cJ ?_⟩;refine⟨_,Z,_,_,_,_,Z,.bl b,jJ,_,Z,cJ ?_⟩;refine⟨_,Z,Z,_,Z,bI (by intro z;cases z) ?_⟩;refine⟨_,Z,_,_,_,_,Z,.bl b,kG,_,Z,cJ ?_⟩;refine⟨_,Z,_,_,_,_,Z,.bl b,fA,_,Z,d0 ?_⟩;refine⟨_,Z,_,_,_,_,Z,.bl b,fA,_,Z,d0 ?_⟩;have:=k H (aB.refl H);exact⟨_,Z,_,Z,Z,by rw[decide_eq_true Z];exact this⟩
 |int i=>
  cases hw
  refine⟨_,Z,_,_,_,_,Z,.int i,jI,_,Z,cJ ?_⟩;refine⟨_,Z,_,_,_,_,Z,.int i,kF,_,Z,cJ ?_⟩;refine⟨_,Z,Z,_,Z,bI (by intro z;cases z) ?_⟩;refine⟨_,Z,_,_,_,_,Z,.int i,mO,_,Z,cJ ?_⟩;refine⟨_,Z,_,_,_,_,Z,.int i,fY,_,Z,cJ ?_⟩;refine⟨_,Z,_,_,_,_,Z,.int i,mP,_,Z,d0 ?_⟩;refine⟨_,Z,_,_,_,_,Z,.int i,fY,_,Z,_,Z,d0 ?_⟩;have:=k H (aB.refl H);exact⟨_,Z,_,Z,Z,by rw[decide_eq_true Z];exact this⟩
 |str x=>
  cases hw
  refine⟨_,Z,_,_,_,_,Z,.str x,jH,_,Z,cJ ?_⟩;refine⟨_,Z,_,_,_,_,Z,.str x,kD,_,Z,cJ ?_⟩;refine⟨_,Z,Z,_,Z,bI (by intro z;cases z) ?_⟩;refine⟨_,Z,_,_,_,_,Z,.str x,gT,_,Z,d0 ?_⟩;refine⟨_,Z,_,_,_,_,Z,.str x,gT,_,Z,d0 ?_⟩;have:=k H (aB.refl H);exact⟨_,Z,_,Z,Z,by rw[decide_eq_true Z];exact this⟩
 |lst e h=>exact absurd dp (SF _)
 |tup e h=>exact absurd dp (SF _)
theorem v7(T:eg K mg t):bD P w K mg base dF 2 t.a_Q17 t.d_Q17 ["_law_due","_law_found"] (vH K):=by exact pX T 0 (v8 T)
theorem v6(T:eg K mg t):bD P w K mg base dF 3 t.a_Q17 t.d_Q17 ["_law_due","_law_found"] (vG K):=by exact pX T 1 (v7 T)
theorem v5(T:eg K mg t):bD P w K mg base dF 4 t.a_Q17 t.d_Q17 ["_law_due","_law_found"] (vE K):=by exact pX T 2 (v6 T)
theorem E3(T:eg K mg t):bD P w K mg base dF 1 t.a_Q47 t.d_Q47 ["thing"] (vD K):=by
 refine T.F_Q47.ok DO (λvs H Q E h=>?_) (λcdv A outer s H vs Q E hr h=>?_)
 ·obtain⟨_,rfl,_⟩:=h;rfl
 obtain⟨i,rfl,k⟩:=h;refine dI.ok (af (bA (cu (ap gD (by rfl) T.z_isinstance Me (ad (qv 0) (ad (bE (v:=V.ty "list") Z T.z_list OY Z) ag ae) ae))) (ao hZ) aP) (af (bA (cu (ap gD (by rfl) T.z_isinstance Me (ad (qv 0) (ad (bE (v:=V.ty "tuple") Z T.z_tuple MR Z) ag ae) ae))) (ao hZ) aP) (ao (aG (qv 0))))) ?_
 nofun
 refine⟨_,Z,_,_,"int",false,Z,.int i,by decide +kernel,false,Z,cJ ?_⟩;refine⟨_,Z,_,_,"int",false,Z,.int i,by decide +kernel,false,Z,cJ ?_⟩;exact⟨_,Z,k⟩
theorem og(T:eg K mg t):bD P w K mg base dF 1 t.a_Q0 t.d_Q0 ["one","other"] (iI K):=by
 refine T.F_Q0.ok nX (λvs H Q E h=>?_) (λcdv A outer s H vs Q E hr h=>?_)
 ·obtain⟨_,_,rfl,_⟩:=h;rfl
 obtain⟨a,b,rfl,k⟩:=h;refine dI.ok (af (b8 2 nX.nd (ap mZ (by rfl) T.z_abs boot_abs (ad (qv 0) ag ae))) (af (b8 3 nX.nd (ap mZ (by rfl) T.z_abs boot_abs (ad (qv 1) ag ae))) (af (fK L9 (aD iR (qv 3) ai (aL _)) (af (b8 4 nX.nd (aN gh (qv 2) (qv 3))) (af (b8 2 nX.nd (qv 3)) (ao (b8 3 nX.nd (qv 4)))))) (ao (aG (qv 2)))))) ?_
 nofun
 refine⟨_,Z,_,Z,_,Z,_,Z,?_⟩;rw[uc,uc];let Iv1:Nat->L2.St->Hp->Prop:=λm σ H'=>∃(x y:Int) (v:Option V),σ=[some (.int a),some (.int b),some (.int x),some (.int y),v]/\H'=H/\0≤x/\0≤y/\Int.gcd x y=Int.gcd a b/\m=y.toNat
 refine⟨Iv1,⟨_,_,_,_,Z,Z,by omega,by omega,(by simp[Int.gcd]),Z⟩,?_⟩;rintro m σ H' ⟨x,y,v,rfl,rfl,hx,hy,hg,rfl⟩;refine⟨_,Z,Z,_,Z,?_⟩;by_cases c:y=0
 ·subst c;refine iV Z ?_;rw[←hg] at k;refine⟨_,Z,?_⟩;have e:(x:Int)=(Int.gcd x 0:Nat):=by simp[Int.gcd];omega
  rw[←e] at k;exact k
 ·refine Ap (λz=>c (by injection z)) ?_;refine⟨_,λ_ _ z=>z,?_⟩;refine⟨_,Z,_,Z,_,_,Z,Z,(by omega),_,Z,_,Z,?_⟩;refine⟨_,?_,y,x%y,_,Z,Z,hy,NI _ c,?_,Z⟩
  ·have:=NA x (show 0<y by omega);have:=NI x c;omega
  ·rw[rJ hx (by omega),hg]
theorem z5(T:eg K mg t):bD P w K mg base dF 2 t.a_Q53 t.d_Q53 ["top","bottom"] (qH K):=by
 refine T.F_Q53.ok sU (λvs H Q E h=>?_) (λcdv A outer s H vs Q E hr h=>?_)
 ·obtain⟨_,_,rfl,_⟩:=h;rfl
 obtain⟨a,b,rfl,hb,hz,k⟩:=h;refine dI.ok (af (bA (aD dg (qv 1) ai (aL _)) (ao hZ) aP) (af (b8 2 sU.nd (df (og T) hr T.m_Q0 T.F_Q0.kp T.b_Q0 (ad (qv 0) (ad (qv 1) ag ae) ae))) (af (bA (aD mz (qv 1) ai (aL _)) (ao (b8 2 sU.nd (iQ f7 (qv 2)))) aP) (ao (aG (bB (ad (aN eP (qv 0) (qv 2)) (ad (aN eP (qv 1) (qv 2)) ag bx) bx))))))) ?_
 nofun
 have gp:=cD (a:=a) hb;have gb:((Int.gcd a b:Nat):Int).natAbs<2^4000:=by
  have z:Int.gcd a b≤b.natAbs:=RE (by omega) (by have:=Int.gcd_dvd_right a b;exact Int.natAbs_dvd_natAbs.mpr this);have e:((Int.gcd a b:Nat):Int).natAbs=Int.gcd a b:=P6 _;omega
 refine⟨_,Z,Z,_,Z,?_⟩;refine bI (λz=>by injection z with z;omega) ?_;refine⟨_,rfl,_,rfl,a,b,rfl,?_⟩;refine⟨_,rfl,_,_,rfl,rfl,_,rfl,?_⟩;refine bI (by omega) ?_;refine⟨_,rfl,_,rfl,_,_,rfl,rfl,⟨gp,gb⟩,_,rfl,_,rfl,_,_,rfl,rfl,⟨gp,gb⟩,iY,λp hp=>?_⟩;exact k p hp
theorem zY(T:eg K mg t):bD P w K mg base dF 2 t.a_Q58 t.d_Q58 ["one","other"] (ux K):=by
 refine T.F_Q58.ok pI (λvs H Q E h=>?_) (λcdv A outer s H vs Q E hr h=>?_)
 ·obtain⟨_,_,_,_,_,_,rfl,_⟩:=h;rfl
 obtain⟨v,w,r,q,n,m,rfl,hv,hw,wr,wq,hz,k⟩:=h;refine dI.ok (af (b8 2 pI.nd (df (og T) hr T.m_Q0 T.F_Q0.kp T.b_Q0 (ad (bW az (qv 0) ai) (ad (bW az (qv 1) ai) ag aI) aI))) (af (b8 3 pI.nd (aN dP (aN dC (bW az (qv 0) ai) (aN eP (bW az (qv 1) ai) (qv 2))) (aN dC (bW az (qv 1) ai) (aN eP (bW az (qv 0) ai) (qv 2))))) (af (b8 4 pI.nd (df (og T) hr T.m_Q0 T.F_Q0.kp T.b_Q0 (ad (qv 3) (ad (qv 2) ag ae) ae))) (ao (aG (bB (ad (aN eP (qv 3) (qv 4)) (ad (aN dC (aN eP (bW az (qv 0) ai) (qv 2)) (aN eP (bW az (qv 1) ai) (qv 4))) ag bx) bx))))))) ?_
 nofun
 obtain⟨p,rfl,hv⟩:=hv;obtain⟨p',rfl,hw⟩:=hw;have c1:=bX wr.top (show n≤4000 by omega);have c2:=bX wr.bot (show n≤4000 by omega);have c3:=bX wq.top (show m≤4000 by omega);have c4:=bX wq.bot (show m≤4000 by omega);have gp:(0:Int)<(Int.gcd r.2 q.2:Nat):=cD wq.pos;have gb:=mU (a:=r.2) wq.pos c4;refine⟨_,Z,p,_,_,_,Z,Z,hv,Z,_,Z,p',_,_,_,Z,Z,hw,Z,r.2,q.2,Z,?_⟩;have z:=zw ⟨wr.pos,wr.cop⟩ ⟨wq.pos,wq.cop⟩;have kk:Ae H Q (rn r q):=by rw[z];exact k
 unfold rn at kk;simp only at kk;generalize ((Int.gcd r.2 q.2:Nat):Int)=d at gp gb kk ⊢;refine⟨_,Z,p,_,_,_,Z,Z,hv,Z,_,Z,p',_,_,_,Z,Z,hw,Z,_,Z,_,_,Z,Z,⟨gp,gb⟩,_,_,Z,Z,⟨c1,ig gp c4⟩,_,Z,p',_,_,_,Z,Z,hw,Z,_,Z,p,_,_,_,Z,Z,hv,Z,_,Z,_,_,Z,Z,⟨gp,gb⟩,_,_,Z,Z,⟨c3,ig gp c2⟩,_,_,Z,Z,?_⟩;refine⟨_,Z,_,Z,_,_,Z,?_⟩;have ep:(0:Int)<(Int.gcd (r.1*(q.2/d)+q.1*(r.2/d)) d:Nat):=cD gp;have eb:=mU (a:=r.1*(q.2/d)+q.1*(r.2/d)) gp gb;generalize ((Int.gcd (r.1*(q.2/d)+q.1*(r.2/d)) d:Nat):Int)=e at ep eb kk ⊢;refine⟨_,Z,_,Z,_,_,Z,Z,⟨ep,eb⟩,_,Z,p,_,_,_,Z,Z,hv,Z,_,Z,_,_,Z,Z,⟨gp,gb⟩,_,Z,p',_,_,_,Z,Z,hw,Z,_,Z,_,_,Z,Z,⟨ep,eb⟩,_,_,Z,Z,⟨ig gp c2,ig ep c4⟩,iY,kk⟩
theorem zZ(T:eg K mg t):bD P w K mg base dF 3 t.a_Q54 t.d_Q54 ["one","other"] (xJ K):=by
 refine T.F_Q54.ok DL (λvs H Q E h=>?_) (λcdv A outer s H vs Q E hr h=>?_)
 ·obtain⟨_,_,_,_,_,_,rfl,_⟩:=h;rfl
 obtain⟨v,w,r,q,n,m,rfl,hv,hw,wr,wq,hz,k⟩:=h;refine dI.ok (ao (aG (df (zY T) hr T.m_Q58 T.F_Q58.kp T.b_Q58 (ad (qv 0) (ad (bB (ad (iQ f7 (bW az (qv 1) ai)) (ad (bW az (qv 1) ai) ag aI) k4)) ag cC) ae)))) ?_;nofun
 obtain⟨p',rfl,hw⟩:=hw;refine⟨_,Z,_,Z,p',_,_,_,Z,Z,hw,Z,_,Z,_,Z,p',_,_,_,Z,Z,hw,Z,iY,λpt ht=>?_⟩;have s1:=aj ht (.tup [.int (-q.1),.int q.2]);refine⟨v,.ref pt,r,(-q.1,q.2),n,m,Z,hv.mono (aM.same s1),RV.of ah,wr,⟨wq.pos,by show(-q.1).natAbs<_;rw[Tk];exact wq.top,wq.bot,rQ wq.cop⟩,hz,λp hp=>?_⟩;refine k _ _ (s1.trans (aj hp _)) ?_;rw[←jE];exact RV.of ah
theorem EY(T:eg K mg t):bD P w K mg base dF 2 t.a_Q55 t.d_Q55 ["one","other"] (qF K):=by
 refine T.F_Q55.ok sT (λvs H Q E h=>?_) (λcdv A outer s H vs Q E hr h=>?_)
 ·obtain⟨_,_,_,_,_,_,rfl,_⟩:=h;rfl
 obtain⟨v,w,r,q,n,m,rfl,hv,hw,wr,wq,hz,k⟩:=h;refine dI.ok (af (b8 2 sT.nd (df (og T) hr T.m_Q0 T.F_Q0.kp T.b_Q0 (ad (bW az (qv 0) ai) (ad (bW az (qv 1) ai) ag aI) aI))) (af (b8 3 sT.nd (df (og T) hr T.m_Q0 T.F_Q0.kp T.b_Q0 (ad (bW az (qv 1) ai) (ad (bW az (qv 0) ai) ag aI) aI))) (ao (aG (bB (ad (aN dC (aN eP (bW az (qv 0) ai) (qv 2)) (aN eP (bW az (qv 1) ai) (qv 3))) (ad (aN dC (aN eP (bW az (qv 0) ai) (qv 3)) (aN eP (bW az (qv 1) ai) (qv 2))) ag bx) bx)))))) ?_
 nofun
 obtain⟨p,rfl,hv⟩:=hv;obtain⟨p',rfl,hw⟩:=hw;have c1:=bX wr.top (show n≤4000 by omega);have c2:=bX wr.bot (show n≤4000 by omega);have c3:=bX wq.top (show m≤4000 by omega);have c4:=bX wq.bot (show m≤4000 by omega);have lp:(0:Int)<(Int.gcd r.1 q.2:Nat):=cD wq.pos;have lb:=mU (a:=r.1) wq.pos c4;have mp:(0:Int)<(Int.gcd q.1 r.2:Nat):=cD wr.pos;have mb:=mU (a:=q.1) wr.pos c2;have z:=vx ⟨wr.pos,wr.cop⟩ ⟨wq.pos,wq.cop⟩;have kk:Ae H Q (lJ r q):=by rw[z];exact k
 unfold lJ at kk;simp only at kk;refine⟨_,Z,p,_,_,_,Z,Z,hv,Z,_,Z,p',_,_,_,Z,Z,hw,Z,r.1,q.2,Z,_,Z,p',_,_,_,Z,Z,hw,Z,_,Z,p,_,_,_,Z,Z,hv,Z,q.1,r.2,Z,?_⟩;generalize ((Int.gcd r.1 q.2:Nat):Int)=l at lp lb kk ⊢;generalize ((Int.gcd q.1 r.2:Nat):Int)=m' at mp mb kk ⊢;refine⟨_,Z,p,_,_,_,Z,Z,hv,Z,_,Z,_,_,Z,Z,⟨lp,lb⟩,_,Z,p',_,_,_,Z,Z,hw,Z,_,Z,_,_,Z,Z,⟨mp,mb⟩,_,_,Z,Z,⟨ig lp c1,ig mp c3⟩,_,Z,p,_,_,_,Z,Z,hv,Z,_,Z,_,_,Z,Z,⟨mp,mb⟩,_,Z,p',_,_,_,Z,Z,hw,Z,_,Z,_,_,Z,Z,⟨lp,lb⟩,_,_,Z,Z,⟨ig mp c2,ig lp c4⟩,iY,kk⟩
theorem EV(T:eg K mg t):bD P w K mg base dF 3 t.a_Q59 t.d_Q59 ["one","other"] (Bj K):=by
 refine T.F_Q59.ok DK (λvs H Q E h=>?_) (λcdv A outer s H vs Q E hr h=>?_)
 ·obtain⟨_,_,_,_,_,rfl,_⟩:=h;rfl
 obtain⟨v,w,r,n,m,rfl,hv,⟨pw,rfl,hw⟩,wr,m0,m24,hn,k⟩:=h;refine dI.ok (af (bA (aD dg (bW az (qv 1) ai) ai (aL _)) (ao hZ) aP) (ao (aG (df (EY T) hr T.m_Q55 T.F_Q55.kp T.b_Q55 (ad (qv 0) (ad (df (z5 T) hr T.m_Q53 T.F_Q53.kp T.b_Q53 (ad (bW az (qv 1) ai) (ad (bW az (qv 1) ai) ag aI) aI)) ag aF) ae))))) ?_
 nofun
 refine⟨_,Z,pw,_,_,_,Z,Z,hw,Z,Z,_,Z,bI (λz=>by injection z with z;omega) ?_⟩;refine⟨_,rfl,_,rfl,pw,_,_,_,rfl,rfl,hw,rfl,_,rfl,pw,_,_,_,rfl,rfl,hw,rfl,1,m,rfl,by omega,bX (n:=5) (by show((m:Int)).natAbs<32;omega) (by decide),λpr hpr=>?_⟩;have s1:=aj hpr (.tup [.int (eZ 1 m).1,.int (eZ 1 m).2]);have rr:RV K _ (.ref pr) (eZ 1 m):=RV.of (ah (H:=H) (a:=pr) (o:=.tup [.int (eZ 1 m).1,.int (eZ 1 m).2]));rw[FA m0] at rr s1 ⊢;refine⟨v,.ref pr,r,(1,(m:Int)),n,5,Z,hv.mono (aM.same s1),rr,wr,zW m0 m24,by omega,λpt hpt=>?_⟩;exact k _ _ (s1.trans (aj hpt _)) (RV.of ah)
theorem E7(T:eg K mg t):bD P w K mg base dF 1 t.a_Q37 t.d_Q37 ["one","other"] (lQ K):=by
 refine T.F_Q37.ok DS (λvs H Q E h=>?_) (λcdv A outer s H vs Q E hr h=>?_)
 ·obtain⟨_,_,_,_,_,_,rfl,_⟩:=h;rfl
 obtain⟨v,w,r,q,n,m,rfl,hv,hw,wr,wq,hz,k⟩:=h;refine dI.ok (ao (aG (eB mz (aN dC (bW az (qv 0) ai) (bW az (qv 1) ai)) (aN dC (bW az (qv 1) ai) (bW az (qv 0) ai)) (aL _)))) ?_;nofun
 obtain⟨p,rfl,hv⟩:=hv;obtain⟨p',rfl,hw⟩:=hw;have c1:=bX wr.top (show n≤4000 by omega);have c2:=bX wr.bot (show n≤4000 by omega);have c3:=bX wq.top (show m≤4000 by omega);have c4:=bX wq.bot (show m≤4000 by omega);refine⟨_,Z,p,_,_,_,Z,Z,hv,Z,_,Z,p',_,_,_,Z,Z,hw,Z,_,_,Z,Z,⟨c1,c4⟩,_,Z,p',_,_,_,Z,Z,hw,Z,_,Z,p,_,_,_,Z,Z,hv,Z,_,_,Z,Z,⟨c3,c2⟩,_,_,Z,Z,k⟩
theorem E1(T:eg K mg t):bD P w K mg base dF 2 t.a_Q48 t.d_Q48 ["one","other"] (vB K):=by
 refine T.F_Q48.ok DN (λvs H Q E h=>?_) (λcdv A outer s H vs Q E hr h=>?_)
 ·obtain⟨_,_,_,_,rfl,_⟩:=h;rfl
 obtain⟨v,w,r,q,rfl,hv,hw,ar,aq,k⟩:=h;refine dI.ok (af (bA (cu (df (E7 T) hr T.m_Q37 T.F_Q37.kp T.b_Q37 (ad (qv 1) (ad (qv 0) ag ae) ae))) (ao (aG (qv 1))) aP) (ao (aG (qv 0)))) ?_
 nofun
 refine⟨_,Z,_,Z,w,v,q,r,50,50,Z,hw,hv,aq.wf,ar.wf,by decide,_,Z,?_⟩
 cases c:cX q r with
 |true=>exact d0 ⟨_,Z,k _ (by unfold eJ;rw[if_pos c];exact hw)⟩
 |false=>exact cJ ⟨_,Z,k _ (by unfold eJ;rw[if_neg (by rw[c];exact L5)];exact hv)⟩
theorem EX(T:eg K mg t):bD P w K mg base dF 3 t.a_Q56 t.d_Q56 ["some"] (xH K):=by
 refine T.F_Q56.ok i9 (λvs H Q E h=>?_) (λcdv A outer s H vs Q E hr h=>?_)
 ·obtain⟨_,_,_,_,rfl,_⟩:=h;rfl
 obtain⟨a,xs,rs,n,rfl,hS,hR,hW,hlen,hbd,k⟩:=h;refine dI.ok (af (b8 1 i9.nd zh) (af (bS L9 Z (Er (qv 0)) (au (i:=2) i9.nd Z (by first|exact L8 Z|exact L7 Z)) (ao (BB (Dh hr) (qv 1) (bW az (qv 2) ai) (aN dP (zi (Dh hr) (qv 1) (bW az (qv 2) ai) ai ⟨Z,Z,Z,Z⟩) (bW az (qv 2) ai)) Z))) (af (b8 3 i9.nd (cU (v:=.ref t.c_NOUGHT) Z T.m_NOUGHT Z)) (af (bS L9 Z (ze (qv 1)) (ia Z (bi (au (i:=4) i9.nd Z (by first|exact L8 Z|exact L7 Z)) (bi (au (i:=5) i9.nd Z (by first|exact L8 Z|exact L7 Z)) c6))) (ao (b8 3 i9.nd (df (zY T) hr T.m_Q58 T.F_Q58.kp T.b_Q58 (ad (qv 3) (ad (df (z5 T) hr T.m_Q53 T.F_Q53.kp T.b_Q53 (ad (qv 5) (ad (qv 4) ag ae) ae)) ag aF) ae))))) (ao (aG (qv 3))))))) ?_
 nofun
 refine λD hDn=>⟨_,Z,?_⟩
 have sD:=aj hDn (.dK []);rcases hS with hS|hS
 ·refine .inl ⟨a,Z,⟨_,sD.seq hS⟩,dW (K:=K) (a:=a) (xs:=xs) (λi σ H'=>∃(x:Option V) (ps:List (Int×Int)),σ=[some (.ref a),some (.ref D),x,none,none,none]/\aB H H'/\H' D=some (.dK (nI ps))/\m9 n i ps/\i4 ps=iZ (rs.take i)) ⟨none,[],Z,sD,ah,m9.nil n,Z⟩ (λi σ H1 _ ⟨_,_,_,s1,_⟩=>s1.seq hS) ?_ ?_⟩
  ·rintro i y σ H1 hi ⟨x,ps,rfl,s1,hD1,ok,ev⟩;obtain⟨ry,hry,hyv⟩:=hR.at hi;have my:ry∈rs:=LQ hry;have hil:=(LR.mp hry).1;obtain⟨py,rfl,hSy⟩:=hyv.mono (aM.same s1);have el:(nI ps).length=ps.length:=LO _;have hlp:(nI ps).length<sizeLine:=by rw[el];exact be (by have:=ok.len;omega)
   refine⟨_,Z,D,Z,.inl ⟨_,.inl hD1⟩,_,Z,py,_,_,_,Z,Z,hSy,Z,_,nc.k (k:=Nv ry.2) hD1,_,Z,py,_,_,_,Z,Z,hSy,Z,sw ps ry.2,ry.1,p6 ps ry.2,Z,_,Z,_,Z,py,_,_,_,Z,Z,hSy,Z,D,_,Z,uh.k (k:=Nv ry.2) hD1 hlp,?_⟩;refine⟨_,gF ps ry.2 ry.1,Z,λb o q=>?_,?_,ok.add (hW ry my),?_⟩
   ·rw[aE (aX q hDn)];exact s1 b o q
   ·rw[pQ ps _ _ ok.nd];exact ah
   ·rw[lK,ev,MN,hry];exact(jW _ _).symm
  ·rintro σ H1 ⟨x,ps,rfl,s1,hD1,ok,ev⟩;rw[hR.1,M4] at ev;rw[hR.1] at ok;refine⟨_,Z,D,nI ps,Z,hD1,λob=>oy (d:=D) (ob:=ob) (kvs:=nI ps) (λj σ H'=>∃(u:V) (acc:R) (y4 y5:Option V),σ=[some (.ref a),some (.ref D),x,some u,y4,y5]/\aB H H'/\H' D=some (.frz ob (.dK (nI ps)))/\RV K H' u acc/\Wf (1+(n+9)*j) acc/\val acc=i4 (ps.take j)) ⟨_,(0,1),none,none,Z,?_,ah,⟨_,Z,T.q_NOUGHT _⟩,io,gJ⟩ (λi σ H1 ⟨_,_,_,_,_,_,z,_⟩=>z) ?_ ?_⟩
   ·intro b o q;rw[aE (aX q hDn)];exact s1 b o q
   ·rintro j kk v p σ H2 hkv ⟨u,acc,y4,y5,rfl,s2,hD2,r2,w2,ev2⟩ hp;have hkv':(ps.map λp=>((Nv p.1:dQ),V.int p.2))[j]?=some (kk,v):=hkv;rw[LX] at hkv';obtain⟨q,hq,e⟩:=Mn.mp hkv'
    cases e
    have mq:=LQ hq;have hjl:=(LR.mp hq).1;have wq:=ok.wf hlen mq;have bq:=ok.bot q mq;have e1:=aj hp (.tup [kV (Nv q.1),V.int q.2]);refine⟨p,_,Z,bH.of ah,Z,_,_,Z,_,_,Z,Z,?_⟩;have lj:(n+9)*(j+1)≤(n+9)*rs.length:=OB _ (by have:=ok.len;omega);rw[Qu] at lj hbd;refine⟨_,Z,_,Z,_,Z,q.2,q.1,Z,bq.1,bX bq.2 (by omega),λp1 g1=>?_⟩;have e2:=aj g1 (.tup [.int (eZ q.2 q.1).1,.int (eZ q.2 q.1).2]);refine⟨u,.ref p1,acc,eZ q.2 q.1,1+(n+9)*j,n+8,Z,(r2.mono (aM.same e1)).mono (aM.same e2),RV.of ah,w2,wq,by omega,λp2 g2=>?_⟩;have e3:=aj g2 (.tup [.int (bo acc (eZ q.2 q.1)).1,.int (bo acc (eZ q.2 q.1)).2]);have s3:=((e1.trans e2).trans e3);refine⟨_,bo acc (eZ q.2 q.1),_,_,Z,s2.trans s3,s3 _ _ hD2,RV.of ah,(jB w2 wq).mono (by rw[Qu];omega),?_⟩;rw[jo w2.pos wq.pos,lF bq.1,ev2,MN,hq];exact(jZ _ _).symm
   ·rintro σ H2 ⟨u,acc,y4,y5,rfl,s2,hD2,r2,w2,ev2⟩;have el:(nI ps).length=ps.length:=LO _;rw[el,M4] at ev2;have es:=xz (λr hr=>(hW r hr).red) w2.red (ev2.trans ev);rw[es] at r2;exact⟨_,Z,k u H2 s2 r2⟩
 ·refine .inr ⟨a,Z,⟨_,aM.same sD _ _ hS⟩,iE (K:=K) (a:=a) (xs:=xs) (λi σ H'=>∃(x:Option V) (ps:List (Int×Int)),σ=[some (.ref a),some (.ref D),x,none,none,none]/\aB H H'/\H' D=some (.dK (nI ps))/\m9 n i ps/\i4 ps=iZ (rs.take i)) ⟨none,[],Z,sD,ah,m9.nil n,Z⟩ (λi σ H1 _ ⟨_,_,_,s1,_⟩=>aM.same s1 _ _ hS) ?_ ?_⟩
  ·rintro i y σ H1 hi ⟨x,ps,rfl,s1,hD1,ok,ev⟩;obtain⟨ry,hry,hyv⟩:=hR.at hi;have my:ry∈rs:=LQ hry;have hil:=(LR.mp hry).1;obtain⟨py,rfl,hSy⟩:=hyv.mono (aM.same s1);have el:(nI ps).length=ps.length:=LO _;have hlp:(nI ps).length<sizeLine:=by rw[el];exact be (by have:=ok.len;omega)
   refine⟨_,Z,D,Z,.inl ⟨_,.inl hD1⟩,_,Z,py,_,_,_,Z,Z,hSy,Z,_,nc.k (k:=Nv ry.2) hD1,_,Z,py,_,_,_,Z,Z,hSy,Z,sw ps ry.2,ry.1,p6 ps ry.2,Z,_,Z,_,Z,py,_,_,_,Z,Z,hSy,Z,D,_,Z,uh.k (k:=Nv ry.2) hD1 hlp,?_⟩;refine⟨_,gF ps ry.2 ry.1,Z,λb o q=>?_,?_,ok.add (hW ry my),?_⟩
   ·rw[aE (aX q hDn)];exact s1 b o q
   ·rw[pQ ps _ _ ok.nd];exact ah
   ·rw[lK,ev,MN,hry];exact(jW _ _).symm
  ·rintro σ H1 ⟨x,ps,rfl,s1,hD1,ok,ev⟩;rw[hR.1,M4] at ev;rw[hR.1] at ok;refine⟨_,Z,D,nI ps,Z,hD1,λob=>oy (d:=D) (ob:=ob) (kvs:=nI ps) (λj σ H'=>∃(u:V) (acc:R) (y4 y5:Option V),σ=[some (.ref a),some (.ref D),x,some u,y4,y5]/\aB H H'/\H' D=some (.frz ob (.dK (nI ps)))/\RV K H' u acc/\Wf (1+(n+9)*j) acc/\val acc=i4 (ps.take j)) ⟨_,(0,1),none,none,Z,?_,ah,⟨_,Z,T.q_NOUGHT _⟩,io,gJ⟩ (λi σ H1 ⟨_,_,_,_,_,_,z,_⟩=>z) ?_ ?_⟩
   ·intro b o q;rw[aE (aX q hDn)];exact s1 b o q
   ·rintro j kk v p σ H2 hkv ⟨u,acc,y4,y5,rfl,s2,hD2,r2,w2,ev2⟩ hp;have hkv':(ps.map λp=>((Nv p.1:dQ),V.int p.2))[j]?=some (kk,v):=hkv;rw[LX] at hkv';obtain⟨q,hq,e⟩:=Mn.mp hkv'
    cases e
    have mq:=LQ hq;have hjl:=(LR.mp hq).1;have wq:=ok.wf hlen mq;have bq:=ok.bot q mq;have e1:=aj hp (.tup [kV (Nv q.1),V.int q.2]);refine⟨p,_,Z,bH.of ah,Z,_,_,Z,_,_,Z,Z,?_⟩;have lj:(n+9)*(j+1)≤(n+9)*rs.length:=OB _ (by have:=ok.len;omega);rw[Qu] at lj hbd;refine⟨_,Z,_,Z,_,Z,q.2,q.1,Z,bq.1,bX bq.2 (by omega),λp1 g1=>?_⟩;have e2:=aj g1 (.tup [.int (eZ q.2 q.1).1,.int (eZ q.2 q.1).2]);refine⟨u,.ref p1,acc,eZ q.2 q.1,1+(n+9)*j,n+8,Z,(r2.mono (aM.same e1)).mono (aM.same e2),RV.of ah,w2,wq,by omega,λp2 g2=>?_⟩;have e3:=aj g2 (.tup [.int (bo acc (eZ q.2 q.1)).1,.int (bo acc (eZ q.2 q.1)).2]);have s3:=((e1.trans e2).trans e3);refine⟨_,bo acc (eZ q.2 q.1),_,_,Z,s2.trans s3,s3 _ _ hD2,RV.of ah,(jB w2 wq).mono (by rw[Qu];omega),?_⟩;rw[jo w2.pos wq.pos,lF bq.1,ev2,MN,hq];exact(jZ _ _).symm
   ·rintro σ H2 ⟨u,acc,y4,y5,rfl,s2,hD2,r2,w2,ev2⟩;have el:(nI ps).length=ps.length:=LO _;rw[el,M4] at ev2;have es:=xz (λr hr=>(hW r hr).red) w2.red (ev2.trans ev);rw[es] at r2;exact⟨_,Z,k u H2 s2 r2⟩
theorem Fs(T:eg K mg t):bD P w K mg base dF 2 t.a_Q10 t.d_Q10 ["some"] (lO K):=by
 refine T.F_Q10.ok pK (λvs H Q E h=>?_) (λcdv A outer s H vs Q E hr h=>?_)
 ·obtain⟨_,_,_,rfl,_⟩:=h;rfl
 obtain⟨a,xs,ws,rfl,hS,al,hn,ok,k⟩:=h;refine dI.ok (af (b8 1 pK.nd ai) (af (bS L9 Z (bQ (qv 0)) (au (i:=2) pK.nd Z (by first|exact L8 Z|exact L7 Z)) (ao (b8 1 pK.nd (aN ft (qv 1) (aN gS (bW az (qv 2) ai) (df (og T) hr T.m_Q0 T.F_Q0.kp T.b_Q0 (ad (qv 1) (ad (bW az (qv 2) ai) ag aI) ae))))))) (ao (aG (bn (N':=["one","bottom"]) (src:=[none,some 1]) Z (by exact(bQ (qv 0))) (λ_ _ _ _ _=>(by exact(by exact au (i:=0) (by show Mg (["one","bottom"]:List Mj);decide +kernel) (by exact Z) (by first|exact L8 Z|exact L7 Z)))) (λ_ _ _ _ _=>bZ) (λ_ _ _ _ _=>(by exact(by exact(aN ft (by exact(aZ (aU (K:=K) (by exact Z)) (by exact(qv 0)) ai (by exact λ_ _=>Z))) (by exact(aN gS (by exact(qv 1)) (by exact(aZ (aU (K:=K) (by exact Z)) (by exact(qv 0)) ai (by exact λ_ _=>Z))))))))) (by exact⟨Z,Z,Z,Z,trivial⟩) Z (by decide +kernel) Z (by decide +kernel) (by exact aQ Z ⟨Z,trivial⟩)))))) ?_
 nofun
 have hlen:=al.len;rw[LO] at hlen;let Iv1:Nat->L2.St->Hp->Prop:=λi σ H'=>∃(B:Int) (x3:Option V),σ=[some (.ref a),some (.int B),x3]/\H'=H/\0<B/\B∣84/\∀w∈ws.take i,w.2.2.2∣B
 refine⟨_,Z,a,Z,⟨_,hS⟩,dW (K:=K) (a:=a) (xs:=xs) Iv1 ⟨1,none,Z,Z,by decide,⟨84,Z⟩,by simp⟩ (λi σ H1 _ ⟨_,_,_,e,_⟩=>by rw[e];exact hS) ?_ ?_⟩
 ·rintro i x σ H1 hx ⟨B,x3,rfl,rfl,b0,bd,all⟩;obtain⟨r,hr,px,rfl,hSx⟩:=al.at hx;rw[LX] at hr;obtain⟨w,hw,er⟩:=Mn.mp hr;subst er;have okw:=ok w (LQ hw);have c1:=okw.am.bot;have c2:=okw.am.bot';have B84:=Int.le_of_dvd (by decide) bd;have g0:0<(Int.gcd B w.2.2.2:Int):=cD (by omega);have g1:(Int.gcd B w.2.2.2:Int)≤w.2.2.2:=Int.le_of_dvd (by omega) (Int.gcd_dvd_right _ _);obtain⟨l0,l1,l2,l3⟩:=Aj b0 (show 0<w.2.2.2 by omega) bd okw.am.dvd;refine⟨_,Z,_,Z,px,_,_,_,Z,Z,hSx,Z,_,Z,_,Z,px,_,_,_,Z,Z,hSx,Z,B,w.2.2.2,Z,_,_,Z,Z,⟨by omega,by omega⟩,_,_,Z,Z,.inl ⟨by omega,by omega⟩,?_⟩;refine⟨_,_,Z,Z,l0,l1,λz hz=>?_⟩;rw[MN,hw] at hz;rcases Mh.mp hz with h|h
  ·exact Ro (all z h) l2
  ·have:z=w:=by simpa using h
   subst this;exact l3
 ·rintro σ H1 ⟨B,x3,rfl,rfl,b0,bd,all⟩;rw[hlen,M4] at all;have B84:=Int.le_of_dvd (by decide) bd;refine⟨_,Z,a,Z,⟨_,hS⟩,λD hD=>bC (cT hS) (λ_=>true) (λi=>V.int ((fm B ws).getD i 0)) hD (by omega) (λi x H' hi s' hx R E kR kE=>?_) λH4 s4 h4=>?_⟩
  ·obtain⟨r,hr,px,rfl,hSx⟩:=al.at hx;rw[LX] at hr;obtain⟨w,hw,er⟩:=Mn.mp hr;subst er;have okw:=ok w (LQ hw);have t':=aM.same (K:=K) s';have e:(fm B ws).getD i 0=w.2.2.1*(B/w.2.2.2):=ax 0 (by unfold fm;rw[LX,hw];rfl);have q:=kR Z _ (aB.refl _);rw[e] at q;have:=okw.am.bot;have:=okw.am.bot';have:=okw.am.top;have:=okw.am.top';exact⟨eU.set Z,_,Z,px,_,_,_,Z,Z,t' _ _ hSx,Z,_,Z,_,Z,px,_,_,_,Z,Z,t' _ _ hSx,Z,_,_,Z,Z,⟨by omega,by omega⟩,_,_,Z,Z,.inl ⟨by omega,by omega⟩,q⟩
  ·refine k D B H4 s4 hD b0 bd all ?_;rw[h4,show xs.length=(fm B ws).length by unfold fm;rw[LO];exact hlen,cr 0 V.int]
theorem Aa(T:eg K mg t):bD P w K mg base dF 1 t.a_Q15 t.d_Q15 ["work","turn"] (pF K):=by
 refine T.F_Q15.ok DX (λvs H Q E h=>?_) (λcdv A outer s H vs Q E hr h=>?_)
 ·obtain⟨_,_,_,rfl,_⟩:=h;rfl
 obtain⟨v,w,t₀,rfl,⟨p,x,rfl,hS,rx⟩,k⟩:=h;refine dI.ok (ao (aG (rh gY gY (bW az (qv 0) ai) (qv 1) (bW az (qv 0) ai)))) ?_;nofun
 refine⟨_,Z,p,_,_,_,Z,Z,hS,Z,_,Z,_,_,Z,Z,_,Z,?_⟩;by_cases c:w.1≤t₀
 ·refine cn (by omega) ?_;have e:fu w t₀=decide ((t₀:Int)≤(w.2.1:Int)):=by
   unfold fu;rw[decide_eq_true c,RH];exact decide_eq_decide.mpr (by omega)
  rw[e] at k;exact⟨_,Z,p,_,_,_,Z,Z,hS,Z,_,_,Z,Z,k⟩
 ·refine bI (by omega) ?_;have e:fu w t₀=false:=by
   unfold fu;rw[decide_eq_false c,NY]
  rw[e] at k;exact k
theorem Fq(T:eg K mg t):bD P w K mg base dF 1 t.a_Q11 t.d_Q11 ["count"] (lP K):=by
 refine T.F_Q11.ok DY (λvs H Q E h=>?_) (λcdv A outer s H vs Q E hr h=>?_)
 ·obtain⟨_,rfl,_⟩:=h;rfl
 obtain⟨n,rfl,hn,k⟩:=h;refine dI.ok (ao (aG (bn (N':=["work","count"]) (src:=[none,some 0]) Z (by exact(bU Z T.z_range (ad (qv 0) ag ae))) (λ_ _ _ _ _=>(by exact(by exact au (i:=0) (by show Mg (["work","count"]:List Mj);decide +kernel) (by exact Z) (by first|exact L8 Z|exact L7 Z)))) (λ_ _ _ _ _=>bZ) (λ_ _ _ _ _=>(by exact(by exact(aN pT (by exact(bM (ad dM ag aH))) (by exact(qv 1)))))) (by exact⟨Z,Z,Z,Z,trivial⟩) Z (by decide +kernel) Z (by decide +kernel) (by exact aQ Z ⟨Z,trivial⟩)))) ?_;nofun
 refine⟨_,Z,n,Z,by omega,by omega,λD hD=>rS (J:=CO 0 n) (n:=n) (λi ys H'=>∃rows:List Addr,ys=rows.map V.ref/\rows.length=i/\rows.Nodup/\D∉rows/\(∀r∈rows,H r=none)/\aB H H'/\H' D=some (.lst ys)/\∀r∈rows,H' r=some (.lst (mf n λ_=>false))) ⟨[],Z,Z,PZ,(λz=>by cases z),(λr hr=>by cases hr),aj hD _,ah,λr hr=>by cases hr⟩ (λi ys H' hi _=>hi) (λys H' ⟨rows,e1,e2,e3,e4,e5,e6,e7,e8⟩=>⟨LN _,k D rows H' e6 hD e5 ⟨by rw[e7,e1],e2,e3,e4,λi r e=>e8 r (LQ e)⟩⟩) ?_⟩;rintro i ys H1 x H2 hi ⟨rows,rfl,e2,e3,e4,e5,e6,e7,e8⟩ ⟨rfl,rfl⟩ R E kR kE;refine⟨eU.set Z,?_⟩;refine⟨A5,λq hq=>?_⟩;have s1:=aj hq (.lst [.bl false]);refine⟨_,Z,q,.bl false,n,Z,Z,ah,by omega,λr hr=>?_⟩;have s2:=aj hr (.lst (MC n (.bl false)));have s12:=s1.trans s2;have nr:r∉rows:=λm=>by rw[s1 _ _ (e8 r m)] at hr;cases hr
 have nD:r≠D:=λz=>by subst z;rw[s1 _ _ e7] at hr;cases hr
 have er:MC n (V.bl false)=mf n λ_=>false:=by
  unfold mf;apply Pq;intro j;rw[O8,LX];by_cases c:j<n
  ·rw[if_pos c,Nz c];rfl
  ·rw[if_neg c,MV (by rw[Mw];omega)];rfl
 have hD4:=s12 _ _ e7;refine kR (.ref r) _ hD4 (be (by rw[LO];omega)) ⟨rows++[r],by rw[Ni];rfl,by rw[MO,e2];rfl,?_,?_,λz hz=>?_,λb o q=>?_,ah,λz hz=>?_⟩
 ·rw[Nd];exact⟨e3,MU.mpr ⟨(λz=>by cases z),PZ⟩,λa ha b hb=>by rw[LP.mp hb];exact λz=>nr (by rw[←z];exact ha)⟩
 ·intro m;rcases Mh.mp m with z|z
  ·exact e4 z
  ·exact nD (LP.mp z).symm
 ·rcases Mh.mp hz with y|y
  ·exact e5 z y
  ·rw[LP.mp y]
   cases c:H r with
   |none=>rfl
   |some o=>rw[s1 _ _ (e6 _ _ c)] at hr;cases hr
 ·rw[aE (aX q hD)];exact s12 _ _ (e6 _ _ q)
 ·rcases Mh.mp hz with y|y
  ·rw[aE (show z≠D from λw=>e4 (by rw[←w];exact y))];exact s12 _ _ (e8 z y)
  ·rw[LP.mp y,aE nD,ah,er]
theorem Fe(T:eg K mg t):bD P w K mg base dF 1 t.a_Q27 t.d_Q27 ["leanings","lean"] (qR K):=by
 refine T.F_Q27.ok hJ (λvs H Q E h=>?_) (λcdv A outer s H vs Q E hr h=>?_)
 ·obtain⟨_,_,_,_,_,_,_,rfl,_⟩:=h;rfl
 obtain⟨l,v,rows,n,L,a,b,rfl,m0,⟨p,rfl,hp⟩,ha,hb,hn,k⟩:=h;refine dI.ok (af (b8 2 hJ.nd (bW az (qv 1) ai)) (af (b8 3 hJ.nd (bW az (qv 1) ai)) (af (b8 4 hJ.nd (bJ (jg Z) (by rfl) T.z_list OY (ad (jA Z T.z_range (ad (ap aA (by rfl) T.z_len MH (ad (qv 0) ag ae)) ag aF)) ag aF))) (af (dY (i:=5) (N':=["work","ahead","leanings"]) (src:=[none,some 2,some 0]) hJ.nd Z (by first|exact L8 Z|exact L7 Z) Z (by exact(bQ (qv 4))) (λ_ _ _ _ _=>(by exact(by exact au (i:=0) (by show Mg (["work","ahead","leanings"]:List Mj);decide +kernel) (by exact Z) (by first|exact L8 Z|exact L7 Z)))) (λ_ _ _ _ _=>(cE (eY (iP (aD dg (by exact(qv 0)) (by exact(qv 1)) (aL _)) (gc (cu (by exact(aZ (cf (K:=K) (by exact Z)) (by exact(aZ (cf (K:=K) (by exact Z)) (by exact(qv 2)) (by exact(qv 1)) (by exact λ_ _=>Z))) (by exact(qv 0)) (by exact λ_ _=>Z))))))))) (λ_ _ _ _ _=>(by exact(by exact(qv 0)))) (by exact⟨Z,Z,Z,Z,⟨Z,Z,Z,Z,trivial⟩⟩) Z (by decide +kernel) Z (by decide +kernel) (by exact aQ Z ⟨Z,⟨Z,trivial⟩⟩)) (af (dY (i:=6) (N':=["work","behind","leanings"]) (src:=[none,some 3,some 0]) hJ.nd Z (by first|exact L8 Z|exact L7 Z) Z (by exact(bQ (qv 4))) (λ_ _ _ _ _=>(by exact(by exact au (i:=0) (by show Mg (["work","behind","leanings"]:List Mj);decide +kernel) (by exact Z) (by first|exact L8 Z|exact L7 Z)))) (λ_ _ _ _ _=>(cE (eY (iP (aD dg (by exact(qv 0)) (by exact(qv 1)) (aL _)) (gc (cu (by exact(aZ (cf (K:=K) (by exact Z)) (by exact(aZ (cf (K:=K) (by exact Z)) (by exact(qv 2)) (by exact(qv 0)) (by exact λ_ _=>Z))) (by exact(qv 1)) (by exact λ_ _=>Z))))))))) (λ_ _ _ _ _=>(by exact(by exact(qv 0)))) (by exact⟨Z,Z,Z,Z,⟨Z,Z,Z,Z,trivial⟩⟩) Z (by decide +kernel) Z (by decide +kernel) (by exact aQ Z ⟨Z,⟨Z,trivial⟩⟩)) (ao (bS L9 Z (bQ (qv 6)) (au (i:=7) hJ.nd Z (by first|exact L8 Z|exact L7 Z)) (ao (bS L9 Z (bQ (qv 5)) (au (i:=8) hJ.nd Z (by first|exact L8 Z|exact L7 Z)) (ao (em dM (gQ (bW bt (qv 0) (qv 7)) (qv 8) eh)))))))))))) ?_
 nofun
 refine⟨_,Z,p,_,_,_,Z,Z,hp,Z,?_⟩;refine⟨_,Z,p,_,_,_,Z,Z,hp,Z,?_⟩;have lr:(rows.map V.ref).length=n:=by rw[LO];exact m0.len
 refine⟨_,Z,l,_,Z,.inl (aS.of m0.top),_,Z,λpr hpr=>?_⟩;rw[lr];have s1:=aj hpr (.rng 0 n);refine⟨pr,n,Z,ah,by omega,λq hq=>?_⟩;have s2:=aj hq (.lst ((B.upTo n).map V.int));have hq2:upd (upd H pr (.rng 0 n)) q (.lst ((B.upTo n).map V.int)) q=some (.lst ((B.upTo n).map V.int)):=ah;have s12:=s1.trans s2;generalize upd (upd H pr (.rng 0 n)) q (.lst ((B.upTo n).map V.int))=H2 at hq2 s12 ⊢;have lu:((B.upTo n).map V.int).length=n:=by unfold B.upTo;rw[LO,LO,Mw]
 have m2:=m0.same s12;refine⟨_,Z,q,Z,⟨_,aS.of hq2⟩,λD1 hD1=>bC (cT (aS.of hq2)) (λi=>decide (i=a)||L a i) (λi=>V.int (i:Nat)) hD1 (by rw[lu];omega) (λi x H' hi s' hx R E kR kE=>?_) λH3 s3 h3=>?_⟩
 ·have hin:i<n:=by rw[lu] at hi;exact hi
  have hxn:x=V.int (i:Nat):=by
   rw[LX] at hx;unfold B.upTo at hx;rw[LX,Nz hin] at hx;exact(MB hx).symm
  subst hxn;have Ms:=m2.same s';refine⟨eU.set Z,?_⟩;refine⟨_,Z,_,Z,Z,_,Z,?_⟩;by_cases c:i=a
  ·refine cn (by rw[c]) (d0 ?_);exact⟨_,Z,kR (by rw[decide_eq_true c];rfl) _ (aB.refl _)⟩
  ·refine bI (λz=>c (by injection z with z;omega)) ?_;obtain⟨rr,hrr⟩:∃r,rows[a]?=some r:=⟨_,LL (by rw[m0.len];omega)⟩;refine⟨_,Z,_,Z,l,_,_,_,Z,Z,aS.of Ms.top,aJ (v:=V.ref rr) (by rw[LX,hrr];rfl),_,Z,rr,_,_,_,Z,Z,aS.of (Ms.row _ _ hrr),aJ (gM (by omega)),_,Z,?_⟩
   cases cl:L a i with
   |true=>exact d0 ⟨_,Z,kR (by rw[cl,NS]) _ (aB.refl _)⟩
   |false=>exact cJ (kE (by rw[decide_eq_false c,cl];rfl) _ (aB.refl _))
 rw[lu] at h3;have hq3:=s3 _ _ hq2;have m3:=m2.same s3;refine⟨_,Z,q,Z,⟨_,aS.of hq3⟩,λD2 hD2=>bC (cT (aS.of hq3)) (λi=>decide (i=b)||L i b) (λi=>V.int (i:Nat)) hD2 (by rw[lu];omega) (λi x H' hi s' hx R E kR kE=>?_) λH4 s4 h4=>?_⟩
 ·have hin:i<n:=by rw[lu] at hi;exact hi
  have hxn:x=V.int (i:Nat):=by
   rw[LX] at hx;unfold B.upTo at hx;rw[LX,Nz hin] at hx;exact(MB hx).symm
  subst hxn;have Ms:=m3.same s';refine⟨eU.set Z,?_⟩;refine⟨_,Z,_,Z,Z,_,Z,?_⟩;by_cases c:i=b
  ·refine cn (by rw[c]) (d0 ?_);exact⟨_,Z,kR (by rw[decide_eq_true c];rfl) _ (aB.refl _)⟩
  ·refine bI (λz=>c (by injection z with z;omega)) ?_;obtain⟨rr,hrr⟩:∃r,rows[i]?=some r:=⟨_,LL (by rw[m0.len];omega)⟩;refine⟨_,Z,_,Z,l,_,_,_,Z,Z,aS.of Ms.top,aJ (v:=V.ref rr) (by rw[LX,hrr];rfl),_,Z,rr,_,_,_,Z,Z,aS.of (Ms.row _ _ hrr),aJ (gM (by omega)),_,Z,?_⟩
   cases cl:L i b with
   |true=>exact d0 ⟨_,Z,kR (by rw[cl,NS]) _ (aB.refl _)⟩
   |false=>exact cJ (kE (by rw[decide_eq_false c,cl];rfl) _ (aB.refl _))
 rw[lu] at h4;have h3':=s4 _ _ h3;have m4:=m3.same s4;have s04:=(s12.trans s3).trans s4;have nD:∀r∈rows,H r≠none:=λr hr z=>by obtain⟨xs,e⟩:=m0.ls r hr;rw[e] at z;cases z
 have n1:D1∉rows:=λz=>by obtain⟨xs,e⟩:=m2.ls _ z;rw[hD1] at e;cases e
 have n2:D2∉rows:=λz=>by obtain⟨xs,e⟩:=m3.ls _ z;rw[hD2] at e;cases e
 generalize hbs:(range n).filter (λi=>decide (i=a)||L a i)=bs at h3';generalize hls:(range n).filter (λi=>decide (i=b)||L i b)=lns at h4;have bsI:∀j,j∈bs↔j<n/\(decide (j=a)||L a j)=true:=λj=>by rw[←hbs,Mb,LW]
 have lnI:∀j,j∈lns↔j<n/\(decide (j=b)||L j b)=true:=λj=>by rw[←hls,Mb,LW]
 let Iv1:Nat->L2.St->Hp->Prop:=λi σ H'=>∃x7 x8:Option V,σ=[some (.ref l),some (.ref p),some (.int (a:Nat)),some (.int (b:Nat)),some (.ref q),some (.ref D1),some (.ref D2),x7,x8]/\Kp rows H4 H'/\oQ H' l rows n (λu w=>L u w||((lns.take i).contains u&&bs.contains w))
 refine⟨_,Z,D2,Z,⟨_,aS.of h4⟩,dW (K:=K) (a:=D2) (xs:=lns.map λi=>V.int (i:Nat)) Iv1 ⟨none,none,Z,Kp.same (aB.refl _) m4.ls,m4.congr λi j _ _=>by rw[Sy];simp⟩ (λi σ H' _ ⟨_,_,_,kp,_⟩=>aS.of (kp.keep _ _ n2 h4)) ?_ ?_⟩
 ·rintro i x σ H5 hx ⟨x7,x8,rfl,kp5,m5⟩;rw[LX] at hx;obtain⟨u,hu,rfl⟩:=Mn.mp hx;have hun:=((lnI u).mp (LQ hu)).1;obtain⟨rr,hrr⟩:∃r,rows[u]?=some r:=⟨_,LL (by rw[m0.len];omega)⟩;have h35:=kp5.keep _ _ n1 h3';let Iv2:Nat->L2.St->Hp->Prop:=λj σ H'=>∃x8:Option V,σ=[some (.ref l),some (.ref p),some (.int (a:Nat)),some (.int (b:Nat)),some (.ref q),some (.ref D1),some (.ref D2),some (.int (u:Nat)),x8]/\Kp rows H4 H'/\oQ H' l rows n (λu' w=>(L u' w||((lns.take i).contains u'&&bs.contains w))||(decide (u'=u)&&(bs.take j).contains w))
  refine⟨_,Z,D1,Z,⟨_,aS.of h35⟩,dW (K:=K) (a:=D1) (xs:=bs.map λi=>V.int (i:Nat)) Iv2 ⟨_,Z,kp5,m5.congr λi j _ _=>by rw[Sy];simp⟩ (λj σ H' _ ⟨_,_,kp,_⟩=>aS.of (kp.keep _ _ n1 h3')) ?_ ?_⟩
  ·rintro j y σ H6 hy ⟨x8,rfl,kp6,m6⟩;rw[LX] at hy;obtain⟨w,hw,rfl⟩:=Mn.mp hy;have hwn:=((bsI w).mp (LQ hw)).1;have row:=m6.row _ _ hrr;refine⟨_,Z,_,Z,l,_,_,_,Z,Z,aS.of m6.top,aJ (v:=V.ref rr) (by rw[LX,hrr];rfl),_,Z,rr,_,_,w,Z,Z,row,iC (by rw[jy];exact hwn),?_⟩;refine⟨_,Z,kp6.trans (Kp.up (LQ hrr) m6.ls _),(m6.set hrr hwn).congr λi' j' _ _=>?_⟩;rw[MN,hw];show(_||(decide (i'=u)&&(bs.take j).contains j')||(decide (i'=u)&&decide (j'=w)))=(_||(decide (i'=u)&&(bs.take j++[w]).contains j'));rw[show(bs.take j++[w]).contains j'=((bs.take j).contains j'||decide (j'=w)) by simp[OD,decide_or],and_or_distrib_left,Tx]
  ·rintro σ H6 ⟨x8,rfl,kp6,m6⟩;refine⟨_,_,Z,kp6,m6.congr λi' j' _ _=>?_⟩;rw[LO,M4,MN,hu];show(L i' j'||((lns.take i).contains i'&&bs.contains j')||(decide (i'=u)&&bs.contains j'))=(L i' j'||((lns.take i++[u]).contains i'&&bs.contains j'));rw[show(lns.take i++[u]).contains i'=((lns.take i).contains i'||decide (i'=u)) by simp[OD,decide_or],and_or_distrib_right,Tx]
 ·rintro σ H5 ⟨x7,x8,rfl,kp5,m5⟩;rw[LO,M4] at m5;refine k H5 ((Kp.same s04 m0.ls).trans kp5) (m5.congr λi j hi hj=>?_);unfold qk
  congr 1
  have e1:lns.contains i=(decide (i=b)||L i b):=by rw[M6,M5,lnI];exact⟨λz=>z.2,λz=>⟨hi,z⟩⟩
  have e2:bs.contains j=(decide (j=a)||L a j):=by rw[M6,M5,bsI];exact⟨λz=>z.2,λz=>⟨hj,z⟩⟩
  rw[e1,e2]
theorem Db(T:eg K mg t):bD P w K mg base dF 2 t.a_Q4 t.d_Q4 ["count","leans"] (kT K):=by
 refine T.F_Q4.ok xR (λvs H Q E h=>?_) (λcdv A outer s H vs Q E hr h=>?_)
 ·obtain⟨_,_,_,rfl,_⟩:=h;rfl
 obtain⟨n,v,es,rfl,⟨p,xs,rfl,hS,al⟩,ok,hn,k⟩:=h;refine dI.ok (af (b8 2 xR.nd (df (Fq T) hr T.m_Q11 T.F_Q11.kp T.b_Q11 (ad (qv 0) ag ae))) (af (bS L9 Z (cW (qv 1)) (au (i:=3) xR.nd Z (by first|exact L8 Z|exact L7 Z)) (ao (cK (df (Fe T) hr T.m_Q27 T.F_Q27.kp T.b_Q27 (ad (qv 2) (ad (qv 3) ag ae) ae))))) (ao (aG (qv 2))))) ?_
 nofun
 refine⟨_,Z,n,Z,hn,λl rows H1 s1 hl hr m1=>?_⟩;have hS1:=aM.same (K:=K) s1 _ _ hS;have sm:∀H',Kp rows H1 H'->aB H H':=λH' kp b o e=>kp.keep b o (λz=>by rw[hr b z] at e;cases e) (s1 _ _ e)
 let Iv1:Nat->L2.St->Hp->Prop:=λi σ H'=>∃(L:Nat->Nat->Bool) (x4:Option V),σ=[some (.int n),some (.ref p),some (.ref l),x4]/\Kp rows H1 H'/\oQ H' l rows n L/\GA n (es.take i) L
 refine⟨_,Z,p,Z,⟨_,hS1⟩,iE (K:=K) (a:=p) (xs:=xs) Iv1 ⟨_,none,Z,Kp.same (aB.refl _) m1.ls,m1,by rw[Sy];exact Cy n⟩ (λi σ H' _ ⟨_,_,_,kp,_⟩=>aM.kp (K:=K) kp _ _ hS1) ?_ ?_⟩
 ·rintro i x σ H2 hx ⟨L,x4,rfl,kp2,m2,c2⟩;obtain⟨⟨a,b⟩,hd,lv⟩:=al.at hx;have e:=ok _ (LQ hd);refine⟨_,Z,_,Z,l,x,rows,n,L,a,b,Z,m2,(lv.mono (aM.same s1)).mono (aM.kp kp2),e.1,e.2,hn,λH3 kp3 m3=>?_⟩;refine⟨_,_,Z,kp2.trans kp3,m3,?_⟩;rw[MN,hd];exact Cz (λe he=>ok e (PM he)) c2 e.1 e.2
 ·rintro σ H2 ⟨L,x4,rfl,kp2,m2,c2⟩;rw[al.len,M4] at c2;exact⟨_,Z,k l rows L H2 (sm _ kp2) m2 c2⟩
theorem Hn(T:eg K mg t):bD P w K mg base dF 2 t.a_Q5 t.d_Q5 ["works","left"] (kQ K):=by
 refine T.F_Q5.ok uD (λvs H Q E h=>?_) (λcdv A outer s H vs Q E hr h=>?_)
 ·obtain⟨_,_,_,_,rfl,_⟩:=h;rfl
 obtain⟨v,q,ws,ls,rfl,⟨p,xs,rfl,hS,al⟩,hw,hq,hl,k⟩:=h;refine dI.ok (af (b8 2 uD.nd (bM ag)) (af (bS L9 Z (cW (qv 0)) (au (i:=3) uD.nd Z (by first|exact L8 Z|exact L7 Z)) (af (dY (i:=4) (N':=["place","turn","work"]) (src:=[none,none,some 3]) uD.nd Z (by first|exact L8 Z|exact L7 Z) Z (by exact(k8 Z T.z_enumerate (ad (qv 1) ag ae))) (λ_ _ _ _ _=>(by exact(by exact gP (K:=K) (n:=2) (by exact Z) (by exact Z) (by exact bi (by exact au (i:=0) (by show Mg (["place","turn","work"]:List Mj);decide +kernel) (by exact Z) (by first|exact L8 Z|exact L7 Z)) (by exact bi (by exact au (i:=1) (by show Mg (["place","turn","work"]:List Mj);decide +kernel) (by exact Z) (by first|exact L8 Z|exact L7 Z)) c6))))) (λ_ _ _ _ _=>(cE (cu (by exact(fU (Aa T) (by exact hr.mono (by decide)) (by exact Z) T.m_Q15 T.F_Q15.kp T.b_Q15 (by exact .nil) (by exact n9) (ad (by exact(qv 2)) (ad (by exact(qv 1)) ag ae) ae)))))) (λ_ _ _ _ _=>(by exact(by exact(qv 0)))) (by exact⟨Z,Z,Z,Z,trivial⟩) Z (by decide +kernel) Z (by decide +kernel) (by exact aQ Z ⟨Z,trivial⟩)) (ao (cK (fw MK PySem.F.slot_list_append PySem.F.type_list_append bV (qv 2) (ad (mj (aD fV (ap aA (by rfl) T.z_len MH (ad (qv 4) ag ae)) ai (aL _)) (bB (ad (bW bt (qv 4) ai) (ad (bW bt (qv 4) (iQ f7 ai)) ag aI) aI)) gf) ag Bh)))))) (ao (aG (qv 2))))) ?_
 nofun
 have hlen:=al.len;refine⟨(by show 0≤sizeLine;exact Mx _),λl h0=>?_⟩;have s0:=aj h0 (.lst []);let Iv1:Nat->L2.St->Hp->Prop:=λi σ H'=>∃(ys:List V) (x4 x5:Option V),σ=[some (.ref p),some (.ref q),some (.ref l),x4,x5]/\aB H H'/\H' l=some (.lst ys)/\cO (uf K H') ys ((ws.take i).map (bw ls))
 refine⟨_,Z,p,Z,⟨_,aM.same (K:=K) s0 _ _ hS⟩,iE (K:=K) (a:=p) (xs:=xs) Iv1 ⟨[],none,none,Z,s0,ah,.nil⟩ (λi σ H1 _ ⟨_,_,_,_,sm,_⟩=>aM.same sm _ _ hS) ?_ ?_⟩
 ·rintro i x σ H1 hx ⟨ys,x4,x5,rfl,s1,hl1,al1⟩;obtain⟨w,hwi,wv⟩:=al.at hx;have hq1:=aM.same (K:=K) s1 _ _ hq;have nl:(aC ls).length=ls.length:=LO _;refine⟨_,Z,q,Z,⟨_,hq1⟩,λD hD=>bC (oU hq1) (λi=>fu w (ls.getD i 0)) (λi=>V.int i) hD (by omega) (λj y H' hj s' hy R E kR kE=>?_) λH4 s4 h4=>?_⟩
  ·obtain⟨pt,z,rfl,hz,hpt⟩:=hy;obtain⟨z',hz',rfl⟩:∃z',ls[j]?=some z'/\V.int (z':Nat)=z:=by
    unfold aC at hz;rw[LX] at hz;exact Mn.mp hz
   rw[ax 0 hz'] at kR kE;refine⟨pt,_,Z,bH.of hpt,Z,_,_,Z,_,_,Z,Z,(eU.set Z).set' Z,?_⟩;refine⟨_,Z,_,Z,x,w,z',Z,wv.mono (aM.same (s1.trans s')),_,Z,?_⟩
   cases c:fu w z' with
   |true=>exact d0 ⟨_,Z,kR c _ (aB.refl _)⟩
   |false=>exact cJ (kE c _ (aB.refl _))
  rw[nl] at h4
  replace h4:H4 D=some (.lst ((gg ls w).map λi:Nat=>V.int i)):=h4
  have hl4:=s4 _ _ hl1;have ne:D≠l:=λz=>by subst z;rw[hl1] at hD;cases hD
  have hle:=al1.len;rw[LO,Of] at hle;have ewi:(ws.take (i+1)).map (bw ls)=(ws.take i).map (bw ls)++[bw ls w]:=by
   rw[MN,hwi,Ni];rfl
  refine⟨_,Z,.inl ⟨Z,_,aS.of hl4⟩,_,Z,D,_,Z,.inl (aS.of h4),_,_,Z,Z,_,Z,?_⟩
  cases c:gg ls w with
  |nil=>
   rw[c] at h4;refine cJ ?_;refine⟨l,_,_,Z,Z,hl4,be (by omega),?_⟩;refine⟨_,_,_,Z,?_,ah,?_⟩
   ·intro b o e;rw[aE (aX e h0)];exact s4 _ _ (s1 _ _ e)
   ·rw[ewi];refine(al1.mono λv d m=>m.mono ((aM.same s4).trans (aM.up hl4 _))).snoc ?_;unfold bw;rw[c];rfl
  |cons a r=>
   rw[c] at h4;refine cn (by show(0:Int)<((map (λi:Nat=>V.int i) (a::r)).length:Int);rw[LO,MS];omega) ?_;have hlast:qi ((a::r).map λi:Nat=>V.int i) (-1)=some (.int ((a::r).getLast (by simp):Nat)):=by
    have e:=Pi (show(a::r)≠[] by simp);have e2:(a::r).map (λi:Nat=>V.int i)=(a::r).dropLast.map (λi:Nat=>V.int i)++[V.int ((a::r).getLast (by simp):Nat)]:=by
     conv=>lhs;rw[←e]
     rw[Ni];rfl
    rw[e2];exact m7 _ _
   have hfst:qi ((a::r).map λi:Nat=>V.int i) 0=some (.int (a:Nat)):=aJ (j:=0) Z;refine⟨_,Z,D,_,_,_,Z,Z,aS.of h4,hfst,_,Z,_,Z,D,_,_,_,Z,Z,aS.of h4,hlast,iY,λpt hpt=>?_⟩;have s5:=aj hpt (.tup [.int a,.int ((a::r).getLast (by simp):Nat)]);have hl5:=s5 _ _ hl4;refine⟨l,_,_,Z,Z,hl5,be (by omega),?_⟩;refine⟨_,_,_,Z,?_,ah,?_⟩
   ·intro b o e;rw[aE (aX e h0)];exact s5 _ _ (s4 _ _ (s1 _ _ e))
   ·rw[ewi];refine(al1.mono λv d m=>m.mono (((aM.same s4).trans (aM.same s5)).trans (aM.up hl5 _))).snoc ?_;unfold bw;rw[c];exact⟨pt,Z,aM.up (K:=K) hl5 _ _ _ (bH.of ah)⟩
 ·rintro σ H1 ⟨ys,x4,x5,rfl,s1,hl1,al1⟩;rw[hlen,M4] at al1;exact⟨_,Z,k l ys H1 s1 h0 hl1 al1⟩
theorem zX(T:eg K mg t):bD P w K mg base dF 1 t.a_Q60 t.d_Q60 ["windows","begin","end"] (Bk K):=by
 refine T.F_Q60.ok DJ (λvs H Q E h=>?_) (λcdv A outer s H vs Q E hr h=>?_)
 ·obtain⟨_,_,_,_,rfl,_⟩:=h;rfl
 obtain⟨l,xs,os,p,rfl,hS,al,hn,k⟩:=h;refine dI.ok (ao (aG (bn (N':=["number","window","begin","end"]) (src:=[none,none,some 1,some 2]) Z (by exact(rg Z T.z_enumerate (ad (qv 0) ag ae))) (λ_ _ _ _ _=>(by exact(by exact gP (K:=K) (n:=2) (by exact Z) (by exact Z) (by exact bi (by exact au (i:=0) (by show Mg (["number","window","begin","end"]:List Mj);decide +kernel) (by exact Z) (by first|exact L8 Z|exact L7 Z)) (by exact bi (by exact au (i:=1) (by show Mg (["number","window","begin","end"]:List Mj);decide +kernel) (by exact Z) (by first|exact L8 Z|exact L7 Z)) c6))))) (λ_ _ _ _ _=>(cE (eY (gO (aD uJ (by exact(qv 1)) gf (aL _)) (gO (aD gY (by exact(qv 2)) (by exact(aZ (aU (K:=K) (by exact Z)) (by exact(qv 1)) ai (by exact λ_ _=>Z))) (aL _)) (gN (aD gY (by exact(aZ (aU (K:=K) (by exact Z)) (by exact(qv 1)) ai (by exact λ_ _=>Z))) (by exact(qv 3)) (aL _)))))))) (λ_ _ _ _ _=>(by exact(by exact(qv 0)))) (by exact⟨Z,Z,Z,Z,⟨Z,Z,Z,Z,trivial⟩⟩) Z (by decide +kernel) Z (by decide +kernel) (by exact aQ Z ⟨Z,⟨Z,trivial⟩⟩)))) ?_;nofun
 have hlen:=al.len;refine⟨_,Z,l,Z,⟨_,hS⟩,λD hD=>bC (Bc hS) (λi=>fc p.1 p.2 (os.getD i none)) (λi=>V.int i) hD (by omega) (λi y H' hi s' hx R E kR kE=>?_) λH4 s4 h4=>?_⟩
 ·obtain⟨pt,x,rfl,hx,hpt⟩:=hx;obtain⟨o,ho,ow⟩:=al.at hx;have eo:os.getD i none=o:=ax none ho;rw[eo] at kR kE;refine⟨pt,_,Z,bH.of hpt,Z,_,_,Z,_,_,Z,Z,(eU.set Z).set' Z,?_⟩
  cases o with
  |none=>
   obtain rfl:x=.non:=ow;exact⟨_,Z,Z,_,Z,cJ (cJ (kE Z _ (aB.refl _)))⟩
  |some q=>
   obtain⟨pw,rfl,hw⟩:=ow;have hw':=aM.same (K:=K) s' _ _ hw;refine⟨_,Z,Z,_,Z,d0 ?_⟩;refine⟨_,Z,_,Z,pw,_,_,_,Z,Z,hw',Z,_,_,Z,Z,_,Z,?_⟩;by_cases c:p.1≤q.1
   ·refine cn (by omega) ?_;refine⟨_,Z,pw,_,_,_,Z,Z,hw',Z,_,Z,_,_,Z,Z,_,Z,?_⟩;by_cases c':q.2≤p.2
    ·refine cn (by omega) ?_;exact⟨_,Z,kR (by show(decide (p.1≤q.1)&&decide (q.2≤p.2))=true;rw[decide_eq_true c,decide_eq_true c'];rfl) _ (aB.refl _)⟩
    ·refine bI (by omega) ?_;exact kE (by show(decide (p.1≤q.1)&&decide (q.2≤p.2))=false;rw[decide_eq_false c',Nn]) _ (aB.refl _)
   ·refine bI (by omega) (cJ ?_);exact kE (by show(decide (p.1≤q.1)&&decide (q.2≤p.2))=false;rw[decide_eq_false c,NY]) _ (aB.refl _)
 ·refine k D H4 s4 hD ?_;rw[h4,hlen];rfl
theorem Hr(T:eg K mg t):bD P w K mg base dF 2 t.a_Q1 t.d_Q1 ["windows","amounts","count"] (i6 K):=by
 refine T.F_Q1.ok hU (λvs H Q E h=>?_) (λcdv A outer s H vs Q E hr h=>?_)
 ·obtain⟨_,_,_,_,_,_,rfl,_⟩:=h;rfl
 obtain⟨l,a,xs,os,as,n,rfl,hS,al,hn,ha,hlen,hb,n1,n24,k⟩:=h;refine dI.ok (af (b8 3 hU.nd (bB (ad ai (ad ai ag aH) aH))) (af (b8 4 hU.nd (iQ f7 ai)) (af (b8 5 hU.nd ai) (af (bS L9 Z (bU Z T.z_range (ad (qv 2) ag ae)) (au (i:=6) hU.nd Z (by first|exact L8 Z|exact L7 Z)) (ao (bS L9 Z (vR Z T.z_range (ad (aN fo (qv 2) ai) (ad (aN fo (qv 6) ai) (ad (iQ f7 ai) ag k4) bx) bx)) (au (i:=7) hU.nd Z (by first|exact L8 Z|exact L7 Z)) (af (b8 8 hU.nd (ap (oB Z) (by rfl) T.z_sum boot_sum (ad (bn (N':=["number","amounts"]) (src:=[none,some 1]) Z (by exact(bQ (df (zX T) hr T.m_Q60 T.F_Q60.kp T.b_Q60 (ad (qv 0) (ad (qv 6) (ad (qv 7) ag ae) ae) ae)))) (λ_ _ _ _ _=>(by exact(by exact au (i:=0) (by show Mg (["number","amounts"]:List Mj);decide +kernel) (by exact Z) (by first|exact L8 Z|exact L7 Z)))) (λ_ _ _ _ _=>bZ) (λ_ _ _ _ _=>(by exact(by exact(aZ (cf (K:=K) (by exact Z)) (by exact(qv 1)) (by exact(qv 0)) (by exact λ_ _=>Z))))) (by exact⟨Z,Z,Z,Z,trivial⟩) Z (by decide +kernel) Z (by decide +kernel) (by exact aQ Z ⟨Z,trivial⟩)) ag dq))) (af (b8 9 hU.nd (aN dP (aN fo (qv 7) (qv 6)) ai)) (ao (bA (aD fV (aN ft (qv 8) (qv 5)) (aN ft (qv 4) (qv 9)) (aL _)) (af (b8 3 hU.nd (bB (ad (qv 6) (ad (qv 7) ag ae) ae))) (af (b8 4 hU.nd (qv 8)) (ao (b8 5 hU.nd (qv 9))))) aP))))))) (ao (aG (qv 3))))))) ?_
 nofun
 have hxl:=al.len;have LB:=λq=>uQ hb hn q
 generalize hL:dE os (gI as)=L at LB k;refine⟨iY,λp0 h0=>?_⟩;have s0:=aj h0 (.tup [.int 0,.int 0]);let Iv1:Nat->L2.St->Hp->Prop:=λi σ H'=>∃(vb:Addr) (ld ln:Int) (x7 x8 x9 x10:Option V),σ=[some (.ref l),some (.ref a),some (.int n),some (.ref vb),some (.int ld),some (.int ln),x7,x8,x9,x10]/\aB H H'/\ng K H' (gG n i n) L vb ld ln
 refine⟨_,Z,_,Z,n,Z,by omega,by omega,cP (lo:=0) (n:=(n:Int).toNat) Iv1 ⟨p0,-1,1,none,none,none,none,Z,s0,.inl ⟨Z,Z,λr hr=>?_⟩⟩ ?_ ?_⟩
 ·unfold gG gH at hr;omega
 ·rintro i σ H1 hi ⟨vb,ld,ln,x7,x8,x9,x10,rfl,s1,best⟩;have hin:i<n:=by omega
  rw[Int.zero_add];refine⟨_,Z,_,_,Z,Z,_,Z,_,_,Z,Z,_,Z,_,_,Z,⟨by omega,by omega,by omega,by omega⟩,Az (hi:=(n:Int)-1) (n:=((n:Int)-1-((i:Int)-1)).toNat) (λj σ H'=>∃(vb:Addr) (ld ln:Int) (x8 x9 x10:Option V),σ=[some (.ref l),some (.ref a),some (.int n),some (.ref vb),some (.int ld),some (.int ln),some (.int i),x8,x9,x10]/\aB H H'/\ng K H' (gG n i (n-j)) L vb ld ln) ⟨vb,ld,ln,x8,x9,x10,Z,s1,best⟩ ?_ ?_⟩
  ·rintro j σ H2 hj ⟨vb,ld,ln,x8,x9,x10,rfl,s2,best⟩;obtain⟨e,he⟩:∃e:Nat,n-j=e+1:=⟨n-j-1,by omega⟩;rw[he] at best;rw[show(n:Int)-1-(j:Int)=(e:Nat) by omega,show n-(j+1)=e by omega];have t2:=aM.same (K:=K) s2;refine⟨_,Z,_,Z,_,Z,l,xs,os,(i,e),Z,s2.seq hS,al.mono (λ_ _ m=>m.mono t2),hn,λD H3 s3 hD h3=>?_⟩;refine⟨D,Z,⟨_,aS.of h3⟩,λE hE=>bC (cT (aS.of h3)) (λ_=>true) (λm=>V.int (gI as ((bR os (i,e)).getD m 0))) hE ?_ (λm x H' hm s' hx R E kR kE=>?_) λH4 s4 h4=>?_⟩
   ·unfold aC bR;rw[LO];have:=MP (λi_1=>fc i e (os.getD i_1 none)) (range os.length);rw[Mw] at this;exact MG this (by omega)
   ·unfold aC at hx;rw[LX] at hx;obtain⟨z,hz,rfl⟩:=Mn.mp hx;have q:=kR Z _ (aB.refl _);rw[ax 0 hz] at q;have hzl:z<os.length:=by
     have:=LQ hz;unfold bR at this;exact LW.mp (Mb.mp this).1
    obtain⟨y,hy⟩:∃y,as[z]?=some y:=⟨_,LL (by omega)⟩;rw[show gI as z=y from ax 0 hy] at q;exact⟨eU.set Z,_,Z,_,Z,a,_,_,_,Z,Z,((s2.trans s3).trans s').seq ha,aJ (by rw[LX,hy];rfl),q⟩
   have e4:H4 E=some (.lst (((bR os (i,e)).map (gI as)).map V.int)):=by
    rw[h4,show(aC (bR os (i,e))).length=(bR os (i,e)).length from LO _,cr 0 (λk=>V.int (gI as k)),Oa];rfl
   have s24:=s3.trans s4;have sH:=s2.trans s24;refine⟨E,_,Z,aS.of e4,?_⟩;have eL:((bR os (i,e)).map (gI as)).sum=L (i,e):=by rw[←hL];rfl
   rw[eL];have lb:=LB (i,e);have elen:(e:Int)-(i:Int)+1=bK (i,e):=Z;refine⟨_,Z,_,Z,_,_,Z,Z,_,_,Z,Z,?_⟩;have lp:1≤bK (i,e)/\bK (i,e)≤24:=by rw[←elen];omega
   have bl:(ld=-1∨(0≤ld/\ld≤64512))/\0<ln:=by
    rcases best with⟨r1,r2,_⟩ | ⟨q,_,r1,r2,b⟩
    ·exact⟨.inl r1,by omega⟩
    ·exact⟨.inr (by rw[r1];exact LB q),by rw[r2];exact(show gH n q from b.inn.1).pos⟩
   refine⟨_,Z,_,Z,_,_,Z,Z,.inl ⟨by omega,by omega⟩,_,Z,_,Z,_,_,Z,Z,.inl ⟨by omega,by omega⟩,_,_,Z,Z,_,Z,?_⟩;have st:=λr=>sR (n:=n) (b:=i) (e:=e) (by omega) (by omega) r
   by_cases c:ld*bK (i,e)<L (i,e)*ln
   ·refine cn c ?_;refine⟨_,Z,_,Z,iY,λpt hpt=>?_⟩;have s5:=aj hpt (.tup [.int (i:Nat),.int (e:Nat)]);refine⟨_,Z,_,Z,?_⟩;refine⟨pt,L (i,e),bK (i,e),_,_,_,Z,sH.trans s5,.inr ⟨(i,e),bH.of ah,Z,Z,?_⟩⟩;rcases best with⟨_,_,r3⟩ | ⟨q,_,r1,r2,b⟩
    ·exact wM λr=>⟨λh=>((st r).mp h).elim (λz=>absurd z (r3 r)) id,λh=>(st r).mpr (.inr h)⟩
    ·subst r1 r2;exact b.more (n:=n) (λr hr=>hr.1) st c
   ·refine bI c ?_;refine⟨vb,ld,ln,_,_,_,Z,sH,?_⟩;rcases best with⟨r1,r2,r3⟩ | ⟨q,hq,r1,r2,b⟩
    ·exfalso;subst r1 r2;apply c;omega
    ·subst r1 r2;refine .inr ⟨q,aM.same s24 _ _ hq,Z,Z,b.stay st (by omega) (.inl ?_)⟩;have:=b.inn;unfold gG at this;unfold ky;show q.1<i∨q.1=i/\e≤q.2;omega
  ·rintro σ H2 ⟨vb,ld,ln,x8,x9,x10,rfl,s2,best⟩;refine⟨vb,ld,ln,_,_,_,_,Z,s2,best.mono (λ_ _ h=>h) λr=>?_⟩;rw[show n-((n:Int)-1-((i:Int)-1)).toNat=i by omega];exact sS r
 ·rintro σ H1 ⟨vb,ld,ln,x7,x8,x9,x10,rfl,s1,best⟩;rw[show(n:Int).toNat=n by omega] at best;refine⟨_,Z,?_⟩;rcases best with⟨_,_,r3⟩ | ⟨q,hq,_,_,b⟩
  ·exact absurd (show gG n n n (0,0) from⟨⟨LN _,by show 0<n;omega⟩,.inl (by show 0<n;omega)⟩) (r3 _)
  ·exact k vb q H1 s1 hq (b.congr vN)
theorem Fc(T:eg K mg t):bD P w K mg base dF 3 t.a_Q29 t.d_Q29 ["works","left"] (qG K):=by
 refine T.F_Q29.ok sW (λvs H Q E h=>?_) (λcdv A outer s H vs Q E hr h=>?_)
 ·obtain⟨_,_,_,_,rfl,_⟩:=h;rfl
 obtain⟨v,q,ws,ls,rfl,⟨p,xs,rfl,hS,al⟩,hw,ok,hq,l1,l24,k⟩:=h;refine dI.ok (af (b8 2 sW.nd (df (Hn T) hr T.m_Q5 T.F_Q5.kp T.b_Q5 (ad (qv 0) (ad (qv 1) ag ae) ae))) (af (b8 3 sW.nd (df (Hr T) hr T.m_Q1 T.F_Q1.kp T.b_Q1 (ad (qv 2) (ad (df (Fs T) hr T.m_Q10 T.F_Q10.kp T.b_Q10 (ad (bn (N':=["work"]) (src:=[none]) Z (by exact(cW (qv 0))) (λ_ _ _ _ _=>(by exact(by exact au (i:=0) (by show Mg (["work"]:List Mj);decide +kernel) (by exact Z) (by first|exact L8 Z|exact L7 Z)))) (λ_ _ _ _ _=>bZ) (λ_ _ _ _ _=>(by exact(by exact(aZ (aU (K:=K) (by exact Z)) (by exact(qv 0)) ai (by exact λ_ _=>Z))))) (by exact trivial) Z (by decide +kernel) Z (by decide +kernel) (by exact aQ Z trivial)) ag dq)) (ad (ap aA (by rfl) T.z_len MH (ad (qv 1) ag ae)) ag aF) aF) ae))) (ao (aG (bB (ad (mh uB (qv 1) (jz (bW az (qv 3) ai)) (jz (aN dP (bW az (qv 3) ai) ai))) (ad (bJ br (by rfl) T.z_tuple MR (ad (df (zX T) hr T.m_Q60 T.F_Q60.kp T.b_Q60 (ad (qv 2) (ad (bW az (qv 3) ai) (ad (bW az (qv 3) ai) ag aI) aI) ae)) ag aF)) ag aF) aI)))))) ?_
 nofun
 have nl:(aC ls).length=ls.length:=LO _;refine⟨_,Z,_,Z,.ref p,q,ws,ls,Z,⟨p,xs,Z,hS,al⟩,hw,hq,l24,λl ys H1 s1 hl0 hl1 al1=>?_⟩;have t1:=aM.same (K:=K) s1;refine⟨_,Z,_,Z,p,Z,⟨_,t1 _ _ hS⟩,λD hD=>dk (K:=K) (P:=RV K) (ds:=ws) (f:=λw:Wk=>w.2.2) (λ_ _ _ _ t p=>p.mono t) hD (t1 _ _ hS) al.len (by omega) (λi x d H' hx hd s' R E kR=>?_) λH2 ys2 s2 hD2 al2=>?_⟩
 ·obtain⟨d',hd',pw,xw,rfl,hSw,rx⟩:=al.at hx;rw[hd] at hd'
  cases hd'
  have t':=aM.same (K:=K) (s1.trans s');exact⟨eU.set Z,_,Z,pw,_,_,_,Z,Z,t' _ _ hSw,Z,kR _ _ (aB.refl _) (rx.mono t')⟩
 refine⟨D,ys2,ws,Z,aS.of hD2,al2,hw,ok,λl2 B H3 s3 hl2 b0 bd dv hl3=>?_⟩;have s13:=s2.trans s3;have t13:=aM.same (K:=K) s13;have sH3:=s1.trans s13;refine⟨_,Z,q,_,Z,.inr (aM.same (K:=K) sH3 _ _ hq),?_⟩;refine⟨l,l2,ys,ws.map (bw ls),fm B ws,ls.length,(by rw[nl];rfl),s13.seq (aS.of hl1),al1.mono (λ_ _ m=>m.mono t13),by rw[LO];exact hw,aS.of hl3,by unfold fm;rw[LO,LO],zU ok b0 bd,l1,l24,λpp pl H4 s4 hpp bst=>?_⟩;have sec:=bst.inn;have c1:pl.1≤pl.2:=sec.1;have c2:pl.2<ls.length:=sec.2;have sH4:=sH3.trans s4;refine⟨_,Z,_,Z,pp,_,_,_,Z,Z,hpp,Z,_,Z,_,Z,pp,_,_,_,Z,Z,hpp,Z,_,_,Z,Z,_,Z,q,_,Z,aM.same (K:=K) sH4 _ _ hq,λpc H5 s5 hpc=>?_⟩;rw[show(pl.2:Int)+1=((pl.2+1:Nat):Int) by omega,u9 (by omega) (by omega)] at hpc;have t5:=aM.same (K:=K) s5;have t45:=aM.same (K:=K) (s13.trans (s4.trans s5));refine⟨_,Z,_,Z,pp,_,_,_,Z,Z,t5 _ _ hpp,Z,_,Z,pp,_,_,_,Z,Z,t5 _ _ hpp,Z,l,ys,ws.map (bw ls),pl,Z,(s13.trans (s4.trans s5)).seq (aS.of hl1),al1.mono (λ_ _ m=>m.mono t45),by rw[LO];exact hw,λE H6 s6 hE hE6=>?_⟩;refine⟨E,_,Z,.inl ⟨aS.of hE6,λpe hpe=>?_⟩⟩;have s7:=aj hpe (.tup (aC (bR (ws.map (bw ls)) pl)));refine⟨iY,λpr hpr=>?_⟩;have s8:=aj hpr (.tup [.ref pc,.ref pe]);refine k (.ref pr) B pl _ ((((sH4.trans s5).trans s6).trans s7).trans s8) b0 bd dv bst ?_;exact⟨pr,pc,pe,Z,bH.of ah,aM.same (K:=K) ((s6.trans s7).trans s8) _ _ hpc,aM.same (K:=K) s8 _ _ (bH.of ah)⟩
theorem EZ(T:eg K mg t):bD P w K mg base dF 4 t.a_Q49 t.d_Q49 ["works"] (vC K):=by
 refine T.F_Q49.ok ja (λvs H Q E h=>?_) (λcdv A outer s H vs Q E hr h=>?_)
 ·obtain⟨_,_,rfl,_⟩:=h;rfl
 obtain⟨v,ws,rfl,⟨p,xs,rfl,hS,al⟩,hw,ok,k⟩:=h;refine dI.ok (af (b8 1 ja.nd (bM ag)) (af (b8 2 ja.nd (bJ (rW Z) (by rfl) T.z_tuple MR (ad (jA Z T.z_range (ad (cU (v:=.int (24)) Z T.m_TURNS ⟨_,Z⟩) ag ae)) ag aF))) (af (b8 3 ja.nd (ap aA (by rfl) T.z_len MH (ad (qv 0) ag ae))) (af (fK L9 (aD fV (qv 3) ai (aL _)) (af (b8 4 ja.nd (df (Fc T) hr T.m_Q29 T.F_Q29.kp T.b_Q29 (ad (qv 0) (ad (qv 2) ag ae) ae))) (af (cK (fw MK PySem.F.slot_list_append PySem.F.type_list_append bV (qv 1) (ad (qv 4) ag ae))) (af (b8 2 ja.nd (bJ br (by rfl) T.z_tuple MR (ad (bn (N':=["turn","layer"]) (src:=[none,some 4]) Z (by exact(cW (qv 2))) (λ_ _ _ _ _=>(by exact(by exact au (i:=0) (by show Mg (["turn","layer"]:List Mj);decide +kernel) (by exact Z) (by first|exact L8 Z|exact L7 Z)))) (λ_ _ _ _ _=>(cE (aD (eT (K:=K) (by exact Z)) (by exact(qv 0)) (by exact(aZ (aU (K:=K) (by exact Z)) (by exact(qv 1)) ai (by exact λ_ _=>Z))) (by with_unfolding_all rfl)))) (λ_ _ _ _ _=>(by exact(by exact(qv 0)))) (by exact⟨Z,Z,Z,Z,trivial⟩) Z (by decide +kernel) Z (by decide +kernel) (by exact aQ Z ⟨Z,trivial⟩)) ag dq))) (ao (Ep (i:=3) ja.nd Z (by first|exact L8 Z|exact L7 Z) (ap aA (by rfl) T.z_len MH (ad (bW az (qv 4) ai) ag aI)) FN)))))) (ao (aG (bJ br (by rfl) T.z_tuple MR (ad (qv 1) ag ae)))))))) ?_
 nofun
 have hlen:=al.len;refine⟨(by show 0≤sizeLine;exact Mx _),λl h0=>?_⟩;have s0:=aj h0 (.lst []);have hl0:upd H l (.lst []) l=some (.lst []):=ah;refine⟨_,Z,λpr hpr=>?_⟩;have s1:=aj hpr (.rng 0 24);refine⟨pr,24,Z,ah,by decide,λq0 hq0=>?_⟩;have s2:=aj hq0 (.tup ((B.upTo 24).map V.int));have hq0':bH K (upd (upd (upd H l (.lst [])) pr (.rng 0 24)) q0 (.tup ((B.upTo 24).map V.int))) q0 (aC (range 24)):=by
  have e:aC (range 24)=(B.upTo 24).map V.int:=by unfold aC B.upTo;rw[Oa];rfl
  rw[e];exact bH.of (ah (H:=upd (upd H l (.lst [])) pr (.rng 0 24)) (a:=q0) (o:=.tup ((B.upTo 24).map V.int)))
 have s02:=(s0.trans s1).trans s2;have hl2:=s2 _ _ (s1 _ _ hl0);refine⟨_,Z,p,_,Z,.inr (aM.same (K:=K) s02 _ _ hS),?_⟩;have nf:=uN ok;let Iv1:Nat->L2.St->Hp->Prop:=λm σ H'=>∃(acc:List (List Nat×List Nat)) (ys:List V) (q:Addr) (ls:List Nat) (x5:Option V),σ=[some (.ref p),some (.ref l),some (.ref q),some (.int (jU ws ls)),x5]/\aB H H'/\H' l=some (.lst ys)/\cO (qp K H') ys acc/\bH K H' q (aC ls)/\ls.Nodup/\(∀t∈ls,t<24)/\ls.length≤24/\acc.length+jU ws ls≤ws.length/\(∀y∈acc,iM ws.length y)/\(∀r,g7 ws ls r->g7 ws (range 24) (acc++r))/\m=jU ws ls
 refine⟨Iv1,⟨_,[],[],q0,range 24,none,(by rw[nf,hlen];rfl),s02,hl2,.nil,hq0',OS,(λt ht=>LW.mp ht),by decide,(by rw[nf];exact NQ (OW _)),(λy hy=>by cases hy),(λr h=>h),Z⟩,?_⟩;rintro m σ H1 ⟨acc,ys,q,ls,x5,rfl,sm,hl1,al1,hq,nd,lt,l24,few,lok,con,rfl⟩;refine⟨_,Z,_,_,Z,Z,_,Z,?_⟩;by_cases c:jU ws ls=0
 ·refine bI (by omega) ?_;have ly:=con [] (.nil c);rw[NF] at ly;refine⟨_,Z,l,_,Z,.inl ⟨aS.of hl1,λpt hpt=>?_⟩⟩;have s5:=aj hpt (.tup ys);exact k (.ref pt) acc _ (sm.trans s5) ⟨pt,ys,Z,bH.of ah,al1.mono λ_ _ m=>m.mono (aM.same s5)⟩ ly lok (by omega)
 ·refine cn (by omega) ?_;refine⟨_,λ_ _ z=>z,?_⟩;have ln1:1≤ls.length:=by
   cases ls with
   |nil=>exact absurd (Fu ws) c
   |cons a r=>exact PQ (Mx _)
  refine⟨_,Z,_,Z,.ref p,q,ws,ls,Z,⟨p,xs,Z,aM.same (K:=K) sm _ _ hS,al.mono λ_ _ m=>m.mono (aM.same sm)⟩,hw,ok,hq,ln1,l24,λx B pl H2 s2 b0 bd dv bst lv=>?_⟩;have it:so ws ls pl:=FL ok (bst.scale b0 (by decide) λq=>nS _ λi _=>qx ok dv i) c;have sec:=uU it;have hl2:=s2 _ _ hl1;have hy:=al1.len;have sm2:=sm.trans s2;have lyo:iM ws.length (fX ws ls pl):=tN sec l24 lt;refine⟨_,Z,.inl ⟨Z,_,aS.of hl2⟩,_,Z,l,_,_,Z,Z,hl2,be (by omega),?_⟩;have t3:aM K H2 (upd H2 l (.lst (ys++[x]))):=aM.up hl2 _;have sm3:aB H (upd H2 l (.lst (ys++[x]))):=λb o e=>by rw[aE (aX e h0)];exact sm2 _ _ e
  have hl3:upd H2 l (.lst (ys++[x])) l=some (.lst (ys++[x])):=ah;have al3:cO (qp K (upd H2 l (.lst (ys++[x])))) (ys++[x]) (acc++[fX ws ls pl]):=(al1.mono λ_ _ m=>m.mono ((aM.same s2).trans t3)).snoc (lv.mono t3);have lv3:=lv.mono t3;have hq3:=t3 _ _ (aM.same (K:=K) s2 _ _ hq);generalize upd H2 l (.lst (ys++[x]))=H3 at sm3 hl3 al3 lv3 hq3 ⊢;obtain⟨pL,a,b,rfl,hpL,ha,hb⟩:=lv3;have nl:(aC ls).length=ls.length:=LO _;refine⟨_,Z,q,Z,⟨_,hq3⟩,λD hD=>bC (jj hq3) (λi=>!(di ls pl).contains (ls.getD i 0)) (λi=>V.int (ls.getD i 0:Nat)) hD (by omega) (λi x H' hi s' hx R E kR kE=>?_) λH4 s4 h4=>?_⟩
  ·unfold aC at hx;rw[LX] at hx;obtain⟨z,hz,rfl⟩:=Mn.mp hx;rw[ax 0 hz] at kR kE;have t':=aM.same (K:=K) s';refine⟨eU.set Z,_,Z,_,Z,pL,_,_,_,Z,Z,t' _ _ hpL,Z,a,_,Z,.inr (t' _ _ ha),Z,gA _,_,Z,?_⟩;have e:nh (.int (z:Nat)) (aC (fX ws ls pl).1)=(di ls pl).contains z:=iD z (di ls pl)
   cases cz:(di ls pl).contains z with
   |true=>exact dU (by show(!nh (.int (z:Nat)) (aC (fX ws ls pl).1))=false;rw[e,cz];rfl) (kE (by rw[cz];rfl) _ (aB.refl _))
   |false=>exact gZ (by show(!nh (.int (z:Nat)) (aC (fX ws ls pl).1))=true;rw[e,cz];rfl) ⟨_,Z,kR (by rw[cz];rfl) _ (aB.refl _)⟩
  rw[nl,dj 0 (λt=>!(di ls pl).contains t) (λt:Nat=>V.int t)] at h4
  replace h4:H4 D=some (.lst (aC (cR ls pl))):=h4
  refine⟨D,_,Z,.inl ⟨aS.of h4,λqn hqn=>?_⟩⟩;have s5:=aj hqn (.tup (aC (cR ls pl)));have hqn5:bH K _ qn (aC (cR ls pl)):=bH.of (ah (H:=H4) (a:=qn) (o:=.tup (aC (cR ls pl))));have s35:=s4.trans s5;generalize upd H4 qn (.tup (aC (cR ls pl)))=H5 at s35 hqn5 ⊢;have t5:=aM.same (K:=K) s35;have rst:=uL (ws:=ws) nd sec;have hp:=it.held;have lb:(aC (fX ws ls pl).2).length=(bR (ws.map (bw ls)) pl).length:=LO _;refine⟨_,Z,_,Z,pL,_,_,_,Z,Z,t5 _ _ hpL,Z,b,_,Z,.inr (t5 _ _ hb),_,_,Z,Z,?_⟩;have ew:((jU ws ls:Nat):Int)-((aC (fX ws ls pl).2).length:Int)=((jU ws (cR ls pl):Nat):Int):=by rw[lb];omega
  have rl:(cR ls pl).length≤ls.length:=MP _ _;refine⟨_,?_,acc++[fX ws ls pl],ys++[.ref pL],qn,cR ls pl,_,(by rw[←ew];rfl),sm3.trans s35,s35 _ _ hl3,al3.mono (λ_ _ m=>m.mono t5),hqn5,uH nd pl,(λt ht=>lt t (Mb.mp ht).1),by omega,(by rw[MO];show acc.length+1+_≤_;omega),(λy hy=>?_),(λr hr=>?_),Z⟩
  ·omega
  ·rcases Mh.mp hy with h|h
   ·exact lok y h
   ·rw[LP.mp h];exact lyo
  ·have:=con _ (g7.cons it hr);rw[Qh];exact this
theorem Hq(T:eg K mg t):bD P w K mg base dF 4 t.a_Q2 t.d_Q2 ["works","layer"] (gs K):=by
 refine T.F_Q2.ok GR (λvs H Q E h=>?_) (λcdv A outer s H vs Q E hr h=>?_)
 ·obtain⟨_,_,_,_,rfl,_⟩:=h;rfl
 obtain⟨v,x,ws,y,rfl,⟨p,xs,rfl,hS,al⟩,hw,ok,lv,lok,k⟩:=h;refine dI.ok (ao (aG (df (EV T) hr T.m_Q59 T.F_Q59.kp T.b_Q59 (ad (df (EX T) hr T.m_Q56 T.F_Q56.kp T.b_Q56 (ad (bn (N':=["number","works"]) (src:=[none,some 0]) Z (by exact(cW (aZ az (qv 1) ai (λ_ _=>Z)))) (λ_ _ _ _ _=>(by exact(by exact au (i:=0) (by show Mg (["number","works"]:List Mj);decide +kernel) (by exact Z) (by first|exact L8 Z|exact L7 Z)))) (λ_ _ _ _ _=>bZ) (λ_ _ _ _ _=>(by exact(by exact(aZ (aU (K:=K) (by exact Z)) (by exact(aZ (aU (K:=K) (by exact Z)) (by exact(qv 1)) (by exact(qv 0)) (by exact λ_ _=>Z))) ai (by exact λ_ _=>Z))))) (by exact⟨Z,Z,Z,Z,trivial⟩) Z (by decide +kernel) Z (by decide +kernel) (by exact aQ Z ⟨Z,trivial⟩)) ag dq)) (ad (bB (ad (ap aA (by rfl) T.z_len MH (ad (aZ az (qv 1) ai (λ_ _=>Z)) ag aI)) (ad ai ag aH) aF)) ag cC) aF)))) ?_;nofun
 have hSl:=al.len;obtain⟨pL,a,b,rfl,hpL,ha,hb⟩:=lv;have nb:(aC y.2).length=y.2.length:=LO _;have na:(aC y.1).length=y.1.length:=LO _;have len:=lok.len;refine⟨_,Z,pL,_,_,_,Z,Z,hpL,Z,b,Z,⟨_,hb⟩,λD hD=>dk (K:=K) (P:=RV K) (ds:=y.2) (f:=λi=>(ws.getD i bG).2.2) (λ_ _ _ _ t p=>p.mono t) hD hb nb (by omega) (λi x d H' hx hd s' R E kR=>?_) λH2 ys2 s2 hD2 al2=>?_⟩
 ·have hx':(aC y.2)[i]?=some (V.int (d:Nat)):=by unfold aC;rw[LX,hd];rfl
  rw[hx] at hx'
  cases hx'
  have hdl:=lok.num d (LQ hd);obtain⟨xw,hxw⟩:∃xw,xs[d]?=some xw:=⟨_,LL (by omega)⟩;obtain⟨w,hwd,pw,xa,rfl,hSw,rx⟩:=al.at hxw;rw[ax bG hwd] at kR;have t':=aM.same (K:=K) s';exact⟨eU.set Z,_,Z,_,Z,p,_,_,_,Z,Z,t' _ _ hS,aJ hxw,pw,_,_,_,Z,Z,t' _ _ hSw,Z,kR _ _ (aB.refl _) (rx.mono t')⟩
 have wf:=AT (n:=ws.length) ok lok;have la:(gE ws y).length=y.2.length:=LO _;refine⟨D,ys2,gE ws y,4,Z,.inl (aS.of hD2),CI al2,wf,by omega,(by
  have:(4+9)*((gE ws y).length+1)≤13*65:=OB 13 (by omega);omega),λv' H3 s3 rv3=>?_⟩
 have t23:=aM.same (K:=K) (s2.trans s3);refine⟨_,Z,pL,_,_,_,Z,Z,t23 _ _ hpL,Z,a,_,Z,.inr (t23 _ _ ha),iY,λpt hpt=>?_⟩;rw[na];have s4:=aj hpt (.tup [.int (y.1.length:Int),.int 1]);have pos:=lok.pos;have few:=lok.few;refine⟨v',.ref pt,dS (gE ws y),1+(4+1)*(gE ws y).length,y.1.length,Z,rv3.mono (aM.same s4),RV.of ah,ut wf,pos,few,by omega,λu H5 s5 r5=>?_⟩;exact k u H5 (((s2.trans s3).trans s4).trans s5) r5
theorem Hm(T:eg K mg t):bD P w K mg base dF 5 t.a_Q6 t.d_Q6 ["works"] (kL K):=by
 refine T.F_Q6.ok qV (λvs H Q E h=>?_) (λcdv A outer s H vs Q E hr h=>?_)
 ·obtain⟨_,_,rfl,_⟩:=h;rfl
 obtain⟨v,ws,rfl,⟨p,xs,rfl,hS,al⟩,hw,ok,k⟩:=h;refine dI.ok (af (b8 1 qV.nd (aN pT (bM (ad (cU (v:=.ref t.c_NOUGHT) Z T.m_NOUGHT Z) ag ae)) (cU (v:=.int (24)) Z T.m_TURNS ⟨_,Z⟩))) (af (bS L9 Z (cW (df (EZ T) hr T.m_Q49 T.F_Q49.kp T.b_Q49 (ad (qv 0) ag ae))) (au (i:=2) qV.nd Z (by first|exact L8 Z|exact L7 Z)) (af (b8 3 qV.nd (df (Hq T) hr T.m_Q2 T.F_Q2.kp T.b_Q2 (ad (qv 0) (ad (qv 2) ag ae) ae))) (ao (bS L9 Z (cW (bW az (qv 2) ai)) (au (i:=4) qV.nd Z (by first|exact L8 Z|exact L7 Z)) (ao (em (qv 3) (gQ (qv 1) (qv 4) eh))))))) (ao (aG (bJ br (by rfl) T.z_tuple MR (ad (qv 1) ag ae)))))) ?_
 nofun
 refine⟨A5,λl0 h0=>?_⟩;have s0:=aj h0 (.lst [.ref t.c_NOUGHT]);refine⟨l0,.ref t.c_NOUGHT,24,Z,Z,ah,by decide,λl hl=>?_⟩;have s1:=aj hl (.lst (MC 24 (.ref t.c_NOUGHT)));have s01:=s0.trans s1;have hln:H l=none:=by
  cases e:H l with
  |none=>rfl
  |some o=>rw[s0 _ _ e] at hl;cases hl
 have hl1:upd (upd H l0 (.lst [.ref t.c_NOUGHT])) l (.lst (MC 24 (.ref t.c_NOUGHT))) l=some (.lst (MC 24 (.ref t.c_NOUGHT))):=ah;generalize upd (upd H l0 (.lst [.ref t.c_NOUGHT])) l (.lst (MC 24 (.ref t.c_NOUGHT)))=H1 at hl1 s01 ⊢;refine⟨_,Z,.ref p,ws,Z,⟨p,xs,Z,aM.same (K:=K) s01 _ _ hS,al.mono λ_ _ m=>m.mono (aM.same s01)⟩,hw,ok,λx lys H2 s2 lv ly lok ll=>?_⟩;obtain⟨pl,xl,rfl,hpl,all⟩:=lv;have hl2:=s2 _ _ hl1;have s02:=s01.trans s2;have wvS:∀H',aB H H'->fO K H' (.ref p) ws:=λH' s=>⟨p,xs,Z,aM.same (K:=K) s _ _ hS,al.mono λ_ _ m=>m.mono (aM.same s)⟩
 have smS:∀H',bz l H2 H'->aB H H':=λH' S b o e=>S.keep b o (λz=>by subst z;rw[hln] at e;cases e) (s02 _ _ e)
 let Iv1:Nat->L2.St->Hp->Prop:=λi σ H'=>∃(ys:List V) (x3 x4 x5:Option V),σ=[some (.ref p),some (.ref l),x3,x4,x5]/\bz l H2 H'/\H' l=some (.lst ys)/\cO (RV K H') ys (aR ws (lys.take i))
 refine⟨pl,Z,⟨_,hpl⟩,iE (K:=K) (a:=pl) (xs:=xl) Iv1 ⟨_,none,none,none,Z,bz.refl ⟨_,hl2⟩,hl2,cO.rep ⟨_,Z,T.q_NOUGHT _⟩ 24⟩ (λi σ H' _ ⟨_,_,_,_,_,S,_⟩=>aM.step (K:=K) S _ _ hpl) ?_ ?_⟩
 ·rintro i x σ H3 hx ⟨ys,x3,x4,x5,rfl,S3,hl3,al3⟩;obtain⟨y,hy,lvy⟩:=all.at hx;have lyo:=lok y (LQ hy);have sm3:=smS _ S3;have lv3:=lvy.mono (aM.step (K:=K) S3);refine⟨_,Z,_,Z,.ref p,x,ws,y,Z,wvS _ sm3,hw,ok,lv3,lyo,λsv H4 s4 rv4=>?_⟩;have hl4:=s4 _ _ hl3;have lv4:=lv3.mono (aM.same s4);obtain⟨pL,a,b,rfl,hpL,ha,hb⟩:=lv4;have S4:=S3.trans (bz.same s4 ⟨_,hl3⟩);have al4:=al3.mono λ_ _ m=>m.mono (aM.same s4)
  have ly24:=al4.len;rw[show(aR ws (lys.take i)).length=24 by unfold aR;rw[gK];rfl] at ly24;let Iv2:Nat->L2.St->Hp->Prop:=λj σ H'=>∃(zs:List V) (x5:Option V),σ=[some (.ref p),some (.ref l),some (.ref pL),some sv,x5]/\bz l H4 H'/\H' l=some (.lst zs)/\zs.length=24/\cO (RV K H') zs (gL (d9 ws y) (aR ws (lys.take i)) (y.1.take j))
  refine⟨_,Z,pL,_,_,_,Z,Z,hpL,Z,a,Z,⟨_,ha⟩,iE (K:=K) (a:=a) (xs:=aC y.1) Iv2 ⟨ys,_,Z,bz.refl ⟨_,hl4⟩,hl4,ly24,al4⟩ (λj σ H' _ ⟨_,_,_,S,_⟩=>aM.step (K:=K) S _ _ ha) ?_ ?_⟩
  ·rintro j tv σ H5 ht ⟨zs,x5,rfl,S5,hl5,zl,al5⟩;unfold aC at ht;rw[LX] at ht;obtain⟨tt,htt,rfl⟩:=Mn.mp ht;have lt:=lyo.lt tt (LQ htt);refine⟨_,Z,_,Z,_,Z,l,zs,_,tt,Z,Z,hl5,iC (by omega),?_⟩;have t6:aM K H5 (upd H5 l (.lst (zs.set tt sv))):=aM.up hl5 _;refine⟨_,_,Z,S5.trans (bz.up hl5),ah,by rw[OP];exact zl,?_⟩;have e:gL (d9 ws y) (aR ws (lys.take i)) (y.1.take (j+1))=(gL (d9 ws y) (aR ws (lys.take i)) (y.1.take j)).set tt (d9 ws y):=by
    unfold gL;rw[MN,htt,Oi];rfl
   rw[e];exact cO.setI (rv4.mono ((aM.step (K:=K) S5).trans t6)) tt (al5.mono λ_ _ m=>m.mono t6)
  ·rintro σ H5 ⟨zs,x5,rfl,S5,hl5,zl,al5⟩;rw[show(aC y.1).length=y.1.length from LO _,M4] at al5;refine⟨zs,_,_,_,Z,S4.trans S5,hl5,?_⟩;have e:aR ws (lys.take (i+1))=gL (d9 ws y) (aR ws (lys.take i)) y.1:=by
    unfold aR;rw[MN,hy,Oi];rfl
   rw[e];exact al5
 ·rintro σ H3 ⟨ys,x3,x4,x5,rfl,S3,hl3,al3⟩;rw[all.len,M4] at al3;refine⟨_,Z,l,_,Z,.inl ⟨aS.of hl3,λpt hpt=>?_⟩⟩;have s5:=aj hpt (.tup ys);exact k pt ys lys _ ((smS _ S3).trans s5) (bH.of ah) (al3.mono λ_ _ m=>m.mono (aM.same s5)) ly
theorem Ho(T:eg K mg t):bD P w K mg base dF 1 t.a_Q3 t.d_Q3 ["works","leanings","waiting"] (j4 K):=by
 refine T.F_Q3.ok uE (λvs H Q E h=>?_) (λcdv A outer s H vs Q E hr h=>?_)
 ·obtain⟨_,_,_,_,_,_,_,_,rfl,_⟩:=h;rfl
 obtain⟨v,l,wl,ws,es,rows,L,ls,rfl,⟨p,xs,rfl,hS,al⟩,w8,m0,cl,hwl,lt,ne,l8,rk,k⟩:=h;refine dI.ok (af (b8 3 uE.nd (ap (iG Z) (by rfl) T.z_min Tq (ad (bn (N':=["number","works"]) (src:=[none,some 0]) Z (by exact(bQ (qv 2))) (λ_ _ _ _ _=>(by exact(by exact au (i:=0) (by show Mg (["number","works"]:List Mj);decide +kernel) (by exact Z) (by first|exact L8 Z|exact L7 Z)))) (λ_ _ _ _ _=>bZ) (λ_ _ _ _ _=>(by exact(by exact(aZ (aU (K:=K) (by exact Z)) (by exact(aZ (aU (K:=K) (by exact Z)) (by exact(qv 1)) (by exact(qv 0)) (by exact λ_ _=>Z))) ai (by exact λ_ _=>Z))))) (by exact⟨Z,Z,Z,Z,trivial⟩) Z (by decide +kernel) Z (by decide +kernel) (by exact aQ Z ⟨Z,trivial⟩)) ag dq))) (af (b8 4 uE.nd (bn (N':=["number","earliest","works"]) (src:=[none,some 3,some 0]) Z (by exact(bQ (qv 2))) (λ_ _ _ _ _=>(by exact(by exact au (i:=0) (by show Mg (["number","earliest","works"]:List Mj);decide +kernel) (by exact Z) (by first|exact L8 Z|exact L7 Z)))) (λ_ _ _ _ _=>(cE (aD dg (by exact(aZ (aU (K:=K) (by exact Z)) (by exact(aZ (aU (K:=K) (by exact Z)) (by exact(qv 2)) (by exact(qv 0)) (by exact λ_ _=>Z))) ai (by exact λ_ _=>Z))) (by exact(qv 1)) (aL _)))) (λ_ _ _ _ _=>(by exact(by exact(qv 0)))) (by exact⟨Z,Z,Z,Z,⟨Z,Z,Z,Z,trivial⟩⟩) Z (by decide +kernel) Z (by decide +kernel) (by exact aQ Z ⟨Z,⟨Z,trivial⟩⟩))) (af (zb (i:=5) (N':=["number","like","leanings"]) (y := "number") (src:=[none,some 4,some 1]) uE.nd Z (by first|exact L8 Z|exact L7 Z) Z (by exact(bQ (qv 4))) (λ_ _ _ _ _=>(by exact(by exact au (i:=0) (by show Mg (["number","like","leanings"]:List Mj);decide +kernel) (by exact Z) (by first|exact L8 Z|exact L7 Z)))) (λ_ _ _ _ _=>(cE (hX (cu (by exact(ap (ua (K:=K) (by exact Z) (by exact Z)) (by exact Z) T.z_any boot_any (ad (by exact(vT (N':=["base","leanings","number"]) (src:=[none,some 2,some 0]) (by exact Z) (by exact Z) (by exact(zd (K:=K) (by exact Z) (by exact(qv 1)))) (by exact λ_ _ _ _ _=>(by exact(by exact au (i:=0) (by show Mg (["base","leanings","number"]:List Mj);decide +kernel) (by exact Z) (by first|exact L8 Z|exact L7 Z)))) (by exact λ_ _ _ _ _=>bZ) (by exact λ_ _ _ _ _=>(by exact(by exact(aZ (cf (K:=K) (by exact Z)) (by exact(aZ (cf (K:=K) (by exact Z)) (by exact(qv 1)) (by exact(qv 2)) (by exact λ_ _=>Z))) (by exact(qv 0)) (by exact λ_ _=>Z))))) (by exact⟨Z,Z,Z,Z,⟨Z,Z,Z,Z,trivial⟩⟩) (by decide +kernel) (by exact Z) (by decide +kernel) (by exact aQ Z ⟨Z,⟨Z,trivial⟩⟩))) ag dq))))))) (λ_ _ _ _ _=>(by exact(by exact(qv 0)))) (by exact⟨Z,Z,Z,Z,⟨Z,Z,Z,Z,trivial⟩⟩) Z (λ_=>Z) (λ_=>Z) Z (by decide +kernel) (by exact wJ Z ⟨Z,⟨Z,trivial⟩⟩ Z)) (ao (aG (bW bt (qv 5) ai)))))) ?_
 nofun
 have lx:xs.length=ws.length:=al.len;have lv:(aC ls).length=ls.length:=LO _;have pos:0<ls.length:=O1.mpr ne;have at_:∀{H':Hp},aB H H'->∀i,i<ws.length->∃pw x,xs[i]?=some (.ref pw)/\bH K H' pw [.int (ws.getD i bG).1,.int (ba ws i:Nat),x]:=λ{H'} s i hi=>by
  have e:xs[i]?=some (xs[i]'(by omega)):=LL _;obtain⟨w,hw,pw,x,ex,hSw,_⟩:=al.at e;refine⟨pw,x,by rw[e,ex],?_⟩;have g:ws.getD i bG=w:=ax bG hw;unfold ba;rw[g];exact aM.same s _ _ hSw
 have nat_:∀{zs:List Nat} {i:Nat} {x:V},(aC zs)[i]?=some x->∃n,zs[i]?=some n/\x=.int (n:Nat):=λ{zs i x} h=>by
  unfold aC at h;rw[LX] at h;obtain⟨n,hn,rfl⟩:=Mn.mp h;exact⟨n,hn,Z⟩
 refine⟨_,Z,wl,Z,⟨_,hwl⟩,λD1 hD1=>bC (cT hwl) (λ_=>true) (λi=>V.int (ba ws (ls.getD i 0):Nat)) hD1 (by omega) (λi x H' hi sm hx Rk E kR _=>?_) λH1 s1 h1=>?_⟩
 ·obtain⟨n,hn,rfl⟩:=nat_ hx;obtain⟨pw,y,ex,hSw⟩:=at_ sm n (lt n (LQ hn));rw[ax 0 hn] at kR;exact⟨eU.set Z,_,Z,_,Z,p,_,_,_,Z,Z,aM.same sm _ _ hS,aJ ex,pw,_,_,_,Z,Z,hSw,Z,kR Z _ (aB.refl _)⟩
 have e1:((range (aC ls).length).filter λ_=>true).map (λi=>V.int (ba ws (ls.getD i 0):Nat))=(ls.map λi=>((ba ws i:Nat):Int)).map V.int:=by
  rw[lv,Oa];exact cr 0 (λn=>V.int (ba ws n:Nat)) ls
 rw[e1] at h1;refine⟨D1,_,Z,aS.of h1,by rw[LO];exact pos,λM hM hle=>?_⟩;have key:∀i,i∈ls->(((ba ws i:Nat):Int)=M↔∀j∈ls,ba ws i≤ba ws j):=λi hi=>by
  constructor
  ·intro e j hj;have:=hle _ (Mc.mpr ⟨j,hj,Z⟩);omega
  ·intro h;obtain⟨j,hj,e⟩:=Mc.mp hM;have a:=h j hj;have b:=hle _ (Mc.mpr ⟨i,hi,Z⟩);omega
 have hw1:aS K H1 wl (aC ls):=s1.seq hwl;refine⟨_,Z,wl,Z,⟨_,hw1⟩,λD2 hD2=>bC (cT hw1) (λi=>ls.all λj=>decide (ba ws (ls.getD i 0)≤ba ws j)) (λi=>V.int (ls.getD i 0:Nat)) hD2 (by omega) (λi x H' hi sm hx Rk E kR kE=>?_) λH2 s2 h2=>?_⟩
 ·obtain⟨n,hn,rfl⟩:=nat_ hx;have sm':=s1.trans sm;have mn:=LQ hn;obtain⟨pw,y,ex,hSw⟩:=at_ sm' n (lt n mn);rw[ax 0 hn] at kR kE;refine⟨eU.set Z,_,Z,_,Z,p,_,_,_,Z,Z,aM.same sm' _ _ hS,aJ ex,pw,_,_,_,Z,Z,hSw,Z,_,Z,Z,_,Z,?_⟩;by_cases c:((ba ws n:Nat):Int)=M
  ·refine cn (by rw[c]) ⟨_,Z,kR ?_ _ (aB.refl _)⟩;rw[No];exact λj hj=>decide_eq_true ((key n mn).mp c j hj)
  ·refine bI (λz=>c (by injection z)) (kE ?_ _ (aB.refl _))
   cases q:ls.all λj=>decide (ba ws n≤ba ws j) with
   |false=>rfl
   |true=>
    rw[No] at q;exact absurd ((key n mn).mpr λj hj=>of_decide_eq_true (q j hj)) c
 have e2:((range (aC ls).length).filter λi=>ls.all λj=>decide (ba ws (ls.getD i 0)≤ba ws j)).map (λi=>V.int (ls.getD i 0:Nat))=aC (dG ws ls):=by
  rw[lv];exact dj 0 (λn=>ls.all λj=>decide (ba ws n≤ba ws j)) (λn=>V.int (n:Nat)) ls
 rw[e2] at h2;have s12:=s1.trans s2;have lkl:∀i∈dG ws ls,i<ws.length:=λi hi=>lt i (fM.mp hi).1
 have ll:(dG ws ls).length≤ls.length:=MP _ _;have lk:(aC (dG ws ls)).length=(dG ws ls).length:=LO _;have hl2:aS K H2 D2 (aC (dG ws ls)):=aS.of h2;generalize hlk:dG ws ls=lk_ at h2 hl2 lkl ll lk;refine⟨_,Z,D2,Z,⟨_,hl2⟩,λD3 hD3=>bC (cT hl2) (λi=>!lk_.any (dh es (lk_.getD i 0))) (λi=>V.int (lk_.getD i 0:Nat)) hD3 (by omega) (λi x H' hi sm hx Rk E kR kE=>?_) λH3 s3 h3=>?_⟩
 ·obtain⟨n,hn,rfl⟩:=nat_ hx;have mn:=LQ hn;have nl:=lkl n mn;have sm':=s12.trans sm;have hl3:aS K H' D2 (aC lk_):=sm.seq hl2;have mm:=m0.same sm';rw[ax 0 hn] at kR kE;refine⟨eU.set Z,_,Z,D2,Z,⟨_,hl3⟩,λD4 hD4=>bC (cT hl3) (λ_=>true) (λj=>V.bl (dh es n (lk_.getD j 0))) hD4 (by omega) (λj y H5 hj sm5 hy Rk2 E2 kR2 _=>?_) λH6 s6 h6=>?_⟩
  ·obtain⟨b,hb,rfl⟩:=nat_ hy;have bl:=lkl b (LQ hb);have m5:=mm.same sm5;obtain⟨rr,hrr⟩:∃r,rows[n]?=some r:=⟨_,LL (by rw[mm.len];exact nl)⟩;have hrow:=m5.row n rr hrr;rw[ax 0 hb] at kR2;have ev:L n b=dh es n b:=by rw[M6,eS];exact cl n b nl bl
   refine⟨eU.set Z,_,Z,_,Z,l,_,_,_,Z,Z,aS.of m5.top,aJ (show(rows.map V.ref)[n]?=some (V.ref rr) by rw[LX,hrr];rfl),_,Z,rr,_,_,_,Z,Z,aS.of hrow,aJ (gM bl),?_⟩;rw[ev];exact kR2 Z _ (aB.refl _)
  ·have e6:((range (aC lk_).length).filter λ_=>true).map (λj=>V.bl (dh es n (lk_.getD j 0)))=(lk_.map (dh es n)).map V.bl:=by
    rw[lk,Oa];exact cr 0 (λb=>V.bl (dh es n b)) lk_
   rw[e6] at h6;refine⟨D4,_,Z,aS.of h6,_,Z,?_⟩;rw[any_map];have ea:lk_.any (id∘dh es n)=lk_.any (dh es n):=Z;rw[ea]
   cases c:lk_.any (dh es n) with
   |false=>exact gZ (b:=!false) Z ⟨_,Z,kR (by rw[c];rfl) _ s6⟩
   |true=>exact dU (b:=!true) Z (kE (by rw[c];rfl) _ s6)
 have e3:((range (aC lk_).length).filter λi=>!lk_.any (dh es (lk_.getD i 0))).map (λi=>V.int (lk_.getD i 0:Nat))=aC (iW ws es ls):=by
  rw[lk];unfold iW;rw[hlk];exact dj 0 (λn=>!lk_.any (dh es n)) (λn=>V.int (n:Nat)) lk_
 rw[e3] at h3;have nx:=k9 (ws:=ws) rk ne;refine⟨_,Z,D3,_,_,_,Z,Z,aS.of h3,aJ (j:=0) (show(aC (iW ws es ls))[0]?=some (V.int (gw ws es ls:Nat)) by unfold aC;rw[LX,nx];rfl),k _ (s12.trans s3)⟩
theorem Fb(T:eg K mg t):bD P w K mg base dF 3 t.a_Q30 t.d_Q30 ["works","leans"] (qI K):=by
 refine T.F_Q30.ok lY (λvs H Q E h=>?_) (λcdv A outer s H vs Q E hr h=>?_)
 ·obtain⟨_,_,_,_,rfl,_⟩:=h;rfl
 obtain⟨v,u,ws,es,rfl,ak,k⟩:=h;refine dI.ok (af (b8 2 lY.nd (df (Db T) hr T.m_Q4 T.F_Q4.kp T.b_Q4 (ad (ap aA (by rfl) T.z_len MH (ad (qv 0) ag ae)) (ad (qv 1) ag ae) aF))) (af (b8 3 lY.nd (bJ (jg Z) (by rfl) T.z_list OY (ad (jA Z T.z_range (ad (ap aA (by rfl) T.z_len MH (ad (qv 0) ag ae)) ag aF)) ag aF))) (af (b8 4 lY.nd (bM ag)) (af (fK L9 (aD fV (ap aA (by rfl) T.z_len MH (ad (qv 3) ag ae)) ai (aL _)) (af (b8 5 lY.nd (df (Ho T) hr T.m_Q3 T.F_Q3.kp T.b_Q3 (ad (qv 0) (ad (qv 2) (ad (qv 3) ag ae) ae) ae))) (af (cK (fw MK slot_list_remove type_list_remove Cg (qv 3) (ad (qv 5) ag ae))) (ao (cK (fw MK PySem.F.slot_list_append PySem.F.type_list_append bV (qv 4) (ad (qv 5) ag ae))))))) (ao (aG (qv 4))))))) ?_
 nofun
 obtain⟨p,xs,rfl,hS,al⟩:=id ak.wv;have lx:xs.length=ws.length:=al.len;have w8:=ak.w8;refine⟨_,Z,p,_,Z,.inr hS,_,Z,ws.length,u,es,(by rw[←lx];rfl),ak.lv,ak.eok,by omega,λlm rows L H1 s1 m1 c1=>?_⟩;have hS1:=aM.same (K:=K) s1 _ _ hS;refine⟨_,Z,p,_,Z,.inr hS1,_,Z,λpr hpr=>?_⟩;rw[lx];have s2:=aj hpr (.rng 0 ws.length);refine⟨pr,ws.length,Z,ah,by omega,λwl hwl=>?_⟩;have s3:=aj hwl (.lst ((B.upTo ws.length).map V.int));have s23:=s2.trans s3;have hw3:upd (upd H1 pr (.rng 0 ws.length)) wl (.lst ((B.upTo ws.length).map V.int)) wl=some (.lst ((B.upTo ws.length).map V.int)):=ah;have wl0:H1 wl=none:=by
  cases e:H1 wl with
  |none=>rfl
  |some o=>rw[s2 _ _ e] at hwl;cases hwl
 generalize upd (upd H1 pr (.rng 0 ws.length)) wl (.lst ((B.upTo ws.length).map V.int))=H3 at s23 hw3 ⊢;refine⟨(by show 0≤sizeLine;exact Mx _),λlo hlo=>?_⟩;have s4:=aj hlo (.lst []);have nlw:lo≠wl:=λz=>by subst z;rw[hw3] at hlo;cases hlo
 have hw4:=s4 _ _ hw3;have ho4:upd H3 lo (.lst []) lo=some (.lst []):=ah;have s14:=s23.trans s4;have lo0:H1 lo=none:=by
  cases e:H1 lo with
  |none=>rfl
  |some o=>rw[s23 _ _ e] at hlo;cases hlo
 have eup:(B.upTo ws.length).map V.int=aC (cj ws.length (aO ws es 0)):=by
  show _=aC ((range ws.length).filter λi=>!([]:List Nat).contains i);have e:(range ws.length).filter (λi=>!([]:List Nat).contains i)=range ws.length:=NC.mpr λi _=>Z
  rw[e];unfold B.upTo aC;rw[Oa];rfl
 rw[eup] at hw4;generalize upd H3 lo (.lst [])=H4 at s14 hw4 ho4 ⊢;have keep:∀H',(∀b o,b≠wl->b≠lo->H4 b=some o->H' b=some o)->aB H1 H':=λH' kp b o e=>kp b o (λz=>by subst z;rw[wl0] at e;cases e) (λz=>by subst z;rw[lo0] at e;cases e) (s14 _ _ e)
 let Iv1:Nat->L2.St->Hp->Prop:=λm σ H'=>∃(i:Nat) (x5:Option V),σ=[some (.ref p),some u,some (.ref lm),some (.ref wl),some (.ref lo),x5]/\(∀b o,b≠wl->b≠lo->H4 b=some o->H' b=some o)/\H' wl=some (.lst (aC (cj ws.length (aO ws es i))))/\H' lo=some (.lst (aC (aO ws es i)))/\i≤ws.length/\m=ws.length-i
 refine⟨Iv1,⟨_,0,none,Z,λ_ _ _ _ e=>e,hw4,ho4,Mx _,Z⟩,?_⟩;rintro m σ H5 ⟨i,x5,rfl,kp,hw5,ho5,hi,rfl⟩;have oi:=dz (es:=es) ak.rk i hi;have s5:=keep H5 kp;have wl_:=oi.wl;refine⟨_,Z,wl,_,Z,.inl (aS.of hw5),_,_,Z,Z,_,Z,?_⟩;have lnv:(aC (cj ws.length (aO ws es i))).length=(cj ws.length (aO ws es i)).length:=LO _;by_cases c:i<ws.length
 ·refine cn (by omega) ⟨_,λ_ _ z=>z,?_⟩;obtain⟨oi1,j,hj,ej⟩:=oi.step ak.rk c;refine⟨_,Z,_,Z,_,Z,.ref p,lm,wl,ws,es,rows,L,cj ws.length (aO ws es i),Z,⟨p,xs,Z,aM.same s5 _ _ hS1,(al.mono λ_ _ z=>z.mono (aM.same s1)).mono λ_ _ z=>z.mono (aM.same s5)⟩,w8,m1.same s5,c1,aS.of hw5,(λn hn=>(eE.mp hn).1),oi.ne c,by omega,ak.rk,λH6 s6=>?_⟩;refine⟨_,Z,.inl ⟨Z,_,aS.of (s6 _ _ hw5)⟩,_,Z,wl,_,j,_,Z,Z,s6 _ _ hw5,hj,AA (uk _ _) hj,?_⟩;rw[ej];have ho6:=s6 _ _ ho5;have ho7:upd H6 wl (.lst ((cj ws.length (aO ws es (i+1))).map λi:Nat=>V.int i)) lo=some (.lst (aC (aO ws es i))):=by rw[aE nlw];exact ho6
  refine⟨_,Z,.inl ⟨Z,_,aS.of ho7⟩,_,Z,lo,_,_,Z,Z,ho7,be (by unfold aC;rw[LO,oi.len];omega),?_⟩;refine⟨_,(by omega),i+1,_,Z,λb o n1 n2 e=>?_,?_,?_,c,Z⟩
  ·rw[aE n2,aE n1];exact s6 _ _ (kp b o n1 n2 e)
  ·rw[aE (NO nlw),ah];rfl
  ·rw[ah];show some (HO.lst (aC (aO ws es i)++[_]))=some (HO.lst (aC (aO ws es i++[_])));unfold aC;rw[Ni];rfl
 ·refine bI (by omega) ?_;have e:i=ws.length:=by omega
  subst e;exact⟨_,Z,k lo H5 (s1.trans s5) (by
   cases e:H lo with
   |none=>rfl
   |some o=>rw[s1 _ _ e] at lo0;cases lo0) ho5⟩
theorem Fm(T:eg K mg t):bD P w K mg base dF 4 t.a_Q16 t.d_Q16 ["works","order","left","turn","speed"] (pG K):=by
 refine T.F_Q16.ok ka (λvs H Q E h=>?_) (λcdv A outer s H vs Q E hr h=>?_)
 ·obtain⟨_,_,_,_,_,_,_,_,_,_,rfl,_⟩:=h;rfl
 obtain⟨v,u,o,lf,ws,ord,xs,rs,t_,sp,rfl,⟨p,xw,rfl,hS,al⟩,ho,hlf,nol,alr,lr,okr,hu,asp,olt,o8,k⟩:=h;refine dI.ok (af (b8 5 ka.nd (bM ag)) (af (b8 6 ka.nd (qv 4)) (af (bS L9 Z (bQ (qv 1)) (au (i:=7) ka.nd Z (by first|exact L8 Z|exact L7 Z)) (af (bA (hX (cu (df (Aa T) hr T.m_Q15 T.F_Q15.kp T.b_Q15 (ad (bW az (qv 0) (qv 7)) (ad (qv 3) ag ae) aI)))) (ao re) aP) (af (b8 8 ka.nd (df (E1 T) hr T.m_Q48 T.F_Q48.kp T.b_Q48 (ad (bW bt (qv 2) (qv 7)) (ad (qv 6) ag ae) aI))) (ao (bA (aD (ic hr) (qv 8) (cU (v:=.ref t.c_NOUGHT) Z T.m_NOUGHT Z) (aL _)) (af (cK (fw MK PySem.F.slot_list_append PySem.F.type_list_append bV (qv 5) (ad (bB (ad (qv 7) (ad (qv 8) ag ae) ae)) ag cC))) (af (em (df (zZ T) hr T.m_Q54 T.F_Q54.kp T.b_Q54 (ad (bW bt (qv 2) (qv 7)) (ad (qv 8) ag ae) aI)) (gQ (qv 2) (qv 7) eh)) (ao (b8 6 ka.nd (df (zZ T) hr T.m_Q54 T.F_Q54.kp T.b_Q54 (ad (qv 6) (ad (qv 8) ag ae) ae)))))) aP))))) (ao (aG (bJ br (by rfl) T.z_tuple MR (ad (qv 5) ag ae))))))) ?_
 nofun
 refine⟨(by show 0≤sizeLine;exact Mx _),λdl hdl=>?_⟩;have s1:=aj hdl (.lst []);have hd1:upd H dl (.lst []) dl=some (.lst []):=ah;have ndf:dl≠lf:=λz=>by subst z;rw[hlf] at hdl;cases hdl
 have ndo:dl≠o:=λz=>by subst z;rw[ho] at hdl;cases hdl
 have hlf1:=s1 _ _ hlf;have ho1:=s1 _ _ ho;generalize upd H dl (.lst [])=H1 at s1 hd1 hlf1 ho1 ⊢;have l12:∀r∈[dl,lf],∃xs,H1 r=some (.lst xs):=λr m=>by
  rcases LZ.mp m with z|z
  ·exact⟨_,by rw[z];exact hd1⟩
  ·exact⟨_,by rw[LP.mp z];exact hlf1⟩
 have t1:=aM.same (K:=K) s1;have onot:o∉[dl,lf]:=λm=>by
  rcases LZ.mp m with z|z
  ·exact ndo z.symm
  ·exact nol (LP.mp z)
 have md:dl∈[dl,lf]:=LY;have ml:lf∈[dl,lf]:=L3 _ LY;let Iv1:Nat->L2.St->Hp->Prop:=λi σ H'=>∃(rv:V) (zs ys:List V) (st:vo) (x8 x9:Option V),σ=[some (.ref p),some (.ref o),some (.ref lf),some (.int (t_:Nat)),some u,some (.ref dl),some rv,x8,x9]/\st=(ord.take i).foldl (bY ws t_) (rs,sp,[])/\Kp [dl,lf] H1 H'/\H' lf=some (.lst zs)/\cO (RV K H') zs st.1/\RV K H' rv st.2.1/\H' dl=some (.lst ys)/\cO (A2 K H') ys st.2.2/\sq ws.length st/\st.2.2.length≤i
 refine⟨_,Z,_,Z,o,Z,⟨_,aS.of ho1⟩,dW (K:=K) (a:=o) (xs:=aC ord) Iv1 ⟨u,xs,[],(rs,sp,[]),none,none,Z,Z,Kp.same (aB.refl _) l12,hlf1,alr.mono λ_ _ z=>z.mono t1,hu.mono t1,hd1,.nil,⟨lr,okr,asp,λp hp=>by cases hp⟩,LN _⟩ (λi σ H' _ ⟨_,_,_,_,_,_,_,_,kp,_⟩=>aS.of (kp.keep _ _ onot ho1)) ?_ ?_⟩
 ·rintro i x σ H3 hx ⟨rv,zs,ys,st,x8,x9,rfl,est,kp,hl3,alz,hrv,hd3,aly,dok,few⟩;obtain⟨n,hn,rfl⟩:=iz hx;have nl:=olt n (LQ hn);have i8:i<ord.length:=(LR.mp hn).1;have t3:=t1.trans (aM.kp kp);have es:(ord.take (i+1)).foldl (bY ws t_) (rs,sp,[])=bY ws t_ st n:=by rw[MN,hn,Oi,est];rfl
  obtain⟨wv,hwv⟩:∃wv,xw[n]?=some wv:=⟨_,LL (by rw[al.len];exact nl)⟩;obtain⟨w,hw,hwk⟩:=al.at hwv;have ew:ws.getD n bG=w:=ax bG hw;obtain⟨zv,hzv⟩:∃zv,zs[n]?=some zv:=⟨_,LL (by rw[alz.len,dok.len];exact nl)⟩;obtain⟨r,hr_,hrz⟩:=alz.at hzv;have er:st.1.getD n (0,1)=r:=ax (0,1) hr_;have ar:fD r:=dok.lf r (LQ hr_);refine⟨_,Z,_,Z,p,_,_,_,Z,Z,t3 _ _ hS,aJ hwv,_,Z,_,w,t_,Z,hwk.mono t3,_,Z,?_⟩;obtain⟨dk1,fw1⟩:=dok.step (ws:=ws) (t:=t_) nl
  cases c:fu w t_ with
  |false=>
   refine gZ (b:=!false) Z ?_;have e0:bY ws t_ st n=st:=by
    unfold bY;rw[if_neg];rintro⟨z,_⟩;rw[ew,c] at z
    cases z
   exact⟨rv,zs,ys,st,_,_,Z,(es.trans e0).symm,kp,hl3,alz,hrv,hd3,aly,dok,by omega⟩
  |true=>
   refine dU (b:=!true) Z ?_;refine⟨_,Z,_,Z,lf,_,_,_,Z,Z,aS.of hl3,aJ hzv,_,Z,_,rv,r,st.2.1,Z,hrz,hrv,ar,dok.rm,λa ha=>?_⟩;have aa:=mM ar dok.rm;generalize ea:eJ r st.2.1=am at ha aa;refine⟨_,Z,dR am,dR (0,1),ha.deep,RV.deep ⟨_,Z,T.q_NOUGHT _⟩,Z,Z,jO _,_,Z,?_⟩;rw[lh];by_cases cz:am=(0,1)
   ·refine dU (b:=!decide (am=(0,1))) (by rw[decide_eq_true cz];rfl) ?_;have e0:bY ws t_ st n=st:=by
     unfold bY;rw[if_neg];rintro⟨_,z⟩;rw[er,ea] at z;exact z cz
    exact⟨rv,zs,ys,st,_,_,Z,(es.trans e0).symm,kp,hl3,alz,hrv,hd3,aly,dok,by omega⟩
   ·refine gZ (b:=!decide (am=(0,1))) (by rw[decide_eq_false cz];rfl) ?_;have e1:bY ws t_ st n=(st.1.set n (cI r am),cI st.2.1 am,st.2.2++[(n,am)]):=by
     unfold bY;rw[if_pos ⟨by rw[ew];exact c,by rw[er,ea];exact cz⟩,er,ea]
    refine⟨_,Z,.inl ⟨Z,_,aS.of hd3⟩,_,Z,_,Z,iY,λpn hpn=>?_⟩;have s4:=aj hpn (.tup [.int (n:Nat),a]);have hp4:upd H3 pn (.tup [.int (n:Nat),a]) pn=some (.tup [.int (n:Nat),a]):=ah;generalize upd H3 pn (.tup [.int (n:Nat),a])=H4 at s4 hp4 ⊢;have hd4:=s4 _ _ hd3;have kp4:=kp.trans (Kp.same s4 kp.ls');refine⟨dl,ys,_,Z,Z,hd4,be (by rw[aly.len];omega),?_⟩;have kp5:=Kp.up md kp4.ls' (ys++[.ref pn]);have hd5:upd H4 dl (.lst (ys++[.ref pn])) dl=some (.lst (ys++[.ref pn])):=ah;have hl5:upd H4 dl (.lst (ys++[.ref pn])) lf=some (.lst zs):=by rw[aE (NO ndf)];exact s4 _ _ hl3
    generalize upd H4 dl (.lst (ys++[.ref pn]))=H5 at kp5 hd5 hl5 ⊢;have t35:=(aM.same (K:=K) s4).trans (aM.kp kp5);have kq5:=kp4.trans kp5;refine⟨_,Z,_,Z,lf,_,_,_,Z,Z,aS.of hl5,aJ hzv,_,Z,_,a,r,am,50,50,Z,hrz.mono t35,ha.mono t35,ar.wf,aa.wf,by decide,λmv H6 s6 hmv=>?_⟩;have hl6:=s6 _ _ hl5;have hd6:=s6 _ _ hd5;have kq6:=kq5.trans (Kp.same s6 kq5.ls');have t36:=t35.trans (aM.same s6);refine⟨_,Z,_,Z,lf,zs,_,n,Z,Z,hl6,iC (by rw[alz.len,dok.len];exact nl),?_⟩;have kp7:=Kp.up ml kq6.ls' (zs.set n mv);have hl7:upd H6 lf (.lst (zs.set n mv)) lf=some (.lst (zs.set n mv)):=ah;have hd7:upd H6 lf (.lst (zs.set n mv)) dl=some (.lst (ys++[.ref pn])):=by rw[aE ndf];exact hd6
    generalize upd H6 lf (.lst (zs.set n mv))=H7 at kp7 hl7 hd7 ⊢;have t67:=aM.kp (K:=K) kp7;have t37:=t36.trans t67;have kq7:=kq6.trans kp7;refine⟨_,Z,_,Z,rv,a,st.2.1,am,50,50,Z,hrv.mono t37,ha.mono t37,dok.rm.wf,aa.wf,by decide,λrv2 H8 s8 hrv2=>?_⟩;have t78:=aM.same (K:=K) s8;have t38:=t37.trans t78;have est':bY ws t_ st n=(ord.take (i+1)).foldl (bY ws t_) (rs,sp,[]):=es.symm;rw[e1] at est' dk1 fw1;exact⟨rv2,_,_,_,_,_,Z,est',kq7.trans (Kp.same s8 kq7.ls'),s8 _ _ hl7,cO.setI (hmv.mono (t67.trans t78)) n (alz.mono λ_ _ z=>z.mono t38),hrv2,s8 _ _ hd7,cO.snoc ⟨pn,a,Z,(((aM.kp kp5).trans (aM.same s6)).trans (t67.trans t78)) _ _ (bH.of hp4),ha.mono t38⟩ (aly.mono λ_ _ z=>z.mono t38),dk1,by omega⟩
 ·rintro σ H3 ⟨rv,zs,ys,st,x8,x9,rfl,est,kp,hl3,alz,hrv,hd3,aly,dok,few⟩;rw[show(aC ord).length=ord.length from LO _,M4] at est;refine⟨_,Z,dl,_,Z,.inl ⟨aS.of hd3,λpt hpt=>?_⟩⟩;have s4:=aj hpt (.tup ys);have t34:=aM.same (K:=K) s4;have e:dJ ws ord t_ rs sp=st:=est.symm;refine k (.ref pt) zs _ ⟨λb o' nb e=>s4 _ _ (kp.keep b o' (λm=>?_) (s1 _ _ e)),⟨_,hlf⟩,⟨_,s4 _ _ hl3⟩⟩ (s4 _ _ hl3) (by rw[e];exact alz.mono λ_ _ z=>z.mono t34) (by rw[e];exact⟨pt,ys,Z,bH.of ah,aly.mono λ_ _ z=>z.mono t34⟩);rcases LZ.mp m with z|z
  ·rw[z,hdl] at e;cases e
  ·exact nb (LP.mp z)
theorem Fa(T:eg K mg t):bD P w K mg base dF 1 t.a_Q31 t.d_Q31 ["_law_script"] (qJ K):=by
 refine T.F_Q31.ok DV (λvs H Q E h=>?_) (λcdv A outer s H vs Q E hr h=>?_)
 ·obtain⟨_,_,rfl,_⟩:=h;rfl
 obtain⟨a,ns,rfl,hS,hl,k⟩:=h;refine dI.ok (ao (aG (bM (ad (qv 0) (ad ai (ad ai ag aH) aH) ae)))) ?_;nofun
 refine⟨_,Z,Du,λt ht=>?_⟩;exact k t _ (aj ht _) ht (cN.mk3 hS hl ht)
theorem eQ(T:eg K mg t):bD P w K mg base dF 1 t.a_Q32 t.d_Q32 ["_law_tape_here","_law_many"] (qP K):=by
 refine T.F_Q32.ok j8 (λvs H Q E h=>?_) (λcdv A outer s H vs Q E hr h=>?_)
 ·obtain⟨_,_,_,rfl,_⟩:=h;rfl
 obtain⟨t₁,s₁,m,rfl,tp,hm0,hm1,k⟩:=h;refine dI.ok (af (bA (aD dg (bW bt (qv 0) ai) ai (aL _)) (af (b8 2 j8.nd (bW bt (qv 0) ai)) (af (em (aN dP (qv 2) ai) (gQ (qv 0) ai eh)) (af (b8 3 j8.nd (qv 2)) (af (bA (aD fV (ap aA (by rfl) T.z_len MH (ad (bW bt (qv 0) ai) ag aI)) ai (aL _)) (ao (b8 3 j8.nd (bW bt (bW bt (qv 0) ai) (aN gh (qv 2) (ap aA (by rfl) T.z_len MH (ad (bW bt (qv 0) ai) ag aI)))))) aP) (af (bA (eY (iP (aD mz (qv 3) (aN ES ai ai) (aL _)) (gc (aD Hi (qv 2) (ap aA (by rfl) T.z_len MH (ad (bW bt (qv 0) ai) ag aI)) (aL _))))) (af (b8 4 j8.nd (aN gh (aN ft (aN dP (aN gh (qv 3) ai) ai) (aN dP ai (aN ft ai (aN gh (qv 2) ai)))) ai)) (ao (aG (aN gh (aN gS (aN gh (aN ft (aN dP (qv 4) (aN ft ai (qv 2))) ai) ai) ai) (qv 1))))) aP) (ao (em (qv 3) (gQ (qv 0) ai eh)))))))) aP) (af (b8 5 j8.nd (aN gh (bW bt (qv 0) ai) (qv 1))) (af (em (aN gS (bW bt (qv 0) ai) (qv 1)) (gQ (qv 0) ai eh)) (ao (aG (qv 5)))))) ?_
 nofun
 obtain⟨ns,p,q,ht,hs,hlen,hp0,hq0⟩:=tp.ex;have hs':∀o,aS K (upd H t₁ o) s₁ (ns.map V.int):=λo=>hs.elim (λz=>.inl (pP z.1 z.2.symm)) λz=>z _
 have tap:∀(p' q':Int),0≤p'->0≤q'->cN K (upd H t₁ (.lst [.ref s₁,.int p',.int q'])) t₁ s₁:=λp' q' a b=>⟨ns,p',q',ah,hs.elim (λz=>.inl ⟨pP z.1 z.2.symm,z.2⟩) λz=>.inr z,hlen,a,b⟩
 have hl:((ns.map V.int).length:Int)=(ns.length:Int):=by rw[LO]
 refine⟨_,Z,t₁,_,_,_,Z,Z,aS.of ht,Z,Z,_,Z,?_⟩;by_cases c0:q=0
 ·refine cn (by rw[c0]) ?_;refine⟨_,Z,t₁,_,_,_,Z,Z,aS.of ht,Z,?_⟩;refine⟨_,Z,_,_,Z,Z,_,Z,t₁,_,_,_,Z,Z,ht,Z,?_⟩;refine⟨_,Z,?_⟩;refine⟨_,Z,t₁,_,_,_,Z,Z,aS.of ah,Z,s₁,_,Z,.inl (hs' _),_,_,Z,Z,_,Z,?_⟩;refine wk (λc9=>?_) (λ_=>?_)
  ·have c8:(0:Int)<(ns.length:Int):=by
    have c7:(0:Int)<((ns.map V.int).length:Int):=of_decide_eq_true c9;rw[hl] at c7;exact c7
   obtain⟨z,hz⟩:=G8 (ns:=ns) (r:=p%(ns.length:Int)) (NI _ (by omega)) (NA _ c8);rw[←hl] at hz c8;refine⟨_,Z,t₁,_,_,_,Z,Z,aS.of ah,Z,_,Z,_,Z,t₁,_,_,_,Z,Z,aS.of ah,Z,s₁,_,Z,.inl (hs' _),_,_,Z,Z,c8,s₁,_,_,_,Z,Z,hs' _,hz,?_⟩;refine⟨_,Z,_,_,Z,Z,⟨by decide,by decide,by decide⟩,_,_,Z,Z,_,Z,?_⟩;refine wk (λ_=>?_) (λd1=>?_)
   ·refine d0 ?_;refine⟨_,Z,_,_,Z,Z,(by show(0:Int)<_;decide),_,_,Z,Z,_,Z,_,_,Z,Z,(by show(0:Int)<_;decide),_,_,Z,Z,.inl ⟨by omega,by omega⟩,_,_,Z,Z,_,_,Z,Z,.inl ⟨by omega,by omega⟩,_,_,Z,Z,(by show(0:Int)<_;decide),?_⟩;refine⟨_,Z,_,Z,_,_,Z,Z,.inl ⟨by omega,by omega⟩,_,_,Z,Z,_,_,Z,Z,.inr ⟨by decide,by decide⟩,_,_,Z,Z,(by show(0:Int)<_;decide),_,_,Z,Z,⟨by decide,by decide⟩,_,Z,_,_,Z,Z,hm0,?_⟩;exact k _ _ (NI _ (by omega)) (NA _ hm0) (tap (p+1) q (by omega) hq0)
   ·refine⟨_,Z,_,Z,t₁,_,_,_,Z,Z,aS.of ah,Z,s₁,_,Z,.inl (hs' _),_,_,Z,Z,_,Z,?_⟩;refine wk (λ_=>?_) (λ_=>?_)
    ·refine⟨_,Z,_,_,Z,Z,(by show(0:Int)<_;decide),_,_,Z,Z,_,Z,_,_,Z,Z,(by show(0:Int)<_;decide),_,_,Z,Z,.inl ⟨by omega,by omega⟩,_,_,Z,Z,_,_,Z,Z,.inl ⟨by omega,by omega⟩,_,_,Z,Z,(by show(0:Int)<_;decide),?_⟩;refine⟨_,Z,_,Z,_,_,Z,Z,.inl ⟨by omega,by omega⟩,_,_,Z,Z,_,_,Z,Z,.inr ⟨by decide,by decide⟩,_,_,Z,Z,(by show(0:Int)<_;decide),_,_,Z,Z,⟨by decide,by decide⟩,_,Z,_,_,Z,Z,hm0,?_⟩;exact k _ _ (NI _ (by omega)) (NA _ hm0) (tap (p+1) q (by omega) hq0)
    ·have d2:(0:Int)≤z:=by
      have d3:1000000000000000000≤z:=by simpa using d1
      omega
     refine⟨_,Z,_,Z,t₁,_,_,_,Z,Z,ah,Z,?_⟩;rw[kZ];refine⟨_,Z,t₁,_,_,_,Z,Z,aS.of ah,Z,_,Z,_,_,Z,Z,hm0,?_⟩;refine⟨_,Z,t₁,_,_,_,Z,Z,aS.of ah,Z,_,Z,_,_,Z,Z,⟨hm0,hm1⟩,_,Z,t₁,_,_,_,Z,Z,ah,Z,?_⟩;refine⟨_,Z,?_⟩;rw[kZ];exact k _ _ (NI _ (by omega)) (NA _ hm0) (tap (p+1) (z/m) (by omega) (Pg d2 (by omega)))
  ·obtain⟨z,hz⟩:∃z,z=p:=⟨_,Z⟩;refine⟨_,Z,_,_,Z,Z,⟨by decide,by decide,by decide⟩,_,_,Z,Z,_,Z,?_⟩;refine wk (λ_=>?_) (λd1=>?_)
   ·refine d0 ?_;refine⟨_,Z,_,_,Z,Z,(by show(0:Int)<_;decide),_,_,Z,Z,_,Z,_,_,Z,Z,(by show(0:Int)<_;decide),_,_,Z,Z,.inl ⟨by omega,by omega⟩,_,_,Z,Z,_,_,Z,Z,.inl ⟨by omega,by omega⟩,_,_,Z,Z,(by show(0:Int)<_;decide),?_⟩;refine⟨_,Z,_,Z,_,_,Z,Z,.inl ⟨by omega,by omega⟩,_,_,Z,Z,_,_,Z,Z,.inr ⟨by decide,by decide⟩,_,_,Z,Z,(by show(0:Int)<_;decide),_,_,Z,Z,⟨by decide,by decide⟩,_,Z,_,_,Z,Z,hm0,?_⟩;exact k _ _ (NI _ (by omega)) (NA _ hm0) (tap (p+1) q (by omega) hq0)
   ·refine⟨_,Z,_,Z,t₁,_,_,_,Z,Z,aS.of ah,Z,s₁,_,Z,.inl (hs' _),_,_,Z,Z,_,Z,?_⟩;refine wk (λ_=>?_) (λ_=>?_)
    ·refine⟨_,Z,_,_,Z,Z,(by show(0:Int)<_;decide),_,_,Z,Z,_,Z,_,_,Z,Z,(by show(0:Int)<_;decide),_,_,Z,Z,.inl ⟨by omega,by omega⟩,_,_,Z,Z,_,_,Z,Z,.inl ⟨by omega,by omega⟩,_,_,Z,Z,(by show(0:Int)<_;decide),?_⟩;refine⟨_,Z,_,Z,_,_,Z,Z,.inl ⟨by omega,by omega⟩,_,_,Z,Z,_,_,Z,Z,.inr ⟨by decide,by decide⟩,_,_,Z,Z,(by show(0:Int)<_;decide),_,_,Z,Z,⟨by decide,by decide⟩,_,Z,_,_,Z,Z,hm0,?_⟩;exact k _ _ (NI _ (by omega)) (NA _ hm0) (tap (p+1) q (by omega) hq0)
    ·have d2:(0:Int)≤p:=by
      have d3:1000000000000000000≤p:=by simpa using d1
      omega
     refine⟨_,Z,_,Z,t₁,_,_,_,Z,Z,ah,Z,?_⟩;rw[kZ];refine⟨_,Z,t₁,_,_,_,Z,Z,aS.of ah,Z,_,Z,_,_,Z,Z,hm0,?_⟩;refine⟨_,Z,t₁,_,_,_,Z,Z,aS.of ah,Z,_,Z,_,_,Z,Z,⟨hm0,hm1⟩,_,Z,t₁,_,_,_,Z,Z,ah,Z,?_⟩;refine⟨_,Z,?_⟩;rw[kZ];exact k _ _ (NI _ (by omega)) (NA _ hm0) (tap (p+1) (p/m) (by omega) (Pg d2 (by omega)))
 refine bI (λz=>c0 (by injection z)) ?_;refine⟨_,Z,t₁,_,_,_,Z,Z,aS.of ht,Z,_,Z,_,_,Z,Z,hm0,?_⟩;refine⟨_,Z,t₁,_,_,_,Z,Z,aS.of ht,Z,_,Z,_,_,Z,Z,⟨hm0,hm1⟩,_,Z,t₁,_,_,_,Z,Z,ht,Z,?_⟩;refine⟨_,Z,?_⟩;exact k _ _ (NI _ (by omega)) (NA _ hm0) (tap p (q/m) hp0 (Pg hq0 (by omega)))
theorem z9(T:eg K mg t):bD P w K mg base dF 5 t.a_Q17 t.d_Q17 ["_law_due","_law_found"] (pC K):=by exact pX T 3 (v5 T)
theorem tE(T:eg K mg t):bD P w K mg base dF 1 t.a_Q33 t.d_Q33 ["_law_top","_law_bottom"] (qO K):=by
 refine T.F_Q33.ok sV (λvs H Q E h=>?_) (λcdv A outer s H vs Q E hr h=>?_)
 ·obtain⟨_,_,rfl,_⟩:=h;rfl
 obtain⟨a,b,rfl,hb,hz,k⟩:=h;refine dI.ok (af (tf (i:=2) (j:=3) Z sV.nd Z Z (by decide) Z Z (ad (ap mZ (by rfl) T.z_abs boot_abs (ad (qv 0) ag ae)) (ad (qv 1) ag ae) aF) Z) (af (fK L9 (aD iR (qv 3) ai (aL _)) (ao (tf (i:=2) (j:=3) Z sV.nd Z Z (by decide) Z Z (ad (qv 3) (ad (aN gh (qv 2) (qv 3)) ag bx) ae) Z))) (ao (aG (bB (ad (aN eP (qv 0) (qv 2)) (ad (aN eP (qv 1) (qv 2)) ag bx) bx)))))) ?_
 nofun
 have gp:=cD (a:=a) hb;have gb:=mU (a:=a) hb hz;refine⟨_,Z,_,Z,_,Z,_,_,Z,?_⟩;rw[uc];let Iv1:Nat->L2.St->Hp->Prop:=λm σ H'=>∃(x y:Int),σ=[some (.int a),some (.int b),some (.int x),some (.int y)]/\H'=H/\0≤x/\0≤y/\Int.gcd x y=Int.gcd a b/\m=y.toNat
 refine⟨Iv1,⟨_,_,_,Z,Z,by omega,by omega,(by simp[Int.gcd]),Z⟩,?_⟩;rintro m σ H' ⟨x,y,rfl,rfl,hx,hy,hg,rfl⟩;refine⟨_,Z,Z,_,Z,?_⟩;by_cases c:y=0
 ·subst c;refine iV Z ?_;have e:(x:Int)=(Int.gcd x 0:Nat):=by simp[Int.gcd];omega
  rw[hg] at e;subst e;exact⟨_,Z,_,Z,_,_,Z,Z,⟨gp,gb⟩,_,Z,_,Z,_,_,Z,Z,⟨gp,gb⟩,iY,λp hp=>k p hp⟩
 ·refine Ap (λz=>c (by injection z)) ?_;refine⟨_,λ_ _ z=>z,?_⟩;refine⟨_,Z,_,Z,_,Z,_,_,Z,Z,(by omega),_,_,Z,?_⟩;refine⟨_,?_,y,x%y,Z,Z,hy,NI _ c,?_,Z⟩
  ·have:=NA x (show 0<y by omega);have:=NI x c;omega
  ·rw[rJ hx (by omega),hg]
theorem mC(T:eg K mg t):bD P w K mg base dF 2 t.a_Q38 t.d_Q38 ["_law_one","_law_other"] (sL K):=by
 refine T.F_Q38.ok DR (λvs H Q E h=>?_) (λcdv A outer s H vs Q E hr h=>?_)
 ·obtain⟨_,_,_,_,_,_,rfl,_⟩:=h;rfl
 obtain⟨v,w,r,q,n,m,rfl,hv,hw,wr,wq,hz,k⟩:=h;refine dI.ok (ao (aG (df (tE T) hr T.m_Q33 T.F_Q33.kp T.b_Q33 (ad (aN dP (aN dC (bW az (qv 0) ai) (bW az (qv 1) ai)) (aN dC (bW az (qv 1) ai) (bW az (qv 0) ai))) (ad (aN dC (bW az (qv 0) ai) (bW az (qv 1) ai)) ag bx) bx)))) ?_;nofun
 obtain⟨p,rfl,hv⟩:=hv;obtain⟨p',rfl,hw⟩:=hw;have c1:=bX wr.top (show n≤4000 by omega);have c2:=bX wr.bot (show n≤4000 by omega);have c3:=bX wq.top (show m≤4000 by omega);have c4:=bX wq.bot (show m≤4000 by omega);refine⟨_,Z,p,_,_,_,Z,Z,hv,Z,_,Z,p',_,_,_,Z,Z,hw,Z,_,_,Z,Z,⟨c1,c4⟩,_,Z,p',_,_,_,Z,Z,hw,Z,_,Z,p,_,_,_,Z,Z,hv,Z,_,_,Z,Z,⟨c3,c2⟩,_,_,Z,Z,_,Z,p,_,_,_,Z,Z,hv,Z,_,Z,p',_,_,_,Z,Z,hw,Z,_,_,Z,Z,⟨c2,c4⟩,_,_,Z,N9 wr.pos wq.pos,bX (mG wr.bot wq.bot) (by omega),k⟩
theorem E6(T:eg K mg t):bD P w K mg base dF 2 t.a_Q39 t.d_Q39 ["_law_one","_law_other"] (sJ K):=by
 refine T.F_Q39.ok DQ (λvs H Q E h=>?_) (λcdv A outer s H vs Q E hr h=>?_)
 ·obtain⟨_,_,_,_,_,_,rfl,_⟩:=h;rfl
 obtain⟨v,w,r,q,n,m,rfl,hv,hw,wr,wq,hz,k⟩:=h;refine dI.ok (ao (aG (df (tE T) hr T.m_Q33 T.F_Q33.kp T.b_Q33 (ad (aN dC (bW az (qv 0) ai) (bW az (qv 1) ai)) (ad (aN dC (bW az (qv 0) ai) (bW az (qv 1) ai)) ag bx) bx)))) ?_;nofun
 obtain⟨p,rfl,hv⟩:=hv;obtain⟨p',rfl,hw⟩:=hw;have c1:=bX wr.top (show n≤4000 by omega);have c2:=bX wr.bot (show n≤4000 by omega);have c3:=bX wq.top (show m≤4000 by omega);have c4:=bX wq.bot (show m≤4000 by omega);refine⟨_,Z,p,_,_,_,Z,Z,hv,Z,_,Z,p',_,_,_,Z,Z,hw,Z,_,_,Z,Z,⟨c1,c3⟩,_,Z,p,_,_,_,Z,Z,hv,Z,_,Z,p',_,_,_,Z,Z,hw,Z,_,_,Z,Z,⟨c2,c4⟩,_,_,Z,N9 wr.pos wq.pos,bX (mG wr.bot wq.bot) (by omega),k⟩
theorem z8(T:eg K mg t):bD P w K mg base dF 1 t.a_Q34 t.d_Q34 ["_law_one","_law_other"] (qN K):=by
 refine T.F_Q34.ok DU (λvs H Q E h=>?_) (λcdv A outer s H vs Q E hr h=>?_)
 ·obtain⟨_,_,_,_,_,_,rfl,_⟩:=h;rfl
 obtain⟨v,w,r,q,n,m,rfl,hv,hw,wr,wq,hz,k⟩:=h;refine dI.ok (ao (aG (eB mz (aN dC (bW az (qv 0) ai) (bW az (qv 1) ai)) (aN dC (bW az (qv 1) ai) (bW az (qv 0) ai)) (aL _)))) ?_;nofun
 obtain⟨p,rfl,hv⟩:=hv;obtain⟨p',rfl,hw⟩:=hw;have c1:=bX wr.top (show n≤4000 by omega);have c2:=bX wr.bot (show n≤4000 by omega);have c3:=bX wq.top (show m≤4000 by omega);have c4:=bX wq.bot (show m≤4000 by omega);refine⟨_,Z,p,_,_,_,Z,Z,hv,Z,_,Z,p',_,_,_,Z,Z,hw,Z,_,_,Z,Z,⟨c1,c4⟩,_,Z,p',_,_,_,Z,Z,hw,Z,_,Z,p,_,_,_,Z,Z,hv,Z,_,_,Z,Z,⟨c3,c2⟩,_,_,Z,Z,k⟩
theorem Fl(T:eg K mg t):bD P w K mg base dF 2 t.a_Q18 t.d_Q18 ["_law_tape_here","_law_many"] (o5 K):=by
 refine T.F_Q18.ok fH (λvs H Q E h=>?_) (λcdv A outer s H vs Q E hr h=>?_)
 ·obtain⟨_,_,_,rfl,_⟩:=h;rfl
 obtain⟨t₁,s₁,m,rfl,tp,hm,k⟩:=h;refine dI.ok (af (b8 2 fH.nd (bW bt (bM (ad ai (ad ai (ad ai (ad ai ag aH) aH) aH) aH)) (df (eQ T) hr T.m_Q32 T.F_Q32.kp T.b_Q32 (ad (qv 0) (ad ai ag aH) ae)))) (af (b8 3 fH.nd (bM ag)) (af (bS L9 Z (bU Z T.z_range (ad (qv 1) ag ae)) (au (i:=4) fH.nd Z (by first|exact L8 Z|exact L7 Z)) (af (b8 5 fH.nd (df (eQ T) hr T.m_Q32 T.F_Q32.kp T.b_Q32 (ad (qv 0) (ad (qv 2) ag ae) ae))) (af (b8 6 fH.nd (aN dP (qv 5) (df (eQ T) hr T.m_Q32 T.F_Q32.kp T.b_Q32 (ad (qv 0) (ad (aN fo (qv 2) (qv 5)) ag bx) ae)))) (af (b8 7 fH.nd (df (eQ T) hr T.m_Q32 T.F_Q32.kp T.b_Q32 (ad (qv 0) (ad ai ag aH) ae))) (af (h9 (bA (aD dg (qv 7) ai (aL _)) (ao (b8 6 fH.nd (qv 5))) aP)) (af (h9 (bA (aD dg (qv 7) ai (aL _)) (ao (tf (i:=5) (j:=6) Z fH.nd Z Z (by decide) Z Z (ad ai (ad (aN fo (qv 2) ai) ag bx) aH) Z)) aP)) (af (h9 (bA (eY (gO (aD dg (qv 7) ai (aL _)) (gN (aD fV (qv 4) ai (aL _))))) (ao (em (mh uB (bW bt (qv 3) (df (eQ T) hr T.m_Q32 T.F_Q32.kp T.b_Q32 (ad (qv 0) (ad (qv 4) ag ae) ae))) BC (jz ai)) (ia Z (bi (au (i:=5) fH.nd Z (by first|exact L8 Z|exact L7 Z)) (bi (au (i:=6) fH.nd Z (by first|exact L8 Z|exact L7 Z)) c6))))) aP)) (ao (cK (fw MK PySem.F.slot_list_append PySem.F.type_list_append bV (qv 3) (ad (bB (ad (qv 5) (ad (qv 6) (ad (df (tE T) hr T.m_Q33 T.F_Q33.kp T.b_Q33 (ad (aN dP ai (df (eQ T) hr T.m_Q32 T.F_Q32.kp T.b_Q32 (ad (qv 0) (ad ai ag aH) ae))) (ad (bW bt (bM (ad ai (ad ai (ad ai (ad ai (ad ai (ad ai ag aH) aH) aH) aH) aH) aH)) (df (eQ T) hr T.m_Q32 T.F_Q32.kp T.b_Q32 (ad (qv 0) (ad ai ag aH) ae))) ag aI) bx)) ag aF) ae) ae)) ag cC))))))))))) (ao (aG (bJ br (by rfl) T.z_tuple MR (ad (qv 3) ag ae))))))) ?_
 nofun
 obtain⟨y0,e0⟩:=tp.lst;refine⟨Gr,λle hle=>?_⟩;have nle:le≠t₁:=λz=>by subst z;rw[e0] at hle;cases hle
 have s0:=aj hle (.lst [.int 3,.int 7,.int 12,.int 24]);have T0:=tp.new hle (.lst [.int 3,.int 7,.int 12,.int 24]);have h00:upd H le (.lst [.int 3,.int 7,.int 12,.int 24]) le=some (.lst [.int 3,.int 7,.int 12,.int 24]):=ah;generalize upd H le (.lst [.int 3,.int 7,.int 12,.int 24])=H0 at T0 s0 h00 ⊢;obtain⟨y00,e00⟩:=T0.lst;refine⟨_,Z,t₁,s₁,4,Z,T0,by omega,by omega,λr0 x0_ a0 b0 T0=>?_⟩;have S0:bz t₁ H (upd H0 t₁ (.lst x0_)):=(bz.same s0 tp.lst).trans (bz.up e00);have h01:upd H0 t₁ (.lst x0_) le=some (.lst [.int 3,.int 7,.int 12,.int 24]):=by rw[aE nle];exact h00
 generalize upd H0 t₁ (.lst x0_)=HA at T0 S0 h01 ⊢;rename_i T0';obtain⟨en,hen,en1,en2⟩:∃e:Nat,qi [V.int 3,.int 7,.int 12,.int 24] r0=some (.int e)/\3≤e/\e≤24:=by
  rcases(show r0=0∨r0=1∨r0=2∨r0=3 by omega) with rfl|rfl|rfl|rfl
  ·exact⟨3,Z,by decide,by decide⟩
  ·exact⟨7,Z,by decide,by decide⟩
  ·exact⟨12,Z,by decide,by decide⟩
  ·exact⟨24,Z,by decide,by decide⟩
 refine⟨le,_,_,_,Z,Z,aS.of h01,hen,?_⟩;refine⟨(by show 0≤sizeLine;exact Mx _),λlw hlw0=>?_⟩;obtain⟨yA,eA⟩:=T0.lst;have nl:lw≠t₁:=λz=>by subst z;rw[eA] at hlw0;cases hlw0
 have nls:=T0.off hlw0;let Iv1:Nat->L2.St->Hp->Prop:=λi σ H'=>∃(xs:List V) (ws:List Wk) (x5 x6 x7 x8:Option V),σ=[some (.ref t₁),some (.int m),some (.int en),some (.ref lw),x5,x6,x7,x8]/\cN K H' t₁ s₁/\(∀b o,b≠t₁->HA b=some o->H' b=some o)/\H' lw=some (.lst xs)/\cO (A9 K H') xs ws/\ws.length=i/\∀w∈ws,bT w
 refine⟨_,Z,m,Z,by omega,by omega,cP (lo:=0) (n:=(m:Int).toNat) Iv1 ⟨[],[],none,none,none,none,Z,T0.new hlw0 _,(λb o _ q=>aj hlw0 _ _ _ q),ah,.nil,Z,λw hw=>by cases hw⟩ ?_ ?_⟩
 ·rintro i σ H1 hi ⟨xs,ws,x5,x6,x7,x8,rfl,T1,kp,hlw,alw,hlen,okw⟩;rw[Int.zero_add];obtain⟨y1,e1⟩:=T1.lst;refine⟨_,Z,_,Z,t₁,s₁,en,Z,T1,by omega,by omega,λr2 x2_ a2 b2 T2=>?_⟩;obtain⟨ff,rfl⟩:=Nb a2;have S2:bz t₁ H1 _:=bz.up (ys:=x2_) e1;generalize upd H1 t₁ (.lst x2_)=H2 at T2 S2 ⊢;obtain⟨y2,e2⟩:=T2.lst;refine⟨_,Z,_,Z,_,Z,_,Z,_,_,Z,Z,t₁,s₁,(en:Int)-ff,Z,T2,by omega,by omega,λr3 x3_ a3 b3 T3=>?_⟩;have S3:=S2.trans (bz.up (ys:=x3_) e2);generalize upd H2 t₁ (.lst x3_)=H3 at T3 S3 ⊢;obtain⟨y3,e3⟩:=T3.lst;refine⟨_,_,Z,Z,?_⟩;obtain⟨la,hla⟩:∃la:Nat,(ff:Int)+r3=(la:Nat):=⟨((ff:Int)+r3).toNat,by omega⟩;dsimp only;rw[hla];refine⟨_,Z,t₁,s₁,7,Z,T3,by omega,by omega,λr4 x4_ a4 b4 T4=>?_⟩;have S4:=S3.trans (bz.up (ys:=x4_) e3);generalize hHH:upd H3 t₁ (.lst x4_)=HH at T4 S4 ⊢;clear hHH;refine⟨Jt K t₁ s₁ lw m en i r4 H1,⟨_,Z,Z,_,Z,?_⟩,?_⟩
  ·by_cases c0:r4=0
   ·exact cn (by rw[c0]) ⟨_,Z,ff,ff,Z,LN _,by omega,S4,T4⟩
   ·exact bI (λz=>c0 (by injection z)) ⟨ff,la,Z,by omega,by omega,S4,T4⟩
  clear S4 T4 hla;rintro _ HH ⟨fa,lb,rfl,ab,b24,S4,T4⟩;refine⟨Jt K t₁ s₁ lw m en i r4 H1,⟨_,Z,Z,_,Z,?_⟩,?_⟩
  ·by_cases c1:r4=1
   ·exact cn (by rw[c1]) ⟨_,Z,_,_,Z,Z,_,_,Z,0,en-1,by rw[show((en-1:Nat):Int)=(en:Int)-1 by omega];rfl,Mx _,by omega,S4,T4⟩
   ·exact bI (λz=>c1 (by injection z)) ⟨fa,lb,Z,ab,b24,S4,T4⟩
  clear S4 T4 ab b24 fa lb;rintro _ HH ⟨fa,lb,rfl,ab,b24,S4,T4⟩;refine⟨Jt K t₁ s₁ lw m en i r4 H1,⟨_,Z,Z,_,Z,?_⟩,?_⟩
  ·by_cases c2:r4=2
   rotate_left
   ·exact bI (λz=>c2 (by injection z)) (cJ ⟨fa,lb,Z,ab,b24,S4,T4⟩)
   subst c2;refine d0 ⟨_,Z,_,_,Z,Z,_,Z,?_⟩;by_cases ci:0<i
   rotate_left
   ·exact bI (by omega) ⟨fa,lb,Z,ab,b24,S4,T4⟩
   refine cn (by omega) ?_;obtain⟨y4,e4⟩:=T4.lst;have hlw4:HH lw=some (.lst xs):=S4.keep _ _ nl hlw;refine⟨_,Z,_,Z,_,Z,t₁,s₁,i,Z,T4,by omega,by omega,λr9 x9_ a9 b9 T9=>?_⟩;have S9':=S4.trans (bz.up (ys:=x9_) e4);have hlwN:upd HH t₁ (.lst x9_) lw=some (.lst xs):=by rw[aE nl];exact hlw4
   clear T4;generalize upd HH t₁ (.lst x9_)=HN at T9 S9' hlwN ⊢;obtain⟨j,rfl⟩:=Nb a9;obtain⟨xw,hxw⟩:∃xw,xs[j]?=some xw:=⟨_,LL (by rw[alw.len];omega)⟩;obtain⟨w,hw,pw0,xa,rfl,hSw,ra⟩:=alw.at hxw;have okw0:=okw w (LQ hw);have hSwN:=aM.step (K:=K) S9' _ _ hSw;refine⟨lw,_,_,_,Z,Z,aS.of hlwN,aJ hxw,?_⟩;refine⟨_,Z,pw0,_,Z,hSwN,λpc HH sQ hpc=>?_⟩;rw[show jP [V.int (w.1:Nat),V.int (w.2.1:Nat),xa] none (some 2)=[V.int (w.1:Nat),V.int (w.2.1:Nat)] from F8 (n:=2) (by show 2≤3;decide)] at hpc;exact⟨pc,_,Z,hpc,Z,_,_,Z,_,_,Z,Z,w.1,w.2.1,Z,okw0.le,okw0.lt,S9'.trans (bz.same sQ T9.lst),T9.same sQ⟩
  clear S4 T4 ab b24 fa lb;rintro _ HH ⟨ff,la,rfl,ab,b24,S4,T4⟩;have kp4:=S4.keep;have tst4:aM K H1 HH:=aM.step S4;obtain⟨y4,e4⟩:=T4.lst;have hlw4:HH lw=some (.lst xs):=kp4 _ _ nl hlw;refine⟨_,Z,.inl ⟨Z,_,aS.of hlw4⟩,?_⟩;refine⟨_,Z,_,Z,_,Z,t₁,s₁,12,Z,T4,by omega,by omega,λr5 x5_ a5 b5 T5=>?_⟩;have S5:bz t₁ HH _:=bz.up (ys:=x5_) e4;generalize upd HH t₁ (.lst x5_)=H5 at T5 S5 ⊢;obtain⟨y5,e5⟩:=T5.lst;refine⟨_,_,Z,Z,Ks,λl6 h6=>?_⟩;have S6:=S5.trans (bz.new T5.lst h6 (.lst [.int 1,.int 1,.int 2,.int 3,.int 4,.int 7]));have n6:l6≠t₁:=λz=>by subst z;rw[e5] at h6;cases h6
  have T6':=T5.new h6 (.lst [.int 1,.int 1,.int 2,.int 3,.int 4,.int 7]);obtain⟨y6,e6⟩:=T6'.lst;have h6':upd H5 l6 (.lst [.int 1,.int 1,.int 2,.int 3,.int 4,.int 7]) l6=some (.lst [.int 1,.int 1,.int 2,.int 3,.int 4,.int 7]):=ah;generalize upd H5 l6 (.lst [.int 1,.int 1,.int 2,.int 3,.int 4,.int 7])=H6 at T6' S6 e6 h6' ⊢;refine⟨_,Z,t₁,s₁,6,Z,T6',by omega,by omega,λr7 x7_ a7 b7 T7=>?_⟩;have S7:=S6.trans (bz.up (ys:=x7_) e6);have h67:upd H6 t₁ (.lst x7_) l6=some (.lst [.int 1,.int 1,.int 2,.int 3,.int 4,.int 7]):=by rw[aE n6];exact h6'
  generalize upd H6 t₁ (.lst x7_)=H7 at T7 S7 h67 ⊢;obtain⟨bb,hbb,bo1,bo2,bo3⟩:∃b:Int,qi [V.int 1,.int 1,.int 2,.int 3,.int 4,.int 7] r7=some (.int b)/\1≤b/\b≤7/\b∣84:=by
   rcases(show r7=0∨r7=1∨r7=2∨r7=3∨r7=4∨r7=5 by omega) with rfl|rfl|rfl|rfl|rfl|rfl
   ·exact⟨1,Z,by decide,by decide,by decide⟩
   ·exact⟨1,Z,by decide,by decide,by decide⟩
   ·exact⟨2,Z,by decide,by decide,by decide⟩
   ·exact⟨3,Z,by decide,by decide,by decide⟩
   ·exact⟨4,Z,by decide,by decide,by decide⟩
   ·exact⟨7,Z,by decide,by decide,by decide⟩
  refine⟨l6,_,_,_,Z,Z,aS.of h67,hbb,?_⟩;refine⟨1+r5,bb,Z,by omega,bX (n:=3) (by show bb.natAbs<8;omega) (by decide),λpf hpf=>?_⟩;have am:=CH (a:=1+r5) (by omega) (by omega) bo1 bo2 bo3;have s8:=aj hpf (.tup [.int (eZ (1+r5) bb).1,.int (eZ (1+r5) bb).2]);have rf:RV K _ (.ref pf) (eZ (1+r5) bb):=⟨pf,Z,bH.of (ah (H:=H7) (a:=pf) (o:=.tup [.int (eZ (1+r5) bb).1,.int (eZ (1+r5) bb).2]))⟩;have T8:=T7.same s8;generalize upd H7 pf (.tup [.int (eZ (1+r5) bb).1,.int (eZ (1+r5) bb).2])=H8 at T8 s8 rf ⊢;refine⟨Du,λpw hpw=>?_⟩;have s9:=aj hpw (.tup [.int (ff:Nat),.int (la:Nat),.ref pf]);have hpw9:bH K _ pw [.int (ff:Nat),.int (la:Nat),.ref pf]:=bH.of (ah (H:=H8) (a:=pw) (o:=.tup [.int (ff:Nat),.int (la:Nat),.ref pf]));have T9:=T8.same s9;have rf9:=rf.mono (aM.same s9);generalize upd H8 pw (.tup [.int (ff:Nat),.int (la:Nat),.ref pf])=H9 at T9 s9 rf9 hpw9 ⊢;have S9:=S7.trans (bz.same (s8.trans s9) T7.lst);have hlw9:=S9.keep _ _ nl hlw4;refine⟨lw,xs,_,Z,Z,hlw9,be (by rw[alw.len];omega),?_⟩;have t9:aM K H1 (upd H9 lw (.lst (xs++[.ref pw]))):=(tst4.trans (aM.step S9)).trans (aM.up hlw9 _);refine⟨_,ws++[(ff,la,eZ (1+r5) bb)],_,_,_,_,Z,T9.upl nl nls _,λb o nb q=>?_,ah,(alw.mono λv d m=>m.mono t9).snoc ⟨pw,.ref pf,Z,aM.up (K:=K) hlw9 _ _ _ hpw9,rf9.mono (aM.up hlw9 _)⟩,by rw[MO,hlen];rfl,λz hz=>?_⟩
  ·rw[aE (aX q hlw0)];exact S9.keep _ _ nb (kp4 _ _ nb (kp b o nb q))
  ·rcases Mh.mp hz with h|h
   ·exact okw z h
   ·rw[LP] at h;subst h;exact⟨by show ff≤la;omega,by show la<24;omega,am⟩
 ·rintro σ H1 ⟨xs,ws,x5,x6,x7,x8,rfl,T1,kp,hlw,alw,hlen,okw⟩;refine⟨_,Z,lw,_,Z,.inl ⟨aS.of hlw,λp hp=>?_⟩⟩;have s5:=aj hp (.tup xs);exact k (.ref p) ws _ ((S0.trans ⟨kp,T0.lst,T1.lst⟩).trans (bz.same s5 T1.lst)) (T1.same s5) ⟨p,xs,Z,bH.of ah,alw.mono λ_ _ q=>q.mono (aM.same s5)⟩ (by rw[hlen];omega) okw
theorem Fk(T:eg K mg t):bD P w K mg base dF 1 t.a_Q19 t.d_Q19 ["_law_works_here"] (o6 K):=by
 refine T.F_Q19.ok DW (λvs H Q E h=>?_) (λcdv A outer s H vs Q E hr h=>?_)
 ·obtain⟨_,_,rfl,_⟩:=h;rfl
 obtain⟨v,ws,rfl,⟨p,xs,rfl,hS,al⟩,hw,ok,k⟩:=h;refine dI.ok (ao (aG (bn (N':=["_law_work"]) (src:=[none]) Z (by exact(cW (qv 0))) (λ_ _ _ _ _=>(by exact(by exact au (i:=0) (by show Mg (["_law_work"]:List Mj);decide +kernel) (by exact Z) (by first|exact L8 Z|exact L7 Z)))) (λ_ _ _ _ _=>bZ) (λ_ _ _ _ _=>(by exact(by exact(aN gS (by exact(aN ft (by exact(aZ (aU (K:=K) (by exact Z)) (by exact(aZ (aU (K:=K) (by exact Z)) (by exact(qv 0)) ai (by exact λ_ _=>Z))) ai (by exact λ_ _=>Z))) ai)) (by exact(aZ (aU (K:=K) (by exact Z)) (by exact(aZ (aU (K:=K) (by exact Z)) (by exact(qv 0)) ai (by exact λ_ _=>Z))) ai (by exact λ_ _=>Z))))))) (by exact trivial) Z (by decide +kernel) Z (by decide +kernel) (by exact aQ Z trivial)))) ?_;nofun
 have hlen:=al.len;refine⟨_,Z,p,Z,⟨_,hS⟩,λD hD=>bC (jj hS) (λ_=>true) (λi=>V.int ((bF ws).getD i 0)) hD (by omega) (λi x H' hi s' hx R E kR kE=>?_) λH4 s4 h4=>?_⟩
 ·obtain⟨w,hw',pw,xw,rfl,hSw,px,rfl,hSx⟩:=al.at hx;have okw:=ok w (LQ hw');have t':=aM.same (K:=K) s';have e:(bF ws).getD i 0=w.2.2.1*84/w.2.2.2:=ax 0 (by unfold bF;rw[LX,hw'];rfl);have q:=kR Z _ (aB.refl _);rw[e] at q;have:=okw.am.bot;have:=okw.am.bot';exact⟨eU.set Z,_,Z,pw,_,_,_,Z,Z,t' _ _ hSw,Z,px,_,_,_,Z,Z,t' _ _ hSx,Z,_,_,Z,Z,.inr ⟨by decide,by decide⟩,_,Z,pw,_,_,_,Z,Z,t' _ _ hSw,Z,px,_,_,_,Z,Z,t' _ _ hSx,Z,_,_,Z,Z,⟨by omega,by omega⟩,q⟩
 ·refine k D H4 s4 hD ?_;rw[h4,show xs.length=(bF ws).length by unfold bF;rw[LO];exact hlen,cr 0 V.int]
theorem Da(T:eg K mg t):bD P w K mg base dF 2 t.a_Q7 t.d_Q7 ["_law_works_here","_law_left"] (kM K):=by
 refine T.F_Q7.ok gv (λvs H Q E h=>?_) (λcdv A outer s H vs Q E hr h=>?_)
 ·obtain⟨_,_,_,_,rfl,_⟩:=h;rfl
 obtain⟨v,q,ws,ls,rfl,⟨p,xs,rfl,hS,al⟩,hw,ok,hq,l24,kN,k⟩:=h;refine dI.ok (af (b8 2 gv.nd (df (Fk T) hr T.m_Q19 T.F_Q19.kp T.b_Q19 (ad (qv 0) ag ae))) (af (b8 3 gv.nd (bM ag)) (af (bS L9 Z (bU Z T.z_range (ad (ap aA (by rfl) T.z_len MH (ad (qv 0) ag ae)) ag aF)) (au (i:=4) gv.nd Z (by first|exact L8 Z|exact L7 Z)) (af (dY (i:=5) (N':=["_law_k","_law_left","_law_works_here","_law_number"]) (src:=[none,some 1,some 0,some 4]) gv.nd Z (by first|exact L8 Z|exact L7 Z) Z (by exact(bU Z T.z_range (ad (ap aA (by rfl) T.z_len MH (ad (qv 1) ag ae)) ag aF))) (λ_ _ _ _ _=>(by exact(by exact au (i:=0) (by show Mg (["_law_k","_law_left","_law_works_here","_law_number"]:List Mj);decide +kernel) (by exact Z) (by first|exact L8 Z|exact L7 Z)))) (λ_ _ _ _ _=>(cE (qZ gY gY (by exact(aZ (aU (K:=K) (by exact Z)) (by exact(aZ (aU (K:=K) (by exact Z)) (by exact(qv 2)) (by exact(qv 3)) (by exact λ_ _=>Z))) ai (by exact λ_ _=>Z))) (by exact(aZ (cf (K:=K) (by exact Z)) (by exact(qv 1)) (by exact(qv 0)) (by exact λ_ _=>Z))) (by exact(aZ (aU (K:=K) (by exact Z)) (by exact(aZ (aU (K:=K) (by exact Z)) (by exact(qv 2)) (by exact(qv 3)) (by exact λ_ _=>Z))) ai (by exact λ_ _=>Z)))))) (λ_ _ _ _ _=>(by exact(by exact(qv 0)))) (by exact⟨Z,Z,Z,Z,⟨Z,Z,Z,Z,⟨Z,Z,Z,Z,trivial⟩⟩⟩) Z (by decide +kernel) Z (by decide +kernel) (by exact aQ Z ⟨Z,⟨Z,⟨Z,trivial⟩⟩⟩)) (ao (bA (aD fV (ap aA (by rfl) T.z_len MH (ad (qv 5) ag ae)) ai (aL _)) (ao (cK (fw MK PySem.F.slot_list_append PySem.F.type_list_append bV (qv 3) (ad (bB (ad (bW bt (qv 5) ai) (ad (bW bt (qv 5) (iQ f7 ai)) (ad (qv 4) ag ae) aI) aI)) ag cC)))) aP)))) (af (b8 6 gv.nd (bB (ad ai (ad ai (ad ai (ad (bM ag) ag lN) aH) aH) aH))) (af (bS L9 Z (bU Z T.z_range (ad (ap aA (by rfl) T.z_len MH (ad (qv 1) ag ae)) ag aF)) (au (i:=7) gv.nd Z (by first|exact L8 Z|exact L7 Z)) (ao (bS L9 Z (vS Z T.z_range (ad (qv 7) (ad (ap aA (by rfl) T.z_len MH (ad (qv 1) ag ae)) ag aF) ae)) (au (i:=8) gv.nd Z (by first|exact L8 Z|exact L7 Z)) (af (dY (i:=9) (N':=["_law_span","_law_begin","_law_end"]) (src:=[none,some 7,some 8]) gv.nd Z (by first|exact L8 Z|exact L7 Z) Z (by exact(bQ (qv 3))) (λ_ _ _ _ _=>(by exact(by exact au (i:=0) (by show Mg (["_law_span","_law_begin","_law_end"]:List Mj);decide +kernel) (by exact Z) (by first|exact L8 Z|exact L7 Z)))) (λ_ _ _ _ _=>(cE (eY (gO (aD gY (by exact(qv 1)) (by exact(aZ (aU (K:=K) (by exact Z)) (by exact(qv 0)) ai (by exact λ_ _=>Z))) (aL _)) (gN (aD gY (by exact(aZ (aU (K:=K) (by exact Z)) (by exact(qv 0)) ai (by exact λ_ _=>Z))) (by exact(qv 2)) (aL _))))))) (λ_ _ _ _ _=>(by exact(by exact(aZ (aU (K:=K) (by exact Z)) (by exact(qv 0)) ai (by exact λ_ _=>Z))))) (by exact⟨Z,Z,Z,Z,⟨Z,Z,Z,Z,trivial⟩⟩) Z (by decide +kernel) Z (by decide +kernel) (by exact aQ Z ⟨Z,⟨Z,trivial⟩⟩)) (af (b8 10 gv.nd (ap (oB Z) (by rfl) T.z_sum boot_sum (ad (bn (N':=["_law_number","_law_units_here"]) (src:=[none,some 2]) Z (by exact(bQ (qv 9))) (λ_ _ _ _ _=>(by exact(by exact au (i:=0) (by show Mg (["_law_number","_law_units_here"]:List Mj);decide +kernel) (by exact Z) (by first|exact L8 Z|exact L7 Z)))) (λ_ _ _ _ _=>bZ) (λ_ _ _ _ _=>(by exact(by exact(aZ (cf (K:=K) (by exact Z)) (by exact(qv 1)) (by exact(qv 0)) (by exact λ_ _=>Z))))) (by exact⟨Z,Z,Z,Z,trivial⟩) Z (by decide +kernel) Z (by decide +kernel) (by exact aQ Z ⟨Z,trivial⟩)) ag dq))) (af (b8 11 gv.nd (aN dP (aN fo (qv 8) (qv 7)) ai)) (af (b8 12 gv.nd (aN fo (aN ft (qv 10) (bW az (qv 6) ai)) (aN ft (bW az (qv 6) ai) (qv 11)))) (ao (bA (eY (iP (aD fV (qv 12) ai (aL _)) (gc (eY (gO (aD dg (qv 12) ai (aL _)) (gO (aD fV (qv 10) ai (aL _)) (gN (aD dg (qv 7) (bW az (qv 6) ai) (aL _))))))))) (ao (b8 6 gv.nd (bB (ad (qv 10) (ad (qv 11) (ad (qv 7) (ad (qv 9) ag ae) ae) ae) ae)))) aP))))))))) (af (bA (aD dg (bW az (qv 6) ai) ai (aL _)) (ao (aG gf)) aP) (ao (aG (bB (ad (bJ br (by rfl) T.z_tuple MR (ad (mh Br (qv 1) (jz (bW az (qv 6) ai)) (jz (aN dP (bW az (qv 6) ai) (bW az (qv 6) ai)))) ag aI)) (ad (bJ br (by rfl) T.z_tuple MR (ad (bW az (qv 6) ai) ag aI)) ag aF) aF)))))))))) ?_
 nofun
 have nl:(aC ls).length=ls.length:=LO _;have hxl:=al.len;refine⟨_,Z,.ref p,ws,Z,⟨p,xs,Z,hS,al⟩,hw,ok,λlu H1 s1 hu0 hu1=>?_⟩;refine⟨(by show 0≤sizeLine;exact Mx _),λlsn hsn=>?_⟩;have s2:=aj hsn (.lst []);have s12:=s1.trans s2;have hsn2:upd H1 lsn (.lst []) lsn=some (.lst []):=ah;let Iv1:Nat->L2.St->Hp->Prop:=λi σ H'=>∃(ys:List V) (x4 x5:Option V),σ=[some (.ref p),some (.ref q),some (.ref lu),some (.ref lsn),x4,x5,none,none,none,none,none,none,none]/\aB H1 H'/\H' lsn=some (.lst ys)/\cO (IK K H') ys (wS (ws.map (bw ls)) i)
 refine⟨_,Z,p,_,Z,.inr (aM.same (K:=K) s12 _ _ hS),_,Z,by omega,by omega,cP (lo:=0) (n:=(xs.length:Int).toNat) Iv1 ⟨[],none,none,Z,s2,hsn2,.nil⟩ ?_ ?_⟩
 ·rintro i σ H2 hi ⟨ys,x4,x5,rfl,sm,hl2,al2⟩;rw[Int.zero_add];have sH2:=s1.trans sm;have tH2:=aM.same (K:=K) sH2;obtain⟨x,hx⟩:∃x,xs[i]?=some x:=⟨_,LL (by omega)⟩;obtain⟨w,hwi,pw,xa,rfl,hSw,ra⟩:=al.at hx;refine⟨_,Z,q,_,Z,.inl (sH2.seq hq),_,Z,by omega,by omega,λD hD=>bC jk (λj=>fu w (ls.getD j 0)) (λj=>V.int j) hD (by omega) (λj y H' hj s' hy R E kR kE=>?_) λH4 s4 h4=>?_⟩
  ·subst hy;rw[Int.zero_add];have tH:=aM.same (K:=K) (sH2.trans s');obtain⟨z',hz'⟩:∃z',ls[j]?=some z':=⟨_,LL (by omega)⟩;rw[ax 0 hz'] at kR kE;refine⟨eU.set Z,_,Z,_,Z,p,_,_,_,Z,Z,tH _ _ hS,aJ hx,pw,_,_,_,Z,Z,tH _ _ hSw,Z,_,Z,_,Z,q,_,_,_,Z,Z,(sH2.trans s').seq hq,aJ (v:=V.int (z':Nat)) (by unfold aC;rw[LX,hz'];rfl),_,_,Z,Z,_,Z,?_⟩;by_cases c:w.1≤z'
   ·refine cn (by omega) ?_;refine⟨_,Z,_,Z,p,_,_,_,Z,Z,tH _ _ hS,aJ hx,pw,_,_,_,Z,Z,tH _ _ hSw,Z,_,_,Z,Z,_,Z,?_⟩;by_cases c':z'≤w.2.1
    ·exact cn (by omega) ⟨_,Z,kR (by unfold fu;rw[decide_eq_true c,decide_eq_true c'];rfl) _ (aB.refl _)⟩
    ·exact bI (by omega) (kE (by unfold fu;rw[decide_eq_false c',Nn]) _ (aB.refl _))
   ·refine bI (by omega) ?_;exact⟨_,Z,cJ (kE (by unfold fu;rw[decide_eq_false c,NY]) _ (aB.refl _))⟩
  rw[nl,show((ls.length:Int)).toNat=ls.length by omega] at h4
  replace h4:H4 D=some (.lst ((gg ls w).map λi:Nat=>V.int i)):=h4
  have hl4:=s4 _ _ hl2;have ewi:(ws.map (bw ls)).getD i none=bw ls w:=ax none (by rw[LX,hwi];rfl);have hle:=al2.len;have hle':=uz (ws.map (bw ls)) i;refine⟨_,Z,D,_,Z,.inl (aS.of h4),_,_,Z,Z,_,Z,?_⟩
  cases c:gg ls w with
  |nil=>
   rw[c] at h4;refine cJ ?_;refine⟨ys,_,_,Z,sm.trans s4,hl4,?_⟩;have e:bw ls w=none:=by unfold bw;rw[c]
   rw[e] at ewi;rw[xO ewi];exact al2.mono λ_ _ m=>m.mono (aM.same s4)
  |cons a r=>
   rw[c] at h4;refine cn (by show(0:Int)<((map (λi:Nat=>V.int i) (a::r)).length:Int);rw[LO,MS];omega) ?_;have hlast:qi ((a::r).map λi:Nat=>V.int i) (-1)=some (.int ((a::r).getLast (by simp):Nat)):=by
    have e:=Pi (show(a::r)≠[] by simp);have e2:(a::r).map (λi:Nat=>V.int i)=(a::r).dropLast.map (λi:Nat=>V.int i)++[V.int ((a::r).getLast (by simp):Nat)]:=by
     conv=>lhs;rw[←e]
     rw[Ni];rfl
    rw[e2];exact m7 _ _
   have hfst:qi ((a::r).map λi:Nat=>V.int i) 0=some (.int (a:Nat)):=aJ (j:=0) Z;have e:bw ls w=some (a,(a::r).getLast (by simp)):=by unfold bw;rw[c]
   rw[e] at ewi;refine⟨_,Z,.inl ⟨Z,_,aS.of hl4⟩,_,Z,D,_,_,_,Z,Z,aS.of h4,hfst,_,Z,_,Z,D,_,_,_,Z,Z,aS.of h4,hlast,_,Z,Du,λpt hpt=>?_⟩;have s5:=aj hpt (.tup [.int a,.int ((a::r).getLast (by simp):Nat),.int i]);have hl5:=s5 _ _ hl4;refine⟨lsn,_,_,Z,Z,hl5,be (by omega),?_⟩;refine⟨_,_,_,Z,?_,ah,?_⟩
   ·intro b o e;rw[aE (aX e hsn)];exact s5 _ _ (s4 _ _ (sm _ _ e))
   ·rw[xN ewi];refine(al2.mono λv d m=>m.mono (((aM.same s4).trans (aM.same s5)).trans (aM.up hl5 _))).snoc ?_;exact⟨pt,Z,aM.up (K:=K) hl5 _ _ _ (bH.of ah)⟩
 ·rintro σ H2 ⟨ys,x4,x5,rfl,sm,hl2,al2⟩;have hos:(ws.map (bw ls)).length=ws.length:=LO _;rw[show((xs.length:Int)).toNat=(ws.map (bw ls)).length by rw[hos];omega] at al2;have hyl:=al2.len;have hyl':=uz (ws.map (bw ls)) (ws.map (bw ls)).length;have LB:=λr=>uQ (os:=ws.map (bw ls)) (qz ok) (by omega) r
  have held:=sM (ws.map (bw ls));have hul:(bF ws).length=ws.length:=LO _;generalize hO:ws.map (bw ls)=os at *;generalize hL:dE os (gI (bF ws))=L at *;have sH2:=s1.trans sm;have hu2:H2 lu=some (.lst ((bF ws).map V.int)):=sm _ _ hu1;refine⟨(by show 0≤sizeLine;exact Mx _),λl0 h0=>?_⟩;have s3:=aj h0 (.lst []);refine⟨Gr,λpb0 hpb0=>?_⟩;have s4:=aj hpb0 (.tup [.int 0,.int 1,.int 0,.ref l0]);have hb0:bH K _ pb0 [.int 0,.int 1,.int 0,.ref l0]:=bH.of (ah (H:=upd H2 l0 (.lst [])) (a:=pb0) (o:=.tup [.int 0,.int 1,.int 0,.ref l0]));have s34:=s3.trans s4;generalize upd (upd H2 l0 (.lst [])) pb0 (.tup [.int 0,.int 1,.int 0,.ref l0])=H3 at s34 hb0 ⊢;let Iv2:Nat->L2.St->Hp->Prop:=λi σ H'=>∃(pb:Addr) (x7 x8 x9 x10 x11 x12:Option V),σ=[some (.ref p),some (.ref q),some (.ref lu),some (.ref lsn),x4,x5,some (.ref pb),x7,x8,x9,x10,x11,x12]/\aB H2 H'/\oS K H' os (fP ls.length i i) L pb
  refine⟨_,Z,q,_,Z,.inl ((sH2.trans s34).seq hq),_,Z,by omega,by omega,cP (lo:=0) (n:=((aC ls).length:Int).toNat) Iv2 ⟨pb0,none,none,none,none,none,none,Z,s34,0,1,0,l0,hb0,.inl ⟨Z,Z,Z,λr hr=>?_⟩⟩ ?_ ?_⟩
  ·unfold fP gH at hr;omega
  ·rintro i σ HA hi ⟨pb,x7,x8,x9,x10,x11,x12,rfl,sA,best⟩;rw[Int.zero_add];have sHA:=sH2.trans sA;refine⟨_,Z,_,Z,q,_,Z,.inl (sHA.seq hq),_,_,Z,⟨by omega,by omega,by omega,by omega⟩,cP (lo:=i) (n:=(((aC ls).length:Int)-i).toNat) (λj σ H'=>∃(pb:Addr) (x8 x9 x10 x11 x12:Option V),σ=[some (.ref p),some (.ref q),some (.ref lu),some (.ref lsn),x4,x5,some (.ref pb),some (.int i),x8,x9,x10,x11,x12]/\aB H2 H'/\oS K H' os (fP ls.length i (i+j)) L pb) ⟨pb,x8,x9,x10,x11,x12,Z,sA,best⟩ ?_ ?_⟩
   ·rintro j σ HB hj ⟨pb,x8,x9,x10,x11,x12,rfl,sB,best⟩;rw[show(i:Int)+(j:Int)=((i+j:Nat):Int) by omega,show i+(j+1)=i+j+1 from Z];obtain⟨e,he⟩:∃e,e=i+j:=⟨_,Z⟩;rw[←he] at best ⊢;have hen:e<ls.length:=by omega
    have hie:i≤e:=by omega
    have hlB:=sB _ _ hl2;have tB:=aM.same (K:=K) sB;refine⟨_,Z,lsn,Z,⟨_,aS.of hlB⟩,λD hD=>bC (cT (aS.of hlB)) (λm=>rH (i,e) ((wS os os.length).getD m (0,0,0))) (λm=>V.int (((wS os os.length).getD m (0,0,0)).2.2:Nat)) hD (by omega) (λm x H' hm s' hx R E kR kE=>?_) λHC sC hC=>?_⟩
    ·obtain⟨sp,hsp,ps,rfl,hps⟩:=al2.at hx;rw[ax (0,0,0) hsp] at kR kE;have hps':=aM.same (K:=K) (sB.trans s') _ _ hps;refine⟨eU.set Z,_,Z,_,Z,ps,_,_,_,Z,Z,hps',Z,_,_,Z,Z,_,Z,?_⟩;by_cases c:i≤sp.1
     ·refine cn (by omega) ?_;refine⟨_,Z,ps,_,_,_,Z,Z,hps',Z,_,Z,_,_,Z,Z,_,Z,?_⟩;by_cases c':sp.2.1≤e
      ·exact cn (by omega) ⟨_,Z,ps,_,_,_,Z,Z,hps',Z,kR (by show(decide (i≤sp.1)&&decide (sp.2.1≤e))=true;rw[decide_eq_true c,decide_eq_true c'];rfl) _ (aB.refl _)⟩
      ·exact bI (by omega) (kE (by show(decide (i≤sp.1)&&decide (sp.2.1≤e))=false;rw[decide_eq_false c',Nn]) _ (aB.refl _))
     ·exact bI (by omega) (cJ (kE (by show(decide (i≤sp.1)&&decide (sp.2.1≤e))=false;rw[decide_eq_false c,NY]) _ (aB.refl _)))
    have eC:HC D=some (.lst (aC (bR os (i,e)))):=by
     rw[hC,hyl,dj (0,0,0) (rH (i,e)) (λs:Nat×Nat×Nat=>V.int (s.2.2:Nat)),←held (i,e)];unfold aC;rw[Oa];rfl
    refine⟨_,Z,D,Z,⟨_,aS.of eC⟩,λE hE=>bC (cT (aS.of eC)) (λ_=>true) (λm=>V.int (gI (bF ws) ((bR os (i,e)).getD m 0))) hE ?_ (λm x H' hm s' hx R E kR kE=>?_) λHE sE hE4=>?_⟩
    ·unfold aC bR;rw[LO];have:=MP (λi_1=>fc i e (os.getD i_1 none)) (range os.length);rw[Mw] at this;exact MG this (by omega)
    ·unfold aC at hx;rw[LX] at hx;obtain⟨z,hz,rfl⟩:=Mn.mp hx;have qq:=kR Z _ (aB.refl _);rw[ax 0 hz] at qq;have hzl:z<os.length:=by
      have:=LQ hz;unfold bR at this;exact LW.mp (Mb.mp this).1
     obtain⟨y,hy⟩:∃y,(bF ws)[z]?=some y:=⟨_,LL (by omega)⟩;rw[show gI (bF ws) z=y from ax 0 hy] at qq;exact⟨eU.set Z,_,Z,_,Z,lu,_,_,_,Z,Z,((sB.trans sC).trans s').seq (aS.of hu2),aJ (by rw[LX,hy];rfl),qq⟩
    have e4:HE E=some (.lst (((bR os (i,e)).map (gI (bF ws))).map V.int)):=by
     rw[hE4,show(aC (bR os (i,e))).length=(bR os (i,e)).length from LO _,cr 0 (λk=>V.int (gI (bF ws) k)),Oa];rfl
    have sBE:=sC.trans sE;have sHE:=sB.trans sBE;have eDE:=sE _ _ eC;refine⟨E,_,Z,aS.of e4,?_⟩;have eL:((bR os (i,e)).map (gI (bF ws))).sum=L (i,e):=by rw[←hL];rfl
    rw[eL];have lb:=LB (i,e);have lp:1≤bK (i,e)/\bK (i,e)≤24:=by show 1≤(e:Int)-i+1/\(e:Int)-i+1≤24;omega
    refine⟨_,Z,_,Z,_,_,Z,Z,_,_,Z,Z,?_⟩;obtain⟨mn,ln,bg,lbb,hpb,bst⟩:=best;have hpbE:=aM.same (K:=K) sBE _ _ hpb;have bl:0≤mn/\mn≤64512/\0<ln:=by
     rcases bst with⟨r1,r2,_⟩ | ⟨z,r0,r1,r2,_,_,b⟩
     ·omega
     ·have:=LB z;have:=(show gH ls.length z from b.inn.1).pos;omega
    refine⟨_,Z,_,Z,pb,_,_,_,Z,Z,hpbE,Z,_,_,Z,Z,.inl ⟨by omega,by omega⟩,_,Z,pb,_,_,_,Z,Z,hpbE,Z,_,Z,_,_,Z,Z,.inl ⟨by omega,by omega⟩,_,_,Z,Z,?_⟩;have st:=λr=>sO (n:=ls.length) (b:=i) (e:=e) hie hen r
    have secs:∀r,fP ls.length i (e+1) r->gH ls.length r:=λr hr=>hr.1
    refine⟨_,Z,_,_,Z,Z,_,Z,?_⟩;by_cases c:0<L (i,e)*ln-mn*bK (i,e)
    ·refine cn c (d0 ?_);refine⟨_,Z,_,Z,_,Z,_,Z,Gr,λpn hpn=>?_⟩;have s5:=aj hpn (.tup [.int (L (i,e)),.int (bK (i,e)),.int (i:Nat),.ref D]);refine⟨pn,_,_,_,_,_,Z,sHE.trans s5,L (i,e),bK (i,e),(i:Nat),D,bH.of ah,.inr ⟨(i,e),?_,Z,Z,Z,s5.seq (aS.of eDE),?_⟩⟩
     ·rcases bst with⟨r1,r2,_⟩ | ⟨z,r0,r1,r2,_,_,b⟩
      ·subst r1 r2;omega
      ·exact AR (ln:=ln) lb.1 (show 0<mn by omega) (show 0<bK (i,e) by omega) (by omega)
     ·rcases bst with⟨r1,r2,_,z⟩ | ⟨z,r0,r1,r2,_,_,b⟩
      ·subst r1 r2;exact CA st secs z (by omega)
      ·subst r1 r2;exact b.more secs st (by omega)
    refine bI c ?_;have stay:oS K HE os (fP ls.length i (e+1)) L pb∨(L (i,e)*ln-mn*bK (i,e)=0/\0<L (i,e)/\(i:Int)=bg):=by
     rcases bst with⟨r1,r2,r3,z⟩ | ⟨z,r0,r1,r2,r3,r4,b⟩
     ·refine .inl ⟨mn,ln,bg,lbb,hpbE,.inl ⟨r1,r2,r3,λr hr=>?_⟩⟩;rcases(st r).mp hr with h|h
      ·exact z r h
      ·subst r1 r2;rw[h];omega
     ·by_cases cc:L (i,e)*ln-mn*bK (i,e)=0/\0<L (i,e)/\(i:Int)=bg
      ·exact .inr cc
      ·refine .inl ⟨mn,ln,bg,lbb,hpbE,.inr ⟨z,r0,r1,r2,r3,sBE.seq r4,?_⟩⟩;have inn:=b.inn;unfold fP at inn;subst r1 r2 r3;refine b.stay st (by omega) ?_;by_cases c0:L (i,e)*bK z=L z*bK (i,e)
       ·left;have lpos:=AR (ln:=bK z) lb.1 r0 (show 0<bK (i,e) by omega) (by omega);have ne:¬(i:Int)=(z.1:Int):=λh=>cc ⟨by omega,lpos,h⟩
        unfold ky;show z.1<i∨_;omega
       ·exact .inr c0
    refine⟨_,Z,Z,_,Z,?_⟩;by_cases c0:L (i,e)*ln-mn*bK (i,e)=0
    ·refine cn (congrArg V.int c0) ?_;refine⟨_,Z,_,_,Z,Z,_,Z,?_⟩;by_cases cm:0<L (i,e)
     ·refine cn cm ?_;refine⟨_,Z,_,Z,pb,_,_,_,Z,Z,hpbE,Z,Z,_,Z,?_⟩;by_cases cb:(i:Int)=bg
      ·refine cn (congrArg V.int cb) ?_;refine⟨_,Z,_,Z,_,Z,_,Z,Gr,λpn hpn=>?_⟩;have s5:=aj hpn (.tup [.int (L (i,e)),.int (bK (i,e)),.int (i:Nat),.ref D]);refine⟨pn,_,_,_,_,_,Z,sHE.trans s5,L (i,e),bK (i,e),(i:Nat),D,bH.of ah,.inr ⟨(i,e),cm,Z,Z,Z,s5.seq (aS.of eDE),?_⟩⟩;rcases bst with⟨r1,r2,_,z⟩ | ⟨z,r0,r1,r2,r3,_,b⟩
       ·subst r1 r2;omega
       ·have inn:=b.inn;unfold fP at inn;subst r1 r2 r3;exact b.longer secs st (by omega) (show i=z.1 by omega) (show z.2≤e by omega)
      ·refine bI (λz=>cb (by injection z)) ?_;rcases stay with h|h
       ·exact⟨pb,_,_,_,_,_,Z,sHE,h⟩
       ·exact absurd h.2.2 cb
     ·refine bI cm (cJ ?_);rcases stay with h|h
      ·exact⟨pb,_,_,_,_,_,Z,sHE,h⟩
      ·exact absurd h.2.1 cm
    ·refine bI (λz=>c0 (by injection z)) (cJ ?_);rcases stay with h|h
     ·exact⟨pb,_,_,_,_,_,Z,sHE,h⟩
     ·exact absurd h.1 c0
   ·rintro σ HB ⟨pb,x8,x9,x10,x11,x12,rfl,sB,best⟩;refine⟨pb,_,_,_,_,_,_,Z,sB,best.mono (aB.refl _) λr=>?_⟩;rw[show i+(((aC ls).length:Int)-(i:Int)).toNat=ls.length by omega];exact sP r
  ·rintro σ HA ⟨pb,x7,x8,x9,x10,x11,x12,rfl,sA,mn,ln,bg,lb,hpb,best⟩;rw[show((aC ls).length:Int).toNat=ls.length by omega] at best;have sHA:=sH2.trans sA;refine⟨_,Z,pb,_,_,_,Z,Z,hpb,Z,Z,_,Z,?_⟩;rcases best with⟨r1,r2,r3,z⟩ | ⟨z,r0,r1,r2,r3,r4,b⟩
   ·subst r1;exact cn Z (kN HA sHA (uP ok λr hr=>by rw[hO,hL];exact z r ((nW r).mp hr)))
   ·subst r1 r2 r3;refine bI (λh=>by injection h;omega) ?_;have sec:gH ls.length z:=b.inn.1;have c1:z.1≤z.2:=sec.1;have c2:z.2<ls.length:=sec.2;refine⟨_,Z,_,Z,pb,_,_,_,Z,Z,hpb,Z,_,Z,_,Z,pb,_,_,_,Z,Z,hpb,Z,_,Z,pb,_,_,_,Z,Z,hpb,Z,_,_,Z,Z,_,Z,q,_,Z,sHA.seq hq,λpc0 hpc0=>?_⟩;rw[show(z.1:Int)+bK z=((z.2+1:Nat):Int) by unfold bK;omega,u9 (by omega) (by omega)];have s5:=aj hpc0 (.lst (aC ((ls.drop z.1).take (z.2+1-z.1))));refine⟨pc0,_,Z,.inl ⟨aS.of ah,λpc hpc=>?_⟩⟩;have s6:=aj hpc (.tup (aC ((ls.drop z.1).take (z.2+1-z.1))));have s56:=s5.trans s6;refine⟨_,Z,pb,_,_,_,Z,Z,aM.same (K:=K) s56 _ _ hpb,Z,lb,_,Z,.inl ⟨s56.seq r4,λpe hpe=>?_⟩⟩;have s7:=aj hpe (.tup (aC (bR os z)));refine⟨iY,λpr hpr=>?_⟩;have s8:=aj hpr (.tup [.ref pc,.ref pe]);have it:so ws ls z:=⟨by rw[hO,hL];exact b.congr nW,by rw[hO,hL];exact r0⟩;refine k (.ref pr) z _ (by intro h;cases h) (((sHA.trans s56).trans s7).trans s8) it ?_;have e:fX ws ls z=(di ls z,bR os z):=by unfold fX;rw[hO]
    rw[e];exact⟨pr,pc,pe,Z,bH.of ah,aM.same (K:=K) (s7.trans s8) _ _ (bH.of ah),aM.same (K:=K) s8 _ _ (bH.of ah)⟩
theorem Fo(T:eg K mg t):bD P w K mg base dF 3 t.a_Q13 t.d_Q13 ["_law_works_here"] (nA K):=by
 refine T.F_Q13.ok kd (λvs H Q E h=>?_) (λcdv A outer s H vs Q E hr h=>?_)
 ·obtain⟨_,_,rfl,_⟩:=h;rfl
 obtain⟨v,ws,rfl,⟨p,xs,rfl,hS,al⟩,hw,ok,k⟩:=h;refine dI.ok (af (b8 1 kd.nd (bJ (jg Z) (by rfl) T.z_list OY (ad (jA Z T.z_range (ad ai ag aH)) ag aF))) (af (b8 2 kd.nd (bM ag)) (af (b8 3 kd.nd (df (Da T) hr T.m_Q7 T.F_Q7.kp T.b_Q7 (ad (qv 0) (ad (qv 1) ag ae) ae))) (af (fK L9 (aD uJ (qv 3) gf (aL _)) (af (cK (fw MK PySem.F.slot_list_append PySem.F.type_list_append bV (qv 2) (ad (qv 3) ag ae))) (af (dY (i:=1) (N':=["_law_turn","_law_layer"]) (src:=[none,some 3]) kd.nd Z (by first|exact L8 Z|exact L7 Z) Z (by exact(bQ (qv 1))) (λ_ _ _ _ _=>(by exact(by exact au (i:=0) (by show Mg (["_law_turn","_law_layer"]:List Mj);decide +kernel) (by exact Z) (by first|exact L8 Z|exact L7 Z)))) (λ_ _ _ _ _=>(cE (aD (eT (K:=K) (by exact Z)) (by exact(qv 0)) (by exact(aZ (aU (K:=K) (by exact Z)) (by exact(qv 1)) ai (by exact λ_ _=>Z))) (by with_unfolding_all rfl)))) (λ_ _ _ _ _=>(by exact(by exact(qv 0)))) (by exact⟨Z,Z,Z,Z,trivial⟩) Z (by decide +kernel) Z (by decide +kernel) (by exact aQ Z ⟨Z,trivial⟩)) (ao (b8 3 kd.nd (df (Da T) hr T.m_Q7 T.F_Q7.kp T.b_Q7 (ad (qv 0) (ad (qv 1) ag ae) ae))))))) (ao (aG (qv 2))))))) ?_
 nofun
 have hlen:=al.len;refine⟨_,Z,λpr hpr=>?_⟩;have s1:=aj hpr (.rng 0 24);refine⟨pr,24,Z,ah,by decide,λq0 hq0=>?_⟩;have s2:=aj hq0 (.lst ((B.upTo 24).map V.int));have hq2:upd (upd H pr (.rng 0 24)) q0 (.lst ((B.upTo 24).map V.int)) q0=some (.lst (aC (range 24))):=by
  have e:aC (range 24)=(B.upTo 24).map V.int:=by unfold aC B.upTo;rw[Oa];rfl
  rw[e];exact ah
 have s12:=s1.trans s2;generalize upd (upd H pr (.rng 0 24)) q0 (.lst ((B.upTo 24).map V.int))=HA at hq2 s12 ⊢;refine⟨(by show 0≤sizeLine;exact Mx _),λl h0=>?_⟩;have nql:q0≠l:=λz=>by subst z;rw[hq2] at h0;cases h0
 have h00:H l=none:=by
  cases e:H l with
  |none=>rfl
  |some o=>rw[s12 _ _ e] at h0;cases h0
 have s3:=aj h0 (.lst []);have hl3:upd HA l (.lst []) l=some (.lst []):=ah;have hq3:=s3 _ _ hq2;have s03:=s12.trans s3;generalize upd HA l (.lst [])=HB at hl3 hq3 s03 ⊢;have nf:=uN ok;refine⟨_,Z,_,Z,.ref p,q0,ws,range 24,Z,⟨p,xs,Z,aM.same (K:=K) s03 _ _ hS,al.mono λ_ _ m=>m.mono (aM.same s03)⟩,hw,ok,aS.of hq3,by decide,(λHC s4 z0=>?_),λx0 pl0 HC ne0 s4 it0 lv0=>?_⟩;let Iv1:Nat->L2.St->Hp->Prop:=λm σ H'=>∃(acc:List (List Nat×List Nat)) (ys:List V) (q:Addr) (ls:List Nat) (x:V),σ=[some (.ref p),some (.ref q),some (.ref l),some x]/\aB H H'/\H' l=some (.lst ys)/\cO (qp K H') ys acc/\H' q=some (.lst (aC ls))/\q≠l/\ls.Nodup/\(∀t∈ls,t<24)/\ls.length≤24/\acc.length+jU ws ls≤ws.length/\(∀y∈acc,iM ws.length y)/\(∀r,g7 ws ls r->g7 ws (range 24) (acc++r))/\m=jU ws ls/\((x=.non/\jU ws ls=0)∨∃pl,x≠.non/\so ws ls pl/\qp K H' x (fX ws ls pl))
 refine⟨Iv1,⟨_,[],[],q0,range 24,_,Z,s03.trans s4,s4 _ _ hl3,.nil,s4 _ _ hq3,nql,OS,(λt ht=>LW.mp ht),by decide,(by rw[nf];exact NQ (OW _)),(λy hy=>by cases hy),(λr h=>h),Z,.inl ⟨Z,z0⟩⟩,?_⟩
 rotate_left
 let Iv2:Nat->L2.St->Hp->Prop:=λm σ H'=>∃(acc:List (List Nat×List Nat)) (ys:List V) (q:Addr) (ls:List Nat) (x:V),σ=[some (.ref p),some (.ref q),some (.ref l),some x]/\aB H H'/\H' l=some (.lst ys)/\cO (qp K H') ys acc/\H' q=some (.lst (aC ls))/\q≠l/\ls.Nodup/\(∀t∈ls,t<24)/\ls.length≤24/\acc.length+jU ws ls≤ws.length/\(∀y∈acc,iM ws.length y)/\(∀r,g7 ws ls r->g7 ws (range 24) (acc++r))/\m=jU ws ls/\((x=.non/\jU ws ls=0)∨∃pl,x≠.non/\so ws ls pl/\qp K H' x (fX ws ls pl))
 refine⟨Iv2,⟨_,[],[],q0,range 24,_,Z,s03.trans s4,s4 _ _ hl3,.nil,s4 _ _ hq3,nql,OS,(λt ht=>LW.mp ht),by decide,(by rw[nf];exact NQ (OW _)),(λy hy=>by cases hy),(λr h=>h),Z,.inr ⟨pl0,ne0,it0,lv0⟩⟩,?_⟩
 all_goals
  rintro m σ H1 ⟨acc,ys,q,ls,x,rfl,sm,hl1,al1,hq,nq,nd,lt,l24,few,lok,con,rfl,cs⟩;refine⟨_,Z,Z,_,Z,?_⟩;rcases cs with⟨rfl,c⟩ | ⟨pl,ne,it,lv⟩
  ·refine iV Z ?_;have ly:=con [] (.nil c);rw[NF] at ly;exact⟨_,Z,k l ys acc H1 sm h00 hl1 al1 ly lok (by omega)⟩
  ·refine Ap ne ?_;refine⟨_,λ_ _ z=>z,?_⟩;have sec:=uU it;have hy:=al1.len;have lyo:iM ws.length (fX ws ls pl):=tN sec l24 lt;have rst:=uL (ws:=ws) nd sec;have hp:=it.held;refine⟨_,Z,.inl ⟨Z,_,aS.of hl1⟩,_,Z,l,_,_,Z,Z,hl1,be (by omega),?_⟩;have t3:aM K H1 (upd H1 l (.lst (ys++[x]))):=aM.up hl1 _;have sm3:aB H (upd H1 l (.lst (ys++[x]))):=λb o e=>by rw[aE (aX e h00)];exact sm _ _ e
   have hl3:upd H1 l (.lst (ys++[x])) l=some (.lst (ys++[x])):=ah;have al3:cO (qp K (upd H1 l (.lst (ys++[x])))) (ys++[x]) (acc++[fX ws ls pl]):=(al1.mono λ_ _ m=>m.mono t3).snoc (lv.mono t3);have lv3:=lv.mono t3;have hq3:upd H1 l (.lst (ys++[x])) q=some (.lst (aC ls)):=by rw[aE nq];exact hq
   generalize upd H1 l (.lst (ys++[x]))=H3 at sm3 hl3 al3 lv3 hq3 ⊢;obtain⟨pL,a,b,rfl,hpL,ha,hb⟩:=lv3;have nl:(aC ls).length=ls.length:=LO _;refine⟨_,Z,q,Z,⟨_,aS.of hq3⟩,λD hD=>bC (cT (aS.of hq3)) (λi=>!(di ls pl).contains (ls.getD i 0)) (λi=>V.int (ls.getD i 0:Nat)) hD (by omega) (λi x H' hi s' hx R E kR kE=>?_) λH4 s4 h4=>?_⟩
   ·unfold aC at hx;rw[LX] at hx;obtain⟨z,hz,rfl⟩:=Mn.mp hx;rw[ax 0 hz] at kR kE;have t':=aM.same (K:=K) s';refine⟨eU.set Z,_,Z,_,Z,pL,_,_,_,Z,Z,t' _ _ hpL,Z,a,_,Z,.inr (t' _ _ ha),Z,gA _,_,Z,?_⟩;have e:nh (.int (z:Nat)) (aC (fX ws ls pl).1)=(di ls pl).contains z:=iD z (di ls pl)
    cases cz:(di ls pl).contains z with
    |true=>exact dU (by show(!nh (.int (z:Nat)) (aC (fX ws ls pl).1))=false;rw[e,cz];rfl) (kE (by rw[cz];rfl) _ (aB.refl _))
    |false=>exact gZ (by show(!nh (.int (z:Nat)) (aC (fX ws ls pl).1))=true;rw[e,cz];rfl) ⟨_,Z,kR (by rw[cz];rfl) _ (aB.refl _)⟩
   rw[nl,dj 0 (λt=>!(di ls pl).contains t) (λt:Nat=>V.int t)] at h4
   replace h4:H4 D=some (.lst (aC (cR ls pl))):=h4
   have nD:D≠l:=λz=>by subst z;rw[hl3] at hD;cases hD
   have sm4:=sm3.trans s4;have rl:(cR ls pl).length≤ls.length:=MP _ _;have fin:∀(x':V) (H5:Hp),aB H4 H5->((x'=.non/\jU ws (cR ls pl)=0)∨∃pl',x'≠.non/\so ws (cR ls pl) pl'/\qp K H5 x' (fX ws (cR ls pl) pl'))->∃m',m'<jU ws ls/\∃(acc:List (List Nat×List Nat)) (ys:List V) (q:Addr) (ls:List Nat) (x:V),[some (.ref p),some (.ref D),some (.ref l),some x']=[some (.ref p),some (.ref q),some (.ref l),some x]/\aB H H5/\H5 l=some (.lst ys)/\cO (qp K H5) ys acc/\H5 q=some (.lst (aC ls))/\q≠l/\ls.Nodup/\(∀t∈ls,t<24)/\ls.length≤24/\acc.length+jU ws ls≤ws.length/\(∀y∈acc,iM ws.length y)/\(∀r,g7 ws ls r->g7 ws (range 24) (acc++r))/\m'=jU ws ls/\((x=.non/\jU ws ls=0)∨∃pl,x≠.non/\so ws ls pl/\qp K H5 x (fX ws ls pl)):=λx' H5 s5 cs'=>by
    refine⟨jU ws (cR ls pl),by omega,acc++[fX ws ls pl],ys++[.ref pL],D,cR ls pl,x',Z,sm4.trans s5,s5 _ _ (s4 _ _ hl3),al3.mono (λ_ _ m=>m.mono (aM.same (s4.trans s5))),s5 _ _ h4,nD,uH nd pl,(λt ht=>lt t (Mb.mp ht).1),by omega,(by rw[MO];show acc.length+1+_≤_;omega),(λy hy=>?_),(λr hr=>?_),Z,cs'⟩
    ·rcases Mh.mp hy with h|h
     ·exact lok y h
     ·rw[LP.mp h];exact lyo
    ·have:=con _ (g7.cons it hr);rw[Qh];exact this
   refine⟨_,Z,_,Z,.ref p,D,ws,cR ls pl,Z,⟨p,xs,Z,aM.same (K:=K) sm4 _ _ hS,al.mono λ_ _ m=>m.mono (aM.same sm4)⟩,hw,ok,aS.of h4,by omega,(λH5 s5 z=>fin .non H5 s5 (.inl ⟨Z,z⟩)),λx' pl' H5 ne' s5 it' lv'=>fin x' H5 s5 (.inr ⟨pl',ne',it',lv'⟩)⟩
theorem tF(T:eg K mg t):bD P w K mg base dF 1 t.a_Q20 t.d_Q20 ["_law_leans_here","_law_work"] (pD K):=by
 refine T.F_Q20.ok l9 (λvs H Q E h=>?_) (λcdv A outer s H vs Q E hr h=>?_)
 ·obtain⟨_,_,_,rfl,_⟩:=h;rfl
 obtain⟨v,es,w,rfl,⟨p,xs,rfl,hS,al⟩,e64,k⟩:=h;refine dI.ok (af (b8 2 l9.nd (bn (N':=["_law_one","_law_other","_law_work"]) (src:=[none,none,some 1]) Z (by exact(cW (qv 0))) (λ_ _ _ _ _=>(by exact(by exact gP (K:=K) (n:=2) (by exact Z) (by exact Z) (by exact bi (by exact au (i:=0) (by show Mg (["_law_one","_law_other","_law_work"]:List Mj);decide +kernel) (by exact Z) (by first|exact L8 Z|exact L7 Z)) (by exact bi (by exact au (i:=1) (by show Mg (["_law_one","_law_other","_law_work"]:List Mj);decide +kernel) (by exact Z) (by first|exact L8 Z|exact L7 Z)) c6))))) (λ_ _ _ _ _=>(cE (aD dg (by exact(qv 1)) (by exact(qv 2)) (aL _)))) (λ_ _ _ _ _=>(by exact(by exact(qv 0)))) (by exact⟨Z,Z,Z,Z,trivial⟩) Z (by decide +kernel) Z (by decide +kernel) (by exact aQ Z ⟨Z,trivial⟩))) (af (b8 3 l9.nd ai) (af (fK L9 (aD mz (qv 3) (ap aA (by rfl) T.z_len MH (ad (qv 2) ag ae)) (aL _)) (af (b8 2 l9.nd (aN kj (qv 2) (bn (N':=["_law_one","_law_other","_law_found","_law_at"]) (src:=[none,none,some 2,some 3]) Z (by exact(cW (qv 0))) (λ_ _ _ _ _=>(by exact(by exact gP (K:=K) (n:=2) (by exact Z) (by exact Z) (by exact bi (by exact au (i:=0) (by show Mg (["_law_one","_law_other","_law_found","_law_at"]:List Mj);decide +kernel) (by exact Z) (by first|exact L8 Z|exact L7 Z)) (by exact bi (by exact au (i:=1) (by show Mg (["_law_one","_law_other","_law_found","_law_at"]:List Mj);decide +kernel) (by exact Z) (by first|exact L8 Z|exact L7 Z)) c6))))) (λ_ _ _ _ _=>(cE (eY (gO (aD dg (by exact(qv 1)) (by exact(aZ (cf (K:=K) (by exact Z)) (by exact(qv 2)) (by exact(qv 3)) (by exact λ_ _=>Z))) (aL _)) (gN (aD (eT (K:=K) (by exact Z)) (by exact(qv 0)) (by exact(qv 2)) (by with_unfolding_all rfl))))))) (λ_ _ _ _ _=>(by exact(by exact(qv 0)))) (by exact⟨Z,Z,Z,Z,⟨Z,Z,Z,Z,trivial⟩⟩) Z (by decide +kernel) Z (by decide +kernel) (by exact aQ Z ⟨Z,⟨Z,trivial⟩⟩)))) (ao (b8 3 l9.nd (aN dP (qv 3) ai))))) (ao (aG (qv 2)))))) ?_
 nofun
 have lx:xs.length=es.length:=al.len;refine⟨_,Z,p,Z,⟨_,hS⟩,λD0 hD0=>bC (jj hS) (Dp es w []) (λi=>V.int ((es.getD i (0,0)).1:Nat)) hD0 (by omega) (λi x H' hi sm hx Rk E kR kE=>?_) λH1 s1 h1=>?_⟩
 ·obtain⟨⟨a,b⟩,hd,pl,rfl,hpl⟩:=al.at hx;unfold Dp at kR kE;rw[ax (0,0) hd] at kR kE;refine⟨pl,_,Z,aM.same sm _ _ hpl,Z,_,_,Z,_,_,Z,Z,(eU.set Z).set' Z,?_⟩;refine⟨_,Z,_,Z,Z,_,Z,?_⟩;by_cases c:b=w
  ·exact cn (by rw[c]) ⟨_,Z,kR (by rw[decide_eq_true c];rfl) _ (aB.refl _)⟩
  ·exact bI (λz=>c (by injection z with z;exact Int.ofNat.inj z)) (kE (by rw[decide_eq_false c];rfl) _ (aB.refl _))
 have e1:((range xs.length).filter (Dp es w [])).map (λi=>V.int ((es.getD i (0,0)).1:Nat))=aC (fQ es (vi es w [])):=by
  unfold aC fQ vi;rw[Oa,lx];rfl
 rw[e1] at h1;let Iv1:Nat->L2.St->Hp->Prop:=λm σ H'=>∃(n:Nat) (is:List Nat) (D:Addr),σ=[some (.ref p),some (.int (w:Nat)),some (.ref D),some (.int (n:Nat))]/\aB H H'/\H' D=some (.lst (aC (fQ es is)))/\ui es w n is/\m=es.length-n
 refine⟨Iv1,⟨_,0,_,D0,Z,s1,h1,AY es w,Z⟩,?_⟩;rintro m σ H2 ⟨n,is,D,rfl,s2,h2,iv,rfl⟩;have il:is.length≤es.length:=kl _ _ iv.nd iv.lt;have lfs:(fQ es is).length=is.length:=LO _;have fl:(aC (fQ es is)).length=is.length:=by unfold aC;rw[LO,lfs]
 have hS2:=aM.same (K:=K) s2 _ _ hS;refine⟨_,Z,_,Z,D,_,Z,.inl (aS.of h2),_,_,Z,Z,_,Z,?_⟩;by_cases c:n<is.length
 ·refine cn (by omega) ⟨_,λ_ _ z=>z,?_⟩;obtain⟨x,hx⟩:∃x,(fQ es is)[n]?=some x:=⟨_,LL (by rw[lfs];exact c)⟩;have hxv:(aC (fQ es is))[n]?=some (V.int (x:Nat)):=by unfold aC;rw[LX,hx];rfl
  refine⟨_,Z,_,Z,p,Z,⟨_,hS2⟩,λD1 hD1=>bC (jj hS2) (Dp es x (fQ es is)) (λi=>V.int ((es.getD i (0,0)).1:Nat)) hD1 (by omega) (λi y H' hi sm hy Rk E kR kE=>?_) λH3 s3 h3=>?_⟩
  ·obtain⟨⟨a,b⟩,hd,pl,rfl,hpl⟩:=al.at hy;unfold Dp at kR kE;rw[ax (0,0) hd] at kR kE;have hD':aS K H' D (aC (fQ es is)):=aS.of (sm _ _ h2);refine⟨pl,_,Z,aM.same (s2.trans sm) _ _ hpl,Z,_,_,Z,_,_,Z,Z,(eU.set Z).set' Z,?_⟩;refine⟨_,Z,_,Z,_,Z,D,_,_,_,Z,Z,hD',aJ hxv,Z,_,Z,?_⟩;by_cases cb:b=x
   ·refine cn (by rw[cb]) ⟨_,Z,_,Z,D,_,Z,.inl hD',Z,gA _,_,Z,?_⟩;have eI:nh (.int (a:Nat)) (aC (fQ es is))=(fQ es is).contains a:=iD a _
    cases ca:(fQ es is).contains a with
    |true=>exact dU (by show(!nh (.int (a:Nat)) (aC (fQ es is)))=false;rw[eI,ca];rfl) (kE (by rw[ca];exact Nn _) _ (aB.refl _))
    |false=>exact gZ (by show(!nh (.int (a:Nat)) (aC (fQ es is)))=true;rw[eI,ca];rfl) ⟨_,Z,kR (by rw[decide_eq_true cb,ca];rfl) _ (aB.refl _)⟩
   ·exact bI (λz=>cb (by injection z with z;exact Int.ofNat.inj z)) (cJ (kE (by rw[decide_eq_false cb];rfl) _ (aB.refl _)))
  have e3:((range xs.length).filter (Dp es x (fQ es is))).map (λi=>V.int ((es.getD i (0,0)).1:Nat))=aC (fQ es (vi es x (fQ es is))):=by
   unfold aC;rw[show fQ es (vi es x (fQ es is))=(vi es x (fQ es is)).map λi=>(es.getD i (0,0)).1 from Z,Oa,lx];rfl
  rw[e3] at h3;have iv':=iv.step hx;have il':=kl _ _ iv'.nd iv'.lt;rw[MO] at il';have l3:(aC (fQ es (vi es x (fQ es is)))).length=(vi es x (fQ es is)).length:=by unfold aC;rw[LO];exact LO _
  refine⟨D,D1,_,_,Z,Z,s3 _ _ h2,h3,NH (be (by rw[l3,fl];omega)),λq hq=>?_⟩;have s4:=aj hq (.lst (aC (fQ es is)++aC (fQ es (vi es x (fQ es is)))));have ea:aC (fQ es is)++aC (fQ es (vi es x (fQ es is)))=aC (fQ es (is++vi es x (fQ es is))):=by
   rw[p9];unfold aC;rw[Ni]
  rw[ea] at s4 ⊢;refine⟨_,Z,_,_,Z,Z,?_⟩;exact⟨_,(by omega),n+1,_,q,Z,(s2.trans s3).trans s4,ah,iv',Z⟩
 ·refine bI (by omega) ?_;exact⟨_,Z,k D _ H2 s2 h2 (iv.fin (by omega)) (by omega)⟩
theorem E4(T:eg K mg t):bD P w K mg base dF 1 t.a_Q41 t.d_Q41 ["_law_number"] (sK K):=by
 refine T.F_Q41.ok DP (λvs H Q E h=>?_) (λcdv A outer s H vs Q E hr h=>?_)
 ·obtain⟨_,rfl,_⟩:=h;rfl
 obtain⟨i,rfl,i0,i1,k⟩:=h;refine dI.ok (ao (aG (aN gh (aN ft (qv 0) ai) ai))) ?_;nofun
 exact⟨_,Z,_,_,Z,Z,.inr ⟨by decide,by decide⟩,_,_,Z,Z,(show(0:Int)<11 by decide),k⟩
theorem E8(T:eg K mg t):bD P w K mg base dF 2 t.a_Q36 t.d_Q36 ["_law_works_here","_law_leans_here","_law_come"] (qM K):=by
 refine T.F_Q36.ok lX (λvs H Q E h=>?_) (λcdv A outer s H vs Q E hr h=>?_)
 ·obtain⟨_,_,_,_,_,_,rfl,_⟩:=h;rfl
 obtain⟨v,u,a,ws,es,come,rfl,ak,ha,wne,k⟩:=h;refine dI.ok (af (b8 3 lX.nd (bn (N':=["_law_number","_law_come"]) (src:=[none,some 2]) Z (by exact(bU Z T.z_range (ad (ap aA (by rfl) T.z_len MH (ad (qv 0) ag ae)) ag aF))) (λ_ _ _ _ _=>(by exact(by exact au (i:=0) (by show Mg (["_law_number","_law_come"]:List Mj);decide +kernel) (by exact Z) (by first|exact L8 Z|exact L7 Z)))) (λ_ _ _ _ _=>(cE (aD (eT (K:=K) (by exact Z)) (by exact(qv 0)) (by exact(qv 1)) (by with_unfolding_all rfl)))) (λ_ _ _ _ _=>(by exact(by exact(qv 0)))) (by exact⟨Z,Z,Z,Z,trivial⟩) Z (by decide +kernel) Z (by decide +kernel) (by exact aQ Z ⟨Z,trivial⟩))) (af (bA (aD dg (ap aA (by rfl) T.z_len MH (ad (qv 3) ag ae)) ai (aL _)) (ao (aG gf)) aP) (af (b8 4 lX.nd (ap (iG Z) (by rfl) T.z_min Tq (ad (bn (N':=["_law_number","_law_works_here"]) (src:=[none,some 0]) Z (by exact(bQ (qv 3))) (λ_ _ _ _ _=>(by exact(by exact au (i:=0) (by show Mg (["_law_number","_law_works_here"]:List Mj);decide +kernel) (by exact Z) (by first|exact L8 Z|exact L7 Z)))) (λ_ _ _ _ _=>bZ) (λ_ _ _ _ _=>(by exact(by exact(aZ (aU (K:=K) (by exact Z)) (by exact(aZ (aU (K:=K) (by exact Z)) (by exact(qv 1)) (by exact(qv 0)) (by exact λ_ _=>Z))) ai (by exact λ_ _=>Z))))) (by exact⟨Z,Z,Z,Z,trivial⟩) Z (by decide +kernel) Z (by decide +kernel) (by exact aQ Z ⟨Z,trivial⟩)) ag dq))) (af (b8 3 lX.nd (bn (N':=["_law_number","_law_last","_law_works_here"]) (src:=[none,some 4,some 0]) Z (by exact(bQ (qv 3))) (λ_ _ _ _ _=>(by exact(by exact au (i:=0) (by show Mg (["_law_number","_law_last","_law_works_here"]:List Mj);decide +kernel) (by exact Z) (by first|exact L8 Z|exact L7 Z)))) (λ_ _ _ _ _=>(cE (aD dg (by exact(aZ (aU (K:=K) (by exact Z)) (by exact(aZ (aU (K:=K) (by exact Z)) (by exact(qv 2)) (by exact(qv 0)) (by exact λ_ _=>Z))) ai (by exact λ_ _=>Z))) (by exact(qv 1)) (aL _)))) (λ_ _ _ _ _=>(by exact(by exact(qv 0)))) (by exact⟨Z,Z,Z,Z,⟨Z,Z,Z,Z,trivial⟩⟩) Z (by decide +kernel) Z (by decide +kernel) (by exact aQ Z ⟨Z,⟨Z,trivial⟩⟩))) (af (bS L9 Z (bQ (qv 3)) (au (i:=5) lX.nd Z (by first|exact L8 Z|exact L7 Z)) (ao (bA (aD dg (ap aA (by rfl) T.z_len MH (ad (bn (N':=["_law_other","_law_left"]) (src:=[none,some 3]) Z (by exact(bQ (df (tF T) hr T.m_Q20 T.F_Q20.kp T.b_Q20 (ad (qv 1) (ad (qv 5) ag ae) ae)))) (λ_ _ _ _ _=>(by exact(by exact au (i:=0) (by show Mg (["_law_other","_law_left"]:List Mj);decide +kernel) (by exact Z) (by first|exact L8 Z|exact L7 Z)))) (λ_ _ _ _ _=>(cE (aD (mB (K:=K) (by exact Z)) (by exact(qv 0)) (by exact(qv 1)) (by with_unfolding_all rfl)))) (λ_ _ _ _ _=>(by exact(by exact(qv 0)))) (by exact⟨Z,Z,Z,Z,trivial⟩) Z (by decide +kernel) Z (by decide +kernel) (by exact aQ Z ⟨Z,trivial⟩)) ag dq)) ai (aL _)) (ao (aG (qv 5))) aP))) (ao (aG (bW bt (qv 3) ai)))))))) ?_
 nofun
 obtain⟨p,xs,rfl,hS,al⟩:=id ak.wv;have rk:=ak.rk;have w8:=ak.w8;have e8:=ak.e8;have lx:xs.length=ws.length:=al.len;refine⟨_,Z,p,_,Z,.inr hS,_,Z,by omega,by omega,λD0 hD0=>bC jk (λi=>!come.contains i) (λi=>V.int (i:Nat)) hD0 (by omega) (λi x H' hi sm hx Rk E kR kE=>?_) λH0 s0 h0=>?_⟩
 ·subst hx;rw[Int.zero_add];refine⟨eU.set Z,_,Z,_,Z,a,_,Z,.inl (sm.seq ha),Z,gA _,_,Z,?_⟩;have eI:nh (.int (i:Nat)) (aC come)=come.contains i:=iD i _
  cases c:come.contains i with
  |true=>exact dU (by show(!nh (.int (i:Nat)) (aC come))=false;rw[eI,c];rfl) (kE (by rw[c];rfl) _ (aB.refl _))
  |false=>exact gZ (by show(!nh (.int (i:Nat)) (aC come))=true;rw[eI,c];rfl) ⟨_,Z,kR (by rw[c];rfl) _ (aB.refl _)⟩
 have e0:((range ((xs.length:Int)).toNat).filter λi=>!come.contains i).map (λi=>V.int (i:Nat))=aC (cj ws.length come):=by
  rw[show((xs.length:Int)).toNat=ws.length by omega];rfl
 rw[e0] at h0;have lt:∀i∈cj ws.length come,i<ws.length:=λi hi=>(eE.mp hi).1
 have l8:(cj ws.length come).length≤8:=by
  unfold cj;exact MG (MP _ _) (by rw[Mw];omega)
 generalize cj ws.length come=ls at h0 wne k lt l8;have h0s:aS K H0 D0 (aC ls):=aS.of h0;have hS0:=aM.same (K:=K) s0 _ _ hS;have al0:=al.mono λ_ _ z=>z.mono (aM.same s0)
 have ne:=wne;refine⟨_,Z,D0,_,Z,.inl h0s,Z,_,Z,bI (λz=>?_) ?_⟩
 ·injection z with z;have z':(aC ls).length=0:=Int.ofNat.inj z;rw[show(aC ls).length=ls.length from LO _] at z';exact ne (Pj.mp z')
 have lv:(aC ls).length=ls.length:=LO _;have pos:0<ls.length:=O1.mpr ne;have at_:∀{H':Hp},aB H0 H'->∀i,i<ws.length->∃pw x,xs[i]?=some (.ref pw)/\bH K H' pw [.int (ws.getD i bG).1,.int (ba ws i:Nat),x]:=λ{H'} s i hi=>by
  have e:xs[i]?=some (xs[i]'(by omega)):=LL _;obtain⟨w,hw,pw,x,ex,hSw,_⟩:=al0.at e;refine⟨pw,x,by rw[e,ex],?_⟩;have g:ws.getD i bG=w:=ax bG hw;unfold ba;rw[g];exact aM.same s _ _ hSw
 have nat_:∀{zs:List Nat} {i:Nat} {x:V},(aC zs)[i]?=some x->∃n,zs[i]?=some n/\x=.int (n:Nat):=λ{zs i x} h=>by
  unfold aC at h;rw[LX] at h;obtain⟨n,hn,rfl⟩:=Mn.mp h;exact⟨n,hn,Z⟩
 refine⟨_,Z,D0,Z,⟨_,h0s⟩,λD1 hD1=>bC (cT h0s) (λ_=>true) (λi=>V.int (ba ws (ls.getD i 0):Nat)) hD1 (by omega) (λi x H' hi sm hx Rk E kR _=>?_) λH1 s1 h1=>?_⟩
 ·obtain⟨n,hn,rfl⟩:=nat_ hx;obtain⟨pw,y,ex,hSw⟩:=at_ sm n (lt n (LQ hn));rw[ax 0 hn] at kR;exact⟨eU.set Z,_,Z,_,Z,p,_,_,_,Z,Z,aM.same sm _ _ hS0,aJ ex,pw,_,_,_,Z,Z,hSw,Z,kR Z _ (aB.refl _)⟩
 have e1:((range (aC ls).length).filter λ_=>true).map (λi=>V.int (ba ws (ls.getD i 0):Nat))=(ls.map λi=>((ba ws i:Nat):Int)).map V.int:=by
  rw[lv,Oa];exact cr 0 (λn=>V.int (ba ws n:Nat)) ls
 rw[e1] at h1;refine⟨D1,_,Z,aS.of h1,by rw[LO];exact pos,λM hM hle=>?_⟩;have key:∀i,i∈ls->(((ba ws i:Nat):Int)=M↔∀j∈ls,ba ws i≤ba ws j):=λi hi=>by
  constructor
  ·intro e j hj;have:=hle _ (Mc.mpr ⟨j,hj,Z⟩);omega
  ·intro h;obtain⟨j,hj,e⟩:=Mc.mp hM;have a:=h j hj;have b:=hle _ (Mc.mpr ⟨i,hi,Z⟩);omega
 have hw1:aS K H1 D0 (aC ls):=s1.seq h0s;refine⟨_,Z,D0,Z,⟨_,hw1⟩,λD2 hD2=>bC (cT hw1) (λi=>ls.all λj=>decide (ba ws (ls.getD i 0)≤ba ws j)) (λi=>V.int (ls.getD i 0:Nat)) hD2 (by omega) (λi x H' hi sm hx Rk E kR kE=>?_) λH2 s2 h2=>?_⟩
 ·obtain⟨n,hn,rfl⟩:=nat_ hx;have sm':=s1.trans sm;have mn:=LQ hn;obtain⟨pw,y,ex,hSw⟩:=at_ sm' n (lt n mn);rw[ax 0 hn] at kR kE;refine⟨eU.set Z,_,Z,_,Z,p,_,_,_,Z,Z,aM.same sm' _ _ hS0,aJ ex,pw,_,_,_,Z,Z,hSw,Z,_,Z,Z,_,Z,?_⟩;by_cases c:((ba ws n:Nat):Int)=M
  ·refine cn (by rw[c]) ⟨_,Z,kR ?_ _ (aB.refl _)⟩;rw[No];exact λj hj=>decide_eq_true ((key n mn).mp c j hj)
  ·refine bI (λz=>c (by injection z)) (kE ?_ _ (aB.refl _))
   cases q:ls.all λj=>decide (ba ws n≤ba ws j) with
   |false=>rfl
   |true=>
    rw[No] at q;exact absurd ((key n mn).mpr λj hj=>of_decide_eq_true (q j hj)) c
 have e2:((range (aC ls).length).filter λi=>ls.all λj=>decide (ba ws (ls.getD i 0)≤ba ws j)).map (λi=>V.int (ls.getD i 0:Nat))=aC (dG ws ls):=by
  rw[lv];exact dj 0 (λn=>ls.all λj=>decide (ba ws n≤ba ws j)) (λn=>V.int (n:Nat)) ls
 rw[e2] at h2;have s02:=(s0.trans s1).trans s2;have lkl:∀i∈dG ws ls,i<ws.length:=λi hi=>lt i (fM.mp hi).1
 have ll:(dG ws ls).length≤ls.length:=MP _ _;have lk:(aC (dG ws ls)).length=(dG ws ls).length:=LO _;have fne:=uY (ws:=ws) rk ne;have enx:gw ws es ls=((dG ws ls).filter λi=>!(dG ws ls).any (dh es i)).getD 0 0:=Z;have efr:iW ws es ls=(dG ws ls).filter λi=>!(dG ws ls).any (dh es i):=Z
 rw[efr] at fne;rw[enx] at k;generalize dG ws ls=lk_ at h2 lkl ll lk k fne;have hl2:aS K H2 D2 (aC lk_):=aS.of h2;let Iv1:Nat->L2.St->Hp->Prop:=λi σ H'=>∃x6:Option V,σ=[some (.ref p),some u,some (.ref a),some (.ref D2),some (.int M),x6]/\aB H2 H'/\∀j y,j<i->lk_[j]?=some y->(!lk_.any (dh es y))=false
 refine⟨_,Z,D2,Z,⟨_,hl2⟩,dW (K:=K) (a:=D2) (xs:=aC lk_) Iv1 ⟨none,Z,aB.refl _,λj y hj=>absurd hj (NW _)⟩ (λi σ H' _ ⟨_,_,sm,_⟩=>sm.seq hl2) ?_ ?_⟩
 ·rintro i x σ H3 hx ⟨x6,rfl,s3,bef⟩;obtain⟨n,hn,rfl⟩:=iz hx;have t3:=aM.same (K:=K) (s02.trans s3);refine⟨_,Z,_,Z,u,es,n,Z,ak.lv.mono t3,by omega,λla as H4 s4 h4 mas a64=>?_⟩;have hD4:aS K H4 D2 (aC lk_):=(s3.trans s4).seq hl2;have ha4:aS K H4 la (aC as):=aS.of h4;have las:(aC as).length=as.length:=LO _;refine⟨la,Z,⟨_,ha4⟩,λD5 hD5=>bC (cT ha4) (λi=>lk_.contains (as.getD i 0)) (λi=>V.int (as.getD i 0:Nat)) hD5 (by omega) (λi x H' hi sm hx Rk E kR kE=>?_) λH6 s6 h6=>?_⟩
  ·obtain⟨y,hy,rfl⟩:=iz hx;rw[ax 0 hy] at kR kE;refine⟨eU.set Z,_,Z,_,Z,D2,_,Z,.inl (sm.seq hD4),Z,gA _,_,Z,?_⟩;have eI:nh (.int (y:Nat)) (aC lk_)=lk_.contains y:=iD y _
   cases c:lk_.contains y with
   |true=>exact gZ (by show nh (.int (y:Nat)) (aC lk_)=true;rw[eI,c]) ⟨_,Z,kR c _ (aB.refl _)⟩
   |false=>exact dU (by show nh (.int (y:Nat)) (aC lk_)=false;rw[eI,c]) (kE c _ (aB.refl _))
  have e6:((range (aC as).length).filter λi=>lk_.contains (as.getD i 0)).map (λi=>V.int (as.getD i 0:Nat))=aC (as.filter λx=>lk_.contains x):=by
   rw[las];exact dj 0 (λn=>lk_.contains n) (λn=>V.int (n:Nat)) as
  rw[e6] at h6;have l6:(aC (as.filter λx=>lk_.contains x)).length=(as.filter λx=>lk_.contains x).length:=LO _;have s06:=((s02.trans s3).trans s4).trans s6;refine⟨D5,_,Z,.inl (aS.of h6),Z,_,Z,?_⟩;have iff:(as.filter λx=>lk_.contains x)=[]↔(!lk_.any (dh es n))=true:=by
   rw[filter_eq_nil_iff,OX,QD];constructor
   ·intro h b hb z;exact h b ((mas b).mpr (eS.mp z)) (M5.mpr hb)
   ·intro h b hb z;exact h b (M5.mp z) (eS.mpr ((mas b).mp hb))
  by_cases c:(as.filter λx=>lk_.contains x)=[]
  ·refine cn (by rw[l6,c];rfl) ⟨_,Z,?_⟩;have q:=k _ s06;rw[jN hn (iff.mp c) bef] at q;exact q
  ·refine bI (λz=>?_) ⟨_,Z,(s3.trans s4).trans s6,λj y hj hy=>?_⟩
   ·injection z with z;have z':(aC (as.filter λx=>lk_.contains x)).length=0:=Int.ofNat.inj z;rw[l6] at z';exact c (Pj.mp z')
   ·by_cases z:j<i
    ·exact bef j y z hy
    ·have e:j=i:=by omega
     subst e;rw[hn] at hy
     cases hy
     cases cc:!lk_.any (dh es n) with
     |false=>rfl
     |true=>exact absurd (iff.mpr cc) c
 ·rintro σ H3 ⟨x6,rfl,s3,bef⟩;rw[lk] at bef;refine absurd (List.filter_eq_nil_iff.mpr λy hy z=>?_) fne;obtain⟨j,hj,e⟩:=MM.mp hy;have:=bef j y hj (by rw[LL hj,e]);rw[this] at z;exact L5 z
theorem Fi(T:eg K mg t):bD P w K mg base dF 3 t.a_Q22 t.d_Q22 ["_law_works_here","_law_leans_here","_law_speeds_here"] (pA K):=by
 refine T.F_Q22.ok fh (λvs H Q E h=>?_) (λcdv A outer s H vs Q E hr h=>?_)
 ·obtain⟨_,_,_,_,_,_,_,rfl,_⟩:=h;rfl
 obtain⟨v,u,q,qs,ws,es,ss,rfl,ak,hq,alq,l24,oks,k⟩:=h;refine dI.ok (af (b8 3 fh.nd (bM ag)) (af (fK L9 (aD mz (ap aA (by rfl) T.z_len MH (ad (qv 3) ag ae)) (ap aA (by rfl) T.z_len MH (ad (qv 0) ag ae)) (aL _)) (ao (cK (fw MK PySem.F.slot_list_append PySem.F.type_list_append bV (qv 3) (ad (df (E8 T) hr T.m_Q36 T.F_Q36.kp T.b_Q36 (ad (qv 0) (ad (qv 1) (ad (qv 3) ag ae) ae) ae)) ag aF))))) (af (b8 4 fh.nd (bn (N':=["_law_work"]) (src:=[none]) Z (by exact(cW (qv 0))) (λ_ _ _ _ _=>(by exact(by exact au (i:=0) (by show Mg (["_law_work"]:List Mj);decide +kernel) (by exact Z) (by first|exact L8 Z|exact L7 Z)))) (λ_ _ _ _ _=>bZ) (λ_ _ _ _ _=>(by exact(by exact(aZ (aU (K:=K) (by exact Z)) (by exact(qv 0)) ai (by exact λ_ _=>Z))))) (by exact trivial) Z (by decide +kernel) Z (by decide +kernel) (by exact aQ Z trivial))) (af (b8 5 fh.nd (bM ag)) (af (bS L9 Z (bU Z T.z_range (ad ai ag aH)) (au (i:=6) fh.nd Z (by first|exact L8 Z|exact L7 Z)) (af (b8 7 fh.nd (bW bt (qv 2) (qv 6))) (af (b8 8 fh.nd (bM ag)) (af (bS L9 Z (bQ (qv 3)) (au (i:=9) fh.nd Z (by first|exact L8 Z|exact L7 Z)) (af (h9 (b8 10 fh.nd (rh gY gY (bW az (bW az (qv 0) (qv 9)) ai) (qv 6) (bW az (bW az (qv 0) (qv 9)) ai)))) (af (h9 (b8 11 fh.nd (mj (cu (df (z8 T) hr T.m_Q34 T.F_Q34.kp T.b_Q34 (ad (bW bt (qv 4) (qv 9)) (ad (qv 7) ag ae) aI))) (bW bt (qv 4) (qv 9)) (qv 7)))) (ao (bA (eY (gO (cu (qv 10)) (gN (aD (ic hr) (qv 11) (bB (ad ai (ad ai ag aH) aH)) (aL _))))) (af (cK (fw MK PySem.F.slot_list_append PySem.F.type_list_append bV (qv 8) (ad (bB (ad (qv 9) (ad (qv 11) ag ae) ae)) ag cC))) (af (em (df (mC T) hr T.m_Q38 T.F_Q38.kp T.b_Q38 (ad (bW bt (qv 4) (qv 9)) (ad (bB (ad (iQ f7 (bW az (qv 11) ai)) (ad (bW az (qv 11) ai) ag aI) k4)) ag cC) aI)) (gQ (qv 4) (qv 9) eh)) (ao (b8 7 fh.nd (df (mC T) hr T.m_Q38 T.F_Q38.kp T.b_Q38 (ad (qv 7) (ad (bB (ad (iQ f7 (bW az (qv 11) ai)) (ad (bW az (qv 11) ai) ag aI) k4)) ag cC) ae)))))) aP))))) (ao (cK (fw MK PySem.F.slot_list_append PySem.F.type_list_append bV (qv 5) (ad (bJ br (by rfl) T.z_tuple MR (ad (qv 8) ag ae)) ag aF)))))))) (af (dY (i:=12) (N':=["_law_number","_law_rest"]) (src:=[none,some 4]) fh.nd Z (by first|exact L8 Z|exact L7 Z) Z (by exact(bU Z T.z_range (ad (ap aA (by rfl) T.z_len MH (ad (qv 0) ag ae)) ag aF))) (λ_ _ _ _ _=>(by exact(by exact au (i:=0) (by show Mg (["_law_number","_law_rest"]:List Mj);decide +kernel) (by exact Z) (by first|exact L8 Z|exact L7 Z)))) (λ_ _ _ _ _=>(cE (aD (B9 (K:=K) (by exact Z) hr) (by exact(aZ (cf (K:=K) (by exact Z)) (by exact(qv 1)) (by exact(qv 0)) (by exact λ_ _=>Z))) (by exact(bB (ad ai (ad ai ag aH) aH))) (aL _)))) (λ_ _ _ _ _=>(by exact(by exact(qv 0)))) (by exact⟨Z,Z,Z,Z,trivial⟩) Z (by decide +kernel) Z (by decide +kernel) (by exact aQ Z ⟨Z,trivial⟩)) (ao (aG (mj (aD fV (ap aA (by rfl) T.z_len MH (ad (qv 12) ag ae)) ai (aL _)) (bW bt (qv 12) ai) (bJ br (by rfl) T.z_tuple MR (ad (qv 5) ag ae))))))))))) ?_
 nofun
 obtain⟨p,xs,rfl,hS,al⟩:=id ak.wv;have w8:=ak.w8;have lx:xs.length=ws.length:=al.len;refine⟨(by show 0≤sizeLine;exact Mx _),λo ho0=>?_⟩;have s1:=aj ho0 (.lst []);have ho1:upd H o (.lst []) o=some (.lst []):=ah;generalize upd H o (.lst [])=H1 at s1 ho1 ⊢;have sko:∀H',bz o H1 H'->aB H H':=λH' S b o' e=>S.keep b o' (λz=>by subst z;rw[ho0] at e;cases e) (s1 _ _ e)
 let Iv1:Nat->L2.St->Hp->Prop:=λm σ H'=>∃i:Nat,σ=[some (.ref p),some u,some (.ref q),some (.ref o),none,none,none,none,none,none,none,none,none]/\bz o H1 H'/\H' o=some (.lst (aC (aO ws es i)))/\i≤ws.length/\m=ws.length-i
 refine⟨Iv1,⟨_,0,Z,bz.refl ⟨_,ho1⟩,ho1,Mx _,Z⟩,?_⟩;rintro m σ H2 ⟨i,rfl,S2,ho2,hi,rfl⟩;have oi:=dz (es:=es) ak.rk i hi;have s2:=sko H2 S2;have t2:=aM.same (K:=K) s2;have lo:(aC (aO ws es i)).length=i:=by unfold aC;rw[LO,oi.len]
 refine⟨_,Z,o,_,Z,.inl (aS.of ho2),_,Z,p,_,Z,.inr (t2 _ _ hS),_,_,Z,Z,_,Z,?_⟩;by_cases c:i<ws.length
 ·refine cn (by omega) ⟨_,λ_ _ z=>z,?_⟩;obtain⟨oi1,j,hj,ej⟩:=oi.step ak.rk c;refine⟨_,Z,.inl ⟨Z,_,aS.of ho2⟩,_,Z,_,Z,_,Z,.ref p,u,o,ws,es,aO ws es i,Z,ak.mono t2,aS.of ho2,oi.ne c,λH3 s3=>?_⟩;have ho3:=s3 _ _ ho2;refine⟨o,_,_,Z,Z,ho3,be (by rw[lo];omega),?_⟩;refine⟨_,(by omega),i+1,Z,(S2.trans (bz.same s3 ⟨_,ho2⟩)).trans (bz.up ho3),?_,c,Z⟩;rw[ah];show some (HO.lst (aC (aO ws es i)++[_]))=some (HO.lst (aC (aO ws es i++[_])));unfold aC;rw[Ni];rfl
 refine bI (by omega) ?_;have e:i=ws.length:=by omega
 subst e;have hS2:=t2 _ _ hS;have oN:=ho2;refine⟨_,Z,p,Z,⟨_,hS2⟩,λlf hlf0=>dk (K:=K) (P:=RV K) (ds:=ws) (f:=λw=>w.2.2) (λ_ _ _ _ t z=>z.mono t) hlf0 hS2 lx (by omega) (λi x d H' hx hd sm Rk E kR=>?_) λH2' ys s2' hlf al2=>?_⟩
 ·obtain⟨d',hd',pw,xa,rfl,hSw,rx⟩:=al.at hx;rw[hd] at hd'
  cases hd'
  have t':=aM.same (K:=K) (s2.trans sm);exact⟨eU.set Z,_,Z,pw,_,_,_,Z,Z,t' _ _ hSw,Z,kR _ _ (aB.refl _) (rx.mono t')⟩
 have ho2':=s2' _ _ ho2;have nol:o≠lf:=λz=>by subst z;rw[ho2] at hlf0;cases hlf0
 have lfN:H lf=none:=by
  cases e:H lf with
  |none=>rfl
  |some o'=>rw[s2 _ _ e] at hlf0;cases hlf0
 refine⟨(by show 0≤sizeLine;exact Mx _),λpl hpl=>?_⟩;have s3:=aj hpl (.lst []);have hp3:upd H2' pl (.lst []) pl=some (.lst []):=ah;have npf:pl≠lf:=λz=>by subst z;rw[hlf] at hpl;cases hpl
 have npo:pl≠o:=λz=>by subst z;rw[ho2'] at hpl;cases hpl
 have hl3:=s3 _ _ hlf;have ho3:=s3 _ _ ho2';have al3:=al2.mono λ_ _ z=>z.mono (aM.same s3)
 have s03:=(s2.trans s2').trans s3;have plN:H pl=none:=by
  cases e:H pl with
  |none=>rfl
  |some o'=>rw[s2' _ _ (s2 _ _ e)] at hpl;cases hpl
 generalize upd H2' pl (.lst [])=H3 at s03 hp3 hl3 ho3 al3 ⊢;have t03:=aM.same (K:=K) s03;have olt:=oi.lt;have olen:=oi.len;have pk:=eD (ord:=aO ws es ws.length) ak.ok olt oks;have l12:∀r∈[pl,lf],∃xs,H3 r=some (.lst xs):=λr m=>by
  rcases LZ.mp m with z|z
  ·exact⟨_,by rw[z];exact hp3⟩
  ·exact⟨_,by rw[LP.mp z];exact hl3⟩
 have onot:o∉[pl,lf]:=λm=>by
  rcases LZ.mp m with z|z
  ·exact npo z.symm
  ·exact nol (LP.mp z)
 have sk:∀H',Kp [pl,lf] H3 H'->aB H H':=λH' kp b o' e=>kp.keep b o' (λm=>by
  rcases LZ.mp m with z|z
  ·rw[z,plN] at e;cases e
  ·rw[LP.mp z,lfN] at e;cases e) (s03 _ _ e)
 have ed:dH ws es ss=aT ws (aO ws es ws.length) ss 24:=Z;clear ho2 ho2' oN lo oi ho1 S2;generalize aO ws es ws.length=od at ho3 pk olt olen ed;have o8:od.length≤8:=by omega
 let Iv2:Nat->L2.St->Hp->Prop:=λi σ H'=>∃(zs ys:List V) (x7 x8 x9 x10 x11 x12:Option V),σ=[some (.ref p),some u,some (.ref q),some (.ref o),some (.ref lf),some (.ref pl),x7,x8,x9,x10,x11,x12,none]/\Kp [pl,lf] H3 H'/\H' lf=some (.lst zs)/\cO (RV K H') zs (aT ws od ss i).1/\H' pl=some (.lst ys)/\cO (AZ K H') ys (aT ws od ss i).2
 refine⟨24,Z,by decide,by decide,cP (lo:=0) (n:=24) Iv2 ⟨_,[],none,none,none,none,none,none,Z,Kp.same (aB.refl _) l12,hl3,al3,hp3,.nil⟩ ?_ ?_⟩
 ·rintro tt σ H4 hi ⟨xs4,ys4,x7,x8,x9,x10,x11,x12,rfl,kp,hl4,alz4,hp4,aly4⟩;rw[Int.zero_add];obtain⟨po,pl_⟩:=pk tt;have t4:=t03.trans (aM.kp kp);obtain⟨sv,hsv⟩:∃sv,qs[tt]?=some sv:=⟨_,LL (by rw[alq.len,l24];exact hi)⟩;obtain⟨sp,hsp,rsp⟩:=alq.at hsv;have esp:ss.getD tt (0,1)=sp:=ax (0,1) hsp;have asp:fD sp:=oks _ (LQ hsp);refine⟨_,Z,_,Z,q,_,_,_,Z,Z,aS.of (sk H4 kp _ _ hq),aJ hsv,?_⟩;refine⟨(by show 0≤sizeLine;exact Mx _),λdl hdl=>?_⟩;have s5:=aj hdl (.lst []);have hd5:upd H4 dl (.lst []) dl=some (.lst []):=ah;have ndf:dl≠lf:=λz=>by subst z;rw[hl4] at hdl;cases hdl
  have ho4:=kp.keep _ _ onot ho3;have ndo:dl≠o:=λz=>by subst z;rw[ho4] at hdl;cases hdl
  have ndp:dl≠pl:=λz=>by subst z;rw[hp4] at hdl;cases hdl
  have hl5:=s5 _ _ hl4;have ho5:=s5 _ _ ho4;have hp5:=s5 _ _ hp4;generalize upd H4 dl (.lst [])=H5 at s5 hd5 hl5 ho5 hp5 ⊢;have l12':∀r∈[dl,lf],∃xs,H5 r=some (.lst xs):=λr m=>by
   rcases LZ.mp m with z|z
   ·exact⟨_,by rw[z];exact hd5⟩
   ·exact⟨_,by rw[LP.mp z];exact hl5⟩
  have t45:=aM.same (K:=K) s5;have t05:=t4.trans t45;have onot':o∉[dl,lf]:=λm=>by
   rcases LZ.mp m with z|z
   ·exact ndo z.symm
   ·exact nol (LP.mp z)
  have pnot':pl∉[dl,lf]:=λm=>by
   rcases LZ.mp m with z|z
   ·exact ndp z.symm
   ·exact npf (LP.mp z)
  have md:dl∈[dl,lf]:=LY;have ml:lf∈[dl,lf]:=L3 _ LY;let Iv3:Nat->L2.St->Hp->Prop:=λi σ H'=>∃(rv:V) (zs ys:List V) (st:vo) (x10 x11 x12:Option V),σ=[some (.ref p),some u,some (.ref q),some (.ref o),some (.ref lf),some (.ref pl),some (.int (tt:Nat)),some rv,some (.ref dl),x10,x11,x12,none]/\st=(od.take i).foldl (bY ws tt) ((aT ws od ss tt).1,sp,[])/\Kp [dl,lf] H5 H'/\H' lf=some (.lst zs)/\cO (RV K H') zs st.1/\RV K H' rv st.2.1/\H' dl=some (.lst ys)/\cO (A2 K H') ys st.2.2/\sq ws.length st/\st.2.2.length≤i
  refine⟨_,Z,o,Z,⟨_,aS.of ho5⟩,dW (K:=K) (a:=o) (xs:=aC od) Iv3 ⟨sv,xs4,[],_,x10,x11,x12,Z,Z,Kp.same (aB.refl _) l12',hl5,alz4.mono λ_ _ z=>z.mono t45,rsp.mono t05,hd5,.nil,⟨po.len,po.lf,asp,λp hp=>by cases hp⟩,LN _⟩ (λi σ H' _ ⟨_,_,_,_,_,_,_,_,_,kp,_⟩=>aS.of (kp.keep _ _ onot' ho5)) ?_ ?_⟩
  ·rintro i x σ H3_ hx ⟨rv,zs,ys,st,x10,x11,x12,rfl,est,kp',hl3_,alz,hrv,hd3,aly,dok,few⟩;obtain⟨n,hn,rfl⟩:=iz hx;have nl:=olt n (LQ hn);have i8:i<od.length:=(LR.mp hn).1;have t3:=t05.trans (aM.kp kp');have es_:(od.take (i+1)).foldl (bY ws tt) ((aT ws od ss tt).1,sp,[])=bY ws tt st n:=by rw[MN,hn,Oi,est];rfl
   obtain⟨wv,hwv⟩:∃wv,xs[n]?=some wv:=⟨_,LL (by rw[al.len];exact nl)⟩;obtain⟨w,hw,pw,xa,rfl,hSw,_⟩:=al.at hwv;have ew:ws.getD n bG=w:=ax bG hw;obtain⟨zv,hzv⟩:∃zv,zs[n]?=some zv:=⟨_,LL (by rw[alz.len,dok.len];exact nl)⟩;obtain⟨r,hr_,hrz⟩:=alz.at hzv;have er:st.1.getD n (0,1)=r:=ax (0,1) hr_;have ar:fD r:=dok.lf r (LQ hr_);obtain⟨dk1,fw1⟩:=dok.step (ws:=ws) (t:=tt) nl;refine⟨λσ' H'=>H3_=H'/\σ'=[some (.ref p),some u,some (.ref q),some (.ref o),some (.ref lf),some (.ref pl),some (.int (tt:Nat)),some rv,some (.ref dl),some (.int (n:Nat)),some (.bl (fu w tt)),x12,none],?_,?_⟩
   ·refine⟨_,Z,_,Z,p,_,_,_,Z,Z,t3 _ _ hS,aJ hwv,pw,_,_,_,Z,Z,t3 _ _ hSw,Z,_,Z,_,_,Z,Z,_,Z,?_⟩;by_cases c:w.1≤tt
    ·refine cn (by omega) ?_;refine⟨_,Z,_,Z,p,_,_,_,Z,Z,t3 _ _ hS,aJ hwv,pw,_,_,_,Z,Z,t3 _ _ hSw,Z,_,_,Z,Z,Z,?_⟩;have eW:decide ((tt:Int)≤(w.2.1:Int))=fu w tt:=by
      unfold fu;rw[decide_eq_true c,RH];exact decide_eq_decide.mpr ofNat_le
     rw[←eW];rfl
    ·refine bI (by omega) ⟨Z,?_⟩;have eW:fu w tt=false:=by unfold fu;rw[decide_eq_false c,NY]
     rw[eW];rfl
   rintro σ' H' ⟨rfl,rfl⟩;refine⟨λσ' H'=>H3_=H'/\∃a:V,RV K H3_ a (eJ r st.2.1)/\σ'=[some (.ref p),some u,some (.ref q),some (.ref o),some (.ref lf),some (.ref pl),some (.int (tt:Nat)),some rv,some (.ref dl),some (.int (n:Nat)),some (.bl (fu w tt)),some a,none],?_,?_⟩
   ·have el:=Cj ar dok.rm;refine⟨_,Z,_,Z,lf,_,_,_,Z,Z,aS.of hl3_,aJ hzv,_,Z,_,rv,r,st.2.1,50,50,Z,hrz,hrv,ar.wf,dok.rm.wf,by decide,_,Z,?_⟩
    cases cl:cX r st.2.1 with
    |true=>
     rw[cl,if_pos Z] at el;refine d0 ⟨_,Z,_,Z,lf,_,_,_,Z,Z,aS.of hl3_,aJ hzv,Z,_,by rw[←el];exact hrz,Z⟩
    |false=>
     rw[cl,if_neg L5] at el;refine cJ ⟨_,Z,Z,_,by rw[←el];exact hrv,Z⟩
   rintro σ' H' ⟨rfl,a,ha,rfl⟩;have aa:=mM ar dok.rm;generalize ea:eJ r st.2.1=am at ha aa;have rej:bY ws tt st n=st->∀(H':Hp),aB H3_ H'->∃(rv':V) (zs ys:List V) (st:vo) (x10' x11' x12':Option V),[some (.ref p),some u,some (.ref q),some (.ref o),some (.ref lf),some (.ref pl),some (.int (tt:Nat)),some rv,some (.ref dl),some (.int (n:Nat)),some (.bl (fu w tt)),some a,none]=[some (.ref p),some u,some (.ref q),some (.ref o),some (.ref lf),some (.ref pl),some (.int (tt:Nat)),some rv',some (.ref dl),x10',x11',x12',none]/\st=(od.take (i+1)).foldl (bY ws tt) ((aT ws od ss tt).1,sp,[])/\Kp [dl,lf] H5 H'/\H' lf=some (.lst zs)/\cO (RV K H') zs st.1/\RV K H' rv' st.2.1/\H' dl=some (.lst ys)/\cO (A2 K H') ys st.2.2/\sq ws.length st/\st.2.2.length≤i+1:=λe0 H' s'=>by
    have t':=aM.same (K:=K) s';exact⟨rv,zs,ys,st,_,_,_,Z,(es_.trans e0).symm,kp'.trans (Kp.same s' kp'.ls'),s' _ _ hl3_,alz.mono λ_ _ z=>z.mono t',hrv.mono t',s' _ _ hd3,aly.mono λ_ _ z=>z.mono t',dok,by omega⟩
   refine⟨_,Z,_,Z,?_⟩
   cases c:fu w tt with
   |false=>
    refine cJ (cJ ?_);rw[←c];refine rej ?_ _ (aB.refl _);unfold bY;rw[if_neg];rintro⟨z,_⟩;rw[ew,c] at z
    cases z
   |true=>
    refine d0 ⟨_,Z,iY,λpz hz=>?_⟩;have sz:=aj hz (.tup [.int 0,.int 1]);have rz:RV K (upd H3_ pz (.tup [.int 0,.int 1])) (.ref pz) (0,1):=RV.of ah;have rejz:=λe0=>rej e0 _ sz
    generalize upd H3_ pz (.tup [.int 0,.int 1])=Hz at sz rz rejz ⊢;have tz:=aM.same (K:=K) sz;have kpz:=kp'.trans (Kp.same sz kp'.ls');refine⟨dR am,dR (0,1),(ha.mono tz).deep,rz.deep,Z,Z,jO _,_,Z,?_⟩;rw[lh];by_cases cz:am=(0,1)
    ·refine dU (b:=!decide (am=(0,1))) (by rw[decide_eq_true cz];rfl) ?_;rw[←c];refine rejz ?_;unfold bY;rw[if_neg];rintro⟨_,z⟩;rw[er,ea] at z;exact z cz
    ·refine gZ (b:=!decide (am=(0,1))) (by rw[decide_eq_false cz];rfl) ?_;have e1:bY ws tt st n=(st.1.set n (cI r am),cI st.2.1 am,st.2.2++[(n,am)]):=by
      unfold bY;rw[if_pos ⟨by rw[ew];exact c,by rw[er,ea];exact cz⟩,er,ea]
     have hdz:=sz _ _ hd3;have hlz:=sz _ _ hl3_;refine⟨_,Z,.inl ⟨Z,_,aS.of hdz⟩,_,Z,_,Z,iY,λpn hpn=>?_⟩;have s4:=aj hpn (.tup [.int (n:Nat),a]);have hp4_:upd Hz pn (.tup [.int (n:Nat),a]) pn=some (.tup [.int (n:Nat),a]):=ah;generalize upd Hz pn (.tup [.int (n:Nat),a])=H4_ at s4 hp4_ ⊢;have hd4:=s4 _ _ hdz;have kp4:=kpz.trans (Kp.same s4 kpz.ls');refine⟨dl,ys,_,Z,Z,hd4,be (by rw[aly.len];omega),?_⟩;have kp5:=Kp.up md kp4.ls' (ys++[.ref pn]);have hd5_:upd H4_ dl (.lst (ys++[.ref pn])) dl=some (.lst (ys++[.ref pn])):=ah;have hl5_:upd H4_ dl (.lst (ys++[.ref pn])) lf=some (.lst zs):=by rw[aE (NO ndf)];exact s4 _ _ hlz
     generalize upd H4_ dl (.lst (ys++[.ref pn]))=H5_ at kp5 hd5_ hl5_ ⊢;have t35:=(tz.trans (aM.same (K:=K) s4)).trans (aM.kp kp5);have kq5:=kp4.trans kp5;obtain⟨pp,rfl,hpp⟩:=ha;have hpp5:=t35 _ _ hpp;have wneg:Wf 50 (-am.1,am.2):=⟨aa.wf.pos,by show(-am.1).natAbs<_;rw[Tk];exact aa.wf.top,aa.wf.bot,rQ aa.wf.cop⟩;refine⟨_,Z,_,Z,lf,_,_,_,Z,Z,aS.of hl5_,aJ hzv,_,Z,pp,_,_,_,Z,Z,hpp5,Z,_,Z,_,Z,pp,_,_,_,Z,Z,hpp5,Z,iY,λpt ht=>?_⟩;have sa:=aj ht (.tup [.int (-am.1),.int am.2]);refine⟨_,.ref pt,r,(-am.1,am.2),50,50,Z,(hrz.mono t35).mono (aM.same sa),RV.of ah,ar.wf,wneg,by decide,λpm hpm=>?_⟩;have sb:=aj hpm (.tup [.int (bo r (-am.1,am.2)).1,.int (bo r (-am.1,am.2)).2]);have hmv:RV K (upd (upd H5_ pt (.tup [.int (-am.1),.int am.2])) pm (.tup [.int (bo r (-am.1,am.2)).1,.int (bo r (-am.1,am.2)).2])) (.ref pm) (cI r am):=by rw[←jE];exact RV.of ah
     have s6:=sa.trans sb;generalize upd (upd H5_ pt (.tup [.int (-am.1),.int am.2])) pm (.tup [.int (bo r (-am.1,am.2)).1,.int (bo r (-am.1,am.2)).2])=H6 at s6 hmv ⊢;have hl6:=s6 _ _ hl5_;have hd6:=s6 _ _ hd5_;have kq6:=kq5.trans (Kp.same s6 kq5.ls');have t36:=t35.trans (aM.same s6);refine⟨_,Z,_,Z,lf,zs,_,n,Z,Z,hl6,iC (by rw[alz.len,dok.len];exact nl),?_⟩;have kp7:=Kp.up ml kq6.ls' (zs.set n (.ref pm));have hl7:upd H6 lf (.lst (zs.set n (.ref pm))) lf=some (.lst (zs.set n (.ref pm))):=ah;have hd7:upd H6 lf (.lst (zs.set n (.ref pm))) dl=some (.lst (ys++[.ref pn])):=by rw[aE ndf];exact hd6
     generalize upd H6 lf (.lst (zs.set n (.ref pm)))=H7 at kp7 hl7 hd7 ⊢;have t67:=aM.kp (K:=K) kp7;have t37:=t36.trans t67;have kq7:=kq6.trans kp7;have hpp7:=t37 _ _ hpp;refine⟨_,Z,_,Z,pp,_,_,_,Z,Z,hpp7,Z,_,Z,_,Z,pp,_,_,_,Z,Z,hpp7,Z,iY,λpt2 ht2=>?_⟩;have sc:=aj ht2 (.tup [.int (-am.1),.int am.2]);refine⟨rv,.ref pt2,st.2.1,(-am.1,am.2),50,50,Z,(hrv.mono t37).mono (aM.same sc),RV.of ah,dok.rm.wf,wneg,by decide,λpm2 hpm2=>?_⟩;have sd:=aj hpm2 (.tup [.int (bo st.2.1 (-am.1,am.2)).1,.int (bo st.2.1 (-am.1,am.2)).2]);have hrv2:RV K (upd (upd H7 pt2 (.tup [.int (-am.1),.int am.2])) pm2 (.tup [.int (bo st.2.1 (-am.1,am.2)).1,.int (bo st.2.1 (-am.1,am.2)).2])) (.ref pm2) (cI st.2.1 am):=by rw[←jE];exact RV.of ah
     have s8:=sc.trans sd;generalize upd (upd H7 pt2 (.tup [.int (-am.1),.int am.2])) pm2 (.tup [.int (bo st.2.1 (-am.1,am.2)).1,.int (bo st.2.1 (-am.1,am.2)).2])=H8 at s8 hrv2 ⊢;have t78:=aM.same (K:=K) s8;have t38:=t37.trans t78;have est':bY ws tt st n=(od.take (i+1)).foldl (bY ws tt) ((aT ws od ss tt).1,sp,[]):=es_.symm;rw[e1] at est' dk1 fw1;exact⟨.ref pm2,_,_,_,_,_,_,Z,est',kq7.trans (Kp.same s8 kq7.ls'),s8 _ _ hl7,cO.setI (hmv.mono (t67.trans t78)) n (alz.mono λ_ _ z=>z.mono t38),hrv2,s8 _ _ hd7,cO.snoc ⟨pn,.ref pp,Z,(((aM.kp kp5).trans (aM.same s6)).trans (t67.trans t78)) _ _ (bH.of hp4_),⟨pp,Z,t38 _ _ hpp⟩⟩ (aly.mono λ_ _ z=>z.mono t38),dk1,by omega⟩
  ·rintro σ H6 ⟨rv,zs,ys,st,x10,x11,x12,rfl,est,kp',hl6,alz,hrv,hd6,aly,dok,few⟩;rw[show(aC od).length=od.length from LO _,M4] at est;have hp6:=kp'.keep _ _ pnot' hp5;refine⟨_,Z,.inl ⟨Z,_,aS.of hp6⟩,_,Z,dl,_,Z,.inl ⟨aS.of hd6,λpt hpt=>?_⟩⟩;have s7:=aj hpt (.tup ys);have hpt7:upd H6 pt (.tup ys) pt=some (.tup ys):=ah;generalize upd H6 pt (.tup ys)=H7 at s7 hpt7 ⊢;have hp7:=s7 _ _ hp6;have t67:=aM.same (K:=K) s7;have t47:=(t45.trans (aM.kp kp')).trans t67;have e:dJ ws od tt (aT ws od ss tt).1 sp=st:=est.symm;refine⟨pl,ys4,_,Z,Z,hp7,be (by rw[aly4.len,pl_];omega),?_⟩;have kq7:Kp [pl,lf] H4 H7:=⟨λb o' nb q'=>s7 _ _ (kp'.keep b o' (λm=>by
     rcases LZ.mp m with z|z
     ·rw[z,hdl] at q';cases q'
     ·exact nb (L3 _ (by rw[LP.mp z];exact LY))) (s5 _ _ q')),kp.ls',λr m=>by
    rcases LZ.mp m with z|z
    ·exact⟨_,by rw[z];exact hp7⟩
    ·exact⟨_,by rw[LP.mp z];exact s7 _ _ hl6⟩⟩
   have kr7:=kp.trans kq7;have kp8:=Kp.up (r:=pl) LY kr7.ls' (ys4++[.ref pt]);have t78:=aM.kp (K:=K) kp8;refine⟨zs,_,_,_,_,_,_,_,Z,kr7.trans kp8,by rw[aE (NO npf)];exact s7 _ _ hl6,?_,ah,?_⟩
   ·show cO _ zs (dJ ws od tt (aT ws od ss tt).1 (ss.getD tt (0,1))).1;rw[esp,e];exact alz.mono λ_ _ z=>(z.mono t67).mono t78
   ·show cO _ _ ((aT ws od ss tt).2++[(dJ ws od tt (aT ws od ss tt).1 (ss.getD tt (0,1))).2.2]);rw[esp,e];exact cO.snoc ⟨pt,ys,Z,t78 _ _ (bH.of hpt7),aly.mono λ_ _ z=>(z.mono t67).mono t78⟩ (aly4.mono λ_ _ z=>(z.mono t47).mono t78)
 rintro σ H4 ⟨zs,ys,x7,x8,x9,x10,x11,x12,rfl,kp,hl4,alz,hp4,aly⟩;obtain⟨po,pl_⟩:=pk 24;have s04:=sk H4 kp;have t04:=aM.same (K:=K) s04;unfold El at k;rw[ed] at k;generalize aT ws od ss 24=pm at k alz aly po pl_;have lz:zs.length=ws.length:=by rw[alz.len,po.len]
 have hS4:=t04 _ _ hS;refine⟨_,Z,p,_,Z,.inr hS4,_,Z,by omega,by omega,λD hD=>bC jk (λi=>decide (pm.1.getD i (0,1)≠(0,1))) (λi=>V.int (i:Nat)) hD (by omega) (λi x H' hi sm hx Rk E kR kE=>?_) λH5 s5 h5=>?_⟩
 ·subst hx;rw[Int.zero_add];have il:i<zs.length:=by omega
  obtain⟨zv,hzv⟩:∃zv,zs[i]?=some zv:=⟨_,LL il⟩;obtain⟨r,hr_,hrz⟩:=alz.at hzv;rw[ax (0,1) hr_] at kR kE;refine⟨eU.set Z,_,Z,_,Z,lf,_,_,_,Z,Z,aS.of (sm _ _ hl4),aJ hzv,iY,λpz hz=>?_⟩;have sz:=aj hz (.tup [.int 0,.int 1]);have rz:RV K (upd H' pz (.tup [.int 0,.int 1])) (.ref pz) (0,1):=RV.of ah;refine⟨dR r,dR (0,1),((hrz.mono (aM.same sm)).mono (aM.same sz)).deep,rz.deep,Z,Z,jO _,_,Z,?_⟩;rw[lh];by_cases cz:r=(0,1)
  ·exact dU (b:=!decide (r=(0,1))) (by rw[decide_eq_true cz];rfl) (kE (decide_eq_false λz=>z cz) _ sz)
  ·exact gZ (b:=!decide (r=(0,1))) (by rw[decide_eq_false cz];rfl) ⟨_,Z,kR (decide_eq_true cz) _ sz⟩
 have lp:((xs.length:Int)).toNat=pm.1.length:=by rw[po.len];omega
 rw[lp] at h5;have el:iS pm.1=((range pm.1.length).filter λi=>decide (pm.1.getD i (0,1)≠(0,1))).head?:=by
  unfold iS;rw[head?_filter]
 generalize ((range pm.1.length).filter λi=>decide (pm.1.getD i (0,1)≠(0,1)))=lt_ at h5 el;rw[el] at k;refine⟨_,Z,D,_,Z,.inl (aS.of h5),_,_,Z,Z,_,Z,?_⟩
 cases lt_ with
 |nil=>
  refine bI (by show ¬((0:Int)<((0:Nat):Int));omega) ?_;refine⟨_,Z,pl,_,Z,.inl ⟨aS.of (s5 _ _ hp4),λpt hpt=>?_⟩⟩;have s6:=aj hpt (.tup ys);have t46:=(aM.same (K:=K) s5).trans (aM.same s6);exact k (.ref pt) _ ((s04.trans s5).trans s6) (.tup (bH.of ah) ((aly.mono λ_ _ z=>z.mono t46).deep λ_ _ z=>z.deep))
 |cons i r=>
  refine cn (by rw[LO,MS];omega) ?_;exact⟨_,Z,D,_,_,_,Z,Z,aS.of h5,aJ (j:=0) (v:=V.int (i:Nat)) Z,k _ _ (s04.trans s5) (.int _)⟩
theorem Hl(T:eg K mg t):bD P w K mg base dF 2 t.a_Q8 t.d_Q8 ["_law_sheet"] (kP K):=by
 refine T.F_Q8.ok jx (λvs H Q E h=>?_) (λcdv A outer s H vs Q E hr h=>?_)
 ·obtain⟨_,_,_,rfl,_⟩:=h;rfl
 obtain⟨v,ws,es,rfl,sa,k⟩:=h;refine dI.ok (af (em (qv 0) (ia Z (bi (au (i:=1) jx.nd Z (by first|exact L8 Z|exact L7 Z)) (bi (au (i:=2) jx.nd Z (by first|exact L8 Z|exact L7 Z)) c6)))) (af (b8 3 jx.nd (bM ag)) (af (bS L9 Z (bU Z T.z_range (ad (ap aA (by rfl) T.z_len MH (ad (qv 1) ag ae)) ag aF)) (au (i:=4) jx.nd Z (by first|exact L8 Z|exact L7 Z)) (af (b8 5 jx.nd (df (tF T) hr T.m_Q20 T.F_Q20.kp T.b_Q20 (ad (qv 2) (ad (qv 4) ag ae) ae))) (af (dY (i:=6) (N':=["_law_other","_law_number","_law_leans_here"]) (src:=[none,some 4,some 2]) jx.nd Z (by first|exact L8 Z|exact L7 Z) Z (by exact(bU Z T.z_range (ad (ap aA (by rfl) T.z_len MH (ad (qv 1) ag ae)) ag aF))) (λ_ _ _ _ _=>(by exact(by exact au (i:=0) (by show Mg (["_law_other","_law_number","_law_leans_here"]:List Mj);decide +kernel) (by exact Z) (by first|exact L8 Z|exact L7 Z)))) (λ_ _ _ _ _=>(cE (aD (mB (K:=K) (by exact Z)) (by exact(qv 1)) (by exact(fU (tF T) (by exact hr.mono (by decide)) (by exact Z) T.m_Q20 T.F_Q20.kp T.b_Q20 (by exact .nil) (by exact n9) (ad (by exact(qv 2)) (ad (by exact(qv 0)) ag ae) ae))) (by with_unfolding_all rfl)))) (λ_ _ _ _ _=>(by exact(by exact(qv 0)))) (by exact⟨Z,Z,Z,Z,⟨Z,Z,Z,Z,trivial⟩⟩) Z (by decide +kernel) Z (by decide +kernel) (by exact aQ Z ⟨Z,⟨Z,trivial⟩⟩)) (af (b8 7 jx.nd (ap (oE Z) (by rfl) T.z_max boot_max (ad (aN kj (bM (ad (aZ az (aZ az (qv 1) (qv 4) (λ_ _=>Z)) ai (λ_ _=>Z)) ag aI)) (bn (N':=["_law_other","_law_works_here"]) (src:=[none,some 1]) Z (by exact(bQ (qv 5))) (λ_ _ _ _ _=>(by exact(by exact au (i:=0) (by show Mg (["_law_other","_law_works_here"]:List Mj);decide +kernel) (by exact Z) (by first|exact L8 Z|exact L7 Z)))) (λ_ _ _ _ _=>bZ) (λ_ _ _ _ _=>(by exact(by exact(aZ (aU (K:=K) (by exact Z)) (by exact(aZ (aU (K:=K) (by exact Z)) (by exact(qv 1)) (by exact(qv 0)) (by exact λ_ _=>Z))) ai (by exact λ_ _=>Z))))) (by exact⟨Z,Z,Z,Z,trivial⟩) Z (by decide +kernel) Z (by decide +kernel) (by exact aQ Z ⟨Z,trivial⟩))) ag bx))) (af (b8 8 jx.nd (ap (iG Z) (by rfl) T.z_min Tq (ad (aN kj (bM (ad (aZ az (aZ az (qv 1) (qv 4) (λ_ _=>Z)) ai (λ_ _=>Z)) ag aI)) (bn (N':=["_law_other","_law_works_here"]) (src:=[none,some 1]) Z (by exact(bQ (qv 6))) (λ_ _ _ _ _=>(by exact(by exact au (i:=0) (by show Mg (["_law_other","_law_works_here"]:List Mj);decide +kernel) (by exact Z) (by first|exact L8 Z|exact L7 Z)))) (λ_ _ _ _ _=>bZ) (λ_ _ _ _ _=>(by exact(by exact(aZ (aU (K:=K) (by exact Z)) (by exact(aZ (aU (K:=K) (by exact Z)) (by exact(qv 1)) (by exact(qv 0)) (by exact λ_ _=>Z))) ai (by exact λ_ _=>Z))))) (by exact⟨Z,Z,Z,Z,trivial⟩) Z (by decide +kernel) Z (by decide +kernel) (by exact aQ Z ⟨Z,trivial⟩))) ag bx))) (af (bA (aD fV (qv 7) (qv 8) (aL _)) (ao (aG (qv 4))) aP) (ao (cK (fw MK PySem.F.slot_list_append PySem.F.type_list_append bV (qv 3) (ad (bB (ad (qv 7) (ad (qv 8) (ad (bW az (bW az (qv 1) (qv 4)) ai) ag aI) ae) ae)) ag cC)))))))))) (ao (aG (bJ br (by rfl) T.z_tuple MR (ad (qv 3) ag ae))))))) ?_
 nofun
 obtain⟨ps,a,b,rfl,hS,wv,lv⟩:=id sa.sv;obtain⟨p,xs,rfl,hp,al⟩:=id wv;have lx:=al.len;have w8:=sa.w8;have e8:=sa.e8;obtain⟨f,l_,win⟩:=g6.ex ws es;have at_:∀{H':Hp},aB H H'->∀i,i<ws.length->∃pw x,xs[i]?=some (.ref pw)/\bH K H' pw [.int ((ws.getD i bG).1:Nat),.int ((ws.getD i bG).2.1:Nat),x]/\RV K H' x (ws.getD i bG).2.2:=λ{H'} s i hi=>by
  have e:xs[i]?=some (xs[i]'(by omega)):=LL _;obtain⟨w,hw,pw,x,ex,hSw,rx⟩:=al.at e;refine⟨pw,x,by rw[e,ex],?_⟩;rw[show ws.getD i bG=w from ax bG hw];exact⟨aM.same s _ _ hSw,rx.mono (aM.same s)⟩
 refine⟨_,Z,ps,_,Z,hS,Z,_,_,Z,_,_,Z,Z,?_⟩;refine⟨(by show 0≤sizeLine;exact Mx _),λdl hdl=>?_⟩;have s2:=aj hdl (.lst []);have hd2:upd H dl (.lst []) dl=some (.lst []):=ah;generalize upd H dl (.lst [])=H2 at s2 hd2 ⊢;have t02:=aM.same (K:=K) s2;have sst:∀H',bz dl H2 H'->aB H H':=λH' S b' o e=>S.keep b' o (λz=>by subst z;rw[hdl] at e;cases e) (s2 _ _ e)
 let Iv1:Nat->L2.St->Hp->Prop:=λi σ H'=>∃(ys:List V) (x5 x6 x7 x8 x9:Option V),σ=[some (.ref ps),some (.ref p),some b,some (.ref dl),x5,x6,x7,x8,x9]/\bz dl H2 H'/\H' dl=some (.lst ys)/\ys.length=i/\bu K H' ys ((range i).map (qh ws f l_))/\∀j,j<i->f j≤l_ j
 refine⟨_,Z,p,_,Z,.inr (t02 _ _ hp),_,Z,by omega,by omega,cP (lo:=0) (n:=(xs.length:Int).toNat) Iv1 ⟨[],none,none,none,none,none,Z,bz.refl ⟨_,hd2⟩,hd2,Z,.nil,λj hj=>absurd hj (NW _)⟩ ?_ ?_⟩
 ·rintro i σ H3 hi ⟨ys,x5,x6,x7,x8,x9,rfl,S3,hd3,hys,dp,le⟩;rw[Int.zero_add];have il:i<ws.length:=by omega
  have s03:=sst _ S3;have lv3:=lv.mono (aM.same s03);refine⟨_,Z,_,Z,b,es,i,Z,lv3,by omega,λla as H4 s4 h4 mas a64=>?_⟩;have s04:=s03.trans s4;have r4:aB H3 H4:=s4;have t04:=aM.same (K:=K) s04;have las:(aC as).length=as.length:=LO _;refine⟨_,Z,p,_,Z,.inr (t04 _ _ hp),_,Z,by omega,by omega,λD1 hD1=>bC jk (λj=>dh es j i) (λj=>V.int (j:Nat)) hD1 (by omega) (λj x H' hj sm hx Rk E kR kE=>?_) λH5 s5 h5=>?_⟩
  ·subst hx;rw[Int.zero_add];have jl:j<ws.length:=by omega
   refine⟨eU.set Z,_,Z,_,Z,_,Z,b,es,j,Z,(lv.mono t04).mono (aM.same sm),by omega,λlb bs H6 s6 h6 mbs b64=>?_⟩;refine⟨lb,_,Z,.inl (aS.of h6),Z,gA _,_,Z,?_⟩;have eI:nh (.int (i:Nat)) (aC bs)=bs.contains i:=iD i _;have iff:bs.contains i=dh es j i:=by
    rw[M6,M5,eS];exact mbs i
   cases c:dh es j i with
   |true=>exact gZ (by show nh (.int (i:Nat)) (aC bs)=true;rw[eI,iff,c]) ⟨_,Z,kR c _ s6⟩
   |false=>exact dU (by show nh (.int (i:Nat)) (aC bs)=false;rw[eI,iff,c]) (kE c _ s6)
  rw[show((xs.length:Int)).toNat=ws.length by omega] at h5;have s05:=s04.trans s5;have r5:=r4.trans s5;have h45:=s5 _ _ h4;obtain⟨pw,am,ex,hSw,ram⟩:=at_ s05 i il;refine⟨_,Z,_,Z,p,_,_,_,Z,Z,aM.same s05 _ _ hp,aJ ex,pw,_,_,_,Z,Z,hSw,Z,A5,λq1 hq1=>?_⟩;have s6:=aj hq1 (.lst [.int ((ws.getD i bG).1:Nat)]);have hq1':upd H5 q1 (.lst [.int ((ws.getD i bG).1:Nat)]) q1=some (.lst [.int ((ws.getD i bG).1:Nat)]):=ah;have h46:=s6 _ _ h45;have h56:=s6 _ _ h5;have s06:=s05.trans s6;have r6:=r5.trans s6;generalize upd H5 q1 (.lst [.int ((ws.getD i bG).1:Nat)])=H6 at s6 hq1' h46 h56 s06 r6 ⊢;have h46s:aS K H6 la (aC as):=aS.of h46;refine⟨_,Z,la,Z,⟨_,h46s⟩,λD2 hD2=>bC (cT h46s) (λ_=>true) (λj=>V.int ((ws.getD (as.getD j 0) bG).1:Nat)) hD2 (by omega) (λj x H' hj sm hx Rk E kR _=>?_) λH7 s7 h7=>?_⟩
  ·obtain⟨m,hm,rfl⟩:=iz hx;have ml:m<ws.length:=(fS.lt sa.eok ((mas m).mp (LQ hm))).1;obtain⟨pm,y,ey,hSm,_⟩:=at_ (s06.trans sm) m ml;rw[ax 0 hm] at kR;exact⟨eU.set Z,_,Z,_,Z,p,_,_,_,Z,Z,aM.same (s06.trans sm) _ _ hp,aJ ey,pm,_,_,_,Z,Z,hSm,Z,kR Z _ (aB.refl _)⟩
  have e7:((range (aC as).length).filter λ_=>true).map (λj=>V.int ((ws.getD (as.getD j 0) bG).1:Nat))=(as.map λj=>((ws.getD j bG).1:Int)).map V.int:=by
   rw[las,Oa];exact cr 0 (λn=>V.int ((ws.getD n bG).1:Nat)) as
  rw[e7] at h7;have l7:((as.map λj=>((ws.getD j bG).1:Int)).map V.int).length=as.length:=by rw[LO,LO]
  refine⟨q1,D2,_,_,Z,Z,s7 _ _ hq1',h7,NH (be (by rw[l7];show 1+_≤1000;omega)),λq2 hq2=>?_⟩;have e8_:[V.int ((ws.getD i bG).1:Nat)]++(as.map λj=>((ws.getD j bG).1:Int)).map V.int=(((ws.getD i bG).1:Int)::as.map λj=>((ws.getD j bG).1:Int)).map V.int:=Z;have s8:=aj hq2 (.lst ([V.int ((ws.getD i bG).1:Nat)]++(as.map λj=>((ws.getD j bG).1:Int)).map V.int));refine⟨q2,_,Z,aS.of (by rw[←e8_];exact ah),by rw[MS];omega,λM hM hB=>?_⟩;have eM:M=f i:=by
   obtain⟨j0,hj0,z0,q0⟩:=win.a.att i il;have u1:f i≤M:=by
    rw[q0];refine hB _ ?_;rcases z0 with z0|z0
    ·subst z0;exact LY
    ·exact L3 _ (Mc.mpr ⟨j0,(mas j0).mpr z0,Z⟩)
   have u2:M≤f i:=by
    rcases LZ.mp hM with z|z
    ·have:=win.a.up i i il il (.inl Z);unfold vF at this;omega
    ·obtain⟨j,hj,rfl⟩:=Mc.mp z;have r:=(mas j).mp hj;exact win.a.up i j il (fS.lt sa.eok r).1 (.inr r)
   omega
  rw[eM];clear hM hB eM;have s08:=(s06.trans s7).trans s8;have r8:=(r6.trans s7).trans s8;have h58:=s8 _ _ (s7 _ _ h56);generalize upd H7 q2 (.lst ([V.int ((ws.getD i bG).1:Nat)]++(as.map λj=>((ws.getD j bG).1:Int)).map V.int))=H8 at s08 r8 h58 ⊢;obtain⟨pw2,am2,ex2,hSw2,ram2⟩:=at_ s08 i il;refine⟨_,Z,_,Z,p,_,_,_,Z,Z,aM.same s08 _ _ hp,aJ ex2,pw2,_,_,_,Z,Z,hSw2,Z,A5,λq3 hq3=>?_⟩;have s9:=aj hq3 (.lst [.int ((ws.getD i bG).2.1:Nat)]);have hq3':upd H8 q3 (.lst [.int ((ws.getD i bG).2.1:Nat)]) q3=some (.lst [.int ((ws.getD i bG).2.1:Nat)]):=ah;have h59:=s9 _ _ h58;have s09:=s08.trans s9;have r9:=r8.trans s9;generalize upd H8 q3 (.lst [.int ((ws.getD i bG).2.1:Nat)])=H9 at s9 hq3' h59 s09 r9 ⊢;have eb:((range ws.length).filter λj=>dh es j i).map (λj=>V.int (j:Nat))=aC ((range ws.length).filter λj=>dh es j i):=Z;rw[eb] at h59;generalize hbl:((range ws.length).filter λj=>dh es j i)=bl at h59;have mbl:∀j,j∈bl↔j<ws.length/\fS es i j:=λj=>by rw[←hbl,Mb,LW,eS]
  have lbl:bl.length≤8:=by rw[←hbl];exact MG (MP _ _) (by rw[Mw];exact w8)
  have lnb:(aC bl).length=bl.length:=LO _;have h59s:aS K H9 D1 (aC bl):=aS.of h59;refine⟨_,Z,D1,Z,⟨_,h59s⟩,λD3 hD3=>bC (cT h59s) (λ_=>true) (λj=>V.int ((ws.getD (bl.getD j 0) bG).2.1:Nat)) hD3 (by omega) (λj x H' hj sm hx Rk E kR _=>?_) λHA sA hA=>?_⟩
  ·obtain⟨m,hm,rfl⟩:=iz hx;have ml:m<ws.length:=((mbl m).mp (LQ hm)).1;obtain⟨pm,y,ey,hSm,_⟩:=at_ (s09.trans sm) m ml;rw[ax 0 hm] at kR;exact⟨eU.set Z,_,Z,_,Z,p,_,_,_,Z,Z,aM.same (s09.trans sm) _ _ hp,aJ ey,pm,_,_,_,Z,Z,hSm,Z,kR Z _ (aB.refl _)⟩
  have eA:((range (aC bl).length).filter λ_=>true).map (λj=>V.int ((ws.getD (bl.getD j 0) bG).2.1:Nat))=(bl.map λj=>((ws.getD j bG).2.1:Int)).map V.int:=by
   rw[lnb,Oa];exact cr 0 (λn=>V.int ((ws.getD n bG).2.1:Nat)) bl
  rw[eA] at hA;have lA:((bl.map λj=>((ws.getD j bG).2.1:Int)).map V.int).length=bl.length:=by rw[LO,LO]
  refine⟨q3,D3,_,_,Z,Z,sA _ _ hq3',hA,NH (be (by rw[lA];show 1+_≤1000;omega)),λq4 hq4=>?_⟩;have sB:=aj hq4 (.lst ([V.int ((ws.getD i bG).2.1:Nat)]++(bl.map λj=>((ws.getD j bG).2.1:Int)).map V.int));have eB_:[V.int ((ws.getD i bG).2.1:Nat)]++(bl.map λj=>((ws.getD j bG).2.1:Int)).map V.int=(((ws.getD i bG).2.1:Int)::bl.map λj=>((ws.getD j bG).2.1:Int)).map V.int:=Z;refine⟨q4,_,Z,aS.of (by rw[←eB_];exact ah),by rw[MS];omega,λM hM hB=>?_⟩;have eM:M=l_ i:=by
   obtain⟨j0,hj0,z0,q0⟩:=win.b.att i il;have q0':- l_ i=-((ws.getD j0 bG).2.1:Int):=q0;have u1:M≤l_ i:=by
    have:l_ i=((ws.getD j0 bG).2.1:Int):=by omega
    rw[this];refine hB _ ?_;rcases z0 with z0|z0
    ·subst z0;exact LY
    ·exact L3 _ (Mc.mpr ⟨j0,(mbl j0).mpr ⟨hj0,jt.mp z0⟩,Z⟩)
   have u2:l_ i≤M:=by
    rcases LZ.mp hM with z|z
    ·have:=win.b.up i i il il (.inl Z);unfold vL at this;have:-((ws.getD i bG).2.1:Int)≤- l_ i:=this;omega
    ·obtain⟨j,hj,rfl⟩:=Mc.mp z;obtain⟨jl,r⟩:=(mbl j).mp hj;have:=win.b.up i j il jl (.inr (jt.mpr r));have:-((ws.getD j bG).2.1:Int)≤- l_ i:=this;omega
   omega
  rw[eM];clear hM hB eM;have s0B:=(s09.trans sA).trans sB;have rB:=(r9.trans sA).trans sB;generalize upd HA q4 (.lst ([V.int ((ws.getD i bG).2.1:Nat)]++(bl.map λj=>((ws.getD j bG).2.1:Int)).map V.int))=HB at s0B rB ⊢;refine⟨_,Z,_,Z,_,_,Z,Z,_,Z,?_⟩;by_cases c:l_ i<f i
  ·refine cn c ?_;refine⟨_,Z,k f l_ _ _ s0B win ?_⟩;unfold qX;rw[rY il c le];exact .int _
  ·refine bI c ?_;have hdB:=rB _ _ hd3;obtain⟨pw3,am3,ex3,hSw3,ram3⟩:=at_ s0B i il;refine⟨_,Z,.inl ⟨Z,_,aS.of hdB⟩,_,Z,_,Z,_,Z,_,Z,p,_,_,_,Z,Z,aM.same s0B _ _ hp,aJ ex3,pw3,_,_,_,Z,Z,hSw3,Z,Du,λpn hpn=>?_⟩;have sC:=aj hpn (.tup [.int (f i),.int (l_ i),am3]);have hpC:upd HB pn (.tup [.int (f i),.int (l_ i),am3]) pn=some (.tup [.int (f i),.int (l_ i),am3]):=ah;have rC:=rB.trans sC;have am3':=ram3.mono (aM.same sC);generalize upd HB pn (.tup [.int (f i),.int (l_ i),am3])=HC at sC hpC rC am3' ⊢;have hdC:=rC _ _ hd3;refine⟨dl,ys,_,Z,Z,hdC,be (by omega),?_⟩;have tD:aM K HC (upd HC dl (.lst (ys++[.ref pn]))):=aM.up hdC _;refine⟨_,_,_,_,_,_,Z,(S3.trans (bz.same rC ⟨_,hd3⟩)).trans (bz.up hdC),ah,by rw[MO,hys];rfl,?_,λj hj=>?_⟩
   ·rw[Nj,Ni];have dn:bP K (upd HC dl (.lst (ys++[.ref pn]))) (.ref pn) (qh ws f l_ i):=.tup (tD _ _ (bH.of hpC)) (.cons (.int _) (.cons (.int _) (.cons (am3'.mono tD).deep .nil)));have dd:bu K (upd HC dl (.lst (ys++[.ref pn]))) ys ((range i).map (qh ws f l_)):=lI (K:=K) ((aM.same (K:=K) rC).trans tD) dp;exact ij dd (.cons dn .nil)
   ·by_cases z:j<i
    ·exact le j z
    ·have:j=i:=by omega
     subst this;omega
 ·rintro σ H3 ⟨ys,x5,x6,x7,x8,x9,rfl,S3,hd3,hys,dp,le⟩;refine⟨_,Z,dl,_,Z,.inl ⟨aS.of hd3,λpt hpt=>?_⟩⟩;have s4:=aj hpt (.tup ys);refine k f l_ (.ref pt) _ ((sst _ S3).trans s4) win ?_;unfold qX;rw[rZ (λj hj=>le j (by omega))];rw[show((xs.length:Int)).toNat=ws.length by omega] at dp;exact .tup (bH.of ah) (lI (aM.same s4) dp)
theorem Hk(T:eg K mg t):bD P w K mg base dF 3 t.a_Q9 t.d_Q9 ["_law_sheet","_law_plan"] (kO K):=by
 refine T.F_Q9.ok jw (λvs H Q E h=>?_) (λcdv A outer s H vs Q E hr h=>?_)
 ·obtain⟨_,_,_,_,_,rfl,_⟩:=h;rfl
 obtain⟨v,u,ws,es,pl,rfl,sa,dp,pr,k⟩:=h;refine dI.ok (af (em (qv 0) (ia Z (bi (au (i:=2) jw.nd Z (by first|exact L8 Z|exact L7 Z)) (bi (au (i:=3) jw.nd Z (by first|exact L8 Z|exact L7 Z)) c6)))) (af (b8 4 jw.nd (bn (N':=["_law_work"]) (src:=[none]) Z (by exact(cW (qv 2))) (λ_ _ _ _ _=>(by exact(by exact au (i:=0) (by show Mg (["_law_work"]:List Mj);decide +kernel) (by exact Z) (by first|exact L8 Z|exact L7 Z)))) (λ_ _ _ _ _=>bZ) (λ_ _ _ _ _=>(by exact(by exact(bM ag)))) (by exact trivial) Z (by decide +kernel) Z (by decide +kernel) (by exact aQ Z trivial))) (af (dY (i:=5) (N':=["_law_work"]) (src:=[none]) jw.nd Z (by first|exact L8 Z|exact L7 Z) Z (by exact(cW (qv 2))) (λ_ _ _ _ _=>(by exact(by exact au (i:=0) (by show Mg (["_law_work"]:List Mj);decide +kernel) (by exact Z) (by first|exact L8 Z|exact L7 Z)))) (λ_ _ _ _ _=>bZ) (λ_ _ _ _ _=>(by exact(by exact(bB (ad ai (ad ai ag aH) aH))))) (by exact trivial) Z (by decide +kernel) Z (by decide +kernel) (by exact aQ Z trivial)) (af (bA (eY (iP (hX (cu (ap bh (by rfl) T.z_isinstance Me (ad (qv 1) (ad (bE (v:=V.ty "tuple") Z T.z_tuple MR Z) ag ae) ae)))) (gc (aD iR (ap aA (by rfl) T.z_len MH (ad (qv 1) ag ae)) ai (aL _))))) (ao (aG dM)) aP) (af (bS L9 Z (bU Z T.z_range (ad ai ag aH)) (au (i:=6) jw.nd Z (by first|exact L8 Z|exact L7 Z)) (ao (bS L9 Z (bU Z T.z_range (ad (ap aA (by rfl) T.z_len MH (ad (bW az (qv 1) (qv 6)) ag aI)) ag aF)) (au (i:=7) jw.nd Z (by first|exact L8 Z|exact L7 Z)) (af (em (bW az (bW az (qv 1) (qv 6)) (qv 7)) (ia Z (bi (au (i:=8) jw.nd Z (by first|exact L8 Z|exact L7 Z)) (bi (au (i:=9) jw.nd Z (by first|exact L8 Z|exact L7 Z)) c6)))) (af (bA (eY (iP (hX (qZ gY gY (bW az (bW az (qv 2) (qv 8)) ai) (qv 6) (bW az (bW az (qv 2) (qv 8)) ai))) (gc (hX (cu (df (z8 T) hr T.m_Q34 T.F_Q34.kp T.b_Q34 (ad (bB (ad ai (ad ai ag aH) aH)) (ad (qv 9) ag ae) cC))))))) (ao (aG dM)) aP) (af (h9 (bA (eY (gO (aD fV (ap aA (by rfl) T.z_len MH (ad (bW bt (qv 4) (qv 8)) ag aI)) ai (aL _)) (gN (aD dg (bW az (bW bt (bW bt (qv 4) (qv 8)) (iQ f7 ai)) ai) (qv 6) (aL _))))) (ao (aG dM)) aP)) (af (cK (fw MK PySem.F.slot_list_append PySem.F.type_list_append bV (bW bt (qv 4) (qv 8)) (ad (bB (ad (qv 6) (ad (qv 7) ag ae) ae)) ag cC))) (ao (em (df (mC T) hr T.m_Q38 T.F_Q38.kp T.b_Q38 (ad (bW bt (qv 5) (qv 8)) (ad (qv 9) ag ae) aI)) (gQ (qv 5) (qv 8) eh)))))))))) (af (bA (aD (ic hr) (qv 5) (bn (N':=["_law_work"]) (src:=[none]) Z (by exact(cW (qv 2))) (λ_ _ _ _ _=>(by exact(by exact au (i:=0) (by show Mg (["_law_work"]:List Mj);decide +kernel) (by exact Z) (by first|exact L8 Z|exact L7 Z)))) (λ_ _ _ _ _=>bZ) (λ_ _ _ _ _=>(by exact(by exact(aZ (aU (K:=K) (by exact Z)) (by exact(qv 0)) ai (by exact λ_ _=>Z))))) (by exact trivial) Z (by decide +kernel) Z (by decide +kernel) (by exact aQ Z trivial)) (aL _)) (ao (aG dM)) aP) (ao (aG (ap (oF Z) (by rfl) T.z_all boot_all (ad (bn (N':=["_law_one","_law_other","_law_spots"]) (src:=[none,none,some 4]) Z (by exact(cW (qv 3))) (λ_ _ _ _ _=>(by exact(by exact gP (K:=K) (n:=2) (by exact Z) (by exact Z) (by exact bi (by exact au (i:=0) (by show Mg (["_law_one","_law_other","_law_spots"]:List Mj);decide +kernel) (by exact Z) (by first|exact L8 Z|exact L7 Z)) (by exact bi (by exact au (i:=1) (by show Mg (["_law_one","_law_other","_law_spots"]:List Mj);decide +kernel) (by exact Z) (by first|exact L8 Z|exact L7 Z)) c6))))) (λ_ _ _ _ _=>bZ) (λ_ _ _ _ _=>(by exact(by exact(eB (Ca (K:=K) (by exact Z) (by exact hr)) (by exact(aZ (cf (K:=K) (by exact Z)) (by exact(aZ (cf (K:=K) (by exact Z)) (by exact(qv 2)) (by exact(qv 0)) (by exact λ_ _=>Z))) (by exact(iQ f7 ai)) (by exact λ_ _=>Z))) (by exact(aZ (cf (K:=K) (by exact Z)) (by exact(aZ (cf (K:=K) (by exact Z)) (by exact(qv 2)) (by exact(qv 1)) (by exact λ_ _=>Z))) ai (by exact λ_ _=>Z))) (aL _))))) (by exact⟨Z,Z,Z,Z,trivial⟩) Z (by decide +kernel) Z (by decide +kernel) (by exact aQ Z ⟨Z,trivial⟩)) ag dq)))))))))) ?_
 nofun
 obtain⟨ps,wa,lb,rfl,hS,wv,lv⟩:=id sa.sv;obtain⟨p,xs,rfl,hp,al⟩:=id wv;obtain⟨pb,xb,rfl,hb,alb⟩:=id lv;obtain⟨pp,ts,rfl,hpp,ats⟩:=u5 dp;have lx:=al.len;have lb_:=alb.len;have w8:=sa.w8;have lts:ts.length=24:=by rw[ats.len,pr.len]
 have at_:∀{H':Hp},aM K H H'->∀i,i<ws.length->∃pw x,xs[i]?=some (.ref pw)/\bH K H' pw [.int ((ws.getD i bG).1:Nat),.int ((ws.getD i bG).2.1:Nat),x]/\RV K H' x (ws.getD i bG).2.2:=λ{H'} s i hi=>by
  have e:xs[i]?=some (xs[i]'(by omega)):=LL _;obtain⟨w,hw,pw,x,ex,hSw,rx⟩:=al.at e;refine⟨pw,x,by rw[e,ex],?_⟩;rw[show ws.getD i bG=w from ax bG hw];exact⟨s _ _ hSw,rx.mono s⟩
 refine⟨_,Z,ps,_,Z,hS,Z,_,_,Z,_,_,Z,Z,?_⟩;refine⟨_,Z,p,Z,⟨_,hp⟩,λD hD=>rS (J:=A3 K p) (n:=ws.length) (λi ys H'=>∃rows:List Addr,ys=rows.map V.ref/\rows.length=i/\rows.Nodup/\D∉rows/\(∀r∈rows,H r=none)/\aB H H'/\H' D=some (.lst ys)/\∀r∈rows,H' r=some (.lst [])) ⟨[],Z,Z,PZ,(λz=>by cases z),(λr hr=>by cases hr),aj hD _,ah,λr hr=>by cases hr⟩ (λi ys H' hi ⟨_,_,_,_,_,_,sm,_⟩=>⟨_,_,aM.same sm _ _ hp,LL (by omega)⟩) (λys HC ⟨rows,e1,e2,e3,e4,e5,e6,e7,e8⟩=>⟨⟨_,aM.same e6 _ _ hp,by omega⟩,?_⟩) ?_⟩
 ·subst e1;have t1:=aM.same (K:=K) e6;have sp0:sj K HC D rows ws.length (λi=>j6 pl 0 i):=⟨e7,e2,e3,e4,λi r er=>⟨[],e8 r (LQ er),.nil⟩⟩;refine⟨_,Z,p,Z,⟨_,t1 _ _ hp⟩,λdn hdn=>dk (K:=K) (P:=RV K) (ds:=ws) (f:=λ_=>(0,1)) (λ_ _ _ _ t z=>z.mono t) hdn (t1 _ _ hp) lx (by omega) (λi x d H' hx hd sm Rk E kR=>?_) λH2 ds s2 hd2 ad2=>?_⟩
  ·exact⟨eU.set Z,iY,λq hq=>kR _ _ (aj hq _) (RV.of ah)⟩
  have s02:=e6.trans s2;have sp2:=sp0.same s2;have ndD:dn≠D:=λz=>by subst z;rw[e7] at hdn;cases hdn
  have ndr:dn∉rows:=λz=>by rw[e8 dn z] at hdn;cases hdn
  have dnN:H dn=none:=by
   cases e:H dn with
   |none=>rfl
   |some o=>rw[e6 _ _ e] at hdn;cases hdn
  have hls:∀r∈dn::rows,∃xs,H2 r=some (.lst xs):=λr m=>by
   rcases LZ.mp m with z|z
   ·exact⟨_,by rw[z];exact hd2⟩
   ·exact⟨_,s2 _ _ (e8 r z)⟩
  have sk:∀H',Kp (dn::rows) H2 H'->aB H H':=λH' kp b o e=>kp.keep b o (λm=>by
   rcases LZ.mp m with z|z
   ·rw[z,dnN] at e;cases e
   ·rw[e5 b z] at e;cases e) (s02 _ _ e)
  have t02:=aM.same (K:=K) s02;refine⟨_,Z,.ref pp,_,"tuple",true,Z,dp.same s02,Z,_,Z,dU (b:=!true) Z ?_⟩;refine⟨_,Z,pp,_,Z,.inr (t02 _ _ hpp),Z,_,Z,iV (by rw[lts];rfl) ?_⟩;have ad0:cO (RV K H2) ds ((range ws.length).map λi=>iJ pl i 0):=by
   have e:ws.map (λ_=>((0,1):R))=(range ws.length).map λi=>iJ pl i 0:=by
    refine Pq λi=>?_
    rw[LX,LX];by_cases c:i<ws.length
    ·rw[LL c,Nz c];rfl
    ·rw[MV (by omega),MV (by rw[Mw];omega)];rfl
   rw[←e];exact ad2
  let Iv1:Nat->L2.St->Hp->Prop:=λt σ H'=>∃(ds:List V) (x7 x8 x9 xA:Option V),σ=[some (.ref ps),some (.ref pp),some (.ref p),some (.ref pb),some (.ref D),some (.ref dn),x7,x8,x9,xA]/\Kp (dn::rows) H2 H'/\sj K H' D rows ws.length (λi=>j6 pl t i)/\H' dn=some (.lst ds)/\cO (RV K H') ds ((range ws.length).map λi=>iJ pl i t)
  refine⟨24,Z,by decide,by decide,cP (lo:=0) (n:=24) Iv1 ⟨ds,none,none,none,none,Z,Kp.same (aB.refl _) hls,sp2,hd2,ad0⟩ ?_ ?_⟩
  ·rintro t σ H3 ht ⟨ds3,x7,x8,x9,xA,rfl,kp3,sp3,hd3,ad3⟩;rw[Int.zero_add];have t03:=t02.trans (aM.kp kp3);obtain⟨tv,htv⟩:∃tv,ts[t]?=some tv:=⟨_,LL (by omega)⟩;obtain⟨q,hq,pq,qs,rfl,hpq,aq⟩:=ats.at htv;have eq_:pl.getD t []=q:=ax [] hq;have lq:=aq.len;have fq:=pr.few t;rw[eq_] at fq;let Iv2:Nat->L2.St->Hp->Prop:=λj σ H'=>∃(ds:List V) (x8 x9 xA:Option V),σ=[some (.ref ps),some (.ref pp),some (.ref p),some (.ref pb),some (.ref D),some (.ref dn),some (.int (t:Nat)),x8,x9,xA]/\Kp (dn::rows) H2 H'/\sj K H' D rows ws.length (λi=>j6 pl t i++kU pl t j i)/\H' dn=some (.lst ds)/\cO (RV K H') ds ((range ws.length).map λi=>iK pl t i (iJ pl i t) j)
   refine⟨_,Z,_,Z,pp,_,_,_,Z,Z,t03 _ _ hpp,aJ htv,pq,_,Z,.inr (t03 _ _ hpq),_,Z,by omega,by omega,cP (lo:=0) (n:=(qs.length:Int).toNat) Iv2 ⟨ds3,x8,x9,xA,Z,kp3,sp3.congr (λi=>by show j6 pl t i++[]=j6 pl t i;rw[NF]),hd3,ad3⟩ ?_ ?_⟩
   ·rintro j σ H4 hj ⟨ds4,x8,x9,xA,rfl,kp4,sp4,hd4,ad4⟩;rw[Int.zero_add];have jl:j<(pl.getD t []).length:=by rw[eq_];omega
    have t04:=t02.trans (aM.kp kp4);obtain⟨cv,hcv⟩:∃cv,qs[j]?=some cv:=⟨_,LL (by omega)⟩;obtain⟨c,hc,pc_,pv,rfl,hpc,rpv⟩:=aq.at hcv;have ec:cw pl t j=c:=by unfold cw;rw[eq_];exact ax _ hc
    obtain⟨c1,c2,c3,c4⟩:=pr.pc t j ht jl;rw[ec] at c1 c2 c3 c4;have rpv4:=rpv.mono t04;have tests:∀Hh,aB H4 Hh->True:=λ_ _=>trivial
    refine⟨_,Z,_,Z,pp,_,_,_,Z,Z,t04 _ _ hpp,aJ htv,_,Z,pq,_,_,_,Z,Z,t04 _ _ hpq,aJ hcv,pc_,_,Z,t04 _ _ hpc,Z,_,_,Z,_,_,Z,Z,?_⟩;obtain⟨pw,am,ex,hSw,ram⟩:=at_ t04 c.1 c1;have iw:=c4;unfold fu at iw;rw[ME,decide_eq_true_iff,decide_eq_true_iff] at iw;refine⟨_,Z,_,Z,p,_,_,_,Z,Z,t04 _ _ hp,aJ ex,pw,_,_,_,Z,Z,hSw,Z,_,Z,_,_,Z,Z,_,Z,?_⟩;refine cn (by omega) ?_;refine⟨_,Z,_,Z,p,_,_,_,Z,Z,t04 _ _ hp,aJ ex,pw,_,_,_,Z,Z,hSw,Z,_,_,Z,Z,_,Z,iV (by omega) ?_⟩;refine⟨iY,λpz hz=>?_⟩;have sz:=aj hz (.tup [.int 0,.int 1]);have rz:RV K (upd H4 pz (.tup [.int 0,.int 1])) (.ref pz) (0,1):=RV.of ah;have kp5:=kp4.trans (Kp.same sz kp4.ls');have sp5:=sp4.same sz;have hd5:=sz _ _ hd4;have ad5:=ad4.mono λ_ _ z=>z.mono (aM.same sz)
    have rpv5:=rpv4.mono (aM.same sz);generalize upd H4 pz (.tup [.int 0,.int 1])=H5 at rz kp5 sp5 hd5 ad5 rpv5 ⊢;refine⟨_,Z,.ref pz,pv,(0,1),c.2,1,50,Z,rz,rpv5,io,c2.wf,by decide,_,Z,?_⟩;have ls:cX (0,1) c.2=true:=(jp (by decide) c2.bq.pos).mpr (by rw[kB];exact c3);refine dU (b:=!cX (0,1) c.2) (by rw[ls];rfl) ?_;obtain⟨rr,hrr⟩:∃rr,rows[c.1]?=some rr:=⟨_,LL (by rw[sp5.len];exact c1)⟩;obtain⟨ys,hys,ay⟩:=sp5.row c.1 rr hrr;have erow:(rows.map V.ref)[c.1]?=some (V.ref rr):=by rw[LX,hrr];rfl
    have none_:kU pl t j c.1=[]:=xP λm hm=>by
     have:=pr.nd t m j ht hm jl;rw[ec] at this;exact this
    have ay':cO (Dq K H5) ys (j6 pl t c.1):=by
     have e:j6 pl t c.1++kU pl t j c.1=j6 pl t c.1:=by rw[none_,NF]
     rw[←e];exact ay
    refine⟨λσ' H'=>H5=H'/\σ'=[some (.ref ps),some (.ref pp),some (.ref p),some (.ref pb),some (.ref D),some (.ref dn),some (.int (t:Nat)),some (.int (j:Nat)),some (.int (c.1:Nat)),some pv],?_,?_⟩
    ·refine⟨_,Z,_,Z,D,_,_,_,Z,Z,aS.of sp5.top,aJ erow,rr,_,Z,.inl (aS.of hys),_,_,Z,Z,_,Z,?_⟩;by_cases cl:0<ys.length
     ·refine cn (by omega) ?_;have l1:=ay'.len;obtain⟨yv,yd,e1,e2,⟨py,rfl,hpy⟩,_⟩:=ay'.last (n:=ys.length-1) (by omega);have lt:=(k6 (LQ e2)).1;refine⟨_,Z,_,Z,D,_,_,_,Z,Z,aS.of sp5.top,aJ erow,_,Z,rr,_,_,_,Z,Z,aS.of hys,e1,py,_,_,_,Z,Z,hpy,Z,_,Z,Z,_,Z,bI (λz=>by injection z with z;omega) ⟨rfl,rfl⟩⟩
     ·refine bI (by omega) (cJ ⟨Z,Z⟩)
    rintro σ' H' ⟨rfl,rfl⟩;refine⟨_,Z,_,Z,D,_,_,_,Z,Z,aS.of sp5.top,aJ erow,.inl ⟨Z,_,aS.of hys⟩,_,Z,_,Z,iY,λpn hpn=>?_⟩;have s6:=aj hpn (.tup [.int (t:Nat),.int (j:Nat)]);have q6:Dq K (upd H5 pn (.tup [.int (t:Nat),.int (j:Nat)])) (.ref pn) (t,j):=⟨pn,Z,bH.of ah⟩;have kp6:=kp5.trans (Kp.same s6 kp5.ls');have sp6:=sp5.same s6;have hys6:=s6 _ _ hys;have ay6:=ay.mono λ_ _ z=>z.mono' (aM.same (K:=K) s6)
    have hd6:=s6 _ _ hd5;have ad6:=ad5.mono λ_ _ z=>z.mono (aM.same s6)
    have rpv6:=rpv5.mono (aM.same s6);generalize upd H5 pn (.tup [.int (t:Nat),.int (j:Nat)])=H6 at q6 kp6 sp6 hys6 ay6 hd6 ad6 rpv6 ⊢;have ly:ys.length≤200:=by
     rw[ay'.len];exact Bl pr c.1 t (by omega)
    refine⟨rr,ys,_,Z,Z,hys6,be (by omega),?_⟩;have mr:rr∈dn::rows:=L3 _ (LQ hrr);have kp7:=Kp.up mr kp6.ls' (ys++[.ref pn]);have sp7:sj K (upd H6 rr (.lst (ys++[.ref pn]))) D rows ws.length (λi=>j6 pl t i++kU pl t (j+1) i):=sp6.push hrr hys6 ay6 q6 (by show j6 pl t c.1++kU pl t (j+1) c.1=j6 pl t c.1++kU pl t j c.1++[(t,j)];rw[DF (by rw[ec]),Qh]) (λi hi=>by show j6 pl t i++kU pl t (j+1) i=j6 pl t i++kU pl t j i;rw[Bm (by rw[ec];exact λz=>hi z.symm)]);have nrd:rr≠dn:=λz=>ndr (by rw[←z];exact LQ hrr)
    have hd7:upd H6 rr (.lst (ys++[.ref pn])) dn=some (.lst ds4):=by rw[aE nrd.symm];exact hd6
    have t67:=aM.kp (K:=K) kp7;have ad7:=ad6.mono λ_ _ z=>z.mono t67
    have rpv7:=rpv6.mono t67;have kq7:=kp6.trans kp7;generalize upd H6 rr (.lst (ys++[.ref pn]))=H7 at sp7 hd7 ad7 rpv7 kq7 ⊢;obtain⟨dv,hdv⟩:∃dv,ds4[c.1]?=some dv:=⟨_,LL (by rw[ad7.len,LO,Mw];exact c1)⟩;obtain⟨dr,hdr,rdv⟩:=ad7.at hdv;have edr:dr=iK pl t c.1 (iJ pl c.1 t) j:=by
     rw[LX,Nz c1] at hdr;exact(MB hdr).symm
    subst edr;have bq:Bq 449755225920 (1024*t+128*j) (iK pl t c.1 (iJ pl c.1 t) j):=tX (tW (ws:=ws) pr.few (λt k ht hk=>(pr.pc t k ht hk).2.1) c.1 t (by omega)) j (by omega) λm hm=>(pr.pc t m ht hm).2.1
    have wf:Wf 60 (iK pl t c.1 (iJ pl c.1 t) j):=(bq.mono (NT _) (show 1024*t+128*j≤30000 by omega)).wf (by decide) (by decide) (by decide);refine⟨_,Z,_,Z,dn,_,_,_,Z,Z,aS.of hd7,aJ hdv,_,Z,dv,pv,iK pl t c.1 (iJ pl c.1 t) j,c.2,60,50,Z,rdv,rpv7,wf,c2.wf,by decide,λpm hpm=>?_⟩;have s8:=aj hpm (.tup [.int (bo (iK pl t c.1 (iJ pl c.1 t) j) c.2).1,.int (bo (iK pl t c.1 (iJ pl c.1 t) j) c.2).2]);have r8:RV K (upd H7 pm (.tup [.int (bo (iK pl t c.1 (iJ pl c.1 t) j) c.2).1,.int (bo (iK pl t c.1 (iJ pl c.1 t) j) c.2).2])) (.ref pm) (bo (iK pl t c.1 (iJ pl c.1 t) j) c.2):=RV.of ah;have kp8:=kq7.trans (Kp.same s8 kq7.ls');have sp8:=sp7.same s8;have hd8:=s8 _ _ hd7;have ad8:=ad7.mono λ_ _ z=>z.mono (aM.same s8)
    generalize upd H7 pm (.tup [.int (bo (iK pl t c.1 (iJ pl c.1 t) j) c.2).1,.int (bo (iK pl t c.1 (iJ pl c.1 t) j) c.2).2])=H8 at r8 kp8 sp8 hd8 ad8 ⊢;refine⟨_,Z,_,Z,dn,ds4,_,c.1,Z,Z,hd8,iC (by rw[ad8.len,LO,Mw];exact c1),?_⟩;have kp9:=Kp.up (r:=dn) LY kp8.ls' (ds4.set c.1 (.ref pm));have t89:=aM.kp (K:=K) kp9;refine⟨_,_,_,_,Z,kp8.trans kp9,sp8.beside hd8 ndD ndr,ah,?_⟩;have e9:=Ch (n:=ws.length) (j:=c.1) (F:=λi=>iK pl t i (iJ pl i t) j) (F':=λi=>iK pl t i (iJ pl i t) (j+1)) (λi hi=>by
     show(if(cw pl t j).1=i then _ else iK pl t i (iJ pl i t) j)=_;rw[if_neg (by rw[ec];exact λz=>hi z.symm)])
    have e10:iK pl t c.1 (iJ pl c.1 t) (j+1)=bo (iK pl t c.1 (iJ pl c.1 t) j) c.2:=by
     show(if(cw pl t j).1=c.1 then bo _ (cw pl t j).2 else _)=_;rw[ec,if_pos Z]
    rw[←e9];show cO _ _ (((range ws.length).map λi=>iK pl t i (iJ pl i t) j).set c.1 (iK pl t c.1 (iJ pl c.1 t) (j+1)));rw[e10];exact cO.setI (r8.mono t89) c.1 (ad8.mono λ_ _ z=>z.mono t89)
   ·rintro σ H4 ⟨ds4,x8,x9,xA,rfl,kp4,sp4,hd4,ad4⟩;have el:((qs.length:Int)).toNat=(pl.getD t []).length:=by rw[eq_];omega
    rw[el] at sp4 ad4;exact⟨ds4,_,_,_,_,Z,kp4,sp4,hd4,ad4⟩
  ·rintro σ H3 ⟨ds3,x7,x8,x9,xA,rfl,kp3,sp3,hd3,ad3⟩;have s03:=sk H3 kp3;have t03:=aM.same (K:=K) s03;have ef:((range ws.length).map λi=>iJ pl i 24)=ws.map λw=>w.2.2:=by
    refine Pq λi=>?_
    rw[LX,LX];by_cases c:i<ws.length
    ·rw[Nz c,LL c];show some (iJ pl i 24)=some ws[i].2.2;rw[pr.fin i c,ax bG (LL c)]
    ·rw[MV (by rw[Mw];omega),MV (by omega)];rfl
   rw[ef] at ad3;refine⟨_,Z,_,Z,p,Z,⟨_,t03 _ _ hp⟩,λD2 hD2=>dk (K:=K) (P:=RV K) (ds:=ws) (f:=λw=>w.2.2) (λ_ _ _ _ t z=>z.mono t) hD2 (t03 _ _ hp) lx (by omega) (λi x d H' hx hd sm Rk E kR=>?_) λH4 ms s4 hm4 am4=>?_⟩
   ·obtain⟨d',hd',pw,xa,rfl,hSw,rx⟩:=al.at hx;rw[hd] at hd'
    cases hd'
    have t':=t03.trans (aM.same (K:=K) sm);exact⟨eU.set Z,_,Z,pw,_,_,_,Z,Z,t' _ _ hSw,Z,kR _ _ (aB.refl _) (rx.mono t')⟩
   have hd4:=s4 _ _ hd3;have ad4:=ad3.mono λ_ _ z=>z.mono (aM.same s4)
   have sp4:=sp3.same s4;have s04:=s03.trans s4;have dA:bP K H4 (.ref dn) (.list ((ws.map λw=>w.2.2).map dR)):=.lst (aS.of hd4) (ad4.deep λ_ _ z=>z.deep);have dB:bP K H4 (.ref D2) (.list ((ws.map λw=>w.2.2).map dR)):=.lst (aS.of hm4) (am4.deep λ_ _ z=>z.deep);refine⟨_,_,dA,dB,Ck _,Ck _,HS _,_,Z,dU (by rw[show M7 (.list ((ws.map λw=>w.2.2).map dR)) (.list ((ws.map λw=>w.2.2).map dR))=true from HQ _];rfl) ?_⟩;have hb4:=aM.same (K:=K) s04 _ _ hb;refine⟨_,Z,pb,Z,⟨_,hb4⟩,λD3 hD3=>bC (jj hb4) (λ_=>true) (λ_=>V.bl true) hD3 (by have:=sa.e8;omega) (λi x H' hi sm hx Rk E kR _=>?_) λH5 s5 h5=>?_⟩
   ·obtain⟨⟨a,b⟩,hd,pe,rfl,hpe⟩:=alb.at hx;have hab:=LQ hd;obtain⟨ha,hb'⟩:=sa.eok _ hab;have sp5:=sp4.same sm;obtain⟨ra,hra⟩:∃r,rows[a]?=some r:=⟨_,LL (by rw[sp5.len];exact ha)⟩;obtain⟨rb,hrb⟩:∃r,rows[b]?=some r:=⟨_,LL (by rw[sp5.len];exact hb')⟩;obtain⟨ya,hya,aya⟩:=sp5.row a ra hra;obtain⟨yb,hyb,ayb⟩:=sp5.row b rb hrb;have na:0<(j6 pl 24 a).length:=O1.mpr (pr.ne a ha);have nb:0<(j6 pl 24 b).length:=O1.mpr (pr.ne b hb');obtain⟨va,xa,ea1,ea2,⟨qa,rfl,hqa⟩,_⟩:=aya.last (n:=(j6 pl 24 a).length-1) (by omega);obtain⟨vb,hvb⟩:∃v,yb[0]?=some v:=⟨_,LL (by rw[ayb.len];exact nb)⟩;obtain⟨xb_,exb,qb,rfl,hqb⟩:=ayb.at hvb;have era:(rows.map V.ref)[a]?=some (V.ref ra):=by rw[LX,hra];rfl
    have erb:(rows.map V.ref)[b]?=some (V.ref rb):=by rw[LX,hrb];rfl
    have lt:=pr.lean a b hab xa (LQ ea2) xb_ (LQ exb);refine⟨pe,_,Z,aM.same (s04.trans sm) _ _ hpe,Z,_,_,Z,_,_,Z,Z,(eU.set Z).set' Z,?_⟩;refine⟨_,Z,_,Z,D,_,_,_,Z,Z,aS.of sp5.top,aJ era,_,Z,ra,_,_,_,Z,Z,aS.of hya,ea1,_,Z,_,Z,D,_,_,_,Z,Z,aS.of sp5.top,aJ erb,rb,_,_,_,Z,Z,aS.of hyb,aJ (j:=0) hvb,qa,qb,[(xa.1:Int),(xa.2:Int)],[(xb_.1:Int),(xb_.2:Int)],Z,Z,hqa,hqb,?_⟩;rw[show HT.lexLt [(xa.1:Int),(xa.2:Int)] [(xb_.1:Int),(xb_.2:Int)]=true from Jj lt];exact kR Z _ (aB.refl _)
   refine⟨D3,MC xb.length true,Z,aS.of (by rw[h5,Gc]),?_⟩;rw[CJ];exact k H5 (s04.trans s5)
 ·rintro i ys H' x H'' hi ⟨rows,e1,e2,e3,e4,e5,e6,e7,e8⟩ ⟨eH,_⟩ Rk E kR kE;subst eH;refine⟨eU.set Z,(by show 0≤sizeLine;exact Mx _),λn gn=>?_⟩;have sn:=aj gn (.lst []);have nN:H n=none:=by
   cases e:H n with
   |none=>rfl
   |some o=>rw[e6 _ _ e] at gn;cases gn
  have nD:n≠D:=λz=>by subst z;rw[e7] at gn;cases gn
  have nr:n∉rows:=λz=>by rw[e8 n z] at gn;cases gn
  refine kR _ _ (sn _ _ e7) (be (by rw[e1,LO];omega)) ⟨rows++[n],by rw[e1,Ni];rfl,by rw[MO,e2];rfl,?_,λm=>?_,λr hr=>?_,λb o e=>?_,ah,λr hr=>?_⟩
  ·rw[Nd];exact⟨e3,MU.mpr ⟨by simp,PZ⟩,λa ha b hb z=>nr (by rw[←LP.mp hb,←z];exact ha)⟩
  ·rcases Mh.mp m with z|z
   ·exact e4 z
   ·exact nD (LP.mp z).symm
  ·rcases Mh.mp hr with z|z
   ·exact e5 r z
   ·rw[LP.mp z];exact nN
  ·rw[aE (aX e hD)];exact sn _ _ (e6 _ _ e)
  ·have rD:r≠D:=λz=>by
    rcases Mh.mp hr with q|q
    ·exact e4 (by rw[←z];exact q)
    ·exact nD (by rw[←z];exact(LP.mp q).symm)
   rw[aE rD];rcases Mh.mp hr with q|q
   ·exact sn _ _ (e8 r q)
   ·rw[LP.mp q,ah]
theorem Fh(T:eg K mg t):oR P w K mg base dF 1 t.a_Q23 t.d_Q23 ["_law_e"] (o9 K t.c_Q50):=by
 refine T.F_Q23.okM xS (λvs H Q E h=>?_) (λcdv A outer s H vs Q E hr h=>?_)
 ·obtain⟨_,_,_,rfl,_⟩:=h;rfl
 obtain⟨x,dd,fs,rfl,ex,ed,k⟩:=h;refine dI.ok (af (b8 1 xS.nd (bM (ad (ap (jR (K:=K) Z) (by rfl) T.z_isinstance Me (ad (qv 0) (ad (cU (v:=.ref t.c_Q50) Z T.m_Q50 Z) ag ae) ae)) (ad (ap (jR (K:=K) Z) (by rfl) T.z_isinstance Me (ad (qv 0) (ad (cU (v:=.ref t.c_Q25) Z T.m_Q25 Z) ag ae) ae)) (ad (ap (jR (K:=K) Z) (by rfl) T.z_isinstance Me (ad (qv 0) (ad (bE (v:=V.ty "ValueError") Z T.z_ValueError PyProof.Rows.Boot.ValueError Z) ag ae) ae)) ag aF) aF) aF))) (ao (aG (aN kj (qv 1) (bM (ad (ap (jR (K:=K) Z) (by rfl) T.z_isinstance Me (ad (qv 0) (ad (bB (ad (cU (v:=.ref t.c_Q42) Z T.m_Q42 Z) (ad (cU (v:=.ref t.c_Q52) Z T.m_Q52 Z) (ad (cU (v:=.ref t.c_Q51) Z T.m_Q51 Z) (ad (cU (v:=.ref t.c_Q43) Z T.m_Q43 Z) (ad (cU (v:=.ref t.c_Q44) Z T.m_Q44 Z) (ad (cU (v:=.ref t.c_Q45) Z T.m_Q45 Z) (ad (cU (v:=.ref t.c_Q26) Z T.m_Q26 Z) ag ae) ae) ae) ae) ae) ae) ae)) ag cC) ae)) ag aF)))))) ?_
 nofun
 have cl:=T.X_Q50.cl;have gx:=T.g_Q50;refine⟨_,Z,x,_,dd,_,_,_,true,Z,ex,ed,cl,gx,.inr (.inl ⟨_,Z,T.y_self⟩),_,Z,x,_,dd,_,_,_,true,Z,ex,ed,cl,gx,.inr (.inl ⟨_,Z,T.y_base⟩),_,Z,x,_,dd,_,_,_,true,Z,ex,ed,cl,gx,.inl ⟨_,Z,T.y_val⟩,Du,λl1 h1=>?_⟩;have s1:=aj h1 (.lst [.bl true,.bl true,.bl true]);have hl1:upd H l1 (.lst [.bl true,.bl true,.bl true]) l1=some (.lst [.bl true,.bl true,.bl true]):=ah;generalize upd H l1 (.lst [.bl true,.bl true,.bl true])=H1 at s1 hl1 ⊢;refine⟨_,Z,_,Z,Kr,λp2 g2=>?_⟩;have s2:=aj g2 (.tup [.ref t.c_Q42,.ref t.c_Q52,.ref t.c_Q51,.ref t.c_Q43,.ref t.c_Q44,.ref t.c_Q45,.ref t.c_Q26]);have s12:=s1.trans s2;refine⟨x,_,dd,_,_,_,false,Z,s12 _ _ ex,s12 _ _ ed,cl,gx,.inr (.inr ⟨p2,[t.c_Q42,t.c_Q52,t.c_Q51,t.c_Q43,t.c_Q44,t.c_Q45,t.c_Q26],Z,ah,T.y_not⟩),A5,λl3 h3=>?_⟩;have s3:=aj h3 (.lst [.bl false]);refine⟨l1,l3,_,_,Z,Z,s3 _ _ (s2 _ _ hl1),ah,Gr,λl4 h4=>?_⟩;exact k l4 _ ((s12.trans s3).trans (aj h4 _)) ah
theorem rp(T:eg K mg t):bD P w K mg base dF 3 t.a_Q40 t.d_Q40 ["_law_some"] (qK K):=by
 refine T.F_Q40.ok hG (λvs H Q E h=>?_) (λcdv A outer s H vs Q E hr h=>?_)
 ·obtain⟨_,_,_,rfl,_⟩:=h;rfl
 obtain⟨a,xs,rs,rfl,hS,al,wf,hl,k⟩:=h;refine dI.ok (af (b8 1 hG.nd (bB (ad ai (ad ai ag aH) aH))) (af (bS L9 Z (bQ (qv 0)) (au (i:=2) hG.nd Z (by first|exact L8 Z|exact L7 Z)) (ao (b8 1 hG.nd (df (mC T) hr T.m_Q38 T.F_Q38.kp T.b_Q38 (ad (qv 1) (ad (qv 2) ag ae) ae))))) (ao (aG (qv 1))))) ?_
 nofun
 have hlen:=al.len;refine⟨iY,λp0 hp0=>?_⟩;have s0:=aj hp0 (.tup [.int 0,.int 1]);let Iv1:Nat->L2.St->Hp->Prop:=λi σ H'=>∃(u:V) (x3:Option V),σ=[some (.ref a),some u,x3]/\aB H H'/\RV K H' u (dS (rs.take i))/\Wf (1+51*i) (dS (rs.take i))
 refine⟨_,Z,a,Z,⟨_,s0.seq hS⟩,dW (K:=K) (a:=a) (xs:=xs) Iv1 ⟨_,none,Z,s0,RV.of ah,io⟩ (λi σ H1 _ ⟨_,_,_,s1,_⟩=>s1.seq hS) ?_ ?_⟩
 ·rintro i y σ H1 hi ⟨u,x3,rfl,s1,ru,wu⟩;obtain⟨r,hr,rv⟩:=al.at hi;have wr:=wf r (LQ hr);have hil:=(LR.mp hr).1;have e:dS (rs.take (i+1))=bo (dS (rs.take i)) r:=by
   unfold dS;rw[MN,hr,Oi];rfl
  refine⟨_,Z,_,Z,u,y,dS (rs.take i),r,1+51*i,50,Z,ru,rv.mono (aM.same s1),wu,wr,by omega,λp hp=>?_⟩;have s2:=aj hp (.tup [.int (bo (dS (rs.take i)) r).1,.int (bo (dS (rs.take i)) r).2]);refine⟨_,_,Z,s1.trans s2,?_,?_⟩
  ·rw[e];exact RV.of ah
  ·rw[e];exact(jB wu wr).mono (by omega)
 ·rintro σ H1 ⟨u,x3,rfl,s1,ru,wu⟩;rw[hlen,M4] at ru;exact⟨_,Z,k u H1 s1 ru⟩
theorem z7(T:eg K mg t):bD P w K mg base dF 2 t.a_Q50 t.d_Q50 ["self","work"] (vJ K t.c_Q50):=by
 refine T.F_Q50.ok DM (λvs H Q E h=>?_) (λcdv A outer s H vs Q E hr h=>?_)
 ·obtain⟨_,_,rfl,_⟩:=h;rfl
 obtain⟨a,n,rfl,ha,k⟩:=h;refine dI.ok (ao (Bz Z (qv 0) (df (E3 T) hr T.m_Q47 T.F_Q47.kp T.b_Q47 (ad (qv 1) ag ae)) Z)) ?_;nofun
 exact⟨_,Z,n,Z,_,Z,a,_,_,Z,T.X_Q50.cl,T.n_Q50_work,.inl ⟨ha,λd hd nd=>k d hd nd⟩⟩
theorem Fd(T:eg K mg t):bD P w K mg base (Bb P w) 4 t.a_Q28 t.d_Q28 ["sheet"] (qQ K t.c_Q50):=by
 refine B.Fun.okD T.F_Q28 f9 (λvs H Q E h=>?_) (λcdv A outer s H vs Q E hr h=>?_)
 ·obtain⟨_,_,_,rfl,_⟩:=h;rfl
 obtain⟨v,ws,es,rfl,⟨p,a,b,rfl,hS,wv,lv⟩,ok,k,ke⟩:=h;refine dI.ok (af (b8 1 f9.nd (bW az (qv 0) ai)) (af (b8 2 f9.nd (df (Db T) hr T.m_Q4 T.F_Q4.kp T.b_Q4 (ad (ap aA (by rfl) T.z_len MH (ad (qv 1) ag ae)) (ad (bW az (qv 0) ai) ag aI) aF))) (af (b8 3 f9.nd (bM ag)) (af (bS Qi Z (k8 Z T.z_enumerate (ad (qv 1) ag ae)) (ia Z (bi (au (i:=4) f9.nd Z (by first|exact L8 Z|exact L7 Z)) (bi (au (i:=5) f9.nd Z (by first|exact L8 Z|exact L7 Z)) c6))) (af (dY (i:=6) (N':=["base","other","leanings","number"]) (src:=[none,none,some 2,some 4]) f9.nd Z (by first|exact L8 Z|exact L7 Z) Z (by exact(k8 Z T.z_enumerate (ad (qv 1) ag ae))) (λ_ _ _ _ _=>(by exact(by exact gP (K:=K) (n:=2) (by exact Z) (by exact Z) (by exact bi (by exact au (i:=0) (by show Mg (["base","other","leanings","number"]:List Mj);decide +kernel) (by exact Z) (by first|exact L8 Z|exact L7 Z)) (by exact bi (by exact au (i:=1) (by show Mg (["base","other","leanings","number"]:List Mj);decide +kernel) (by exact Z) (by first|exact L8 Z|exact L7 Z)) c6))))) (λ_ _ _ _ _=>(cE (cu (by exact(aZ (cf (K:=K) (by exact Z)) (by exact(aZ (cf (K:=K) (by exact Z)) (by exact(qv 2)) (by exact(qv 3)) (by exact λ_ _=>Z))) (by exact(qv 0)) (by exact λ_ _=>Z)))))) (λ_ _ _ _ _=>(by exact(by exact(aZ (aU (K:=K) (by exact Z)) (by exact(qv 1)) ai (by exact λ_ _=>Z))))) (by exact⟨Z,Z,Z,Z,⟨Z,Z,Z,Z,trivial⟩⟩) Z (by decide +kernel) Z (by decide +kernel) (by exact aQ Z ⟨Z,⟨Z,trivial⟩⟩)) (af (dY (i:=7) (N':=["leaner","other","number","leanings"]) (src:=[none,none,some 4,some 2]) f9.nd Z (by first|exact L8 Z|exact L7 Z) Z (by exact(k8 Z T.z_enumerate (ad (qv 1) ag ae))) (λ_ _ _ _ _=>(by exact(by exact gP (K:=K) (n:=2) (by exact Z) (by exact Z) (by exact bi (by exact au (i:=0) (by show Mg (["leaner","other","number","leanings"]:List Mj);decide +kernel) (by exact Z) (by first|exact L8 Z|exact L7 Z)) (by exact bi (by exact au (i:=1) (by show Mg (["leaner","other","number","leanings"]:List Mj);decide +kernel) (by exact Z) (by first|exact L8 Z|exact L7 Z)) c6))))) (λ_ _ _ _ _=>(cE (cu (by exact(aZ (cf (K:=K) (by exact Z)) (by exact(aZ (cf (K:=K) (by exact Z)) (by exact(qv 3)) (by exact(qv 0)) (by exact λ_ _=>Z))) (by exact(qv 2)) (by exact λ_ _=>Z)))))) (λ_ _ _ _ _=>(by exact(by exact(aZ (aU (K:=K) (by exact Z)) (by exact(qv 1)) ai (by exact λ_ _=>Z))))) (by exact⟨Z,Z,Z,Z,⟨Z,Z,Z,Z,trivial⟩⟩) Z (by decide +kernel) Z (by decide +kernel) (by exact aQ Z ⟨Z,⟨Z,trivial⟩⟩)) (af (b8 8 f9.nd (ap (oE Z) (by rfl) T.z_max boot_max (ad (aN kj (bM (ad (bW az (qv 5) ai) ag aI)) (qv 6)) ag bx))) (af (b8 9 f9.nd (ap (iG Z) (by rfl) T.z_min Tq (ad (aN kj (bM (ad (bW az (qv 5) ai) ag aI)) (qv 7)) ag bx))) (af (bA (aD fV (qv 8) (qv 9) (aL _)) (ao (n8 T.X_Q50 (wY _) Z xk (z7 T) (hr.mono (by decide)) T.b_Q50 Z T.m_Q50 (ad (qv 4) ag ae))) aP) (ao (cK (fw MK PySem.F.slot_list_append PySem.F.type_list_append bV (qv 3) (ad (bB (ad (qv 8) (ad (qv 9) (ad (bW az (qv 5) ai) ag aI) ae) ae)) ag cC)))))))))) (ao (aG (bJ br (by rfl) T.z_tuple MR (ad (qv 3) ag ae)))))))) ?_
 nofun
 obtain⟨pa,xs,rfl,hpa,al⟩:=id wv;have hxl:=al.len;have few:=ok.few;obtain⟨f,l_,win⟩:=g6.ex ws es;refine⟨_,Z,p,_,_,_,Z,Z,hS,Z,?_⟩;refine⟨_,Z,pa,_,Z,.inr hpa,_,Z,p,_,_,_,Z,Z,hS,Z,ws.length,b,es,(by rw[hxl];rfl),lv,ok.es,by omega,λl rows L H1 s1 MX1 clo=>?_⟩;refine⟨(by show 0≤sizeLine;exact Mx _),λdl hdl=>?_⟩;have s2:=aj hdl (.lst []);have hd2:upd H1 dl (.lst []) dl=some (.lst []):=ah;have MX2:=MX1.same s2;have s02:=s1.trans s2;generalize upd H1 dl (.lst [])=H2 at s2 hd2 MX2 s02 ⊢;have hdN:H dl=none:=by
  cases e:H dl with
  |none=>rfl
  |some o=>rw[s1 _ _ e] at hdl;cases hdl
 have ndl:dl≠l:=λz=>by subst z;rw[MX1.top] at hdl;cases hdl
 have ndr:dl∉rows:=λz=>by obtain⟨ys,e⟩:=MX1.ls _ z;rw[hdl] at e;cases e
 have t02:=aM.same (K:=K) s02;have mst:∀H',bz dl H2 H'->oQ H' l rows ws.length L:=λH' S=>⟨S.keep _ _ (λz=>ndl z.symm) MX2.top,MX2.len,MX2.nd,MX2.ne,λi r e=>S.keep _ _ (λz=>ndr (by rw[←z];exact LQ e)) (MX2.row i r e)⟩
 have sst:∀H',bz dl H2 H'->aB H H':=λH' S b' o e=>S.keep b' o (λz=>by subst z;rw[hdN] at e;cases e) (s02 _ _ e)
 let Iv1:Nat->L2.St->Hp->Prop:=λi σ H'=>∃(ys:List V) (x5 x6 x7 x8 x9 x10:Option V),σ=[some (.ref p),some (.ref pa),some (.ref l),some (.ref dl),x5,x6,x7,x8,x9,x10]/\bz dl H2 H'/\H' dl=some (.lst ys)/\ys.length=i/\bu K H' ys ((range i).map (qh ws f l_))/\∀j,j<i->f j≤l_ j
 refine⟨_,Z,pa,Z,⟨_,t02 _ _ hpa⟩,Ay (K:=K) (a:=pa) (xs:=xs) Iv1 ⟨[],none,none,none,none,none,none,Z,bz.refl ⟨_,hd2⟩,hd2,Z,.nil,λj hj=>absurd hj (NW _)⟩ (λi σ H' _ ⟨_,_,_,_,_,_,_,_,S,_⟩=>aM.step (K:=K) S _ _ (t02 _ _ hpa)) ?_ ?_⟩
 ·rintro i x pe σ H3 hx ⟨ys,x5,x6,x7,x8,x9,x10,rfl,S3,hd3,hys,dp,le⟩ hpe;have hi:i<ws.length:=by have:=(LR.mp hx).1;omega
  obtain⟨w,hw,pw,am,rfl,hpw,ram⟩:=al.at hx;have ewi:ws.getD i bG=w:=ax bG hw;have wok:=ok.ok w (LQ hw);have s4:=aj hpe (.tup [.int i,.ref pw]);have hpe4:upd H3 pe (.tup [.int i,.ref pw]) pe=some (.tup [.int i,.ref pw]):=ah;generalize upd H3 pe (.tup [.int i,.ref pw])=H4 at s4 hpe4 ⊢;have S4:=S3.trans (bz.same s4 ⟨_,hd3⟩);have t4:=t02.trans (aM.step (K:=K) S4);refine⟨pe,_,Z,bH.of hpe4,Z,_,_,Z,_,_,Z,Z,?_⟩;have MX:=mst _ S4;have SM:=t4;refine⟨_,Z,pa,Z,⟨_,(SM _ _ hpa)⟩,λD1 hD1=>bC (oU ((SM _ _ hpa))) (λj=>L i j) (λj=>V.int ((ws.getD j bG).1:Nat)) hD1 (by omega) (λj y H' hj s' hy R E kR kE=>?_) λH5 s5 h5=>?_⟩
  ·obtain⟨pt,x',rfl,hx',hpt⟩:=hy;obtain⟨w',hw',pw',am',rfl,hpw',_⟩:=al.at hx';have ew:ws.getD j bG=w':=ax bG hw';rw[ew] at kR;have Ms:=MX.same s';obtain⟨rr,hrr⟩:∃r,rows[i]?=some r:=⟨_,LL (by rw[MX.len];omega)⟩;refine⟨pt,_,Z,bH.of hpt,Z,_,_,Z,_,_,Z,Z,(eU.set Z).set' Z,?_⟩;refine⟨_,Z,_,Z,l,_,_,_,Z,Z,aS.of Ms.top,aJ (v:=V.ref rr) (by rw[LX,hrr];rfl),_,Z,rr,_,_,_,Z,Z,aS.of (Ms.row _ _ hrr),aJ (gM (by omega)),_,Z,?_⟩
   cases cl:L i j with
   |true=>
    exact d0 ⟨_,Z,pw',_,_,_,Z,Z,SM.trans (aM.same (K:=K) s') _ _ hpw',Z,kR cl _ (aB.refl _)⟩
   |false=>exact cJ (kE cl _ (aB.refl _))
  rw[show xs.length=ws.length from hxl] at h5;have MX5:=MX.same s5;have SM5:=SM.trans (aM.same (K:=K) s5);refine⟨_,Z,pa,Z,⟨_,(SM5 _ _ hpa)⟩,λD2 hD2=>bC (oU ((SM5 _ _ hpa))) (λj=>L j i) (λj=>V.int ((ws.getD j bG).2.1:Nat)) hD2 (by omega) (λj y H' hj s' hy R E kR kE=>?_) λH6 s6 h6=>?_⟩
  ·obtain⟨pt,x',rfl,hx',hpt⟩:=hy;obtain⟨w',hw',pw',am',rfl,hpw',_⟩:=al.at hx';have ew:ws.getD j bG=w':=ax bG hw';rw[ew] at kR;have Ms:=MX5.same s';obtain⟨rr,hrr⟩:∃r,rows[j]?=some r:=⟨_,LL (by rw[MX5.len];omega)⟩;refine⟨pt,_,Z,bH.of hpt,Z,_,_,Z,_,_,Z,Z,(eU.set Z).set' Z,?_⟩;refine⟨_,Z,_,Z,l,_,_,_,Z,Z,aS.of Ms.top,aJ (v:=V.ref rr) (by rw[LX,hrr];rfl),_,Z,rr,_,_,_,Z,Z,aS.of (Ms.row _ _ hrr),aJ (gM (by omega)),_,Z,?_⟩
   cases cl:L j i with
   |true=>
    exact d0 ⟨_,Z,pw',_,_,_,Z,Z,SM5.trans (aM.same (K:=K) s') _ _ hpw',Z,kR cl _ (aB.refl _)⟩
   |false=>exact cJ (kE cl _ (aB.refl _))
  rw[show xs.length=ws.length from hxl] at h6;have s46:=s5.trans s6;have h5':=s6 _ _ h5;have t6:=SM5.trans (aM.same (K:=K) s6);refine⟨_,Z,pw,_,_,_,Z,Z,t6 _ _ hpw,Z,A5,λq1 hq1=>?_⟩;have s7:=aj hq1 (.lst [.int (w.1:Nat)]);have l1:((range ws.length).filter λj=>L i j).length≤ws.length:=MG (MP _ _) (by rw[Mw];exact LN _);have l2:((range ws.length).filter λj=>L j i).length≤ws.length:=MG (MP _ _) (by rw[Mw];exact LN _);refine⟨_,Z,q1,D1,_,_,Z,Z,ah,s7 _ _ h5',NH (be (by rw[LO];show 1+_≤1000;omega)),λq2 hq2=>?_⟩;have s8:=aj hq2 (.lst ([.int (w.1:Nat)]++((range ws.length).filter λj=>L i j).map λj=>V.int ((ws.getD j bG).1:Nat)));have e8:[V.int (w.1:Nat)]++(((range ws.length).filter λj=>L i j).map λj=>V.int ((ws.getD j bG).1:Nat))=((w.1:Int)::((range ws.length).filter λj=>L i j).map λj=>((ws.getD j bG).1:Int)).map V.int:=by rw[M3,Oa];rfl
  refine⟨q2,_,Z,aS.of (by rw[←e8];exact ah),by rw[MS];omega,λM hM hB=>?_⟩;have eM:M=f i:=by
   obtain⟨j0,hj0,z0,q0⟩:=win.a.att i hi;have u1:f i≤M:=by
    rw[q0];refine hB _ ?_;rcases z0 with z0|z0
    ·subst z0;unfold vF;rw[ewi];exact LY
    ·exact L3 _ (Mc.mpr ⟨j0,Mb.mpr ⟨LW.mpr hj0,(clo i j0 hi hj0).mpr z0⟩,Z⟩)
   have u2:M≤f i:=by
    rcases LZ.mp hM with z|z
    ·have:=win.a.up i i hi hi (.inl Z);unfold vF at this;rw[ewi] at this;omega
    ·obtain⟨j,hj,rfl⟩:=Mc.mp z;obtain⟨hj1,hj2⟩:=Mb.mp hj;exact win.a.up i j hi (LW.mp hj1) (.inr ((clo i j hi (LW.mp hj1)).mp hj2))
   omega
  rw[eM];have s78:=s7.trans s8;clear hM hB eM;have h6':=s78 _ _ h6;have t8:=t6.trans (aM.same (K:=K) s78);refine⟨_,Z,pw,_,_,_,Z,Z,t8 _ _ hpw,Z,A5,λq3 hq3=>?_⟩;have s9:=aj hq3 (.lst [.int (w.2.1:Nat)]);refine⟨_,Z,q3,D2,_,_,Z,Z,ah,s9 _ _ h6',NH (be (by rw[LO];show 1+_≤1000;omega)),λq4 hq4=>?_⟩;have sA:=aj hq4 (.lst ([.int (w.2.1:Nat)]++((range ws.length).filter λj=>L j i).map λj=>V.int ((ws.getD j bG).2.1:Nat)));have eA:[V.int (w.2.1:Nat)]++(((range ws.length).filter λj=>L j i).map λj=>V.int ((ws.getD j bG).2.1:Nat))=((w.2.1:Int)::((range ws.length).filter λj=>L j i).map λj=>((ws.getD j bG).2.1:Int)).map V.int:=by rw[M3,Oa];rfl
  refine⟨q4,_,Z,aS.of (by rw[←eA];exact ah),by rw[MS];omega,λM hM hB=>?_⟩;have eM:M=l_ i:=by
   obtain⟨j0,hj0,z0,q0⟩:=win.b.att i hi;have u1:M≤l_ i:=by
    have q0':- l_ i=-((ws.getD j0 bG).2.1:Int):=q0;have:l_ i=((ws.getD j0 bG).2.1:Int):=by omega
    rw[this];refine hB _ ?_;rcases z0 with z0|z0
    ·subst z0;rw[ewi];exact LY
    ·exact L3 _ (Mc.mpr ⟨j0,Mb.mpr ⟨LW.mpr hj0,(clo j0 i hj0 hi).mpr (jt.mp z0)⟩,Z⟩)
   have u2:l_ i≤M:=by
    rcases LZ.mp hM with z|z
    ·have:=win.b.up i i hi hi (.inl Z);unfold vL at this;rw[ewi] at this;have:-(w.2.1:Int)≤- l_ i:=this;omega
    ·obtain⟨j,hj,rfl⟩:=Mc.mp z;obtain⟨hj1,hj2⟩:=Mb.mp hj;have:=win.b.up i j hi (LW.mp hj1) (.inr (jt.mpr ((clo j i (LW.mp hj1) hi).mp hj2)));have:-((ws.getD j bG).2.1:Int)≤- l_ i:=this;omega
   omega
  rw[eM];clear hM hB eM;have s9A:=s9.trans sA;have s4A:=(s46.trans s78).trans s9A;generalize upd (upd (upd (upd H6 q1 _) q2 _) q3 _) q4 _=HA at s9A s4A ⊢;have SA:=S4.trans (bz.same s4A ⟨_,s4 _ _ hd3⟩);refine⟨_,Z,_,Z,_,_,Z,Z,_,Z,?_⟩;by_cases c:l_ i<f i
  ·refine cn c ?_;have rs:fR ws.length f l_=some i:=rY hi c le;refine⟨_,Z,A5,λxx hxx=>⟨xx,_,Z,ah,λd hd nd=>⟨Z,some d,by rw[aE nd.symm,ah],?_⟩⟩⟩;refine ke f l_ i d _ ((sst _ SA).trans (gC (o0:=ji xx t.c_Q50 none) hxx λb' o nb q=>?_)) win rs (by rw[AL nd,ah]);have hd':upd HA xx (ji xx t.c_Q50 none) d=none:=hd;rw[aE (aX q hd'),aE nb];exact q
  ·refine bI c ?_;have hdA:=s4A _ _ (s4 _ _ hd3);refine⟨_,Z,.inl ⟨Z,_,aS.of hdA⟩,_,Z,_,Z,_,Z,pw,_,_,_,Z,Z,(t02.trans (aM.step (K:=K) SA)) _ _ hpw,Z,Du,λpn hpn=>?_⟩;have sB:=aj hpn (.tup [.int (f i),.int (l_ i),am]);have hpB:upd HA pn (.tup [.int (f i),.int (l_ i),am]) pn=some (.tup [.int (f i),.int (l_ i),am]):=ah;generalize upd HA pn (.tup [.int (f i),.int (l_ i),am])=HB at sB hpB ⊢;have hdB:=sB _ _ hdA;have SB:=SA.trans (bz.same sB ⟨_,hdA⟩);refine⟨dl,ys,_,Z,Z,hdB,be (by omega),?_⟩;have tC:aM K HB (upd HB dl (.lst (ys++[.ref pn]))):=aM.up hdB _;refine⟨_,_,_,_,_,_,_,Z,SB.trans (bz.up hdB),ah,by rw[MO,hys];rfl,?_,λj hj=>?_⟩
   ·rw[Nj,Ni];have dn:bP K (upd HB dl (.lst (ys++[.ref pn]))) (.ref pn) (qh ws f l_ i):=by
     unfold qh;rw[ewi];exact .tup (tC _ _ (bH.of hpB)) (.cons (.int _) (.cons (.int _) (.cons (((ram.mono t02).mono (aM.step (K:=K) SB)).mono tC).deep .nil)))
    have dd:bu K (upd HB dl (.lst (ys++[.ref pn]))) ys ((range i).map (qh ws f l_)):=by
     refine lI (K:=K) ?_ dp;exact(((aM.same (K:=K) s4).trans (aM.same s4A)).trans (aM.same sB)).trans tC
    exact ij dd (.cons dn .nil)
   ·by_cases z:j<i
    ·exact le j z
    ·have:j=i:=by omega
     subst this;omega
 ·rintro σ H3 ⟨ys,x5,x6,x7,x8,x9,x10,rfl,S3,hd3,hys,dp,le⟩;refine⟨_,Z,dl,_,Z,.inl ⟨aS.of hd3,λpt hpt=>?_⟩⟩;have s4:=aj hpt (.tup ys);refine k f l_ (.ref pt) _ ((sst _ S3).trans s4) win (rZ (λj hj=>le j (by omega))) ?_;rw[hxl] at dp;exact .tup (bH.of ah) (lI (aM.same s4) dp)
theorem EW(T:eg K mg t):bD P w K mg base (Bb P w) 5 t.a_Q57 t.d_Q57 ["works","leans","speeds"] (xL K t.c_Q50):=by
 refine B.Fun.okD T.F_Q57 i7 (λvs H Q E h=>?_) (λcdv A outer s H vs Q E hr h=>?_)
 ·obtain⟨_,_,_,_,_,_,rfl,_⟩:=h;rfl
 obtain⟨v,u,s_,ws,es,ss,rfl,ak,⟨q,qs,rfl,hq,alq⟩,l24,oks,k,ke⟩:=h;refine dI.ok (af (b8 3 i7.nd (df (Fb T) hr T.m_Q30 T.F_Q30.kp T.b_Q30 (ad (qv 0) (ad (qv 1) ag ae) ae))) (af (dY (i:=4) (N':=["work"]) (src:=[none]) i7.nd Z (by first|exact L8 Z|exact L7 Z) Z (by exact(cW (qv 0))) (λ_ _ _ _ _=>(by exact(by exact au (i:=0) (by show Mg (["work"]:List Mj);decide +kernel) (by exact Z) (by first|exact L8 Z|exact L7 Z)))) (λ_ _ _ _ _=>bZ) (λ_ _ _ _ _=>(by exact(by exact(aZ (aU (K:=K) (by exact Z)) (by exact(qv 0)) ai (by exact λ_ _=>Z))))) (by exact trivial) Z (by decide +kernel) Z (by decide +kernel) (by exact aQ Z trivial)) (af (b8 5 i7.nd (bM ag)) (af (bS Qi Z (bU Z T.z_range (ad (cU (v:=.int (24)) Z T.m_TURNS ⟨_,Z⟩) ag ae)) (au (i:=6) i7.nd Z (by first|exact L8 Z|exact L7 Z)) (ao (cK (fw MK PySem.F.slot_list_append PySem.F.type_list_append bV (qv 5) (ad (df (Fm T) hr T.m_Q16 T.F_Q16.kp T.b_Q16 (ad (qv 0) (ad (qv 3) (ad (qv 4) (ad (qv 6) (ad (bW az (qv 2) (qv 6)) ag aI) ae) ae) ae) ae)) ag aF))))) (af (bS Qi Z (rg Z T.z_enumerate (ad (qv 4) ag ae)) (ia Z (bi (au (i:=7) i7.nd Z (by first|exact L8 Z|exact L7 Z)) (bi (au (i:=8) i7.nd Z (by first|exact L8 Z|exact L7 Z)) c6))) (ao (bA (aD (ic hr) (qv 8) (cU (v:=.ref t.c_NOUGHT) Z T.m_NOUGHT Z) (aL _)) (ao (n8 T.X_Q50 (wY _) Z xk (z7 T) (hr.mono (by decide)) T.b_Q50 Z T.m_Q50 (ad (qv 7) ag ae))) aP))) (ao (aG (bJ br (by rfl) T.z_tuple MR (ad (qv 5) ag ae))))))))) ?_
 nofun
 obtain⟨p,xs,rfl,hS,al⟩:=id ak.wv;have w8:=ak.w8;have lx:xs.length=ws.length:=al.len;refine⟨_,Z,_,Z,_,u,ws,es,Z,ak,λo H1 s1 _ ho=>?_⟩;have hS1:=aM.same (K:=K) s1 _ _ hS;refine⟨_,Z,p,Z,⟨_,hS1⟩,λlf hlf0=>dk (K:=K) (P:=RV K) (ds:=ws) (f:=λw=>w.2.2) (λ_ _ _ _ t z=>z.mono t) hlf0 hS1 lx (by omega) (λi x d H' hx hd sm Rk E kR=>?_) λH2 ys s2 hlf al2=>?_⟩
 ·obtain⟨d',hd',pw,xa,rfl,hSw,rx⟩:=al.at hx;rw[hd] at hd'
  cases hd'
  have t':=aM.same (K:=K) (s1.trans sm);exact⟨eU.set Z,_,Z,pw,_,_,_,Z,Z,t' _ _ hSw,Z,kR _ _ (aB.refl _) (rx.mono t')⟩
 have ho2:=s2 _ _ ho;have nol:o≠lf:=λz=>by subst z;rw[ho] at hlf0;cases hlf0
 have lfN:H lf=none:=by
  cases e:H lf with
  |none=>rfl
  |some o'=>rw[s1 _ _ e] at hlf0;cases hlf0
 refine⟨(by show 0≤sizeLine;exact Mx _),λpl hpl=>?_⟩;have s3:=aj hpl (.lst []);have hp3:upd H2 pl (.lst []) pl=some (.lst []):=ah;have npf:pl≠lf:=λz=>by subst z;rw[hlf] at hpl;cases hpl
 have npo:pl≠o:=λz=>by subst z;rw[ho2] at hpl;cases hpl
 have hl3:=s3 _ _ hlf;have ho3:=s3 _ _ ho2;have al3:=al2.mono λ_ _ z=>z.mono (aM.same s3)
 have s03:=(s1.trans s2).trans s3;have plN:H pl=none:=by
  cases e:H pl with
  |none=>rfl
  |some o'=>rw[s2 _ _ (s1 _ _ e)] at hpl;cases hpl
 generalize upd H2 pl (.lst [])=H3 at s03 hp3 hl3 ho3 al3 ⊢;have t03:=aM.same (K:=K) s03;have oi:=dz (es:=es) ak.rk ws.length (LN _);have pk:=eD (ord:=aO ws es ws.length) ak.ok oi.lt oks;have md:pl∈[pl,lf]:=LY;have l12:∀r∈[pl,lf],∃xs,H3 r=some (.lst xs):=λr m=>by
  rcases LZ.mp m with z|z
  ·exact⟨_,by rw[z];exact hp3⟩
  ·exact⟨_,by rw[LP.mp z];exact hl3⟩
 have onot:o∉[pl,lf]:=λm=>by
  rcases LZ.mp m with z|z
  ·exact npo z.symm
  ·exact nol (LP.mp z)
 have sk:∀H',Kp [pl,lf] H3 H'->aB H H':=λH' kp b o' e=>kp.keep b o' (λm=>by
  rcases LZ.mp m with z|z
  ·rw[z,plN] at e;cases e
  ·rw[LP.mp z,lfN] at e;cases e) (s03 _ _ e)
 have olt:=oi.lt;have olen:=oi.len;generalize hod:aO ws es ws.length=od at ho3 pk olt olen;let Iv1:Nat->L2.St->Hp->Prop:=λi σ H'=>∃(zs ys:List V) (x7 x8 x9:Option V),σ=[some (.ref p),some u,some (.ref q),some (.ref o),some (.ref lf),some (.ref pl),x7,x8,x9]/\Kp [pl,lf] H3 H'/\H' lf=some (.lst zs)/\cO (RV K H') zs (aT ws od ss i).1/\H' pl=some (.lst ys)/\cO (AZ K H') ys (aT ws od ss i).2
 refine⟨24,Z,by decide,by decide,cP (lo:=0) (n:=24) Iv1 ⟨_,[],none,none,none,Z,Kp.same (aB.refl _) l12,hl3,al3,hp3,.nil⟩ ?_ ?_⟩
 ·rintro i σ H4 hi ⟨zs,ys,x7,x8,x9,rfl,kp,hl4,alz,hp4,aly⟩;obtain⟨po,pl_⟩:=pk i;have t4:=t03.trans (aM.kp kp);obtain⟨sv,hsv⟩:∃sv,qs[i]?=some sv:=⟨_,LL (by rw[alq.len,l24];exact hi)⟩;obtain⟨sp,hsp,rsp⟩:=alq.at hsv;have esp:ss.getD i (0,1)=sp:=ax (0,1) hsp;have z0:(0:Int)+(i:Int)=(i:Int):=Int.zero_add _;refine⟨_,Z,.inl ⟨Z,_,aS.of hp4⟩,_,Z,_,Z,_,Z,_,Z,_,Z,_,Z,q,_,_,_,Z,Z,t4 _ _ hq,(by rw[z0];exact aJ hsv),.ref p,sv,o,lf,ws,od,zs,(aT ws od ss i).1,i,sp,(by rw[z0];rfl),⟨p,xs,Z,t4 _ _ hS,al.mono λ_ _ z=>z.mono t4⟩,kp.keep _ _ onot ho3,hl4,nol,alz,po.len,po.lf,rsp.mono t4,oks _ (LQ hsp),olt,by rw[olen];omega,λw ys' H5 S5 hl5 al5 tn5=>?_⟩;have hp5:=S5.keep _ _ npf hp4;have t45:=aM.step (K:=K) S5;have kp5:Kp [pl,lf] H4 H5:=⟨λb o' nb e=>S5.keep b o' (λz=>nb (by rw[z];exact L3 _ LY)) e,kp.ls',λr m=>by
   rcases LZ.mp m with z|z
   ·exact⟨_,by rw[z];exact hp5⟩
   ·exact⟨_,by rw[LP.mp z];exact hl5⟩⟩
  have kq5:=kp.trans kp5;refine⟨pl,ys,_,Z,Z,hp5,be (by rw[aly.len,pl_];omega),?_⟩;have kp6:=Kp.up md kq5.ls' (ys++[w]);have t56:=aM.kp (K:=K) kp6;rw[←esp] at al5 tn5;exact⟨ys',_,_,_,_,Z,kq5.trans kp6,by rw[aE (NO npf)];exact hl5,al5.mono λ_ _ z=>z.mono t56,ah,cO.snoc (tn5.mono t56) (aly.mono λ_ _ z=>(z.mono t45).mono t56)⟩
 rintro σ H4 ⟨zs,ys,x7,x8,x9,rfl,kp,hl4,alz,hp4,aly⟩;obtain⟨po,pl_⟩:=pk 24;have ed:dH ws es ss=aT ws od ss 24:=by unfold dH;rw[hod]
 rw[ed] at k ke;have s04:=sk H4 kp;generalize aT ws od ss 24=pm at k ke alz aly po pl_;have lz:zs.length=ws.length:=by rw[alz.len,po.len]
 let Iv2:Nat->L2.St->Hp->Prop:=λi σ H'=>∃(x8 x9:Option V),σ=[some (.ref p),some u,some (.ref q),some (.ref o),some (.ref lf),some (.ref pl),x7,x8,x9]/\aB H4 H'/\∀j,j<i->pm.1.getD j (0,1)=(0,1)
 refine⟨_,Z,lf,Z,⟨_,aS.of hl4⟩,wz (K:=K) (a:=lf) (xs:=zs) Iv2 ⟨_,_,Z,aB.refl _,λj hj=>absurd hj (NW _)⟩ (λi σ H' _ ⟨_,_,_,sm,_⟩=>aS.of (sm _ _ hl4)) ?_ ?_⟩
 ·rintro i x pe σ H5 hx ⟨x8,x9,rfl,s5,le⟩ hpe;obtain⟨r,hr_,hrz⟩:=alz.at hx;have er:pm.1.getD i (0,1)=r:=ax (0,1) hr_;have il:i<pm.1.length:=(LR.mp hr_).1;have s6:=aj hpe (.tup [.int i,x]);have hpe6:upd H5 pe (.tup [.int i,x]) pe=some (.tup [.int i,x]):=ah;generalize upd H5 pe (.tup [.int i,x])=H6 at s6 hpe6 ⊢;have s46:=s5.trans s6;have t46:=aM.same (K:=K) s46;refine⟨pe,_,Z,bH.of hpe6,Z,_,_,Z,_,_,Z,Z,?_⟩;refine⟨_,Z,dR r,dR (0,1),(hrz.mono t46).deep,RV.deep ⟨_,Z,T.q_NOUGHT _⟩,Z,Z,jO _,_,Z,?_⟩;rw[lh];by_cases cz:r=(0,1)
  ·refine dU (b:=!decide (r=(0,1))) (by rw[decide_eq_true cz];rfl) ?_;refine⟨_,_,Z,s46,λj hj=>?_⟩;by_cases z:j<i
   ·exact le j z
   ·rw[show j=i by omega,er];exact cz
  ·refine gZ (b:=!decide (r=(0,1))) (by rw[decide_eq_false cz];rfl) ?_;refine⟨_,Z,A5,λxx hxx=>⟨xx,_,Z,ah,λd hd nd=>⟨Z,some d,by rw[aE nd.symm,ah],?_⟩⟩⟩;refine ke i (we il (by rw[er];exact cz) le) d _ ((s04.trans s46).trans (gC (o0:=ji xx t.c_Q50 none) hxx λb' o' nb q'=>?_)) (by rw[AL nd,ah]);have hd':upd H6 xx (ji xx t.c_Q50 none) d=none:=hd;rw[aE (aX q' hd'),aE nb];exact q'
 ·rintro σ H5 ⟨x8,x9,rfl,s5,le⟩;refine⟨_,Z,pl,_,Z,.inl ⟨aS.of (s5 _ _ hp4),λpt hpt=>?_⟩⟩;have s6:=aj hpt (.tup ys);have t46:=(aM.same (K:=K) s5).trans (aM.same s6);refine k (oo λj hj=>le j (by rw[lz,←po.len];exact hj)) (.ref pt) _ ((s04.trans s5).trans s6) ?_;exact .tup (bH.of ah) ((aly.mono λ_ _ z=>z.mono t46).deep λ_ _ z=>z.deep)
theorem Fp(T:eg K mg t):bD P w K mg base (Bb P w) 6 t.a_Q12 t.d_Q12 ["sheet"] (nv K t.c_Q50):=by
 refine B.Fun.okD T.F_Q12 xU (λvs H Q E h=>?_) (λcdv A outer s H vs Q E hr h=>?_)
 ·obtain⟨_,_,_,rfl,_⟩:=h;rfl
 obtain⟨v,ws,es,rfl,sa,k,ke⟩:=h;refine dI.ok (af (b8 1 xU.nd (fU (Fd T) (hr.mono (by decide)) Z T.m_Q28 T.F_Q28.kp T.b_Q28 .nil C9 (ad (qv 0) ag ae))) (ao (aG (fU (EW T) (hr.mono (by decide)) Z T.m_Q57 T.F_Q57.kp T.b_Q57 .nil C9 (ad (qv 1) (ad (bW az (qv 0) ai) (ad (df (Hm T) hr T.m_Q6 T.F_Q6.kp T.b_Q6 (ad (qv 1) ag ae)) ag aF) aI) ae))))) ?_
 nofun
 obtain⟨p,a,b,rfl,hS,wv,lv⟩:=id sa.sv;refine⟨_,Z,.ref p,ws,es,Z,sa.sv,sa.sh,λf l u H1 s1 win nb d1=>?_,λf l i d H' s' win nb hd=>ke f l i d H' s' win nb hd⟩;have ok':=AH sa.ok win nb;have wv':=uZ sa.ok win d1;have w8:=sa.w8;have len:=mW ws f l;have t1:=aM.same (K:=K) s1;refine⟨_,Z,_,Z,p,_,_,_,Z,Z,t1 _ _ hS,Z,_,Z,u,fF ws f l,Z,wv',by omega,ok',λq xs lys H2 s2 hq al ly=>?_⟩;have lok:=tM ly (by decide) (λt ht=>LW.mp ht);have ams:=sG ok' (by omega) lok;have ak:CS K H2 u b (fF ws f l) es:=⟨wv'.mono (aM.same s2),by omega,ok',(lv.mono t1).mono (aM.same s2),by rw[len];exact sa.eok,by rw[len];exact sa.rk,sa.e8⟩;have nl:=oh (es:=es) ok' (by rw[len];exact sa.rk) ly ams;have l24:(aR (fF ws f l) lys).length=24:=by unfold aR;rw[gK];rfl
 refine⟨u,b,.ref q,fF ws f l,es,aR (fF ws f l) lys,Z,ak,⟨q,xs,Z,hq,al⟩,l24,ams,λ_ w H3 s3 dw=>?_,λi hi=>by rw[nl] at hi;cases hi⟩;exact k f l lys w H3 ((s1.trans s2).trans s3) win nb ly dw
theorem E5(T:eg K mg t):bD P w K mg base dF 3 t.a_Q40 t.d_Q40 ["_law_some"] (sI K):=by
 refine T.F_Q40.ok hG (λvs H Q E h=>?_) (λcdv A outer s H vs Q E hr h=>?_)
 ·obtain⟨_,_,_,rfl,_⟩:=h;rfl
 obtain⟨a,xs,rs,rfl,hS,al,wf,hl,k⟩:=h;refine dI.ok (af (b8 1 hG.nd (bB (ad ai (ad ai ag aH) aH))) (af (bS L9 Z (bQ (qv 0)) (au (i:=2) hG.nd Z (by first|exact L8 Z|exact L7 Z)) (ao (b8 1 hG.nd (df (mC T) hr T.m_Q38 T.F_Q38.kp T.b_Q38 (ad (qv 1) (ad (qv 2) ag ae) ae))))) (ao (aG (qv 1))))) ?_
 nofun
 have hlen:=al.len;refine⟨iY,λp0 hp0=>?_⟩;have s0:=aj hp0 (.tup [.int 0,.int 1]);let Iv1:Nat->L2.St->Hp->Prop:=λi σ H'=>∃(u:V) (x3:Option V),σ=[some (.ref a),some u,x3]/\aB H H'/\RV K H' u (dS (rs.take i))/\Wf (1+5*i) (dS (rs.take i))
 refine⟨_,Z,a,Z,⟨_,s0.seq hS⟩,dW (K:=K) (a:=a) (xs:=xs) Iv1 ⟨_,none,Z,s0,RV.of ah,io⟩ (λi σ H1 _ ⟨_,_,_,s1,_⟩=>s1.seq hS) ?_ ?_⟩
 ·rintro i y σ H1 hi ⟨u,x3,rfl,s1,ru,wu⟩;obtain⟨r,hr,rv⟩:=al.at hi;have wr:=wf r (LQ hr);have hil:=(LR.mp hr).1;have e:dS (rs.take (i+1))=bo (dS (rs.take i)) r:=by
   unfold dS;rw[MN,hr,Oi];rfl
  refine⟨_,Z,_,Z,u,y,dS (rs.take i),r,1+5*i,4,Z,ru,rv.mono (aM.same s1),wu,wr,by omega,λp hp=>?_⟩;have s2:=aj hp (.tup [.int (bo (dS (rs.take i)) r).1,.int (bo (dS (rs.take i)) r).2]);refine⟨_,_,Z,s1.trans s2,?_,?_⟩
  ·rw[e];exact RV.of ah
  ·rw[e];exact(jB wu wr).mono (by omega)
 ·rintro σ H1 ⟨u,x3,rfl,s1,ru,wu⟩;rw[hlen,M4] at ru;exact⟨_,Z,k u H1 s1 ru⟩
theorem E9(T:eg K mg t):bD P w K mg base dF 4 t.a_Q35 t.d_Q35 ["_law_works_here","_law_layer"] (qL K):=by
 refine T.F_Q35.ok DT (λvs H Q E h=>?_) (λcdv A outer s H vs Q E hr h=>?_)
 ·obtain⟨_,_,_,_,rfl,_⟩:=h;rfl
 obtain⟨v,x,ws,y,rfl,⟨p,xs,rfl,hS,al⟩,hw,ok,lv,lok,k⟩:=h;refine dI.ok (ao (aG (df (E6 T) hr T.m_Q39 T.F_Q39.kp T.b_Q39 (ad (df (E5 T) hr T.m_Q40 T.F_Q40.kp T.b_Q40 (ad (bn (N':=["_law_number","_law_works_here"]) (src:=[none,some 0]) Z (by exact(cW (aZ az (qv 1) ai (λ_ _=>Z)))) (λ_ _ _ _ _=>(by exact(by exact au (i:=0) (by show Mg (["_law_number","_law_works_here"]:List Mj);decide +kernel) (by exact Z) (by first|exact L8 Z|exact L7 Z)))) (λ_ _ _ _ _=>bZ) (λ_ _ _ _ _=>(by exact(by exact(aZ (aU (K:=K) (by exact Z)) (by exact(aZ (aU (K:=K) (by exact Z)) (by exact(qv 1)) (by exact(qv 0)) (by exact λ_ _=>Z))) ai (by exact λ_ _=>Z))))) (by exact⟨Z,Z,Z,Z,trivial⟩) Z (by decide +kernel) Z (by decide +kernel) (by exact aQ Z ⟨Z,trivial⟩)) ag dq)) (ad (bB (ad ai (ad (ap aA (by rfl) T.z_len MH (ad (aZ az (qv 1) ai (λ_ _=>Z)) ag aI)) ag aF) aH)) ag cC) aF)))) ?_;nofun
 have hSl:=al.len;obtain⟨pL,a,b,rfl,hpL,ha,hb⟩:=lv;have nb:(aC y.2).length=y.2.length:=LO _;have na:(aC y.1).length=y.1.length:=LO _;have len:=lok.len;refine⟨_,Z,pL,_,_,_,Z,Z,hpL,Z,b,Z,⟨_,hb⟩,λD hD=>dk (K:=K) (P:=RV K) (ds:=y.2) (f:=λi=>(ws.getD i bG).2.2) (λ_ _ _ _ t p=>p.mono t) hD hb nb (by omega) (λi x d H' hx hd s' R E kR=>?_) λH2 ys2 s2 hD2 al2=>?_⟩
 ·have hx':(aC y.2)[i]?=some (V.int (d:Nat)):=by unfold aC;rw[LX,hd];rfl
  rw[hx] at hx'
  cases hx'
  have hdl:=lok.num d (LQ hd);obtain⟨xw,hxw⟩:∃xw,xs[d]?=some xw:=⟨_,LL (by omega)⟩;obtain⟨w,hwd,pw,xa,rfl,hSw,rx⟩:=al.at hxw;rw[ax bG hwd] at kR;have t':=aM.same (K:=K) s';exact⟨eU.set Z,_,Z,_,Z,p,_,_,_,Z,Z,t' _ _ hS,aJ hxw,pw,_,_,_,Z,Z,t' _ _ hSw,Z,kR _ _ (aB.refl _) (rx.mono t')⟩
 have wf:=AT (n:=ws.length) ok lok;have la:(gE ws y).length=y.2.length:=LO _;refine⟨D,ys2,gE ws y,Z,aS.of hD2,al2,wf,by omega,λv' H3 s3 rv3=>?_⟩;have t23:=aM.same (K:=K) (s2.trans s3);refine⟨_,Z,pL,_,_,_,Z,Z,t23 _ _ hpL,Z,a,_,Z,.inr (t23 _ _ ha),iY,λpt hpt=>?_⟩;rw[na];have s4:=aj hpt (.tup [.int 1,.int (y.1.length:Int)]);have pos:=lok.pos;have few:=lok.few;refine⟨v',.ref pt,dS (gE ws y),(1,(y.1.length:Int)),1+(4+1)*(gE ws y).length,5,Z,rv3.mono (aM.same s4),RV.of ah,ut wf,zW pos few,by omega,λu h5=>?_⟩;exact k _ _ (((s2.trans s3).trans s4).trans (aj h5 _)) (RV.of ah)
theorem Fn(T:eg K mg t):bD P w K mg base dF 5 t.a_Q14 t.d_Q14 ["_law_works_here"] (nw K):=by
 refine T.F_Q14.ok pJ (λvs H Q E h=>?_) (λcdv A outer s H vs Q E hr h=>?_)
 ·obtain⟨_,_,rfl,_⟩:=h;rfl
 obtain⟨v,ws,rfl,⟨p,xs,rfl,hS,al⟩,hw,ok,k⟩:=h;refine dI.ok (af (b8 1 pJ.nd (aN pT (bM (ad (bB (ad ai (ad ai ag aH) aH)) ag cC)) ai)) (af (bS L9 Z (bQ (df (Fo T) hr T.m_Q13 T.F_Q13.kp T.b_Q13 (ad (qv 0) ag ae))) (au (i:=2) pJ.nd Z (by first|exact L8 Z|exact L7 Z)) (ao (bS L9 Z (cW (bW az (qv 2) ai)) (au (i:=3) pJ.nd Z (by first|exact L8 Z|exact L7 Z)) (ao (em (df (E9 T) hr T.m_Q35 T.F_Q35.kp T.b_Q35 (ad (qv 0) (ad (qv 2) ag ae) ae)) (gQ (qv 1) (qv 3) eh)))))) (ao (aG (qv 1))))) ?_
 nofun
 refine⟨iY,λpz hpz=>?_⟩;have sz:=aj hpz (.tup [.int 0,.int 1]);have rz:RV K (upd H pz (.tup [.int 0,.int 1])) (.ref pz) (0,1):=RV.of ah;generalize upd H pz (.tup [.int 0,.int 1])=H0 at sz rz ⊢;refine⟨A5,λl0 h0=>?_⟩;have s0:=aj h0 (.lst [.ref pz]);refine⟨l0,.ref pz,24,Z,Z,ah,by decide,λl hl=>?_⟩;have s1:=aj hl (.lst (MC 24 (.ref pz)));have s01:=s0.trans s1;have hln:H l=none:=by
  cases e:H l with
  |none=>rfl
  |some o=>rw[s0 _ _ (sz _ _ e)] at hl;cases hl
 have hl1:upd (upd H0 l0 (.lst [.ref pz])) l (.lst (MC 24 (.ref pz))) l=some (.lst (MC 24 (.ref pz))):=ah;generalize upd (upd H0 l0 (.lst [.ref pz])) l (.lst (MC 24 (.ref pz)))=H1 at hl1 s01 ⊢;have sz1:=sz.trans s01;refine⟨_,Z,.ref p,ws,Z,⟨p,xs,Z,aM.same (K:=K) sz1 _ _ hS,al.mono λ_ _ m=>m.mono (aM.same sz1)⟩,hw,ok,λlq xl lys H2 s2 hq1 hq2 all ly lok ll=>?_⟩;have hl2:=s2 _ _ hl1;have nq:lq≠l:=λz=>by subst z;rw[hl1] at hq1;cases hq1
 have s02:=sz1.trans s2;have wvS:∀H',aB H H'->fO K H' (.ref p) ws:=λH' s=>⟨p,xs,Z,aM.same (K:=K) s _ _ hS,al.mono λ_ _ m=>m.mono (aM.same s)⟩
 have smS:∀H',bz l H2 H'->aB H H':=λH' S b o e=>S.keep b o (λz=>by subst z;rw[hln] at e;cases e) (s02 _ _ e)
 let Iv1:Nat->L2.St->Hp->Prop:=λi σ H'=>∃(ys:List V) (x3 x4:Option V),σ=[some (.ref p),some (.ref l),x3,x4]/\bz l H2 H'/\H' l=some (.lst ys)/\cO (RV K H') ys (aR ws (lys.take i))
 refine⟨lq,Z,⟨_,aS.of hq2⟩,dW (K:=K) (a:=lq) (xs:=xl) Iv1 ⟨_,none,none,Z,bz.refl ⟨_,hl2⟩,hl2,cO.rep (rz.mono (aM.same (s01.trans s2))) 24⟩ (λi σ H' _ ⟨_,_,_,_,S,_⟩=>aS.of (S.keep _ _ nq hq2)) ?_ ?_⟩
 ·rintro i x σ H3 hx ⟨ys,x3,x4,rfl,S3,hl3,al3⟩;obtain⟨y,hy,lvy⟩:=all.at hx;have lyo:=lok y (LQ hy);have lv3:=lvy.mono (aM.step (K:=K) S3);obtain⟨pL,a,b,rfl,hpL,ha,hb⟩:=id lv3;have ly24:=al3.len;rw[show(aR ws (lys.take i)).length=24 by unfold aR;rw[gK];rfl] at ly24;let Iv2:Nat->L2.St->Hp->Prop:=λj σ H'=>∃(zs:List V) (x4:Option V),σ=[some (.ref p),some (.ref l),some (.ref pL),x4]/\bz l H3 H'/\H' l=some (.lst zs)/\zs.length=24/\cO (RV K H') zs (gL (d9 ws y) (aR ws (lys.take i)) (y.1.take j))
  refine⟨_,Z,pL,_,_,_,Z,Z,hpL,Z,a,Z,⟨_,ha⟩,iE (K:=K) (a:=a) (xs:=aC y.1) Iv2 ⟨ys,_,Z,bz.refl ⟨_,hl3⟩,hl3,ly24,al3⟩ (λj σ H' _ ⟨_,_,_,S,_⟩=>aM.step (K:=K) S _ _ ha) ?_ ?_⟩
  ·rintro j tv σ H5 ht ⟨zs,x5,rfl,S5,hl5,zl,al5⟩;unfold aC at ht;rw[LX] at ht;obtain⟨tt,htt,rfl⟩:=Mn.mp ht;have lt:=lyo.lt tt (LQ htt);refine⟨_,Z,_,Z,.ref p,.ref pL,ws,y,Z,wvS _ (smS _ (S3.trans S5)),hw,ok,lv3.mono (aM.step (K:=K) S5),lyo,λsv H6 s6 rv6=>?_⟩;have hl6:=s6 _ _ hl5;refine⟨_,Z,_,Z,l,zs,_,tt,Z,Z,hl6,iC (by omega),?_⟩;have t6:aM K H6 (upd H6 l (.lst (zs.set tt sv))):=aM.up hl6 _;refine⟨_,_,Z,(S5.trans (bz.same s6 ⟨_,hl5⟩)).trans (bz.up hl6),ah,by rw[OP];exact zl,?_⟩;have e:gL (d9 ws y) (aR ws (lys.take i)) (y.1.take (j+1))=(gL (d9 ws y) (aR ws (lys.take i)) (y.1.take j)).set tt (d9 ws y):=by
    unfold gL;rw[MN,htt,Oi];rfl
   rw[e];exact cO.setI (rv6.mono t6) tt (al5.mono λ_ _ m=>m.mono ((aM.same (K:=K) s6).trans t6))
  ·rintro σ H5 ⟨zs,x5,rfl,S5,hl5,zl,al5⟩;rw[show(aC y.1).length=y.1.length from LO _,M4] at al5;refine⟨zs,_,_,Z,S3.trans S5,hl5,?_⟩;have e:aR ws (lys.take (i+1))=gL (d9 ws y) (aR ws (lys.take i)) y.1:=by
    unfold aR;rw[MN,hy,Oi];rfl
   rw[e];exact al5
 ·rintro σ H3 ⟨ys,x3,x4,rfl,S3,hl3,al3⟩;rw[all.len,M4] at al3;exact⟨_,Z,k l ys lys H3 (smS _ S3) hl3 al3 ly⟩
theorem Fj(T:eg K mg t):bD P w K mg base dF 4 t.a_Q21 t.d_Q21 ["_law_tape_here","_law_many"] (ph K):=by
 refine T.F_Q21.ok j9 (λvs H Q E h=>?_) (λcdv A outer s H vs Q E hr h=>?_)
 ·obtain⟨_,_,_,rfl,_⟩:=h;rfl
 obtain⟨t₁,s₁,n,rfl,tp,hn,k⟩:=h;refine dI.ok (af (bA (aD mz (qv 1) ai (aL _)) (ao (aG (bB ag))) aP) (af (b8 2 j9.nd (zf (key:=λi=>(i:Int)*7%11) (E4 T) (hr.mono (by decide)) T.b_Q41 Z Z T.m_Q41 Z T.z_sorted (ad (jA Z T.z_range (ad (qv 1) ag ae)) ag aF))) (af (h9 (bA (aD dg (df (eQ T) hr T.m_Q32 T.F_Q32.kp T.b_Q32 (ad (qv 0) (ad ai ag aH) ae)) ai (aL _)) (ao (cK (Es MK slot_list_reverse type_list_reverse tG (qv 2)))) aP)) (af (b8 3 j9.nd (bM ag)) (af (bS L9 Z (bU Z T.z_range (ad (df (eQ T) hr T.m_Q32 T.F_Q32.kp T.b_Q32 (ad (qv 0) (ad ai ag aH) ae)) ag aF)) (au (i:=4) j9.nd Z (by first|exact L8 Z|exact L7 Z)) (af (b8 5 j9.nd (df (eQ T) hr T.m_Q32 T.F_Q32.kp T.b_Q32 (ad (qv 0) (ad (aN fo (qv 1) ai) ag bx) ae))) (af (b8 6 j9.nd (aN dP (aN dP (qv 5) ai) (df (eQ T) hr T.m_Q32 T.F_Q32.kp T.b_Q32 (ad (qv 0) (ad (aN fo (aN fo (qv 1) ai) (qv 5)) ag bx) ae)))) (ao (cK (fw MK PySem.F.slot_list_append PySem.F.type_list_append bV (qv 3) (ad (bB (ad (bW bt (qv 2) (qv 5)) (ad (bW bt (qv 2) (qv 6)) ag aI) aI)) ag cC))))))) (ao (aG (bJ br (by rfl) T.z_tuple MR (ad (qv 3) ag ae))))))))) ?_
 nofun
 refine⟨_,Z,_,_,Z,Z,_,Z,?_⟩;by_cases c:n<2
 ·refine cn (by omega) ?_;exact⟨(by show 0≤sizeLine;exact Mx _),λp hp=>k (.ref p) [] _ (bz.same (aj hp _) tp.lst) (tp.new hp _) ⟨p,[],Z,bH.of ah,.nil⟩ (λe he=>by cases he) ⟨id,λ_ h=>h,λa b h=>by cases h⟩ (Mx _)⟩
 refine bI (by omega) ?_;refine⟨_,Z,_,Z,λpr hpr=>?_⟩;have s1:=aj hpr (.rng 0 n);refine⟨pr,n,Z,ah,by omega,λi hi Qk q=>⟨_,Z,by omega,by omega,q⟩,λlo ms pm _ hlo=>?_⟩;have s2:=aj hlo (.lst (ms.map λi:Nat=>V.int i));have hl2:upd (upd H pr (.rng 0 n)) lo (.lst (ms.map λi:Nat=>V.int i)) lo=some (.lst (aC ms)):=ah;have s02:=s1.trans s2;have loN:H lo=none:=by
  cases e:H lo with
  |none=>rfl
  |some o=>rw[s1 _ _ e] at hlo;cases hlo
 generalize upd (upd H pr (.rng 0 n)) lo (.lst (ms.map λi:Nat=>V.int i))=H2 at s02 hl2 ⊢;have T2:=tp.same s02;obtain⟨y0,e0⟩:=tp.lst;have nt:lo≠t₁:=λz=>by subst z;rw[e0] at loN;cases loN
 have ns:=tp.off loN;obtain⟨y2,e2⟩:=T2.lst;refine⟨λσ H'=>∃os:List Nat,σ=[some (.ref t₁),some (.int (n:Nat)),some (.ref lo),none,none,none,none]/\cN K H' t₁ s₁/\(∀b o,b≠t₁->H b=some o->H' b=some o)/\H' lo=some (.lst (aC os))/\os.Perm (range n),?_,?_⟩
 ·refine⟨_,Z,t₁,s₁,2,Z,T2,by omega,by omega,λr1 z1 a1 b1 T3=>?_⟩;have S3:bz t₁ H2 _:=bz.up (ys:=z1) e2;generalize upd H2 t₁ (.lst z1)=H3 at T3 S3 ⊢;have hl3:=S3.keep _ _ nt hl2;refine⟨Z,_,Z,?_⟩;by_cases c1:V.int r1=V.int 0
  ·refine cn c1 ?_;refine⟨_,Z,.inl ⟨Z,_,aS.of hl3⟩,lo,_,Z,Z,hl3,?_⟩;refine⟨ms.reverse,Z,T3.upl nt ns _,λb o nb q=>?_,?_,(reverse_perm ms).trans pm⟩
   ·rw[aE (aX q loN)];exact S3.keep _ _ nb (s02 _ _ q)
   ·rw[ah];unfold aC;rw[map_reverse]
  ·refine bI c1 ?_;exact⟨ms,Z,T3,λb o nb q=>S3.keep _ _ nb (s02 _ _ q),hl3,pm⟩
 rintro σ HI ⟨os,rfl,TI,kp,hlI,pmo⟩;have nd:os.Nodup:=pmo.nodup_iff.mpr OS;have hlen:os.length=n:=by rw[pmo.length_eq,Mw]
 have all:∀x,x∈os↔x<n:=λx=>by rw[pmo.mem_iff,LW]
 obtain⟨ps,ps1,ps2⟩:=Ej nd hlen all;refine⟨(by show 0≤sizeLine;exact Mx _),λlf hf0=>?_⟩;obtain⟨yI,eI⟩:=TI.lst;have ntf:lf≠t₁:=λz=>by subst z;rw[eI] at hf0;cases hf0
 have nsf:=TI.off hf0;have nlf:lo≠lf:=λz=>by subst z;rw[hlI] at hf0;cases hf0
 have hfN:∀b o,b≠t₁->H b=some o->b≠lf:=λb o nb q z=>by subst z;rw[kp b o nb q] at hf0;cases hf0
 have sF:=aj hf0 (.lst []);have hf1:upd HI lf (.lst []) lf=some (.lst []):=ah;have TF:=TI.new hf0 (.lst []);have hlF:=sF _ _ hlI;generalize upd HI lf (.lst [])=HF at sF hf1 TF hlF ⊢;obtain⟨yF,eF⟩:=TF.lst;refine⟨_,Z,t₁,s₁,7,Z,TF,by omega,by omega,λrc zc ac bc TC=>?_⟩;have SC:bz t₁ HF _:=bz.up (ys:=zc) eF;generalize upd HF t₁ (.lst zc)=HC at TC SC ⊢;obtain⟨m,rfl⟩:=Nb ac;let Iv1:Nat->L2.St->Hp->Prop:=λi σ H'=>∃(xs:List V) (es:List Ln) (x5 x6 x7:Option V),σ=[some (.ref t₁),some (.int (n:Nat)),some (.ref lo),some (.ref lf),x5,x6,x7]/\cN K H' t₁ s₁/\(∀b o,b≠t₁->b≠lf->HF b=some o->H' b=some o)/\H' lf=some (.lst xs)/\cO (Gz K H') xs es/\es.length=i/\kX n es/\∀a b,(a,b)∈es->ps a<ps b
 refine⟨(m:Int),Z,by omega,by omega,cP (lo:=0) (n:=(m:Int).toNat) Iv1 ⟨[],[],none,none,none,Z,TC,(λb o nb _ q=>SC.keep _ _ nb q),SC.keep _ _ ntf hf1,.nil,Z,(λe he=>by cases he),λa b h=>by cases h⟩ ?_ ?_⟩
 ·rintro i σ H1 hi ⟨xs,es,x5,x6,x7,rfl,T1,kp1,hf,al,hlen1,ok,rk⟩;have hl1:=kp1 _ _ nt nlf hlF;obtain⟨y2,e2⟩:=T1.lst;refine⟨_,Z,_,Z,_,_,Z,Z,t₁,s₁,_,Z,T1,by omega,by omega,λr2 z2 a2 b2 T2=>?_⟩;have S2:bz t₁ H1 _:=bz.up (ys:=z2) e2;generalize upd H1 t₁ (.lst z2)=H2 at T2 S2 ⊢;obtain⟨at_,rfl⟩:=Nb a2;obtain⟨y3,e3⟩:=T2.lst;refine⟨_,Z,_,_,Z,Z,_,Z,_,Z,_,_,Z,Z,_,Z,_,_,Z,Z,t₁,s₁,_,Z,T2,by omega,by omega,λr3 z3 a3 b3 T3=>?_⟩;have S3:=S2.trans (bz.up (ys:=z3) e3);generalize upd H2 t₁ (.lst z3)=H3 at T3 S3 ⊢;refine⟨_,_,Z,Z,?_⟩;obtain⟨to,hto⟩:∃to:Nat,(at_:Int)+1+r3=(to:Nat):=⟨((at_:Int)+1+r3).toNat,by omega⟩;dsimp only;rw[hto];obtain⟨u,hu⟩:∃u,os[at_]?=some u:=⟨_,LL (by omega)⟩;obtain⟨w,hw⟩:∃u,os[to]?=some u:=⟨_,LL (by omega)⟩;have hl3:=S3.keep _ _ nt hl1;have hf3:=S3.keep _ _ ntf hf;refine⟨_,Z,.inl ⟨Z,_,aS.of hf3⟩,_,Z,_,Z,lo,_,_,_,Z,Z,aS.of hl3,aJ (v:=V.int (u:Nat)) (by unfold aC;rw[LX,hu];rfl),_,Z,_,Z,lo,_,_,_,Z,Z,aS.of hl3,aJ (v:=V.int (w:Nat)) (by unfold aC;rw[LX,hw];rfl),iY,λpe hpe=>?_⟩;have s4:=aj hpe (.tup [.int (u:Nat),.int (w:Nat)]);have h4:bH K (upd H3 pe (.tup [.int (u:Nat),.int (w:Nat)])) pe [.int (u:Nat),.int (w:Nat)]:=bH.of ah;have T4:=T3.same s4;generalize upd H3 pe (.tup [.int (u:Nat),.int (w:Nat)])=H4 at s4 h4 T4 ⊢;have S4:=S3.trans (bz.same s4 T3.lst);have hf4:=S4.keep _ _ ntf hf;have hxl:=al.len;refine⟨lf,xs,_,Z,Z,hf4,be (by omega),?_⟩;have t5:aM K H4 (upd H4 lf (.lst (xs++[.ref pe]))):=aM.up hf4 _;refine⟨_,es++[(u,w)],_,_,_,Z,T4.upl ntf nsf _,λb o nb nf q=>?_,ah,(al.mono λ_ _ q=>q.mono ((aM.step (K:=K) S4).trans t5)).snoc ⟨pe,Z,t5 _ _ h4⟩,by rw[MO,hlen1];rfl,λe he=>?_,λa b h=>?_⟩
  ·rw[aE nf];exact S4.keep _ _ nb (kp1 b o nb nf q)
  ·rcases Mh.mp he with z|z
   ·exact ok e z
   ·rw[LP.mp z];exact⟨(all u).mp (LQ hu),(all w).mp (LQ hw)⟩
  ·rcases Mh.mp h with z|z
   ·exact rk a b z
   ·cases LP.mp z
    rw[ps2 _ _ hu,ps2 _ _ hw];omega
 ·rintro σ H1 ⟨xs,es,x5,x6,x7,rfl,T1,kp1,hf,al,hlen1,ok,rk⟩;refine⟨_,Z,lf,_,Z,.inl ⟨aS.of hf,λp hp=>?_⟩⟩;have s6:=aj hp (.tup xs);have kpH:∀b o,b≠t₁->H b=some o->H1 b=some o:=λb o nb q=>kp1 b o nb (hfN b o nb q) (sF _ _ (kp b o nb q))
  exact k (.ref p) es _ (bz.trans ⟨kpH,⟨_,e0⟩,T1.lst⟩ (bz.same s6 T1.lst)) (T1.same s6) ⟨p,_,Z,bH.of ah,al.mono λ_ _ q=>q.mono (aM.same s6)⟩ ok ⟨ps,ps1,rk⟩ (by omega)
theorem Ff(T:eg K mg t):bD P w K mg base dF 7 t.a_Q24 t.d_Q24 ["_law_sheet"] (o7 K t.c_Q50):=by
 refine T.F_Q24.ok lZ (λvs H Q E h=>?_) (λcdv A outer s H vs Q E hr h=>?_)
 ·obtain⟨_,_,_,rfl,_⟩:=h;rfl
 obtain⟨v,ws,es,rfl,sa,k⟩:=h;refine dI.ok (af (b8 1 lZ.nd (bB (ad gf (ad (bM ag) ag lN) aH))) (af (za (i:=2) (R:=(λC dx H'=>C=t.c_Q50/\aB H H'/\∃(dd:Addr) (z:Nat) (f l:Nat->Int),dx=some dd/\H' dd=some (dO dd [("work",.int (z:Nat))])/\g6 ws es f l/\fR ws.length f l=some z)) Z Z Z Z T.m_Q25 lZ.nd Z Z (λ_=>(ao (b8 1 lZ.nd (bB (ad (fU (Fp T) (hr.mono (by decide)) Z T.m_Q12 T.F_Q12.kp T.b_Q12 .nil (EQ Z) (ad (qv 0) ag ae)) (ad (bM ag) ag lN) aF))))) (λ_=>(ao (b8 1 lZ.nd (bB (ad (qv 2) (ad (zj (Fh T) (by exact hr.inM (by decide)) Z T.m_Q23 T.F_Q23.kp T.b_Q23 .nil n9 (ad (qv 2) ag ae)) ag aF) ae)))))) (ao (aG (qv 1))))) ?_
 nofun
 refine⟨(by show 0≤sizeLine;exact Mx _),λl0 h0=>⟨iY,λp0 g0=>?_⟩⟩;have s0:=(aj h0 (.lst [])).trans (aj g0 (.tup [.non,.ref l0]));generalize upd (upd H l0 (.lst [])) p0 (.tup [.non,.ref l0])=H0 at s0 ⊢;have t0:=aM.same (K:=K) s0;refine⟨⟨_,Z,v,ws,es,Z,sa.mono t0,λf l lys w H1 s1 win nb ly dw=>⟨(by show 0≤sizeLine;exact Mx _),λl1 h1=>⟨iY,λp1 g1=>?_⟩⟩,λf l z dd H1 s1 win nb hd=>⟨_,Z,Z,s0.trans s1,dd,z,f,l,Z,hd,win,nb⟩⟩,?_⟩
 ·have sa':=aj h1 (.lst []);have sb:=aj g1 (.tup [w,.ref l1]);refine⟨_,Z,k f l lys _ _ (((s0.trans s1).trans sa').trans sb) win (λ_=>ly) ?_⟩;rw[nb];exact⟨p1,w,l1,Z,bH.of ah,dw.same (sa'.trans sb),sb _ _ ah⟩
 rintro C dx H' ⟨rfl,s1,dd,z,f,l,rfl,hd,win,nb⟩;refine⟨T.x_catch,dd,Z,λx hx=>?_⟩;have s2:=aj hx (wT x t.c_Q50 dd);have ex:=ah (H:=H') (a:=x) (o:=wT x t.c_Q50 dd);have ed:=s2 _ _ hd;generalize upd H' x (wT x t.c_Q50 dd)=H2 at s2 ex ed ⊢;refine⟨_,Z,_,Z,x,dd,_,Z,ex,ed,λl' H3 s3 hl=>⟨iY,λp4 g4=>?_⟩⟩;have s4:=aj g4 (.tup [.ref x,.ref l']);refine⟨_,Z,k f l [] _ _ (((s1.trans s2).trans s3).trans s4) win (λq=>by rw[nb] at q;cases q) ?_⟩;rw[nb];exact⟨p4,l',x,dd,Z,bH.of ah,s4 _ _ (s3 _ _ ex),s4 _ _ (s3 _ _ ed),s4 _ _ hl⟩
theorem EU(T:eg K mg t):bD P w K mg base dF 8 t.a_Q61 t.d_Q61 ["_law_script"] (pE K):=by
 refine T.F_Q61.ok fG (λvs H Q E h=>?_) (λcdv A outer s H vs Q E hr h=>?_)
 ·obtain⟨_,_,rfl,_⟩:=h;rfl
 obtain⟨a,ns,rfl,hS,hl,k⟩:=h;refine dI.ok (af (b8 1 fG.nd (df (Fa T) hr T.m_Q31 T.F_Q31.kp T.b_Q31 (ad (qv 0) ag ae))) (af (bS L9 Z (bU Z T.z_range (ad ai ag aH)) (au (i:=2) fG.nd Z (by first|exact L8 Z|exact L7 Z)) (af (b8 3 fG.nd (df (Fl T) hr T.m_Q18 T.F_Q18.kp T.b_Q18 (ad (qv 1) (ad (df (eQ T) hr T.m_Q32 T.F_Q32.kp T.b_Q32 (ad (qv 1) (ad ai ag aH) ae)) ag aF) ae))) (af (h9 (bA (aD fV (df (eQ T) hr T.m_Q32 T.F_Q32.kp T.b_Q32 (ad (qv 1) (ad ai ag aH) ae)) ai (aL _)) (ao (b8 3 fG.nd (bJ br (by rfl) T.z_tuple MR (ad (bn (N':=["_law_work"]) (src:=[none]) Z (by exact(cW (qv 3))) (λ_ _ _ _ _=>(by exact(by exact au (i:=0) (by show Mg (["_law_work"]:List Mj);decide +kernel) (by exact Z) (by first|exact L8 Z|exact L7 Z)))) (λ_ _ _ _ _=>bZ) (λ_ _ _ _ _=>(by exact(by exact(bB (ad (by exact(aN gS (by exact(aZ (aU (K:=K) (by exact Z)) (by exact(qv 0)) ai (by exact λ_ _=>Z))) ai)) (ad (by exact(aN fo ai (by exact(aN gS (by exact(aN fo ai (by exact(aZ (aU (K:=K) (by exact Z)) (by exact(qv 0)) ai (by exact λ_ _=>Z))))) ai)))) (ad (by exact(aZ (aU (K:=K) (by exact Z)) (by exact(qv 0)) ai (by exact λ_ _=>Z))) ag aI) bx) bx))))) (by exact trivial) Z (by decide +kernel) Z (by decide +kernel) (by exact aQ Z trivial)) ag dq)))) aP)) (af (b8 4 fG.nd (bB (ad (qv 3) (ad (df (Fj T) hr T.m_Q21 T.F_Q21.kp T.b_Q21 (ad (qv 1) (ad (ap aA (by rfl) T.z_len MH (ad (qv 3) ag ae)) ag aF) ae)) ag aF) ae))) (af (b8 5 fG.nd (ap (oC hr) (by rfl) T.z_repr boot_repr (ad (qv 4) ag ae))) (af (em (df (Ff T) hr T.m_Q24 T.F_Q24.kp T.b_Q24 (ad (qv 4) ag ae)) (ia Z (bi (au (i:=6) fG.nd Z (by first|exact L8 Z|exact L7 Z)) (bi (au (i:=7) fG.nd Z (by first|exact L8 Z|exact L7 Z)) c6)))) (af (b8 8 fG.nd (df (Hl T) hr T.m_Q8 T.F_Q8.kp T.b_Q8 (ad (qv 4) ag ae))) (af (bA (aD iR (ap (oC hr) (by rfl) T.z_repr boot_repr (ad (qv 4) ag ae)) (qv 5) (aL _)) (ao (aG dM)) aP) (ao (bA (cu (ap bh (by rfl) T.z_isinstance Me (ad (qv 8) (ad (bE (v:=V.ty "int") Z T.z_int boot_int Z) ag ae) ae))) (ao (bA (eY (iP (aD (ic hr) (qv 7) (bM (ad dM (ad dM (ad dM (ad dM ag aH) aH) aH) aH)) (aL _)) (gc (hX (cu (df (z9 T) hr T.m_Q17 T.F_Q17.kp T.b_Q17 (ad (qv 8) (ad (BE (K:=K) Z (qv 6) Z) ag xF) ae))))))) (ao (aG dM)) aP)) (af (b8 9 fG.nd (df (Fn T) hr T.m_Q14 T.F_Q14.kp T.b_Q14 (ad (qv 8) ag ae))) (af (bA (eY (iP (aD (ic hr) (qv 7) (bM ag) (aL _)) (gc (hX (cu (df (z9 T) hr T.m_Q17 T.F_Q17.kp T.b_Q17 (ad (df (Fi T) hr T.m_Q22 T.F_Q22.kp T.b_Q22 (ad (qv 8) (ad (bW az (qv 4) ai) (ad (qv 9) ag ae) aI) ae)) (ad (qv 6) ag ae) aF))))))) (ao (aG dM)) aP) (af (bA (hX (cu (df (Hk T) hr T.m_Q9 T.F_Q9.kp T.b_Q9 (ad (qv 4) (ad (qv 6) ag ae) ae)))) (ao (aG dM)) aP) (ao (bA (aD (ic hr) (bn (N':=["_law_turn"]) (src:=[none]) Z (by exact(cW (qv 6))) (λ_ _ _ _ _=>(by exact(by exact au (i:=0) (by show Mg (["_law_turn"]:List Mj);decide +kernel) (by exact Z) (by first|exact L8 Z|exact L7 Z)))) (λ_ _ _ _ _=>bZ) (λ_ _ _ _ _=>(by exact(by exact(fU (rp T) (by exact hr.mono (by decide)) (by exact Z) T.m_Q40 T.F_Q40.kp T.b_Q40 (by exact .nil) (by exact n9) (ad (by exact(bn (N':=["_law_piece"]) (src:=[none]) (by exact Z) (by exact(BD (K:=K) (by exact Z) (by exact(qv 0)))) (by exact λ_ _ _ _ _=>(by exact(by exact au (i:=0) (by show Mg (["_law_piece"]:List Mj);decide +kernel) (by exact Z) (by first|exact L8 Z|exact L7 Z)))) (by exact λ_ _ _ _ _=>bZ) (by exact λ_ _ _ _ _=>(by exact(by exact(aZ (aU (K:=K) (by exact Z)) (by exact(qv 0)) ai (by exact λ_ _=>Z))))) (by exact trivial) (by exact Z) (by decide +kernel) (by exact Z) (by decide +kernel) (by exact aQ Z trivial))) ag dq))))) (by exact trivial) Z (by decide +kernel) Z (by decide +kernel) (by exact aQ Z trivial)) (qv 9) (aL _)) (ao (aG dM)) aP))))))))))))))) (ao (aG dM)))) ?_
 nofun
 refine⟨_,Z,a,ns,Z,hS,hl,λt₁ H1 s1 ht T1=>?_⟩;let Iv1:Nat->L2.St->Hp->Prop:=λi σ H'=>∃(x3 x4 x5 x6 x7 x8 x9 xA:Option V),σ=[some (.ref a),some (.ref t₁),x3,x4,x5,x6,x7,x8,x9,xA]/\cN K H' t₁ a
 refine⟨6,Z,by decide,by decide,cP (lo:=0) (n:=6) Iv1 ⟨none,none,none,none,none,none,none,none,Z,T1⟩ ?_ ?_⟩
 ·rintro i σ H2 hi ⟨x3,x4,x5,x6,x7,x8,x9,xA,rfl,T2⟩;refine⟨_,Z,_,Z,t₁,a,9,Z,T2,by decide,by decide,λr1 xx a1 b1 T3=>?_⟩;generalize upd H2 t₁ (.lst xx)=H3 at T3 ⊢;obtain⟨d,rfl⟩:=Nb a1;refine⟨t₁,a,d,Z,T3,by omega,λv ws H4 S4 T4 wv hw ok=>?_⟩;refine⟨λσ H'=>∃(v:V) (ws:List Wk),σ=[some (.ref a),some (.ref t₁),some (.int (0+(i:Int))),some v,x5,x6,x7,x8,x9,xA]/\cN K H' t₁ a/\fO K H' v ws/\ws.length≤8/\∀w∈ws,bT w,?_,?_⟩
  ·obtain⟨y6,e6⟩:=T4.lst;refine⟨_,Z,t₁,a,3,Z,T4,by decide,by decide,λr6 z6 a6 b6 T6=>?_⟩;have S6:bz t₁ H4 _:=bz.up (ys:=z6) e6;generalize upd H4 t₁ (.lst z6)=H6 at T6 S6 ⊢;have wv6:=wv.mono (aM.step (K:=K) S6);refine⟨_,_,Z,Z,_,Z,wk (λ_=>?_) (λ_=>⟨v,ws,Z,T6,wv6,by omega,ok⟩)⟩;obtain⟨p,xs,rfl,hp,al⟩:=wv6;refine⟨_,Z,p,Z,⟨_,hp⟩,λD hD=>dk (K:=K) (P:=A9 K) (ds:=ws) (f:=λw:Wk=>(w.1/3,23-(23-w.2.1)/3,w.2.2)) (λ_ _ _ _ t p=>p.mono t) hD hp al.len (by have:=al.len;omega) (λi x d H' hx hd s' R E kR=>?_) λH7 ys s7 hD7 al7=>?_⟩
   ·obtain⟨d',hd',pw,am,rfl,hpw,ram⟩:=al.at hx;rw[hd] at hd'
    cases hd'
    have o:=ok d (LQ hd);have o2:=o.lt;have t':=aM.same (K:=K) s';refine⟨eU.set Z,?_⟩;refine⟨_,Z,pw,_,_,_,Z,Z,t' _ _ hpw,Z,_,_,Z,Z,⟨by decide,by decide⟩,_,Z,pw,_,_,_,Z,Z,t' _ _ hpw,Z,_,_,Z,Z,_,_,Z,Z,⟨by decide,by decide⟩,_,_,Z,Z,_,Z,pw,_,_,_,Z,Z,t' _ _ hpw,Z,?_⟩;dsimp only;rw[show(d.1:Int)/3=((d.1/3:Nat):Int) by omega,show(23:Int)-(23-(d.2.1:Int))/3=((23-(23-d.2.1)/3:Nat):Int) by omega];refine⟨Du,λpn hpn=>?_⟩;have sn:=aj hpn (.tup [.int ((d.1/3:Nat):Int),.int ((23-(23-d.2.1)/3:Nat):Int),am]);exact kR _ _ sn ⟨pn,am,Z,bH.of ah,(ram.mono t').mono (aM.same sn)⟩
   ·refine⟨D,_,Z,.inl ⟨aS.of hD7,λp7 hp7=>?_⟩⟩;have s8:=aj hp7 (.tup ys);refine⟨.ref p7,_,Z,T6.same (s7.trans s8),⟨p7,ys,Z,bH.of ah,al7.mono λ_ _ q=>q.mono (aM.same s8)⟩,by rw[LO];omega,λw hw'=>?_⟩;obtain⟨z,hz,rfl⟩:=Mc.mp hw';have o:=ok z hz;have o1:=o.le;have o2:=o.lt;exact⟨by show z.1/3≤23-(23-z.2.1)/3;omega,by show 23-(23-z.2.1)/3<24;omega,o.am⟩
  ·rintro σ H7 ⟨v,ws,rfl,T7,wv,w8,ok⟩;obtain⟨p,xs,rfl,hp,al⟩:=id wv;refine⟨_,Z,_,Z,_,Z,p,_,Z,.inr hp,t₁,a,ws.length,(by rw[al.len];rfl),T7,by omega,λvl es H8 S8 T8 lv eok rk e6=>?_⟩;refine⟨iY,λps hps=>?_⟩;have s9:=aj hps (.tup [.ref p,vl]);have sh9:bH K (upd H8 ps (.tup [.ref p,vl])) ps [.ref p,vl]:=bH.of ah;have sv:Dr K (upd H8 ps (.tup [.ref p,vl])) (.ref ps) ws es:=⟨ps,.ref p,vl,Z,bH.of ah,(wv.mono (aM.step (K:=K) S8)).mono (aM.same s9),lv.mono (aM.same s9)⟩;have T9:=T8.same s9;have lv9:=lv.mono (aM.same s9);generalize upd H8 ps (.tup [.ref p,vl])=H9 at sv sh9 T9 lv9 ⊢;have sa:Ba K H9 (.ref ps) ws es:=⟨sv,w8,ok,eok,rk,by omega⟩;have shw:=xQ ok (by omega) eok (by omega);refine⟨_,Z,.ref ps,_,Z,sv.deep,shw,?_⟩;refine⟨_,Z,.ref ps,ws,es,Z,sa,λf l lys u HC sC win ly tr=>?_⟩;have tC:=aM.same (K:=K) sC;have oknb:fR ws.length f l=none->(fF ws f l).length=ws.length:=λ_=>mW ws f l
   cases hq:fR ws.length f l with
   |none=>
    rw[hq] at tr;obtain⟨pu,x,lm,rfl,hpu,dx,hl_⟩:=tr;refine⟨pu,_,Z,hpu,Z,_,_,Z,_,_,Z,Z,?_⟩;refine⟨_,Z,.ref ps,ws,es,Z,sa.mono tC,λf' l' vn HD sD win' dn=>?_⟩;rw[qW win' win] at dn;unfold qX at dn;rw[hq] at dn;dsimp only at dn;have s0D:=sC.trans sD;have t0D:=aM.same (K:=K) s0D;have ok':=AH ok win hq;have len':=mW ws f l;have lyy:=ly hq;have lok:=tM lyy (by decide) (λt ht=>LW.mp ht);have ams:=sG ok' (by omega) lok;have l24:(aR (fF ws f l) lys).length=24:=by unfold aR;rw[gK];rfl
    have wvn:=uZ ok win dn;refine⟨_,Z,.ref ps,_,Z,sv.deep.same s0D,shw,_,Z,Z,_,Z,iV Z ?_⟩;refine⟨_,Z,vn,_,"int",false,Z,dn,Z,_,Z,cJ ?_⟩;refine⟨_,Z,vn,fF ws f l,Z,wvn,by omega,ok',λlsp xsp lys' HE sE hsp asp ly'=>?_⟩;obtain rfl:=g7.uniq lyy ly';have s0E:=s0D.trans sE;have sDE:=sD.trans sE;refine⟨_,Z,(by show 0≤sizeLine;exact Mx _),λl5 g5=>?_⟩;have e5:=aj g5 (.lst []);have h5:upd HE l5 (.lst []) l5=some (.lst []):=ah;have sD5:=sDE.trans e5;have s05:=s0E.trans e5;have hsp5:=e5 _ _ hsp;have asp5:=asp.mono λ_ _ z=>z.mono (aM.same e5)
    have wv5:=(wvn.mono (aM.same sE)).mono (aM.same e5);generalize upd HE l5 (.lst [])=H5 at e5 h5 sD5 s05 hsp5 asp5 wv5 ⊢;refine⟨.list [],.list [],.lst (aS.of (sD5 _ _ hl_)) .nil,.lst (aS.of h5) .nil,Z,Z,by decide,_,Z,dU Z ?_⟩;have t05:=aM.same (K:=K) s05;have rk':nk (fF ws f l).length es:=by rw[len'];exact rk
    have nl:=oh (es:=es) ok' rk' lyy ams;have ak:CS K H5 vn vl (fF ws f l) es:=⟨wv5,by omega,ok',lv9.mono t05,by rw[len'];exact eok,rk',by omega⟩;refine⟨_,Z,_,Z,ps,_,_,_,Z,Z,t05 _ _ sh9,Z,_,Z,vn,vl,lsp,xsp,fF ws f l,es,aR (fF ws f l) lys,Z,ak,hsp5,asp5,l24,ams,λvd H6 s6 dd=>?_⟩;unfold El at dd;rw[nl] at dd;dsimp only at dd;have oi:=dz (es:=es) rk' (fF ws f l).length (LN _);have pk:=eD (ord:=aO (fF ws f l) es (fF ws f l).length) ok' oi.lt ams 24;have olen:=oi.len;have ed:dH (fF ws f l) es (aR (fF ws f l) lys)=aT (fF ws f l) (aO (fF ws f l) es (fF ws f l).length) (aR (fF ws f l) lys) 24:=Z;rw[←ed] at pk;have sD6:=sD5.trans s6;have s06:=s05.trans s6;refine⟨_,Z,vd,x,_,Z,dd,dx.same sD6,wF _,F2 (by rw[pk.2];exact LN _) (λq hq=>by have:=(pk.1.pc q hq).1;omega),λH7 s7=>⟨_,Z,dU (b:=!true) Z ?_⟩⟩;have sD7:=sD6.trans s7;have s07:=s06.trans s7;refine⟨_,Z,_,Z,.ref ps,x,ws,es,_,Z,sa.mono (aM.same s07),dx.same sD7,AG ok w8 eok rk win hq lyy,λH8 s8=>⟨_,Z,dU (b:=!true) Z ?_⟩⟩;have sD8:=sD7.trans s8;have s08:=s07.trans s8;obtain⟨pf,xf,rfl,hpf,apf⟩:=u5 (dx.same sD8);have lpf:xf.length=(dH (fF ws f l) es (aR (fF ws f l) lys)).2.length:=apf.len;refine⟨_,Z,pf,Z,⟨_,hpf⟩,λD2 hD2=>dk (K:=K) (P:=RV K) (ds:=(dH (fF ws f l) es (aR (fF ws f l) lys)).2) (f:=λq=>dS (q.map (·.2))) (λ_ _ _ _ t z=>z.mono t) hD2 hpf lpf (by rw[pk.2];decide) (λi x d H' hx hd sm Rk E kR=>?_) λHA ms sA hmA amA=>?_⟩
    ·obtain⟨d',hd',pq,yq,rfl,hpq,aq⟩:=apf.at hx;rw[hd] at hd'
     cases hd'
     have t':=aM.same (K:=K) sm;have dok:=pk.1.pc d (LQ hd);refine⟨eU.set Z,_,Z,pq,Z,⟨_,t' _ _ hpq⟩,λD3 hD3=>dk (K:=K) (P:=RV K) (ds:=d) (f:=λc=>c.2) (λ_ _ _ _ t z=>z.mono t) hD3 (t' _ _ hpq) aq.len (by have:=dok.1;omega) (λj y c H'' hy hc sm2 Rk2 E2 kR2=>?_) λHB qs sB hqB aqB=>?_⟩
     ·obtain⟨c',hc',pc_,rv_,rfl,hpc,rrv⟩:=aq.at hy;rw[hc] at hc'
      cases hc'
      have t'':=t'.trans (aM.same (K:=K) sm2);exact⟨eU.set Z,_,Z,pc_,_,_,_,Z,Z,t'' _ _ hpc,Z,kR2 _ _ (aB.refl _) (rrv.mono t'')⟩
     refine⟨D3,qs,d.map (λc=>c.2),Z,aS.of hqB,aqB,(λr hr=>?_),(by rw[LO];have:=dok.1;omega),λw HE' sE' rw_=>kR w _ (sB.trans sE') rw_⟩;obtain⟨c,hc,rfl⟩:=Mc.mp hr;exact(dok.2 c hc).2.wf
    rw[xy ok' rk' lyy ams] at amA;have hspA:=sA _ _ (s8 _ _ (s7 _ _ (s6 _ _ hsp5)));have aspA:=asp5.mono λ_ _ z=>z.mono (aM.same (((s6.trans s7).trans s8).trans sA))
    have dA:bP K HA (.ref D2) (.list ((aR (fF ws f l) lys).map dR)):=.lst (aS.of hmA) (amA.deep λ_ _ z=>z.deep);have dB:bP K HA (.ref lsp) (.list ((aR (fF ws f l) lys).map dR)):=.lst (aS.of hspA) (aspA.deep λ_ _ z=>z.deep);refine⟨_,Z,_,_,dA,dB,Ck _,Ck _,HS _,_,Z,dU (by rw[show M7 (.list ((aR (fF ws f l) lys).map dR)) (.list ((aR (fF ws f l) lys).map dR))=true from HQ _];rfl) ?_⟩;exact⟨_,_,_,_,_,_,_,_,Z,T9.same (s08.trans sA)⟩
   |some z=>
    rw[hq] at tr;obtain⟨pu,lm,x,dd,rfl,hpu,hx,hd,hl_⟩:=tr;refine⟨pu,_,Z,hpu,Z,_,_,Z,_,_,Z,Z,?_⟩;refine⟨_,Z,.ref ps,ws,es,Z,sa.mono tC,λf' l' vn HD sD win' dn=>?_⟩;rw[qW win' win] at dn;unfold qX at dn;rw[hq] at dn;dsimp only at dn;have s0D:=sC.trans sD;refine⟨_,Z,.ref ps,_,Z,sv.deep.same s0D,shw,_,Z,Z,_,Z,iV Z ?_⟩;refine⟨_,Z,vn,_,"int",true,Z,dn,Z,_,Z,d0 ?_⟩;refine⟨_,Z,Gr,λl5 g5=>?_⟩;have e5:=aj g5 (.lst [.bl true,.bl true,.bl true,.bl false]);have h5:upd HD l5 (.lst [.bl true,.bl true,.bl true,.bl false]) l5=some (.lst [.bl true,.bl true,.bl true,.bl false]):=ah;have sD5:=sD.trans e5;have dn5:=dn.same e5;have s05:=s0D.trans e5;generalize upd HD l5 (.lst [.bl true,.bl true,.bl true,.bl false])=H5 at e5 h5 sD5 dn5 s05 ⊢;refine⟨.list [.bool true,.bool true,.bool true,.bool false],.list [.bool true,.bool true,.bool true,.bool false],.lst (aS.of (sD5 _ _ hl_)) (.cons (.bl _) (.cons (.bl _) (.cons (.bl _) (.cons (.bl _) .nil)))),.lst (aS.of h5) (.cons (.bl _) (.cons (.bl _) (.cons (.bl _) (.cons (.bl _) .nil)))),Z,Z,by decide,_,Z,dU Z ?_⟩;refine⟨_,Z,_,Z,x,_,dd,_,_,_,Z,.inl (sD5 _ _ hx),sD5 _ _ hd,T.X_Q50.cl,T.g_Q50,T.n_Q50_work,Z,?_⟩;refine⟨vn,.int (z:Nat),_,Z,dn5,.int _,Mx _,Z,λH6 s6=>⟨_,Z,dU (b:=!true) Z ?_⟩⟩;exact⟨_,_,_,_,_,_,_,_,Z,T9.same (s05.trans s6)⟩
 ·rintro σ H2 ⟨x3,x4,x5,x6,x7,x8,x9,xA,rfl,T2⟩;exact k H2
end
set_option autoImplicit true in
set_option relaxedAutoImplicit true in
open PySem.W in
theorem all_mk{l:OpenLaw}{w:MD}{K:Frag}{h:MA}{mg:Mj->Option Value}{fa:Addr}(X:K.In h)(G:h.Ns Mf mg)(hfa:mg "law"=some (.ref fa))
  {f_Q47:Addr} {d_Q47:LS} (h_copied:ee K "copied" yj f_Q47 d_Q47)
  {f_Q0:Addr} {d_Q0:LS} (h_greatest_divisor:ee K "greatest_divisor" Ee f_Q0 d_Q0)
  {f_Q53:Addr} {d_Q53:LS} (h_ratio:ee K "ratio" yg f_Q53 d_Q53)
  {f_Q58:Addr} {d_Q58:LS} (h_plus:ee K "plus" xY f_Q58 d_Q58)
  {f_Q54:Addr} {d_Q54:LS} (h_minus:ee K "minus" yf f_Q54 d_Q54)
  {f_Q55:Addr} {d_Q55:LS} (h_times:ee K "times" ye f_Q55 d_Q55)
  {f_Q59:Addr} {d_Q59:LS} (h_over:ee K "over" xX f_Q59 d_Q59)
  {f_Q37:Addr} {d_Q37:LS} (h_is_less:ee K "is_less" yo f_Q37 d_Q37)
  {f_Q48:Addr} {d_Q48:LS} (h_lesser:ee K "lesser" yi f_Q48 d_Q48)
  {f_Q56:Addr} {d_Q56:LS} (h_total:ee K "total" yc f_Q56 d_Q56)
  {f_Q10:Addr} {d_Q10:LS} (h_whole_parts:ee K "whole_parts" yU f_Q10 d_Q10)
  {f_Q15:Addr} {d_Q15:LS} (h_in_window:ee K "in_window" yP f_Q15 d_Q15)
  {f_Q11:Addr} {d_Q11:LS} (h_no_leanings:ee K "no_leanings" yT f_Q11 d_Q11)
  {f_Q27:Addr} {d_Q27:LS} (h_add_lean:ee K "add_lean" yD f_Q27 d_Q27)
  {f_Q4:Addr} {d_Q4:LS} (h_all_leanings:ee K "all_leanings" Ea f_Q4 d_Q4)
  {f_Q28:Addr} {d_Q28:LS} (h_drawn_in:ee K "drawn_in" yC f_Q28 d_Q28)
  {f_Q5:Addr} {d_Q5:LS} (h_kept_windows:ee K "kept_windows" D9 f_Q5 d_Q5)
  {f_Q60:Addr} {d_Q60:LS} (h_held:ee K "held" xW f_Q60 d_Q60)
  {f_Q1:Addr} {d_Q1:LS} (h_tightest_places:ee K "tightest_places" Ed f_Q1 d_Q1)
  {f_Q29:Addr} {d_Q29:LS} (h_tightest:ee K "tightest" yB f_Q29 d_Q29)
  {f_Q49:Addr} {d_Q49:LS} (h_layers:ee K "layers" yh f_Q49 d_Q49)
  {f_Q2:Addr} {d_Q2:LS} (h_layer_density:ee K "layer_density" Ec f_Q2 d_Q2)
  {f_Q6:Addr} {d_Q6:LS} (h_layer_speeds:ee K "layer_speeds" D8 f_Q6 d_Q6)
  {f_Q3:Addr} {d_Q3:LS} (h_first_to_come:ee K "first_to_come" Eb f_Q3 d_Q3)
  {f_Q30:Addr} {d_Q30:LS} (h_order_of:ee K "order_of" yz f_Q30 d_Q30)
  {f_Q16:Addr} {d_Q16:LS} (h_deal_turn:ee K "deal_turn" yO f_Q16 d_Q16)
  {f_Q57:Addr} {d_Q57:LS} (h_dealt:ee K "dealt" xZ f_Q57 d_Q57)
  {f_Q12:Addr} {d_Q12:LS} (h_least_plan:ee K "least_plan" yS f_Q12 d_Q12)
  {f_Q31:Addr} {d_Q31:LS} (h_law_tape:ee K "_law_tape" yy f_Q31 d_Q31)
  {f_Q32:Addr} {d_Q32:LS} (h_law_draw:ee K "_law_draw" yx f_Q32 d_Q32)
  {f_Q17:Addr} {d_Q17:LS} (h_law_alike:ee K "_law_alike" yN f_Q17 d_Q17)
  {f_Q33:Addr} {d_Q33:LS} (h_law_frac:ee K "_law_frac" yw f_Q33 d_Q33)
  {f_Q38:Addr} {d_Q38:LS} (h_law_add:ee K "_law_add" yn f_Q38 d_Q38)
  {f_Q39:Addr} {d_Q39:LS} (h_law_mul:ee K "_law_mul" ym f_Q39 d_Q39)
  {f_Q34:Addr} {d_Q34:LS} (h_law_less:ee K "_law_less" yu f_Q34 d_Q34)
  {f_Q40:Addr} {d_Q40:LS} (h_law_sum:ee K "_law_sum" yl f_Q40 d_Q40)
  {f_Q18:Addr} {d_Q18:LS} (h_law_works:ee K "_law_works" yM f_Q18 d_Q18)
  {f_Q19:Addr} {d_Q19:LS} (h_law_units:ee K "_law_units" yL f_Q19 d_Q19)
  {f_Q7:Addr} {d_Q7:LS} (h_law_tightest:ee K "_law_tightest" D7 f_Q7 d_Q7)
  {f_Q13:Addr} {d_Q13:LS} (h_law_layers:ee K "_law_layers" yR f_Q13 d_Q13)
  {f_Q35:Addr} {d_Q35:LS} (h_law_pace:ee K "_law_pace" yt f_Q35 d_Q35)
  {f_Q14:Addr} {d_Q14:LS} (h_law_speeds:ee K "_law_speeds" yQ f_Q14 d_Q14)
  {f_Q20:Addr} {d_Q20:LS} (h_law_above:ee K "_law_above" yK f_Q20 d_Q20)
  {f_Q21:Addr} {d_Q21:LS} (h_law_leans:ee K "_law_leans" yJ f_Q21 d_Q21)
  {f_Q41:Addr} {d_Q41:LS} (h_law_key:ee K "_law_key" yk f_Q41 d_Q41)
  {f_Q36:Addr} {d_Q36:LS} (h_law_next:ee K "_law_next" yr f_Q36 d_Q36)
  {f_Q22:Addr} {d_Q22:LS} (h_law_dealt:ee K "_law_dealt" yH f_Q22 d_Q22)
  {f_Q8:Addr} {d_Q8:LS} (h_law_drawn_in:ee K "_law_drawn_in" D6 f_Q8 d_Q8)
  {f_Q9:Addr} {d_Q9:LS} (h_law_is_right:ee K "_law_is_right" DZ f_Q9 d_Q9)
  {f_Q23:Addr} {d_Q23:LS} (h_law_marks:ee K "_law_marks" yG f_Q23 d_Q23)
  {f_Q24:Addr} {d_Q24:LS} (h_law_tried:ee K "_law_tried" yE f_Q24 d_Q24)
  {f_Q61:Addr} {d_Q61:LS} (h_law:ee K "law" xV f_Q61 d_Q61)
  {f_NOUGHT:Addr} {od_NOUGHT:Option Addr} {sl_NOUGHT:Array (Option Value)} {tkNOUGHT0 tkNOUGHT1:TX} {n_NOUGHT:Nat} (p_NOUGHT:nsIn K Mf "NOUGHT"=some (some (.ref f_NOUGHT))) (l_NOUGHT:K.lookup f_NOUGHT=some ⟨.type "tuple",od_NOUGHT,.seq #[.int (0) tkNOUGHT0,.int (1) tkNOUGHT1] n_NOUGHT,sl_NOUGHT⟩)
  {tkTURNS:TX} (p_TURNS:nsIn K Mf "TURNS"=some (some (.int (24) tkTURNS)))
  {cB NB:Addr} {nmB qB:Mj} {bsB:List Value} {hdB:Bool} {snB:List Mj} {suB:List Value} {abB:Bool} {coB:Option Bool} {ddB:Option Addr} {j0 j1 j2 j3 j5:Option Value} {ocB:Value} {odB:Option Addr} {esB:Array Rm} {nB:Nat} {slB:Array (Option Value)}
  (pB:nsIn K Mf "PaceError"=some (some (.ref cB))) (lB:K.lookup cB=some (Oh nmB qB cB NB bsB [.type "ValueError",.type "Exception",.type "BaseException",.type "object"] hdB snB suB abB coB ddB j0 j1 j2 j3 j5 "ValueError.__new__")) (lnB:K.lookup NB=some ⟨ocB,odB,.dict esB nB,slB⟩) (hsB:lL esB=true) (hnB:(nsFind esB "__init__").isNone=true)
  (cgB:specialIn K (.builtin "object.__class__") "__get__"=some (some (.builtin "getset_descriptor.__get__"))) (ctB:takesIn K (.builtin "object.__class__")=some true)
  {c_Q50 N_Q50 i_Q50:Addr} {nm_Q50 q_Q50:Mj} {bs_Q50:List Value} {hd_Q50:Bool} {sn_Q50:List Mj} {su_Q50:List Value} {ab_Q50:Bool} {co_Q50:Option Bool} {dd_Q50:Option Addr} {k0_Q50 k1_Q50 k2_Q50 k3_Q50 k5_Q50:Option Value} {od_Q50 an_Q50:Option Addr} {sl_Q50:Array (Option Value)} {oc_Q50 kV_Q50 dc_Q50 pm_Q50 cd_Q50 ct_Q50:Value}
  (p_Q50:nsIn K Mf "NoRoom"=some (some (.ref c_Q50))) (lc_Q50:K.lookup c_Q50=some (Oh nm_Q50 q_Q50 c_Q50 N_Q50 bs_Q50 (.ref cB::[.type "ValueError",.type "Exception",.type "BaseException",.type "object"]) hd_Q50 sn_Q50 su_Q50 ab_Q50 co_Q50 dd_Q50 k0_Q50 k1_Q50 k2_Q50 k3_Q50 k5_Q50 "ValueError.__new__")) (fi_Q50:findIn K (.ref c_Q50) "__init__"=some (some (.ref i_Q50)))
  (l_Q50:K.lookup i_Q50=some ⟨oc_Q50,od_Q50,.func (fnOf "__init__" "NoRoom.__init__" (fB nY) (dZ nY) (av nY) .none kV_Q50 dc_Q50 pm_Q50 an_Q50 cd_Q50 ct_Q50),sl_Q50⟩) (cd_Q50_:codeIn K cd_Q50 "NoRoom.__init__"=true) (ki_Q50:keepIn K (.ref i_Q50)=true) (ti_Q50:typeIn K (.ref i_Q50)=some (.type "function")) (kc_Q50:keepIn K (.ref c_Q50)=true)
  (hh_Q50:hasDictIn K c_Q50=true) (sa_Q50:findIn K (.ref c_Q50) "__setattr__"=some (some (.builtin "object.__setattr__")))
  (na_Q50_work:findIn K (.ref c_Q50) "work"=some none) (ga_Q50:findIn K (.ref c_Q50) "__getattribute__"=some (some (.builtin "BaseException.__getattribute__"))) (gn_Q50:findIn K (.ref c_Q50) "__getattr__"=some none) (cl_Q50:findIn K (.ref c_Q50) "__class__"=some (some (.builtin "object.__class__")))
  {c_Q25:Addr} (p_Q25:nsIn K Mf "PaceError"=some (some (.ref c_Q25)))
  {c_Q42:Addr} (p_Q42:nsIn K Mf "NoLeast"=some (some (.ref c_Q42)))
  {c_Q51:Addr} (p_Q51:nsIn K Mf "NoPlan"=some (some (.ref c_Q51)))
  {c_Q43:Addr} (p_Q43:nsIn K Mf "NoPrice"=some (some (.ref c_Q43)))
  {c_Q52:Addr} (p_Q52:nsIn K Mf "NoMuch"=some (some (.ref c_Q52)))
  {c_Q44:Addr} (p_Q44:nsIn K Mf "NoSheet"=some (some (.ref c_Q44)))
  {c_Q45:Addr} (p_Q45:nsIn K Mf "NoSpeed"=some (some (.ref c_Q45)))
  {c_Q26:Addr} (p_Q26:nsIn K Mf "NoStretch"=some (some (.ref c_Q26)))
  {c_Q46:Addr} (p_Q46:nsIn K Mf "NoRatio"=some (some (.ref c_Q46)))
  (w_x_catch:exmOne K (.ref c_Q50) (.ref c_Q25)=some true)
  (w_y_self:kitOne K (.ref c_Q50) (.ref c_Q50)=some true)
  (w_y_base:kitOne K (.ref c_Q50) (.ref c_Q25)=some true)
  (w_y_val:kitOne K (.ref c_Q50) (.type "ValueError")=some true)
  (w_y_not:kitAny K (.ref c_Q50) [.ref c_Q42,.ref c_Q52,.ref c_Q51,.ref c_Q43,.ref c_Q44,.ref c_Q45,.ref c_Q26]=some false)
  (z_ValueError:nsIn K Mf "ValueError"=some none)
  (z_abs:nsIn K Mf "abs"=some none)
  (z_all:nsIn K Mf "all"=some none)
  (z_any:nsIn K Mf "any"=some none)
  (z_bool:nsIn K Mf "bool"=some none)
  (z_enumerate:nsIn K Mf "enumerate"=some none)
  (z_int:nsIn K Mf "int"=some none)
  (z_isinstance:nsIn K Mf "isinstance"=some none)
  (z_len:nsIn K Mf "len"=some none)
  (z_list:nsIn K Mf "list"=some none)
  (z_max:nsIn K Mf "max"=some none)
  (z_min:nsIn K Mf "min"=some none)
  (z_range:nsIn K Mf "range"=some none)
  (z_repr:nsIn K Mf "repr"=some none)
  (z_sorted:nsIn K Mf "sorted"=some none)
  (z_str:nsIn K Mf "str"=some none)
  (z_sum:nsIn K Mf "sum"=some none)
  (z_tuple:nsIn K Mf "tuple"=some none)
  : ∃fd:LS,(∀(s:LV) (v:Value),QH s fd ⟨[v],[]⟩ [("_law_script",v)])/\∀base:MA,K.In base->base.Ns Mf mg->bD l.prog w K mg base dF 8 fa fd ["_law_script"] (pE K):=by
 have e:=hfa.symm.trans (mg_of X G h_law.p)
 cases e
 obtain⟨_,_,_,_,_,_,_,_,_,rfl,_,_⟩:=h_law.F.ex;have F_Q50:=Ax (st:=nY) l_Q50 cd_Q50_ ki_Q50;have T:eg K mg ⟨f_Q47,_,f_Q0,_,f_Q53,_,f_Q58,_,f_Q54,_,f_Q55,_,f_Q59,_,f_Q37,_,f_Q48,_,f_Q56,_,f_Q10,_,f_Q15,_,f_Q11,_,f_Q27,_,f_Q4,_,f_Q28,_,f_Q5,_,f_Q60,_,f_Q1,_,f_Q29,_,f_Q49,_,f_Q2,_,f_Q6,_,f_Q3,_,f_Q30,_,f_Q16,_,f_Q57,_,f_Q12,_,f_Q31,_,f_Q32,_,f_Q17,_,f_Q33,_,f_Q38,_,f_Q39,_,f_Q34,_,f_Q40,_,f_Q18,_,f_Q19,_,f_Q7,_,f_Q13,_,f_Q35,_,f_Q14,_,f_Q20,_,f_Q21,_,f_Q41,_,f_Q36,_,f_Q22,_,f_Q8,_,f_Q9,_,f_Q23,_,f_Q24,_,fa,_,f_NOUGHT,tkTURNS,cB,c_Q50,i_Q50,_,c_Q25,c_Q42,c_Q51,c_Q43,c_Q52,c_Q44,c_Q45,c_Q26,c_Q46⟩:={
  F_Q47:=h_copied.F,b_Q47:=h_copied.b1,m_Q47:=mg_of X G h_copied.p,
  F_Q0:=h_greatest_divisor.F,b_Q0:=h_greatest_divisor.b2,m_Q0:=mg_of X G h_greatest_divisor.p,
  F_Q53:=h_ratio.F,b_Q53:=h_ratio.b2,m_Q53:=mg_of X G h_ratio.p,
  F_Q58:=h_plus.F,b_Q58:=h_plus.b2,m_Q58:=mg_of X G h_plus.p,
  F_Q54:=h_minus.F,b_Q54:=h_minus.b2,m_Q54:=mg_of X G h_minus.p,
  F_Q55:=h_times.F,b_Q55:=h_times.b2,m_Q55:=mg_of X G h_times.p,
  F_Q59:=h_over.F,b_Q59:=h_over.b2,m_Q59:=mg_of X G h_over.p,
  F_Q37:=h_is_less.F,b_Q37:=h_is_less.b2,m_Q37:=mg_of X G h_is_less.p,
  F_Q48:=h_lesser.F,b_Q48:=h_lesser.b2,m_Q48:=mg_of X G h_lesser.p,
  F_Q56:=h_total.F,b_Q56:=h_total.b1,m_Q56:=mg_of X G h_total.p,
  F_Q10:=h_whole_parts.F,b_Q10:=h_whole_parts.b1,m_Q10:=mg_of X G h_whole_parts.p,
  F_Q15:=h_in_window.F,b_Q15:=h_in_window.b2,m_Q15:=mg_of X G h_in_window.p,
  F_Q11:=h_no_leanings.F,b_Q11:=h_no_leanings.b1,m_Q11:=mg_of X G h_no_leanings.p,
  F_Q27:=h_add_lean.F,b_Q27:=h_add_lean.b2,m_Q27:=mg_of X G h_add_lean.p,
  F_Q4:=h_all_leanings.F,b_Q4:=h_all_leanings.b2,m_Q4:=mg_of X G h_all_leanings.p,
  F_Q28:=h_drawn_in.F,b_Q28:=h_drawn_in.b1,m_Q28:=mg_of X G h_drawn_in.p,
  F_Q5:=h_kept_windows.F,b_Q5:=h_kept_windows.b2,m_Q5:=mg_of X G h_kept_windows.p,
  F_Q60:=h_held.F,b_Q60:=h_held.b3,m_Q60:=mg_of X G h_held.p,
  F_Q1:=h_tightest_places.F,b_Q1:=h_tightest_places.b3,m_Q1:=mg_of X G h_tightest_places.p,
  F_Q29:=h_tightest.F,b_Q29:=h_tightest.b2,m_Q29:=mg_of X G h_tightest.p,
  F_Q49:=h_layers.F,b_Q49:=h_layers.b1,m_Q49:=mg_of X G h_layers.p,
  F_Q2:=h_layer_density.F,b_Q2:=h_layer_density.b2,m_Q2:=mg_of X G h_layer_density.p,
  F_Q6:=h_layer_speeds.F,b_Q6:=h_layer_speeds.b1,m_Q6:=mg_of X G h_layer_speeds.p,
  F_Q3:=h_first_to_come.F,b_Q3:=h_first_to_come.b3,m_Q3:=mg_of X G h_first_to_come.p,
  F_Q30:=h_order_of.F,b_Q30:=h_order_of.b2,m_Q30:=mg_of X G h_order_of.p,
  F_Q16:=h_deal_turn.F,b_Q16:=h_deal_turn.b5,m_Q16:=mg_of X G h_deal_turn.p,
  F_Q57:=h_dealt.F,b_Q57:=h_dealt.b3,m_Q57:=mg_of X G h_dealt.p,
  F_Q12:=h_least_plan.F,b_Q12:=h_least_plan.b1,m_Q12:=mg_of X G h_least_plan.p,
  F_Q31:=h_law_tape.F,b_Q31:=h_law_tape.b1,m_Q31:=mg_of X G h_law_tape.p,
  F_Q32:=h_law_draw.F,b_Q32:=h_law_draw.b2,m_Q32:=mg_of X G h_law_draw.p,
  F_Q17:=h_law_alike.F,b_Q17:=h_law_alike.b2,m_Q17:=mg_of X G h_law_alike.p,
  F_Q33:=h_law_frac.F,b_Q33:=h_law_frac.b2,m_Q33:=mg_of X G h_law_frac.p,
  F_Q38:=h_law_add.F,b_Q38:=h_law_add.b2,m_Q38:=mg_of X G h_law_add.p,
  F_Q39:=h_law_mul.F,b_Q39:=h_law_mul.b2,m_Q39:=mg_of X G h_law_mul.p,
  F_Q34:=h_law_less.F,b_Q34:=h_law_less.b2,m_Q34:=mg_of X G h_law_less.p,
  F_Q40:=h_law_sum.F,b_Q40:=h_law_sum.b1,m_Q40:=mg_of X G h_law_sum.p,
  F_Q18:=h_law_works.F,b_Q18:=h_law_works.b2,m_Q18:=mg_of X G h_law_works.p,
  F_Q19:=h_law_units.F,b_Q19:=h_law_units.b1,m_Q19:=mg_of X G h_law_units.p,
  F_Q7:=h_law_tightest.F,b_Q7:=h_law_tightest.b2,m_Q7:=mg_of X G h_law_tightest.p,
  F_Q13:=h_law_layers.F,b_Q13:=h_law_layers.b1,m_Q13:=mg_of X G h_law_layers.p,
  F_Q35:=h_law_pace.F,b_Q35:=h_law_pace.b2,m_Q35:=mg_of X G h_law_pace.p,
  F_Q14:=h_law_speeds.F,b_Q14:=h_law_speeds.b1,m_Q14:=mg_of X G h_law_speeds.p,
  F_Q20:=h_law_above.F,b_Q20:=h_law_above.b2,m_Q20:=mg_of X G h_law_above.p,
  F_Q21:=h_law_leans.F,b_Q21:=h_law_leans.b2,m_Q21:=mg_of X G h_law_leans.p,
  F_Q41:=h_law_key.F,b_Q41:=h_law_key.b1,m_Q41:=mg_of X G h_law_key.p,
  F_Q36:=h_law_next.F,b_Q36:=h_law_next.b3,m_Q36:=mg_of X G h_law_next.p,
  F_Q22:=h_law_dealt.F,b_Q22:=h_law_dealt.b3,m_Q22:=mg_of X G h_law_dealt.p,
  F_Q8:=h_law_drawn_in.F,b_Q8:=h_law_drawn_in.b1,m_Q8:=mg_of X G h_law_drawn_in.p,
  F_Q9:=h_law_is_right.F,b_Q9:=h_law_is_right.b2,m_Q9:=mg_of X G h_law_is_right.p,
  F_Q23:=h_law_marks.F,b_Q23:=h_law_marks.b1,m_Q23:=mg_of X G h_law_marks.p,
  F_Q24:=h_law_tried.F,b_Q24:=h_law_tried.b1,m_Q24:=mg_of X G h_law_tried.p,
  F_Q61:=h_law.F,b_Q61:=h_law.b1,m_Q61:=mg_of X G h_law.p,
  m_NOUGHT:=mg_of X G p_NOUGHT,q_NOUGHT:=λH=>.inr ⟨_,_,_,l_NOUGHT,Z,Z,iY,(.cons ⟨_,Z⟩ (.cons ⟨_,Z⟩ .nil))⟩,
  m_TURNS:=mg_of X G p_TURNS,
  X_Q50:=GB lc_Q50 lB lnB hsB hnB fi_Q50 ti_Q50 kc_Q50 hh_Q50 sa_Q50,F_Q50:=F_Q50,b_Q50:=K6 F_Q50,m_Q50:=mg_of X G p_Q50,n_Q50_work:=na_Q50_work,g_Q50:=⟨ga_Q50,gn_Q50,cl_Q50,cgB,ctB⟩,
  m_Q25:=mg_of X G p_Q25,
  m_Q42:=mg_of X G p_Q42,
  m_Q51:=mg_of X G p_Q51,
  m_Q43:=mg_of X G p_Q43,
  m_Q52:=mg_of X G p_Q52,
  m_Q44:=mg_of X G p_Q44,
  m_Q45:=mg_of X G p_Q45,
  m_Q26:=mg_of X G p_Q26,
  m_Q46:=mg_of X G p_Q46,
  x_catch:=w_x_catch,
  y_self:=w_y_self,
  y_base:=w_y_base,
  y_val:=w_y_val,
  y_not:=w_y_not,
  z_ValueError:=mg_none_of X G z_ValueError,z_abs:=mg_none_of X G z_abs,z_all:=mg_none_of X G z_all,z_any:=mg_none_of X G z_any,z_bool:=mg_none_of X G z_bool,z_enumerate:=mg_none_of X G z_enumerate,z_int:=mg_none_of X G z_int,z_isinstance:=mg_none_of X G z_isinstance,z_len:=mg_none_of X G z_len,z_list:=mg_none_of X G z_list,z_max:=mg_none_of X G z_max,z_min:=mg_none_of X G z_min,z_range:=mg_none_of X G z_range,z_repr:=mg_none_of X G z_repr,z_sorted:=mg_none_of X G z_sorted,z_str:=mg_none_of X G z_str,z_sum:=mg_none_of X G z_sum,z_tuple:=mg_none_of X G z_tuple}
 exact⟨_,λs v=>.of_eq Z,λbase _ _=>EU T⟩
theorem walk{l:PySem.W.OpenLaw}{loose:List Mj}{XP:(Mj->Option Value)->MA->Prop}{YP:MD->MA->Prop}{d:DefRec}{K:Params->Fg}(hn:l.most=some 63)(hdf:d.params.defaults=[])
  (hY:∀(w:MD) (h:MA),YP w h->(K w.params).In h)
  (F:∀(w:MD) (mg:Mj->Option Value) (fa:Addr) (h:MA),(K w.params).In h->h.Ns Mf mg->mg d.name=some (.ref fa)→
   ∃fd:LS,(∀(s:LV) (u:Value),QH s fd ⟨[u],[]⟩ [("_law_script",u)])/\∀base:MA,(K w.params).In base->base.Ns Mf mg->bD l.prog w (K w.params) mg base dF 8 fa fd ["_law_script"] (pE (K w.params))):
  PySem.W.WalkO q loose XP YP l.row.toRowW d [] (λf vs=>PySem.call f vs):=
 L2.walk_of (n:=63) (k:=8) (x := "_law_script") (CX:=λ_=>dF) (sp:=λw=>pE (K w.params)) hn (by decide) hdf ⟨Z,by decide,by decide,Z⟩ hY F (λ_ _ a ns hl _ hS=>⟨a,ns,Z,hS,hl,λ_=>Z⟩) λ_ _ _ _ _ z=>z
end My
open PySem PySem.W PyProof.Rows
set_option maxRecDepth 100000 in
set_option maxHeartbeats 0 in
theorem PySem.Challenge.cw_paceplan_k34_least_plans_holds : PySem.Challenge.rw_paceplan_k34_least_plans.Holds := by
 w_on;refine HWtop ?_
 k_fill
 refine My.walk (l:=PySem.Challenge.rw_paceplan_k34_least_plans) rfl rfl (fun w h Y=>PySem.W.kIn_of Y) ?F
 case F=>
  intro w mg fa h KX G hmg
  refine' My.all_mk KX G hmg ?q0 ?q1 ?q2 ?q3 ?q4 ?q5 ?q6 ?q7 ?q8 ?q9 ?q10 ?q11 ?q12 ?q13 ?q14 ?q15 ?q16 ?q17 ?q18 ?q19 ?q20 ?q21 ?q22 ?q23 ?q24 ?q25 ?q26 ?q27 ?q28 ?q29 ?q30 ?q31 ?q32 ?q33 ?q34 ?q35 ?q36 ?q37 ?q38 ?q39 ?q40 ?q41 ?q42 ?q43 ?q44 ?q45 ?q46 ?q47 ?q48 ?q49 ?q50 ?q51 ?q52 ?q53 ?q54 ?q55 ?q56 ?q57 ?q58 ?q59 ?q60 ?q61 ?q62 ?q63 ?q64 ?q65 ?q66 ?q67 ?q68 ?q69 ?q70 ?q71 ?q72 ?q73 ?q74 ?q75 ?q76 ?q77 ?q78 ?q79 ?q80 ?q81 ?q82 ?q83 ?q84 ?q85 ?q86 ?q87 ?q88 ?q89 ?q90 ?q91 ?q92 ?q93 ?q94 ?q95 ?q96 ?q97 ?q98 ?q99 ?q100 ?q101 ?q102 ?q103 ?q104 ?q105 ?q106 ?q107
  (case q0|q1|q2|q3|q4|q5|q6|q7|q8|q9|q10|q11|q12|q13|q14|q15|q16|q17|q18|q19|q20|q21|q22|q23|q24|q25|q26|q27|q28|q29|q30|q31|q32|q33|q34|q35|q36|q37|q38|q39|q40|q41|q42|q43|q44|q45|q46|q47|q48|q49|q50|q51=>refine' B.isF ?a ?b ?c ?d;(case a=>k_is);(case b=>k_is);(case c=>k_is);(case d=>k_is))
  (case q52|q53|q54|q55|q56|q57=>k_is)
  (case q58|q59=>rfl)
  (case q60|q61|q62|q63|q64|q65|q66|q67|q68|q69|q70|q71|q72|q73|q74|q75|q76|q77|q78|q79|q80|q81|q82|q83|q84=>k_is)
  (case q85=>kts_exm)
  (case q86|q87|q88|q89=>kit_is)
  (case q90|q91|q92|q93|q94|q95|q96|q97|q98|q99|q100|q101|q102|q103|q104|q105|q106|q107=>k_is)
